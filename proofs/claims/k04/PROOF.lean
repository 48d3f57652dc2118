import PyProof.Rows.All
import Wide.All
import OpenK.AllK
import Wide.FinOn
import HandS.Base
import HandS.Call
import HandS.List
import HandS.Comp
import HandS.Ends
import HandS.Dict
import HandS.Iter
import HandS.Text
import HandS.Words
import HandS.WordsList
import HandS.WordsDict
import HandS.ForMost
import HandS.TupAny
import HandS.TupMul
import HandS.IsInst
import HandS.Wide
import HandS.Deep
import HandS.Flow
import HandS.SetKeys
import HandS.Style
import HandS.Conv
import HandS.SortKw
import HandS.Flt
import KE.DatumOrd
import KE.KStateDown
import HandS.StrMore
import HandS.Defaults
import HandS.DictComp
import HandS.TryOnly
import PyProof.ListStr
import HandS.More
import PyProof.DictUpdate
import HandS.DictEq
import HandS.CallLocal
import PyProof.StrOps2
import PyProof.EqAt
import PyProof.NeKinds
import PyProof.EqKinds
import PyProof.FactsAll.dict_1
import HandS.Strs
import HandS.SetFor
import HandS.Zip
import PyProof.StrWalks
import PyProof.Draws
import PyProof.EnumMake
import HandS.Set
import PyProof.Rows.SortShellAny
import PyProof.P3In
import HandS.TupLe
import KE.SortData
import KE.KDictKeyed
import KE.KDictSum
import KE.OsSort
import HandS.SortInts
import PyProof.StrLawsIn
import PySem.Challenge.RW_tonguehouse_k04_what_shows_no_cover
set_option Elab.async false
set_option linter.all false
set_option maxRecDepth 100000
namespace PD
open PySem PySem.Spec PyProof.Rows L2
abbrev D := PyData
structure Dk where
  cells : List Int
  k : Int
  rests : List Int
  /-- the one number of a list that goes from hand to hand beside the first draw's deck -/
  lft : Option Int
/-- the deck's place: the outer list, the rests (which change), the cells -/
structure DP where
  o : Addr
  r : Addr
  c : Addr
  x : List V
/-- what a def has for its own: a list, a dict -/
inductive Ow where
  | lst (ds : List D) | dic (es : List (D × D)) | dct (es : List (D × D)) | dcf (es : List (D × D))
/-- a slot that stays: the deck, or a def that was handed in -/
inductive Fx where
  | deck | fn (a : Addr) | left | man (md : Str × Str × Str × Str × Str) | ton (fd : PyData) (md : Str × Str × Str × Str × Str) | sm
inductive Sl where
  | no | val (d : D) | own (o : Ow) | fix (k : Fx)
abbrev Sl.deck : Sl := .fix .deck
abbrev Sl.left : Sl := .fix .left
abbrev Sl.fn (a : Addr) : Sl := .fix (.fn a)
abbrev Sl.uni (ds : List D) : Sl := .own (.lst ds)
abbrev Sl.dic (es : List (D × D)) : Sl := .own (.dic es)
theorem Sl.uni.injEq (a b : List D) : (Sl.uni a = Sl.uni b) = (a = b) := by simp
def keyD : Key → D
  | .inl i => .int i
  | .inr x => .str x
/-- a list, a tuple of the written part -/
def KT (K : PySem.W.Frag) (a : Addr) (xs : List V) : Prop :=
  ∃ (o : Obj) (its : Array Value) (n : Nat), K.lookup a = some o ∧ o.cls = .type "tuple" ∧ o.data = .seq its n ∧ its.size ≤ sizeLine ∧ Vals xs its.toList
def AL (K : PySem.W.Frag) (M : Addr → Prop) (H : Hp) (a : Addr) (xs : List V) : Prop := ¬ M a ∧ H a = some (.lst xs)
/-- a manner: three texts and a tuple, its object known -/
def ManS (xs : List V) : Prop := ∃ g p d b, xs = [.str g, .str p, .str d, .ref b]
/-- the first item is an object -/
def hdRef : List V → Bool
  | .ref _ :: _ => true
  | _ => false
/-- a new tuple: where its first item is an object its own object is known -/
def tupH (o : Obj) (xs : List V) : HO := if hdRef xs = true then .frz o (.tup xs) else .tup xs
inductive AT (K : PySem.W.Frag) (M : Addr → Prop) (H : Hp) (a : Addr) (xs : List V) : Prop
  | inl (h : ¬ M a ∧ H a = some (.tup xs)) (nr : hdRef xs = false)
  | inr (h : KT K a xs) (nr : hdRef xs = false)
  | man (n : ¬ M a) (o : Obj) (h : H a = some (.frz o (.tup xs))) (s : ManS xs)
  | pl (n : ¬ M a) (o : Obj) (h : H a = some (.frz o (.tup xs))) (hd : o.dict = none) (hr : hdRef xs = true)
theorem AT.new {K M H a xs} {o : Obj} (n : ¬ M a) (h : H a = some (tupH o xs)) (hd : o.dict = none) : AT K M H a xs := by
  unfold tupH at h
  by_cases hr : hdRef xs = true
  · rw [if_pos hr] at h; exact .pl n o h hd hr
  · rw [if_neg hr] at h; exact .inl ⟨n, h⟩ (by simpa using hr)
theorem tupH_ok {P : Program} {w : World} {H : Hp} {h : Heap} {a : Addr} {xs : List V} {its : List Value} {n : Nat} (hz : xs.length ≤ sizeLine) (r : Vals xs its) (e : h.get? a = some { cls := .type "tuple", data := .seq its.toArray n }) :
    ObjOk P w H h a (tupH { cls := .type "tuple", data := .seq its.toArray n } xs) := by
  have k : ObjOk P w H h a (.tup xs) := ⟨hz, its, r, _, e, rfl, _, rfl⟩
  unfold tupH
  split
  · exact ⟨e, k⟩
  · exact k
theorem AL.sq {K M H a xs} (h : AL K M H a xs) : SqL K H a xs := .inl (.inl h.2)
theorem AT.sq {K M H a xs} (h : AT K M H a xs) : SqT K H a xs := match h with
  | .inl h _ => .inl (.inl h.2)
  | .inr h _ => .inr h
  | .man _ o h _ => .inl (.inr ⟨o, h⟩)
  | .pl _ o h _ _ => .inl (.inr ⟨o, h⟩)
mutual
inductive Rep (K : PySem.W.Frag) (M : Addr → Prop) (H : Hp) : V → D → Prop
  | non : Rep K M H .non .none
  | bl (b : Bool) : Rep K M H (.bl b) (.bool b)
  | int (i : Int) : Rep K M H (.int i) (.int i)
  | str (x : Str) : Rep K M H (.str x) (.str x)
  | lst {a : Addr} {xs : List V} {ds : List D} : AL K M H a xs → Reps K M H xs ds → Rep K M H (.ref a) (.list ds)
  | tup {a : Addr} {xs : List V} {ds : List D} : AT K M H a xs → Reps K M H xs ds → Rep K M H (.ref a) (.tuple ds)
  | dic {a : Addr} {kvs : List (Key × V)} {es : List (D × D)} : ¬ M a → Rd H a (.dK kvs) → RepK K M H kvs es → Rep K M H (.ref a) (.dict es)
inductive Reps (K : PySem.W.Frag) (M : Addr → Prop) (H : Hp) : List V → List D → Prop
  | nil : Reps K M H [] []
  | cons {v : V} {vs : List V} {d : D} {ds : List D} : Rep K M H v d → Reps K M H vs ds → Reps K M H (v :: vs) (d :: ds)
inductive RepK (K : PySem.W.Frag) (M : Addr → Prop) (H : Hp) : List (Key × V) → List (D × D) → Prop
  | nil : RepK K M H [] []
  | cons {k : Key} {v : V} {kvs : List (Key × V)} {e : D} {es : List (D × D)} : Rep K M H v e → RepK K M H kvs es → RepK K M H ((k, v) :: kvs) ((keyD k, e) :: es)
end
/-- from (M, H) to (M', H'): what is not in M stays, and is not in M' -/
def Mv (M : Addr → Prop) (H : Hp) (M' : Addr → Prop) (H' : Hp) : Prop := ∀ a o, H a = some o → ¬ M a → H' a = some o ∧ ¬ M' a
theorem Mv.refl (M H) : Mv M H M H := fun _ _ h n => ⟨h, n⟩
theorem Mv.trans {M H M1 H1 M2 H2} (h : Mv M H M1 H1) (g : Mv M1 H1 M2 H2) : Mv M H M2 H2 := fun a o e n => g a o (h a o e n).1 (h a o e n).2
theorem Mv.same {M H H'} (h : ∀ a o, H a = some o → H' a = some o) : Mv M H M H' := fun a o e n => ⟨h a o e, n⟩
theorem Mv.rd {M H M' H' a u} (h : Mv M H M' H') (n : ¬ M a) (r : Rd H a u) : ¬ M' a ∧ Rd H' a u := by
  rcases r with r | ⟨o, r⟩
  · exact ⟨(h a _ r n).2, .inl (h a _ r n).1⟩
  · exact ⟨(h a _ r n).2, .inr ⟨o, (h a _ r n).1⟩⟩
theorem AL.mv {K M H M' H' a xs} (h : Mv M H M' H') (x : AL K M H a xs) : AL K M' H' a xs := ⟨(h _ _ x.2 x.1).2, (h _ _ x.2 x.1).1⟩
theorem AT.mv {K M H M' H' a xs} (h : Mv M H M' H') (x : AT K M H a xs) : AT K M' H' a xs := match x with
  | .inl x z => .inl ⟨(h a _ x.2 x.1).2, (h a _ x.2 x.1).1⟩ z
  | .inr x z => .inr x z
  | .man n o x s => .man (h a _ x n).2 o (h a _ x n).1 s
  | .pl n o x d z => .pl (h a _ x n).2 o (h a _ x n).1 d z
mutual
theorem Rep.mv {K M H M' H'} (h : Mv M H M' H') : ∀ {v d}, Rep K M H v d → Rep K M' H' v d
  | _, _, .non => .non
  | _, _, .bl b => .bl b
  | _, _, .int i => .int i
  | _, _, .str x => .str x
  | _, _, .lst a r => .lst (a.mv h) (Reps.mv h r)
  | _, _, .tup a r => .tup (a.mv h) (Reps.mv h r)
  | _, _, .dic n e r => .dic (h.rd n e).1 (h.rd n e).2 (RepK.mv h r)
theorem Reps.mv {K M H M' H'} (h : Mv M H M' H') : ∀ {vs ds}, Reps K M H vs ds → Reps K M' H' vs ds
  | _, _, .nil => .nil
  | _, _, .cons r t => .cons (Rep.mv h r) (Reps.mv h t)
theorem RepK.mv {K M H M' H'} (h : Mv M H M' H') : ∀ {vs ds}, RepK K M H vs ds → RepK K M' H' vs ds
  | _, _, .nil => .nil
  | _, _, .cons r t => .cons (Rep.mv h r) (RepK.mv h t)
end
theorem Reps.length {K M H} : ∀ {vs ds}, Reps K M H vs ds → vs.length = ds.length
  | _, _, .nil => rfl
  | _, _, .cons _ t => by simp only [List.length_cons, Reps.length t]
theorem Reps.get {K M H} : ∀ {vs ds} {i : Nat} {v}, Reps K M H vs ds → vs[i]? = some v → ∃ d, ds[i]? = some d ∧ Rep K M H v d
  | _, _, _, _, .nil, e => by simp at e
  | _, _, 0, _, .cons r _, e => by simp at e; subst e; exact ⟨_, rfl, r⟩
  | _, _, i + 1, v, .cons _ t, e => by simpa using Reps.get (i := i) (v := v) t (by simpa using e)
theorem Reps.get' {K M H} : ∀ {vs ds} {i : Nat} {d}, Reps K M H vs ds → ds[i]? = some d → ∃ v, vs[i]? = some v ∧ Rep K M H v d
  | _, _, _, _, .nil, e => by simp at e
  | _, _, 0, _, .cons r _, e => by simp at e; subst e; exact ⟨_, rfl, r⟩
  | _, _, i + 1, v, .cons _ t, e => by simpa using Reps.get' (i := i) (d := v) t (by simpa using e)
theorem Reps.append {K M H} : ∀ {vs ds ws es}, Reps K M H vs ds → Reps K M H ws es → Reps K M H (vs ++ ws) (ds ++ es)
  | _, _, _, _, .nil, s => s
  | _, _, _, _, .cons r t, s => .cons r (Reps.append t s)
theorem Reps.take {K M H} : ∀ {vs ds} (n : Nat), Reps K M H vs ds → Reps K M H (vs.take n) (ds.take n)
  | _, _, 0, _ => .nil
  | _, _, _ + 1, .nil => .nil
  | _, _, n + 1, .cons r t => .cons r (Reps.take n t)
theorem Reps.drop {K M H} : ∀ {vs ds} (n : Nat), Reps K M H vs ds → Reps K M H (vs.drop n) (ds.drop n)
  | _, _, 0, r => r
  | _, _, _ + 1, .nil => .nil
  | _, _, n + 1, .cons _ t => Reps.drop n t
theorem Reps.ints {K M H} : ∀ ns : List Int, Reps K M H (ns.map V.int) (ns.map PyData.int)
  | [] => .nil
  | n :: r => .cons (.int n) (Reps.ints r)
/-- entries whose keys are tuples of numbers and texts -/
inductive RepT (K : PySem.W.Frag) (M : Addr → Prop) (H : Hp) : List (List Key × V) → List (D × D) → Prop
  | nil : RepT K M H [] []
  | cons {k : List Key} {v : V} {kvs : List (List Key × V)} {e : D} {es : List (D × D)} : Rep K M H v e → RepT K M H kvs es → RepT K M H ((k, v) :: kvs) ((.tuple (k.map keyD), e) :: es)
theorem RepT.mv {K M H M' H'} (h : Mv M H M' H') : ∀ {vs ds}, RepT K M H vs ds → RepT K M' H' vs ds
  | _, _, .nil => .nil
  | _, _, .cons r t => .cons (r.mv h) (RepT.mv h t)
inductive OwR (K : PySem.W.Frag) (M : Addr → Prop) (H : Hp) : HO → Ow → Prop
  | lst {xs : List V} {ds : List D} : Reps K M H xs ds → OwR K M H (.lst xs) (.lst ds)
  | dic {kvs : List (Key × V)} {es : List (D × D)} : RepK K M H kvs es → OwR K M H (.dK kvs) (.dic es)
  | dct {kvs : List (List Key × V)} {es : List (D × D)} : RepT K M H kvs es → OwR K M H (.dT kvs) (.dct es)
  /-- one that is walked: it stays -/
  | dcf {o : Obj} {kvs : List (List Key × V)} {es : List (D × D)} : RepT K M H kvs es → OwR K M H (.frz o (.dT kvs)) (.dcf es)
theorem OwR.mv {K M H M' H'} (h : Mv M H M' H') : ∀ {o w}, OwR K M H o w → OwR K M' H' o w
  | _, _, .lst r => .lst (r.mv h)
  | _, _, .dic r => .dic (r.mv h)
  | _, _, .dct r => .dct (r.mv h)
  | _, _, .dcf r => .dcf (r.mv h)
/-- what may change is there, and is no tuple -/
def mtO : Option HO → Prop
  | none => False
  | some (.tup _) => False
  | some _ => True
theorem mtO.ne {H : Hp} {a : Addr} (h : mtO (H a)) : H a ≠ none := fun z => by rw [z] at h; exact h
theorem mtO.keep {H H' : Hp} {a : Addr} (h : mtO (H a)) (k : ∀ o, H a = some o → H' a = some o) : mtO (H' a) := by
  cases e : H a with
  | none => exact absurd e h.ne
  | some o => rw [k o e, ← e]; exact h
theorem mtO.tup {H : Hp} {a : Addr} {xs : List V} (h : mtO (H a)) : H a ≠ some (.tup xs) := fun z => by rw [z] at h; exact h
theorem OwR.mt {K M H o w} (r : OwR K M H o w) : mtO (some o) := by cases r <;> trivial
/-- a frame: what the callers may change (M0), the deck's two addresses, the heap at its entry -/
structure Fr where
  M0 : Addr → Prop
  dk : Option DP
  H0 : Hp
  /-- so many tokens are out -/
  n : Nat
def Mm (F : Fr) (σ : L2.St) (ρ : List Sl) : Addr → Prop := fun a => F.M0 a ∨ ∃ (i : Nat) (w : Ow), ρ[i]? = some (.own w) ∧ σ[i]? = some (some (.ref a))
/-- the number in the fourth cell of the second draw's deck, where it has four -/
def dkLf (l : Option Int) : List V := match l with
  | some n => [.int n]
  | none => []
/-- the first draw's deck has two cells and no rests, the second draw's has three, or four -/
def dkTl (δ : Dk) (p : DP) : List V := if δ.rests = [] then [] else .ref p.2 :: dkLf δ.lft
/-- what the second address of the first draw's deck holds: nothing that is looked at, or the number that goes from hand to hand -/
def lx (l : Option Int) (p : DP) : List V := match l with
  | some n => [.int n]
  | none => p.x
def dkTwo (δ : Dk) (p : DP) : List V := if δ.rests = [] then lx δ.lft p else δ.rests.map V.int
structure DeckAt (H : Hp) (p : DP) (δ : Dk) : Prop where
  ne : p.1 ≠ p.2
  ne2 : p.1 ≠ p.3
  ne3 : p.2 ≠ p.3
  one : H p.1 = some (.lst (.ref p.3 :: .int δ.k :: dkTl δ p))
  two : H p.2 = some (.lst (dkTwo δ p))
  tri : H p.3 = some (.lst (δ.cells.map V.int))
structure DeckN (H : Hp) (p : DP) (δ : Dk) : Prop where
  ne : p.1 ≠ p.2
  ne2 : p.1 ≠ p.3
  ne3 : p.2 ≠ p.3
  one : H p.1 = some (.lst [.ref p.3, .int δ.k, .ref p.2])
  two : H p.2 = some (.lst (δ.rests.map V.int))
  tri : H p.3 = some (.lst (δ.cells.map V.int))
structure DeckO (H : Hp) (p : DP) (δ : Dk) : Prop where
  ne : p.1 ≠ p.2
  ne2 : p.1 ≠ p.3
  ne3 : p.2 ≠ p.3
  one : H p.1 = some (.lst [.ref p.3, .int δ.k])
  two : H p.2 = some (.lst (lx δ.lft p))
  tri : H p.3 = some (.lst (δ.cells.map V.int))
theorem DeckAt.new {H p δ} (h : DeckAt H p δ) (n : δ.rests ≠ []) (l : δ.lft = none) : DeckN H p δ := ⟨h.ne, h.ne2, h.ne3, by rw [h.one, dkTl, if_neg n, l]; rfl, by rw [h.two, dkTwo, if_neg n], h.tri⟩
theorem DeckAt.old {H p δ} (h : DeckAt H p δ) (n : δ.rests = []) : DeckO H p δ := ⟨h.ne, h.ne2, h.ne3, by rw [h.one, dkTl, if_pos n], by rw [h.two, dkTwo, if_pos n], h.tri⟩
theorem DeckO.at {H p δ} (h : DeckO H p δ) (n : δ.rests = []) : DeckAt H p δ := ⟨h.ne, h.ne2, h.ne3, by rw [h.one, dkTl, if_pos n], by rw [h.two, dkTwo, if_pos n], h.tri⟩
/-- what never changes: tuples; and the mark at the address of sys.modules -/
def IsT (u : HO) : Prop := (∃ xs, u = .tup xs) ∨ (∃ o xs, u = .frz o (.tup xs)) ∨ ∃ o, u = .frz o (.own 0)
theorem tupH_is {o : Obj} {xs : List V} : IsT (tupH o xs) := by
  unfold tupH
  split
  · exact .inr (.inl ⟨_, _, rfl⟩)
  · exact .inl ⟨_, rfl⟩
theorem AT.mo {K M H M' H' a xs} (h : ∀ a u, IsT u → H a = some u → ¬ M a → H' a = some u ∧ ¬ M' a) (x : AT K M H a xs) : AT K M' H' a xs := match x with
  | .inl x z => .inl ⟨(h a _ (.inl ⟨_, rfl⟩) x.2 x.1).2, (h a _ (.inl ⟨_, rfl⟩) x.2 x.1).1⟩ z
  | .inr x z => .inr x z
  | .man n o x s => .man (h a _ (.inr (.inl ⟨_, _, rfl⟩)) x n).2 o (h a _ (.inr (.inl ⟨_, _, rfl⟩)) x n).1 s
  | .pl n o x d z => .pl (h a _ (.inr (.inl ⟨_, _, rfl⟩)) x n).2 o (h a _ (.inr (.inl ⟨_, _, rfl⟩)) x n).1 d z
mutual
/-- no list, no dict -/
def tpl : D → Bool
  | .list _ => false
  | .dict _ => false
  | .tuple ds => tpls ds
  | _ => true
def tpls : List D → Bool
  | [] => true
  | d :: ds => tpl d && tpls ds
end
mutual
theorem Rep.moT {K M H M' H'} (h : ∀ a u, IsT u → H a = some u → ¬ M a → H' a = some u ∧ ¬ M' a) : ∀ {v d}, tpl d = true → Rep K M H v d → Rep K M' H' v d
  | _, _, _, .non => .non
  | _, _, _, .bl b => .bl b
  | _, _, _, .int i => .int i
  | _, _, _, .str x => .str x
  | _, _, e, .lst _ _ => by simp [tpl] at e
  | _, _, e, .tup a r => .tup (a.mo h) (Reps.moT h (by simpa [tpl] using e) r)
  | _, _, e, .dic _ _ _ => by simp [tpl] at e
theorem Reps.moT {K M H M' H'} (h : ∀ a u, IsT u → H a = some u → ¬ M a → H' a = some u ∧ ¬ M' a) : ∀ {vs ds}, tpls ds = true → Reps K M H vs ds → Reps K M' H' vs ds
  | _, _, _, .nil => .nil
  | _, _, e, .cons r t => by
    simp only [tpls, Bool.and_eq_true] at e
    exact .cons (Rep.moT h e.1 r) (Reps.moT h e.2 t)
end
abbrev Md := Str × Str × Str × Str × Str
/-- the manner at a, n tokens out -/
def ManH (K : PySem.W.Frag) (M : Addr → Prop) (H : Hp) (a : Addr) (md : Md) (n : Nat) : Prop := ∃ (b : Addr) (o : Obj) (tg tp td : Tok) (nn : Nat), ¬ M a ∧ AT K M H b [.str md.2.2.2.1, .str md.2.2.2.2] ∧ H a = some (.frz o (.tup [.str md.1, .str md.2.1, .str md.2.2.1, .ref b])) ∧
  o.data = .seq #[.str md.1 tg, .str md.2.1 tp, .str md.2.2.1 td, .ref b] nn ∧ tg ≠ 0 ∧ tg < n
/-- the tongue at a: forms and a manner -/
def TonH (K : PySem.W.Frag) (M : Addr → Prop) (H : Hp) (a : Addr) (fd : D) (md : Md) (n : Nat) : Prop := ∃ (b : Addr) (v : V) (o : Obj), ¬ M a ∧ H a = some (tupH o [v, .ref b]) ∧ o.dict = none ∧ tpl fd = true ∧ Rep K M H v fd ∧ ManH K M H b md n
theorem ManH.mo {K : PySem.W.Frag} {M M' : Addr → Prop} {H H' : Hp} {a : Addr} {md : Md} {n n' : Nat} (h : ManH K M H a md n) (k : ∀ a u, IsT u → H a = some u → ¬ M a → H' a = some u ∧ ¬ M' a) (hn : n ≤ n') : ManH K M' H' a md n' := by
  obtain ⟨b, o, tg, tp, td, nn, na, h2, h1, h3, h4, h5⟩ := h
  exact ⟨b, o, tg, tp, td, nn, (k _ _ (.inr (.inl ⟨_, _, rfl⟩)) h1 na).2, h2.mo k, (k _ _ (.inr (.inl ⟨_, _, rfl⟩)) h1 na).1, h3, h4, Nat.lt_of_lt_of_le h5 hn⟩
theorem TonH.mo {K : PySem.W.Frag} {M M' : Addr → Prop} {H H' : Hp} {a : Addr} {fd : D} {md : Md} {n n' : Nat} (h : TonH K M H a fd md n) (k : ∀ a u, IsT u → H a = some u → ¬ M a → H' a = some u ∧ ¬ M' a) (hn : n ≤ n') : TonH K M' H' a fd md n' := by
  obtain ⟨b, v, o, na, h1, hd, h2, h3, h4⟩ := h
  obtain ⟨k1, k2⟩ := k a _ tupH_is h1 na
  exact ⟨b, v, o, k2, k1, hd, h2, h3.moT k h2, h4.mo k hn⟩
def FxR (K : PySem.W.Frag) (F : Fr) (k : Fx) (v : Option (Option V)) : Prop := match k with
  | .deck => ∃ p, F.dk = some p ∧ v = some (some (.ref p.1))
  | .fn a => v = some (some (.ref a))
  | .left => ∃ p, F.dk = some p ∧ v = some (some (.ref p.2))
  | .man md => ∃ a, v = some (some (.ref a)) ∧ ManH K F.M0 F.H0 a md F.n
  | .ton fd md => ∃ a, v = some (some (.ref a)) ∧ TonH K F.M0 F.H0 a fd md F.n
  | .sm => ¬ F.M0 sysModules ∧ ∃ o, F.H0 sysModules = some (.frz o (.own 0))
theorem FxR.mo {K} {F F' : Fr} {k v} (x : FxR K F k v) (hd : F'.dk = F.dk) (h : ∀ a u, IsT u → F.H0 a = some u → ¬ F.M0 a → F'.H0 a = some u ∧ ¬ F'.M0 a) (hn : F.n ≤ F'.n) : FxR K F' k v := by
  cases k with
  | deck => obtain ⟨p, e, q⟩ := x; exact ⟨p, hd.trans e, q⟩
  | fn a => exact x
  | left => obtain ⟨p, e, q⟩ := x; exact ⟨p, hd.trans e, q⟩
  | man md => obtain ⟨a, e, q⟩ := x; exact ⟨a, e, q.mo h hn⟩
  | ton fd md => obtain ⟨a, e, q⟩ := x; exact ⟨a, e, q.mo h hn⟩
  | sm => obtain ⟨n, o, e⟩ := x; exact ⟨(h _ _ (.inr (.inr ⟨o, rfl⟩)) e n).2, o, (h _ _ (.inr (.inr ⟨o, rfl⟩)) e n).1⟩
/-- what is a def's own was not there at its entry; but a dict that is walked may stand in the frame -/
def Fre (F : Fr) (a : Addr) (w : Ow) : Prop := F.H0 a = none ∨ ∃ es, w = .dcf es
theorem Fre.mo {F F' : Fr} {a w} (h : Fre F a w) (k : F.H0 a = none → F'.H0 a = none) : Fre F' a w := h.imp k id
structure Good (K : PySem.W.Frag) (F : Fr) (σ : L2.St) (H : Hp) (ρ : List Sl) (δ : Dk) : Prop where
  len : σ.length = ρ.length
  val : ∀ (i : Nat) d, ρ[i]? = some (.val d) → ∃ v, σ[i]? = some (some v) ∧ Rep K (Mm F σ ρ) H v d
  own : ∀ (i : Nat) w, ρ[i]? = some (.own w) → ∃ a o, σ[i]? = some (some (.ref a)) ∧ H a = some o ∧ OwR K (Mm F σ ρ) H o w ∧ ¬ F.M0 a ∧ Fre F a w
  inj : ∀ (i j : Nat) ds es a, ρ[i]? = some (.own ds) → ρ[j]? = some (.own es) → σ[i]? = some (some (.ref a)) → σ[j]? = some (some (.ref a)) → i = j
  m0 : ∀ a, F.M0 a → mtO (H a)
  dsl : ∀ {k : Fx} (i : Nat), ρ[i]? = some (.fix k) → FxR K F k σ[i]?
  dck : ∀ p, F.dk = some p → F.M0 p.1 ∧ F.M0 p.2 ∧ F.M0 p.3 ∧ DeckAt H p δ
  fr : ∀ a o, F.H0 a = some o → (∀ p, F.dk = some p → a ≠ p.1 ∧ a ≠ p.2 ∧ a ≠ p.3) → H a = some o
theorem Good.frT {K F σ H ρ δ a u} (G : Good K F σ H ρ δ) (e : F.H0 a = some u) (n : ¬ F.M0 a) : H a = some u := G.fr a u e fun p hp => by
  obtain ⟨d1, d2, d3, _⟩ := G.dck p hp
  exact ⟨fun z => n (by rw [z]; exact d1), fun z => n (by rw [z]; exact d2), fun z => n (by rw [z]; exact d3)⟩
theorem Good.uni {K F σ H ρ δ} (G : Good K F σ H ρ δ) (i : Nat) (ds : List D) (h : ρ[i]? = some (.uni ds)) : ∃ a xs, σ[i]? = some (some (.ref a)) ∧ H a = some (.lst xs) ∧ Reps K (Mm F σ ρ) H xs ds ∧ ¬ F.M0 a ∧ F.H0 a = none := by
  obtain ⟨a, o, e1, e2, r, n⟩ := G.own i _ h
  cases r with
  | lst r => exact ⟨a, _, e1, e2, r, n.1, n.2.resolve_right fun z => by obtain ⟨es, z⟩ := z; cases z⟩
theorem Good.dic {K F σ H ρ δ} (G : Good K F σ H ρ δ) (i : Nat) (es : List (D × D)) (h : ρ[i]? = some (.dic es)) : ∃ a kvs, σ[i]? = some (some (.ref a)) ∧ H a = some (.dK kvs) ∧ RepK K (Mm F σ ρ) H kvs es ∧ ¬ F.M0 a ∧ F.H0 a = none := by
  obtain ⟨a, o, e1, e2, r, n⟩ := G.own i _ h
  cases r with
  | dic r => exact ⟨a, _, e1, e2, r, n.1, n.2.resolve_right fun z => by obtain ⟨es, z⟩ := z; cases z⟩
theorem Good.dct {K F σ H ρ δ} (G : Good K F σ H ρ δ) (i : Nat) (es : List (D × D)) (h : ρ[i]? = some (.own (.dct es))) : ∃ a kvs, σ[i]? = some (some (.ref a)) ∧ H a = some (.dT kvs) ∧ RepT K (Mm F σ ρ) H kvs es ∧ ¬ F.M0 a ∧ F.H0 a = none := by
  obtain ⟨a, o, e1, e2, r, n⟩ := G.own i _ h
  cases r with
  | dct r => exact ⟨a, _, e1, e2, r, n.1, n.2.resolve_right fun z => by obtain ⟨es, z⟩ := z; cases z⟩
theorem Good.dcf {K F σ H ρ δ} (G : Good K F σ H ρ δ) (i : Nat) (es : List (D × D)) (h : ρ[i]? = some (.own (.dcf es))) : ∃ a o kvs, σ[i]? = some (some (.ref a)) ∧ H a = some (.frz o (.dT kvs)) ∧ RepT K (Mm F σ ρ) H kvs es ∧ ¬ F.M0 a := by
  obtain ⟨a, o, e1, e2, r, n⟩ := G.own i _ h
  cases r with
  | dcf r => exact ⟨a, _, _, e1, e2, r, n.1⟩
theorem upd_keeps {H : Hp} {p : Addr} {o : HO} (h : H p = none) : ∀ a u, H a = some u → upd H p o a = some u := fun a u e => by
  rw [upd_ne (ne_of_none e h)]; exact e
theorem Good.keep {K F σ H H' ρ δ} (G : Good K F σ H ρ δ) (h : ∀ a o, H a = some o → H' a = some o) : Good K F σ H' ρ δ where
  len := G.len
  val := fun i d e => by
    obtain ⟨v, e1, r⟩ := G.val i d e
    exact ⟨v, e1, r.mv (Mv.same h)⟩
  own := fun i ds e => by
    obtain ⟨a, xs, e1, e2, r, n⟩ := G.own i ds e
    exact ⟨a, xs, e1, h _ _ e2, r.mv (Mv.same h), n⟩
  inj := G.inj
  m0 := fun a ha => (G.m0 a ha).keep (h a)
  dsl := G.dsl
  dck := fun p e => by
    obtain ⟨a, b, b3, c⟩ := G.dck p e
    exact ⟨a, b, b3, c.ne, c.ne2, c.ne3, h _ _ c.one, h _ _ c.two, h _ _ c.tri⟩
  fr := fun a o e n => h _ _ (G.fr a o e n)
theorem Good.new {K F σ H ρ δ p o} (G : Good K F σ H ρ δ) (h : H p = none) : Good K F σ (upd H p o) ρ δ := G.keep (upd_keeps h)
theorem Good.mfree {K F σ H ρ δ p} (G : Good K F σ H ρ δ) (h : H p = none) : ¬ Mm F σ ρ p := by
  rintro (m | ⟨i, ds, e1, e2⟩)
  · exact (G.m0 p m).ne h
  · obtain ⟨a, xs, e3, e4, _⟩ := G.own i ds e1
    rw [e2] at e3
    cases e3
    rw [h] at e4
    cases e4
abbrev ME := List Sl → Dk → Option (D × Dk)
abbrev MT := List Sl → Dk → Option (Bool × Dk)
abbrev MA := List Sl → Dk → Option (List D × Dk)
def Snd (K : PySem.W.Frag) (t : TE) (m : ME) : Prop := ∀ F σ H ρ δ d δ', Good K F σ H ρ δ → m ρ δ = some (d, δ') → ∀ Q : VK,
  (∀ v H', Good K F σ H' ρ δ' → Mv (Mm F σ ρ) H (Mm F σ ρ) H' → Rep K (Mm F σ ρ) H' v d → Q v H') → t σ H Q
def SndT (K : PySem.W.Frag) (t : TT) (m : MT) : Prop := ∀ F σ H ρ δ d δ', Good K F σ H ρ δ → m ρ δ = some (d, δ') → ∀ Q : Bool → Hp → Prop,
  (∀ H', Good K F σ H' ρ δ' → Mv (Mm F σ ρ) H (Mm F σ ρ) H' → Q d H') → t σ H Q
def SndA (K : PySem.W.Frag) (t : TA) (m : MA) : Prop := ∀ F σ H ρ δ d δ', Good K F σ H ρ δ → m ρ δ = some (d, δ') → ∀ Q : List V → Hp → Prop,
  (∀ v H', Good K F σ H' ρ δ' → Mv (Mm F σ ρ) H (Mm F σ ρ) H' → Reps K (Mm F σ ρ) H' v d → Q v H') → t σ H Q
structure PD (X : Cx) (e : Expr) (m : ME) : Prop where
  ex : ∃ t, PE X e t ∧ Snd X.K t m
structure PDT (X : Cx) (e : Expr) (m : MT) : Prop where
  ex : ∃ t, PT X e t ∧ SndT X.K t m
structure PDA (X : Cx) (es : List Expr) (m : MA) : Prop where
  ex : ∃ t, PA X es t ∧ SndA X.K t m
def mVar (i : Nat) : ME := fun ρ δ => match ρ[i]? with
  | some (.val d) => some (d, δ)
  | _ => none
def mC (d : D) : ME := fun _ δ => some (d, δ)
theorem snd_c {K v d} (h : ∀ M H, Rep K M H v d) : Snd K (tC v) (mC d) := fun F σ H ρ δ d' δ' G e Q q => by
  cases e
  exact q v H G (Mv.refl _ _) (h _ _)
theorem snd_var {K i} : Snd K (tVar i) (mVar i) := fun F σ H ρ δ d' δ' G e Q q => by
  unfold mVar at e
  split at e
  · rename_i d h
    cases e
    obtain ⟨v, e1, r⟩ := G.val i _ h
    exact ⟨v, e1, q v H G (Mv.refl _ _) r⟩
  · cases e
section
variable {X : Cx}
theorem pd_int {i j pos} : PD X (.Constant (.int i) j pos) (mC (.int i)) := ⟨_, pe_int, snd_c fun _ _ => .int i⟩
theorem pd_bl {i j pos} : PD X (.Constant (.bool i) j pos) (mC (.bool i)) := ⟨_, pe_bl, snd_c fun _ _ => .bl i⟩
theorem pd_non {j pos} : PD X (.Constant .none j pos) (mC .none) := ⟨_, pe_non, snd_c fun _ _ => .non⟩
theorem pd_str {i j pos} : PD X (.Constant (.str i) j pos) (mC (.str i)) := ⟨_, pe_str, snd_c fun _ _ => .str i⟩
theorem pd_var (i : Nat) {x : Str} {pos : Pos} (hN : X.N[i]? = some x := by rfl) (hv : Vis X.env.scope x := by first | exact Or.inl rfl | exact Or.inr (Or.inl rfl) | exact Or.inr (Or.inr rfl)) (hd : (x == ("__debug__" : Str)) = false := by decide)
    (hcd : (x == ("__classdict__" : Str)) = false := by decide) : PD X (.Name x pos) (mVar i) := ⟨_, pe_var hN hv hd hcd, snd_var⟩
end
def OpS (K : PySem.W.Frag) (r : R2) (f : D → D → Option D) : Prop := ∀ F σ H ρ δ x y d e z, Good K F σ H ρ δ → Rep K (Mm F σ ρ) H x d → Rep K (Mm F σ ρ) H y e → f d e = some z → ∀ Q : VK,
  (∀ v H', (∀ a o, H a = some o → H' a = some o) → Rep K (Mm F σ ρ) H' v z → Q v H') → r x y H Q
def mBin (f : D → D → Option D) (a b : ME) : ME := fun ρ δ => (a ρ δ).bind fun p => (b ρ p.2).bind fun q => (f p.1 q.1).map fun z => (z, q.2)
theorem snd_bin {K r f ta tb a b} (o : OpS K r f) (ha : Snd K ta a) (hb : Snd K tb b) : Snd K (tOp r ta tb) (mBin f a b) := fun F σ H ρ δ d δ' G e Q q => by
  unfold mBin at e
  obtain ⟨⟨x, δ1⟩, e1, e⟩ := Option.bind_eq_some_iff.mp e
  obtain ⟨⟨y, δ2⟩, e2, e⟩ := Option.bind_eq_some_iff.mp e
  obtain ⟨z, e3, e⟩ := Option.map_eq_some_iff.mp e
  cases e
  refine ha F σ H ρ δ x δ1 G e1 _ fun v H1 G1 M1 R1 => hb F σ H1 ρ δ1 y δ2 G1 e2 _ fun u H2 G2 M2 R2 => ?_
  refine o F σ H2 ρ δ2 v u x y d G2 (R1.mv M2) R2 e3 _ fun w H3 k R3 => q w H3 (G2.keep k) ((M1.trans M2).trans (Mv.same k)) R3
theorem OpR.or {X : Cx} {f : Value → Value → Sem Value} {r r' : R2} (h : OpR X f r) (h' : OpR X f r') : OpR X f (fun x y H Q => r x y H Q ∨ r' x y H Q) := fun pins s σ H x y v u Q I rx ry q =>
  q.elim (fun q => h pins s σ H x y v u Q I rx ry q) (fun q => h' pins s σ H x y v u Q I rx ry q)
end PD
namespace PD
open PySem PySem.Spec PyProof.Rows L2
theorem OpS.or {K r r' f g} (h : OpS K r f) (h' : OpS K r' g) : OpS K (fun x y H Q => r x y H Q ∨ r' x y H Q) (fun d e => (f d e).orElse fun _ => g d e) := fun F σ H ρ δ x y d e z G rx ry hz Q q => by
  dsimp only at hz
  cases hf : f d e with
  | some w => rw [hf] at hz; cases hz; exact .inl (h F σ H ρ δ x y d e _ G rx ry hf Q q)
  | none => rw [hf] at hz; exact .inr (h' F σ H ρ δ x y d e z G rx ry hz Q q)
/-- ints under C -/
def onI (C : Int → Int → Bool) (g : Int → Int → D) : D → D → Option D
  | .int i, .int j => if C i j then some (g i j) else none
  | _, _ => none
theorem ops_I {K} {C : Int → Int → Prop} {c : Int → Int → Bool} {g : Int → Int → V} {g' : Int → Int → D} (hc : ∀ i j, c i j = true → C i j) (hg : ∀ i j M H, Rep K M H (g i j) (g' i j)) : OpS K (rI C g) (onI c g') := fun F σ H ρ δ x y d e z G rx ry hz Q q => by
  unfold onI at hz
  split at hz
  · rename_i i j
    split at hz
    · rename_i h
      cases hz
      cases rx
      cases ry
      exact ⟨i, j, rfl, rfl, hc i j h, q _ H (fun _ _ h => h) (hg i j _ _)⟩
    · cases hz
  · cases hz
theorem ops_I0 {K} {g : Int → Int → V} {g' : Int → Int → D} (hg : ∀ i j M H, Rep K M H (g i j) (g' i j)) : OpS K (rI0 g) (onI (fun _ _ => true) g') := fun F σ H ρ δ x y d e z G rx ry hz Q q => by
  unfold onI at hz
  split at hz
  · rename_i i j
    simp only [if_true] at hz
    cases hz
    cases rx
    cases ry
    exact ⟨i, j, rfl, rfl, q _ H (fun _ _ h => h) (hg i j _ _)⟩
  · cases hz
def onS (C : Str → Str → Bool) (g : Str → Str → D) : D → D → Option D
  | .str i, .str j => if C i j then some (g i j) else none
  | _, _ => none
theorem ops_addS {K} : OpS K (fun x y H Q => ∃ i j, x = .str i ∧ y = .str j ∧ i.length + j.length ≤ sizeLine ∧ Q (.str (i ++ j)) H) (onS (fun i j => decide (i.length + j.length ≤ sizeLine)) fun i j => .str (i ++ j)) := fun F σ H ρ δ x y d e z G rx ry hz Q q => by
  unfold onS at hz
  split at hz
  · rename_i i j
    split at hz
    · rename_i h
      cases hz
      cases rx
      cases ry
      exact ⟨i, j, rfl, rfl, of_decide_eq_true h, q _ H (fun _ _ h => h) (.str _)⟩
    · cases hz
  · cases hz
theorem ops_cmpS {K} {c : Str → Str → Bool} : OpS K (fun x y H Q => ∃ i j, x = .str i ∧ y = .str j ∧ Q (.bl (c i j)) H) (onS (fun _ _ => true) fun i j => .bool (c i j)) := fun F σ H ρ δ x y d e z G rx ry hz Q q => by
  unfold onS at hz
  split at hz
  · rename_i i j
    simp only [if_true] at hz
    cases hz
    cases rx
    cases ry
    exact ⟨i, j, rfl, rfl, q _ H (fun _ _ h => h) (.bl _)⟩
  · cases hz
def catL : D → D → Option D
  | .list xs, .list ys => if xs.length + ys.length ≤ sizeLine then some (.list (xs ++ ys)) else none
  | _, _ => none
theorem ops_catL {K} : OpS K rCat catL := fun F σ H ρ δ x y d e z G rx ry hz Q q => by
  unfold catL at hz
  split at hz
  · rename_i xs ys
    split at hz
    · rename_i h
      cases hz
      cases rx with
      | @lst a vs _ ha r1 =>
        cases ry with
        | @lst b ws _ hb r2 =>
          refine ⟨_, _, _, _, rfl, rfl, ha.2, hb.2, by rw [r1.length, r2.length]; exact h, fun p hp => ?_⟩
          have k := upd_keeps (o := .lst (vs ++ ws)) hp
          exact q _ _ k (.lst ⟨G.mfree hp, upd_same⟩ ((r1.append r2).mv (Mv.same k)))
    · cases hz
  · cases hz
/-- t + u, the new tuple's object known -/
def rCatP (K : PySem.W.Frag) : R2 := fun x y H Q => ∃ a b xs ys, x = .ref a ∧ y = .ref b ∧ SqT K H a xs ∧ SqT K H b ys ∧ xs.length + ys.length ≤ sizeLine ∧
  (xs = [] → Q (.ref b) H) ∧ (xs ≠ [] → ys = [] → Q (.ref a) H) ∧ (xs ≠ [] → ys ≠ [] → ∀ p, H p = none → ∀ o : Obj, o.dict = none → Q (.ref p) (upd H p (tupH o (xs ++ ys))))
theorem nilV {xs : List V} {us : List Value} (r : Vals xs us) : xs = [] ↔ us = [] := by
  cases r with
  | nil => simp
  | cons _ _ => simp
theorem op_catP {X : Cx} : OpR X (binaryOp .Add) (rCatP X.K) := fun pins s σ H x y v u Q I rx ry h => by
  obtain ⟨a, b, xs, ys, rfl, rfl, ha, hb, hz, q0, q1, q2⟩ := h
  by_cases hx : xs = []
  · exact op_catA pins s σ H _ _ v u Q I rx ry ⟨a, b, xs, ys, rfl, rfl, ha, hb, hz, q0, q1, fun z => absurd hx z⟩
  · cases rx
    cases ry
    obtain ⟨i1, r1, p1, _⟩ := I.tuple ha
    obtain ⟨i2, r2, p2, _⟩ := I.tuple hb
    refine HT.cat_tup p1 p2 (fun z => hx ((nilV r1).mpr z)) (fun z => ⟨.ref a, H, I, rfl, q1 hx ((nilV r2).mpr z)⟩) (fun z => ?_) (by rw [← r1.length, ← r2.length]; exact hz)
    exact ⟨.ref s.heap.objs.size, _, I.laid (t' := s.toks) (fun b ob q => Heap.get?_push_of_some _ q) (Nat.le_refl _) (tupH_ok (n := 0) (by rw [List.length_append]; exact hz) (r1.append r2) (Heap.get?_push_size _ rfl)), rfl, q2 hx (fun w => z ((nilV r2).mp w)) _ (I.hok.fresh (Nat.le_refl _)) _ rfl⟩
def catT : D → D → Option D
  | .tuple xs, .tuple ys => if xs.length + ys.length ≤ sizeLine then some (.tuple (xs ++ ys)) else none
  | _, _ => none
theorem ops_catT {K} : OpS K (rCatP K) catT := fun F σ H ρ δ x y d e z G rx ry hz Q q => by
  unfold catT at hz
  split at hz
  · rename_i xs ys
    split at hz
    · rename_i h
      cases hz
      cases rx with
      | @tup a vs _ ha r1 =>
        cases ry with
        | @tup b ws _ hb r2 =>
          refine ⟨_, _, _, _, rfl, rfl, ha.sq, hb.sq, by rw [r1.length, r2.length]; exact h, fun e => ?_, fun _ e => ?_, fun _ _ p hp => ?_⟩
          · subst e
            cases r1
            exact q _ H (fun _ _ h => h) (.tup hb r2)
          · subst e
            cases r2
            rw [List.append_nil] at q
            exact q _ H (fun _ _ h => h) (.tup ha r1)
          · refine fun o hd => ?_
            have k := upd_keeps (o := tupH o (vs ++ ws)) hp
            exact q _ _ k (.tup (.new (G.mfree hp) upd_same hd) ((r1.append r2).mv (Mv.same k)))
    · cases hz
  · cases hz
def addD : D → D → Option D := fun d e => (onI (fun _ _ => true) (fun i j => .int (i + j)) d e).orElse fun _ => (onS (fun i j => decide (i.length + j.length ≤ sizeLine)) (fun i j => .str (i ++ j)) d e).orElse fun _ => (catL d e).orElse fun _ => catT d e
def subD : D → D → Option D := onI (fun _ _ => true) fun i j => .int (i - j)
def mulOk (i j : Int) : Bool := decide (-(2 ^ 64) < i ∧ i < 2 ^ 64) || decide (-(2 ^ 64) < j ∧ j < 2 ^ 64)
def mulI : D → D → Option D := onI mulOk fun i j => .int (i * j)
/-- no object -/
def objF : D → Bool
  | .tuple _ => false
  | .list _ => false
  | .dict _ => false
  | _ => true
def hdFl : List D → Bool
  | d :: _ => objF d
  | [] => true
def mulT : D → D → Option D
  | .tuple xs, .int k => if (xs ≠ [] ∧ hdFl xs = true) ∧ 2 ≤ k ∧ k ≤ 1000 ∧ xs.length ≤ 1000 then some (.tuple (List.replicate k.toNat xs).flatten) else none
  | _, _ => none
def modD : D → D → Option D := onI (fun _ j => decide (0 < j)) fun i j => .int (i % j)
def fdivD : D → D → Option D := onI (fun _ j => decide (0 < j ∧ j.natAbs.log2 < 9000)) fun i j => .int (i / j)
def powD : D → D → Option D := onI (fun i j => decide (0 ≤ j ∧ j ≤ 1000000 ∧ i.natAbs < 2 ^ 64)) fun i j => .int (i ^ j.toNat)
theorem Reps.flat {K M H} {vs : List V} {ds : List D} (r : Reps K M H vs ds) : ∀ n, Reps K M H (List.replicate n vs).flatten (List.replicate n ds).flatten
  | 0 => .nil
  | n + 1 => by
    rw [List.replicate_succ, List.replicate_succ, List.flatten_cons, List.flatten_cons]
    exact r.append (Reps.flat r n)
theorem Rep.fl {K M H v d} (r : Rep K M H v d) (h : objF d = true) : ∀ a, v ≠ .ref a := by
  cases r <;> first | (intro a z; cases z; done) | (simp [objF] at h; done)
theorem Reps.hdFl {K M H vs ds} (r : Reps K M H vs ds) (h : hdFl ds = true) : hdRef vs = false := by
  cases r with
  | nil => rfl
  | @cons v vs d ds r t =>
    have := r.fl h
    cases v <;> first | rfl | exact absurd rfl (this _)
theorem hdRef_flat {vs : List V} (h : hdRef vs = false) : ∀ {n : Nat}, hdRef (List.replicate n vs).flatten = false
  | 0 => rfl
  | n + 1 => by
    rw [List.replicate_succ, List.flatten_cons]
    cases vs with
    | nil => exact hdRef_flat (n := n) h
    | cons v r => cases v <;> first | rfl | (cases h; done)
theorem ops_mulT {K} : OpS K (rRepT K) mulT := fun F σ H ρ δ x y d e z G rx ry hz Q q => by
  unfold mulT at hz
  split at hz
  · rename_i xs k
    split at hz
    · rename_i h
      cases hz
      cases ry
      cases rx with
      | @tup a vs _ ha r1 =>
        refine ⟨_, _, _, rfl, rfl, ha.sq, fun e => h.1.1 ?_, h.2.1, h.2.2.1, by rw [r1.length]; exact h.2.2.2, fun p hp => ?_⟩
        · subst e; cases r1; rfl
        · have kk := upd_keeps (o := .tup (List.replicate k.toNat vs).flatten) hp
          exact q _ _ kk (.tup (.inl ⟨G.mfree hp, upd_same⟩ (hdRef_flat (r1.hdFl h.1.2))) ((r1.flat _).mv (Mv.same kk)))
    · cases hz
  · cases hz
def mulD : D → D → Option D := fun d e => (mulI d e).orElse fun _ => mulT d e
section
variable {X : Cx} {a b : Expr} {ma mb : ME} {pos : Pos}
theorem PD.op {op : Operator} {r : R2} {f : D → D → Option D} (ho : OpR X (binaryOp op) r) (s : OpS X.K r f) (ha : PD X a ma) (hb : PD X b mb) : PD X (.BinOp a op b pos) (mBin f ma mb) := by
  obtain ⟨ta, h1, s1⟩ := ha.ex
  obtain ⟨tb, h2, s2⟩ := hb.ex
  exact ⟨_, pe_op ho h1 h2, snd_bin s s1 s2⟩
theorem pd_add (ha : PD X a ma) (hb : PD X b mb) : PD X (.BinOp a .Add b pos) (mBin addD ma mb) :=
  PD.op (OpR.or op_add (OpR.or op_add_str (OpR.or op_cat op_catP))) (OpS.or (ops_I0 fun _ _ _ _ => .int _) (OpS.or ops_addS (OpS.or ops_catL ops_catT))) ha hb
theorem pd_sub (ha : PD X a ma) (hb : PD X b mb) : PD X (.BinOp a .Sub b pos) (mBin subD ma mb) := PD.op op_sub (ops_I0 fun _ _ _ _ => .int _) ha hb
theorem mulOk_of {i j : Int} (h : mulOk i j = true) : CMul i j := by
  unfold mulOk at h
  rcases Bool.or_eq_true_iff.mp h with h | h
  · exact .inl (of_decide_eq_true h)
  · exact .inr (of_decide_eq_true h)
theorem pd_mul (ha : PD X a ma) (hb : PD X b mb) : PD X (.BinOp a .Mult b pos) (mBin mulD ma mb) :=
  PD.op (OpR.or op_mul op_repT) (OpS.or (ops_I (fun _ _ h => mulOk_of h) fun _ _ _ _ => .int _) ops_mulT) ha hb
theorem pd_mod (ha : PD X a ma) (hb : PD X b mb) : PD X (.BinOp a .Mod b pos) (mBin modD ma mb) := PD.op op_mod (ops_I (fun _ _ h => of_decide_eq_true h) fun _ _ _ _ => .int _) ha hb
theorem pd_fdiv (ha : PD X a ma) (hb : PD X b mb) : PD X (.BinOp a .FloorDiv b pos) (mBin fdivD ma mb) := PD.op op_fdivW (ops_I (fun _ j h => of_decide_eq_true (p := 0 < j ∧ j.natAbs.log2 < 9000) h) fun _ _ _ _ => .int _) ha hb
theorem pd_pow (ha : PD X a ma) (hb : PD X b mb) : PD X (.BinOp a .Pow b pos) (mBin powD ma mb) := PD.op op_pow (ops_I (fun i j h => of_decide_eq_true (p := 0 ≤ j ∧ j ≤ 1000000 ∧ i.natAbs < 2 ^ 64) h) fun _ _ _ _ => .int _) ha hb
def mUn (f : D → Option D) (a : ME) : ME := fun ρ δ => (a ρ δ).bind fun p => (f p.1).map fun z => (z, p.2)
def negD : D → Option D
  | .int i => some (.int (-i))
  | _ => none
theorem pd_neg (ha : PD X a ma) : PD X (.UnaryOp .USub a pos) (mUn negD ma) := by
  obtain ⟨ta, h1, s1⟩ := ha.ex
  refine ⟨_, pe_un un_neg h1, fun F σ H ρ δ d δ' G e Q q => ?_⟩
  obtain ⟨⟨x, δ1⟩, e1, e⟩ := Option.bind_eq_some_iff.mp e
  obtain ⟨z, e3, e⟩ := Option.map_eq_some_iff.mp e
  cases e
  refine s1 F σ H ρ δ x δ1 G e1 _ fun v H1 G1 M1 R1 => ?_
  cases R1 <;> first | (simp [negD] at e3; done) | skip
  simp only [negD, Option.some.injEq] at e3
  subst e3
  exact ⟨_, rfl, q _ _ G1 M1 (.int _)⟩
mutual
theorem Rep.dp {K M H} : ∀ {v d}, Rep K M H v d → d.canLay0 = true → Dp K H v d
  | _, _, .non, _ => .non
  | _, _, .bl b, _ => .bl b
  | _, _, .int i, _ => .int i
  | _, _, .str x, _ => .str x
  | _, _, .lst a r, h => .lst a.sq (Reps.dp r (by simpa [PyData.canLay0] using h))
  | _, _, .tup a r, h => .tup a.sq (Reps.dp r (by simpa [PyData.canLay0] using h))
  | _, _, .dic _ _ _, h => by simp [PyData.canLay0] at h
theorem Reps.dp {K M H} : ∀ {v d}, Reps K M H v d → PyData.canLayAll0 d = true → DpAll K H v d
  | _, _, .nil, _ => .nil
  | _, _, .cons r t, h => by
    simp only [PyData.canLayAll0, Bool.and_eq_true] at h
    exact .cons (Rep.dp r h.1) (Reps.dp t h.2)
end
def eqD (d e : D) : Option D := if SeqAt.shaped d && SeqAt.shaped e then some (.bool (PyData.eqv d e)) else none
def neD (d e : D) : Option D := if SeqAt.shaped d && SeqAt.shaped e then some (.bool (!PyData.eqv d e)) else none
theorem ops_eqD {K} : OpS K (rEqD K) eqD := fun F σ H ρ δ x y d e z G rx ry hz Q q => by
  unfold eqD at hz
  split at hz
  · rename_i h
    rw [Bool.and_eq_true] at h
    cases hz
    exact ⟨d, e, rx.dp (SeqAt.canLay_of_shaped h.1), ry.dp (SeqAt.canLay_of_shaped h.2), h.1, h.2, q _ H (fun _ _ h => h) (.bl _)⟩
  · cases hz
theorem ops_neD {K} : OpS K (rNeD K) neD := fun F σ H ρ δ x y d e z G rx ry hz Q q => by
  unfold neD at hz
  split at hz
  · rename_i h
    rw [Bool.and_eq_true] at h
    cases hz
    exact ⟨d, e, rx.dp (SeqAt.canLay_of_shaped h.1), ry.dp (SeqAt.canLay_of_shaped h.2), h.1, h.2, q _ H (fun _ _ h => h) (.bl _)⟩
  · cases hz
def strLt (i j : Str) : Bool := decide (i.cps.toList < j.cps.toList)
def ltD : D → D → Option D := fun d e => (onI (fun _ _ => true) (fun i j => .bool (decide (i < j))) d e).orElse fun _ => onS (fun _ _ => true) (fun i j => .bool (strLt i j)) d e
def leD : D → D → Option D := fun d e => (onI (fun _ _ => true) (fun i j => .bool (decide (i ≤ j))) d e).orElse fun _ => onS (fun _ _ => true) (fun i j => .bool (!strLt j i)) d e
def gtD : D → D → Option D := fun d e => (onI (fun _ _ => true) (fun i j => .bool (decide (j < i))) d e).orElse fun _ => onS (fun _ _ => true) (fun i j => .bool (strLt j i)) d e
def geD : D → D → Option D := fun d e => (onI (fun _ _ => true) (fun i j => .bool (decide (j ≤ i))) d e).orElse fun _ => onS (fun _ _ => true) (fun i j => .bool (!strLt i j)) d e
/-- a comparison's rule: the operator, its mirror -/
structure CmpS (X : Cx) (op : CmpOp) (f : D → D → Option D) : Prop where
  ex : ∃ r, OpR X (compareOp op) r ∧ OpS X.K r f
theorem cs_eq (hu : X.A.units + 64 < cLine) : CmpS X .Eq eqD := ⟨_, op_eqD hu, ops_eqD⟩
theorem cs_ne (hu : X.A.units + 64 < cLine) : CmpS X .NotEq neD := ⟨_, op_neD hu, ops_neD⟩
theorem cs_lt : CmpS X .Lt ltD := ⟨_, OpR.or op_lt op_lt_str, OpS.or (ops_I0 fun _ _ _ _ => .bl _) ops_cmpS⟩
theorem cs_le : CmpS X .LtE leD := ⟨_, OpR.or op_le op_le_str, OpS.or (ops_I0 fun _ _ _ _ => .bl _) (ops_cmpS (c := fun i j => !strLt j i))⟩
theorem cs_gt : CmpS X .Gt gtD := ⟨_, OpR.or op_gt op_gt_str, OpS.or (ops_I0 fun _ _ _ _ => .bl _) (ops_cmpS (c := fun i j => strLt j i))⟩
theorem cs_ge : CmpS X .GtE geD := ⟨_, OpR.or op_ge op_ge_str, OpS.or (ops_I0 fun _ _ _ _ => .bl _) (ops_cmpS (c := fun i j => !strLt i j))⟩
def flatD : D → Bool
  | .none => true | .bool _ => true | .int _ => true | .str _ => true | _ => false
def inL (neg : Bool) : D → D → Option D
  | d, .list ds => if SeqAt.shaped d && SeqAt.shaped (.list ds) then some (.bool (neg ^^ ds.any fun z => PyData.eqv z d)) else none
  | _, _ => none
theorem ops_notInL {K} : OpS K (rNotInD K) (inL true) := fun F σ H ρ δ x y d e z G rx ry hz Q q => by
  unfold inL at hz
  split at hz
  · split at hz
    · rename_i h
      rw [Bool.and_eq_true] at h
      cases hz
      refine ⟨_, _, rx.dp (SeqAt.canLay_of_shaped h.1), ry.dp (SeqAt.canLay_of_shaped h.2), h.1, h.2, ?_⟩
      rw [Bool.true_xor] at q
      exact q _ H (fun _ _ h => h) (.bl _)
    · cases hz
  · cases hz
theorem Rep.flat {K M H v d} (r : Rep K M H v d) (h : flatD d = true) : flatV v = true := by cases r <;> first | rfl | simp [flatD] at h
theorem Reps.flatAll {K M H} : ∀ {vs ds}, Reps K M H vs ds → ds.all flatD = true → vs.all flatV = true
  | _, _, .nil, _ => rfl
  | _, _, .cons r t, h => by
    simp only [List.all_cons, Bool.and_eq_true] at h ⊢
    exact ⟨r.flat h.1, Reps.flatAll t h.2⟩
theorem Rep.eqv {K M H v w d e} (r : Rep K M H v d) (s : Rep K M H w e) (h : flatD d = true) (h' : flatD e = true) : eqV v w = PyData.eqv d e := by
  cases r <;> first | (simp [flatD] at h; done) | skip
  all_goals (cases s <;> first | (simp [flatD] at h'; done) | skip)
  all_goals simp [eqV, PyData.eqv]
theorem Reps.inV {K M H} {w e} (s : Rep K M H w e) (h' : flatD e = true) : ∀ {vs ds}, Reps K M H vs ds → ds.all flatD = true → L2.inV w vs = ds.any fun z => PyData.eqv z e
  | _, _, .nil, _ => rfl
  | _, _, .cons r t, h => by
    simp only [List.all_cons, Bool.and_eq_true] at h
    unfold L2.inV
    rw [List.any_cons, List.any_cons, r.eqv s h.1 h']
    congr 1
    exact Reps.inV s h' t h.2
def inT (neg : Bool) : D → D → Option D
  | d, .tuple ds => if flatD d && ds.all flatD then some (.bool (neg ^^ ds.any fun z => PyData.eqv z d)) else none
  | _, _ => none
theorem ops_inT {K neg} : OpS K (rIn K neg) (inT neg) := fun F σ H ρ δ x y d e z G rx ry hz Q q => by
  unfold inT at hz
  split at hz
  · split at hz
    · rename_i h
      rw [Bool.and_eq_true] at h
      cases hz
      cases ry with
      | @tup a vs _ ha r =>
        refine ⟨_, _, rfl, .inr ha.sq, rx.flat h.1, r.flatAll h.2, ?_⟩
        rw [r.inV rx h.1 h.2]
        cases neg with
        | true => rw [Bool.true_xor] at q; exact q _ H (fun _ _ h => h) (.bl _)
        | false => rw [Bool.false_xor] at q; exact q _ H (fun _ _ h => h) (.bl _)
    · cases hz
  · cases hz
def strIn (i j : Str) : Bool := !(Builtin.Str.occurrences j i 0 j.length 1).isEmpty
def inD (neg : Bool) : D → D → Option D := fun d e => (inL neg d e).orElse fun _ => (inT neg d e).orElse fun _ => onS (fun _ _ => true) (fun i j => .bool (neg ^^ strIn i j)) d e
theorem cs_notin (hu : X.A.units + 65 < cLine) : CmpS X .NotIn (inD true) := ⟨_, OpR.or (op_notInD hu) (OpR.or op_notIn_seq op_notin_str), OpS.or ops_notInL (OpS.or ops_inT (by
  have := ops_cmpS (K := X.K) (c := fun i j => !strIn i j)
  simp only [Bool.true_xor]
  exact this))⟩
theorem pd_cmp {op : CmpOp} {f : D → D → Option D} (c : CmpS X op f) (ha : PD X a ma) (hb : PD X b mb) (hm : behindInMarks op b = false) : PD X (.Compare a [op] [b] pos) (mBin f ma mb) := by
  obtain ⟨r, o, s⟩ := c.ex
  obtain ⟨ta, h1, s1⟩ := ha.ex
  obtain ⟨tb, h2, s2⟩ := hb.ex
  exact ⟨_, pe_cmpR o h1 h2 hm, snd_bin s s1 s2⟩
end
end PD
namespace PD
open PySem PySem.Spec PyProof.Rows L2
section
variable {X : Cx} {a b c : Expr} {ma mb mc : ME} {na nb : MT} {pos : Pos}
def mChain (f g : D → D → Option D) (a b c : ME) : ME := fun ρ δ => (a ρ δ).bind fun p => (b ρ p.2).bind fun q => (f p.1 q.1).bind fun z => match z with
  | .bool true => (c ρ q.2).bind fun w => (g q.1 w.1).map fun y => (y, w.2)
  | .bool false => some (.bool false, q.2)
  | _ => none
theorem snd_chain {K r r' f g ta tb tc a b c} (o : OpS K r f) (o' : OpS K r' g) (ha : Snd K ta a) (hb : Snd K tb b) (hc : Snd K tc c) : Snd K (tChain r r' ta tb tc) (mChain f g a b c) := fun F σ H ρ δ d δ' G e Q q => by
  unfold mChain at e
  obtain ⟨⟨x, δ1⟩, e1, e⟩ := Option.bind_eq_some_iff.mp e
  obtain ⟨⟨y, δ2⟩, e2, e⟩ := Option.bind_eq_some_iff.mp e
  obtain ⟨z, e3, e⟩ := Option.bind_eq_some_iff.mp e
  refine ha F σ H ρ δ x δ1 G e1 _ fun v H1 G1 M1 R1 => hb F σ H1 ρ δ1 y δ2 G1 e2 _ fun u H2 G2 M2 R2 => ?_
  refine o F σ H2 ρ δ2 v u x y z G2 (R1.mv M2) R2 e3 _ fun w H3 k R3 => ?_
  have M3 : Mv (Mm F σ ρ) H (Mm F σ ρ) H3 := (M1.trans M2).trans (Mv.same k)
  split at e
  · cases R3
    refine ⟨true, rfl, iteT ?_⟩
    obtain ⟨⟨w, δ3⟩, e4, e⟩ := Option.bind_eq_some_iff.mp e
    obtain ⟨y', e5, e⟩ := Option.map_eq_some_iff.mp e
    cases e
    refine hc F σ H3 ρ δ2 w δ3 (G2.keep k) e4 _ fun t H4 G4 M4 R4 => ?_
    exact o' F σ H4 ρ δ3 u t y w _ G4 (R2.mv ((Mv.same k).trans M4)) R4 e5 _ fun w' H5 k' R5 => q _ _ (G4.keep k') ((M3.trans M4).trans (Mv.same k')) R5
  · cases R3
    cases e
    exact ⟨false, rfl, iteF (q _ _ (G2.keep k) M3 (.bl _))⟩
  · cases e
theorem pd_chain {op op' : CmpOp} {f g : D → D → Option D} (h : CmpS X op f) (h' : CmpS X op' g) (ha : PD X a ma) (hb : PD X b mb) (hc : PD X c mc) (hm : lastMarks [op, op'] [b, c] = false := by with_unfolding_all rfl) :
    PD X (.Compare a [op, op'] [b, c] pos) (mChain f g ma mb mc) := by
  obtain ⟨r, o, s⟩ := h.ex
  obtain ⟨r', o', s'⟩ := h'.ex
  obtain ⟨ta, h1, s1⟩ := ha.ex
  obtain ⟨tb, h2, s2⟩ := hb.ex
  obtain ⟨tc, h3, s3⟩ := hc.ex
  exact ⟨_, pe_chain o o' h1 h2 h3 hm, snd_chain s s' s1 s2 s3⟩
def truD : D → Option Bool
  | .none => some false
  | .bool b => some b
  | .int i => some (i != 0)
  | .str x => if x.length ≤ sizeLine then some ((x.length : Int) != 0) else none
  | .list ds => some !ds.isEmpty
  | .tuple ds => some !ds.isEmpty
  | .dict _ => none
def mTru (m : ME) : MT := fun ρ δ => (m ρ δ).bind fun p => (truD p.1).map fun b => (b, p.2)
/-- a bool alone -/
def mB (m : ME) : MT := fun ρ δ => (m ρ δ).bind fun p => match p.1 with
  | .bool b => some (b, p.2)
  | _ => none
theorem snd_test {K t m} (h : Snd K t m) : SndT K (tTest t) (mB m) := fun F σ H ρ δ d δ' G e Q q => by
  obtain ⟨⟨x, δ1⟩, e1, e⟩ := Option.bind_eq_some_iff.mp e
  refine h F σ H ρ δ x δ1 G e1 _ fun v H1 G1 M1 R1 => ?_
  dsimp only at e
  split at e
  · cases R1; cases e
    exact ⟨_, rfl, q _ G1 M1⟩
  · cases e
theorem Reps.emp {K M H vs ds} (r : Reps K M H vs ds) : vs.isEmpty = ds.isEmpty := by cases r <;> rfl
theorem RepK.emp {K M H vs ds} (r : RepK K M H vs ds) : vs.isEmpty = ds.isEmpty := by cases r <;> rfl
theorem Rep.tru {K M H v d b} (r : Rep K M H v d) (h : truD d = some b) : TruV K v H b := by
  cases r with
  | non => cases h; rfl
  | bl b => cases h; rfl
  | int i => cases h; rfl
  | str x =>
    simp only [truD] at h
    split at h
    · cases h; exact ⟨by assumption, rfl⟩
    · cases h
  | lst a r => cases h; exact .inl ⟨_, a.sq, by rw [r.emp]⟩
  | tup a r => cases h; exact .inr (.inl ⟨_, a.sq, by rw [r.emp]⟩)
  | dic n e r => cases h
theorem pdt_tru (ha : PD X a ma) (he : ∀ whole, isTrue a X.env whole = (do let v ← whole; standAt a.pos; holding [v] (truthy v)) := by intro _; rfl) : PDT X a (mTru ma) := by
  obtain ⟨ta, h1, s1⟩ := ha.ex
  refine ⟨_, pt_truth h1 he, fun F σ H ρ δ d δ' G e Q q => ?_⟩
  obtain ⟨⟨x, δ1⟩, e1, e⟩ := Option.bind_eq_some_iff.mp e
  obtain ⟨z, e3, e⟩ := Option.map_eq_some_iff.mp e
  cases e
  exact s1 F σ H ρ δ x δ1 G e1 _ fun v H1 G1 M1 R1 => ⟨_, R1.tru e3, q _ G1 M1⟩
theorem pdt_cmp {op : CmpOp} {f : D → D → Option D} (h : CmpS X op f) (ha : PD X a ma) (hb : PD X b mb) (hm : behindInMarks op b = false) : PDT X (.Compare a [op] [b] pos) (mB (mBin f ma mb)) := by
  obtain ⟨r, o, s⟩ := h.ex
  obtain ⟨ta, h1, s1⟩ := ha.ex
  obtain ⟨tb, h2, s2⟩ := hb.ex
  exact ⟨_, pt_cmpR o h1 h2 hm, snd_test (snd_bin s s1 s2)⟩
theorem pdt_chain {op op' : CmpOp} {f g : D → D → Option D} (h : CmpS X op f) (h' : CmpS X op' g) (ha : PD X a ma) (hb : PD X b mb) (hc : PD X c mc) (hm : lastMarks [op, op'] [b, c] = false := by with_unfolding_all rfl) :
    PDT X (.Compare a [op, op'] [b, c] pos) (mB (mChain f g ma mb mc)) := by
  obtain ⟨r, o, s⟩ := h.ex
  obtain ⟨r', o', s'⟩ := h'.ex
  obtain ⟨ta, h1, s1⟩ := ha.ex
  obtain ⟨tb, h2, s2⟩ := hb.ex
  obtain ⟨tc, h3, s3⟩ := hc.ex
  exact ⟨_, pt_chain o o' h1 h2 h3 hm, snd_test (snd_chain s s' s1 s2 s3)⟩
structure PDW (X : Cx) (e : Expr) (m : MT) : Prop where
  ex : ∃ t, PW X e t ∧ SndT X.K t m
theorem PDW.pt {e : Expr} {m : MT} (h : PDW X e m) : PDT X e m := by
  obtain ⟨t, h1, s1⟩ := h.ex
  exact ⟨_, h1.pt, s1⟩
def tAndM (a b : MT) : MT := fun ρ δ => (a ρ δ).bind fun p => if p.1 = true then b ρ p.2 else some (false, p.2)
def tOrM (a b : MT) : MT := fun ρ δ => (a ρ δ).bind fun p => if p.1 = true then some (true, p.2) else b ρ p.2
def tNotM (a : MT) : MT := fun ρ δ => (a ρ δ).map fun p => (!p.1, p.2)
theorem pdw_and1 (ha : PDT X a na) : PDW X (.BoolOp .And [a] pos) na := by
  obtain ⟨t, h1, s1⟩ := ha.ex
  exact ⟨_, pw_and1 h1, s1⟩
theorem pdw_or1 (ha : PDT X a na) : PDW X (.BoolOp .Or [a] pos) na := by
  obtain ⟨t, h1, s1⟩ := ha.ex
  exact ⟨_, pw_or1 h1, s1⟩
theorem pdw_and {rest : List Expr} (ha : PDT X a na) (hb : PDW X (.BoolOp .And (b :: rest) pos) nb) : PDW X (.BoolOp .And (a :: b :: rest) pos) (tAndM na nb) := by
  obtain ⟨t, h1, s1⟩ := ha.ex
  obtain ⟨u, h2, s2⟩ := hb.ex
  refine ⟨_, pw_and h1 h2, fun F σ H ρ δ d δ' G e Q q => ?_⟩
  obtain ⟨⟨x, δ1⟩, e1, e⟩ := Option.bind_eq_some_iff.mp e
  refine s1 F σ H ρ δ x δ1 G e1 _ fun H1 G1 M1 => ?_
  cases x with
  | true => exact iteT (s2 F σ H1 ρ δ1 d δ' G1 e _ fun H2 G2 M2 => q _ G2 (M1.trans M2))
  | false => cases e; exact iteF (q _ G1 M1)
theorem pdw_or {rest : List Expr} (ha : PDT X a na) (hb : PDW X (.BoolOp .Or (b :: rest) pos) nb) : PDW X (.BoolOp .Or (a :: b :: rest) pos) (tOrM na nb) := by
  obtain ⟨t, h1, s1⟩ := ha.ex
  obtain ⟨u, h2, s2⟩ := hb.ex
  refine ⟨_, pw_or h1 h2, fun F σ H ρ δ d δ' G e Q q => ?_⟩
  obtain ⟨⟨x, δ1⟩, e1, e⟩ := Option.bind_eq_some_iff.mp e
  refine s1 F σ H ρ δ x δ1 G e1 _ fun H1 G1 M1 => ?_
  cases x with
  | false => exact iteF (s2 F σ H1 ρ δ1 d δ' G1 e _ fun H2 G2 M2 => q _ G2 (M1.trans M2))
  | true => cases e; exact iteT (q _ G1 M1)
theorem pdt_not (ha : PDT X a na) : PDT X (.UnaryOp .Not a pos) (tNotM na) := by
  obtain ⟨t, h1, s1⟩ := ha.ex
  refine ⟨_, pt_not h1, fun F σ H ρ δ d δ' G e Q q => ?_⟩
  obtain ⟨⟨x, δ1⟩, e1, e⟩ := Option.map_eq_some_iff.mp e
  cases e
  exact s1 F σ H ρ δ x δ1 G e1 _ fun H1 G1 M1 => q _ G1 M1
def mAnd (a b : ME) : ME := fun ρ δ => (a ρ δ).bind fun p => match p.1 with
  | .bool true => b ρ p.2
  | .bool false => some (.bool false, p.2)
  | _ => none
def mOr (a b : ME) : ME := fun ρ δ => (a ρ δ).bind fun p => match p.1 with
  | .bool true => some (.bool true, p.2)
  | .bool false => b ρ p.2
  | _ => none
def notD : D → Option D
  | .bool b => some (.bool !b)
  | _ => none
theorem pd_one {op} (h : PD X a ma) : PD X (.BoolOp op [a] pos) ma := by
  obtain ⟨t, h1, s1⟩ := h.ex
  exact ⟨_, pe_one h1, s1⟩
theorem pd_and {rest : List Expr} (ha : PD X a ma) (hb : PD X (.BoolOp .And (b :: rest) pos) mb) : PD X (.BoolOp .And (a :: b :: rest) pos) (mAnd ma mb) := by
  obtain ⟨t, h1, s1⟩ := ha.ex
  obtain ⟨u, h2, s2⟩ := hb.ex
  refine ⟨_, pe_and h1 h2, fun F σ H ρ δ d δ' G e Q q => ?_⟩
  obtain ⟨⟨x, δ1⟩, e1, e⟩ := Option.bind_eq_some_iff.mp e
  refine s1 F σ H ρ δ x δ1 G e1 _ fun v H1 G1 M1 R1 => ?_
  dsimp only at e
  split at e
  · cases R1; exact ⟨_, rfl, iteT (s2 F σ H1 ρ δ1 d δ' G1 e _ fun v H2 G2 M2 R2 => q _ _ G2 (M1.trans M2) R2)⟩
  · cases R1; cases e; exact ⟨_, rfl, iteF (q _ _ G1 M1 (.bl _))⟩
  · cases e
theorem pd_or {rest : List Expr} (ha : PD X a ma) (hb : PD X (.BoolOp .Or (b :: rest) pos) mb) : PD X (.BoolOp .Or (a :: b :: rest) pos) (mOr ma mb) := by
  obtain ⟨t, h1, s1⟩ := ha.ex
  obtain ⟨u, h2, s2⟩ := hb.ex
  refine ⟨_, pe_or h1 h2, fun F σ H ρ δ d δ' G e Q q => ?_⟩
  obtain ⟨⟨x, δ1⟩, e1, e⟩ := Option.bind_eq_some_iff.mp e
  refine s1 F σ H ρ δ x δ1 G e1 _ fun v H1 G1 M1 R1 => ?_
  dsimp only at e
  split at e
  · cases R1; cases e; exact ⟨_, rfl, iteT (q _ _ G1 M1 (.bl _))⟩
  · cases R1; exact ⟨_, rfl, iteF (s2 F σ H1 ρ δ1 d δ' G1 e _ fun v H2 G2 M2 R2 => q _ _ G2 (M1.trans M2) R2)⟩
  · cases e
theorem pd_not (ha : PD X a ma) : PD X (.UnaryOp .Not a pos) (mUn notD ma) := by
  obtain ⟨ta, h1, s1⟩ := ha.ex
  refine ⟨_, pe_not h1, fun F σ H ρ δ d δ' G e Q q => ?_⟩
  obtain ⟨⟨x, δ1⟩, e1, e⟩ := Option.bind_eq_some_iff.mp e
  obtain ⟨z, e3, e⟩ := Option.map_eq_some_iff.mp e
  cases e
  refine s1 F σ H ρ δ x δ1 G e1 _ fun v H1 G1 M1 R1 => ?_
  cases R1 <;> first | (simp [notD] at e3; done) | skip
  simp only [notD, Option.some.injEq] at e3
  subst e3
  exact ⟨_, rfl, q _ _ G1 M1 (.bl _)⟩
def mIf (t : MT) (a b : ME) : ME := fun ρ δ => (t ρ δ).bind fun p => if p.1 = true then a ρ p.2 else b ρ p.2
theorem pd_ifExp (hc : PDT X c na) (ha : PD X a ma) (hb : PD X b mb) : PD X (.IfExp c a b pos) (mIf na ma mb) := by
  obtain ⟨t, h0, s0⟩ := hc.ex
  obtain ⟨ta, h1, s1⟩ := ha.ex
  obtain ⟨tb, h2, s2⟩ := hb.ex
  refine ⟨_, pe_ifExp h0 h1 h2, fun F σ H ρ δ d δ' G e Q q => ?_⟩
  obtain ⟨⟨x, δ1⟩, e1, e⟩ := Option.bind_eq_some_iff.mp e
  refine s0 F σ H ρ δ x δ1 G e1 _ fun H1 G1 M1 => ?_
  cases x with
  | true => exact iteT (s1 F σ H1 ρ δ1 d δ' G1 e _ fun v H2 G2 M2 R2 => q _ _ G2 (M1.trans M2) R2)
  | false => exact iteF (s2 F σ H1 ρ δ1 d δ' G1 e _ fun v H2 G2 M2 R2 => q _ _ G2 (M1.trans M2) R2)
def mNil : MA := fun _ δ => some ([], δ)
def mCons (a : ME) (r : MA) : MA := fun ρ δ => (a ρ δ).bind fun p => (r ρ p.2).map fun q => (p.1 :: q.1, q.2)
theorem snd_nil {K} : SndA K tNil mNil := fun F σ H ρ δ d δ' G e Q q => by
  cases e
  exact q _ _ G (Mv.refl _ _) .nil
theorem snd_cons {K t u m r} (h : Snd K t m) (g : SndA K u r) : SndA K (tCons t u) (mCons m r) := fun F σ H ρ δ d δ' G e Q q => by
  obtain ⟨⟨x, δ1⟩, e1, e⟩ := Option.bind_eq_some_iff.mp e
  obtain ⟨⟨y, δ2⟩, e2, e⟩ := Option.map_eq_some_iff.mp e
  cases e
  exact h F σ H ρ δ x δ1 G e1 _ fun v H1 G1 M1 R1 => g F σ H1 ρ δ1 y _ G1 e2 _ fun vs H2 G2 M2 R2 => q _ _ G2 (M1.trans M2) (.cons (R1.mv M2) R2)
theorem pda_nil : PDA X [] mNil := ⟨_, pa_nil, snd_nil⟩
theorem pda_cons {e : Expr} {es : List Expr} {m : ME} {r : MA} (h : PD X e m) (g : PDA X es r) (hs : starEach (e :: es) X.env = (false, eval e X.env) :: starEach es X.env := by rfl) : PDA X (e :: es) (mCons m r) := by
  obtain ⟨t, h1, s1⟩ := h.ex
  obtain ⟨u, h2, s2⟩ := g.ex
  exact ⟨_, pa_cons h1 h2 hs, snd_cons s1 s2⟩
def mTup (r : MA) : ME := fun ρ δ => (r ρ δ).bind fun p => if p.1.length ≤ sizeLine then some (.tuple p.1, p.2) else none
def mLst (r : MA) : ME := fun ρ δ => (r ρ δ).bind fun p => if p.1.length ≤ sizeLine then some (.list p.1, p.2) else none
/-- a display, the new tuple's object known -/
def tTupP (t : TA) : TE := fun σ H Q => t σ H fun xs H1 => xs.length ≤ sizeLine ∧ ∀ p, H1 p = none → ∀ o : Obj, o.dict = none → Q (.ref p) (upd H1 p (tupH o xs))
theorem pe_tupP {es : List Expr} {t : TA} {k} (h : PA X es t) : PE X (.Tuple es k pos) (tTupP t) := ⟨fun pins s σ H Q I hq => by
  refine wpAny_Tuple_spliced (thn (h.run pos pins s σ H _ I hq) fun us s1 ⟨xs, H1, I1, r, z, q⟩ => ⟨by rw [← r.length]; exact z, ?_⟩)
  have hf : H1 s1.heap.objs.size = none := I1.hok.fresh (Nat.le_refl _)
  exact ⟨.ref s1.heap.objs.size, _, I1.laid (t' := s1.toks) (fun b u e => Heap.get?_push_of_some _ e) (Nat.le_refl _) (tupH_ok (n := 0) z r (Heap.get?_push_size _ rfl)), rfl, q _ hf _ rfl⟩⟩
theorem pd_tup {es : List Expr} {r : MA} {k} (h : PDA X es r) : PD X (.Tuple es k pos) (mTup r) := by
  obtain ⟨t, h1, s1⟩ := h.ex
  refine ⟨_, pe_tupP h1, fun F σ H ρ δ d δ' G e Q q => ?_⟩
  obtain ⟨⟨x, δ1⟩, e1, e⟩ := Option.bind_eq_some_iff.mp e
  dsimp only at e
  split at e
  · rename_i hl
    cases e
    refine s1 F σ H ρ δ x _ G e1 _ fun vs H1 G1 M1 R1 => ⟨by rw [R1.length]; exact hl, fun p hp o hd => ?_⟩
    have k := upd_keeps (o := tupH o vs) hp
    exact q _ _ (G1.keep k) (M1.trans (Mv.same k)) (.tup (.new (G1.mfree hp) upd_same hd) (R1.mv (Mv.same k)))
  · cases e
theorem pd_lst {es : List Expr} {r : MA} (h : PDA X es r) : PD X (.List es pos) (mLst r) := by
  obtain ⟨t, h1, s1⟩ := h.ex
  refine ⟨_, pe_lst h1, fun F σ H ρ δ d δ' G e Q q => ?_⟩
  obtain ⟨⟨x, δ1⟩, e1, e⟩ := Option.bind_eq_some_iff.mp e
  dsimp only at e
  split at e
  · rename_i hl
    cases e
    refine s1 F σ H ρ δ x _ G e1 _ fun vs H1 G1 M1 R1 => ⟨by rw [R1.length]; exact hl, fun p hp => ?_⟩
    have k := upd_keeps (o := .lst vs) hp
    exact q _ _ (G1.keep k) (M1.trans (Mv.same k)) (.lst ⟨G1.mfree hp, upd_same⟩ (R1.mv (Mv.same k)))
  · cases e
def ixD : D → D → Option D
  | .list ds, .int i => atI ds i
  | .tuple ds, .int i => atI ds i
  | .str x, .int i => if x.length ≤ sizeLine then (atI x.cps.toList i).map fun c => .str ⟨#[c]⟩ else none
  | _, _ => none
theorem Reps.atI {K M H vs ds i d} (r : Reps K M H vs ds) (h : L2.atI ds i = some d) : ∃ v, L2.atI vs i = some v ∧ Rep K M H v d := by
  unfold L2.atI at h ⊢
  obtain ⟨j, e1, e2⟩ := Option.bind_eq_some_iff.mp h
  rw [r.length, e1]
  exact r.get' e2
theorem ops_ix {K} : OpS K (rIx K) ixD := fun F σ H ρ δ x y d e z G rx ry hz Q q => by
  cases rx with
  | lst a r =>
    cases ry <;> first | (simp [ixD] at hz; done) | skip
    obtain ⟨v, e1, r1⟩ := r.atI hz
    exact .inl ⟨_, _, _, v, rfl, rfl, a.sq, e1, q _ _ (fun _ _ h => h) r1⟩
  | tup a r =>
    cases ry <;> first | (simp [ixD] at hz; done) | skip
    obtain ⟨v, e1, r1⟩ := r.atI hz
    exact .inr (.inl ⟨_, _, _, v, rfl, rfl, a.sq, e1, q _ _ (fun _ _ h => h) r1⟩)
  | str x =>
    cases ry <;> first | (simp [ixD] at hz; done) | skip
    simp only [ixD] at hz
    split at hz
    · rename_i hl
      obtain ⟨c, e1, e2⟩ := Option.map_eq_some_iff.mp hz
      subst e2
      exact .inr (.inr ⟨_, _, c, rfl, rfl, hl, e1, q _ _ (fun _ _ h => h) (.str _)⟩)
    · cases hz
  | _ => simp [ixD] at hz
def lookD : List (D × D) → D → Option D
  | [], _ => none
  | (.int i, v) :: r, .int j => if i = j then some v else lookD r (.int j)
  | (.str i, v) :: r, .str j => if i = j then some v else lookD r (.str j)
  | _ :: r, k => lookD r k
def dgetD : D → D → Option D
  | .dict es, k => lookD es k
  | _, _ => none
theorem valV_cons {κ : Type} [DecidableEq κ] {k j : κ} {v : V} {r : List (κ × V)} : valV ((k, v) :: r) j = if k = j then some v else valV r j := by
  unfold valV
  rw [List.find?_cons]
  by_cases h : k = j
  · simp [h]
  · simp [h]
theorem RepK.look {K M H} : ∀ {kvs es} {k : Key} {z}, RepK K M H kvs es → lookD es (keyD k) = some z → ∃ v, valV kvs k = some v ∧ Rep K M H v z
  | _, _, _, _, .nil, h => by simp [lookD] at h
  | _, _, k, z, .cons (k := k') r t, h => by
    rw [valV_cons]
    cases k' with
    | inl i =>
      cases k with
      | inl j =>
        simp only [keyD, lookD] at h
        by_cases hj : i = j
        · subst hj; rw [if_pos rfl] at h; cases h; exact ⟨_, if_pos rfl, r⟩
        · rw [if_neg hj] at h
          obtain ⟨v, e, r'⟩ := RepK.look (k := .inl j) t h
          exact ⟨v, by rw [if_neg (fun q => hj (Sum.inl.inj q))]; exact e, r'⟩
      | inr j =>
        simp only [keyD, lookD] at h
        obtain ⟨v, e, r'⟩ := RepK.look (k := .inr j) t h
        exact ⟨v, by rw [if_neg (fun q => nomatch q)]; exact e, r'⟩
    | inr i =>
      cases k with
      | inr j =>
        simp only [keyD, lookD] at h
        by_cases hj : i = j
        · subst hj; rw [if_pos rfl] at h; cases h; exact ⟨_, if_pos rfl, r⟩
        · rw [if_neg hj] at h
          obtain ⟨v, e, r'⟩ := RepK.look (k := .inr j) t h
          exact ⟨v, by rw [if_neg (fun q => hj (Sum.inr.inj q))]; exact e, r'⟩
      | inl j =>
        simp only [keyD, lookD] at h
        obtain ⟨v, e, r'⟩ := RepK.look (k := .inl j) t h
        exact ⟨v, by rw [if_neg (fun q => nomatch q)]; exact e, r'⟩
def keyOf : D → Option Key
  | .int i => some (.inl i)
  | .str x => some (.inr x)
  | _ => none
theorem lookD_key : ∀ {es : List (D × D)} {k z : D}, lookD es k = some z → (∀ p ∈ es, ∃ j, p.1 = keyD j) → ∃ j, k = keyD j
  | [], _, _, h, _ => by simp [lookD] at h
  | (e, v) :: r, k, z, h, ha => by
    obtain ⟨j, hj⟩ := ha (e, v) (.head _)
    cases k with
    | int i => exact ⟨.inl i, rfl⟩
    | str i => exact ⟨.inr i, rfl⟩
    | _ =>
      dsimp only at hj
      subst hj
      cases j <;> (simp only [keyD, lookD] at h; exact lookD_key h fun p hp => ha p (.tail _ hp))
theorem RepK.keys {K M H} : ∀ {kvs es}, RepK K M H kvs es → ∀ p ∈ es, ∃ j, p.1 = keyD j
  | _, _, .nil, _, h => by simp at h
  | _, _, .cons (k := k) r t, p, h => by
    rcases List.mem_cons.mp h with h | h
    · subst h; exact ⟨k, rfl⟩
    · exact RepK.keys t p h
theorem kV_rep {K M H v} {k : Key} (r : Rep K M H v (keyD k)) : v = kV k := by cases k <;> (cases r; rfl)
theorem keyOf_rep {K M H v d k} (r : Rep K M H v d) (h : keyOf d = some k) : v = kV k := by
  cases d <;> simp only [keyOf, Option.some.injEq, reduceCtorEq] at h <;> (subst h; cases r; rfl)
def subD' : D → D → Option D := fun d e => (ixD d e).orElse fun _ => dgetD d e
theorem pd_ix (hu : X.A.units + 1 < cLine) (ha : PD X a ma) (hb : PD X b mb) (hs : PlainIx b := by exact fun _ _ => rfl) : PD X (.Subscript a b pos) (mBin subD' ma mb) := by
  obtain ⟨ta, h1, s1⟩ := ha.ex
  obtain ⟨tb, h2, s2⟩ := hb.ex
  have p1 := pe_ix (pos := pos) ix_seq h1 h2 hs
  have p2 := pe_dget (pos := pos) hu h1 h2 hs
  refine ⟨fun σ H Q => tOp (rIx X.K) ta tb σ H Q ∨ tDGet ta tb σ H Q, ⟨fun pins s σ H Q I q => q.elim (fun q => p1.run pins s σ H Q I q) (fun q => p2.run pins s σ H Q I q)⟩, fun F σ H ρ δ d δ' G e Q q => ?_⟩
  unfold mBin at e
  obtain ⟨⟨x, δ1⟩, e1, e⟩ := Option.bind_eq_some_iff.mp e
  obtain ⟨⟨y, δ2⟩, e2, e⟩ := Option.bind_eq_some_iff.mp e
  obtain ⟨z, e3, e⟩ := Option.map_eq_some_iff.mp e
  cases e
  unfold subD' at e3
  cases hx : ixD x y with
  | some w =>
    left
    rw [hx] at e3; cases e3
    exact snd_bin ops_ix s1 s2 F σ H ρ δ _ _ G (by unfold mBin; rw [e1]; simp only [Option.bind_some]; rw [e2]; simp only [Option.bind_some]; rw [hx]; rfl) Q q
  | none =>
    right
    rw [hx] at e3
    refine s1 F σ H ρ δ x δ1 G e1 _ fun v H1 G1 M1 R1 => s2 F σ H1 ρ δ1 y _ G1 e2 _ fun u H2 G2 M2 R2 => ?_
    have R1' := R1.mv M2
    replace e3 : dgetD x y = some d := e3
    unfold dgetD at e3
    split at e3
    · cases R1' with
      | dic n he r =>
        obtain ⟨j, hj⟩ := lookD_key e3 r.keys
        subst hj
        obtain ⟨v', e4, r4⟩ := r.look e3
        have := kV_rep R2
        subst this
        refine ⟨_, v', rfl, ?_, q _ _ G2 (M1.trans M2) r4⟩
        rw [← e4]
        exact .inl ⟨_, _, he, rfl, rfl⟩
    · cases e3
def cutD (ds : List D) (lo hi : Option Int) : List D := (ds.drop (HT.sIx ds.length 0 lo)).take (HT.sIx ds.length ds.length hi - HT.sIx ds.length 0 lo)
def slD (lo hi : Option Int) : D → Option D
  | .list ds => some (.list (cutD ds lo hi))
  | .tuple ds => some (.tuple (cutD ds lo hi))
  | .str x => if x.length ≤ sizeLine then some (.str (cutS x lo hi)) else none
  | _ => none
theorem Reps.cut {K M H vs ds lo hi} (r : Reps K M H vs ds) : Reps K M H (cutV vs lo hi) (cutD ds lo hi) := by
  unfold cutV cutD
  rw [r.length]
  exact (r.drop _).take _
theorem Reps.whole {K M H vs ds lo hi} (r : Reps K M H vs ds) (h : HT.sIx vs.length 0 lo = 0 ∧ HT.sIx vs.length vs.length hi = vs.length) : Reps K M H vs (cutD ds lo hi) := by
  unfold cutD
  rw [r.length] at h
  rw [h.1, h.2, List.drop_zero, Nat.sub_zero, List.take_length]
  exact r
abbrev MO := List Sl → Dk → Option (Option Int × Dk)
structure PDO (X : Cx) (e : Option Expr) (m : MO) : Prop where
  ex : ∃ t, PO X e t ∧ ∀ F σ H ρ δ d δ', Good X.K F σ H ρ δ → m ρ δ = some (d, δ') → ∀ Q : Option Int → Hp → Prop, (∀ H', Good X.K F σ H' ρ δ' → Mv (Mm F σ ρ) H (Mm F σ ρ) H' → Q d H') → t σ H Q
def oNo : MO := fun _ δ => some (none, δ)
def oSome (m : ME) : MO := fun ρ δ => (m ρ δ).bind fun p => match p.1 with
  | .int i => some (some i, p.2)
  | _ => none
theorem pdo_no : PDO X none oNo := ⟨_, po_none, fun F σ H ρ δ d δ' G e Q q => by cases e; exact q _ G (Mv.refl _ _)⟩
theorem pdo_some (h : PD X a ma) : PDO X (some a) (oSome ma) := by
  obtain ⟨t, h1, s1⟩ := h.ex
  refine ⟨_, po_some h1, fun F σ H ρ δ d δ' G e Q q => ?_⟩
  obtain ⟨⟨x, δ1⟩, e1, e⟩ := Option.bind_eq_some_iff.mp e
  refine s1 F σ H ρ δ x δ1 G e1 _ fun v H1 G1 M1 R1 => ?_
  dsimp only at e
  split at e
  · cases R1; cases e; exact ⟨_, rfl, q _ G1 M1⟩
  · cases e
def mSl (a : ME) (lo hi : MO) : ME := fun ρ δ => (a ρ δ).bind fun p => (lo ρ p.2).bind fun l => (hi ρ l.2).bind fun h => (slD l.1 h.1 p.1).map fun z => (z, h.2)
/-- t[lo:hi], the new tuple's object known -/
def rSlP (K : PySem.W.Frag) : V → Option Int → Option Int → Hp → VK → Prop := fun x lo hi H Q => ∃ a xs, x = .ref a ∧ SqT K H a xs ∧
  (HT.sIx xs.length 0 lo = 0 ∧ HT.sIx xs.length xs.length hi = xs.length → Q (.ref a) H) ∧ (¬ (HT.sIx xs.length 0 lo = 0 ∧ HT.sIx xs.length xs.length hi = xs.length) → ∀ p, H p = none → ∀ o : Obj, o.dict = none → Q (.ref p) (upd H p (tupH o (cutV xs lo hi))))
theorem sl_tupP {X : Cx} : SlR X (rSlP X.K) := fun pins s σ H x v vl vu lo hi sl Q I rx hs pl pu h => by
  obtain ⟨a, xs, rfl, hx, q1, q2⟩ := h
  by_cases hw : HT.sIx xs.length 0 lo = 0 ∧ HT.sIx xs.length xs.length hi = xs.length
  · exact sl_tupA pins s σ H _ v vl vu lo hi sl Q I rx hs pl pu ⟨a, xs, rfl, hx, q1, fun z => absurd hw z⟩
  · cases rx
    obtain ⟨its, r, ht, hz⟩ := I.tuple hx
    have hlen : its.toArray.size = xs.length := by rw [List.size_toArray]; exact r.length.symm
    refine ⟨"tuple", _, PyProof.Rows.slot_tuple_getitem.lookup, ht.typeIs, HT.getItem_tuple_cut ht hs pl pu (by rw [hlen]; exact hw) ?_ (by rw [hlen]; exact hz)⟩
    rw [hlen]
    exact ⟨.ref s.heap.objs.size, _, I.laid (t' := s.toks) (fun b ob q => Heap.get?_push_of_some _ q) (Nat.le_refl _) (tupH_ok (n := 0) (Nat.le_trans (cutV_length xs lo hi) hz) ((r.drop (HT.sIx xs.length 0 lo)).take (HT.sIx xs.length xs.length hi - HT.sIx xs.length 0 lo)) (Heap.get?_push_size _ rfl)), rfl, q2 hw _ (I.hok.fresh (Nat.le_refl _)) _ rfl⟩
theorem pd_sl {lo hi : Option Expr} {ml mh : MO} {p2 : Pos} (ha : PD X a ma) (hl : PDO X lo ml) (hh : PDO X hi mh) : PD X (.Subscript a (.Slice lo hi none p2) pos) (mSl ma ml mh) := by
  obtain ⟨t, h1, s1⟩ := ha.ex
  obtain ⟨tl, h2, s2⟩ := hl.ex
  obtain ⟨th, h3, s3⟩ := hh.ex
  refine ⟨_, pe_slice (sl_list.or (sl_tupP.or sl_str)) h1 h2 h3, fun F σ H ρ δ d δ' G e Q q => ?_⟩
  obtain ⟨⟨x, δ1⟩, e1, e⟩ := Option.bind_eq_some_iff.mp e
  obtain ⟨⟨l, δ2⟩, e2, e⟩ := Option.bind_eq_some_iff.mp e
  obtain ⟨⟨u, δ3⟩, e3, e⟩ := Option.bind_eq_some_iff.mp e
  obtain ⟨z, e4, e⟩ := Option.map_eq_some_iff.mp e
  cases e
  refine s1 F σ H ρ δ x δ1 G e1 _ fun v H1 G1 M1 R1 => s2 F σ H1 ρ δ1 l δ2 G1 e2 _ fun H2 G2 M2 => s3 F σ H2 ρ δ2 u _ G2 e3 _ fun H3 G3 M3 => ?_
  have R := (R1.mv M2).mv M3
  have MM := (M1.trans M2).trans M3
  cases R with
  | @lst a vs _ ha r =>
    cases e4
    refine .inl ⟨_, _, rfl, ha.sq, fun p hp => ?_⟩
    have k := upd_keeps (o := .lst (cutV vs l u)) hp
    exact q _ _ (G3.keep k) (MM.trans (Mv.same k)) (.lst ⟨G3.mfree hp, upd_same⟩ (r.cut.mv (Mv.same k)))
  | @tup a vs _ ha r =>
    cases e4
    refine .inr (.inl ⟨_, _, rfl, ha.sq, fun hw => q _ _ G3 MM (.tup ha (r.whole hw)), fun _ p hp o hd => ?_⟩)
    have k := upd_keeps (o := tupH o (cutV vs l u)) hp
    exact q _ _ (G3.keep k) (MM.trans (Mv.same k)) (.tup (.new (G3.mfree hp) upd_same hd) (r.cut.mv (Mv.same k)))
  | str x =>
    simp only [slD] at e4
    split at e4
    · rename_i hl
      cases e4
      exact .inr (.inr ⟨_, rfl, hl, q _ _ G3 MM (.str _)⟩)
    · cases e4
  | _ => simp [slD] at e4
end
end PD
namespace PD
open PySem PySem.Spec PyProof.Rows L2
def CallS (K : PySem.W.Frag) (r : List V → Hp → VK → Prop) (f : List D → Option D) : Prop := ∀ F σ H ρ δ xs ds z, Good K F σ H ρ δ → Reps K (Mm F σ ρ) H xs ds → f ds = some z → ∀ Q : VK,
  (∀ v H', (∀ a o, H a = some o → H' a = some o) → Rep K (Mm F σ ρ) H' v z → Q v H') → r xs H Q
def mCall (f : List D → Option D) (r : MA) : ME := fun ρ δ => (r ρ δ).bind fun p => (f p.1).map fun z => (z, p.2)
theorem snd_cb {K r f t m} (h : CallS K r f) (ha : SndA K t m) : Snd K (tCB r t) (mCall f m) := fun F σ H ρ δ d δ' G e Q q => by
  obtain ⟨⟨x, δ1⟩, e1, e⟩ := Option.bind_eq_some_iff.mp e
  obtain ⟨z, e3, e⟩ := Option.map_eq_some_iff.mp e
  cases e
  exact ha F σ H ρ δ x _ G e1 _ fun vs H1 G1 M1 R1 => h F σ H1 ρ _ vs x _ G1 R1 e3 Q fun v H2 k R2 => q v H2 (G1.keep k) (M1.trans (Mv.same k)) R2
theorem nokeep {H : Hp} : ∀ a o, H a = some o → H a = some o := fun _ _ h => h
section
variable {X : Cx} {a b c e : Expr} {es : List Expr} {ma mb mc : ME} {r : MA} {p pos : Pos}
theorem pd_cb {x : Str} {id : String} {rr : List V → Hp → VK → Prop} {f : List D → Option D} (hv : bootBuiltins x = some (.builtin id)) (hc : CallR X (.builtin id) rr) (hs : CallS X.K rr f) (ha : PDA X (e :: es) r) (hg : Gl X x) (hm : X.mg x = none) (hn : x ≠ "__name__") (hdb : (x == ("__debug__" : Str)) = false)
    (he : starEach (e :: es) X.env = (false, eval e X.env) :: starEach es X.env) (hpl : (backTo pos (starEach es X.env)).any (·.1) = false) : PD X (.Call (.Name x p) (e :: es) [] pos) (mCall f r) := by
  obtain ⟨t, h1, s1⟩ := ha.ex
  exact ⟨_, pe_callB hc hg hm hv h1 hn hdb he hpl, snd_cb hs s1⟩
theorem pd_ct {x : Str} {T : String} {rr : List V → Hp → VK → Prop} {f : List D → Option D} (hv : bootBuiltins x = some (.type T)) (hc : CallR X (.type T) rr) (hs : CallS X.K rr f) (ha : PDA X (e :: es) r) (hg : Gl X x) (hm : X.mg x = none) (hn : x ≠ "__name__") (hdb : (x == ("__debug__" : Str)) = false)
    (he : starEach (e :: es) X.env = (false, eval e X.env) :: starEach es X.env) (hpl : (backTo pos (starEach es X.env)).any (·.1) = false) : PD X (.Call (.Name x p) (e :: es) [] pos) (mCall f r) := by
  obtain ⟨t, h1, s1⟩ := ha.ex
  exact ⟨_, pe_callTy hc hg hm hv h1 hn hdb he hpl, snd_cb hs s1⟩
def lenD : List D → Option D
  | [.list ds] => some (.int ds.length)
  | [.tuple ds] => some (.int ds.length)
  | [.str x] => if x.length ≤ sizeLine then some (.int x.length) else none
  | _ => none
theorem reps1 {K M H vs d} (r : Reps K M H vs [d]) : ∃ v, vs = [v] ∧ Rep K M H v d := by
  cases r with | cons r t => cases t; exact ⟨_, rfl, r⟩
theorem reps2 {K M H vs d e} (r : Reps K M H vs [d, e]) : ∃ v w, vs = [v, w] ∧ Rep K M H v d ∧ Rep K M H w e := by
  cases r with | cons r t => cases t with | cons r' t => cases t; exact ⟨_, _, rfl, r, r'⟩
theorem cs_len {K} : CallS K (fun xs H Q => ∃ x n, xs = [x] ∧ LenV K x H n ∧ Q (.int n) H) lenD := fun F σ H ρ δ xs ds z G R hz Q q => by
  unfold lenD at hz
  split at hz
  · cases hz
    obtain ⟨v, rfl, r⟩ := reps1 R
    cases r with
    | lst a r => exact ⟨_, _, rfl, .inl ⟨_, a.sq, rfl⟩, by rw [r.length]; exact q _ _ nokeep (.int _)⟩
  · cases hz
    obtain ⟨v, rfl, r⟩ := reps1 R
    cases r with
    | tup a r => exact ⟨_, _, rfl, .inr ⟨_, a.sq, rfl⟩, by rw [r.length]; exact q _ _ nokeep (.int _)⟩
  · split at hz
    · rename_i hl
      cases hz
      obtain ⟨v, rfl, r⟩ := reps1 R
      cases r
      exact ⟨_, _, rfl, ⟨hl, rfl⟩, q _ _ nokeep (.int _)⟩
    · cases hz
  · cases hz
def absD : List D → Option D
  | [.int i] => some (.int (if i < 0 then -i else i))
  | _ => none
def maxD : List D → Option D
  | [.int i, .int j] => some (.int (if j > i then j else i))
  | _ => none
def minD : List D → Option D
  | [.int i, .int j] => some (.int (if j < i then j else i))
  | _ => none
theorem cs_max {K} : CallS K (fun xs H Q => ∃ i j, xs = [.int i, .int j] ∧ Q (.int (if j > i then j else i)) H) maxD := fun F σ H ρ δ xs ds z G R hz Q q => by
  unfold maxD at hz
  split at hz
  · cases hz
    obtain ⟨v, w, rfl, r, r'⟩ := reps2 R
    cases r; cases r'
    exact ⟨_, _, rfl, q _ _ nokeep (.int _)⟩
  · cases hz
theorem cs_min {K} : CallS K (fun xs H Q => ∃ i j, xs = [.int i, .int j] ∧ Q (.int (if j < i then j else i)) H) minD := fun F σ H ρ δ xs ds z G R hz Q q => by
  unfold minD at hz
  split at hz
  · cases hz
    obtain ⟨v, w, rfl, r, r'⟩ := reps2 R
    cases r; cases r'
    exact ⟨_, _, rfl, q _ _ nokeep (.int _)⟩
  · cases hz
def intD : List D → Option D
  | [.int i] => some (.int i)
  | [.bool k] => some (.int (if k then 1 else 0))
  | _ => none
theorem cs_int {K} : CallS K (fun xs H Q => (∃ i, xs = [.int i] ∧ Q (.int i) H) ∨ ∃ k, xs = [.bl k] ∧ Q (.int (if k then 1 else 0)) H) intD := fun F σ H ρ δ xs ds z G R hz Q q => by
  unfold intD at hz
  split at hz
  · cases hz
    obtain ⟨v, rfl, r⟩ := reps1 R
    cases r
    exact .inl ⟨_, rfl, q _ _ nokeep (.int _)⟩
  · cases hz
    obtain ⟨v, rfl, r⟩ := reps1 R
    cases r
    exact .inr ⟨_, rfl, q _ _ nokeep (.int _)⟩
  · cases hz
def listD : List D → Option D
  | [.list ds] => some (.list ds)
  | [.tuple ds] => some (.list ds)
  | _ => none
theorem cs_list {K} : CallS K (fun xs H Q => ∃ p ys, xs = [.ref p] ∧ (SqL K H p ys ∨ SqT K H p ys) ∧ ∀ l, H l = none → Q (.ref l) (upd H l (.lst ys))) listD := fun F σ H ρ δ xs ds z G R hz Q q => by
  unfold listD at hz
  split at hz
  · cases hz
    obtain ⟨v, rfl, r⟩ := reps1 R
    cases r with
    | @lst a vs _ ha r =>
      refine ⟨_, _, rfl, .inl ha.sq, fun p hp => ?_⟩
      have k := upd_keeps (o := .lst vs) hp
      exact q _ _ k (.lst ⟨G.mfree hp, upd_same⟩ (r.mv (Mv.same k)))
  · cases hz
    obtain ⟨v, rfl, r⟩ := reps1 R
    cases r with
    | @tup a vs _ ha r =>
      refine ⟨_, _, rfl, .inr ha.sq, fun p hp => ?_⟩
      have k := upd_keeps (o := .lst vs) hp
      exact q _ _ k (.lst ⟨G.mfree hp, upd_same⟩ (r.mv (Mv.same k)))
  · cases hz
def tupD : List D → Option D
  | [.list ds] => some (.tuple ds)
  | [.tuple ds] => some (.tuple ds)
  | _ => none
/-- tuple(e), the new tuple's object known -/
theorem call_tupleP {X : Cx} : CallR X (.type "tuple") (fun xs H Q => ∃ p ys, xs = [.ref p] ∧ ((SqL X.K H p ys ∧ ∀ l, H l = none → ∀ o : Obj, o.dict = none → Q (.ref l) (upd H l (tupH o ys))) ∨ (SqT X.K H p ys ∧ Q (.ref p) H))) := fun pins s σ H xs us Q I r h => by
  obtain ⟨p, ys, rfl, ⟨hq, q⟩ | h⟩ := h
  · obtain ⟨u, rfl, rx⟩ := vals1 r
    cases rx
    obtain ⟨its, r', pl, hz⟩ := I.list hq
    have hlen := r'.length
    refine call_tuple_list pl.isList (fun h' kp => ?_) (by simp only [List.size_toArray] <;> omega)
    have I1 : Inv X pins σ H { s with heap := h' } := I.kept (t' := s.toks) kp
    exact ⟨.ref h'.objs.size, _, I1.laid (t' := s.toks) (fun b o e => Heap.get?_push_of_some _ e) (Nat.le_refl _) (tupH_ok (n := 0) hz r' (Heap.get?_push_size _ rfl)), rfl, q _ (I1.hok.fresh (Nat.le_refl _)) _ rfl⟩
  · exact call_tuple_of pins s σ H _ us Q I r ⟨p, ys, rfl, .inr h⟩
theorem cs_tup {K} : CallS K (fun xs H Q => ∃ p ys, xs = [.ref p] ∧ ((SqL K H p ys ∧ ∀ l, H l = none → ∀ o : Obj, o.dict = none → Q (.ref l) (upd H l (tupH o ys))) ∨ (SqT K H p ys ∧ Q (.ref p) H))) tupD := fun F σ H ρ δ xs ds z G R hz Q q => by
  unfold tupD at hz
  split at hz
  · cases hz
    obtain ⟨v, rfl, r⟩ := reps1 R
    cases r with
    | @lst a vs _ ha r =>
      refine ⟨_, _, rfl, .inl ⟨ha.sq, fun p hp o hd => ?_⟩⟩
      have k := upd_keeps (o := tupH o vs) hp
      exact q _ _ k (.tup (.new (G.mfree hp) upd_same hd) (r.mv (Mv.same k)))
  · cases hz
    obtain ⟨v, rfl, r⟩ := reps1 R
    cases r with
    | tup ha r => exact ⟨_, _, rfl, .inr ⟨ha.sq, q _ _ nokeep (.tup ha r)⟩⟩
  · cases hz
def boolsD : List D → Option (List Bool)
  | [] => some []
  | .bool b :: r => (boolsD r).map fun bs => b :: bs
  | _ :: _ => none
theorem Reps.bools {K M H} : ∀ {vs ds bs}, Reps K M H vs ds → boolsD ds = some bs → vs = bs.map V.bl
  | _, _, _, .nil, h => by cases h; rfl
  | _, _, _, .cons r t, h => by
    cases r <;> first | (simp [boolsD] at h; done) | skip
    simp only [boolsD] at h
    obtain ⟨bs, e1, e2⟩ := Option.map_eq_some_iff.mp h
    subst e2
    rw [Reps.bools t e1]; rfl
def anyD : List D → Option D
  | [.list ds] => (boolsD ds).map fun bs => .bool (bs.any id)
  | _ => none
def allD : List D → Option D
  | [.list ds] => (boolsD ds).map fun bs => .bool (bs.all id)
  | _ => none
theorem cs_any {K} : CallS K (rAny K) anyD := fun F σ H ρ δ xs ds z G R hz Q q => by
  unfold anyD at hz
  split at hz
  · obtain ⟨bs, e1, e2⟩ := Option.map_eq_some_iff.mp hz
    subst e2
    obtain ⟨v, rfl, r⟩ := reps1 R
    cases r with
    | lst ha r => exact ⟨_, bs, rfl, by rw [← r.bools e1]; exact ha.sq, q _ _ nokeep (.bl _)⟩
  · cases hz
theorem cs_all {K} : CallS K (rAll K) allD := fun F σ H ρ δ xs ds z G R hz Q q => by
  unfold allD at hz
  split at hz
  · obtain ⟨bs, e1, e2⟩ := Option.map_eq_some_iff.mp hz
    subst e2
    obtain ⟨v, rfl, r⟩ := reps1 R
    cases r with
    | lst ha r => exact ⟨_, bs, rfl, by rw [← r.bools e1]; exact ha.sq, q _ _ nokeep (.bl _)⟩
  · cases hz
def divmodD : List D → Option D
  | [.int i, .int j] => if 0 < j ∧ j < 1073741824 then some (.tuple [.int (i / j), .int (i % j)]) else none
  | _ => none
theorem cs_divmod {K} : CallS K (fun xs H Q => ∃ i j, xs = [.int i, .int j] ∧ CDiv i j ∧ ∀ p, H p = none → Q (.ref p) (upd H p (.tup [.int (i / j), .int (i % j)]))) divmodD := fun F σ H ρ δ xs ds z G R hz Q q => by
  unfold divmodD at hz
  split at hz
  · split at hz
    · rename_i hc
      cases hz
      obtain ⟨v, w, rfl, r, r'⟩ := reps2 R
      cases r; cases r'
      refine ⟨_, _, rfl, hc, fun p hp => q _ _ (upd_keeps hp) (.tup (.inl ⟨G.mfree hp, upd_same⟩ rfl) (.cons (.int _) (.cons (.int _) .nil)))⟩
    · cases hz
  · cases hz
section
variable {x : Str}
theorem pd_len (hm : X.mg "len" = none) (ha : PDA X (e :: es) r) (hg : Gl X "len" := by rfl) (he : starEach (e :: es) X.env = (false, eval e X.env) :: starEach es X.env := by rfl) (hpl : (backTo pos (starEach es X.env)).any (·.1) = false := by rfl) : PD X (.Call (.Name "len" p) (e :: es) [] pos) (mCall lenD r) := pd_cb PySem.boot_len call_len cs_len ha hg hm (by decide) (by decide) he hpl
theorem pd_max (hm : X.mg "max" = none) (hc : X.calm = true) (ha : PDA X (e :: es) r) (hg : Gl X "max" := by rfl) (he : starEach (e :: es) X.env = (false, eval e X.env) :: starEach es X.env := by rfl) (hpl : (backTo pos (starEach es X.env)).any (·.1) = false := by rfl) : PD X (.Call (.Name "max" p) (e :: es) [] pos) (mCall maxD r) := pd_cb (by decide +kernel) (call_max2 hc) cs_max ha hg hm (by decide) (by decide) he hpl
theorem pd_min (hm : X.mg "min" = none) (hc : X.calm = true) (ha : PDA X (e :: es) r) (hg : Gl X "min" := by rfl) (he : starEach (e :: es) X.env = (false, eval e X.env) :: starEach es X.env := by rfl) (hpl : (backTo pos (starEach es X.env)).any (·.1) = false := by rfl) : PD X (.Call (.Name "min" p) (e :: es) [] pos) (mCall minD r) := pd_cb (by decide +kernel) (call_min2 hc) cs_min ha hg hm (by decide) (by decide) he hpl
theorem pd_any (hm : X.mg "any" = none) (hc : X.calm = true) (ha : PDA X (e :: es) r) (hg : Gl X "any" := by rfl) (he : starEach (e :: es) X.env = (false, eval e X.env) :: starEach es X.env := by rfl) (hpl : (backTo pos (starEach es X.env)).any (·.1) = false := by rfl) : PD X (.Call (.Name "any" p) (e :: es) [] pos) (mCall anyD r) := pd_cb (by decide +kernel) (cr_any hc) cs_any ha hg hm (by decide) (by decide) he hpl
theorem pd_all (hm : X.mg "all" = none) (hc : X.calm = true) (ha : PDA X (e :: es) r) (hg : Gl X "all" := by rfl) (he : starEach (e :: es) X.env = (false, eval e X.env) :: starEach es X.env := by rfl) (hpl : (backTo pos (starEach es X.env)).any (·.1) = false := by rfl) : PD X (.Call (.Name "all" p) (e :: es) [] pos) (mCall allD r) := pd_cb (by decide +kernel) (cr_all hc) cs_all ha hg hm (by decide) (by decide) he hpl
theorem pd_divmod (hm : X.mg "divmod" = none) (ha : PDA X (e :: es) r) (hg : Gl X "divmod" := by rfl) (he : starEach (e :: es) X.env = (false, eval e X.env) :: starEach es X.env := by rfl) (hpl : (backTo pos (starEach es X.env)).any (·.1) = false := by rfl) : PD X (.Call (.Name "divmod" p) (e :: es) [] pos) (mCall divmodD r) := pd_cb (by decide +kernel) call_divmod cs_divmod ha hg hm (by decide) (by decide) he hpl
theorem pd_cint (hm : X.mg "int" = none) (ha : PDA X (e :: es) r) (hg : Gl X "int" := by rfl) (he : starEach (e :: es) X.env = (false, eval e X.env) :: starEach es X.env := by rfl) (hpl : (backTo pos (starEach es X.env)).any (·.1) = false := by rfl) : PD X (.Call (.Name "int" p) (e :: es) [] pos) (mCall intD r) := pd_ct (by decide +kernel) call_int1 cs_int ha hg hm (by decide) (by decide) he hpl
theorem pd_clist (hm : X.mg "list" = none) (ha : PDA X (e :: es) r) (hg : Gl X "list" := by rfl) (he : starEach (e :: es) X.env = (false, eval e X.env) :: starEach es X.env := by rfl) (hpl : (backTo pos (starEach es X.env)).any (·.1) = false := by rfl) : PD X (.Call (.Name "list" p) (e :: es) [] pos) (mCall listD r) := pd_ct (by decide +kernel) call_list_of cs_list ha hg hm (by decide) (by decide) he hpl
theorem pd_ctup (hm : X.mg "tuple" = none) (ha : PDA X (e :: es) r) (hg : Gl X "tuple" := by rfl) (he : starEach (e :: es) X.env = (false, eval e X.env) :: starEach es X.env := by rfl) (hpl : (backTo pos (starEach es X.env)).any (·.1) = false := by rfl) : PD X (.Call (.Name "tuple" p) (e :: es) [] pos) (mCall tupD r) := pd_ct (by decide +kernel) call_tupleP cs_tup ha hg hm (by decide) (by decide) he hpl
end
def tyD : D → String
  | .none => "NoneType" | .bool _ => "bool" | .int _ => "int" | .str _ => "str" | .list _ => "list" | .tuple _ => "tuple" | .dict _ => "dict"
def isiD (T : String) (d : D) : Option D := (kitB (tyD d) T).map .bool
theorem Rep.ty {K M H v d} (r : Rep K M H v d) : TyX K H v (.type (tyD d)) := by
  cases r with
  | non => exact .base .non
  | bl b => exact .base (.bl b)
  | int b => exact .base (.int b)
  | str b => exact .base (.str b)
  | lst a r => exact .base (.lst a.2)
  | tup a r =>
    rcases a with ⟨⟨_, a⟩, _⟩ | ⟨⟨o, its, n, e, c, _⟩, _⟩ | ⟨_, o, a, _⟩ | ⟨_, o, a, _, _⟩
    · exact .base (.tup a)
    · exact .kTuple e c
    · exact .fTuple a
    · exact .fTuple a
  | dic n e r =>
    rcases e with e | ⟨o, e⟩
    · exact .base (.dK e)
    · exact .fDict e
theorem pd_isi {T : Str} {t : String} {p2 : Pos} (hv : bootBuiltins T = some (.type t)) (hm : X.mg "isinstance" = none) (hT : X.mg T = none) (ha : PD X a ma) (hg : Gl X "isinstance" := by rfl) (hgT : Gl X T := by rfl)
    (hn : T ≠ "__name__" := by decide) (hd : (T == ("__debug__" : Str)) = false := by decide) (hs1 : starEach [a, .Name T p2] X.env = (false, eval a X.env) :: starEach [.Name T p2] X.env := by rfl) (hs2 : starEach [Expr.Name T p2] X.env = (false, eval (.Name T p2) X.env) :: starEach [] X.env := by rfl)
    (hpl : (backTo pos (starEach [Expr.Name T p2] X.env)).any (·.1) = false := by rfl) :
    PD X (.Call (.Name "isinstance" p) [a, .Name T p2] [] pos) (mUn (isiD t) ma) := by
  obtain ⟨ta, h1, s1⟩ := ha.ex
  refine ⟨_, pe_callB call_isi hg hm (by decide +kernel) (pa_cons h1 (pa_cons (pe_bltn (v := .ty t) hgT hT hv rfl hn hd) pa_nil hs2) hs1) (by decide) (by decide) hs1 hpl, fun F σ H ρ δ d δ' G e Q q => ?_⟩
  obtain ⟨⟨x, δ1⟩, e1, e⟩ := Option.bind_eq_some_iff.mp e
  obtain ⟨z, e3, e⟩ := Option.map_eq_some_iff.mp e
  cases e
  refine s1 F σ H ρ δ x δ1 G e1 _ fun v H1 G1 M1 R1 => ?_
  unfold isiD at e3
  obtain ⟨bb, e4, e5⟩ := Option.map_eq_some_iff.mp e3
  subst e5
  exact ⟨v, .ty t, _, _, bb, rfl, .ty t, R1.ty, kit_ty e4, q _ _ G1 M1 (.bl _)⟩
def strsD : List D → Option (List Str)
  | [] => some []
  | .str b :: r => (strsD r).map fun bs => b :: bs
  | _ :: _ => none
theorem Reps.strs {K M H} : ∀ {vs ds bs}, Reps K M H vs ds → strsD ds = some bs → vs = bs.map V.str
  | _, _, _, .nil, h => by cases h; rfl
  | _, _, _, .cons r t, h => by
    cases r <;> first | (simp [strsD] at h; done) | skip
    simp only [strsD] at h
    obtain ⟨bs, e1, e2⟩ := Option.map_eq_some_iff.mp h
    subst e2
    rw [Reps.strs t e1]; rfl
def joinSz (a : Str) (ys : List Str) : Bool := decide ((ys.map (·.length)).sum + ys.length * a.length ≤ 16777216)
def joinD : D → D → Option D
  | .str a, .list ds => (strsD ds).bind fun ys => if joinSz a ys then some (.str (Txt.join a ys)) else none
  | .str a, .tuple ds => (strsD ds).bind fun ys => if joinSz a ys then some (.str (Txt.join a ys)) else none
  | _, _ => none
theorem pd_join {apos : Pos} (ha : PD X a ma) (hb : PD X b mb) (hs : starEach [b] X.env = [(false, eval b X.env)] := by rfl) (hbase : attributeBase a "join" X.env (eval a X.env) = eval a X.env := by rfl) (hline : (apos.endLine == pos.line) = true := by rfl) :
    PD X (.Call (.Attribute a "join" apos) [b] [] pos) (mBin joinD ma mb) := by
  obtain ⟨ta, h1, s1⟩ := ha.ex
  obtain ⟨tb, h2, s2⟩ := hb.ex
  refine ⟨_, pe_join h1 h2 hs hbase hline, fun F σ H ρ δ d δ' G e Q q => ?_⟩
  obtain ⟨⟨x, δ1⟩, e1, e⟩ := Option.bind_eq_some_iff.mp e
  obtain ⟨⟨y, δ2⟩, e2, e⟩ := Option.bind_eq_some_iff.mp e
  obtain ⟨z, e3, e⟩ := Option.map_eq_some_iff.mp e
  cases e
  refine s1 F σ H ρ δ x δ1 G e1 _ fun v H1 G1 M1 R1 => ?_
  dsimp only at e3
  unfold joinD at e3
  split at e3
  · cases R1
    refine ⟨⟨_, rfl⟩, s2 F σ H1 ρ δ1 _ _ G1 e2 _ fun u H2 G2 M2 R2 => ?_⟩
    obtain ⟨ys, e4, e5⟩ := Option.bind_eq_some_iff.mp e3
    split at e5
    · rename_i hz
      cases e5
      cases R2 with
      | lst ha r => exact ⟨_, _, ys, rfl, rfl, .inl (by rw [← r.strs e4]; exact ha.sq), of_decide_eq_true hz, q _ _ G2 (M1.trans M2) (.str _)⟩
    · cases e5
  · cases R1
    refine ⟨⟨_, rfl⟩, s2 F σ H1 ρ δ1 _ _ G1 e2 _ fun u H2 G2 M2 R2 => ?_⟩
    obtain ⟨ys, e4, e5⟩ := Option.bind_eq_some_iff.mp e3
    split at e5
    · rename_i hz
      cases e5
      cases R2 with
      | tup ha r => exact ⟨_, _, ys, rfl, rfl, .inr (by rw [← r.strs e4]; exact ha.sq), of_decide_eq_true hz, q _ _ G2 (M1.trans M2) (.str _)⟩
    · cases e5
  · cases e3
/-- a def without the deck: it leaves all as it is -/
def spP (K : PySem.W.Frag) (m : List D → Option D) : Sp := fun vs H Q _ => ∃ (M : Addr → Prop) (ds : List D) (r : D), (∀ a, M a → mtO (H a)) ∧ Reps K M H vs ds ∧ m ds = some r ∧ ∀ v H', (∀ a o, H a = some o → H' a = some o) → Rep K M H' v r → Q v H'
/-- a def whose first argument is the deck -/
def spK (K : PySem.W.Frag) (m : List D → Dk → Option (D × Dk)) : Sp := fun vs H Q _ => ∃ (M : Addr → Prop) (p : DP) (ws : List V) (ds : List D) (δ : Dk) (r : D) (δ' : Dk), vs = .ref p.1 :: ws ∧ (∀ a, M a → mtO (H a)) ∧ M p.1 ∧ M p.2 ∧ M p.3 ∧ DeckAt H p δ ∧
  Reps K M H ws ds ∧ m ds δ = some (r, δ') ∧ ∀ v H', (∀ a o, a ≠ p.1 → a ≠ p.2 → a ≠ p.3 → H a = some o → H' a = some o) → DeckAt H' p δ' → Rep K M H' v r → Q v H'
theorem Good.mm {K F σ H ρ δ} (G : Good K F σ H ρ δ) : ∀ a, Mm F σ ρ a → mtO (H a) := fun a h => by
  rcases h with h | ⟨i, ds, e1, e2⟩
  · exact G.m0 a h
  · obtain ⟨b, xs, e3, e4, r, _⟩ := G.own i ds e1
    rw [e2] at e3
    cases e3
    rw [e4]
    exact r.mt
theorem pd_callP {CX : CXT} {k : Nat} {f : Addr} {fd : FuncData} {ps : List Str} {m : List D → Option D} {x : Str} {E : XK} (Fn : FnOk X.prog X.w X.K X.mg X.base CX k f fd ps (spP X.K m)) (hr : Room k X.A) (hm : X.mg x = some (.ref f)) (hk : PySem.W.keepIn X.K (.ref f) = true) (hb : Binds X.K fd ps []) (hx : Passes CX X E)
    (ha : PDA X (e :: es) r) (hg : Gl X x := by rfl) (hdb : (x == ("__debug__" : Str)) = false := by decide) (he : starEach (e :: es) X.env = (false, eval e X.env) :: starEach es X.env := by rfl) (hpl : (backTo pos (starEach es X.env)).any (·.1) = false := by rfl) :
    PD X (.Call (.Name x p) (e :: es) [] pos) (mCall m r) := by
  obtain ⟨t, h1, s1⟩ := ha.ex
  refine ⟨_, pe_call Fn hr hg hm hk hb .nil hx h1 hdb he hpl, fun F σ H ρ δ d δ' G e Q q => ?_⟩
  obtain ⟨⟨ds, δ1⟩, e1, e⟩ := Option.bind_eq_some_iff.mp e
  obtain ⟨z, e3, e⟩ := Option.map_eq_some_iff.mp e
  cases e
  refine s1 F σ H ρ δ ds _ G e1 _ fun vs H1 G1 M1 R1 => ?_
  rw [List.append_nil]
  exact ⟨_, ds, _, G1.mm, R1, e3, fun v H2 k R2 => q v H2 (G1.keep k) (M1.trans (Mv.same k)) R2⟩
def mCallK (i : Nat) (m : List D → Dk → Option (D × Dk)) (r : MA) : ME := fun ρ δ => match ρ[i]? with
  | some (.fix .deck) => (r ρ δ).bind fun p => m p.1 p.2
  | _ => none
theorem Good.deck {K F σ H H' ρ δ δ' p} (G : Good K F σ H ρ δ) (hp : F.dk = some p) (k : ∀ a o, a ≠ p.1 → a ≠ p.2 → a ≠ p.3 → H a = some o → H' a = some o) (hd : DeckAt H' p δ') : Good K F σ H' ρ δ' ∧ Mv (Mm F σ ρ) H (Mm F σ ρ) H' := by
  obtain ⟨d1, d2, d4, d3⟩ := G.dck p hp
  have mv : Mv (Mm F σ ρ) H (Mm F σ ρ) H' := fun a o e n => ⟨k a o (fun z => n (by rw [z]; exact .inl d1)) (fun z => n (by rw [z]; exact .inl d2)) (fun z => n (by rw [z]; exact .inl d4)) e, n⟩
  refine ⟨⟨G.len, fun i d e => ?_, fun i ds e => ?_, G.inj, fun a ha => ?_, G.dsl, fun p' hp' => ?_, fun a o e n => ?_⟩, mv⟩
  · obtain ⟨v, e1, r⟩ := G.val i d e
    exact ⟨v, e1, r.mv mv⟩
  · obtain ⟨a, xs, e1, e2, r, n⟩ := G.own i ds e
    exact ⟨a, xs, e1, k a _ (fun z => n.1 (by rw [z]; exact d1)) (fun z => n.1 (by rw [z]; exact d2)) (fun z => n.1 (by rw [z]; exact d4)) e2, r.mv mv, n⟩
  · by_cases h1 : a = p.1
    · rw [h1, hd.one]; trivial
    · by_cases h2 : a = p.2
      · rw [h2, hd.two]; trivial
      · by_cases h3 : a = p.3
        · rw [h3, hd.tri]; trivial
        · exact (G.m0 a ha).keep fun o e => k a o h1 h2 h3 e
  · rw [hp] at hp'; cases hp'
    exact ⟨d1, d2, d4, hd⟩
  · exact k a o (n p hp).1 (n p hp).2.1 (n p hp).2.2 (G.fr a o e n)
theorem pd_callK (i : Nat) {CX : CXT} {k : Nat} {f : Addr} {fd : FuncData} {ps : List Str} {m : List D → Dk → Option (D × Dk)} {x y : Str} {E : XK} {py : Pos} (Fn : FnOk X.prog X.w X.K X.mg X.base CX k f fd ps (spK X.K m)) (hr : Room k X.A) (hm : X.mg x = some (.ref f)) (hk : PySem.W.keepIn X.K (.ref f) = true) (hb : Binds X.K fd ps []) (hx : Passes CX X E)
    (ha : PDA X es r) (hN : X.N[i]? = some y := by rfl) (hv : Vis X.env.scope y := by first | exact Or.inl rfl | exact Or.inr (Or.inl rfl) | exact Or.inr (Or.inr rfl)) (hyd : (y == ("__debug__" : Str)) = false := by decide) (hcd : (y == ("__classdict__" : Str)) = false := by decide)
    (hg : Gl X x := by rfl) (hdb : (x == ("__debug__" : Str)) = false := by decide) (he : starEach (.Name y py :: es) X.env = (false, eval (.Name y py) X.env) :: starEach es X.env := by rfl) (hpl : (backTo pos (starEach es X.env)).any (·.1) = false := by rfl) :
    PD X (.Call (.Name x p) (.Name y py :: es) [] pos) (mCallK i m r) := by
  obtain ⟨t, h1, s1⟩ := ha.ex
  refine ⟨_, pe_call Fn hr hg hm hk hb .nil hx (pa_cons (pe_var hN hv hyd hcd) h1 he) hdb he hpl, fun F σ H ρ δ d δ' G e Q q => ?_⟩
  unfold mCallK at e
  split at e
  · rename_i hi
    obtain ⟨⟨ds, δ1⟩, e1, e⟩ := Option.bind_eq_some_iff.mp e
    obtain ⟨pp, hp, hs⟩ := G.dsl i hi
    refine ⟨_, hs, s1 F σ H ρ δ ds _ G e1 _ fun vs H1 G1 M1 R1 => ?_⟩
    dsimp only
    rw [List.append_nil]
    obtain ⟨d1, d2, d4, d3⟩ := G1.dck pp hp
    exact ⟨_, pp, vs, ds, δ1, d, δ', rfl, G1.mm, .inl d1, .inl d2, .inl d4, d3, R1, e, fun v H2 k hd R2 => q v H2 (G1.deck hp k hd).1 (M1.trans (G1.deck hp k hd).2) R2⟩
  · cases e
end
end PD
namespace PD
open PySem PySem.Spec PyProof.Rows L2
def Walks (K : PySem.W.Frag) (M : Addr → Prop) (H : Hp) (J : It) (ds : List D) : Prop := ∀ M2 H2, Mv M H M2 H2 → (∀ a, M2 a → mtO (H2 a)) → ∀ i : Nat,
  (i < ds.length → J.go i H2 ∧ ∀ x H3, J.yld i H2 x H3 → (∀ a o, H2 a = some o → H3 a = some o) ∧ ∃ d, ds[i]? = some d ∧ Rep K M2 H3 x d) ∧ (ds.length ≤ i → J.stop i H2)
structure PDI (X : Cx) (tg iter : Expr) (m : MA) : Prop where
  ex : ∃ wi, PI X tg iter wi ∧ ∀ F σ H ρ δ ds δ', Good X.K F σ H ρ δ → m ρ δ = some (ds, δ') → ∀ R : It → Hp → Prop,
    (∀ J H', Good X.K F σ H' ρ δ' → Mv (Mm F σ ρ) H (Mm F σ ρ) H' → Walks X.K (Mm F σ ρ) H' J ds → R J H') → wi σ H R
def itemsD : D → Option (List D)
  | .list ds => some ds
  | .tuple ds => some ds
  | .str x => some (x.cps.toList.map fun c => .str ⟨#[c]⟩)
  | _ => none
def mItems (m : ME) : MA := fun ρ δ => (m ρ δ).bind fun p => (itemsD p.1).map fun z => (z, p.2)
theorem walk_list {K M H a xs ds} (h : AL K M H a xs) (r : Reps K M H xs ds) : Walks K M H (Itl K a) ds := fun M2 H2 mv _ i => by
  have h2 := h.mv mv
  have r2 := r.mv mv
  have hl := r.length
  refine ⟨fun hi => ⟨⟨xs, xs[i], h2.sq, by simp [hl, hi]⟩, fun x H3 y => ?_⟩, fun hi => ⟨xs, h2.sq, by omega⟩⟩
  obtain ⟨rfl, y2⟩ := y
  obtain ⟨d, e, rr⟩ := r2.get (y2 xs h2.sq)
  exact ⟨fun _ _ h => h, d, e, rr⟩
theorem walk_tup {K M H a xs ds} (h : AT K M H a xs) (r : Reps K M H xs ds) : Walks K M H (Itt K a) ds := fun M2 H2 mv _ i => by
  have h2 := h.mv mv
  have r2 := r.mv mv
  have hl := r.length
  refine ⟨fun hi => ⟨⟨xs, xs[i], h2.sq, by simp [hl, hi]⟩, fun x H3 y => ?_⟩, fun hi => ⟨xs, h2.sq, by omega⟩⟩
  obtain ⟨rfl, y2⟩ := y
  obtain ⟨d, e, rr⟩ := r2.get (y2 xs h2.sq)
  exact ⟨fun _ _ h => h, d, e, rr⟩
theorem walk_str {K M H} (x : Str) : Walks K M H (Its x) (x.cps.toList.map fun c => .str ⟨#[c]⟩) := fun M2 H2 mv _ i => by
  refine ⟨fun hi => ⟨?_, fun y H3 z => ?_⟩, fun hi => ?_⟩
  · simpa [Its] using hi
  · obtain ⟨rfl, c, e1, rfl⟩ := z
    exact ⟨fun _ _ h => h, .str ⟨#[c]⟩, by rw [List.getElem?_map, Array.getElem?_toList, e1]; rfl, .str _⟩
  · simpa [Its] using hi
theorem reps_ints {K M H} (f : Nat → Int) : ∀ ns : List Nat, Reps K M H (ns.map fun i => V.int (f i)) (ns.map fun i => PyData.int (f i))
  | [] => .nil
  | n :: r => .cons (.int _) (reps_ints f r)
theorem walk_range {K M H} (lo : Int) (n : Nat) : Walks K M H (Itr lo n) ((List.range n).map fun (i : Nat) => .int (lo + (i : Int))) := fun M2 H2 mv _ i => by
  refine ⟨fun hi => ⟨?_, fun y H3 z => ?_⟩, fun hi => ?_⟩
  · simpa [Itr] using hi
  · obtain ⟨rfl, rfl⟩ := z
    simp at hi
    exact ⟨fun _ _ h => h, .int (lo + (i : Int)), by rw [List.getElem?_map, List.getElem?_range hi]; rfl, .int _⟩
  · simpa [Itr] using hi
section
variable {X : Cx} {a b tg : Expr} {ma mb : ME} {p pos : Pos}
theorem pdi_seq (ha : PD X a ma) : PDI X tg a (mItems ma) := by
  obtain ⟨ta, h1, s1⟩ := ha.ex
  refine ⟨fun σ H R => iList X.K ta σ H R ∨ iTup X.K ta σ H R ∨ iStr ta σ H R, ⟨fun pins s σ H R I q => ?_⟩, fun F σ H ρ δ ds δ' G e R q => ?_⟩
  · rcases q with q | q | q
    · exact (pi_list h1).run pins s σ H R I q
    · exact (pi_tup h1).run pins s σ H R I q
    · exact (pi_str h1).run pins s σ H R I q
  · obtain ⟨⟨x, δ1⟩, e1, e⟩ := Option.bind_eq_some_iff.mp e
    obtain ⟨z, e3, e⟩ := Option.map_eq_some_iff.mp e
    cases e
    cases x <;> first | (simp [itemsD] at e3; done) | skip
    · cases e3
      refine .inr (.inr (s1 F σ H ρ δ _ _ G e1 _ fun v H1 G1 M1 R1 => ?_))
      cases R1
      exact ⟨_, rfl, q _ _ G1 M1 (walk_str _)⟩
    · cases e3
      refine .inl (s1 F σ H ρ δ _ _ G e1 _ fun v H1 G1 M1 R1 => ?_)
      cases R1 with
      | lst ha r => exact ⟨_, rfl, ⟨_, ha.sq⟩, q _ _ G1 M1 (walk_list ha r)⟩
    · cases e3
      refine .inr (.inl (s1 F σ H ρ δ _ _ G e1 _ fun v H1 G1 M1 R1 => ?_))
      cases R1 with
      | tup ha r => exact ⟨_, rfl, ⟨_, ha.sq⟩, q _ _ G1 M1 (walk_tup ha r)⟩
def inB (j : Int) : Bool := decide (-(2 ^ 62) ≤ j ∧ j < 2 ^ 62)
def mRng1 (m : ME) : MA := fun ρ δ => (m ρ δ).bind fun p => match p.1 with
  | .int j => if inB j then some ((List.range j.toNat).map fun (i : Nat) => .int (0 + (i : Int)), p.2) else none
  | _ => none
theorem pdi_range1 (hm : X.mg "range" = none) (ha : PD X a ma) (hg : Gl X "range" := by rfl) (hs : starEach [a] X.env = [(false, eval a X.env)] := by rfl) : PDI X tg (.Call (.Name "range" p) [a] [] pos) (mRng1 ma) := by
  obtain ⟨ta, h1, s1⟩ := ha.ex
  refine ⟨_, pi_range1 hg hm (pa_cons h1 pa_nil hs) hs, fun F σ H ρ δ ds δ' G e R q => ?_⟩
  obtain ⟨⟨x, δ1⟩, e1, e⟩ := Option.bind_eq_some_iff.mp e
  refine s1 F σ H ρ δ _ _ G e1 _ fun v H1 G1 M1 R1 => ?_
  dsimp only at e
  split at e
  · split at e
    · rename_i hb
      have hb := of_decide_eq_true hb
      cases e
      cases R1
      exact ⟨_, rfl, hb.1, hb.2, q _ _ G1 M1 (walk_range 0 _)⟩
    · cases e
  · cases e
end
abbrev MG := D → List Sl → Option (List Sl)
structure Set1 (sl : List Nat) (σ σ' : L2.St) (ρ ρ' : List Sl) : Prop where
  ls : σ'.length = σ.length
  lr : ρ'.length = ρ.length
  s : ∀ j, j ∉ sl → σ'[j]? = σ[j]?
  r : ∀ j, j ∉ sl → ρ'[j]? = ρ[j]?
  u : ∀ (j : Nat) ds, ρ'[j]? = some (.own ds) → ρ[j]? = some (.own ds) ∧ j ∉ sl
structure PDG (X : Cx) (tg : Expr) (sl : List Nat) (m : MG) : Prop where
  ex : ∃ g, PG X tg g ∧ ∀ F σ H ρ δ v d ρ', Good X.K F σ H ρ δ → Rep X.K (Mm F σ ρ) H v d → m d ρ = some ρ' → ∀ Q : L2.St → Hp → Prop,
    (∀ σ', Good X.K F σ' H ρ' δ → Mv (Mm F σ ρ) H (Mm F σ' ρ') H → Set1 sl σ σ' ρ ρ' → Q σ' H) → g v σ H Q
theorem Mm_set {F σ ρ i v d a} (h : Mm F (σ.set i (some v)) (ρ.set i (.val d)) a) : Mm F σ ρ a := by
  rcases h with h | ⟨j, ds, e1, e2⟩
  · exact .inl h
  · by_cases hj : i = j
    · subst hj
      by_cases hl : i < ρ.length
      · rw [List.getElem?_set_self hl] at e1; cases e1
      · rw [List.getElem?_eq_none (by simpa using hl)] at e1; cases e1
    · rw [List.getElem?_set_ne hj] at e1 e2
      exact .inr ⟨j, ds, e1, e2⟩
theorem Good.set {K F σ H ρ δ v d} (G : Good K F σ H ρ δ) (i : Nat) (r : Rep K (Mm F σ ρ) H v d) : Good K F (σ.set i (some v)) H (ρ.set i (.val d)) δ ∧ Mv (Mm F σ ρ) H (Mm F (σ.set i (some v)) (ρ.set i (.val d))) H := by
  have mv : Mv (Mm F σ ρ) H (Mm F (σ.set i (some v)) (ρ.set i (.val d))) H := fun a o e n => ⟨e, fun z => n (Mm_set z)⟩
  have un : ∀ (j : Nat) ds, (ρ.set i (.val d))[j]? = some (.own ds) → i ≠ j ∧ ρ[j]? = some (.own ds) := fun j ds e => by
    by_cases hj : i = j
    · subst hj
      by_cases hl : i < ρ.length
      · rw [List.getElem?_set_self hl] at e; cases e
      · rw [List.getElem?_eq_none (by simpa using hl)] at e; cases e
    · rw [List.getElem?_set_ne hj] at e
      exact ⟨hj, e⟩
  refine ⟨⟨by rw [List.length_set, List.length_set]; exact G.len, fun j e h => ?_, fun j ds e => ?_, fun j k ds es a e1 e2 e3 e4 => ?_, G.m0, fun j e => ?_, G.dck, G.fr⟩, mv⟩
  · by_cases hj : i = j
    · subst hj
      by_cases hl : i < ρ.length
      · rw [List.getElem?_set_self hl] at h; cases h
        exact ⟨v, List.getElem?_set_self (by rw [G.len]; exact hl), r.mv mv⟩
      · rw [List.getElem?_eq_none (by simpa using hl)] at h; cases h
    · rw [List.getElem?_set_ne hj] at h ⊢
      obtain ⟨w, e1, r1⟩ := G.val j e h
      exact ⟨w, e1, r1.mv mv⟩
  · obtain ⟨hj, e⟩ := un j ds e
    obtain ⟨a, xs, e1, e2, r1, n⟩ := G.own j ds e
    exact ⟨a, xs, by rw [List.getElem?_set_ne hj]; exact e1, e2, r1.mv mv, n⟩
  · obtain ⟨hj, e1⟩ := un j ds e1
    obtain ⟨hk, e2⟩ := un k es e2
    rw [List.getElem?_set_ne hj] at e3
    rw [List.getElem?_set_ne hk] at e4
    exact G.inj j k ds es a e1 e2 e3 e4
  · by_cases hj : i = j
    · subst hj
      by_cases hl : i < ρ.length
      · rw [List.getElem?_set_self hl] at e; cases e
      · rw [List.getElem?_eq_none (by simpa using hl)] at e; cases e
    · rw [List.getElem?_set_ne hj] at e ⊢
      exact G.dsl j e
theorem Set1.set {σ ρ v d} (i : Nat) : Set1 [i] σ (σ.set i (some v)) ρ (ρ.set i (.val d)) where
  ls := List.length_set
  lr := List.length_set
  s := fun j h => List.getElem?_set_ne (fun e => h (by simp [e]))
  r := fun j h => List.getElem?_set_ne (fun e => h (by simp [e]))
  u := fun j ds e => by
    by_cases hj : i = j
    · subst hj
      by_cases hl : i < ρ.length
      · rw [List.getElem?_set_self hl] at e; cases e
      · rw [List.getElem?_eq_none (by simpa using hl)] at e; cases e
    · rw [List.getElem?_set_ne hj] at e
      exact ⟨e, by simp; exact fun z => hj z.symm⟩
theorem Set1.refl {σ ρ} : Set1 [] σ σ ρ ρ := ⟨rfl, rfl, fun _ _ => rfl, fun _ _ => rfl, fun _ _ e => ⟨e, by simp⟩⟩
theorem Set1.trans {sl sl' σ σ1 σ2 ρ ρ1 ρ2} (h : Set1 sl σ σ1 ρ ρ1) (g : Set1 sl' σ1 σ2 ρ1 ρ2) : Set1 (sl ++ sl') σ σ2 ρ ρ2 where
  ls := g.ls.trans h.ls
  lr := g.lr.trans h.lr
  s := fun j hj => by simp only [List.mem_append, not_or] at hj; rw [g.s j hj.2, h.s j hj.1]
  r := fun j hj => by simp only [List.mem_append, not_or] at hj; rw [g.r j hj.2, h.r j hj.1]
  u := fun j ds e => by
    obtain ⟨e1, n1⟩ := g.u j ds e
    obtain ⟨e2, n2⟩ := h.u j ds e1
    exact ⟨e2, by simp only [List.mem_append, not_or]; exact ⟨n2, n1⟩⟩
def gSet (i : Nat) : MG := fun d ρ => some (ρ.set i (.val d))
section
variable {X : Cx} {pos : Pos}
theorem pdg_name (i : Nat) {x : Str} (hN : X.N.Nodup) (hi : X.N[i]? = some x := by rfl) (hx : Loc X.env.scope x := by first | exact Or.inl rfl | exact Or.inr rfl) (hf : X.fn x = true ∨ X.env.scope.names.lookup x = some .local := by first | exact .inl rfl | exact .inr rfl | assumption) : PDG X (.Name x pos) [i] (gSet i) :=
  ⟨_, pg_name hN hi hx hf, fun F σ H ρ δ v d ρ' G r e Q q => by
    cases e
    obtain ⟨G1, M1⟩ := G.set i r
    exact q _ G1 M1 (Set1.set i)⟩
abbrev MGs := List D → List Sl → Option (List Sl)
structure PDGs (X : Cx) (tgs : List Expr) (sl : List Nat) (m : MGs) : Prop where
  ex : ∃ g, PGs X tgs g ∧ ∀ F σ H ρ δ v d ρ', Good X.K F σ H ρ δ → Reps X.K (Mm F σ ρ) H v d → m d ρ = some ρ' → ∀ Q : L2.St → Hp → Prop,
    (∀ σ', Good X.K F σ' H ρ' δ → Mv (Mm F σ ρ) H (Mm F σ' ρ') H → Set1 sl σ σ' ρ ρ' → Q σ' H) → g v σ H Q
def gsNil : MGs := fun ds ρ => match ds with
  | [] => some ρ
  | _ => none
def gsCons (m : MG) (r : MGs) : MGs := fun ds ρ => match ds with
  | d :: ds => (m d ρ).bind fun ρ1 => r ds ρ1
  | [] => none
theorem pdgs_nil : PDGs X [] [] gsNil := ⟨_, pgs_nil, fun F σ H ρ δ v d ρ' G r e Q q => by
  cases r with
  | nil => cases e; exact ⟨rfl, q _ G (Mv.refl _ _) Set1.refl⟩
  | cons _ _ => cases e⟩
theorem pdgs_cons {e : Expr} {es : List Expr} {sl sl' : List Nat} {m : MG} {r : MGs} (h1 : PDG X e sl m) (h2 : PDGs X es sl' r) (hs : (assignEach (e :: es) X.env).map (·.2) = assign e X.env :: (assignEach es X.env).map (·.2) := by rfl) : PDGs X (e :: es) (sl ++ sl') (gsCons m r) := by
  obtain ⟨g, p1, s1⟩ := h1.ex
  obtain ⟨g', p2, s2⟩ := h2.ex
  refine ⟨_, pgs_cons p1 p2 hs, fun F σ H ρ δ v d ρ' G r e Q q => ?_⟩
  cases r with
  | nil => cases e
  | cons r t =>
    obtain ⟨ρ1, e1, e2⟩ := Option.bind_eq_some_iff.mp e
    refine ⟨_, _, rfl, s1 F σ H ρ δ _ _ ρ1 G r e1 _ fun σ1 G1 M1 T1 => ?_⟩
    exact s2 F σ1 H ρ1 δ _ _ ρ' G1 (t.mv M1) e2 _ fun σ2 G2 M2 T2 => q _ G2 (M1.trans M2) (T1.trans T2)
def gTupM (n : Nat) (m : MGs) : MG := fun d ρ => match d with
  | .tuple ds => if ds.length = n then m ds ρ else none
  | _ => none
theorem pdg_tup {es : List Expr} {k n : Nat} {sl : List Nat} {m : MGs} (hc : X.calm = true) (h : PDGs X es sl m) (hn : (assignEach es X.env).length = n := by rfl) (hst : (assignEach es X.env).findIdx? (·.1) = none := by rfl) : PDG X (.Tuple es k pos) sl (gTupM n m) := by
  obtain ⟨g, p1, s1⟩ := h.ex
  refine ⟨_, pg_tup hc p1 hn hst, fun F σ H ρ δ v d ρ' G r e Q q => ?_⟩
  unfold gTupM at e
  split at e
  · split at e
    · rename_i hl
      cases r with
      | tup ha r => exact ⟨_, _, rfl, ha.sq, by rw [r.length]; exact hl, s1 F σ H ρ δ _ _ ρ' G r e _ q⟩
    · cases e
  · cases e
end
end PD
namespace PD
open PySem PySem.Spec PyProof.Rows L2
def wipeR (ρ : List Sl) : List Nat → List Sl
  | [] => ρ
  | v :: vs => (wipeR ρ vs).set v .no
def noU (ρ : List Sl) (vs : List Nat) : Bool := vs.all fun i => match ρ[i]? with
  | some (.own _) => false
  | _ => true
theorem noU_of {ρ vs i ds} (h : noU ρ vs = true) (hi : i ∈ vs) (e : ρ[i]? = some (.own ds)) : False := by
  have := List.all_eq_true.mp h i hi
  rw [e] at this
  cases this
theorem wipeR_length (ρ : List Sl) : ∀ vs, (wipeR ρ vs).length = ρ.length
  | [] => rfl
  | v :: vs => by unfold wipeR; rw [List.length_set, wipeR_length ρ vs]
theorem wipe_get (σ : L2.St) (i : Nat) : ∀ vs : List Nat, (wipe σ vs)[i]? = if i ∈ vs then (if i < σ.length then some none else none) else σ[i]?
  | [] => by simp [wipe]
  | v :: vs => by
    unfold wipe
    by_cases hv : v = i
    · subst hv
      by_cases hl : v < σ.length
      · rw [List.getElem?_set_self (by rw [wipe_length]; exact hl)]; simp [hl]
      · rw [List.getElem?_eq_none (by rw [List.length_set, wipe_length]; omega)]; simp [hl]
    · rw [List.getElem?_set_ne hv, wipe_get σ i vs]
      simp [Ne.symm hv]
theorem wipeR_get (ρ : List Sl) (i : Nat) : ∀ vs : List Nat, (wipeR ρ vs)[i]? = if i ∈ vs then (if i < ρ.length then some .no else none) else ρ[i]?
  | [] => by simp [wipeR]
  | v :: vs => by
    unfold wipeR
    by_cases hv : v = i
    · subst hv
      by_cases hl : v < ρ.length
      · rw [List.getElem?_set_self (by rw [wipeR_length]; exact hl)]; simp [hl]
      · rw [List.getElem?_eq_none (by rw [List.length_set, wipeR_length]; omega)]; simp [hl]
    · rw [List.getElem?_set_ne hv, wipeR_get ρ i vs]
      simp [Ne.symm hv]
theorem wipeR_uni {ρ vs i ds} (h : (wipeR ρ vs)[i]? = some (.own ds)) : i ∉ vs ∧ ρ[i]? = some (.own ds) := by
  rw [wipeR_get] at h
  by_cases hi : i ∈ vs
  · rw [if_pos hi] at h; split at h <;> cases h
  · rw [if_neg hi] at h; exact ⟨hi, h⟩
theorem Mm_wipe {F σ ρ vs} (h : noU ρ vs = true) : Mm F (wipe σ vs) (wipeR ρ vs) = Mm F σ ρ := by
  funext a
  refine propext ⟨fun z => ?_, fun z => ?_⟩
  · rcases z with z | ⟨i, ds, e1, e2⟩
    · exact .inl z
    · obtain ⟨hi, e1⟩ := wipeR_uni e1
      rw [wipe_get, if_neg hi] at e2
      exact .inr ⟨i, ds, e1, e2⟩
  · rcases z with z | ⟨i, ds, e1, e2⟩
    · exact .inl z
    · have hi : i ∉ vs := fun q => noU_of h q e1
      exact .inr ⟨i, ds, by rw [wipeR_get, if_neg hi]; exact e1, by rw [wipe_get, if_neg hi]; exact e2⟩
theorem Good.wipe {K F σ H ρ δ vs} (G : Good K F σ H ρ δ) (h : noU ρ vs = true) : Good K F (L2.wipe σ vs) H (wipeR ρ vs) δ := by
  refine ⟨by rw [wipe_length, wipeR_length]; exact G.len, fun i d e => ?_, fun i ds e => ?_, fun i j ds es a e1 e2 e3 e4 => ?_, G.m0, fun i e => ?_, G.dck, G.fr⟩
  · rw [Mm_wipe h]
    by_cases hi : i ∈ vs
    · rw [wipeR_get, if_pos hi] at e; split at e <;> cases e
    · rw [wipeR_get, if_neg hi] at e
      rw [wipe_get, if_neg hi]
      exact G.val i d e
  · rw [Mm_wipe h]
    obtain ⟨hi, e⟩ := wipeR_uni e
    rw [wipe_get, if_neg hi]
    exact G.own i ds e
  · obtain ⟨hi, e1⟩ := wipeR_uni e1
    obtain ⟨hj, e2⟩ := wipeR_uni e2
    rw [wipe_get, if_neg hi] at e3
    rw [wipe_get, if_neg hj] at e4
    exact G.inj i j ds es a e1 e2 e3 e4
  · by_cases hi : i ∈ vs
    · rw [wipeR_get, if_pos hi] at e; split at e <;> cases e
    · rw [wipeR_get, if_neg hi] at e
      rw [wipe_get, if_neg hi]
      exact G.dsl i e
/-- the frame with one more address that may change -/
def Fr.plus (F : Fr) (D : Addr) : Fr := { F with M0 := fun a => F.M0 a ∨ a = D }
theorem Mm_plus {F σ ρ D} : Mm (F.plus D) σ ρ = fun a => Mm F σ ρ a ∨ a = D := by
  funext a
  refine propext ⟨fun z => ?_, fun z => ?_⟩
  · rcases z with (z | z) | z
    · exact .inl (.inl z)
    · exact .inr z
    · exact .inl (.inr z)
  · rcases z with (z | z) | z
    · exact .inl (.inl z)
    · exact .inr z
    · exact .inl (.inr z)
/-- a new object that is to be changed -/
theorem Good.plus {K F σ H ρ δ D o} (G : Good K F σ H ρ δ) (h : H D = none) (ho : mtO (some o) := by trivial) : Good K (F.plus D) σ (upd H D o) ρ δ ∧ Mv (Mm F σ ρ) H (Mm (F.plus D) σ ρ) (upd H D o) := by
  have mv : Mv (Mm F σ ρ) H (Mm (F.plus D) σ ρ) (upd H D o) := fun a u e n => ⟨upd_keeps h a u e, by rw [Mm_plus]; exact fun z => z.elim n (ne_of_none e h)⟩
  refine ⟨⟨G.len, fun i d e => ?_, fun i ds e => ?_, G.inj, fun a ha => ?_, fun {k} i e => (G.dsl i e).mo rfl (fun a u t e1 n1 => ⟨e1, fun z => z.elim n1 fun z => by rw [z] at e1 n1; have := G.frT e1 n1; rw [h] at this; cases this⟩) (Nat.le_refl _), fun p e => ?_, fun a u e n => upd_keeps h _ _ (G.fr a u e n)⟩, mv⟩
  · obtain ⟨v, e1, r⟩ := G.val i d e
    exact ⟨v, e1, r.mv mv⟩
  · obtain ⟨a, xs, e1, e2, r, n⟩ := G.own i ds e
    exact ⟨a, xs, e1, upd_keeps h _ _ e2, r.mv mv, fun z => z.elim n.1 (ne_of_none e2 h), n.2⟩
  · rcases ha with ha | ha
    · exact (G.m0 a ha).keep fun u e => upd_keeps h a u e
    · rw [ha, upd_same]; exact ho
  · obtain ⟨d1, d2, d4, d3⟩ := G.dck p e
    exact ⟨.inl d1, .inl d2, .inl d4, d3.ne, d3.ne2, d3.ne3, upd_keeps h _ _ d3.one, upd_keeps h _ _ d3.two, upd_keeps h _ _ d3.tri⟩
/-- the object is changed -/
theorem Good.write {K F σ H H1 ρ δ D o} (G0 : ∃ σ ρ δ, Good K F σ H1 ρ δ) (hD : H1 D = none) (G : Good K (F.plus D) σ H ρ δ) (ho : mtO (some o) := by trivial) : Good K (F.plus D) σ (upd H D o) ρ δ ∧ Mv (Mm (F.plus D) σ ρ) H (Mm (F.plus D) σ ρ) (upd H D o) := by
  obtain ⟨σ0, ρ0, δ0, G0⟩ := G0
  have mv : Mv (Mm (F.plus D) σ ρ) H (Mm (F.plus D) σ ρ) (upd H D o) := fun a u e n => ⟨by rw [upd_ne (fun z => n (by rw [Mm_plus]; exact .inr z))]; exact e, n⟩
  refine ⟨⟨G.len, fun i d e => ?_, fun i ds e => ?_, G.inj, fun a ha => ?_, G.dsl, fun p e => ?_, fun a u e n => ?_⟩, mv⟩
  · obtain ⟨v, e1, r⟩ := G.val i d e
    exact ⟨v, e1, r.mv mv⟩
  · obtain ⟨a, xs, e1, e2, r, n⟩ := G.own i ds e
    exact ⟨a, xs, e1, by rw [upd_ne (fun z => n.1 (.inr z))]; exact e2, r.mv mv, n⟩
  · by_cases hz : a = D
    · rw [hz, upd_same]; exact ho
    · rw [upd_ne hz]; exact G.m0 a ha
  · obtain ⟨d1, d2, d4, d3⟩ := G.dck p e
    obtain ⟨c1, c2, c4, c3⟩ := G0.dck p e
    exact ⟨d1, d2, d4, d3.ne, d3.ne2, d3.ne3, by rw [upd_ne (ne_of_none c3.one hD)]; exact d3.one, by rw [upd_ne (ne_of_none c3.two hD)]; exact d3.two, by rw [upd_ne (ne_of_none c3.tri hD)]; exact d3.tri⟩
  · have e1 := G0.fr a u e n
    rw [upd_ne (ne_of_none e1 hD)]
    exact G.fr a u e n
/-- back from the block -/
theorem Good.back {K F σ H H1 ρ δ δ1 D vs} (G1 : Good K F σ H1 ρ δ1) (hu : noU ρ vs = true) (hD : H1 D = none) (G : Good K (F.plus D) (L2.wipe σ vs) H (wipeR ρ vs) δ) (mv : Mv (Mm F σ ρ) H1 (Mm F σ ρ) H) : Good K F σ H ρ δ := by
  have an : Mv (Mm (F.plus D) (L2.wipe σ vs) (wipeR ρ vs)) H (Mm F σ ρ) H := fun a o e n => ⟨e, fun z => n (by rw [Mm_wipe hu, Mm_plus]; exact .inl z)⟩
  refine ⟨G1.len, fun i d e => ?_, fun i ds e => ?_, G1.inj, fun a ha => G.m0 a (.inl ha), G1.dsl, fun p e => ?_, G.fr⟩
  · obtain ⟨v, e1, r⟩ := G1.val i d e
    exact ⟨v, e1, r.mv mv⟩
  · have hi : i ∉ vs := fun q => noU_of hu q e
    obtain ⟨a, xs, e1, e2, r, n⟩ := G.own i ds (by rw [wipeR_get, if_neg hi]; exact e)
    rw [wipe_get, if_neg hi] at e1
    exact ⟨a, xs, e1, e2, r.mv an, fun z => n.1 (.inl z), n.2⟩
  · obtain ⟨_, _, _, d3⟩ := G.dck p e
    obtain ⟨d1, d2, d4, _⟩ := G1.dck p e
    exact ⟨d1, d2, d4, d3⟩
theorem list_ext {α : Type} {l l' : List α} (h : ∀ i : Nat, l[i]? = l'[i]?) : l = l' := List.ext_getElem? h
theorem Set1.wipes {sl vs σ σ' ρ ρ'} (h : Set1 sl σ σ' ρ ρ') (hs : ∀ i ∈ sl, i ∈ vs) : L2.wipe σ' vs = L2.wipe σ vs ∧ wipeR ρ' vs = wipeR ρ vs := by
  constructor
  · refine list_ext fun i => ?_
    rw [wipe_get, wipe_get, h.ls]
    by_cases hi : i ∈ vs
    · rw [if_pos hi, if_pos hi]
    · rw [if_neg hi, if_neg hi]; exact h.s i fun q => hi (hs i q)
  · refine list_ext fun i => ?_
    rw [wipeR_get, wipeR_get, h.lr]
    by_cases hi : i ∈ vs
    · rw [if_pos hi, if_pos hi]
    · rw [if_neg hi, if_neg hi]; exact h.r i fun q => hi (hs i q)
theorem wipe_wipe (σ : L2.St) (vs) : L2.wipe (L2.wipe σ vs) vs = L2.wipe σ vs := list_ext fun i => by
  rw [wipe_get, wipe_length, wipe_get]
  by_cases hi : i ∈ vs
  · rw [if_pos hi, if_pos hi]
  · rw [if_neg hi, if_neg hi]
theorem wipeR_wipeR (ρ : List Sl) (vs) : wipeR (wipeR ρ vs) vs = wipeR ρ vs := list_ext fun i => by
  rw [wipeR_get, wipeR_length, wipeR_get]
  by_cases hi : i ∈ vs
  · rw [if_pos hi, if_pos hi]
  · rw [if_neg hi, if_neg hi]
theorem noU_wipe (ρ : List Sl) (vs) : noU (wipeR ρ vs) vs = true := List.all_eq_true.mpr fun i hi => by
  rw [wipeR_get, if_pos hi]
  split <;> rename_i h
  · split at h <;> cases h
  · rfl
theorem Set1.noU {sl vs σ σ' ρ ρ'} (h : Set1 sl σ σ' ρ ρ') (hu : PD.noU ρ vs = true) : PD.noU ρ' vs = true := List.all_eq_true.mpr fun i hi => by
  split
  · rename_i ds e
    exact (noU_of hu hi (h.u i _ e).1).elim
  · rfl
/-- the frame with one more object that stays -/
def Fr.pin (F : Fr) (D : Addr) (o : HO) : Fr := { F with H0 := upd F.H0 D o }
theorem Mm_pin {F D o σ ρ} : Mm (F.pin D o) σ ρ = Mm F σ ρ := rfl
theorem Good.pin {K F σ H ρ δ D o} (G : Good K F σ H ρ δ) (hM : F.M0 D) (h : H D = some o) : Good K (F.pin D o) σ H ρ δ := ⟨G.len, G.val, fun i ds e => by
  obtain ⟨a, xs, e1, e2, r, n⟩ := G.own i ds e
  exact ⟨a, xs, e1, e2, r, n.1, n.2.mo fun n2 => (upd_ne (a := D) (b := a) (fun z => n.1 (by rw [z]; exact hM))).trans n2⟩, G.inj, G.m0, fun {k} i e => (G.dsl i e).mo rfl (fun a u t e1 n1 => ⟨(upd_ne (a := D) (b := a) (fun z => n1 (by rw [z]; exact hM))).trans e1, n1⟩) (Nat.le_refl _), G.dck, fun a u e n => by
  by_cases hz : a = D
  · subst hz
    have : upd F.H0 a o a = some u := e
    rw [upd_same] at this
    cases this
    exact h
  · have : upd F.H0 D o a = some u := e
    rw [upd_ne hz] at this
    exact G.fr a u this n⟩
theorem Good.unpin {K F σ H ρ δ D o} (h0 : F.H0 D = none) (hM : F.M0 D) (G : Good K (F.pin D o) σ H ρ δ) : Good K F σ H ρ δ := ⟨G.len, G.val, fun i ds e => by
  obtain ⟨a, xs, e1, e2, r, n⟩ := G.own i ds e
  exact ⟨a, xs, e1, e2, r, n.1, n.2.mo fun n2 => (upd_ne (a := D) (b := a) (fun z => n.1 (by rw [z]; exact hM))).symm.trans n2⟩, G.inj, G.m0, fun {k} i e => (G.dsl i e).mo rfl (fun a u t e1 n1 => ⟨(upd_ne (a := D) (b := a) (fun z => n1 (by rw [z]; exact hM))).symm.trans e1, n1⟩) (Nat.le_refl _), G.dck, fun a u e n => G.fr a u (by
  show upd F.H0 D o a = some u
  rw [upd_ne (ne_of_none e h0)]
  exact e) n⟩
theorem Good.fresh0 {K F σ H ρ δ D} (G : Good K F σ H ρ δ) (h : H D = none) : F.H0 D = none := by
  cases e : F.H0 D with
  | none => rfl
  | some o =>
    have := G.fr D o e fun p hp => ⟨(ne_of_none (G.dck p hp).2.2.2.one h).symm, (ne_of_none (G.dck p hp).2.2.2.two h).symm, (ne_of_none (G.dck p hp).2.2.2.tri h).symm⟩
    rw [h] at this
    cases this
def compL (g : MG) (tt : MT) (te : ME) (ρ : List Sl) : List D → Dk → Option (List D × Dk)
  | [], δ => some ([], δ)
  | d :: ds, δ => (g d ρ).bind fun ρ2 => (tt ρ2 δ).bind fun p => if p.1 = true then (te ρ2 p.2).bind fun q => (compL g tt te ρ ds q.2).map fun r => (q.1 :: r.1, r.2) else compL g tt te ρ ds p.2
def mLc (mi : MA) (vs : List Nat) (g : MG) (tt : MT) (te : ME) : ME := fun ρ δ => (mi ρ δ).bind fun p => if noU ρ vs = true then (compL g tt te (wipeR ρ vs) p.1 p.2).bind fun q => if q.1.length ≤ sizeLine then some (.list q.1, q.2) else none else none
structure PDTs (X : Cx) (ifs : List Expr) (m : MT) : Prop where
  ex : ∃ t, PTs X ifs t ∧ SndT X.K t m
def mYes : MT := fun _ δ => some (true, δ)
theorem pdts_nil {X : Cx} : PDTs X [] mYes := ⟨_, pts_nil, fun F σ H ρ δ d δ' G e Q q => by cases e; exact q _ G (Mv.refl _ _)⟩
theorem pdts_one {X : Cx} {c : Expr} {m : MT} (h : PDT X c m) : PDTs X [c] m := by
  obtain ⟨t, h1, s1⟩ := h.ex
  exact ⟨_, pts_one h1, s1⟩
theorem lc_in {K : PySem.W.Frag} {g : TG} {tt : TT} {te : TE} {vs : List Nat} {mg : MG} {mt : MT} {me : ME} {sl : List Nat} {F : Fr} {σ : L2.St} {H1 : Hp} {ρ : List Sl} {δ1 δ2 : Dk} {J : It} {ds out : List D} {Q : VK}
    (hg : ∀ F σ H ρ δ v d ρ', Good K F σ H ρ δ → Rep K (Mm F σ ρ) H v d → mg d ρ = some ρ' → ∀ Q : L2.St → Hp → Prop, (∀ σ', Good K F σ' H ρ' δ → Mv (Mm F σ ρ) H (Mm F σ' ρ') H → Set1 sl σ σ' ρ ρ' → Q σ' H) → g v σ H Q)
    (ht : SndT K tt mt) (he : Snd K te me) (hs : ∀ i ∈ sl, i ∈ vs) (hu : noU ρ vs = true) (e2 : compL mg mt me (wipeR ρ vs) ds δ1 = some (out, δ2)) (hz : out.length ≤ sizeLine) (G1 : Good K F σ H1 ρ δ1) (Wk : Walks K (Mm F σ ρ) H1 J ds)
    (q : ∀ v H', Good K F σ H' ρ δ2 → Mv (Mm F σ ρ) H1 (Mm F σ ρ) H' → Rep K (Mm F σ ρ) H' v (.list out) → Q v H') : ∀ D, H1 D = none → ∃ W : Nat → Nat → Hp → Prop, (∃ m, W 0 m (upd H1 D (.lst []))) ∧ ∀ i m H, W i m H →
      (J.stop i H ∧ Q (.ref D) H) ∨ (J.go i H ∧ ∃ Nx : Hp → Prop, (∀ H', Nx H' → ∃ m', m' < m ∧ W (i + 1) m' H') ∧ ∀ x H', J.yld i H x H' → g x (L2.wipe σ vs) H' fun σ2 H2 => L2.wipe σ2 vs = L2.wipe σ vs ∧ tt σ2 H2 fun b H3 =>
        if b = true then te σ2 H3 fun y H4 => ∃ acc, H4 D = some (.lst acc) ∧ acc.length < sizeLine ∧ Nx (upd H4 D (.lst (acc ++ [y]))) else Nx H3) := fun D hD => by
  have GW := G1.wipe (vs := vs) hu
  obtain ⟨GP, MP⟩ := GW.plus (o := .lst []) hD
  rw [Mm_wipe hu] at MP
  have nDk : ∀ p, F.dk = some p → D ≠ p.1 ∧ D ≠ p.2 ∧ D ≠ p.3 := fun p hp => ⟨(ne_of_none (G1.dck p hp).2.2.2.one hD).symm, (ne_of_none (G1.dck p hp).2.2.2.two hD).symm, (ne_of_none (G1.dck p hp).2.2.2.tri hD).symm⟩
  have hD0 : (F.plus D).H0 D = none := G1.fresh0 hD
  -- the sets that may change
  have eM : Mm (F.plus D) (L2.wipe σ vs) (wipeR ρ vs) = Mm (F.plus D) σ ρ := Mm_wipe hu
  rw [eM] at MP
  refine ⟨fun i m H => m = ds.length - i ∧ i ≤ ds.length ∧ ∃ δ3 done rest acc, Good K (F.plus D) (L2.wipe σ vs) H (wipeR ρ vs) δ3 ∧ Mv (Mm F σ ρ) H1 (Mm (F.plus D) σ ρ) H ∧ H D = some (.lst acc) ∧ Reps K (Mm (F.plus D) σ ρ) H acc done ∧
    compL mg mt me (wipeR ρ vs) (ds.drop i) δ3 = some (rest, δ2) ∧ done ++ rest = out, ⟨_, rfl, Nat.zero_le _, δ1, [], out, [], GP, MP, upd_same, .nil, e2, rfl⟩, ?_⟩
  rintro i m H2 ⟨rfl, hile, δ3, done, rest, acc, G2, M2, hacc, racc, ec, eo⟩
  have wf2 : ∀ a, Mm (F.plus D) σ ρ a → mtO (H2 a) := by rw [← eM]; exact G2.mm
  by_cases hlt : i < ds.length
  · obtain ⟨go, yl⟩ := (Wk _ H2 M2 wf2 i).1 hlt
    have hld : i < ds.length := hlt
    rw [List.drop_eq_getElem_cons hld] at ec
    refine .inr ⟨go, fun H' => ∃ δ3 done rest acc, Good K (F.plus D) (L2.wipe σ vs) H' (wipeR ρ vs) δ3 ∧ Mv (Mm F σ ρ) H1 (Mm (F.plus D) σ ρ) H' ∧ H' D = some (.lst acc) ∧ Reps K (Mm (F.plus D) σ ρ) H' acc done ∧
      compL mg mt me (wipeR ρ vs) (ds.drop (i + 1)) δ3 = some (rest, δ2) ∧ done ++ rest = out, fun H' h => ⟨ds.length - (i + 1), by omega, rfl, hlt, h⟩, fun x H3 hy => ?_⟩
    obtain ⟨kp, dx, edx, rdx⟩ := yl x H3 hy
    rw [List.getElem?_eq_getElem hld] at edx
    cases edx
    replace G2 := G2.keep kp
    replace M2 := M2.trans (Mv.same kp)
    replace hacc := kp _ _ hacc
    replace racc := racc.mv (Mv.same kp)
    unfold compL at ec
    obtain ⟨ρ2, f1, ec⟩ := Option.bind_eq_some_iff.mp ec
    obtain ⟨⟨b, δ4⟩, f2, ec⟩ := Option.bind_eq_some_iff.mp ec
    dsimp only at ec
    refine hg ((F.plus D).pin D (.lst acc)) (L2.wipe σ vs) H3 (wipeR ρ vs) δ3 x _ ρ2 (G2.pin (.inr rfl) hacc) (by rw [Mm_pin, eM]; exact rdx) f1 _ fun σ2 G3 M3 T3 => ?_
    obtain ⟨w1, w2⟩ := T3.wipes hs
    rw [wipe_wipe] at w1
    rw [wipeR_wipeR] at w2
    have hu2 : noU ρ2 vs = true := T3.noU (noU_wipe ρ vs)
    have eM2 : Mm (F.plus D) σ2 ρ2 = Mm (F.plus D) σ ρ := by
      rw [← Mm_wipe hu2, w1, w2, eM]
    rw [Mm_pin, Mm_pin, eM2, eM] at M3
    refine ⟨w1, ht ((F.plus D).pin D (.lst acc)) σ2 H3 ρ2 δ3 b δ4 G3 f2 _ fun H4 G4 M4 => ?_⟩
    rw [Mm_pin, eM2] at M4
    cases b with
    | false =>
      refine iteF ?_
      rw [if_neg Bool.false_ne_true] at ec
      have GB := (Good.unpin hD0 (.inr rfl) G4).wipe hu2
      rw [w1, w2] at GB
      exact ⟨δ4, done, rest, acc, GB, M2.trans M4, G4.fr D _ upd_same nDk, racc.mv M4, ec, eo⟩
    | true =>
      refine iteT ?_
      rw [if_pos rfl] at ec
      obtain ⟨⟨y, δ5⟩, f3, ec⟩ := Option.bind_eq_some_iff.mp ec
      obtain ⟨⟨more, δ6⟩, f4, ec⟩ := Option.map_eq_some_iff.mp ec
      cases ec
      refine he ((F.plus D).pin D (.lst acc)) σ2 H4 ρ2 δ4 y δ5 G4 f3 _ fun v H5 G5 M5 R5 => ?_
      rw [Mm_pin, eM2] at M5 R5
      have hD5 := G5.fr D _ upd_same nDk
      have GB := (Good.unpin hD0 (.inr rfl) G5).wipe hu2
      rw [w1, w2] at GB
      obtain ⟨GC, MC⟩ := GB.write ⟨_, _, _, G1⟩ hD (o := .lst (acc ++ [v]))
      rw [eM] at MC
      refine ⟨acc, hD5, ?_, δ5, done ++ [y], more, acc ++ [v], GC, ((M2.trans M4).trans M5).trans MC, upd_same, ((racc.mv (M4.trans M5)).append (.cons R5 .nil)).mv MC, f4, by rw [← eo]; simp⟩
      have : out.length = done.length + (more.length + 1) := by rw [← eo]; simp
      rw [racc.length]
      omega
  · have hi' : i = ds.length := by omega
    subst hi'
    refine .inl ⟨(Wk _ H2 M2 wf2 ds.length).2 (Nat.le_refl _), ?_⟩
    rw [List.drop_of_length_le (Nat.le_refl _)] at ec
    cases ec
    rw [List.append_nil] at eo
    subst eo
    have an : Mv (Mm (F.plus D) σ ρ) H2 (Mm F σ ρ) H2 := fun a o e n => ⟨e, fun z => n (by rw [Mm_plus]; exact .inl z)⟩
    have M3 := M2.trans an
    exact q _ _ (G1.back hu hD G2 M3) M3 (.lst ⟨G1.mfree hD, hacc⟩ (racc.mv an))
theorem snd_lc {K wi g tt te vs mi mg mt me} {sl : List Nat} (hi : ∀ F σ H ρ δ ds δ', Good K F σ H ρ δ → mi ρ δ = some (ds, δ') → ∀ R : It → Hp → Prop, (∀ J H', Good K F σ H' ρ δ' → Mv (Mm F σ ρ) H (Mm F σ ρ) H' → Walks K (Mm F σ ρ) H' J ds → R J H') → wi σ H R)
    (hg : ∀ F σ H ρ δ v d ρ', Good K F σ H ρ δ → Rep K (Mm F σ ρ) H v d → mg d ρ = some ρ' → ∀ Q : L2.St → Hp → Prop, (∀ σ', Good K F σ' H ρ' δ → Mv (Mm F σ ρ) H (Mm F σ' ρ') H → Set1 sl σ σ' ρ ρ' → Q σ' H) → g v σ H Q)
    (ht : SndT K tt mt) (he : Snd K te me) (hs : ∀ i ∈ sl, i ∈ vs) : Snd K (tLc wi g tt te vs) (mLc mi vs mg mt me) := fun F σ H ρ δ d δ' G e Q q => by
  unfold mLc at e
  obtain ⟨⟨ds, δ1⟩, e1, e⟩ := Option.bind_eq_some_iff.mp e
  dsimp only at e
  split at e
  · rename_i hu
    obtain ⟨⟨out, δ2⟩, e2, e⟩ := Option.bind_eq_some_iff.mp e
    dsimp only at e
    split at e
    · rename_i hz
      obtain ⟨rfl, rfl⟩ : PyData.list out = d ∧ δ2 = δ' := by
        have := Option.some.inj e
        exact ⟨congrArg Prod.fst this, congrArg Prod.snd this⟩
      exact hi F σ H ρ δ ds δ1 G e1 _ fun J H1 G1 M1 Wk => lc_in hg ht he hs hu e2 hz G1 Wk fun v H' G' M' R => q v H' G' (M1.trans M') R
    · cases e
  · cases e
end PD
namespace PD
open PySem PySem.Spec PyProof.Rows L2
section
variable {X : Cx} {elt tg iter : Expr} {ifs : List Expr} {scope : Scope} {own : List (Str × Nat)} {pos : Pos} {mi : MA} {mg : MG} {mt : MT} {me : ME} {sl : List Nat}
structure Blk (X : Cx) (scope : Scope) (own : List (Str × Nat)) (tg : Expr) (ifs : List Expr) (elt : Expr) (sl : List Nat) (mg : MG) (mt : MT) (me : ME) : Prop where
  g : ∀ (s : Shared) (H : Hp) (C : Addr) (cl : List (Str × Addr)) (fp : List Addr), PDG (X.blk s H scope (compEnvC scope cl C X.env) fp) tg sl mg
  t : ∀ (s : Shared) (H : Hp) (C : Addr) (cl : List (Str × Addr)) (fp : List Addr), PDTs (X.blk s H scope (compEnvC scope cl C X.env) fp) ifs mt
  e : ∀ (s : Shared) (H : Hp) (C : Addr) (cl : List (Str × Addr)) (fp : List Addr), PD (X.blk s H scope (compEnvC scope cl C X.env) fp) elt me
  o : ∀ i ∈ sl, i ∈ own.map (·.2)
theorem Blk.all (B : Blk X scope own tg ifs elt sl mg mt me) : ∃ (g : TG) (tt : TT) (te : TE),
    (∀ (s : Shared) (H : Hp) (C : Addr) (cl : List (Str × Addr)) (fp : List Addr), PG (X.blk s H scope (compEnvC scope cl C X.env) fp) tg g) ∧ (∀ (s : Shared) (H : Hp) (C : Addr) (cl : List (Str × Addr)) (fp : List Addr), PTs (X.blk s H scope (compEnvC scope cl C X.env) fp) ifs tt) ∧
    (∀ (s : Shared) (H : Hp) (C : Addr) (cl : List (Str × Addr)) (fp : List Addr), PE (X.blk s H scope (compEnvC scope cl C X.env) fp) elt te) ∧
    (∀ F σ H ρ δ v d ρ', Good X.K F σ H ρ δ → Rep X.K (Mm F σ ρ) H v d → mg d ρ = some ρ' → ∀ Q : L2.St → Hp → Prop, (∀ σ', Good X.K F σ' H ρ' δ → Mv (Mm F σ ρ) H (Mm F σ' ρ') H → Set1 sl σ σ' ρ ρ' → Q σ' H) → g v σ H Q) ∧
    SndT X.K tt mt ∧ Snd X.K te me := by
  refine ⟨fun v σ H Q => ∀ s h C cl fp, (B.g s h C cl fp).ex.choose v σ H Q, fun σ H Q => ∀ s h C cl fp, (B.t s h C cl fp).ex.choose σ H Q, fun σ H Q => ∀ s h C cl fp, (B.e s h C cl fp).ex.choose σ H Q,
    fun s h C cl fp => ⟨fun pins s' σ H v u Q I r q => (B.g s h C cl fp).ex.choose_spec.1.run pins s' σ H v u Q I r (q s h C cl fp)⟩,
    fun s h C cl fp => ⟨fun pins s' σ H Q I q => (B.t s h C cl fp).ex.choose_spec.1.run pins s' σ H Q I (q s h C cl fp)⟩,
    fun s h C cl fp => ⟨fun pins s' σ H Q I q => (B.e s h C cl fp).ex.choose_spec.1.run pins s' σ H Q I (q s h C cl fp)⟩,
    fun F σ H ρ δ v d ρ' G r e Q q s h C cl fp => (B.g s h C cl fp).ex.choose_spec.2 F σ H ρ δ v d ρ' G r e Q q,
    fun F σ H ρ δ d δ' G e Q q s h C cl fp => (B.t s h C cl fp).ex.choose_spec.2 F σ H ρ δ d δ' G e Q q,
    fun F σ H ρ δ d δ' G e Q q s h C cl fp => (B.e s h C cl fp).ex.choose_spec.2 F σ H ρ δ d δ' G e Q q⟩
theorem pd_lc (hc : X.calm = true) (hN : X.N.Nodup) (hi : PDI X tg iter mi) (ok : BlkOk X.N X.env.scope scope own) (B : Blk X scope own tg ifs elt sl mg mt me) (hs : ∀ x, foldedSetIterable iter X.env x = pure x := by intro _; rfl) :
    PD X (.ListComp elt [⟨tg, iter, ifs, 0⟩] scope pos) (mLc mi (own.map (·.2)) mg mt me) := by
  obtain ⟨wi, h1, s1⟩ := hi.ex
  obtain ⟨g, tt, te, p1, p2, p3, s2, s3, s4⟩ := B.all
  exact ⟨_, pe_lc hc hN h1 ok p1 p2 p3 hs, snd_lc s1 s2 s3 s4 B.o⟩
end
inductive Fl where
  | nx | rt (d : D) | bk | ct
abbrev MS := List Sl → Dk → Option (Fl × List Sl × Dk)
def SndS (K : PySem.W.Frag) (t : TS) (m : MS) : Prop := ∀ F σ H ρ δ fl ρ' δ', Good K F σ H ρ δ → m ρ δ = some (fl, ρ', δ') → ∀ D : Ends,
  (∀ σ' H', Good K F σ' H' ρ' δ' → Mv (Mm F σ ρ) H (Mm F σ' ρ') H' → match fl with
    | .nx => D.nx σ' H'
    | .bk => D.bk σ' H'
    | .ct => D.ct σ' H'
    | .rt d => ∀ v, Rep K (Mm F σ' ρ') H' v d → D.rt v H') → t D σ H
structure PDS (X : Cx) (st : Stmt) (m : MS) : Prop where
  ex : ∃ t, PS X st t ∧ SndS X.K t m
structure PDSs (X : Cx) (sts : List Stmt) (m : MS) : Prop where
  ex : ∃ t, PSs X sts t ∧ SndS X.K t m
def sNext : MS := fun ρ δ => some (.nx, ρ, δ)
def sSeq (a b : MS) : MS := fun ρ δ => (a ρ δ).bind fun p => match p.1 with
  | .nx => b p.2.1 p.2.2
  | f => some (f, p.2)
theorem snd_next {K} : SndS K tNext sNext := fun F σ H ρ δ fl ρ' δ' G e D q => by
  cases e
  exact q σ H G (Mv.refl _ _)
theorem snd_seq {K t u a b} (h : SndS K t a) (g : SndS K u b) : SndS K (tSeq t u) (sSeq a b) := fun F σ H ρ δ fl ρ' δ' G e D q => by
  unfold sSeq at e
  obtain ⟨⟨f, ρ1, δ1⟩, e1, e⟩ := Option.bind_eq_some_iff.mp e
  cases f with
  | nx => exact h F σ H ρ δ .nx ρ1 δ1 G e1 _ fun σ1 H1 G1 M1 => g F σ1 H1 ρ1 δ1 fl ρ' δ' G1 e D fun σ2 H2 G2 M2 => q σ2 H2 G2 (M1.trans M2)
  | bk => cases e; exact h F σ H ρ δ _ _ _ G e1 _ fun σ1 H1 G1 M1 => q σ1 H1 G1 M1
  | ct => cases e; exact h F σ H ρ δ _ _ _ G e1 _ fun σ1 H1 G1 M1 => q σ1 H1 G1 M1
  | rt d => cases e; exact h F σ H ρ δ _ _ _ G e1 _ fun σ1 H1 G1 M1 => q σ1 H1 G1 M1
section
variable {X : Cx} {st : Stmt} {rest : List Stmt} {m m' : MS} {a b c e tg : Expr} {ma mb : ME} {nc : MT} {pos : Pos} {sl : List Nat} {mg : MG}
theorem pdss_nil : PDSs X [] sNext := ⟨_, pss_nil, snd_next⟩
theorem pdss_cons (h1 : PDS X st m) (h2 : PDSs X rest m') : PDSs X (st :: rest) (sSeq m m') := by
  obtain ⟨t, p1, s1⟩ := h1.ex
  obtain ⟨u, p2, s2⟩ := h2.ex
  exact ⟨_, pss_cons p1 p2, snd_seq s1 s2⟩
theorem pdss_one (h1 : PDS X st m) : PDSs X [st] m := by
  obtain ⟨t, p1, s1⟩ := h1.ex
  exact ⟨_, pss_one p1, s1⟩
/-- a list that grew, from now on as it is -/
def sFrz (i : Nat) (s : MS) : MS := fun ρ δ => match ρ[i]? with
  | some (.own (.lst ds)) => s (ρ.set i (.val (.list ds))) δ
  | _ => none
theorem snd_frz {K t s} (i : Nat) (h : SndS K t s) : SndS K t (sFrz i s) := fun F σ H ρ δ fl ρ' δ' G e D q => by
  unfold sFrz at e
  split at e
  · rename_i ds hi
    obtain ⟨a, xs, e1, e2, r, n⟩ := G.uni i ds hi
    have hl : i < ρ.length := by
      rcases Nat.lt_or_ge i ρ.length with h | h
      · exact h
      · rw [List.getElem?_eq_none h] at hi; cases hi
    have hset : σ.set i (some (.ref a)) = σ := by
      refine list_ext fun j => ?_
      by_cases hj : i = j
      · subst hj; rw [List.getElem?_set_self (by rw [G.len]; exact hl), e1]
      · rw [List.getElem?_set_ne hj]
    have hM : ∀ b, Mm F σ (ρ.set i (.val (.list ds))) b → Mm F σ ρ b ∧ b ≠ a := fun b z => by
      rcases z with z | ⟨j, es, f1, f2⟩
      · exact ⟨.inl z, fun y => n.1 (y ▸ z)⟩
      · by_cases hj : i = j
        · subst hj; rw [List.getElem?_set_self hl] at f1; cases f1
        · rw [List.getElem?_set_ne hj] at f1
          exact ⟨.inr ⟨j, es, f1, f2⟩, fun y => by subst y; exact hj (G.inj i j _ es b hi f1 e1 f2)⟩
    have mv : Mv (Mm F σ ρ) H (Mm F σ (ρ.set i (.val (.list ds)))) H := fun b o f g => ⟨f, fun z => g (hM b z).1⟩
    have un : ∀ (j : Nat) es, (ρ.set i (.val (.list ds)))[j]? = some (.own es) → ρ[j]? = some (.own es) := fun j es f => by
      by_cases hj : i = j
      · subst hj; rw [List.getElem?_set_self hl] at f; cases f
      · rw [List.getElem?_set_ne hj] at f; exact f
    have G1 : Good K F σ H (ρ.set i (.val (.list ds))) δ := by
      refine ⟨by rw [List.length_set]; exact G.len, fun j d f => ?_, fun j es f => ?_, fun j k es fs b f1 f2 f3 f4 => G.inj j k es fs b (un j es f1) (un k fs f2) f3 f4, G.m0, fun j f => ?_, G.dck, G.fr⟩
      · by_cases hj : i = j
        · subst hj
          rw [List.getElem?_set_self hl] at f
          cases f
          exact ⟨_, e1, .lst ⟨fun z => (hM a z).2 rfl, e2⟩ (r.mv mv)⟩
        · rw [List.getElem?_set_ne hj] at f
          obtain ⟨v, g1, g2⟩ := G.val j d f
          exact ⟨v, g1, g2.mv mv⟩
      · obtain ⟨b, ys, g1, g2, g3, g4⟩ := G.own j es (un j es f)
        exact ⟨b, ys, g1, g2, g3.mv mv, g4⟩
      · by_cases hj : i = j
        · subst hj; rw [List.getElem?_set_self hl] at f; cases f
        · rw [List.getElem?_set_ne hj] at f
          exact G.dsl j f
    exact h F σ H _ δ fl ρ' δ' G1 e D fun σ1 H1 G2 M2 => q σ1 H1 G2 (mv.trans M2)
  · cases e
theorem pdss_frz (i : Nat) (h : PDSs X rest m) : PDSs X rest (sFrz i m) := by
  obtain ⟨t, p1, s1⟩ := h.ex
  exact ⟨_, p1, snd_frz i s1⟩
def sAsg (me : ME) (g : MG) : MS := fun ρ δ => (me ρ δ).bind fun p => (g p.1 ρ).map fun ρ1 => (.nx, ρ1, p.2)
theorem snd_asg {K te g m mg} {sl : List Nat} (h : Snd K te m) (hg : ∀ F σ H ρ δ v d ρ', Good K F σ H ρ δ → Rep K (Mm F σ ρ) H v d → mg d ρ = some ρ' → ∀ Q : L2.St → Hp → Prop, (∀ σ', Good K F σ' H ρ' δ → Mv (Mm F σ ρ) H (Mm F σ' ρ') H → Set1 sl σ σ' ρ ρ' → Q σ' H) → g v σ H Q) : SndS K (tAsg te g) (sAsg m mg) := fun F σ H ρ δ fl ρ' δ' G e D q => by
  obtain ⟨⟨x, δ1⟩, e1, e⟩ := Option.bind_eq_some_iff.mp e
  obtain ⟨ρ1, e2, e⟩ := Option.map_eq_some_iff.mp e
  cases e
  exact h F σ H ρ δ x _ G e1 _ fun v H1 G1 M1 R1 => hg F σ H1 ρ _ v x _ G1 R1 e2 _ fun σ2 G2 M2 _ => q σ2 H1 G2 (M1.trans M2)
theorem pds_asg (he : PD X e ma) (hg : PDG X tg sl mg) (hs : swapsWithSole [tg] e pos.line X.env = pure false := by rfl) (hw : swappedStores [tg] e X.env = pure none := by rfl) (h1 : (assignEach [tg] X.env).map (·.2) = [assign tg X.env] := by rfl) : PDS X (.Assign [tg] e pos) (sAsg ma mg) := by
  obtain ⟨t, p1, s1⟩ := he.ex
  obtain ⟨g, p2, s2⟩ := hg.ex
  exact ⟨_, ps_asg p1 p2 hs hw h1, snd_asg s1 s2⟩
theorem pg_set {K} (i : Nat) : ∀ F σ H ρ δ v d ρ', Good K F σ H ρ δ → Rep K (Mm F σ ρ) H v d → gSet i d ρ = some ρ' → ∀ Q : L2.St → Hp → Prop, (∀ σ', Good K F σ' H ρ' δ → Mv (Mm F σ ρ) H (Mm F σ' ρ') H → Set1 [i] σ σ' ρ ρ' → Q σ' H) → gName i v σ H Q := fun F σ H ρ δ v d ρ' G r e Q q => by
  cases e
  exact q _ (G.set i r).1 (G.set i r).2 (Set1.set i)
theorem pds_set (i : Nat) {x : Str} {pos' : Pos} (hN : X.N.Nodup) (he : PD X e ma) (hi : X.N[i]? = some x := by rfl) (hx : Loc X.env.scope x := by first | exact Or.inl rfl | exact Or.inr rfl) (hs : swapsWith e (some (.Name x pos')) pos.line X.env = pure false := by rfl) (hf : X.fn x = true ∨ X.env.scope.names.lookup x = some .local := by first | exact .inl rfl | exact .inr rfl | assumption) : PDS X (.Assign [.Name x pos'] e pos) (sAsg ma (gSet i)) := by
  obtain ⟨t, p1, s1⟩ := he.ex
  exact ⟨_, ps_set hN hi hx p1 hs hf, snd_asg s1 (pg_set i)⟩
theorem pds_setLc (i : Nat) {y : Str} {py spos : Pos} {elt iter : Expr} {ifs : List Expr} {scope : Scope} {own : List (Str × Nat)} {mi : MA} {mt : MT} (hc : X.calm = true) (hN : X.N.Nodup) (hi : PDI X tg iter mi) (ok : BlkOk X.N X.env.scope scope own) (B : Blk X scope own tg ifs elt sl mg mt ma)
    (hsw : swapsWith (.ListComp elt [⟨tg, iter, ifs, 0⟩] scope pos) (some (.Name y py)) spos.line X.env = pure true) (hy : X.N[i]? = some y := by rfl) (hyl : X.env.scope.names.lookup y = some .local := by rfl)  (hs : ∀ x, foldedSetIterable iter X.env x = pure x := by intro _; rfl) :
    PDS X (.Assign [.Name y py] (.ListComp elt [⟨tg, iter, ifs, 0⟩] scope pos) spos) (sAsg (mLc mi (own.map (·.2)) mg mt ma) (gSet i)) := by
  obtain ⟨wi, h1, s1⟩ := hi.ex
  obtain ⟨g, tt, te, p1, p2, p3, s2, s3, s4⟩ := B.all
  exact ⟨_, ps_setLc hc hN hy hyl hsw h1 ok p1 p2 p3 hs, snd_asg (snd_lc s1 s2 s3 s4 B.o) (pg_set i)⟩
def sRet (m : ME) : MS := fun ρ δ => (m ρ δ).map fun p => (.rt p.1, ρ, p.2)
theorem pds_ret (he : PD X e ma) : PDS X (.Return (some e) pos) (sRet ma) := by
  obtain ⟨t, p1, s1⟩ := he.ex
  refine ⟨_, ps_ret p1, fun F σ H ρ δ fl ρ' δ' G e D q => ?_⟩
  obtain ⟨⟨x, δ1⟩, e1, e⟩ := Option.map_eq_some_iff.mp e
  cases e
  exact s1 F σ H ρ δ x _ G e1 _ fun v H1 G1 M1 R1 => q σ H1 G1 M1 v R1
def sIf (c : MT) (a b : MS) : MS := fun ρ δ => (c ρ δ).bind fun p => if p.1 = true then a ρ p.2 else b ρ p.2
theorem pds_if {x y : List Stmt} (hc : PDT X c nc) (ha : PDSs X x m) (hb : PDSs X y m') : PDS X (.If c x y pos) (sIf nc m m') := by
  obtain ⟨t, p0, s0⟩ := hc.ex
  obtain ⟨u, p1, s1⟩ := ha.ex
  obtain ⟨w, p2, s2⟩ := hb.ex
  refine ⟨_, ps_if p0 p1 p2, fun F σ H ρ δ fl ρ' δ' G e D q => ?_⟩
  obtain ⟨⟨x, δ1⟩, e1, e⟩ := Option.bind_eq_some_iff.mp e
  refine s0 F σ H ρ δ x δ1 G e1 _ fun H1 G1 M1 => ?_
  cases x with
  | true => exact iteT (s1 F σ H1 ρ δ1 fl ρ' δ' G1 e D fun σ2 H2 G2 M2 => q σ2 H2 G2 (M1.trans M2))
  | false => exact iteF (s2 F σ H1 ρ δ1 fl ρ' δ' G1 e D fun σ2 H2 G2 M2 => q σ2 H2 G2 (M1.trans M2))
/-- x op= e on ints and texts -/
structure AugS (X : Cx) (op : Operator) (f : D → D → Option D) : Prop where
  ex : ∃ r : TIp, PIp X op r ∧ OpS X.K r f
theorem as_add : AugS X .Add (onI (fun _ _ => true) fun i j => .int (i + j)) := ⟨_, iop_add, ops_I0 fun _ _ _ _ => .int _⟩
theorem as_mul : AugS X .Mult mulI := ⟨_, iop_mul, ops_I (fun _ _ h => mulOk_of h) fun _ _ _ _ => .int _⟩
def sAug (i : Nat) (f : D → D → Option D) (m : ME) : MS := fun ρ δ => match ρ[i]? with
  | some (.val x) => (m ρ δ).bind fun p => (f x p.1).map fun z => (.nx, ρ.set i (.val z), p.2)
  | _ => none
theorem pds_aug (i : Nat) {x : Str} {op : Operator} {f : D → D → Option D} {pos' : Pos} (hN : X.N.Nodup) (ho : AugS X op f) (he : PD X e ma) (hi : X.N[i]? = some x := by rfl) (hx : Loc X.env.scope x := by first | exact Or.inl rfl | exact Or.inr rfl) (hf : X.fn x = true ∨ X.env.scope.names.lookup x = some .local := by first | exact .inl rfl | exact .inr rfl | assumption) :
    PDS X (.AugAssign (.Name x pos') op e pos) (sAug i f ma) := by
  obtain ⟨r, o1, o2⟩ := ho.ex
  obtain ⟨t, p1, s1⟩ := he.ex
  refine ⟨_, ps_aug hN hi hx p1 o1 hf, fun F σ H ρ δ fl ρ' δ' G e D q => ?_⟩
  unfold sAug at e
  split at e
  · rename_i d hd
    obtain ⟨⟨y, δ1⟩, e1, e⟩ := Option.bind_eq_some_iff.mp e
    obtain ⟨z, e2, e⟩ := Option.map_eq_some_iff.mp e
    cases e
    obtain ⟨v, g1, g2⟩ := G.val i d hd
    refine ⟨v, g1, s1 F σ H ρ δ y _ G e1 _ fun u H1 G1 M1 R1 => ?_⟩
    refine o2 F σ H1 ρ _ v u d y z G1 (g2.mv M1) R1 e2 _ fun w H2 k R2 => ?_
    obtain ⟨G3, M3⟩ := (G1.keep k).set i R2
    exact q _ _ G3 ((M1.trans (Mv.same k)).trans M3)
  · cases e
end
end PD
namespace PD
open PySem PySem.Spec PyProof.Rows L2
theorem get_set_self {α : Type} {l : List α} {i : Nat} {x y : α} (h : (l.set i x)[i]? = some y) : x = y := by
  by_cases hl : i < l.length
  · rw [List.getElem?_set_self hl] at h; exact Option.some.inj h
  · rw [List.getElem?_eq_none (by simpa using hl)] at h; cases h
theorem Good.ownNew {K F σ H ρ δ p vs ds} (G : Good K F σ H ρ δ) (i : Nat) (hi : i < ρ.length) (hp : H p = none) (r : OwR K (Mm F σ ρ) H vs ds) :
    Good K F (σ.set i (some (.ref p))) (upd H p vs) (ρ.set i (.own ds)) δ ∧ Mv (Mm F σ ρ) H (Mm F (σ.set i (some (.ref p))) (ρ.set i (.own ds))) (upd H p vs) := by
  have hiσ : i < σ.length := by rw [G.len]; exact hi
  have un : ∀ (j : Nat) es, i ≠ j → (ρ.set i (.own ds))[j]? = some (.own es) → ρ[j]? = some (.own es) := fun j es hj e => by
    rw [List.getElem?_set_ne hj] at e; exact e
  have hM : ∀ a, Mm F (σ.set i (some (.ref p))) (ρ.set i (.own ds)) a → Mm F σ ρ a ∨ a = p := fun a z => by
    rcases z with z | ⟨j, es, e1, e2⟩
    · exact .inl (.inl z)
    · by_cases hj : i = j
      · subst hj
        have := get_set_self e2
        cases this
        exact .inr rfl
      · rw [List.getElem?_set_ne hj] at e1 e2
        exact .inl (.inr ⟨j, es, e1, e2⟩)
  have mv : Mv (Mm F σ ρ) H (Mm F (σ.set i (some (.ref p))) (ρ.set i (.own ds))) (upd H p vs) := fun a o e n => ⟨upd_keeps hp a o e, fun z => (hM a z).elim n (ne_of_none e hp)⟩
  refine ⟨⟨by rw [List.length_set, List.length_set]; exact G.len, fun j d e => ?_, fun j es e => ?_, fun j k es fs a e1 e2 e3 e4 => ?_, fun a ha => ?_, fun j e => ?_, fun q e => ?_, fun a o e n => upd_keeps hp _ _ (G.fr a o e n)⟩, mv⟩
  · by_cases hj : i = j
    · subst hj; rw [List.getElem?_set_self hi] at e; cases e
    · rw [List.getElem?_set_ne hj] at e ⊢
      obtain ⟨v, e1, r1⟩ := G.val j d e
      exact ⟨v, e1, r1.mv mv⟩
  · by_cases hj : i = j
    · subst hj
      rw [List.getElem?_set_self hi] at e
      cases e
      exact ⟨p, vs, List.getElem?_set_self hiσ, upd_same, r.mv mv, fun z => (G.m0 p z).ne hp, .inl (G.fresh0 hp)⟩
    · rw [List.getElem?_set_ne hj] at e ⊢
      obtain ⟨a, xs, e1, e2, r1, n⟩ := G.own j es e
      exact ⟨a, xs, e1, upd_keeps hp _ _ e2, r1.mv mv, n⟩
  · by_cases hj : i = j
    · by_cases hk : i = k
      · exact hj.symm.trans hk
      · subst hj
        have z := get_set_self e3
        cases z
        rw [List.getElem?_set_ne hk] at e2 e4
        obtain ⟨b, xs, f1, f2, _⟩ := G.own k fs e2
        rw [e4] at f1; cases f1
        rw [hp] at f2; cases f2
    · by_cases hk : i = k
      · subst hk
        have z := get_set_self e4
        cases z
        rw [List.getElem?_set_ne hj] at e1 e3
        obtain ⟨b, xs, f1, f2, _⟩ := G.own j es e1
        rw [e3] at f1; cases f1
        rw [hp] at f2; cases f2
      · rw [List.getElem?_set_ne hj] at e1 e3
        rw [List.getElem?_set_ne hk] at e2 e4
        exact G.inj j k es fs a e1 e2 e3 e4
  · exact (G.m0 a ha).keep fun o e => upd_keeps hp a o e
  · by_cases hj : i = j
    · subst hj; rw [List.getElem?_set_self hi] at e; cases e
    · rw [List.getElem?_set_ne hj] at e ⊢
      exact G.dsl j e
  · obtain ⟨d1, d2, d4, d3⟩ := G.dck q e
    exact ⟨d1, d2, d4, d3.ne, d3.ne2, d3.ne3, upd_keeps hp _ _ d3.one, upd_keeps hp _ _ d3.two, upd_keeps hp _ _ d3.tri⟩
theorem Good.ownWrite {K F σ H ρ δ a ys ds es} (G : Good K F σ H ρ δ) (i : Nat) (hi : ρ[i]? = some (.own ds)) (ha : σ[i]? = some (some (.ref a))) (r : OwR K (Mm F σ ρ) H ys es) (hn : ∀ es, ds ≠ Ow.dcf es := by intro _ z; cases z) :
    Good K F σ (upd H a ys) (ρ.set i (.own es)) δ ∧ Mv (Mm F σ ρ) H (Mm F σ (ρ.set i (.own es))) (upd H a ys) := by
  have hl : i < ρ.length := by
    rcases Nat.lt_or_ge i ρ.length with h | h
    · exact h
    · rw [List.getElem?_eq_none h] at hi; cases hi
  have eM : Mm F σ (ρ.set i (.own es)) = Mm F σ ρ := by
    funext b
    refine propext ⟨fun z => ?_, fun z => ?_⟩
    · rcases z with z | ⟨j, fs, e1, e2⟩
      · exact .inl z
      · by_cases hj : i = j
        · subst hj; exact .inr ⟨i, ds, hi, e2⟩
        · rw [List.getElem?_set_ne hj] at e1; exact .inr ⟨j, fs, e1, e2⟩
    · rcases z with z | ⟨j, fs, e1, e2⟩
      · exact .inl z
      · by_cases hj : i = j
        · subst hj; exact .inr ⟨i, es, List.getElem?_set_self hl, e2⟩
        · exact .inr ⟨j, fs, by rw [List.getElem?_set_ne hj]; exact e1, e2⟩
  rw [eM]
  have mv : Mv (Mm F σ ρ) H (Mm F σ ρ) (upd H a ys) := fun b o e n => ⟨by rw [upd_ne (fun z => n (.inr ⟨i, ds, hi, by rw [z]; exact ha⟩))]; exact e, n⟩
  obtain ⟨a', xs', f1, f2, f3, n0, n1⟩ := G.own i ds hi
  have n1 : F.H0 a' = none := n1.resolve_right fun z => by obtain ⟨es, z⟩ := z; exact hn es z
  rw [ha] at f1
  cases f1
  refine ⟨⟨by rw [List.length_set]; exact G.len, fun j d e => ?_, fun j fs e => ?_, fun j k fs gs b e1 e2 e3 e4 => ?_, fun b hb => ?_, fun j e => ?_, fun q e => ?_, fun b o e n => ?_⟩, mv⟩
  · rw [eM]
    by_cases hj : i = j
    · subst hj; rw [List.getElem?_set_self hl] at e; cases e
    · rw [List.getElem?_set_ne hj] at e
      obtain ⟨v, e1, r1⟩ := G.val j d e
      exact ⟨v, e1, r1.mv mv⟩
  · rw [eM]
    by_cases hj : i = j
    · subst hj
      rw [List.getElem?_set_self hl] at e
      cases e
      exact ⟨a, ys, ha, upd_same, r.mv mv, n0, .inl n1⟩
    · rw [List.getElem?_set_ne hj] at e
      obtain ⟨b, zs, e1, e2, r1, n⟩ := G.own j fs e
      exact ⟨b, zs, e1, by rw [upd_ne (fun z => hj (G.inj i j ds fs a hi e ha (by rw [← z]; exact e1)))]; exact e2, r1.mv mv, n⟩
  · have g : ∀ (j : Nat) fs, (ρ.set i (.own es))[j]? = some (.own fs) → ∃ gs, ρ[j]? = some (.own gs) := fun j fs e => by
      by_cases hj : i = j
      · subst hj; exact ⟨ds, hi⟩
      · rw [List.getElem?_set_ne hj] at e; exact ⟨fs, e⟩
    obtain ⟨fs', e1⟩ := g j fs e1
    obtain ⟨gs', e2⟩ := g k gs e2
    exact G.inj j k fs' gs' b e1 e2 e3 e4
  · by_cases hz : b = a
    · rw [hz, upd_same]; exact r.mt
    · rw [upd_ne hz]; exact G.m0 b hb
  · by_cases hj : i = j
    · subst hj; rw [List.getElem?_set_self hl] at e; cases e
    · rw [List.getElem?_set_ne hj] at e
      exact G.dsl j e
  · obtain ⟨d1, d2, d4, d3⟩ := G.dck q e
    exact ⟨d1, d2, d4, d3.ne, d3.ne2, d3.ne3, by rw [upd_ne (fun z => n0 (by rw [← z]; exact d1))]; exact d3.one, by rw [upd_ne (fun z => n0 (by rw [← z]; exact d2))]; exact d3.two, by rw [upd_ne (fun z => n0 (by rw [← z]; exact d4))]; exact d3.tri⟩
  · rw [upd_ne (fun z => by rw [z, n1] at e; cases e)]
    exact G.fr b o e n
theorem Good.uniNew {K F σ H ρ δ p vs ds} (G : Good K F σ H ρ δ) (i : Nat) (hi : i < ρ.length) (hp : H p = none) (r : Reps K (Mm F σ ρ) H vs ds) :
    Good K F (σ.set i (some (.ref p))) (upd H p (.lst vs)) (ρ.set i (.uni ds)) δ ∧ Mv (Mm F σ ρ) H (Mm F (σ.set i (some (.ref p))) (ρ.set i (.uni ds))) (upd H p (.lst vs)) := G.ownNew i hi hp (.lst r)
theorem Good.uniWrite {K F σ H ρ δ a ys ds es} (G : Good K F σ H ρ δ) (i : Nat) (hi : ρ[i]? = some (.uni ds)) (ha : σ[i]? = some (some (.ref a))) (r : Reps K (Mm F σ ρ) H ys es) :
    Good K F σ (upd H a (.lst ys)) (ρ.set i (.uni es)) δ ∧ Mv (Mm F σ ρ) H (Mm F σ (ρ.set i (.uni es))) (upd H a (.lst ys)) := G.ownWrite i hi ha (.lst r)
section
variable {X : Cx} {st : Stmt} {rest : List Stmt} {m m' : MS} {a b c e tg iter : Expr} {es : List Expr} {ma mb : ME} {mr mi : MA} {nc : MT} {pos : Pos} {sl : List Nat} {mg : MG}
def sUni (i : Nat) (r : MA) : MS := fun ρ δ => (r ρ δ).bind fun p => if p.1.length ≤ sizeLine ∧ i < ρ.length then some (.nx, ρ.set i (.uni p.1), p.2) else none
theorem pds_uni (i : Nat) {x : Str} {pos' p2 : Pos} (hN : X.N.Nodup) (he : PDA X es mr) (hi : X.N[i]? = some x := by rfl) (hx : Loc X.env.scope x := by first | exact Or.inl rfl | exact Or.inr rfl) (hs : swapsWith (.List es p2) (some (.Name x pos')) pos.line X.env = pure false := by rfl) (hf : X.fn x = true ∨ X.env.scope.names.lookup x = some .local := by first | exact .inl rfl | exact .inr rfl | assumption) :
    PDS X (.Assign [.Name x pos'] (.List es p2) pos) (sUni i mr) := by
  obtain ⟨t, p1, s1⟩ := he.ex
  refine ⟨_, ps_set hN hi hx (pe_lst p1) hs hf, fun F σ H ρ δ fl ρ' δ' G e D q => ?_⟩
  obtain ⟨⟨ds, δ1⟩, e1, e⟩ := Option.bind_eq_some_iff.mp e
  dsimp only at e
  split at e
  · rename_i hz
    cases e
    refine s1 F σ H ρ δ ds _ G e1 _ fun vs H1 G1 M1 R1 => ⟨by rw [R1.length]; exact hz.1, fun p hp => ?_⟩
    obtain ⟨G2, M2⟩ := G1.uniNew i hz.2 hp R1
    exact q _ _ G2 (M1.trans M2)
  · cases e
def sApp (i : Nat) (me : ME) : MS := fun ρ δ => match ρ[i]? with
  | some (.own (.lst ds)) => (me ρ δ).bind fun p => if ds.length < sizeLine then some (.nx, ρ.set i (.uni (ds ++ [p.1])), p.2) else none
  | _ => none
theorem pds_app (i : Nat) {x : Str} {apos cpos p0 : Pos} (he : PD X e ma) (hN : X.N[i]? = some x := by rfl) (hv : Vis X.env.scope x := by first | exact Or.inl rfl | exact Or.inr (Or.inl rfl) | exact Or.inr (Or.inr rfl)) (hd : (x == ("__debug__" : Str)) = false := by decide)
    (hcd : (x == ("__classdict__" : Str)) = false := by decide) (hbase : attributeBase (.Name x p0) "append" X.env (eval (.Name x p0) X.env) = eval (.Name x p0) X.env := by rfl)
    (hfew : ((backTo cpos (starEach [e] X.env)).all (fun x => !x.1) && (backToKw cpos (keywordEach [] X.env)).all (fun x => x.1.isSome)
      && decide ([e].length + ([] : List Keyword).length + (if ([] : List Keyword).isEmpty then 0 else 1) < 30)) = true := by rfl)
    (hline : (apos.endLine == cpos.line) = true := by rfl) (hs : starEach [e] X.env = (false, eval e X.env) :: starEach [] X.env := by rfl) (hplain : (backTo cpos (starEach [] X.env)).any (·.1) = false := by rfl)
    (hsw : swapsWith (.Call (.Attribute (.Name x p0) "append" apos) [e] [] cpos) none pos.line X.env = pure false := by rfl) :
    PDS X (.Expr (.Call (.Attribute (.Name x p0) "append" apos) [e] [] cpos) pos) (sApp i ma) := by
  obtain ⟨t, p1, s1⟩ := he.ex
  refine ⟨_, ps_expr (pe_bm PySem.F.plainAttrs_list PySem.F.slot_list_append PySem.F.type_list_append mt_append (pe_var hN hv hd hcd) (pa_cons p1 pa_nil hs) hbase hfew hline hs hplain) hsw, fun F σ H ρ δ fl ρ' δ' G e D q => ?_⟩
  unfold sApp at e
  split at e
  · rename_i ds hi
    obtain ⟨⟨y, δ1⟩, e1, e⟩ := Option.bind_eq_some_iff.mp e
    dsimp only at e
    split at e
    · rename_i hz
      cases e
      obtain ⟨a, xs, f1, f2, f3, f4⟩ := G.uni i ds hi
      refine ⟨_, f1, .inl ⟨rfl, xs, SqL.of f2⟩, s1 F σ H ρ δ y _ G e1 _ fun v H1 G1 M1 R1 => ?_⟩
      obtain ⟨a', xs', g1, g2, g3, g4⟩ := G1.uni i ds hi
      rw [f1] at g1
      cases g1
      obtain ⟨G2, M2⟩ := G1.uniWrite (ys := xs' ++ [v]) (es := ds ++ [y]) i hi f1 (g3.append (.cons R1 .nil))
      exact ⟨a, xs', v, rfl, rfl, g2, by rw [g3.length]; exact hz, q _ _ G2 (M1.trans M2)⟩
    · cases e
  · cases e
def forL (g : MG) (s : MS) : List D → MS
  | [] => fun ρ δ => some (.nx, ρ, δ)
  | d :: ds => fun ρ δ => (g d ρ).bind fun ρ1 => (s ρ1 δ).bind fun p => match p.1 with
    | .nx => forL g s ds p.2.1 p.2.2
    | .ct => forL g s ds p.2.1 p.2.2
    | .bk => some (.nx, p.2)
    | .rt d => some (.rt d, p.2)
def sFor (mi : MA) (g : MG) (s : MS) : MS := fun ρ δ => (mi ρ δ).bind fun p => forL g s p.1 ρ p.2
theorem pds_for {body : List Stmt} (hp : PassesOwn (model X.prog X.w) X.A X.env X.xe) (hc : X.calm = true) (hi : PDI X tg iter mi) (hg : PDG X tg sl mg) (hb : PDSs X body m) (hs : ∀ x, foldedSetIterable iter X.env x = pure x := by intro _; rfl) :
    PDS X (.For tg iter body [] pos) (sFor mi mg m) := by
  obtain ⟨wi, p1, s1⟩ := hi.ex
  obtain ⟨g, p2, s2⟩ := hg.ex
  obtain ⟨tb, p3, s3⟩ := hb.ex
  refine ⟨_, ps_for hp hc p1 p2 p3 hs, fun F σ0 H0 ρ0 δ0 fl ρ' δ' G e D q => ?_⟩
  obtain ⟨⟨ds, δ1⟩, e1, e⟩ := Option.bind_eq_some_iff.mp e
  refine s1 F σ0 H0 ρ0 δ0 ds δ1 G e1 _ fun J H1 G1 M1 Wk => ?_
  refine ⟨fun i k σ H => k = ds.length - i ∧ i ≤ ds.length ∧ ∃ ρ δ, Good X.K F σ H ρ δ ∧ Mv (Mm F σ0 ρ0) H1 (Mm F σ ρ) H ∧ forL mg m (ds.drop i) ρ δ = some (fl, ρ', δ'), ⟨_, rfl, Nat.zero_le _, ρ0, δ1, G1, Mv.refl _ _, e⟩, ?_⟩
  rintro i k σ H ⟨rfl, hile, ρ, δ, G2, M2, ef⟩
  by_cases hlt : i < ds.length
  · obtain ⟨go, yl⟩ := (Wk _ H M2 G2.mm i).1 hlt
    have hld : i < ds.length := hlt
    rw [List.drop_eq_getElem_cons hld] at ef
    refine .inr ⟨go, fun σ H => ∃ ρ δ, Good X.K F σ H ρ δ ∧ Mv (Mm F σ0 ρ0) H1 (Mm F σ ρ) H ∧ forL mg m (ds.drop (i + 1)) ρ δ = some (fl, ρ', δ'), fun σ' H' h => ⟨ds.length - (i + 1), by omega, rfl, hlt, h⟩, fun x H3 hy => ?_⟩
    obtain ⟨kp, dx, edx, rdx⟩ := yl x H3 hy
    rw [List.getElem?_eq_getElem hld] at edx
    cases edx
    replace G2 := G2.keep kp
    replace M2 := M2.trans (Mv.same kp)
    unfold forL at ef
    obtain ⟨ρ2, f1, ef⟩ := Option.bind_eq_some_iff.mp ef
    obtain ⟨⟨f, ρ3, δ3⟩, f2, ef⟩ := Option.bind_eq_some_iff.mp ef
    refine s2 F σ H3 ρ δ x _ ρ2 G2 rdx f1 _ fun σ2 G3 M3 _ => ?_
    refine s3 F σ2 H3 ρ2 δ f ρ3 δ3 G3 f2 _ fun σ4 H4 G4 M4 => ?_
    cases f with
    | nx => exact ⟨ρ3, δ3, G4, (M2.trans M3).trans M4, ef⟩
    | ct => exact ⟨ρ3, δ3, G4, (M2.trans M3).trans M4, ef⟩
    | bk => cases ef; exact q σ4 H4 G4 (M1.trans ((M2.trans M3).trans M4))
    | rt d => cases ef; exact q σ4 H4 G4 (M1.trans ((M2.trans M3).trans M4))
  · have hi' : i = ds.length := by omega
    subst hi'
    rw [List.drop_of_length_le (Nat.le_refl _)] at ef
    cases ef
    exact .inl ⟨(Wk _ H M2 G2.mm ds.length).2 (Nat.le_refl _), q σ H G2 (M1.trans M2)⟩
def whileL (c : MT) (s : MS) : Nat → MS
  | 0 => fun _ _ => none
  | n + 1 => fun ρ δ => (c ρ δ).bind fun p => if p.1 = true then (s ρ p.2).bind fun q => match q.1 with
    | .nx => whileL c s n q.2.1 q.2.2
    | .ct => whileL c s n q.2.1 q.2.2
    | .bk => some (.nx, q.2)
    | .rt d => some (.rt d, q.2)
    else some (.nx, ρ, p.2)
theorem pds_while (n : Nat) {body : List Stmt} (hp : PassesOwn (model X.prog X.w) X.A X.env X.xe) (hc : PDT X c nc) (hb : PDSs X body m) : PDS X (.While c body [] pos) (whileL nc m n) := by
  obtain ⟨tc, p1, s1⟩ := hc.ex
  obtain ⟨tb, p2, s2⟩ := hb.ex
  refine ⟨_, ps_while hp p1 p2, fun F σ0 H0 ρ0 δ0 fl ρ' δ' G e D q => ?_⟩
  refine ⟨fun k σ H => ∃ ρ δ, Good X.K F σ H ρ δ ∧ Mv (Mm F σ0 ρ0) H0 (Mm F σ ρ) H ∧ whileL nc m k ρ δ = some (fl, ρ', δ'), ⟨n, ρ0, δ0, G, Mv.refl _ _, e⟩, ?_⟩
  rintro k σ H ⟨ρ, δ, G1, M1, ef⟩
  cases k with
  | zero => cases ef
  | succ k =>
    unfold whileL at ef
    obtain ⟨⟨b, δ1⟩, f1, ef⟩ := Option.bind_eq_some_iff.mp ef
    refine s1 F σ H ρ δ b δ1 G1 f1 _ fun H2 G2 M2 => ?_
    cases b with
    | false => cases ef; exact iteF (q σ H2 G2 (M1.trans M2))
    | true =>
      refine iteT ⟨fun σ H => ∃ ρ δ, Good X.K F σ H ρ δ ∧ Mv (Mm F σ0 ρ0) H0 (Mm F σ ρ) H ∧ whileL nc m k ρ δ = some (fl, ρ', δ'), fun σ' H' h => ⟨k, Nat.lt_succ_self k, h⟩, ?_⟩
      rw [if_pos rfl] at ef
      obtain ⟨⟨f, ρ3, δ3⟩, f2, ef⟩ := Option.bind_eq_some_iff.mp ef
      refine s2 F σ H2 ρ δ1 f ρ3 δ3 G2 f2 _ fun σ4 H4 G4 M4 => ?_
      cases f with
      | nx => exact ⟨ρ3, δ3, G4, (M1.trans M2).trans M4, ef⟩
      | ct => exact ⟨ρ3, δ3, G4, (M1.trans M2).trans M4, ef⟩
      | bk => cases ef; exact q σ4 H4 G4 ((M1.trans M2).trans M4)
      | rt d => cases ef; exact q σ4 H4 G4 ((M1.trans M2).trans M4)
end
def slots (n : Nat) (ds : List Sl) : List Sl := ds ++ List.replicate (n - ds.length) .no
def outP : Option (Fl × List Sl × Dk) → Option (D × Dk)
  | some (.rt d, _, δ) => some (d, δ)
  | some (.nx, _, δ) => some (.none, δ)
  | _ => none
def fnP (n np : Nat) (s : MS) : List D → Option D := fun ds => if ds.length = np ∧ np ≤ n then (outP (s (slots n (ds.map .val)) ⟨[], 0, [], none⟩)).map (·.1) else none
def fnK (n np : Nat) (s : MS) : List D → Dk → Option (D × Dk) := fun ds δ => if ds.length + 1 = np ∧ np ≤ n then outP (s (slots n (.deck :: ds.map .val)) δ) else none
theorem start_get {N : List Str} {vs : List V} {i : Nat} {v : V} (h : vs[i]? = some v) : (start N vs)[i]? = some (some v) := by
  have hl : i < vs.length := by
    rcases Nat.lt_or_ge i vs.length with h' | h'
    · exact h'
    · rw [List.getElem?_eq_none h'] at h; cases h
  unfold L2.start
  rw [List.getElem?_append_left (by rw [List.length_map]; exact hl), List.getElem?_map, h]; rfl
theorem slots_get {n : Nat} {ds : List Sl} {i : Nat} {x : Sl} (h : (slots n ds)[i]? = some x) : ds[i]? = some x ∨ x = .no := by
  unfold slots at h
  rcases Nat.lt_or_ge i ds.length with h' | h'
  · rw [List.getElem?_append_left h'] at h; exact .inl h
  · rw [List.getElem?_append_right h'] at h
    right
    rw [List.getElem?_replicate] at h
    split at h
    · exact (Option.some.inj h).symm
    · cases h
section
variable {P : Program} {w : World} {K : PySem.W.Frag} {mg : Str → Option Value} {base : Heap}
theorem okP {x qual : Str} {st : Stmt} {f : Addr} {fd : FuncData} {N ps : List Str} {k : Nat} {s : MS} (F : Fun K x qual st f fd) (S : FnScope N ps (defScope st)) (hn : ps.length ≤ N.length)
    (hb : ∀ (cdv : Value) (A : Around) (outer : List Env) (s0 : Shared) (H : Hp) (E : XK), Room k (A.deeper (envOfC qual (defScope st) s0.heap.objs.size f cdv)) → PDSs (cxOf CX0 P w K mg base N qual (defScope st) f cdv A outer s0 H E).nox (defBody st) s) :
    FnOk P w K mg base CX0 (k + 1) f fd ps (spP K (fnP N.length ps.length s)) := by
  refine F.ok S (fun vs H Q E h => ?_) (fun cdv A outer s0 H vs Q E hr h => ?_)
  · obtain ⟨M, ds, r, hM, R, hm, q⟩ := h
    unfold fnP at hm
    split at hm
    · rename_i hz; rw [R.length]; exact hz.1
    · cases hm
  · obtain ⟨M, ds, r, hM, R, hm, q⟩ := h
    unfold fnP at hm
    split at hm
    · rename_i hz
      obtain ⟨t, p1, s1⟩ := (hb cdv A outer s0 H E hr).ex
      refine ⟨t, p1, ?_⟩
      obtain ⟨⟨r', δ'⟩, e1, e2⟩ := Option.map_eq_some_iff.mp hm
      cases e2
      generalize hres : s (slots N.length (ds.map Sl.val)) ⟨[], 0, [], none⟩ = res at e1
      have nun : ∀ (i : Nat) es, (slots N.length (ds.map Sl.val))[i]? ≠ some (.own es) := fun i es h => by
        rcases slots_get h with h | h
        · rw [List.getElem?_map] at h
          obtain ⟨d, _, h⟩ := Option.map_eq_some_iff.mp h
          cases h
        · cases h
      let Fr0 : Fr := ⟨M, none, H, 0⟩
      have eM : Mm Fr0 (start N vs) (slots N.length (ds.map Sl.val)) = M := by
        funext a
        refine propext ⟨fun z => ?_, .inl⟩
        rcases z with z | ⟨i, es, f1, _⟩
        · exact z
        · exact (nun i es f1).elim
      have G : Good K Fr0 (start N vs) H (slots N.length (ds.map Sl.val)) ⟨[], 0, [], none⟩ := by
        refine ⟨?_, fun i d h => ?_, fun i es h => (nun i es h).elim, fun i j es _ _ h => (nun i es h).elim, hM, fun i h => ?_, fun p h => (nomatch h), fun _ _ e _ => e⟩
        · unfold L2.start slots
          simp only [List.length_append, List.length_map, List.length_replicate, R.length]
        · rw [eM]
          rcases slots_get h with h | h
          · rw [List.getElem?_map] at h
            obtain ⟨d', h1, h2⟩ := Option.map_eq_some_iff.mp h
            cases h2
            obtain ⟨v, g1, g2⟩ := R.get' h1
            exact ⟨v, start_get g1, g2⟩
          · cases h
        · rcases slots_get h with h | h
          · rw [List.getElem?_map] at h
            obtain ⟨d', h1, h2⟩ := Option.map_eq_some_iff.mp h
            cases h2
          · cases h
      cases res with
      | none => cases e1
      | some p =>
        obtain ⟨fl, ρ1, δ1⟩ := p
        refine s1 Fr0 (start N vs) H _ ⟨[], 0, [], none⟩ fl ρ1 δ1 G hres _ fun σ' H' G' M' => ?_
        have an : Mv (Mm Fr0 σ' ρ1) H' M H' := fun a o e n => ⟨e, fun z => n (.inl z)⟩
        have kp : ∀ a o, H a = some o → H' a = some o := fun a o e => G'.fr a o e fun p h => nomatch h
        cases fl with
        | nx => cases e1; exact q _ _ kp .non
        | rt d => cases e1; exact fun v R1 => q _ _ kp (R1.mv an)
        | bk => cases e1
        | ct => cases e1
    · cases hm
theorem okK {x qual : Str} {st : Stmt} {f : Addr} {fd : FuncData} {N ps : List Str} {k : Nat} {s : MS} (F : Fun K x qual st f fd) (S : FnScope N ps (defScope st)) (hn : ps.length ≤ N.length)
    (hb : ∀ (cdv : Value) (A : Around) (outer : List Env) (s0 : Shared) (H : Hp) (E : XK), Room k (A.deeper (envOfC qual (defScope st) s0.heap.objs.size f cdv)) → PDSs (cxOf CX0 P w K mg base N qual (defScope st) f cdv A outer s0 H E).nox (defBody st) s) :
    FnOk P w K mg base CX0 (k + 1) f fd ps (spK K (fnK N.length ps.length s)) := by
  refine F.ok S (fun vs H Q E h => ?_) (fun cdv A outer s0 H vs Q E hr h => ?_)
  · obtain ⟨M, p, ws, ds, δ, r, δ', rfl, hM, _, _, _, _, R, hm, q⟩ := h
    unfold fnK at hm
    split at hm
    · rename_i hz; rw [List.length_cons, R.length]; exact hz.1
    · cases hm
  · obtain ⟨M, p, ws, ds, δ, r, δ', rfl, hM, m1, m2, m3, dk, R, hm, q⟩ := h
    unfold fnK at hm
    split at hm
    · rename_i hz
      obtain ⟨t, p1, s1⟩ := (hb cdv A outer s0 H E hr).ex
      refine ⟨t, p1, ?_⟩
      generalize hres : s (slots N.length (Sl.deck :: ds.map Sl.val)) δ = res at hm
      have nun : ∀ (i : Nat) es, (slots N.length (Sl.deck :: ds.map Sl.val))[i]? ≠ some (.own es) := fun i es h => by
        rcases slots_get h with h | h
        · cases i with
          | zero => cases h
          | succ i =>
            rw [List.getElem?_cons_succ, List.getElem?_map] at h
            obtain ⟨d, _, h⟩ := Option.map_eq_some_iff.mp h
            cases h
        · cases h
      let Fr0 : Fr := ⟨M, some p, H, 0⟩
      have eM : Mm Fr0 (start N (.ref p.1 :: ws)) (slots N.length (Sl.deck :: ds.map Sl.val)) = M := by
        funext a
        refine propext ⟨fun z => ?_, .inl⟩
        rcases z with z | ⟨i, es, f1, _⟩
        · exact z
        · exact (nun i es f1).elim
      have G : Good K Fr0 (start N (.ref p.1 :: ws)) H (slots N.length (Sl.deck :: ds.map Sl.val)) δ := by
        refine ⟨?_, fun i d h => ?_, fun i es h => (nun i es h).elim, fun i j es _ _ h => (nun i es h).elim, hM, fun i h => ?_, fun p' h => ?_, fun _ _ e _ => e⟩
        · unfold L2.start slots
          simp only [List.length_append, List.length_map, List.length_replicate, List.length_cons, R.length]
        · rw [eM]
          rcases slots_get h with h | h
          · cases i with
            | zero => cases h
            | succ i =>
              rw [List.getElem?_cons_succ, List.getElem?_map] at h
              obtain ⟨d', h1, h2⟩ := Option.map_eq_some_iff.mp h
              cases h2
              obtain ⟨v, g1, g2⟩ := R.get' h1
              exact ⟨v, start_get (by rw [List.getElem?_cons_succ]; exact g1), g2⟩
          · cases h
        · rcases slots_get h with h | h
          · cases i with
            | zero => cases h; exact ⟨p, rfl, start_get rfl⟩
            | succ i =>
              rw [List.getElem?_cons_succ, List.getElem?_map] at h
              obtain ⟨d', h1, h2⟩ := Option.map_eq_some_iff.mp h
              cases h2
          · cases h
        · cases h
          exact ⟨m1, m2, m3, dk⟩
      cases res with
      | none => cases hm
      | some pp =>
        obtain ⟨fl, ρ1, δ1⟩ := pp
        refine s1 Fr0 (start N (.ref p.1 :: ws)) H _ δ fl ρ1 δ1 G hres _ fun σ' H' G' M' => ?_
        have an : Mv (Mm Fr0 σ' ρ1) H' M H' := fun a o e n => ⟨e, fun z => n (.inl z)⟩
        have kp : ∀ a o, a ≠ p.1 → a ≠ p.2 → a ≠ p.3 → H a = some o → H' a = some o := fun a o n1 n2 n3 e => G'.fr a o e fun p' h => by cases h; exact ⟨n1, n2, n3⟩
        cases fl with
        | nx => cases hm; exact q _ _ kp (G'.dck p rfl).2.2.2 .non
        | rt d => cases hm; exact fun v R1 => q _ _ kp (G'.dck p rfl).2.2.2 (R1.mv an)
        | bk => cases hm
        | ct => cases hm
    · cases hm
end
end PD
namespace PD
open PySem PySem.Spec PyProof.Rows L2
theorem mergeK_app : ∀ (kvs acc : List (Key × V)), ((acc ++ kvs).map (·.1)).Nodup → mergeK acc kvs = acc ++ kvs
  | [], acc, _ => by simp [mergeK]
  | (k, v) :: r, acc, h => by
    have hk : (acc.any fun kv => decide (kv.1 = k)) = false := by
      rw [List.any_eq_false]
      intro x hx hz
      have hz : x.1 = k := of_decide_eq_true hz
      rw [List.map_append, List.map_cons, List.nodup_append] at h
      exact h.2.2 x.1 (List.mem_map_of_mem hx) k (.head _) hz
    have e : mergeK acc ((k, v) :: r) = mergeK (acc ++ [(k, v)]) r := by
      show mergeK (putK acc k v) r = _
      unfold putK
      rw [hk, if_neg Bool.false_ne_true]
    rw [e, mergeK_app r _ (by simpa using h)]
    simp
abbrev MP := List Sl → Dk → Option (List (Key × D) × Dk)
def pNil : MP := fun _ δ => some ([], δ)
def pCons (k v : ME) (r : MP) : MP := fun ρ δ => (k ρ δ).bind fun p => (keyOf p.1).bind fun kk => (v ρ p.2).bind fun q => (r ρ q.2).map fun z => ((kk, q.1) :: z.1, z.2)
inductive RepP (K : PySem.W.Frag) (M : Addr → Prop) (H : Hp) : List (V × V) → List (Key × D) → Prop
  | nil : RepP K M H [] []
  | cons {k : Key} {v : V} {d : D} {ps : List (V × V)} {es : List (Key × D)} : Rep K M H v d → RepP K M H ps es → RepP K M H ((kV k, v) :: ps) ((k, d) :: es)
theorem RepP.mv {K M H M' H'} (h : Mv M H M' H') : ∀ {ps es}, RepP K M H ps es → RepP K M' H' ps es
  | _, _, .nil => .nil
  | _, _, .cons r t => .cons (r.mv h) (RepP.mv h t)
theorem RepP.split {K M H} : ∀ {ps es}, RepP K M H ps es → ∃ kvs : List (Key × V), ps = kvs.map (fun kv => (kV kv.1, kv.2)) ∧ kvs.map (·.1) = es.map (·.1) ∧ RepK K M H kvs (es.map fun e => (keyD e.1, e.2))
  | _, _, .nil => ⟨[], rfl, rfl, .nil⟩
  | _, _, .cons (k := k) (v := v) r t => by
    obtain ⟨kvs, e1, e2, e3⟩ := RepP.split t
    exact ⟨(k, v) :: kvs, by rw [e1]; rfl, by simp [e2], .cons r e3⟩
structure PDP (X : Cx) (pos : Pos) (keys : List (Option Expr)) (values : List Expr) (m : MP) : Prop where
  ex : ∃ trs, PPs X pos keys values trs ∧ ∀ F σ H ρ δ d δ', Good X.K F σ H ρ δ → m ρ δ = some (d, δ') → ∀ Q : List (V × V) → Hp → Prop, (∀ ps H', Good X.K F σ H' ρ δ' → Mv (Mm F σ ρ) H (Mm F σ ρ) H' → RepP X.K (Mm F σ ρ) H' ps d → Q ps H') → tPairs trs σ H Q
section
variable {X : Cx} {pos : Pos} {k v : Expr} {ks : List (Option Expr)} {vs : List Expr} {mk mv : ME} {mr : MP}
theorem pdp_nil : PDP X pos [] [] pNil := ⟨_, pps_nil, fun F σ H ρ δ d δ' G e Q q => by cases e; exact q _ _ G (Mv.refl _ _) .nil⟩
theorem pdp_cons (hk : PD X k mk) (hv : PD X v mv) (hr : PDP X pos ks vs mr) : PDP X pos (some k :: ks) (v :: vs) (pCons mk mv mr) := by
  obtain ⟨tk, p1, s1⟩ := hk.ex
  obtain ⟨tv, p2, s2⟩ := hv.ex
  obtain ⟨trs, p3, s3⟩ := hr.ex
  refine ⟨_, pps_cons p1 p2 p3, fun F σ H ρ δ d δ' G e Q q => ?_⟩
  obtain ⟨⟨x, δ1⟩, e1, e⟩ := Option.bind_eq_some_iff.mp e
  obtain ⟨kk, e0, e⟩ := Option.bind_eq_some_iff.mp e
  obtain ⟨⟨y, δ2⟩, e2, e⟩ := Option.bind_eq_some_iff.mp e
  obtain ⟨⟨z, δ3⟩, e3, e⟩ := Option.map_eq_some_iff.mp e
  cases e
  refine s1 F σ H ρ δ x δ1 G e1 _ fun u H1 G1 M1 R1 => s2 F σ H1 ρ δ1 y δ2 G1 e2 _ fun w H2 G2 M2 R2 => ?_
  have := keyOf_rep R1 e0
  subst this
  exact s3 F σ H2 ρ δ2 z _ G2 e3 _ fun ps H3 G3 M3 R3 => q _ _ G3 ((M1.trans M2).trans M3) (.cons (R2.mv M3) R3)
def nodupK (es : List (Key × D)) : Bool := decide (es.map (·.1)).Nodup
def mDisp (m : MP) : ME := fun ρ δ => (m ρ δ).bind fun p => if nodupK p.1 ∧ p.1.length ≤ 15 then some (.dict (p.1.map fun e => (keyD e.1, e.2)), p.2) else none
theorem pd_disp (h : PDP X pos ks vs mr) (hall : ks.all (·.isSome) = true := by rfl) (hl : ks.length = vs.length := by rfl) (h0 : ks ≠ [] := by exact fun z => nomatch z) (h15 : ks.length ≤ 15 := by decide) : PD X (.Dict ks vs pos) (mDisp mr) := by
  obtain ⟨trs, p1, s1⟩ := h.ex
  refine ⟨_, pe_disp p1 hall hl h0 h15, fun F σ H ρ δ d δ' G e Q q p hp => ?_⟩
  obtain ⟨⟨es, δ1⟩, e1, e⟩ := Option.bind_eq_some_iff.mp e
  dsimp only at e
  split at e
  · rename_i hz
    cases e
    obtain ⟨G1, M1⟩ := G.plus (o := .dK []) hp
    have hp0 : (F.plus p).H0 p = none := G.fresh0 hp
    have nDk : ∀ q, F.dk = some q → p ≠ q.1 ∧ p ≠ q.2 ∧ p ≠ q.3 := fun q hq => ⟨(ne_of_none (G.dck q hq).2.2.2.one hp).symm, (ne_of_none (G.dck q hq).2.2.2.two hp).symm, (ne_of_none (G.dck q hq).2.2.2.tri hp).symm⟩
    refine s1 ((F.plus p).pin p (.dK [])) σ _ ρ δ es _ (G1.pin (.inr rfl) upd_same) e1 _ fun ps H2 G2 M2 R2 => ?_
    rw [Mm_pin] at M2 R2
    have hp2 : H2 p = some (.dK []) := G2.fr p _ upd_same nDk
    obtain ⟨kvs, f1, f2, f3⟩ := R2.split
    have hn : (kvs.map (·.1)).Nodup := by rw [f2]; exact of_decide_eq_true hz.1
    have hlen : kvs.length = es.length := by
      have := congrArg List.length f2
      simpa using this
    refine ⟨hp2, kvs, f1, by rw [hlen]; exact hz.2, ?_⟩
    rw [mergeK_app kvs [] (by simpa using hn), List.nil_append]
    obtain ⟨G3, M3⟩ := (Good.unpin hp0 (.inr rfl) G2).write ⟨_, _, _, G⟩ hp (o := .dK kvs)
    have an : Mv (Mm (F.plus p) σ ρ) (upd H2 p (.dK kvs)) (Mm F σ ρ) (upd H2 p (.dK kvs)) := fun a o e n => ⟨e, fun z => n (by rw [Mm_plus]; exact .inl z)⟩
    have MM : Mv (Mm F σ ρ) H (Mm F σ ρ) (upd H2 p (.dK kvs)) := ((M1.trans M2).trans M3).trans an
    have GB : Good X.K F σ (upd H2 p (.dK kvs)) ρ _ := G.back (vs := []) rfl hp G3 MM
    exact q _ _ GB MM (.dic (G.mfree hp) (.inl upd_same) ((f3.mv M3).mv an))
  · cases e
end
end PD
namespace PD
open PySem PySem.Spec PyProof.Rows L2
theorem atI_map {α β : Type} (f : α → β) (xs : List α) (i : Int) : atI (xs.map f) i = (atI xs i).map f := by
  unfold atI
  rw [List.length_map]
  cases ixN xs.length i with
  | none => rfl
  | some j => simp
theorem pd_glob {X : Cx} {x : Str} {v : V} {u : Value} {d : D} {pos : Pos} (h : X.mg x = some u ∧ RelV v u ∧ ∀ M H, Rep X.K M H v d) (hg : Gl X x := by rfl) (hd : (x == ("__debug__" : Str)) = false := by decide) : PD X (.Name x pos) (mC d) := ⟨_, pe_glob hg h.1 h.2.1 hd, snd_c h.2.2⟩
end PD
namespace PD
open PySem L2
theorem u65 {k : Nat} {A : Around} (hr : Room k A) : A.units + 65 < cLine := by have := hr.un; omega
end PD
namespace PD
open PySem PySem.Spec PyProof.Rows L2
def Fr.plusS (F : Fr) (l : List Addr) : Fr := { F with M0 := fun a => F.M0 a ∨ a ∈ l }
theorem plusS_cons {F : Fr} {l : List Addr} {b : Addr} : (F.plusS l).plus b = F.plusS (l ++ [b]) := by
  unfold Fr.plus Fr.plusS
  congr 1
  funext a
  refine propext ⟨fun z => ?_, fun z => ?_⟩
  · rcases z with (z | z) | z
    · exact .inl z
    · exact .inr (List.mem_append_left _ z)
    · exact .inr (by simp [z])
  · rcases z with z | z
    · exact .inl (.inl z)
    · rcases List.mem_append.mp z with z | z
      · exact .inl (.inr z)
      · exact .inr (by simpa using z)
theorem plusS_nil {F : Fr} : F.plusS [] = F := by
  unfold Fr.plusS
  simp
theorem Mm_plusS {F σ ρ l} : Mm (F.plusS l) σ ρ = fun a => Mm F σ ρ a ∨ a ∈ l := by
  funext a
  refine propext ⟨fun z => ?_, fun z => ?_⟩
  · rcases z with (z | z) | z
    · exact .inl (.inl z)
    · exact .inr z
    · exact .inl (.inr z)
  · rcases z with (z | z) | z
    · exact .inl (.inl z)
    · exact .inr z
    · exact .inl (.inr z)
theorem Good.writeM {K F σ H ρ δ D o} (G : Good K F σ H ρ δ) (hM : F.M0 D) (nd : ∀ p, F.dk = some p → D ≠ p.1 ∧ D ≠ p.2 ∧ D ≠ p.3) (h0 : F.H0 D = none) (ho : mtO (some o) := by trivial) : Good K F σ (upd H D o) ρ δ ∧ Mv (Mm F σ ρ) H (Mm F σ ρ) (upd H D o) := by
  have mv : Mv (Mm F σ ρ) H (Mm F σ ρ) (upd H D o) := fun a u e n => ⟨by rw [upd_ne (fun z => n (.inl (by rw [z]; exact hM)))]; exact e, n⟩
  refine ⟨⟨G.len, fun i d e => ?_, fun i ds e => ?_, G.inj, fun a ha => ?_, G.dsl, fun p e => ?_, fun a u e n => ?_⟩, mv⟩
  · obtain ⟨v, e1, r⟩ := G.val i d e
    exact ⟨v, e1, r.mv mv⟩
  · obtain ⟨a, xs, e1, e2, r, n⟩ := G.own i ds e
    exact ⟨a, xs, e1, by rw [upd_ne (fun z => n.1 (by rw [z]; exact hM))]; exact e2, r.mv mv, n⟩
  · by_cases hz : a = D
    · rw [hz, upd_same]; exact ho
    · rw [upd_ne hz]; exact G.m0 a ha
  · obtain ⟨d1, d2, d4, d3⟩ := G.dck p e
    exact ⟨d1, d2, d4, d3.ne, d3.ne2, d3.ne3, by rw [upd_ne (nd p e).1.symm]; exact d3.one, by rw [upd_ne (nd p e).2.1.symm]; exact d3.two, by rw [upd_ne (nd p e).2.2.symm]; exact d3.tri⟩
  · rw [upd_ne (fun z => by rw [z, h0] at e; cases e)]
    exact G.fr a u e n
def Fr.pinS (F : Fr) (l : List Addr) (H : Hp) : Fr := { F with H0 := fun a => if a ∈ l then H a else F.H0 a }
theorem Mm_pinS {F l H σ ρ} : Mm (F.pinS l H) σ ρ = Mm F σ ρ := rfl
theorem Good.pinS {K F σ H ρ δ l} (G : Good K F σ H ρ δ) (hM : ∀ a ∈ l, F.M0 a) : Good K (F.pinS l H) σ H ρ δ := ⟨G.len, G.val, fun i ds e => by
  obtain ⟨a, xs, e1, e2, r, n⟩ := G.own i ds e
  exact ⟨a, xs, e1, e2, r, n.1, n.2.mo fun n2 => (if_neg (fun z => n.1 (hM a z))).trans n2⟩, G.inj, G.m0, fun {k} i e => (G.dsl i e).mo rfl (fun a u t e1 n1 => ⟨(if_neg (fun z => n1 (hM a z))).trans e1, n1⟩) (Nat.le_refl _), G.dck, fun a u e n => by
  by_cases hz : a ∈ l
  · exact (if_pos hz).symm.trans e
  · exact G.fr a u ((if_neg hz).symm.trans e) n⟩
theorem Good.unpinS {K F σ H0 H ρ δ l} (hM : ∀ a ∈ l, F.M0 a) (h0 : ∀ a ∈ l, F.H0 a = none) (G : Good K (F.pinS l H0) σ H ρ δ) : Good K F σ H ρ δ := ⟨G.len, G.val, fun i ds e => by
  obtain ⟨a, xs, e1, e2, r, n⟩ := G.own i ds e
  exact ⟨a, xs, e1, e2, r, n.1, n.2.mo fun n2 => (if_neg (fun z => n.1 (hM a z))).symm.trans n2⟩, G.inj, G.m0, fun {k} i e => (G.dsl i e).mo rfl (fun a u t e1 n1 => ⟨(if_neg (fun z => n1 (hM a z))).symm.trans e1, n1⟩) (Nat.le_refl _), G.dck, fun a u e n => G.fr a u (by
  show (if a ∈ l then H0 a else F.H0 a) = some u
  rw [if_neg (fun z => by rw [h0 a z] at e; cases e)]
  exact e) n⟩
theorem Good.setNo {K F σ H ρ δ} (G : Good K F σ H ρ δ) (i : Nat) (x : Option V) : Good K F (σ.set i x) H (ρ.set i .no) δ ∧ Mv (Mm F σ ρ) H (Mm F (σ.set i x) (ρ.set i .no)) H := by
  have un : ∀ (j : Nat) y, (ρ.set i .no)[j]? = some y → y ≠ .no → i ≠ j ∧ ρ[j]? = some y := fun j y e hy => by
    by_cases hj : i = j
    · subst hj; exact absurd (get_set_self e).symm hy
    · rw [List.getElem?_set_ne hj] at e
      exact ⟨hj, e⟩
  have hM : ∀ a, Mm F (σ.set i x) (ρ.set i .no) a → Mm F σ ρ a := fun a z => by
    rcases z with z | ⟨j, ds, e1, e2⟩
    · exact .inl z
    · obtain ⟨hj, e1⟩ := un j _ e1 (fun z => nomatch z)
      rw [List.getElem?_set_ne hj] at e2
      exact .inr ⟨j, ds, e1, e2⟩
  have mv : Mv (Mm F σ ρ) H (Mm F (σ.set i x) (ρ.set i .no)) H := fun a o e n => ⟨e, fun z => n (hM a z)⟩
  refine ⟨⟨by rw [List.length_set, List.length_set]; exact G.len, fun j e h => ?_, fun j ds e => ?_, fun j k ds es a e1 e2 e3 e4 => ?_, G.m0, fun j e => ?_, G.dck, G.fr⟩, mv⟩
  · obtain ⟨hj, h⟩ := un j _ h (fun z => nomatch z)
    obtain ⟨w, e1, r1⟩ := G.val j e h
    exact ⟨w, by rw [List.getElem?_set_ne hj]; exact e1, r1.mv mv⟩
  · obtain ⟨hj, e⟩ := un j _ e (fun z => nomatch z)
    obtain ⟨a, xs, e1, e2, r1, n⟩ := G.own j ds e
    exact ⟨a, xs, by rw [List.getElem?_set_ne hj]; exact e1, e2, r1.mv mv, n⟩
  · obtain ⟨hj, e1⟩ := un j _ e1 (fun z => nomatch z)
    obtain ⟨hk, e2⟩ := un k _ e2 (fun z => nomatch z)
    rw [List.getElem?_set_ne hj] at e3
    rw [List.getElem?_set_ne hk] at e4
    exact G.inj j k ds es a e1 e2 e3 e4
  · obtain ⟨hj, e⟩ := un j _ e (fun z => nomatch z)
    rw [List.getElem?_set_ne hj]
    exact G.dsl j e
theorem Good.shrink {K F σ H ρ δ l} (G0 : ∃ σ H ρ δ, Good K F σ H ρ δ) (G : Good K (F.plusS l) σ H ρ δ) : Good K F σ H ρ δ ∧ Mv (Mm (F.plusS l) σ ρ) H (Mm F σ ρ) H := by
  have an : Mv (Mm (F.plusS l) σ ρ) H (Mm F σ ρ) H := fun a o e n => ⟨e, fun z => n (by rw [Mm_plusS]; exact .inl z)⟩
  obtain ⟨_, _, _, _, G0⟩ := G0
  refine ⟨⟨G.len, fun i d e => ?_, fun i ds e => ?_, G.inj, fun a ha => G.m0 a (.inl ha), fun {k} i e => (G.dsl i e).mo rfl (fun a u t e1 n1 => ⟨e1, fun z => n1 (.inl z)⟩) (Nat.le_refl _), fun p e => ?_, G.fr⟩, an⟩
  · obtain ⟨v, e1, r⟩ := G.val i d e
    exact ⟨v, e1, r.mv an⟩
  · obtain ⟨a, xs, e1, e2, r, n⟩ := G.own i ds e
    exact ⟨a, xs, e1, e2, r.mv an, fun z => n.1 (.inl z), n.2⟩
  · obtain ⟨d1, d2, d4, _⟩ := G0.dck p e
    obtain ⟨_, _, _, d3⟩ := G.dck p e
    exact ⟨d1, d2, d4, d3⟩
theorem nodup_inj {l : List Addr} (h : l.Nodup) {i j : Nat} {b : Addr} (hi : l[i]? = some b) (hj : l[j]? = some b) : i = j := by
  obtain ⟨h1, e1⟩ := List.getElem?_eq_some_iff.mp hi
  obtain ⟨h2, e2⟩ := List.getElem?_eq_some_iff.mp hj
  have p := List.pairwise_iff_getElem.mp h
  rcases Nat.lt_trichotomy i j with q | q | q
  · exact absurd (e1.trans e2.symm) (p i j h1 h2 q)
  · exact q
  · exact absurd (e2.trans e1.symm) (p j i h2 h1 q)
/-- the lists at bs hold dss -/
structure Lists (K : PySem.W.Frag) (M : Addr → Prop) (H : Hp) (bs : List Addr) (dss : List (List D)) : Prop where
  len : bs.length = dss.length
  at' : ∀ (j : Nat) b, bs[j]? = some b → ∃ ds xs, dss[j]? = some ds ∧ H b = some (.lst xs) ∧ Reps K M H xs ds
def rulesL (g : MG) (mix me : ME) : List D → List Sl → Dk → List (List D) → Option (List Sl × Dk × List (List D))
  | [], ρ, δ, dss => some (ρ, δ, dss)
  | d :: ds, ρ, δ, dss => (g d ρ).bind fun ρ1 => (mix ρ1 δ).bind fun p => match p.1 with
    | .int i => (ixN dss.length i).bind fun j => (me ρ1 p.2).bind fun q => if (dss.getD j []).length < sizeLine then rulesL g mix me ds ρ1 q.2 (dss.set j (dss.getD j [] ++ [q.1])) else none
    | _ => none
def sRules (r : Nat) (mi1 mi2 : MA) (g : MG) (mix me : ME) : MS := fun ρ δ => (mi1 ρ δ).bind fun p => if p.1.length ≤ sizeLine ∧ r < ρ.length then (mi2 (ρ.set r .no) p.2).bind fun q => (rulesL g mix me q.1 (ρ.set r .no) q.2 (List.replicate p.1.length [])).map fun z => (.nx, z.1.set r (.val (.list (z.2.2.map .list))), z.2.1) else none
theorem reps_lists {K M H} : ∀ {bs : List Addr} {dss : List (List D)}, Lists K M H bs dss → (∀ b ∈ bs, ¬ M b) → Reps K M H (bs.map V.ref) (dss.map .list)
  | [], dss, L, _ => by
    have : dss = [] := List.eq_nil_of_length_eq_zero L.len.symm
    subst this; exact .nil
  | b :: bs, [], L, _ => by have := L.len; simp at this
  | b :: bs, ds :: dss, L, n => by
    obtain ⟨ds', xs, e1, e2, e3⟩ := L.at' 0 b rfl
    cases e1
    exact .cons (.lst ⟨n b (.head _), e2⟩ e3) (reps_lists ⟨by simpa using L.len, fun j c e => L.at' (j + 1) c e⟩ fun c hc => n c (.tail _ hc))
theorem snd_rules {K wi1 wi2 tix te mi1 mi2 mix me j g mg} {sl : List Nat} (r : Nat)
    (h1 : ∀ F σ H ρ δ ds δ', Good K F σ H ρ δ → mi1 ρ δ = some (ds, δ') → ∀ R : It → Hp → Prop, (∀ J H', Good K F σ H' ρ δ' → Mv (Mm F σ ρ) H (Mm F σ ρ) H' → Walks K (Mm F σ ρ) H' J ds → R J H') → wi1 σ H R)
    (h2 : ∀ F σ H ρ δ ds δ', Good K F σ H ρ δ → mi2 ρ δ = some (ds, δ') → ∀ R : It → Hp → Prop, (∀ J H', Good K F σ H' ρ δ' → Mv (Mm F σ ρ) H (Mm F σ ρ) H' → Walks K (Mm F σ ρ) H' J ds → R J H') → wi2 σ H R)
    (hg : ∀ F σ H ρ δ v d ρ', Good K F σ H ρ δ → Rep K (Mm F σ ρ) H v d → mg d ρ = some ρ' → ∀ Q : L2.St → Hp → Prop, (∀ σ', Good K F σ' H ρ' δ → Mv (Mm F σ ρ) H (Mm F σ' ρ') H → Set1 sl σ σ' ρ ρ' → Q σ' H) → g v σ H Q)
    (hix : Snd K tix mix) (he : Snd K te me) (hr : r ∉ sl) :
    SndS K (tSeq (tAsg (tLc wi1 (gName j) tYes (tLst tNil) [j]) (gName r)) (tFor wi2 g (tDrop (tBM K "list" rAppend (tOp (rIxL K) (tVar r) tix) (tCons te tNil))))) (sRules r mi1 mi2 mg mix me) := fun F σ H ρ δ fl ρ' δ' G e D q => by
  obtain ⟨⟨ds1, δ1⟩, e1, e⟩ := Option.bind_eq_some_iff.mp e
  dsimp only at e
  split at e
  · rename_i hz
    obtain ⟨⟨ds2, δ2⟩, e2, e⟩ := Option.bind_eq_some_iff.mp e
    obtain ⟨⟨ρ3, δ3, dss3⟩, e3, e⟩ := Option.map_eq_some_iff.mp e
    cases e
    refine h1 F σ H ρ δ ds1 δ1 G e1 _ fun J H1 G1 M1 Wk A hA => ?_
    have nDk : ∀ a, H1 a = none → ∀ p, F.dk = some p → a ≠ p.1 ∧ a ≠ p.2 ∧ a ≠ p.3 := fun a ha p hp => ⟨(ne_of_none (G1.dck p hp).2.2.2.one ha).symm, (ne_of_none (G1.dck p hp).2.2.2.two ha).symm, (ne_of_none (G1.dck p hp).2.2.2.tri ha).symm⟩
    obtain ⟨GA, MA⟩ := G1.plus (o := .lst []) hA
    have eA : F.plus A = F.plusS [A] := by
      have := plusS_cons (F := F) (l := []) (b := A)
      rw [plusS_nil] at this
      exact this
    rw [eA] at GA MA
    have hwipe : ∀ v, L2.wipe ((L2.wipe σ [j]).set j (some v)) [j] = L2.wipe σ [j] := fun v => by
      have := (Set1.set (σ := L2.wipe σ [j]) (ρ := ρ) (v := v) (d := .none) j).wipes (vs := [j]) (by simp)
      rw [this.1, wipe_wipe]
    refine ⟨fun i m H => m = ds1.length - i ∧ i ≤ ds1.length ∧ ∃ bs : List Addr, bs.length = i ∧ H A = some (.lst (bs.map V.ref)) ∧ Good K (F.plusS (A :: bs)) σ H ρ δ1 ∧ Mv (Mm F σ ρ) H1 (Mm (F.plusS (A :: bs)) σ ρ) H ∧ (∀ b ∈ bs, H b = some (.lst [])) ∧ (A :: bs).Nodup ∧ (∀ a ∈ A :: bs, H1 a = none),
      ⟨_, rfl, Nat.zero_le _, [], rfl, upd_same, GA, MA, fun b hb => (by simp at hb), (by simp), fun a ha => (by simp at ha; rw [ha]; exact hA)⟩, ?_⟩
    rintro i m H2 ⟨rfl, hile, bs, hbl, hHA, G2, M2, hbs, hnd, hfr⟩
    by_cases hlt : i < ds1.length
    · obtain ⟨go, yl⟩ := (Wk _ H2 M2 G2.mm i).1 hlt
      refine .inr ⟨go, fun H => ∃ bs : List Addr, bs.length = i + 1 ∧ H A = some (.lst (bs.map V.ref)) ∧ Good K (F.plusS (A :: bs)) σ H ρ δ1 ∧ Mv (Mm F σ ρ) H1 (Mm (F.plusS (A :: bs)) σ ρ) H ∧ (∀ b ∈ bs, H b = some (.lst [])) ∧ (A :: bs).Nodup ∧ (∀ a ∈ A :: bs, H1 a = none), fun H' h => ⟨ds1.length - (i + 1), by omega, rfl, hlt, h⟩, fun x H3 hy => ?_⟩
      obtain ⟨kp, _⟩ := yl x H3 hy
      replace G2 := G2.keep kp
      replace M2 := M2.trans (Mv.same kp)
      replace hHA := kp _ _ hHA
      replace hbs : ∀ b ∈ bs, H3 b = some (.lst []) := fun b hb => kp _ _ (hbs b hb)
      refine ⟨hwipe x, ?_⟩
      simp only [tYes, ↓reduceIte]
      refine ⟨Nat.zero_le _, fun b hb => ?_⟩
      have hbA : A ≠ b := ne_of_none hHA hb
      obtain ⟨G3, M3⟩ := G2.plus (o := .lst []) hb
      rw [plusS_cons] at G3 M3
      have hb1 : H1 b = none := by
        cases hq : H1 b with
        | none => rfl
        | some o =>
          by_cases hm : Mm F σ ρ b
          · rcases hm with hm | ⟨ii, es, f1, f2⟩
            · exact absurd hb (G2.m0 b (.inl hm)).ne
            · obtain ⟨c, ys, g1, g2, _⟩ := G2.own ii es f1
              rw [f2] at g1; cases g1
              rw [hb] at g2; cases g2
          · have := (M2 b o hq hm).1
            rw [hb] at this; cases this
      have hD : (F.plusS ((A :: bs) ++ [b])).M0 A := .inr (by simp)
      obtain ⟨G4, M4⟩ := G3.writeM (D := A) (o := .lst (bs.map V.ref ++ [.ref b])) hD (nDk A hA) (G1.fresh0 hA)
      have hbn : b ∉ bs := fun z => by rw [hbs b z] at hb; cases hb
      refine ⟨bs.map V.ref, by rw [upd_ne hbA]; exact hHA, ?_, bs ++ [b], by simp [hbl], by rw [upd_same, List.map_append]; rfl, G4, (M2.trans M3).trans M4, fun c hc => ?_, ?_, fun a ha => ?_⟩
      · rw [List.length_map, hbl]
        omega
      · have hcA : c ≠ A := by
          rintro rfl
          rcases List.mem_append.mp hc with z | z
          · exact (List.nodup_cons.mp hnd).1 z
          · simp at z; exact hbA z
        rw [upd_ne hcA]
        rcases List.mem_append.mp hc with z | z
        · exact upd_keeps hb _ _ (hbs c z)
        · simp at z; rw [z, upd_same]
      · rw [← List.cons_append, List.nodup_append]
        refine ⟨hnd, by simp, fun a ha c hc => ?_⟩
        simp at hc
        subst hc
        rintro rfl
        rcases List.mem_cons.mp ha with z | z
        · exact hbA z.symm
        · exact hbn z
      · rcases List.mem_cons.mp ha with z | z
        · rw [z]; exact hA
        · rcases List.mem_append.mp z with z | z
          · exact hfr a (.tail _ z)
          · simp at z; rw [z]; exact hb1
    · have hi' : i = ds1.length := by omega
      refine .inl ⟨(Wk _ H2 M2 G2.mm i).2 (by omega), ?_⟩
      -- the list of lists is there
      have hnM : ∀ a ∈ A :: bs, ¬ F.M0 a := fun a ha z => (G1.m0 a z).ne (hfr a ha)
      have hn0 : ∀ a ∈ A :: bs, (F.plusS (A :: bs)).H0 a = none := fun a ha => G1.fresh0 (hfr a ha)
      have hMl : ∀ a ∈ A :: bs, (F.plusS (A :: bs)).M0 a := fun a ha => .inr ha
      obtain ⟨G3, M3⟩ := G2.setNo r (some (.ref A))
      have hrl : r < σ.length := by rw [G1.len]; exact hz.2
      refine h2 _ (σ.set r (some (.ref A))) H2 (ρ.set r .no) δ1 ds2 δ2 (G3.pinS hMl) e2 _ fun J2 H4 G4 M4 Wk2 => ?_
      rw [Mm_pinS] at M4 Wk2
      have keep4 : ∀ a ∈ A :: bs, ∀ o, H2 a = some o → H4 a = some o := fun a ha o ho => G4.fr a o ((if_pos ha).trans ho) (nDk a (hfr a ha))
      have L0 : Lists K (Mm (F.plusS (A :: bs)) (σ.set r (some (.ref A))) (ρ.set r .no)) H4 bs (List.replicate ds1.length []) := ⟨by rw [List.length_replicate, hbl, hi'], fun jj b hb => ⟨[], [], by
        rw [List.getElem?_replicate, if_pos]
        have : jj < bs.length := by
          rcases Nat.lt_or_ge jj bs.length with h | h
          · exact h
          · rw [List.getElem?_eq_none h] at hb; cases hb
        rw [hbl, hi'] at this
        exact this, keep4 b (.tail _ (List.mem_of_getElem? hb)) _ (hbs b (List.mem_of_getElem? hb)), .nil⟩⟩
      refine ⟨fun ii k σ5 H5 => k = ds2.length - ii ∧ ii ≤ ds2.length ∧ ∃ ρ5 δ5 dss5, Good K (F.plusS (A :: bs)) σ5 H5 ρ5 δ5 ∧ σ5[r]? = some (some (.ref A)) ∧ ρ5[r]? = some .no ∧ H5 A = some (.lst (bs.map V.ref)) ∧ Lists K (Mm (F.plusS (A :: bs)) σ5 ρ5) H5 bs dss5 ∧
        Mv (Mm (F.plusS (A :: bs)) (σ.set r (some (.ref A))) (ρ.set r .no)) H4 (Mm (F.plusS (A :: bs)) σ5 ρ5) H5 ∧ rulesL mg mix me (ds2.drop ii) ρ5 δ5 dss5 = some (ρ3, δ3, dss3), ⟨_, rfl, Nat.zero_le _, ρ.set r .no, δ2, _, Good.unpinS hMl hn0 G4, List.getElem?_set_self hrl, List.getElem?_set_self hz.2, keep4 A (.head _) _ hHA, L0, Mv.refl _ _, e3⟩, ?_⟩
      rintro ii k σ5 H5 ⟨rfl, hile5, ρ5, δ5, dss5, G5, hσ5, hρ5, hA5, L5, M5, ef⟩
      by_cases hlt5 : ii < ds2.length
      · obtain ⟨go5, yl5⟩ := (Wk2 _ H5 M5 G5.mm ii).1 hlt5
        have hld : ii < ds2.length := hlt5
        rw [List.drop_eq_getElem_cons hld] at ef
        refine .inr ⟨go5, fun σ5 H5 => ∃ ρ5 δ5 dss5, Good K (F.plusS (A :: bs)) σ5 H5 ρ5 δ5 ∧ σ5[r]? = some (some (.ref A)) ∧ ρ5[r]? = some .no ∧ H5 A = some (.lst (bs.map V.ref)) ∧ Lists K (Mm (F.plusS (A :: bs)) σ5 ρ5) H5 bs dss5 ∧
          Mv (Mm (F.plusS (A :: bs)) (σ.set r (some (.ref A))) (ρ.set r .no)) H4 (Mm (F.plusS (A :: bs)) σ5 ρ5) H5 ∧ rulesL mg mix me (ds2.drop (ii + 1)) ρ5 δ5 dss5 = some (ρ3, δ3, dss3), fun σ' H' h => ⟨ds2.length - (ii + 1), by omega, rfl, hlt5, h⟩, fun x H6 hy => ?_⟩
        obtain ⟨kp, dx, edx, rdx⟩ := yl5 x H6 hy
        rw [List.getElem?_eq_getElem hld] at edx
        cases edx
        replace G5 := G5.keep kp
        replace M5 := M5.trans (Mv.same kp)
        replace hA5 := kp _ _ hA5
        replace L5 : Lists K (Mm (F.plusS (A :: bs)) σ5 ρ5) H6 bs dss5 := ⟨L5.len, fun j b hb => by
          obtain ⟨ds, xs, g1, g2, g3⟩ := L5.at' j b hb
          exact ⟨ds, xs, g1, kp _ _ g2, g3.mv (Mv.same kp)⟩⟩
        unfold rulesL at ef
        obtain ⟨ρ6, f1, ef⟩ := Option.bind_eq_some_iff.mp ef
        obtain ⟨⟨vi, δ6⟩, f2, ef⟩ := Option.bind_eq_some_iff.mp ef
        dsimp only at ef
        split at ef
        · rename_i iv
          obtain ⟨jj, f3, ef⟩ := Option.bind_eq_some_iff.mp ef
          obtain ⟨⟨y, δ7⟩, f4, ef⟩ := Option.bind_eq_some_iff.mp ef
          dsimp only at ef
          split at ef
          · rename_i hsz
            refine hg _ σ5 H6 ρ5 δ5 x _ ρ6 G5 rdx f1 _ fun σ6 G6 M6 T6 => ?_
            have hσ6 : σ6[r]? = some (some (.ref A)) := (T6.s r hr).trans hσ5
            have hρ6 : ρ6[r]? = some .no := (T6.r r hr).trans hρ5
            refine ⟨_, hσ6, ?_⟩
            refine hix ((F.plusS (A :: bs)).pinS (A :: bs) H6) σ6 H6 ρ6 δ5 _ _ (G6.pinS hMl) f2 _ fun v7 H7 G7 M7 R7 => ?_
            rw [Mm_pinS] at M7 R7
            cases R7
            have keep7 : ∀ a ∈ A :: bs, ∀ o, H6 a = some o → H7 a = some o := fun a ha o ho => G7.fr a o ((if_pos ha).trans ho) (nDk a (hfr a ha))
            have hjl : jj < bs.length := by rw [L5.len]; exact (ixN_seq f3).2.1
            obtain ⟨bj, hbj⟩ : ∃ bj, bs[jj]? = some bj := ⟨bs[jj], List.getElem?_eq_getElem hjl⟩
            obtain ⟨dsj, xsj, g1, g2, g3⟩ := L5.at' jj bj hbj
            have hbjm : bj ∈ A :: bs := .tail _ (List.mem_of_getElem? hbj)
            refine ⟨A, bs.map V.ref, iv, .ref bj, rfl, rfl, SqL.of (keep7 A (.head _) _ hA5), ?_, ?_⟩
            · unfold atI
              rw [List.length_map, L5.len, f3]
              simp [hbj]
            · refine ⟨.inl ⟨rfl, xsj, SqL.of (keep7 bj hbjm _ g2)⟩, ?_⟩
              refine he ((F.plusS (A :: bs)).pinS (A :: bs) H6) σ6 H7 ρ6 δ6 _ _ G7 f4 _ fun v8 H8 G8 M8 R8 => ?_
              rw [Mm_pinS] at M8 R8
              have keep8 : ∀ a ∈ A :: bs, ∀ o, H6 a = some o → H8 a = some o := fun a ha o ho => G8.fr a o ((if_pos ha).trans ho) (nDk a (hfr a ha))
              have MM := (M6.trans M7).trans M8
              have hdj : dss5.getD jj [] = dsj := by rw [List.getD_eq_getElem?_getD, g1]; rfl
              rw [hdj] at hsz ef
              obtain ⟨G9, M9⟩ := (Good.unpinS hMl hn0 G8).writeM (D := bj) (o := .lst (xsj ++ [v8])) (.inr hbjm) (nDk bj (hfr bj hbjm)) (hn0 bj hbjm)
              refine ⟨bj, xsj, v8, rfl, rfl, keep8 bj hbjm _ g2, by rw [g3.length]; exact hsz, ρ6, δ7, _, G9, hσ6, hρ6, ?_, ?_, (M5.trans MM).trans M9, ef⟩
              · rw [upd_ne (fun z => (List.nodup_cons.mp hnd).1 (by rw [z]; exact List.mem_of_getElem? hbj))]
                exact keep8 A (.head _) _ hA5
              · refine ⟨by rw [List.length_set]; exact L5.len, fun k b hb => ?_⟩
                by_cases hk : jj = k
                · subst hk
                  rw [hbj] at hb
                  cases hb
                  exact ⟨dsj ++ [y], xsj ++ [v8], List.getElem?_set_self (by rw [← L5.len]; exact hjl), upd_same, ((g3.mv MM).append (.cons R8 .nil)).mv M9⟩
                · obtain ⟨dsk, xsk, k1, k2, k3⟩ := L5.at' k b hb
                  have hne : b ≠ bj := fun z => by
                    subst z
                    exact hk (nodup_inj (List.nodup_cons.mp hnd).2 hbj hb)
                  exact ⟨dsk, xsk, by rw [List.getElem?_set_ne hk]; exact k1, by rw [upd_ne hne]; exact keep8 b (.tail _ (List.mem_of_getElem? hb)) _ k2, (k3.mv MM).mv M9⟩
          · cases ef
        · cases ef
      · have hi5 : ii = ds2.length := by omega
        subst hi5
        rw [List.drop_of_length_le (Nat.le_refl _)] at ef
        cases ef
        refine .inl ⟨(Wk2 _ H5 M5 G5.mm ds2.length).2 (Nat.le_refl _), ?_⟩
        obtain ⟨G9, M9⟩ := Good.shrink ⟨_, _, _, _, G1⟩ G5
        have hnot : ∀ a ∈ A :: bs, ¬ Mm F σ5 ρ3 a := fun a ha z => by
          rcases z with z | ⟨ii, es, f1, f2⟩
          · exact hnM a ha z
          · obtain ⟨c, zs, g1, g2, g3, g4⟩ := G5.own ii es f1
            rw [f2] at g1; cases g1
            exact g4.1 (hMl _ ha)
        have RR : Rep K (Mm F σ5 ρ3) H5 (.ref A) (.list (dss3.map .list)) := .lst ⟨hnot A (.head _), hA5⟩ (reps_lists ⟨L5.len, fun k b hb => by
          obtain ⟨dsk, xsk, k1, k2, k3⟩ := L5.at' k b hb
          exact ⟨dsk, xsk, k1, k2, k3.mv M9⟩⟩ fun b hb => hnot b (.tail _ hb))
        obtain ⟨G10, M10⟩ := G9.set r RR
        have hset : σ5.set r (some (.ref A)) = σ5 := by
          have hr5 : r < σ5.length := by
            rcases Nat.lt_or_ge r σ5.length with h | h
            · exact h
            · rw [List.getElem?_eq_none h] at hσ5; cases hσ5
          refine list_ext fun k => ?_
          by_cases hk : r = k
          · subst hk; rw [List.getElem?_set_self hr5, hσ5]
          · rw [List.getElem?_set_ne hk]
        rw [hset] at G10 M10
        exact q σ5 H5 G10 ((((M1.trans M2).trans M3).trans M4).trans ((M5.trans M9).trans M10))
  · cases e
theorem pdss_rules {X : Cx} {iter1 iter2 ix e tg1 : Expr} {kk2 R : Str} {st1 : Stmt} {pk2 p1 p2 apos cpos pos2 fpos : Pos} {rest : List Stmt} {mi1 mi2 : MA} {mix me : ME} {m : MS} (r j j2 : Nat)
    (hc : X.calm = true) (hi1 : PDI X tg1 iter1 mi1) (hst : ∀ wi, PI X tg1 iter1 wi → PS X st1 (tAsg (tLc wi (gName j) tYes (tLst tNil) [j]) (gName r)))
    (hi2 : PDI X (.Name kk2 pk2) iter2 mi2) (hg2 : PG X (.Name kk2 pk2) (gName j2)) (hix : PD X ix mix) (he : PD X e me) (hrest : PDSs X rest m) (hrj : r ≠ j2)
    (hy : X.N[r]? = some R := by rfl) (hs2 : ∀ x, foldedSetIterable iter2 X.env x = pure x := by intro _; rfl) (hp : PassesOwn (model X.prog X.w) X.A X.env X.xe)
    (hv : Vis X.env.scope R := by first | exact Or.inl rfl | exact Or.inr (Or.inl rfl) | exact Or.inr (Or.inr rfl)) (hd : (R == ("__debug__" : Str)) = false := by decide) (hcd : (R == ("__classdict__" : Str)) = false := by decide) (hpx : PlainIx ix := by exact fun _ _ => rfl)
    (hbase : attributeBase (.Subscript (.Name R p1) ix p2) "append" X.env (eval (.Subscript (.Name R p1) ix p2) X.env) = eval (.Subscript (.Name R p1) ix p2) X.env := by rfl)
    (hfew : ((backTo cpos (starEach [e] X.env)).all (fun x => !x.1) && (backToKw cpos (keywordEach [] X.env)).all (fun x => x.1.isSome)
      && decide ([e].length + ([] : List Keyword).length + (if ([] : List Keyword).isEmpty then 0 else 1) < 30)) = true := by rfl)
    (hline : (apos.endLine == cpos.line) = true := by rfl) (hs : starEach [e] X.env = (false, eval e X.env) :: starEach [] X.env := by rfl) (hplain : (backTo cpos (starEach [] X.env)).any (·.1) = false := by rfl)
    (hse : swapsWith (.Call (.Attribute (.Subscript (.Name R p1) ix p2) "append" apos) [e] [] cpos) none pos2.line X.env = pure false := by rfl) :
    PDSs X (st1 :: .For (.Name kk2 pk2) iter2 [.Expr (.Call (.Attribute (.Subscript (.Name R p1) ix p2) "append" apos) [e] [] cpos) pos2] [] fpos :: rest) (sSeq (sRules r mi1 mi2 (gSet j2) mix me) m) := by
  obtain ⟨wi1, w1, s1⟩ := hi1.ex
  obtain ⟨wi2, w2, s2⟩ := hi2.ex
  obtain ⟨tix, w3, s3⟩ := hix.ex
  obtain ⟨te, w4, s4⟩ := he.ex
  obtain ⟨tr, w5, s5⟩ := hrest.ex
  refine ⟨_, pss_cons (hst wi1 w1) (pss_cons (ps_for hp hc w2 hg2 (pss_one (ps_expr (pe_bm PySem.F.plainAttrs_list PySem.F.slot_list_append PySem.F.type_list_append mt_append (pe_ix ix_list (pe_var hy hv hd hcd) w3 hpx) (pa_cons w4 pa_nil hs) hbase hfew hline hs hplain) hse)) hs2) w5), ?_⟩
  have z := snd_seq (snd_rules (j := j) r s1 s2 (pg_set j2) s3 s4 (by simp; exact hrj)) s5
  exact z
end PD
namespace PD
open PySem PySem.Spec PyProof.Rows L2
def cellsOf (ns : List Int) : List Int := ns.take 63 ++ (if ns = [] then [0] else [])
def restOf (c : Int) : Int := c * (if 1000000000000000000 ≤ c then 1 else 0)
def deckOf (ns : List Int) : Dk := ⟨cellsOf ns, 0, (cellsOf ns).map restOf, none⟩
def spDeck (K : PySem.W.Frag) (mk : List Int → Dk := deckOf) : Sp := fun vs H Q _ => ∃ (a : Addr) (ns : List Int), vs = [.ref a] ∧ SqL K H a (ns.map V.int) ∧ ∀ (p : DP) H', Same H H' → DeckAt H' p (mk ns) → Q (.ref p.1) H'
theorem same_new {H : Hp} {p : Addr} {o : HO} (h : H p = none) : Same H (upd H p o) := fun b x e => upd_keeps h b x e
theorem cut63 (xs : List V) : cutV xs none (some 63) = xs.take 63 := by
  unfold cutV
  rw [show HT.sIx xs.length xs.length (some 63) = min 63 xs.length from HT.sIx_nat xs.length xs.length 63, HT.sIx_none, List.drop_zero, Nat.sub_zero]
  rcases Nat.le_total 63 xs.length with h | h
  · rw [Nat.min_eq_left h]
  · rw [Nat.min_eq_right h, List.take_of_length_le h, List.take_of_length_le (Nat.le_refl _)]
section
variable {P : Program} {w : World} {K : PySem.W.Frag} {mg : Str → Option Value} {base : Heap}
def spLaw (K : PySem.W.Frag) : Sp := fun vs H Q _ => ∃ (a : Addr) (ns : List Int), vs = [.ref a] ∧ SqL K H a (ns.map V.int) ∧ ns.length ≤ 63 ∧ ∀ H', Q (.bl true) H'
end
end PD
namespace PD
open PySem PySem.Spec PyProof.Rows L2
theorem addD_int (i j : Int) : addD (.int i) (.int j) = some (.int (i + j)) := rfl
theorem addD_str {x y : Str} (h : x.length + y.length ≤ sizeLine) : addD (.str x) (.str y) = some (.str (x ++ y)) := by
  show (Option.orElse none fun _ => Option.orElse (if decide (x.length + y.length ≤ sizeLine) = true then some (PyData.str (x ++ y)) else none) _) = _
  rw [if_pos (decide_eq_true h)]; rfl
theorem addD_lst {x y : List D} (h : x.length + y.length ≤ sizeLine) : addD (.list x) (.list y) = some (.list (x ++ y)) := by
  show (Option.orElse none fun _ => Option.orElse none fun _ => Option.orElse (if x.length + y.length ≤ sizeLine then some (PyData.list (x ++ y)) else none) _) = _
  rw [if_pos h]; rfl
theorem addD_tup {x y : List D} (h : x.length + y.length ≤ sizeLine) : addD (.tuple x) (.tuple y) = some (.tuple (x ++ y)) := by
  show (Option.orElse none fun _ => Option.orElse none fun _ => Option.orElse none fun _ => (if x.length + y.length ≤ sizeLine then some (PyData.tuple (x ++ y)) else none)) = _
  rw [if_pos h]; rfl
theorem subD_int (i j : Int) : subD (.int i) (.int j) = some (.int (i - j)) := rfl
theorem mulD_int {i j : Int} (h : mulOk i j = true) : mulD (.int i) (.int j) = some (.int (i * j)) := by
  show (Option.orElse (if mulOk i j = true then some (PyData.int (i * j)) else none) _) = _
  rw [if_pos h]; rfl
theorem modD_int {i j : Int} (h : 0 < j) : modD (.int i) (.int j) = some (.int (i % j)) := if_pos (decide_eq_true h)
theorem fdivD_int {i j : Int} (h : 0 < j) (h' : j.natAbs.log2 < 9000) : fdivD (.int i) (.int j) = some (.int (i / j)) := if_pos (decide_eq_true ⟨h, h'⟩)
theorem powD_int {i j : Int} (h : 0 ≤ j) (h1 : j ≤ 1000000) (h2 : i.natAbs < 2 ^ 64) : powD (.int i) (.int j) = some (.int (i ^ j.toNat)) := if_pos (decide_eq_true ⟨h, h1, h2⟩)
theorem ltD_int (i j : Int) : ltD (.int i) (.int j) = some (.bool (decide (i < j))) := rfl
theorem leD_int (i j : Int) : leD (.int i) (.int j) = some (.bool (decide (i ≤ j))) := rfl
theorem gtD_int (i j : Int) : gtD (.int i) (.int j) = some (.bool (decide (j < i))) := rfl
theorem geD_int (i j : Int) : geD (.int i) (.int j) = some (.bool (decide (j ≤ i))) := rfl
theorem eqD_int (i j : Int) : eqD (.int i) (.int j) = some (.bool (decide (i = j))) := by
  show some (PyData.bool (i == j)) = _
  rw [Bool.eq_iff_iff.mpr (by simp : (i == j) = true ↔ decide (i = j) = true)]
theorem eqD_bool (i j : Bool) : eqD (.bool i) (.bool j) = some (.bool (i == j)) := rfl
theorem neD_bool (i j : Bool) : neD (.bool i) (.bool j) = some (.bool (!(i == j))) := rfl
theorem eqD_str {x y : Str} (h : PyData.strOk x = true) (h' : PyData.strOk y = true) : eqD (.str x) (.str y) = some (.bool (decide (x = y))) := by
  unfold eqD
  have h1 : SeqAt.shaped (.str x) = true := by simp [SeqAt.shaped, PyData.canLay0, PyData.depth, h]
  have h2 : SeqAt.shaped (.str y) = true := by simp [SeqAt.shaped, PyData.canLay0, PyData.depth, h']
  rw [h1, h2]
  show some (PyData.bool (x == y)) = _
  rw [show (x == y) = decide (x = y) from Bool.eq_iff_iff.mpr (by simp)]
theorem ix_lst (ds : List D) (i : Int) {d : D} (h : atI ds i = some d) : subD' (.list ds) (.int i) = some d := by
  show (Option.orElse (atI ds i) _) = _
  rw [h]; rfl
theorem ix_tupl (ds : List D) (i : Int) {d : D} (h : atI ds i = some d) : subD' (.tuple ds) (.int i) = some d := by
  show (Option.orElse (atI ds i) _) = _
  rw [h]; rfl
theorem seq_nx {a b : MS} {ρ ρ1 : List Sl} {δ δ1 : Dk} (h : a ρ δ = some (.nx, ρ1, δ1)) : sSeq a b ρ δ = b ρ1 δ1 := by unfold sSeq; rw [h]; rfl
theorem seq_rt {a b : MS} {ρ ρ1 : List Sl} {δ δ1 : Dk} {d : D} (h : a ρ δ = some (.rt d, ρ1, δ1)) : sSeq a b ρ δ = some (.rt d, ρ1, δ1) := by unfold sSeq; rw [h]; rfl
theorem asg_eq {m : ME} {g : MG} {ρ ρ1 : List Sl} {δ δ1 : Dk} {d : D} (h : m ρ δ = some (d, δ1)) (hg : g d ρ = some ρ1) : sAsg m g ρ δ = some (.nx, ρ1, δ1) := by unfold sAsg; rw [h]; simp [hg]
theorem ret_eq {m : ME} {ρ : List Sl} {δ δ1 : Dk} {d : D} (h : m ρ δ = some (d, δ1)) : sRet m ρ δ = some (.rt d, ρ, δ1) := by unfold sRet; rw [h]; rfl
theorem if_t {c : MT} {a b : MS} {ρ : List Sl} {δ δ1 : Dk} (h : c ρ δ = some (true, δ1)) : sIf c a b ρ δ = a ρ δ1 := by unfold sIf; rw [h]; rfl
theorem if_f {c : MT} {a b : MS} {ρ : List Sl} {δ δ1 : Dk} (h : c ρ δ = some (false, δ1)) : sIf c a b ρ δ = b ρ δ1 := by unfold sIf; rw [h]; rfl
theorem bin_eq {f : D → D → Option D} {a b : ME} {ρ : List Sl} {δ δ1 δ2 : Dk} {x y z : D} (h1 : a ρ δ = some (x, δ1)) (h2 : b ρ δ1 = some (y, δ2)) (h3 : f x y = some z) : mBin f a b ρ δ = some (z, δ2) := by
  unfold mBin; rw [h1]; simp only [Option.bind_some]; rw [h2]; simp only [Option.bind_some]; rw [h3]; rfl
theorem mB_eq {m : ME} {ρ : List Sl} {δ δ1 : Dk} {b : Bool} (h : m ρ δ = some (.bool b, δ1)) : mB m ρ δ = some (b, δ1) := by unfold mB; rw [h]; rfl
theorem un_eq {f : D → Option D} {a : ME} {ρ : List Sl} {δ δ1 : Dk} {x z : D} (h1 : a ρ δ = some (x, δ1)) (h3 : f x = some z) : mUn f a ρ δ = some (z, δ1) := by
  unfold mUn; rw [h1]; simp only [Option.bind_some]; rw [h3]; rfl
theorem callK_eq {i : Nat} {m : List D → Dk → Option (D × Dk)} {r : MA} {ρ : List Sl} {δ δ1 δ2 : Dk} {ds : List D} {z : D} (hi : ρ[i]? = some .deck) (h1 : r ρ δ = some (ds, δ1)) (h2 : m ds δ1 = some (z, δ2)) : mCallK i m r ρ δ = some (z, δ2) := by
  unfold mCallK; rw [hi]; simp only; rw [h1]; exact h2
theorem call_eq {f : List D → Option D} {r : MA} {ρ : List Sl} {δ δ1 : Dk} {ds : List D} {z : D} (h1 : r ρ δ = some (ds, δ1)) (h2 : f ds = some z) : mCall f r ρ δ = some (z, δ1) := by
  unfold mCall; rw [h1]; simp only [Option.bind_some]; rw [h2]; rfl
theorem cons_eq {a : ME} {r : MA} {ρ : List Sl} {δ δ1 δ2 : Dk} {x : D} {xs : List D} (h1 : a ρ δ = some (x, δ1)) (h2 : r ρ δ1 = some (xs, δ2)) : mCons a r ρ δ = some (x :: xs, δ2) := by
  unfold mCons; rw [h1]; simp only [Option.bind_some]; rw [h2]; rfl
theorem sl_eq {a : ME} {lo hi : MO} {ρ : List Sl} {δ δ1 δ2 δ3 : Dk} {x z : D} {l h : Option Int} (h1 : a ρ δ = some (x, δ1)) (h2 : lo ρ δ1 = some (l, δ2)) (h3 : hi ρ δ2 = some (h, δ3)) (h4 : slD l h x = some z) : mSl a lo hi ρ δ = some (z, δ3) := by
  unfold mSl; rw [h1]; simp only [Option.bind_some]; rw [h2]; simp only [Option.bind_some]; rw [h3]; simp only [Option.bind_some]; rw [h4]; rfl
theorem os_eq {m : ME} {ρ : List Sl} {δ δ1 : Dk} {i : Int} (h : m ρ δ = some (.int i, δ1)) : oSome m ρ δ = some (some i, δ1) := by unfold oSome; rw [h]; rfl
theorem lst_eq {r : MA} {ρ : List Sl} {δ δ1 : Dk} {ds : List D} (h : r ρ δ = some (ds, δ1)) (hz : ds.length ≤ sizeLine) : mLst r ρ δ = some (.list ds, δ1) := by unfold mLst; rw [h]; simp only [Option.bind_some]; rw [if_pos hz]
theorem tup_eq {r : MA} {ρ : List Sl} {δ δ1 : Dk} {ds : List D} (h : r ρ δ = some (ds, δ1)) (hz : ds.length ≤ sizeLine) : mTup r ρ δ = some (.tuple ds, δ1) := by unfold mTup; rw [h]; simp only [Option.bind_some]; rw [if_pos hz]
theorem tru_eq {m : ME} {ρ : List Sl} {δ δ1 : Dk} {d : D} {b : Bool} (h : m ρ δ = some (d, δ1)) (h2 : truD d = some b) : mTru m ρ δ = some (b, δ1) := by unfold mTru; rw [h]; simp only [Option.bind_some]; rw [h2]; rfl
theorem lc_eq {mi : MA} {vs : List Nat} {g : MG} {tt : MT} {te : ME} {ρ : List Sl} {δ δ1 δ2 : Dk} {ds out : List D} (h1 : mi ρ δ = some (ds, δ1)) (hu : noU ρ vs = true) (h2 : compL g tt te (wipeR ρ vs) ds δ1 = some (out, δ2)) (hz : out.length ≤ sizeLine) : mLc mi vs g tt te ρ δ = some (.list out, δ2) := by
  unfold mLc; rw [h1]; simp only [Option.bind_some]; rw [if_pos hu, h2]; simp only [Option.bind_some]; rw [if_pos hz]
theorem it_eq {m : ME} {ρ : List Sl} {δ δ1 : Dk} {d : D} {ds : List D} (h : m ρ δ = some (d, δ1)) (h2 : itemsD d = some ds) : mItems m ρ δ = some (ds, δ1) := by unfold mItems; rw [h]; simp only [Option.bind_some]; rw [h2]; rfl
theorem inB_nat {j : Nat} (h : j ≤ 1000000) : inB (j : Int) = true := by
  have h1 : (-(4611686018427387904 : Int)) ≤ (j : Int) := by omega
  have h2 : (j : Int) < 4611686018427387904 := by omega
  have e : (2 : Int) ^ 62 = 4611686018427387904 := by decide
  unfold inB
  rw [e]
  exact decide_eq_true ⟨h1, h2⟩
def rngL (j : Nat) : List D := (List.range j).map fun (i : Nat) => .int (i : Int)
theorem rngL_eq (j : Nat) : ((List.range (j : Int).toNat).map fun (i : Nat) => PyData.int (0 + (i : Int))) = rngL j := by
  unfold rngL
  rw [Int.toNat_natCast]
  congr 1
  funext i
  rw [Int.zero_add]
theorem rng_eq {m : ME} {ρ : List Sl} {δ δ1 : Dk} {j : Nat} (h : m ρ δ = some (.int j, δ1)) (h2 : j ≤ 1000000) : mRng1 m ρ δ = some (rngL j, δ1) := by
  unfold mRng1
  rw [h, Option.bind_some]
  dsimp only
  rw [if_pos (inB_nat h2), rngL_eq]
/-- a comprehension without a draw: each item's element -/
theorem compL_map {α : Type} {g : MG} {te : ME} {ρ : List Sl} {δ : Dk} (enc : α → D) (f : α → D) : ∀ xs : List α, (∀ x ∈ xs, ∃ ρ2, g (enc x) ρ = some ρ2 ∧ te ρ2 δ = some (f x, δ)) → compL g mYes te ρ (xs.map enc) δ = some (xs.map f, δ)
  | [], _ => rfl
  | d :: ds, h => by
    obtain ⟨ρ2, e1, e2⟩ := h d (.head _)
    rw [List.map_cons]
    unfold compL
    rw [e1]
    simp only [Option.bind_some, mYes, ↓reduceIte]
    rw [e2]
    simp only [Option.bind_some]
    rw [compL_map enc f ds fun x hx => h x (.tail _ hx)]
    rfl
theorem compL_filter {α : Type} {g : MG} {tt : MT} {te : ME} {ρ : List Sl} {δ : Dk} (enc : α → D) (p : α → Bool) (f : α → D) : ∀ xs : List α, (∀ x ∈ xs, ∃ ρ2, g (enc x) ρ = some ρ2 ∧ tt ρ2 δ = some (p x, δ) ∧ (p x = true → te ρ2 δ = some (f x, δ))) → compL g tt te ρ (xs.map enc) δ = some ((xs.filter p).map f, δ)
  | [], _ => rfl
  | d :: ds, h => by
    obtain ⟨ρ2, e1, e2, e3⟩ := h d (.head _)
    rw [List.map_cons]
    unfold compL
    rw [e1]
    simp only [Option.bind_some]
    rw [e2]
    simp only [Option.bind_some]
    have ih := compL_filter enc p f ds fun x hx => h x (.tail _ hx)
    cases hp : p d with
    | false =>
      rw [List.filter_cons_of_neg (by rw [hp]; exact Bool.false_ne_true)]
      simp only [Bool.false_eq_true, ↓reduceIte]
      exact ih
    | true =>
      rw [List.filter_cons_of_pos hp]
      simp only [↓reduceIte]
      rw [e3 hp]
      simp only [Option.bind_some]
      rw [ih]
      rfl
theorem boolsD_map : ∀ bs : List Bool, boolsD (bs.map .bool) = some bs
  | [] => rfl
  | b :: r => by rw [List.map_cons]; unfold boolsD; rw [boolsD_map r]; rfl
theorem strsD_map : ∀ bs : List Str, strsD (bs.map .str) = some bs
  | [] => rfl
  | b :: r => by rw [List.map_cons]; unfold strsD; rw [strsD_map r]; rfl
/-- data that may be compared, so deep -/
def Sh (k : Nat) (d : D) : Prop := d.canLay0 = true ∧ d.depth ≤ k
theorem Sh.all {k : Nat} : ∀ {ds : List D}, (∀ d ∈ ds, Sh k d) → PyData.canLayAll0 ds = true ∧ PyData.depthAll ds ≤ k
  | [], _ => ⟨by simp [PyData.canLayAll0], by simp [PyData.depthAll]⟩
  | d :: ds, h => by
    obtain ⟨a1, a2⟩ := h d (.head _)
    obtain ⟨b1, b2⟩ := Sh.all (ds := ds) fun x hx => h x (.tail _ hx)
    refine ⟨by simp [PyData.canLayAll0, a1, b1], ?_⟩
    simp only [PyData.depthAll]
    omega
theorem Sh.lst {k : Nat} {ds : List D} (h : ∀ d ∈ ds, Sh k d) : Sh (k + 1) (.list ds) := by
  obtain ⟨a, b⟩ := Sh.all h
  exact ⟨by simp [PyData.canLay0, a], by simp only [PyData.depth]; omega⟩
theorem Sh.tup {k : Nat} {ds : List D} (h : ∀ d ∈ ds, Sh k d) : Sh (k + 1) (.tuple ds) := by
  obtain ⟨a, b⟩ := Sh.all h
  exact ⟨by simp [PyData.canLay0, a], by simp only [PyData.depth]; omega⟩
theorem Sh.int (i : Int) : Sh 0 (.int i) := ⟨by simp [PyData.canLay0], by simp [PyData.depth]⟩
theorem Sh.bool (i : Bool) : Sh 0 (.bool i) := ⟨by simp [PyData.canLay0], by simp [PyData.depth]⟩
theorem Sh.str {x : Str} (h : PyData.strOk x = true) : Sh 0 (.str x) := ⟨by simp [PyData.canLay0, h], by simp [PyData.depth]⟩
theorem Sh.mono {k l : Nat} {d : D} (h : Sh k d) (hl : k ≤ l) : Sh l d := ⟨h.1, Nat.le_trans h.2 hl⟩
theorem Sh.ok {k : Nat} {d : D} (h : Sh k d) (hl : k ≤ 64) : SeqAt.shaped d = true := by
  unfold SeqAt.shaped
  rw [h.1, decide_eq_true (Nat.le_trans h.2 hl)]
  rfl
theorem eqD_of {k l : Nat} {d e : D} (h : Sh k d) (h' : Sh l e) (hk : k ≤ 64) (hl : l ≤ 64) : eqD d e = some (.bool (PyData.eqv d e)) := by
  unfold eqD
  rw [h.ok hk, h'.ok hl]; rfl
theorem neD_of {k l : Nat} {d e : D} (h : Sh k d) (h' : Sh l e) (hk : k ≤ 64) (hl : l ≤ 64) : neD d e = some (.bool (!PyData.eqv d e)) := by
  unfold neD
  rw [h.ok hk, h'.ok hl]; rfl
theorem eqv_nilT (ds : List D) : PyData.eqv (.tuple ds) (.tuple []) = ds.isEmpty := by cases ds <;> simp [PyData.eqv, PyData.eqvAll]
/-- a comprehension that draws: an invariant of the deck by the turn -/
theorem compL_inv {g : MG} {te : ME} {ρ : List Sl} (I : Nat → Dk → Prop) (R : D → D → Prop) : ∀ (ds : List D) (n : Nat) (δ : Dk), I n δ → (∀ d ∈ ds, ∀ (k : Nat) δ, k < n + ds.length → I k δ → ∃ ρ2 z δ', g d ρ = some ρ2 ∧ te ρ2 δ = some (z, δ') ∧ R d z ∧ I (k + 1) δ') →
    ∃ out δ', compL g mYes te ρ ds δ = some (out, δ') ∧ I (n + ds.length) δ' ∧ Paired R ds out
  | [], n, δ, h, _ => ⟨[], δ, rfl, h, .nil⟩
  | d :: ds, n, δ, h, hs => by
    obtain ⟨ρ2, z, δ1, e1, e2, r, h1⟩ := hs d (.head _) n δ (by simp) h
    obtain ⟨out, δ', e3, h3, r3⟩ := compL_inv I R ds (n + 1) δ1 h1 fun x hx k δ hk => hs x (.tail _ hx) k δ (by simp; omega)
    refine ⟨z :: out, δ', ?_, by rw [show n + (d :: ds).length = n + 1 + ds.length by simp; omega]; exact h3, .cons r r3⟩
    unfold compL
    rw [e1]
    simp only [Option.bind_some, mYes, ↓reduceIte]
    rw [e2]
    simp only [Option.bind_some]
    rw [e3]
    rfl
theorem fnP_eq {n np : Nat} {s : MS} {ds : List D} {d : D} {ρ' : List Sl} {δ' : Dk} (hl : ds.length = np ∧ np ≤ n) (h : s (slots n (ds.map .val)) ⟨[], 0, [], none⟩ = some (.rt d, ρ', δ')) : fnP n np s ds = some d := by
  unfold fnP
  rw [if_pos hl, h]; rfl
theorem fnK_eq {n np : Nat} {s : MS} {ds : List D} {d : D} {ρ' : List Sl} {δ δ' : Dk} (hl : ds.length + 1 = np ∧ np ≤ n) (h : s (slots n (.deck :: ds.map .val)) δ = some (.rt d, ρ', δ')) : fnK n np s ds δ = some (d, δ') := by
  unfold fnK
  rw [if_pos hl, h]; rfl
end PD
namespace PD
open PySem PySem.Spec PyProof.Rows L2
def bandD : D → D → Option D := onI (fun _ _ => true) fun i j => .int (Builtin.bitAnd i j)
section
variable {X : Cx} {a b : Expr} {ma mb : ME} {p pos pos1 pos2 p1 p2 : Pos}
theorem pd_band (ha : PD X a ma) (hb : PD X b mb) : PD X (.BinOp a .BitAnd b pos) (mBin bandD ma mb) := PD.op op_and (ops_I0 fun _ _ _ _ => .int _) ha hb
/-- x is None, x is True -/
def isND : D → D → Option D
  | .none, .none => some (.bool true)
  | _, .none => some (.bool false)
  | _, _ => none
def isBD : D → D → Option D
  | .bool x, .bool y => some (.bool (decide (x = y)))
  | _, _ => none
theorem isN_dec {K M H v d} (r : Rep K M H v d) : (decide (v = .non)) = (match d with | .none => true | _ => false) := by
  cases r <;> simp
def notOpt (f : D → D → Option D) : D → D → Option D := fun d e => (f d e).bind notD
theorem ops_notN {K} : OpS K (fun x y H Q => y = .non ∧ Q (.bl (!decide (x = .non))) H) (notOpt isND) := fun F σ H ρ δ x y d e z G rx ry hz Q q => by
  cases ry <;> first | (cases d <;> simp [isND, notOpt] at hz; done) | skip
  refine ⟨rfl, ?_⟩
  rw [isN_dec rx]
  cases d <;> (simp only [notOpt, isND, Option.bind_some, notD, Option.some.injEq] at hz; subst hz; exact q _ _ nokeep (.bl _))
theorem ops_notB {K} : OpS K rNotB (notOpt isBD) := fun F σ H ρ δ x y d e z G rx ry hz Q q => by
  unfold notOpt isBD at hz
  split at hz
  · simp only [Option.bind_some, notD, Option.some.injEq] at hz
    subst hz
    cases rx; cases ry
    exact ⟨_, _, rfl, rfl, q _ _ nokeep (.bl _)⟩
  · cases hz
def isNotD : D → D → Option D := fun d e => (notOpt isND d e).orElse fun _ => notOpt isBD d e
theorem cs_isnot : CmpS X .IsNot isNotD := ⟨_, OpR.or op_notN op_notBl, OpS.or ops_notN ops_notB⟩
def mLRng (r : MA) : ME := fun ρ δ => (r ρ δ).bind fun p => if p.1.length ≤ 100000 then some (.list p.1, p.2) else none
theorem pd_listR1 (hl : X.mg "list" = none) (hm : X.mg "range" = none) (hc : X.calm = true) (ha : PD X a ma) (hg : Gl X "list" := by rfl) (hgr : Gl X "range" := by rfl) (na : starEach [a] X.env = (false, eval a X.env) :: starEach [] X.env := by rfl)
    (nb : starEach [Expr.Call (.Name "range" p1) [a] [] pos1] X.env = (false, eval (.Call (.Name "range" p1) [a] [] pos1) X.env) :: starEach [] X.env := by rfl) : PD X (.Call (.Name "list" p) [.Call (.Name "range" p1) [a] [] pos1] [] pos) (mLRng (mRng1 ma)) := by
  obtain ⟨ta, h1, s1⟩ := ha.ex
  refine ⟨_, pe_listRg hc hg hl (prg_1 hgr hm h1 na) nb, fun F σ H ρ δ d δ' G e Q q => ?_⟩
  obtain ⟨⟨xs, δ1⟩, e1, e⟩ := Option.bind_eq_some_iff.mp e
  obtain ⟨⟨x, δ2⟩, e2, e1⟩ := Option.bind_eq_some_iff.mp e1
  refine s1 F σ H ρ δ _ _ G e2 _ fun v H1 G1 M1 R1 => ?_
  dsimp only at e1 e
  split at e1
  · rename_i j
    split at e1
    · rename_i hb
      have hb := of_decide_eq_true hb
      cases e1
      split at e
      · rename_i hz
        cases e
        cases R1
        rw [List.length_map, List.length_range] at hz
        refine ⟨_, rfl, ?_, fun q' hq => ?_⟩
        · have h0 : (j - 0).toNat ≤ 2 ^ 24 := by rw [Int.sub_zero]; exact Nat.le_trans hz (by decide)
          exact ⟨by omega, by omega, hb.1, hb.2, h0⟩
        · have k := upd_keeps (o := .lst (rgV 0 j)) hq
          refine q _ _ (G1.keep k) (M1.trans (Mv.same k)) (.lst ⟨G1.mfree hq, upd_same⟩ ?_)
          unfold rgV
          rw [Int.sub_zero]
          exact reps_ints (fun i => 0 + (i : Int)) (List.range j.toNat)
      · cases e
    · cases e1
  · cases e1
end
inductive RepD (K : PySem.W.Frag) (M : Addr → Prop) (H : Hp) : List (Key × V) → List (Key × D) → Prop
  | nil : RepD K M H [] []
  | cons {k : Key} {v : V} {d : D} {ps : List (Key × V)} {es : List (Key × D)} : Rep K M H v d → RepD K M H ps es → RepD K M H ((k, v) :: ps) ((k, d) :: es)
theorem RepD.mv {K M H M' H'} (h : Mv M H M' H') : ∀ {ps es}, RepD K M H ps es → RepD K M' H' ps es
  | _, _, .nil => .nil
  | _, _, .cons r t => .cons (r.mv h) (RepD.mv h t)
theorem RepD.app {K M H} : ∀ {ps es k v d}, RepD K M H ps es → Rep K M H v d → RepD K M H (ps ++ [(k, v)]) (es ++ [(k, d)])
  | _, _, _, _, _, .nil, r => .cons r .nil
  | _, _, _, _, _, .cons q t, r => .cons q (RepD.app t r)
theorem RepD.repK {K M H} : ∀ {ps es}, RepD K M H ps es → RepK K M H ps (es.map fun e => (keyD e.1, e.2))
  | _, _, .nil => .nil
  | _, _, .cons r t => .cons r (RepD.repK t)
def hasK (es : List (Key × D)) (k : Key) : Bool := es.any fun e => decide (e.1 = k)
theorem RepD.len {K M H} : ∀ {ps es}, RepD K M H ps es → ps.length = es.length
  | _, _, .nil => rfl
  | _, _, .cons _ t => by simp [RepD.len t]
theorem RepD.val {K M H} (k : Key) : ∀ {ps es}, RepD K M H ps es → (hasK es k = true → ∃ v, valV ps k = some v) ∧ (hasK es k = false → valV ps k = none ∧ (ps.any fun kv => decide (kv.1 = k)) = false)
  | _, _, .nil => ⟨fun h => by simp [hasK] at h, fun _ => ⟨rfl, rfl⟩⟩
  | _, _, .cons (k := k') (v := v) r t => by
    obtain ⟨h1, h2⟩ := RepD.val k t
    rw [valV_cons]
    by_cases hk : k' = k
    · rw [if_pos hk]
      exact ⟨fun _ => ⟨v, rfl⟩, fun h => by simp [hasK, hk] at h⟩
    · rw [if_neg hk]
      refine ⟨fun h => h1 ?_, fun h => ?_⟩
      · simpa [hasK, hk] using h
      · obtain ⟨a, b⟩ := h2 (by simpa [hasK, hk] using h)
        exact ⟨a, by rw [List.any_cons, b, decide_eq_false hk]; rfl⟩
def dictL (g : MG) (m1 m2 : ME) : List D → List Sl → Dk → List (Key × D) → Option (List Sl × Dk × List (Key × D))
  | [], ρ, δ, es => some (ρ, δ, es)
  | d :: ds, ρ, δ, es => (g d ρ).bind fun ρ1 => (m1 ρ1 δ).bind fun p => (keyOf p.1).bind fun k => (m2 ρ1 p.2).bind fun q => if es.length < sizeLine then dictL g m1 m2 ds ρ1 q.2 (if hasK es k then es else es ++ [(k, q.1)]) else none
def sDict (r : Nat) (mi : MA) (g : MG) (m1 m2 : ME) : MS := fun ρ δ => if r < ρ.length then (mi (ρ.set r .no) δ).bind fun p => (dictL g m1 m2 p.1 (ρ.set r .no) p.2 []).map fun z => (.nx, z.1.set r (.val (.dict (z.2.2.map fun e => (keyD e.1, e.2)))), z.2.1) else none
theorem snd_dict {K wi t1 t2 mi m1 m2 g mg} {sl : List Nat} (r : Nat)
    (hi : ∀ F σ H ρ δ ds δ', Good K F σ H ρ δ → mi ρ δ = some (ds, δ') → ∀ R : It → Hp → Prop, (∀ J H', Good K F σ H' ρ δ' → Mv (Mm F σ ρ) H (Mm F σ ρ) H' → Walks K (Mm F σ ρ) H' J ds → R J H') → wi σ H R)
    (hg : ∀ F σ H ρ δ v d ρ', Good K F σ H ρ δ → Rep K (Mm F σ ρ) H v d → mg d ρ = some ρ' → ∀ Q : L2.St → Hp → Prop, (∀ σ', Good K F σ' H ρ' δ → Mv (Mm F σ ρ) H (Mm F σ' ρ') H → Set1 sl σ σ' ρ ρ' → Q σ' H) → g v σ H Q)
    (h1 : Snd K t1 m1) (h2 : Snd K t2 m2) (hr : r ∉ sl) :
    SndS K (tSeq (tAsg tDNewK (gName r)) (tFor wi g (tDrop (tDSetd (tVar r) t1 t2)))) (sDict r mi mg m1 m2) := fun F σ H ρ δ fl ρ' δ' G e D q => by
  unfold sDict at e
  split at e
  · rename_i hz
    obtain ⟨⟨ds, δ1⟩, e1, e⟩ := Option.bind_eq_some_iff.mp e
    obtain ⟨⟨ρ3, δ3, es3⟩, e3, e⟩ := Option.map_eq_some_iff.mp e
    cases e
    intro A hA
    have nDk : ∀ p, F.dk = some p → A ≠ p.1 ∧ A ≠ p.2 ∧ A ≠ p.3 := fun p hp => ⟨(ne_of_none (G.dck p hp).2.2.2.one hA).symm, (ne_of_none (G.dck p hp).2.2.2.two hA).symm, (ne_of_none (G.dck p hp).2.2.2.tri hA).symm⟩
    obtain ⟨G1, M1⟩ := G.plus (o := .dK []) hA
    have hn0 : (F.plus A).H0 A = none := G.fresh0 hA
    have hMA : (F.plus A).M0 A := .inr rfl
    obtain ⟨G2, M2⟩ := G1.setNo r (some (.ref A))
    have hrl : r < σ.length := by rw [G.len]; exact hz
    refine hi ((F.plus A).pin A (.dK [])) (σ.set r (some (.ref A))) _ (ρ.set r .no) δ ds δ1 (G2.pin hMA upd_same) e1 _ fun J H4 G4 M4 Wk => ?_
    rw [Mm_pin] at M4 Wk
    have hA4 : H4 A = some (.dK []) := G4.fr A _ upd_same nDk
    refine ⟨fun ii k σ5 H5 => k = ds.length - ii ∧ ii ≤ ds.length ∧ ∃ ρ5 δ5 es5 kvs5, Good K (F.plus A) σ5 H5 ρ5 δ5 ∧ σ5[r]? = some (some (.ref A)) ∧ ρ5[r]? = some .no ∧ H5 A = some (.dK kvs5) ∧ RepD K (Mm (F.plus A) σ5 ρ5) H5 kvs5 es5 ∧
      Mv (Mm (F.plus A) (σ.set r (some (.ref A))) (ρ.set r .no)) H4 (Mm (F.plus A) σ5 ρ5) H5 ∧ dictL mg m1 m2 (ds.drop ii) ρ5 δ5 es5 = some (ρ3, δ3, es3), ⟨_, rfl, Nat.zero_le _, ρ.set r .no, δ1, [], [], Good.unpin hn0 hMA G4, List.getElem?_set_self hrl, List.getElem?_set_self hz, hA4, .nil, Mv.refl _ _, e3⟩, ?_⟩
    rintro ii k σ5 H5 ⟨rfl, hile, ρ5, δ5, es5, kvs5, G5, hσ5, hρ5, hA5, RD5, M5, ef⟩
    by_cases hlt : ii < ds.length
    · obtain ⟨go, yl⟩ := (Wk _ H5 M5 G5.mm ii).1 hlt
      have hld : ii < ds.length := hlt
      rw [List.drop_eq_getElem_cons hld] at ef
      refine .inr ⟨go, fun σ5 H5 => ∃ ρ5 δ5 es5 kvs5, Good K (F.plus A) σ5 H5 ρ5 δ5 ∧ σ5[r]? = some (some (.ref A)) ∧ ρ5[r]? = some .no ∧ H5 A = some (.dK kvs5) ∧ RepD K (Mm (F.plus A) σ5 ρ5) H5 kvs5 es5 ∧
        Mv (Mm (F.plus A) (σ.set r (some (.ref A))) (ρ.set r .no)) H4 (Mm (F.plus A) σ5 ρ5) H5 ∧ dictL mg m1 m2 (ds.drop (ii + 1)) ρ5 δ5 es5 = some (ρ3, δ3, es3), fun σ' H' h => ⟨ds.length - (ii + 1), by omega, rfl, hlt, h⟩, fun x H6 hy => ?_⟩
      obtain ⟨kp, dx, edx, rdx⟩ := yl x H6 hy
      rw [List.getElem?_eq_getElem hld] at edx
      cases edx
      replace G5 := G5.keep kp
      replace M5 := M5.trans (Mv.same kp)
      replace hA5 := kp _ _ hA5
      replace RD5 := RD5.mv (Mv.same kp)
      unfold dictL at ef
      obtain ⟨ρ6, f1, ef⟩ := Option.bind_eq_some_iff.mp ef
      obtain ⟨⟨d1, δ6⟩, f2, ef⟩ := Option.bind_eq_some_iff.mp ef
      obtain ⟨kk, f3, ef⟩ := Option.bind_eq_some_iff.mp ef
      obtain ⟨⟨d2, δ7⟩, f4, ef⟩ := Option.bind_eq_some_iff.mp ef
      dsimp only at ef
      split at ef
      · rename_i hsz
        refine hg _ σ5 H6 ρ5 δ5 x _ ρ6 G5 rdx f1 _ fun σ6 G6 M6 T6 => ?_
        have hσ6 : σ6[r]? = some (some (.ref A)) := (T6.s r hr).trans hσ5
        have hρ6 : ρ6[r]? = some .no := (T6.r r hr).trans hρ5
        refine ⟨_, hσ6, A, rfl, .inl ⟨kvs5, .inl hA5⟩, ?_⟩
        refine h1 ((F.plus A).pin A (.dK kvs5)) σ6 H6 ρ6 δ5 d1 δ6 (G6.pin hMA hA5) f2 _ fun v1 H7 G7 M7 R7 => ?_
        refine h2 ((F.plus A).pin A (.dK kvs5)) σ6 H7 ρ6 δ6 d2 δ7 G7 f4 _ fun v2 H8 G8 M8 R8 => ?_
        rw [Mm_pin] at M7 R7 M8 R8
        have hA8 : H8 A = some (.dK kvs5) := G8.fr A _ upd_same nDk
        have ky := keyOf_rep R7 f3
        have MM := (M6.trans M7).trans M8
        have RD8 := RD5.mv MM
        obtain ⟨c1, c2⟩ := RD8.val kk
        have G8' := Good.unpin hn0 hMA G8
        refine ⟨kvs5, kk, hA8, ky, by rw [RD8.len]; exact hsz, fun v hv => ?_, fun hv => ?_⟩
        · cases hh : hasK es5 kk with
          | false => rw [(c2 hh).1] at hv; cases hv
          | true =>
            rw [hh] at ef
            exact ⟨ρ6, δ7, es5, kvs5, G8', hσ6, hρ6, hA8, RD8, M5.trans MM, ef⟩
        · cases hh : hasK es5 kk with
          | true => obtain ⟨v, hv'⟩ := c1 hh; rw [hv'] at hv; cases hv
          | false =>
            rw [hh] at ef
            obtain ⟨G9, M9⟩ := G8'.writeM (D := A) (o := .dK (kvs5 ++ [(kk, v2)])) hMA nDk hn0
            have hput : putK kvs5 kk v2 = kvs5 ++ [(kk, v2)] := by
              unfold putK
              rw [(c2 hh).2, if_neg Bool.false_ne_true]
            rw [hput]
            exact ⟨ρ6, δ7, es5 ++ [(kk, d2)], _, G9, hσ6, hρ6, upd_same, (RD8.app R8).mv M9, (M5.trans MM).trans M9, ef⟩
      · cases ef
    · have hi5 : ii = ds.length := by omega
      subst hi5
      rw [List.drop_of_length_le (Nat.le_refl _)] at ef
      cases ef
      refine .inl ⟨(Wk _ H5 M5 G5.mm ds.length).2 (Nat.le_refl _), ?_⟩
      have eA : F.plus A = F.plusS [A] := by
        have := plusS_cons (F := F) (l := []) (b := A)
        rw [plusS_nil] at this
        exact this
      have G5' := G5
      rw [eA] at G5'
      obtain ⟨G9, M9⟩ := Good.shrink ⟨_, _, _, _, G⟩ G5'
      rw [← eA] at M9
      have hnot : ¬ Mm F σ5 ρ3 A := fun z => by
        rcases z with z | ⟨jj, fs, f1, f2⟩
        · exact (G.m0 A z).ne hA
        · obtain ⟨c, zs, g1, g2, g3, g4⟩ := G5.own jj fs f1
          rw [f2] at g1; cases g1
          exact g4.1 hMA
      have RR : Rep K (Mm F σ5 ρ3) H5 (.ref A) (.dict (es3.map fun e => (keyD e.1, e.2))) := .dic hnot (.inl hA5) (RD5.mv M9).repK
      obtain ⟨G10, M10⟩ := G9.set r RR
      have hset : σ5.set r (some (.ref A)) = σ5 := by
        have hr5 : r < σ5.length := by
          rcases Nat.lt_or_ge r σ5.length with h | h
          · exact h
          · rw [List.getElem?_eq_none h] at hσ5; cases hσ5
        refine list_ext fun k => ?_
        by_cases hk : r = k
        · subst hk; rw [List.getElem?_set_self hr5, hσ5]
        · rw [List.getElem?_set_ne hk]
      rw [hset] at G10 M10
      exact q σ5 H5 G10 (((M1.trans M2).trans M4).trans ((M5.trans M9).trans M10))
  · cases e
end PD
namespace PD
open PySem PySem.Spec PyProof.Rows L2
section
variable {K : PySem.W.Frag} {M : Addr → Prop} {H : Hp} {A : Addr} {od : Obj} {kvs : List (Key × V)}
theorem rd_lock {u : HO} {a : Addr} (hA : H A = some (.dK kvs)) (hu : ∀ o, u ≠ .frz o (.dK kvs)) (r : Rd H a u) : Rd (upd H A (.frz od (.dK kvs))) a u := by
  by_cases ha : a = A
  · subst ha
    rcases r with r | ⟨o, r⟩
    · rw [hA] at r; cases r; exact .inr ⟨od, upd_same⟩
    · rw [hA] at r; cases r
  · rcases r with r | ⟨o, r⟩
    · exact .inl (by rw [upd_ne ha]; exact r)
    · exact .inr ⟨o, by rw [upd_ne ha]; exact r⟩
theorem rd_unlock {u : HO} {a : Addr} (hA : H A = some (.frz od (.dK kvs))) (hu : ∀ o w, u ≠ .frz o w) (r : Rd H a u) : Rd (upd H A (.dK kvs)) a u := by
  by_cases ha : a = A
  · subst ha
    rcases r with r | ⟨o, r⟩
    · rw [hA] at r; cases r; exact absurd rfl (hu _ _)
    · rw [hA] at r; cases r; exact .inl upd_same
  · rcases r with r | ⟨o, r⟩
    · exact .inl (by rw [upd_ne ha]; exact r)
    · exact .inr ⟨o, by rw [upd_ne ha]; exact r⟩
theorem lst_lock {xs : List V} {a : Addr} (hA : H A = some (.dK kvs)) (h : H a = some (.lst xs)) : upd H A (.frz od (.dK kvs)) a = some (.lst xs) := by
  rw [upd_ne (fun z => by rw [z, hA] at h; cases h)]; exact h
theorem lst_unlock {xs : List V} {a : Addr} (hA : H A = some (.frz od (.dK kvs))) (h : H a = some (.lst xs)) : upd H A (.dK kvs) a = some (.lst xs) := by
  rw [upd_ne (fun z => by rw [z, hA] at h; cases h)]; exact h
theorem tup_lock {xs : List V} {a : Addr} (hA : H A = some (.dK kvs)) (h : H a = some (.tup xs)) : upd H A (.frz od (.dK kvs)) a = some (.tup xs) := by
  rw [upd_ne (fun z => by rw [z, hA] at h; cases h)]; exact h
theorem tup_unlock {xs : List V} {a : Addr} (hA : H A = some (.frz od (.dK kvs))) (h : H a = some (.tup xs)) : upd H A (.dK kvs) a = some (.tup xs) := by
  rw [upd_ne (fun z => by rw [z, hA] at h; cases h)]; exact h
end
structure Al (K : PySem.W.Frag) (M : Addr → Prop) (H H' : Hp) : Prop where
  al : ∀ {a xs}, AL K M H a xs → AL K M H' a xs
  at' : ∀ {a xs}, AT K M H a xs → AT K M H' a xs
  ad : ∀ {a kvs}, Rd H a (.dK kvs) → Rd H' a (.dK kvs)
mutual
theorem Rep.al {K M H H'} (h : Al K M H H') : ∀ {v d}, Rep K M H v d → Rep K M H' v d
  | _, _, .non => .non
  | _, _, .bl b => .bl b
  | _, _, .int i => .int i
  | _, _, .str x => .str x
  | _, _, .lst a r => .lst (h.al a) (Reps.al h r)
  | _, _, .tup a r => .tup (h.at' a) (Reps.al h r)
  | _, _, .dic n e r => .dic n (h.ad e) (RepK.al h r)
theorem Reps.al {K M H H'} (h : Al K M H H') : ∀ {vs ds}, Reps K M H vs ds → Reps K M H' vs ds
  | _, _, .nil => .nil
  | _, _, .cons r t => .cons (Rep.al h r) (Reps.al h t)
theorem RepK.al {K M H H'} (h : Al K M H H') : ∀ {vs ds}, RepK K M H vs ds → RepK K M H' vs ds
  | _, _, .nil => .nil
  | _, _, .cons r t => .cons (Rep.al h r) (RepK.al h t)
end
theorem RepT.al {K M H H'} (h : Al K M H H') : ∀ {vs ds}, RepT K M H vs ds → RepT K M H' vs ds
  | _, _, .nil => .nil
  | _, _, .cons r t => .cons (Rep.al h r) (RepT.al h t)
section
variable {K : PySem.W.Frag} {M : Addr → Prop} {H : Hp} {A : Addr} {od : Obj} {kvs : List (Key × V)}
theorem al_lock (hA : H A = some (.dK kvs)) : Al K M H (upd H A (.frz od (.dK kvs))) :=
  ⟨fun a => ⟨a.1, lst_lock hA a.2⟩, fun a => match a with
    | .inl a z => .inl ⟨a.1, tup_lock hA a.2⟩ z
    | .inr a z => .inr a z
    | .pl n o a d z => .pl n o (by rw [upd_ne (fun z => by rw [z, hA] at a; cases a)]; exact a) d z
    | .man n o a s => .man n o (by rw [upd_ne (fun z => by rw [z, hA] at a; cases a)]; exact a) s, fun e => rd_lock hA (fun o z => nomatch z) e⟩
theorem al_unlock (hA : H A = some (.frz od (.dK kvs))) : Al K M H (upd H A (.dK kvs)) :=
  ⟨fun a => ⟨a.1, lst_unlock hA a.2⟩, fun a => match a with
    | .inl a z => .inl ⟨a.1, tup_unlock hA a.2⟩ z
    | .inr a z => .inr a z
    | .pl n o a d z => .pl n o (by rw [upd_ne (fun z => by rw [z, hA] at a; cases a)]; exact a) d z
    | .man n o a s => .man n o (by rw [upd_ne (fun z => by rw [z, hA] at a; cases a)]; exact a) s, fun e => rd_unlock hA (fun o w z => nomatch z) e⟩
theorem Rep.lock {v d} (r : Rep K M H v d) (hA : H A = some (.dK kvs)) : Rep K M (upd H A (.frz od (.dK kvs))) v d := r.al (al_lock hA)
theorem Reps.lock {v d} (r : Reps K M H v d) (hA : H A = some (.dK kvs)) : Reps K M (upd H A (.frz od (.dK kvs))) v d := r.al (al_lock hA)
theorem RepK.lock {v d} (r : RepK K M H v d) (hA : H A = some (.dK kvs)) : RepK K M (upd H A (.frz od (.dK kvs))) v d := r.al (al_lock hA)
theorem OwR.lock {v d} (r : OwR K M H v d) (hA : H A = some (.dK kvs)) : OwR K M (upd H A (.frz od (.dK kvs))) v d := by
  cases r with
  | lst r => exact .lst (r.lock hA)
  | dic r => exact .dic (r.lock hA)
  | dct r => exact .dct (r.al (al_lock hA))
  | dcf r => exact .dcf (r.al (al_lock hA))
theorem Rep.unlock {v d} (r : Rep K M H v d) (hA : H A = some (.frz od (.dK kvs))) : Rep K M (upd H A (.dK kvs)) v d := r.al (al_unlock hA)
theorem Reps.unlock {v d} (r : Reps K M H v d) (hA : H A = some (.frz od (.dK kvs))) : Reps K M (upd H A (.dK kvs)) v d := r.al (al_unlock hA)
theorem RepK.unlock {v d} (r : RepK K M H v d) (hA : H A = some (.frz od (.dK kvs))) : RepK K M (upd H A (.dK kvs)) v d := r.al (al_unlock hA)
theorem OwR.unlock {v d} (r : OwR K M H v d) (hA : H A = some (.frz od (.dK kvs))) : OwR K M (upd H A (.dK kvs)) v d := by
  cases r with
  | lst r => exact .lst (r.unlock hA)
  | dic r => exact .dic (r.unlock hA)
  | dct r => exact .dct (r.al (al_unlock hA))
  | dcf r => exact .dcf (r.al (al_unlock hA))
end
def Fr.lock (F : Fr) (A : Addr) : Fr := { F with H0 := fun a => if a = A then none else F.H0 a }
theorem Mm_lock {F A σ ρ} : Mm (F.lock A) σ ρ = Mm F σ ρ := rfl
theorem Good.lock {K F σ H ρ δ A kvs od} (G : Good K F σ H ρ δ) (nA : ¬ Mm F σ ρ A) (hA : H A = some (.dK kvs)) : Good K (F.lock A) σ (upd H A (.frz od (.dK kvs))) ρ δ := by
  refine ⟨G.len, fun i d e => ?_, fun i ds e => ?_, G.inj, fun a ha => ?_, fun {k} i e => (G.dsl i e).mo rfl (fun a u t e1 n1 => ⟨(if_neg (fun z => by rw [z] at e1 n1; have q := G.frT e1 n1; rw [hA] at q; rcases t with ⟨xs, t⟩ | ⟨o, xs, t⟩ | ⟨o, t⟩ <;> (subst t; cases q))).trans e1, n1⟩) (Nat.le_refl _), fun p e => ?_, fun a o e n => ?_⟩
  · obtain ⟨v, e1, r⟩ := G.val i d e
    exact ⟨v, e1, r.lock hA⟩
  · obtain ⟨a, xs, e1, e2, r, n⟩ := G.own i ds e
    refine ⟨a, xs, e1, by rw [upd_ne (fun z => nA (by rw [← z]; exact .inr ⟨i, ds, e, e1⟩))]; exact e2, r.lock hA, n.1, n.2.mo fun n2 => ?_⟩
    show (if a = A then none else F.H0 a) = none
    split
    · rfl
    · exact n2
  · by_cases hz : a = A
    · rw [hz, upd_same]; trivial
    · rw [upd_ne hz]; exact G.m0 a ha
  · obtain ⟨d1, d2, d4, d3⟩ := G.dck p e
    exact ⟨d1, d2, d4, d3.ne, d3.ne2, d3.ne3, by rw [upd_ne (fun z => by have := d3.one; rw [z, hA] at this; cases this)]; exact d3.one, by rw [upd_ne (fun z => by have := d3.two; rw [z, hA] at this; cases this)]; exact d3.two, by rw [upd_ne (fun z => by have := d3.tri; rw [z, hA] at this; cases this)]; exact d3.tri⟩
  · have e : (if a = A then none else F.H0 a) = some o := e
    split at e
    · cases e
    · rename_i hz
      rw [upd_ne hz]
      exact G.fr a o e n
theorem Good.unlock {K F σ H H0 ρ ρ0 δ δ0 A kvs od} (G0 : Good K F σ H0 ρ0 δ0) (hA0 : H0 A = some (.dK kvs)) (G : Good K (F.lock A) σ H ρ δ) (hA : H A = some (.frz od (.dK kvs))) (hu : ∀ (i : Nat) ds, ρ[i]? = some (.own ds) → ρ0[i]? = some (.own ds)) : Good K F σ (upd H A (.dK kvs)) ρ δ := by
  refine ⟨G.len, fun i d e => ?_, fun i ds e => ?_, G.inj, fun a ha => ?_, fun {k} i e => (G.dsl i e).mo rfl (fun a u t e1 n1 => ⟨by
    have e1 : (if a = A then none else F.H0 a) = some u := e1
    split at e1
    · cases e1
    · exact e1, n1⟩) (Nat.le_refl _), fun p e => ?_, fun a o e n => ?_⟩
  · obtain ⟨v, e1, r⟩ := G.val i d e
    exact ⟨v, e1, r.unlock hA⟩
  · obtain ⟨a, xs, e1, e2, r, n⟩ := G.own i ds e
    obtain ⟨a', xs', f1, f2, f3, f4⟩ := G0.own i ds (hu i ds e)
    rw [e1] at f1; cases f1
    exact ⟨a, xs, e1, by rw [upd_ne (fun z => by rw [z, hA] at e2; cases e2; cases r)]; exact e2, r.unlock hA, f4⟩
  · by_cases hz : a = A
    · rw [hz, upd_same]; trivial
    · rw [upd_ne hz]; exact G.m0 a ha
  · obtain ⟨d1, d2, d4, d3⟩ := G.dck p e
    exact ⟨d1, d2, d4, d3.ne, d3.ne2, d3.ne3, by rw [upd_ne (fun z => by have := d3.one; rw [z, hA] at this; cases this)]; exact d3.one, by rw [upd_ne (fun z => by have := d3.two; rw [z, hA] at this; cases this)]; exact d3.two, by rw [upd_ne (fun z => by have := d3.tri; rw [z, hA] at this; cases this)]; exact d3.tri⟩
  · by_cases hz : a = A
    · subst hz
      have := G0.fr a o e n
      rw [hA0] at this
      cases this
      exact upd_same
    · rw [upd_ne hz]
      exact G.fr a o (by show (if a = A then none else F.H0 a) = some o; rw [if_neg hz]; exact e) n
theorem walk_items {K M H A o kvs es} (n : ¬ M A) (hA : H A = some (.frz o (.dK kvs))) (r : RepK K M H kvs es) : Walks K M H (Iti A o kvs) (es.map fun e => .tuple [e.1, e.2]) := fun M2 H2 mv wf i => by
  have hl : ∀ {kvs : List (Key × V)} {es : List (D × D)}, RepK K M H kvs es → kvs.length = es.length := fun {kvs es} r => by
    have : ∀ {kvs : List (Key × V)} {es : List (D × D)}, RepK K M H kvs es → kvs.length = es.length := @fun kvs => by
      induction kvs with
      | nil => intro es r; cases r; rfl
      | cons x xs ih => intro es r; cases r with | cons _ t => simp [ih t]
    exact this r
  have hA2 := (mv A _ hA n).1
  have r2 := r.mv mv
  have hg : ∀ {kvs : List (Key × V)} {es : List (D × D)} {i : Nat} {k v}, RepK K M2 H2 kvs es → kvs[i]? = some (k, v) → ∃ d, es[i]? = some (keyD k, d) ∧ Rep K M2 H2 v d := by
    intro kvs
    induction kvs with
    | nil => intro es i k v r e; simp at e
    | cons x xs ih =>
      intro es i k v r e
      cases r with
      | cons q t =>
        cases i with
        | zero => simp at e; obtain ⟨rfl, rfl⟩ := e; exact ⟨_, rfl, q⟩
        | succ i => simpa using ih t (by simpa using e)
  refine ⟨fun hi => ⟨⟨hA2, by rw [hl r]; simpa using hi⟩, fun x H3 y => ?_⟩, fun hi => ⟨hA2, by rw [hl r]; simpa using hi⟩⟩
  obtain ⟨T, k, v, e1, rfl, hT, rfl⟩ := y
  obtain ⟨d, e2, rr⟩ := hg r2 e1
  have kp := upd_keeps (o := .tup [kV k, v]) hT
  refine ⟨kp, .tuple [keyD k, d], by rw [List.getElem?_map, e2]; rfl, .tup (.inl ⟨fun z => (wf T z).ne hT, upd_same⟩ (by cases k <;> rfl)) (.cons ?_ (.cons (rr.mv (Mv.same kp)) .nil))⟩
  cases k with
  | inl i => exact .int i
  | inr i => exact .str i
/-- [elt for a, b in NAME.items() ..] -/
def mLcItems (r : Nat) (vs : List Nat) (g : MG) (tt : MT) (te : ME) : ME := fun ρ δ => match ρ[r]? with
  | some (.val (.dict es)) => if noU ρ vs = true then (compL g tt te (wipeR ρ vs) (es.map fun e => .tuple [e.1, e.2]) δ).bind fun q => if q.1.length ≤ sizeLine then some (.list q.1, q.2) else none else none
  | _ => none
/-- only a dict that no lock holds may be locked: the value in the slot stands as itself -/
theorem snd_lcItems {K g tt te vs mg mt me r} {sl : List Nat} (hg : ∀ F σ H ρ δ v d ρ', Good K F σ H ρ δ → Rep K (Mm F σ ρ) H v d → mg d ρ = some ρ' → ∀ Q : L2.St → Hp → Prop, (∀ σ', Good K F σ' H ρ' δ → Mv (Mm F σ ρ) H (Mm F σ' ρ') H → Set1 sl σ σ' ρ ρ' → Q σ' H) → g v σ H Q)
    (ht : SndT K tt mt) (he : Snd K te me) (hs : ∀ i ∈ sl, i ∈ vs) : Snd K (fun σ H Q => tLockE (tLc (iItems (tVar r)) g tt te vs) σ H Q ∨ tLc (iItems (tVar r)) g tt te vs σ H Q) (mLcItems r vs mg mt me) := fun F σ H ρ δ d δ' G e Q q => by
  unfold mLcItems at e
  split at e
  · rename_i es hr
    split at e
    · rename_i hu
      obtain ⟨⟨out, δ2⟩, e2, e⟩ := Option.bind_eq_some_iff.mp e
      dsimp only at e
      split at e
      · rename_i hz
        obtain ⟨rfl, rfl⟩ : PyData.list out = d ∧ δ2 = δ' := by
          have := Option.some.inj e
          exact ⟨congrArg Prod.fst this, congrArg Prod.snd this⟩
        obtain ⟨v, hv, R⟩ := G.val r _ hr
        cases R with
        | @dic A kvs _ n hA rk =>
          rcases hA with hA | ⟨o, hA⟩
          · refine .inl ⟨A, .dK kvs, hA, trivial, fun od => ?_⟩
            have GL : Good K (F.lock A) σ (upd H A (.frz od (.dK kvs))) ρ δ := G.lock n hA
            refine ⟨_, hv, A, od, kvs, rfl, upd_same, ?_⟩
            refine lc_in (Q := fun w H' => H' A = some (.frz od (.dK kvs)) ∧ Q w (upd H' A (.dK kvs))) hg ht he hs hu e2 hz GL (walk_items (by rw [Mm_lock]; exact n) upd_same (rk.lock hA)) fun w H' G' M' R' => ?_
            rw [Mm_lock] at M' R'
            have hA' : H' A = some (.frz od (.dK kvs)) := (M' A _ upd_same n).1
            refine ⟨hA', q w _ (G.unlock hA G' hA' fun _ _ h => h) (fun a o' e' n' => ?_) (R'.unlock hA')⟩
            by_cases haz : a = A
            · subst haz
              rw [hA] at e'; cases e'
              exact ⟨upd_same, n'⟩
            · rw [upd_ne haz]
              exact ⟨(M' a o' (by rw [upd_ne haz]; exact e') n').1, n'⟩
          · exact .inr ⟨_, hv, A, o, kvs, rfl, hA, lc_in hg ht he hs hu e2 hz G (walk_items n hA rk) q⟩
      · cases e
    · cases e
  · cases e
section
variable {X : Cx} {elt : Expr} {elts : List Expr} {kk : Nat} {tpos apos cpos p0 pos : Pos} {ifs : List Expr} {scope : Scope} {own : List (Str × Nat)} {mg : MG} {mt : MT} {me : ME} {sl : List Nat} {x : Str}
theorem pd_lcItems (r : Nat) (hc : X.calm = true) (hN : X.N.Nodup) (ok : BlkOk X.N X.env.scope scope own) (B : Blk X scope own (.Tuple elts kk tpos) ifs elt sl mg mt me) (hNr : X.N[r]? = some x := by rfl) (hv : Vis X.env.scope x := by first | exact Or.inl rfl | exact Or.inr (Or.inl rfl) | exact Or.inr (Or.inr rfl)) (hd : (x == ("__debug__" : Str)) = false := by decide)
    (hcd : (x == ("__classdict__" : Str)) = false := by decide) (hbase : attributeBase (.Name x p0) "items" X.env (eval (.Name x p0) X.env) = eval (.Name x p0) X.env := by rfl) (hline : (apos.endLine == cpos.line) = true := by rfl) (hs : ∀ y, foldedSetIterable (.Call (.Attribute (.Name x p0) "items" apos) [] [] cpos) X.env y = pure y := by intro _; rfl) :
    PD X (.ListComp elt [⟨.Tuple elts kk tpos, .Call (.Attribute (.Name x p0) "items" apos) [] [] cpos, ifs, 0⟩] scope pos) (mLcItems r (own.map (·.2)) mg mt me) := by
  obtain ⟨g, tt, te, p1, p2, p3, s2, s3, s4⟩ := B.all
  have P := pe_lc (pos := pos) hc hN (pi_items (pe_var hNr hv hd hcd) hbase hline) ok p1 p2 p3 hs
  have PL := pe_lock P
  exact ⟨_, ⟨fun pins s σ H Q I h => h.elim (fun h => PL.run pins s σ H Q I h) (fun h => P.run pins s σ H Q I h)⟩, snd_lcItems s2 s3 s4 B.o⟩
end
end PD
namespace PD
open PySem PySem.Spec PyProof.Rows L2
section
variable {P : Program} {ω : World} {A : Around} {R : Result → Shared → Prop} {s : Shared} {el : Expr} {gs : List Comprehension} {sc : Scope} {ps : Pos} {k : Nat} {t0 i0 t1 i1 : Expr} {ff0 ff1 : List Expr} {it acc : Value} {ε : Env}
abbrev tests (fs : List Expr) (ε : Env) : Sem Bool := forIn fs true fun c r => if r = true then do let ok ← isTrue c ε (eval c ε); pure (ForInStep.yield ok) else pure (ForInStep.yield r)
theorem loopN_out (h0 : gs[k]? = some ⟨t0, i0, ff0, 0⟩) (h1 : gs[k + 1]? = some ⟨t1, i1, ff1, 0⟩) (hs : ∀ x, foldedSetIterable i1 ε x = pure x) (I : Nat → Shared → Prop)
    (turn : ∀ n s, I n s → wpAny (model P ω) A (pyNext it) (fun r s₁ => match r with
      | none => R (.ok .next) s₁
      | some v => wpAny (model P ω) A (letOwnedTupleGo t0 it v) (fun _ s₁' => wpAny (model P ω) A (assign t0 ε v) (fun _ s₂ =>
          wpAny (model P ω) A (tests ff0 ε) (fun ok s₃ =>
            if ok = true then wpAny (model P ω) A (eval i1 ε) (fun x s₄ => wpAny (model P ω) A (pyIter x) (fun it1 s₅ =>
              codeAny (model P ω) A (.compStart (.ListComp el gs sc ps) (k + 1) it1 acc ε) (fun r s' => match r with
                | .ok _ => ∃ m, m < n ∧ I m s'
                | .error _ => False) s₅) (fun _ _ => False) s₄) (fun _ _ => False) s₃
            else ∃ m, m < n ∧ I m s₃) (fun _ _ => False) s₂) (fun _ _ => False) s₁') (fun _ _ => False) s₁) (fun _ _ => False) s)
    (n : Nat) (h : I n s) : codeAny (model P ω) A (.compLoop (.ListComp el gs sc ps) k it acc ε) R s := by
  refine codeAny_loop rfl I (fun nn sh hIn => ?_) n h
  show wpAny _ A ((compTurn (.ListComp el gs sc ps) k it acc ε).onRaise (fun x => do noteFrame x ε; theTreesLotGoes x)) _ _ sh
  refine wpAny_noted ?_
  unfold compTurn
  simp only [h0, h1]
  refine wpAny_bind (wpAny_standAt (wpAny_bind (thnF (turn nn sh hIn) fun r s₁ z₁ => ?_)))
  cases r with
  | none => exact wpAny_pure z₁
  | some v =>
    refine wpAny_bind (thnF z₁ fun _ s₁' z₁' => ?_)
    refine wpAny_bind (thnF z₁' fun _ s₂ z₂ => wpAny_bind (thnF z₂ fun ok s₃ z₃ => ?_))
    cases ok with
    | false => exact wpAny_pure ⟨rfl, z₃⟩
    | true =>
      refine wpAny_bind (thnF z₃ fun x s₄ z₄ => ?_)
      refine wpAny_bind (wpAny_standAt (wpAny_bind (wpAny_of_eq (hs x) (wpAny_bind (wpAny_holding (thnF z₄ fun it1 s₅ z₅ => ?_))))))
      refine wpAny_bind (wpAny_runOwn ?_)
      rw [Around.mark_none]
      refine codeAny_mono z₅ fun r s' hrr => ?_
      cases r with
      | ok f =>
        first
          | exact wpAny_pure ⟨rfl, hrr⟩
          | exact wpAny_bind (wpAny_pure (wpAny_pure ⟨rfl, hrr⟩))
      | error e => exact hrr.elim
theorem loopN_in (h0 : gs[k]? = some ⟨t0, i0, ff0, 0⟩) (h1 : gs[k + 1]? = none) (I : Nat → Shared → Prop)
    (turn : ∀ n s, I n s → wpAny (model P ω) A (pyNext it) (fun r s₁ => match r with
      | none => R (.ok .next) s₁
      | some v => wpAny (model P ω) A (letOwnedTupleGo t0 it v) (fun _ s₁' => wpAny (model P ω) A (assign t0 ε v) (fun _ s₂ =>
          wpAny (model P ω) A (tests ff0 ε) (fun ok s₃ =>
            if ok = true then wpAny (model P ω) A (eval el ε) (fun x s₄ =>
              wpAny (model P ω) A (call (.builtin "list.append") [acc, x]) (fun _ s₅ => ∃ m, m < n ∧ I m s₅) (fun _ _ => False) s₄) (fun _ _ => False) s₃
            else ∃ m, m < n ∧ I m s₃) (fun _ _ => False) s₂) (fun _ _ => False) s₁') (fun _ _ => False) s₁) (fun _ _ => False) s)
    (n : Nat) (h : I n s) : codeAny (model P ω) A (.compLoop (.ListComp el gs sc ps) k it acc ε) R s := by
  refine codeAny_loop rfl I (fun nn sh hIn => ?_) n h
  show wpAny _ A ((compTurn (.ListComp el gs sc ps) k it acc ε).onRaise (fun x => do noteFrame x ε; theTreesLotGoes x)) _ _ sh
  refine wpAny_noted ?_
  unfold compTurn
  simp only [h0, h1]
  refine wpAny_bind (wpAny_standAt (wpAny_bind (thnF (turn nn sh hIn) fun r s₁ z₁ => ?_)))
  cases r with
  | none => exact wpAny_pure z₁
  | some v =>
    refine wpAny_bind (thnF z₁ fun _ s₁' z₁' => ?_)
    refine wpAny_bind (thnF z₁' fun _ s₂ z₂ => wpAny_bind (thnF z₂ fun ok s₃ z₃ => ?_))
    cases ok with
    | false => exact wpAny_pure ⟨rfl, z₃⟩
    | true => exact wpAny_bind (wpAny_bind (thnF z₃ fun x s₄ z₄ => wpAny_bind (thnF z₄ fun _ s₅ z₅ => wpAny_pure (wpAny_pure ⟨rfl, z₅⟩))))
theorem startN (h0 : gs[k]? = some ⟨t0, i0, ff0, 0⟩) (hl : codeAny (model P ω) A (.compLoop (.ListComp el gs sc ps) k it acc ε) R s)
    (hi : wpAny (model P ω) A (pyIter it) (fun j s' => codeAny (model P ω) A (.compLoop (.ListComp el gs sc ps) k j acc ε) R s') (fun _ _ => False) s) :
    codeAny (model P ω) A (.compStart (.ListComp el gs sc ps) k it acc ε) R s := by
  refine codeAny_of_tree ?_
  show wpAny _ _ ((compStart (.ListComp el gs sc ps) k it acc ε).onRaise (fun x => do noteFrame x ε; standAt theWindowsPlace)) _ _ s
  refine wpAny_notedAt ?_
  unfold compStart
  have hc : (clausesOf (.ListComp el gs sc ps))[k]? = some ⟨t0, i0, ff0, 0⟩ := h0
  simp only [hc]
  show wpAny _ _ (ask >>= _) _ _ s
  refine wpAny_bind (wpAny_askSetting (wpAny_ite ?_))
  split
  · first
      | exact wpAny_bind (wpAny_pure (wpAny_pure ⟨rfl, hl⟩))
      | exact wpAny_pure ⟨rfl, hl⟩
  · refine wpAny_bind (wpAny_rule ?_)
    exact wpAny_bind (wpAny_standAt (wpAny_bind (thnF hi fun j s' z => wpAny_pure ⟨rfl, z⟩)))
end
structure Cl where
  wi : TI
  g : TG
  tt : TT
  vs : List Nat
def tLoop (rest : L2.St → Hp → (Hp → Prop) → Prop) (J : It) (g : TG) (tt : TT) (vs : List Nat) (σ : L2.St) (H : Hp) (Nx : Hp → Prop) : Prop :=
  ∃ W : Nat → Nat → Hp → Prop, (∃ m, W 0 m H) ∧ ∀ i m H, W i m H → (J.stop i H ∧ Nx H) ∨ (J.go i H ∧ ∃ Ny : Hp → Prop, (∀ H', Ny H' → ∃ m', m' < m ∧ W (i + 1) m' H') ∧
    ∀ x H', J.yld i H x H' → g x (L2.wipe σ vs) H' fun τ Hh2 => L2.wipe τ vs = L2.wipe σ vs ∧ tt τ Hh2 fun b Hh3 => if b = true then rest τ Hh3 Ny else Ny Hh3)
def tIn (D : Addr) (te : TE) : List Cl → L2.St → Hp → (Hp → Prop) → Prop
  | [], σ, H, Nx => te σ H fun y Hh4 => ∃ l, Hh4 D = some (.lst l) ∧ l.length < sizeLine ∧ Nx (upd Hh4 D (.lst (l ++ [y])))
  | c :: cs, σ, H, Nx => c.wi σ H fun J Hh4 => tLoop (tIn D te cs) J c.g c.tt c.vs σ Hh4 Nx
def tLcN (wi : TI) (g : TG) (tt : TT) (vs : List Nat) (cs : List Cl) (te : TE) : TE := fun σ H Q => wi σ H fun J Hh1 => ∀ D, Hh1 D = none → tLoop (tIn D te cs) J g tt vs σ (upd Hh1 D (.lst [])) (Q (.ref D))
inductive ClsOk (X : Cx) : List Nat → List Comprehension → List Cl → Prop
  | nil {vs} : ClsOk X vs [] []
  | cons {vs tg iter ifs gl c cs} : (∀ i ∈ c.vs, i ∈ vs) → PI X tg iter c.wi → PG X tg c.g → PTs X ifs c.tt → (∀ x, foldedSetIterable iter X.env x = pure x) → ClsOk X c.vs gl cs → ClsOk X vs (⟨tg, iter, ifs, 0⟩ :: gl) (c :: cs)
theorem drop_at {α : Type} {gs gl : List α} {k : Nat} {a : α} (h : gs.drop k = a :: gl) : gs[k]? = some a ∧ gs.drop (k + 1) = gl := by
  constructor
  · have := congrArg List.head? h
    rwa [List.head?_drop] at this
  · have := congrArg List.tail h
    rwa [List.tail_drop] at this
theorem drop_nil {α : Type} {gs : List α} {k : Nat} (h : gs.drop k = []) : gs[k]? = none := by
  have := congrArg List.head? h
  rwa [List.head?_drop] at this
section
variable {X : Cx} {el : Expr} {gs : List Comprehension} {sc : Scope} {ps : Pos} {D : Addr} {te : TE}
theorem loop_ok (hc : X.calm = true) (hx : X.xe = fun _ _ => False) (pe : PE X el te) : ∀ (cs : List Cl) (k : Nat) (gl : List Comprehension) (tg iter : Expr) (ifs : List Expr) (g : TG) (tt : TT) (vs : List Nat), gs.drop k = ⟨tg, iter, ifs, 0⟩ :: gl → ClsOk X vs gl cs → PG X tg g → PTs X ifs tt →
    ∀ (pins : List (Addr × Obj)) (J : It) (fp : List Addr) (it : Addr) (tn : Nat → Heap → Prop), Turn X.prog X.w X.K tg J fp it tn → ∀ (s : Shared) (σ : L2.St) (H : Hp) (Nx : Hp → Prop) (R : Result → Shared → Prop), Inv X pins σ H s → tn 0 s.heap → (∀ b ∈ fp, FpOk X pins H b) →
    tLoop (tIn D te cs) J g tt vs σ H Nx → (∀ s' H', Inv X pins (L2.wipe σ vs) H' s' → Nx H' → R (.ok .next) s') → codeAny (model X.prog X.w) X.A (.compLoop (.ListComp el gs sc ps) k (.ref it) (.ref D) X.env) R s := by
  intro cs
  induction cs with
  | nil => ?_
  | cons c cs ih => ?_
  all_goals
    intro k gl tg iter ifs g tt vs hd hcl pg pt pins J fp it tn T s σ H Nx R Iv0 stt0 hf h hR
    obtain ⟨hk, hd1⟩ := drop_at hd
    obtain ⟨W, ⟨m0, ww0⟩, turn⟩ := h
    have stat : ∀ {H' : Hp}, (∀ b ∈ fp, H' b = none) → ∀ b ∈ fp, FpOk X pins H' b := fun hNs b hb => ⟨hNs b hb, (hf b hb).2⟩
    have fin : ∀ (n i : Nat) (sh7 : Shared) (Ny : Hp → Prop), (∀ H', Ny H' → ∃ m', m' < n ∧ W (i + 1) m' H') → tn (i + 1) sh7.heap → ∀ {τ : L2.St} {s' : Shared} {H' : Hp}, Inv X (pins ++ pinsAt fp sh7.heap) τ H' s' → (L2.wipe σ vs).length = τ.length → (∀ (j : Nat) v, (L2.wipe σ vs)[j]? = some (some v) → τ[j]? = some (some v)) → Ny H' →
        ∃ m, m < n ∧ ∃ i H', Inv X pins (L2.wipe σ vs) H' s' ∧ tn i s'.heap ∧ (∀ b ∈ fp, H' b = none) ∧ W i m H' := fun n i sh7 Ny hNy stt7 {τ s' H'} I' hl hkn ny => by
      obtain ⟨m', hm, w'⟩ := hNy H' ny
      have pinAt : ∀ b ∈ fp, ∀ o, sh7.heap.get? b = some o → s'.heap.get? b = some o ∧ H' b = none := fun b hb o e =>
        have z := I'.pin (b, o) (List.mem_append_right _ (List.mem_append_right _ (mem_pinsAt hb e)))
        ⟨z.1, z.2.1⟩
      refine ⟨m', hm, i + 1, H', (I'.unpinned).weak hl hkn, T.keep _ _ _ stt7 fun b hb o e => (pinAt b hb o e).1, fun b hb => ?_, w'⟩
      obtain ⟨o, e, _⟩ := T.obj _ _ stt7 b hb
      exact (pinAt b hb o e).2
    have Iv1 : Inv X pins (L2.wipe σ vs) H s := Iv0.weak (L2.wipe_length _ _) fun j v e => (L2.wipe_some e).1
  · cases hcl
    refine loopN_in hk (drop_nil hd1) (fun n s' => ∃ i H', Inv X pins (L2.wipe σ vs) H' s' ∧ tn i s'.heap ∧ (∀ b ∈ fp, H' b = none) ∧ W i n H') ?_ m0 ⟨0, H, Iv1, stt0, fun b hb => (hf b hb).1, ww0⟩
    rintro n sh5 ⟨i, Hh5, Iv5, stt5, nn5, ww5⟩
    rcases turn i n Hh5 ww5 with ⟨stop, nx⟩ | ⟨go, Ny, hNy, step⟩
    · refine thnF (T.done X rfl rfl rfl hc i pins sh5 _ Hh5 (fun _ _ => False) Iv5 (stat nn5) stt5 stop) fun r sh6 ⟨hrr, Iv6⟩ => ?_
      subst hrr
      exact hR sh6 Hh5 Iv6 nx
    · refine thnF (T.item X rfl rfl rfl hc i pins sh5 _ Hh5 (fun _ _ => False) Iv5 (stat nn5) stt5 go) fun r sh6 ⟨u, hrr, hh6⟩ => ?_
      subst hrr
      refine thnF hh6 fun _ sh7 ⟨x, Hh7, Iv7, r7, y7, stt7, nn7⟩ => ?_
      have p1 := pg.run _ sh7 _ Hh7 x u _ (Iv7.pinned (stat nn7) (T.obj _ _ stt7)) r7 (step x Hh7 y7)
      rw [hx] at p1
      refine thnF p1 fun _ sh8 ⟨τ, Hh8, Iv8, hw8, qq8⟩ => ?_
      have p2 := pt.run _ sh8 τ Hh8 _ Iv8 qq8
      rw [hx] at p2
      refine thnF p2 fun b sh9 ⟨Hh9, Iv9, qq9⟩ => ?_
      have hl8 : (L2.wipe σ vs).length = τ.length := by rw [← hw8, L2.wipe_length]
      have hk8 : ∀ (j : Nat) v, (L2.wipe σ vs)[j]? = some (some v) → τ[j]? = some (some v) := fun j v e => by
        rw [← hw8] at e
        exact (L2.wipe_some e).1
      cases b with
      | false =>
        simp only [Bool.false_eq_true, if_false] at qq9 ⊢
        exact fin n i sh7 Ny hNy stt7 Iv9 hl8 hk8 qq9
      | true =>
        simp only [if_true] at qq9 ⊢
        have p3 := pe.run _ sh9 τ Hh9 _ Iv9 qq9
        rw [hx] at p3
        refine thnF p3 fun z sh17 ⟨yv, Hh17, Iv17, r17, l, hD17, hz17, ny⟩ => ?_
        exact app_ok Iv17 hD17 hz17 r17 fun sh18 Iv18 => fin n i sh7 Ny hNy stt7 Iv18 hl8 hk8 ny
  · cases hcl with
    | @cons _ tg1 iter1 ifs1 gl1 _ _ hv pi1 pg1 pt1 hs1 hcl1 =>
      refine loopN_out hk (drop_at hd1).1 hs1 (fun n s' => ∃ i H', Inv X pins (L2.wipe σ vs) H' s' ∧ tn i s'.heap ∧ (∀ b ∈ fp, H' b = none) ∧ W i n H') ?_ m0 ⟨0, H, Iv1, stt0, fun b hb => (hf b hb).1, ww0⟩
      rintro n sh5 ⟨i, Hh5, Iv5, stt5, nn5, ww5⟩
      rcases turn i n Hh5 ww5 with ⟨stop, nx⟩ | ⟨go, Ny, hNy, step⟩
      · refine thnF (T.done X rfl rfl rfl hc i pins sh5 _ Hh5 (fun _ _ => False) Iv5 (stat nn5) stt5 stop) fun r sh6 ⟨hrr, Iv6⟩ => ?_
        subst hrr
        exact hR sh6 Hh5 Iv6 nx
      · refine thnF (T.item X rfl rfl rfl hc i pins sh5 _ Hh5 (fun _ _ => False) Iv5 (stat nn5) stt5 go) fun r sh6 ⟨u, hrr, hh6⟩ => ?_
        subst hrr
        refine thnF hh6 fun _ sh7 ⟨x, Hh7, Iv7, r7, y7, stt7, nn7⟩ => ?_
        have p1 := pg.run _ sh7 _ Hh7 x u _ (Iv7.pinned (stat nn7) (T.obj _ _ stt7)) r7 (step x Hh7 y7)
        rw [hx] at p1
        refine thnF p1 fun _ sh8 ⟨τ, Hh8, Iv8, hw8, qq8⟩ => ?_
        have p2 := pt.run _ sh8 τ Hh8 _ Iv8 qq8
        rw [hx] at p2
        refine thnF p2 fun b sh9 ⟨Hh9, Iv9, qq9⟩ => ?_
        have hl8 : (L2.wipe σ vs).length = τ.length := by rw [← hw8, L2.wipe_length]
        have hk8 : ∀ (j : Nat) v, (L2.wipe σ vs)[j]? = some (some v) → τ[j]? = some (some v) := fun j v e => by
          rw [← hw8] at e
          exact (L2.wipe_some e).1
        cases b with
        | false =>
          simp only [Bool.false_eq_true, if_false] at qq9 ⊢
          exact fin n i sh7 Ny hNy stt7 Iv9 hl8 hk8 qq9
        | true =>
          simp only [if_true] at qq9 ⊢
          have p3 := pi1.run _ sh9 τ Hh9 _ Iv9 qq9
          rw [hx] at p3
          refine thnF p3 fun xv sh10 hxv => thnF hxv fun itv sh11 h11 => ?_
          obtain ⟨it1, fp1, tn1, J1, Hh11, e1, Iv11, T1, stt11, f11, lp⟩ := h11
          subst e1
          have loop1 := ih (k + 1) gl1 tg1 iter1 ifs1 c.g c.tt c.vs hd1 hcl1 pg1 pt1 (pins ++ pinsAt fp sh7.heap) J1 fp1 it1 tn1 T1 sh11 τ Hh11 Ny
            (fun r s' => match r with
              | .ok _ => ∃ m, m < n ∧ ∃ i H', Inv X pins (L2.wipe σ vs) H' s' ∧ tn i s'.heap ∧ (∀ b ∈ fp, H' b = none) ∧ W i m H'
              | .error _ => False) Iv11 stt11 f11 lp fun s' H' I' ny => fin n i sh7 Ny hNy stt7 I' (hl8.trans (L2.wipe_length τ c.vs).symm) (fun j v e => by
                rw [← hw8] at e
                obtain ⟨e1, e2⟩ := L2.wipe_some e
                rw [L2.wipe_out fun z => e2 (hv j z)]
                exact e1) ny
          exact startN (drop_at hd1).1 loop1 (T1.self X.A 0 _ _ _ stt11 loop1)
end
section
variable {X : Cx} {el tg iter : Expr} {ifs : List Expr} {gl : List Comprehension} {sc : Scope} {own : List (Str × Nat)} {ps : Pos} {wi : TI} {g : TG} {tt : TT} {te : TE} {cs : List Cl}
abbrev AllBlk (X : Cx) (sc : Scope) (p : Cx → Prop) : Prop := ∀ (s : Shared) (H : Hp) (C : Addr) (cl : List (Str × Addr)) (fp : List Addr), p (X.blk s H sc (compEnvC sc cl C X.env) fp)
theorem lcN_core {pins : List (Addr × Obj)} {s : Shared} {σ : L2.St} {H : Hp} {Q : VK} {ps' : Pos} {use : Option (Value → Sem Unit)} {Qf : Value → Shared → Prop} (hc : X.calm = true) (hN : X.N.Nodup) (I : Inv X pins σ H s) (hi : PI X tg iter wi) (ok : BlkOk X.N X.env.scope sc own)
    (hg : AllBlk X sc fun Y => PG Y tg g) (ht : AllBlk X sc fun Y => PTs Y ifs tt) (he : AllBlk X sc fun Y => PE Y el te) (hcl : AllBlk X sc fun Y => ClsOk Y (own.map (·.2)) gl cs) (hs : ∀ x, foldedSetIterable iter X.env x = pure x)
    (h : tLcN wi g tt (own.map (·.2)) cs te σ H Q)
    (hEnd : ∀ D C s' m H', Inv X pins σ H' s' → Q (.ref D) H' → s'.heap.Ns C m → FpOk X pins H' C → compPost (model X.prog X.w) X.A X.xe use Qf (.ref D) C (.ok .next) s') :
    wpAny (model X.prog X.w) X.A (comprehension (.ListComp el (⟨tg, iter, ifs, 0⟩ :: gl) sc ps) sc X.env ps' (newList []) false (eval iter X.env) use) Qf X.xe s := by
  have hfree : ∀ y ∈ sc.names, y.2 = .free → ∃ c, X.env.cells.lookup y.1 = some c := fun y hy e =>
    (ok.free y hy e).elim (fun k => I.ok.has _ (.inl k)) (fun k => I.ok.has _ (.inr k))
  refine wpAny_comprehension_free (use := use) rfl hs (closure_ok hfree) ok.kind (fun y hy e => by rw [ok.uniq y hy, e]) (thn (hi.run pins s σ H _ I h) fun xv sh1 hxx => thn hxx fun itv sh2 h2 => ?_)
  obtain ⟨it, fp, tn, J, Hh2, e, Iv2, T, stt2, ff2, q⟩ := h2
  subst e
  refine wpAny_newObj_type (newEnv_comp ?_) (by show 0 ≤ sizeLine; decide)
  generalize eqD : sh2.heap.objs.size = D
  have eqDn : Hh2 D = none := Iv2.hok.fresh (Nat.le_of_eq eqD)
  have lp := q D eqDn
  generalize hs3 : ({ sh2 with heap := sh2.heap.push { cls := .type "list", data := .seq ([] : List Value).toArray } } : Shared) = sh3
  have h3 : sh3.heap = sh2.heap.push { cls := .type "list", data := .seq ([] : List Value).toArray } := by subst hs3; rfl
  have Iv3 : Inv X pins σ (upd Hh2 D (.lst [])) sh3 := by
    subst hs3
    refine Iv2.laid (t' := sh2.toks) (fun b o e => Heap.get?_push_of_some _ e) (Nat.le_of_eq eqD) ⟨Nat.zero_le _, [], 0, .nil, ?_⟩
    subst eqD
    exact Heap.get?_push_size _ rfl
  have sz : ∀ b ∈ fp, b < sh2.heap.objs.size := fun b hb => (T.obj _ _ stt2 b hb).elim fun o e => Heap.lt_size e.1
  have ff3 : ∀ b ∈ fp, FpOk X pins (upd Hh2 D (.lst [])) b ∧ b < sh3.heap.objs.size := fun b hb =>
    ⟨⟨by rw [upd_ne (by rw [← eqD]; exact Nat.ne_of_lt (sz b hb))]; exact (ff2 b hb).1, (ff2 b hb).2⟩, by rw [h3, Heap.size_push]; exact Nat.lt_succ_of_lt (sz b hb)⟩
  have stt3 : tn 0 sh3.heap := T.keep _ _ _ stt2 fun b _ o e => by rw [h3]; exact Heap.get?_push_of_some _ e
  have Iv4 := block_start Iv3 ok hN ff3
  have pg := hg sh3 (upd Hh2 D (.lst [])) sh3.heap.objs.size (cellsFrom (sh3.heap.objs.size + 1) sc.names (cloFrom X.env.cells sc.names [])) fp
  have pt := ht sh3 (upd Hh2 D (.lst [])) sh3.heap.objs.size (cellsFrom (sh3.heap.objs.size + 1) sc.names (cloFrom X.env.cells sc.names [])) fp
  have pe := he sh3 (upd Hh2 D (.lst [])) sh3.heap.objs.size (cellsFrom (sh3.heap.objs.size + 1) sc.names (cloFrom X.env.cells sc.names [])) fp
  have pc := hcl sh3 (upd Hh2 D (.lst [])) sh3.heap.objs.size (cellsFrom (sh3.heap.objs.size + 1) sc.names (cloFrom X.env.cells sc.names [])) fp
  show codeAny _ _ (.compStart (.ListComp el (⟨tg, iter, ifs, 0⟩ :: gl) sc ps) 0 (.ref it) (.ref D) (compEnvC sc (cellsFrom (sh3.heap.objs.size + 1) sc.names (cloFrom X.env.cells sc.names [])) sh3.heap.objs.size X.env)) (compPost (model X.prog X.w) X.A X.xe use Qf (.ref D) sh3.heap.objs.size) { sh3 with heap := pushCells (sh3.heap.push { cls := .type "dict", data := .dict #[] }) sc.names }
  have noFp : ∀ b ∈ fp, (upd Hh2 D (.lst [])) b = none := fun b hb => (ff3 b hb).1.1
  generalize hce : compEnvC sc (cellsFrom (sh3.heap.objs.size + 1) sc.names (cloFrom X.env.cells sc.names [])) sh3.heap.objs.size X.env = ce at Iv4 pg pt pe pc ⊢
  have locC : ce.locals = sh3.heap.objs.size := by subst hce; rfl
  generalize hH3 : upd Hh2 D (.lst []) = Hh3 at Iv3 Iv4 pg pt pe pc lp noFp ff3
  generalize hs4 : ({ sh3 with heap := pushCells (sh3.heap.push { cls := .type "dict", data := .dict #[] }) sc.names } : Shared) = sh4 at Iv4 ⊢
  have stt4 : tn 0 sh4.heap := T.keep _ _ _ stt3 fun b _ o e => by subst hs4; exact pushCells_keeps _ _ _ _ (Heap.get?_push_of_some _ e)
  have stat : ∀ b ∈ fp, FpOk (X.blk sh3 Hh3 sc ce fp) [] Hh3 b := fun b hb =>
    ⟨noFp b hb, (Iv4.ok.exf b hb).1, Iv4.ok.exfs b hb, .inl hb, fun x c e => (Iv4.ok.exf b hb).2 x c e, fun p hp => absurd (show p ∈ ([] : List (Addr × Obj)) ++ [] from hp) (by simp)⟩
  have lp' : tLoop (tIn D te cs) J g tt (own.map (·.2)) (L2.wipe σ (own.map (·.2))) Hh3 (Q (.ref D)) := by
    unfold tLoop
    rw [wipe_wipe]
    exact lp
  have loop : codeAny (model X.prog X.w) X.A (.compLoop (.ListComp el (⟨tg, iter, ifs, 0⟩ :: gl) sc ps) 0 (.ref it) (.ref D) ce) (compPost (model X.prog X.w) X.A X.xe use Qf (.ref D) sh3.heap.objs.size) sh4 := by
    refine loop_ok (X := X.blk sh3 Hh3 sc ce fp) hc rfl pe cs 0 gl tg iter ifs g tt _ rfl pc pg pt [] J fp it tn T sh4 _ Hh3 _ _ Iv4 stt4 stat lp' fun sh6 Hh5 Iv6 qq => ?_
    have Iv7 : Inv X pins σ Hh5 sh6 := Iv3.call' (ch := fp) Iv6.os Iv6.base Iv6.hok Iv6.bare fun b hb => ⟨(ff3 b hb).1.2.2.2.1, (ff3 b hb).1.2.1, (ff3 b hb).1.2.2.2.2.1, (ff3 b hb).1.2.2.2.2.2⟩
    have nC : Hh5 sh3.heap.objs.size = none := by rw [← locC]; exact Iv6.free
    obtain ⟨m, hNs, _⟩ := Iv6.loc
    have hNs : sh6.heap.Ns ce.locals m := hNs
    rw [locC] at hNs
    exact hEnd D sh3.heap.objs.size sh6 m Hh5 Iv7 qq hNs (Iv3.fpOk (Nat.le_refl _) nC)
  exact codeAny_compStart_list loop (T.self X.A 0 _ _ _ stt4 loop)
theorem pe_lcN (hc : X.calm = true) (hN : X.N.Nodup) (hi : PI X tg iter wi) (ok : BlkOk X.N X.env.scope sc own) (hg : AllBlk X sc fun Y => PG Y tg g) (ht : AllBlk X sc fun Y => PTs Y ifs tt) (he : AllBlk X sc fun Y => PE Y el te) (hcl : AllBlk X sc fun Y => ClsOk Y (own.map (·.2)) gl cs) (hs : ∀ x, foldedSetIterable iter X.env x = pure x := by intro _; rfl) :
    PE X (.ListComp el (⟨tg, iter, ifs, 0⟩ :: gl) sc ps) (tLcN wi g tt (own.map (·.2)) cs te) := by
  refine ⟨fun pins s σ H Q I h => ?_⟩
  rw [eval_ListComp]
  refine lcN_core hc hN I hi ok hg ht he hcl hs h fun D C s' m H' I' q hNs f => ⟨m, hNs, fun h'' sb => ?_⟩
  obtain ⟨ff0, ff1, ff2, ff3, ff4, ff5⟩ := f
  exact ⟨.ref D, H', I'.turned (t' := s'.toks) (fun b o hb e => (sb.2 b hb).trans e) ff0 ff1 ff3 ff4 ff5, rfl, q⟩
end
end PD
namespace PD
open PySem PySem.Spec PyProof.Rows L2
theorem Walks.mv {K M H M' H' J ds} (w : Walks K M H J ds) (h : Mv M H M' H') : Walks K M' H' J ds := fun M2 H2 g => w M2 H2 (h.trans g)
theorem Good.unwipe {K F σ H H1 ρ δ δ1 vs} (G1 : Good K F σ H1 ρ δ1) (hu : noU ρ vs = true) (G : Good K F (L2.wipe σ vs) H (wipeR ρ vs) δ) (mv : Mv (Mm F σ ρ) H1 (Mm F σ ρ) H) : Good K F σ H ρ δ := by
  refine ⟨G1.len, fun i d e => ?_, fun i ds e => ?_, G1.inj, G.m0, G1.dsl, fun p e => ?_, G.fr⟩
  · obtain ⟨v, e1, r⟩ := G1.val i d e
    exact ⟨v, e1, r.mv mv⟩
  · have hi : i ∉ vs := fun q => noU_of hu q e
    obtain ⟨a, xs, e1, e2, r, n⟩ := G.own i ds (by rw [wipeR_get, if_neg hi]; exact e)
    rw [wipe_get, if_neg hi] at e1
    rw [Mm_wipe hu] at r
    exact ⟨a, xs, e1, e2, r, n⟩
  · obtain ⟨_, _, _, d3⟩ := G.dck p e
    obtain ⟨d1, d2, d4, _⟩ := G1.dck p e
    exact ⟨d1, d2, d4, d3⟩
abbrev MR := List Sl → Dk → Option (List D × Dk)
/-- D: the list that grows; it is of the frame's own that change -/
structure Grows (F : Fr) (D : Addr) : Prop where
  m : F.M0 D
  z : F.H0 D = none
  k : ∀ p, F.dk = some p → D ≠ p.1 ∧ D ≠ p.2 ∧ D ≠ p.3
def SndR (K : PySem.W.Frag) (A : Addr) (rest : L2.St → Hp → (Hp → Prop) → Prop) (mr : MR) : Prop :=
  ∀ F σ H ρ δ out δ' l (Nx : Hp → Prop), Good K F σ H ρ δ → Grows F A → H A = some (.lst l) → mr ρ δ = some (out, δ') → l.length + out.length ≤ sizeLine →
    (∀ H' xs, Good K F σ H' ρ δ' → Mv (Mm F σ ρ) H (Mm F σ ρ) H' → H' A = some (.lst (l ++ xs)) → Reps K (Mm F σ ρ) H' xs out → Nx H') → rest σ H Nx
def mOne (me : ME) : MR := fun ρ δ => (me ρ δ).map fun q => ([q.1], q.2)
def compC (g : MG) (tt : MT) (mr : MR) (ρ : List Sl) : List D → Dk → Option (List D × Dk)
  | [], δ => some ([], δ)
  | d :: ds, δ => (g d ρ).bind fun ρ2 => (tt ρ2 δ).bind fun p => if p.1 = true then (mr ρ2 p.2).bind fun q => (compC g tt mr ρ ds q.2).map fun r => (q.1 ++ r.1, r.2) else compC g tt mr ρ ds p.2
def mFor (mi : MA) (vs : List Nat) (g : MG) (tt : MT) (mr : MR) : MR := fun ρ δ => (mi ρ δ).bind fun p => if noU ρ vs = true then compC g tt mr (wipeR ρ vs) p.1 p.2 else none
def mLcN (mr : MR) : ME := fun ρ δ => (mr ρ δ).bind fun q => if q.1.length ≤ sizeLine then some (.list q.1, q.2) else none
abbrev SndG (K : PySem.W.Frag) (sl : List Nat) (g : TG) (mg : MG) : Prop := ∀ F σ H ρ δ v d ρ', Good K F σ H ρ δ → Rep K (Mm F σ ρ) H v d → mg d ρ = some ρ' → ∀ Q : L2.St → Hp → Prop, (∀ σ', Good K F σ' H ρ' δ → Mv (Mm F σ ρ) H (Mm F σ' ρ') H → Set1 sl σ σ' ρ ρ' → Q σ' H) → g v σ H Q
abbrev SndI (K : PySem.W.Frag) (wi : TI) (mi : MA) : Prop := ∀ F σ H ρ δ ds δ', Good K F σ H ρ δ → mi ρ δ = some (ds, δ') → ∀ R : It → Hp → Prop, (∀ J H', Good K F σ H' ρ δ' → Mv (Mm F σ ρ) H (Mm F σ ρ) H' → Walks K (Mm F σ ρ) H' J ds → R J H') → wi σ H R
theorem snd_one {K A te me} (he : Snd K te me) : SndR K A (tIn A te []) (mOne me) := fun F σ H ρ δ out δ' l Nx G gr hA e hz q => by
  obtain ⟨⟨y, δ1⟩, e1, e⟩ := Option.map_eq_some_iff.mp e
  cases e
  refine he (F.pin A (.lst l)) σ H ρ δ y δ1 (G.pin gr.m hA) e1 _ fun v H5 G5 M5 R5 => ?_
  rw [Mm_pin] at M5 R5
  have hA5 := G5.fr A _ upd_same gr.k
  obtain ⟨GC, MC⟩ := (Good.unpin gr.z gr.m G5).writeM (o := .lst (l ++ [v])) gr.m gr.k gr.z
  exact ⟨l, hA5, Nat.lt_of_succ_le (by simpa using hz), q _ [v] GC (M5.trans MC) upd_same ((Reps.cons R5 .nil).mv MC)⟩
theorem snd_loop {K A rest mr g tt mg mt vs} {sl : List Nat} (hr : SndR K A rest mr) (hg : SndG K sl g mg) (ht : SndT K tt mt) (hs : ∀ i ∈ sl, i ∈ vs) {F σ H1 ρ δ1 δ2 J l} {ds out : List D} {Nx : Hp → Prop} (hu : noU ρ vs = true)
    (e2 : compC mg mt mr (wipeR ρ vs) ds δ1 = some (out, δ2)) (G1 : Good K F σ H1 ρ δ1) (gr : Grows F A) (hA : H1 A = some (.lst l)) (hz : l.length + out.length ≤ sizeLine) (Wk : Walks K (Mm F σ ρ) H1 J ds)
    (q : ∀ H' xs, Good K F σ H' ρ δ2 → Mv (Mm F σ ρ) H1 (Mm F σ ρ) H' → H' A = some (.lst (l ++ xs)) → Reps K (Mm F σ ρ) H' xs out → Nx H') : tLoop rest J g tt vs σ H1 Nx := by
  have GW := G1.wipe (vs := vs) hu
  have eM : Mm F (L2.wipe σ vs) (wipeR ρ vs) = Mm F σ ρ := Mm_wipe hu
  refine ⟨fun i m H => m = ds.length - i ∧ i ≤ ds.length ∧ ∃ δ3 done more xs, Good K F (L2.wipe σ vs) H (wipeR ρ vs) δ3 ∧ Mv (Mm F σ ρ) H1 (Mm F σ ρ) H ∧ H A = some (.lst (l ++ xs)) ∧ Reps K (Mm F σ ρ) H xs done ∧
    compC mg mt mr (wipeR ρ vs) (ds.drop i) δ3 = some (more, δ2) ∧ done ++ more = out, ⟨_, rfl, Nat.zero_le _, δ1, [], out, [], GW, Mv.refl _ _, by rw [List.append_nil]; exact hA, .nil, e2, rfl⟩, ?_⟩
  rintro i m H2 ⟨rfl, hile, δ3, done, more, xs, G2, M2, hA2, rx, ec, eo⟩
  have wf2 : ∀ a, Mm F σ ρ a → mtO (H2 a) := by rw [← eM]; exact G2.mm
  by_cases hlt : i < ds.length
  · obtain ⟨go, yl⟩ := (Wk _ H2 M2 wf2 i).1 hlt
    rw [List.drop_eq_getElem_cons hlt] at ec
    refine .inr ⟨go, fun H' => ∃ δ3 done more xs, Good K F (L2.wipe σ vs) H' (wipeR ρ vs) δ3 ∧ Mv (Mm F σ ρ) H1 (Mm F σ ρ) H' ∧ H' A = some (.lst (l ++ xs)) ∧ Reps K (Mm F σ ρ) H' xs done ∧
      compC mg mt mr (wipeR ρ vs) (ds.drop (i + 1)) δ3 = some (more, δ2) ∧ done ++ more = out, fun H' h => ⟨ds.length - (i + 1), by omega, rfl, hlt, h⟩, fun x H3 hy => ?_⟩
    obtain ⟨kp, dx, edx, rdx⟩ := yl x H3 hy
    rw [List.getElem?_eq_getElem hlt] at edx
    cases edx
    replace G2 := G2.keep kp
    replace M2 := M2.trans (Mv.same kp)
    replace hA2 := kp _ _ hA2
    replace rx := rx.mv (Mv.same kp)
    unfold compC at ec
    obtain ⟨ρ2, b1, ec⟩ := Option.bind_eq_some_iff.mp ec
    obtain ⟨⟨b, δ4⟩, b2, ec⟩ := Option.bind_eq_some_iff.mp ec
    dsimp only at ec
    refine hg (F.pin A (.lst (l ++ xs))) (L2.wipe σ vs) H3 (wipeR ρ vs) δ3 x _ ρ2 (G2.pin gr.m hA2) (by rw [Mm_pin, eM]; exact rdx) b1 _ fun τ G3 M3 T3 => ?_
    obtain ⟨w1, w2⟩ := T3.wipes hs
    rw [wipe_wipe] at w1
    rw [wipeR_wipeR] at w2
    have hu2 : noU ρ2 vs = true := T3.noU (noU_wipe ρ vs)
    have eM2 : Mm F τ ρ2 = Mm F σ ρ := by rw [← Mm_wipe hu2, w1, w2, eM]
    refine ⟨w1, ht (F.pin A (.lst (l ++ xs))) τ H3 ρ2 δ3 b δ4 G3 b2 _ fun H4 G4 M4 => ?_⟩
    rw [Mm_pin, eM2] at M4
    have G5 := Good.unpin gr.z gr.m G4
    have hA4 := G4.fr A _ upd_same gr.k
    cases b with
    | false =>
      refine iteF ?_
      rw [if_neg Bool.false_ne_true] at ec
      have GB := G5.wipe hu2
      rw [w1, w2] at GB
      exact ⟨δ4, done, more, xs, GB, M2.trans M4, hA4, rx.mv M4, ec, eo⟩
    | true =>
      refine iteT ?_
      rw [if_pos rfl] at ec
      obtain ⟨⟨ys, δ5⟩, b3, ec⟩ := Option.bind_eq_some_iff.mp ec
      obtain ⟨⟨more2, δ6⟩, b4, ec⟩ := Option.map_eq_some_iff.mp ec
      cases ec
      have hlen : out.length = done.length + (ys.length + more2.length) := by rw [← eo]; simp
      refine hr F τ H4 ρ2 δ4 ys δ5 (l ++ xs) _ G5 gr hA4 b3 (by rw [List.length_append, rx.length]; omega) fun H6 zs G6 M6 hA6 R6 => ?_
      rw [eM2] at M6 R6
      have GB := G6.wipe hu2
      rw [w1, w2] at GB
      exact ⟨δ5, done ++ ys, more2, xs ++ zs, GB, (M2.trans M4).trans M6, by rw [← List.append_assoc]; exact hA6, (rx.mv (M4.trans M6)).append R6, b4, by rw [← eo]; simp⟩
  · have hi' : i = ds.length := by omega
    subst hi'
    refine .inl ⟨(Wk _ H2 M2 wf2 ds.length).2 (Nat.le_refl _), ?_⟩
    rw [List.drop_of_length_le (Nat.le_refl _)] at ec
    cases ec
    rw [List.append_nil] at eo
    subst eo
    exact q _ xs (G1.unwipe hu G2 M2) M2 hA2 rx
theorem sndR_cons {K A te mr mi mg mt} {c : Cl} {cs : List Cl} {sl : List Nat} (hr : SndR K A (tIn A te cs) mr) (hi : SndI K c.wi mi) (hg : SndG K sl c.g mg) (ht : SndT K c.tt mt) (hs : ∀ i ∈ sl, i ∈ c.vs) : SndR K A (tIn A te (c :: cs)) (mFor mi c.vs mg mt mr) := fun F σ H ρ δ out δ' l Nx G gr hA e hz q => by
  obtain ⟨⟨ds, δ1⟩, e1, e⟩ := Option.bind_eq_some_iff.mp e
  dsimp only at e
  split at e
  · rename_i hu
    refine hi (F.pin A (.lst l)) σ H ρ δ ds δ1 (G.pin gr.m hA) e1 _ fun J H1 G1 M1 Wk => ?_
    rw [Mm_pin] at M1 Wk
    exact snd_loop hr hg ht hs hu e (Good.unpin gr.z gr.m G1) gr (G1.fr A _ upd_same gr.k) hz Wk fun H' xs G' M' hA' R' => q H' xs G' (M1.trans M') hA' R'
  · cases e
theorem snd_lcN {K te mr wi g tt vs mi mg mt} {cs : List Cl} {sl : List Nat} (hr : ∀ A, SndR K A (tIn A te cs) mr) (hi : SndI K wi mi) (hg : SndG K sl g mg) (ht : SndT K tt mt) (hs : ∀ i ∈ sl, i ∈ vs) : Snd K (tLcN wi g tt vs cs te) (mLcN (mFor mi vs mg mt mr)) := fun F σ H ρ δ d δ' G e Q q => by
  obtain ⟨⟨out, δ2⟩, e0, e⟩ := Option.bind_eq_some_iff.mp e
  obtain ⟨⟨ds, δ1⟩, e1, e0⟩ := Option.bind_eq_some_iff.mp e0
  dsimp only at e e0
  split at e
  · rename_i hz
    split at e0
    · rename_i hu
      obtain ⟨rfl, rfl⟩ : PyData.list out = d ∧ δ2 = δ' := by
        have := Option.some.inj e
        exact ⟨congrArg Prod.fst this, congrArg Prod.snd this⟩
      refine hi F σ H ρ δ ds δ1 G e1 _ fun J H1 G1 M1 Wk A hA => ?_
      obtain ⟨GP, MP⟩ := G1.plus (o := .lst []) hA
      have gr : Grows (F.plus A) A := ⟨.inr rfl, G1.fresh0 hA, fun p hp => ⟨(ne_of_none (G1.dck p hp).2.2.2.one hA).symm, (ne_of_none (G1.dck p hp).2.2.2.two hA).symm, (ne_of_none (G1.dck p hp).2.2.2.tri hA).symm⟩⟩
      refine snd_loop (hr A) hg ht hs hu e0 GP gr upd_same (by simpa using hz) (Wk.mv MP) fun H' xs G' M' hA' R' => ?_
      have an : Mv (Mm (F.plus A) σ ρ) H' (Mm F σ ρ) H' := fun a o e n => ⟨e, fun z => n (by rw [Mm_plus]; exact .inl z)⟩
      have M3 := (MP.trans M').trans an
      exact q _ _ (Good.back (vs := []) G1 rfl hA G' M3) (M1.trans M3) (.lst ⟨G1.mfree hA, hA'⟩ (R'.mv an))
    · cases e0
  · cases e
section
variable {X : Cx} {el tg iter : Expr} {ifs : List Expr} {gl : List Comprehension} {sc : Scope} {own : List (Str × Nat)} {ps : Pos} {mi : MA} {mg : MG} {mt : MT} {me : ME} {mr : MR} {sl vs vs1 : List Nat}
structure BlkN (X : Cx) (sc : Scope) (vs : List Nat) (gl : List Comprehension) (el : Expr) (mr : MR) : Prop where
  ex : ∃ cs te, (AllBlk X sc fun Y => ClsOk Y vs gl cs) ∧ (AllBlk X sc fun Y => PE Y el te) ∧ ∀ A, SndR X.K A (tIn A te cs) mr
theorem bn_nil (e : AllBlk X sc fun Y => PD Y el me) : BlkN X sc vs [] el (mOne me) :=
  ⟨[], fun σ H Q => ∀ s h C cl fp, (e s h C cl fp).ex.choose σ H Q, fun _ _ _ _ _ => .nil, fun s h C cl fp => ⟨fun pins s' σ H Q I q => (e s h C cl fp).ex.choose_spec.1.run pins s' σ H Q I (q s h C cl fp)⟩,
    fun A => snd_one fun F σ H ρ δ d δ' G e' Q q s h C cl fp => (e s h C cl fp).ex.choose_spec.2 F σ H ρ δ d δ' G e' Q q⟩
theorem bn_cons (hv : ∀ i ∈ vs1, i ∈ vs) (i : AllBlk X sc fun Y => PDI Y tg iter mi) (g : AllBlk X sc fun Y => PDG Y tg sl mg) (t : AllBlk X sc fun Y => PDTs Y ifs mt) (o : ∀ i ∈ sl, i ∈ vs1) (B : BlkN X sc vs1 gl el mr) (hs : AllBlk X sc fun Y => ∀ x, foldedSetIterable iter Y.env x = pure x := by intro _ _ _ _ _ _; rfl) :
    BlkN X sc vs (⟨tg, iter, ifs, 0⟩ :: gl) el (mFor mi vs1 mg mt mr) := by
  obtain ⟨cs, te, c1, c2, c3⟩ := B.ex
  refine ⟨⟨fun σ H R => ∀ s h C cl fp, (i s h C cl fp).ex.choose σ H R, fun v σ H Q => ∀ s h C cl fp, (g s h C cl fp).ex.choose v σ H Q, fun σ H Q => ∀ s h C cl fp, (t s h C cl fp).ex.choose σ H Q, vs1⟩ :: cs, te, fun s h C cl fp => .cons hv ?_ ?_ ?_ (hs s h C cl fp) (c1 s h C cl fp), c2, fun A => sndR_cons (sl := sl) (c3 A) ?_ ?_ ?_ o⟩
  · exact ⟨fun pins s' σ H R I q => (i s h C cl fp).ex.choose_spec.1.run pins s' σ H R I (q s h C cl fp)⟩
  · exact ⟨fun pins s' σ H v u Q I r q => (g s h C cl fp).ex.choose_spec.1.run pins s' σ H v u Q I r (q s h C cl fp)⟩
  · exact ⟨fun pins s' σ H Q I q => (t s h C cl fp).ex.choose_spec.1.run pins s' σ H Q I (q s h C cl fp)⟩
  · exact fun F σ H ρ δ ds δ' G e R q s h C cl fp => (i s h C cl fp).ex.choose_spec.2 F σ H ρ δ ds δ' G e R q
  · exact fun F σ H ρ δ v d ρ' G r e Q q s h C cl fp => (g s h C cl fp).ex.choose_spec.2 F σ H ρ δ v d ρ' G r e Q q
  · exact fun F σ H ρ δ d δ' G e Q q s h C cl fp => (t s h C cl fp).ex.choose_spec.2 F σ H ρ δ d δ' G e Q q
theorem pd_lcN (hc : X.calm = true) (hN : X.N.Nodup) (hi : PDI X tg iter mi) (ok : BlkOk X.N X.env.scope sc own) (g : AllBlk X sc fun Y => PDG Y tg sl mg) (t : AllBlk X sc fun Y => PDTs Y ifs mt) (o : ∀ i ∈ sl, i ∈ own.map (·.2)) (B : BlkN X sc (own.map (·.2)) gl el mr) (hs : ∀ x, foldedSetIterable iter X.env x = pure x := by intro _; rfl) :
    PD X (.ListComp el (⟨tg, iter, ifs, 0⟩ :: gl) sc ps) (mLcN (mFor mi (own.map (·.2)) mg mt mr)) := by
  obtain ⟨wi, h1, s1⟩ := hi.ex
  obtain ⟨cs, te, c1, c2, c3⟩ := B.ex
  refine ⟨tLcN wi (fun v σ H Q => ∀ s h C cl fp, (g s h C cl fp).ex.choose v σ H Q) (fun σ H Q => ∀ s h C cl fp, (t s h C cl fp).ex.choose σ H Q) _ cs te, pe_lcN hc hN h1 ok ?_ ?_ c2 c1 hs, snd_lcN (sl := sl) c3 s1 ?_ ?_ o⟩
  · exact fun s h C cl fp => ⟨fun pins s' σ H v u Q I r q => (g s h C cl fp).ex.choose_spec.1.run pins s' σ H v u Q I r (q s h C cl fp)⟩
  · exact fun s h C cl fp => ⟨fun pins s' σ H Q I q => (t s h C cl fp).ex.choose_spec.1.run pins s' σ H Q I (q s h C cl fp)⟩
  · exact fun F σ H ρ δ v d ρ' G r e Q q s h C cl fp => (g s h C cl fp).ex.choose_spec.2 F σ H ρ δ v d ρ' G r e Q q
  · exact fun F σ H ρ δ d δ' G e Q q s h C cl fp => (t s h C cl fp).ex.choose_spec.2 F σ H ρ δ d δ' G e Q q
end
end PD
namespace PD
open PySem PySem.Spec PyProof.Rows L2
section
variable {X : Cx} {a b e : Expr} {es : List Expr} {ma mb me : ME} {r : MA} {p p1 pos pos1 : Pos}
def intsD : List D → Option (List Int)
  | [] => some []
  | .int i :: ds => (intsD ds).map (i :: ·)
  | _ => none
theorem Reps.intsR {K M H} : ∀ {xs ds ns}, Reps K M H xs ds → intsD ds = some ns → xs = ns.map V.int
  | _, _, _, .nil, h => by cases h; rfl
  | _, _, _, .cons r t, h => by
    cases r <;> first | (simp [intsD] at h; done) | skip
    simp only [intsD] at h
    obtain ⟨bs, e1, e2⟩ := Option.map_eq_some_iff.mp h
    subst e2
    rw [Reps.intsR t e1]; rfl
def greatI : List Int → Option Int
  | [] => none
  | i :: is => some (is.foldl max i)
theorem foldl_max_ge (is : List Int) : ∀ i, i ≤ is.foldl max i ∧ (∀ y ∈ is, y ≤ is.foldl max i) ∧ (is.foldl max i = i ∨ is.foldl max i ∈ is) := by
  induction is with
  | nil => intro i; exact ⟨Int.le_refl _, fun y h => by simp at h, .inl rfl⟩
  | cons a as ih =>
    intro i
    obtain ⟨h1, h2, h3⟩ := ih (max i a)
    simp only [List.foldl_cons]
    refine ⟨by omega, fun y hy => ?_, ?_⟩
    · rcases List.mem_cons.mp hy with rfl | hy
      · omega
      · exact h2 y hy
    · rcases h3 with h3 | h3
      · by_cases hz : a ≤ i
        · left; rw [h3]; omega
        · right; rw [h3, show max i a = a by omega]; exact List.mem_cons_self
      · right; exact List.mem_cons_of_mem _ h3
def rMaxDf (K : PySem.W.Frag) : List V → List V → Hp → VK → Prop := fun vs zs H Q => ∃ (a : Addr) (ns : List Int) (z : V), vs = [V.ref a] ∧ zs = [z] ∧ SqL K H a (ns.map V.int) ∧ (ns = [] → Q z H) ∧ ∀ i is, ns = i :: is → Q (.int (PySem.W.maxOf i is)) H
theorem holdAll_ints {h : Heap} : ∀ {ns : List Int} {us : List Value}, Vals (ns.map V.int) us → PySem.W.HoldAll h us ns
  | [], _, .nil => ⟨_, .nil⟩
  | n :: ns, _, .cons r t => by
    obtain ⟨t', rfl⟩ := r
    obtain ⟨as, ra⟩ := holdAll_ints t
    exact ⟨_, .cons (.int n t') ra⟩
theorem cr_maxDf (hc : X.calm = true) (hu : X.A.units + 1 < cLine) : CallRK X (.builtin "max") [Str.ofString "default"] (rMaxDf X.K) := by
  intro pins s σ H vs zs us ws Q I r1 r2 h
  obtain ⟨a, ns, z, rfl, rfl, hs, q0, q1⟩ := h
  obtain ⟨its, rv, hl, _⟩ := I.list hs
  obtain ⟨w, rfl, rw⟩ : ∃ w, ws = [w] ∧ RelV z w := by cases r2 with | cons r t => cases t; exact ⟨_, rfl, r⟩
  rw [Vals.ref1 r1]
  show wpAny _ _ (call (.builtin "max") [.ref a] [(Str.ofString "default", w)]) _ _ s
  refine PySem.W.max_list_datum_default (α := Int) (I.ok.hd hc) hl.isList (holdAll_ints rv) hu (fun e h' tk hk => ⟨z, H, I.kept hk, rw, q0 e⟩) fun y ys i v h' tk e hi hv hk => ?_
  obtain ⟨t, rfl⟩ := PySem.W.int_of_holds hv
  exact ⟨.int _, H, I.kept hk, ⟨_, rfl⟩, q1 y ys e⟩
theorem maxOf_int (i : Int) (is : List Int) : PySem.W.maxOf i is = is.foldl max i := by
  unfold PySem.W.maxOf
  induction is generalizing i with
  | nil => rfl
  | cons a as ih =>
    rw [List.foldl_cons, List.foldl_cons, ih]
    congr 1
    show (if decide (i < a) = true then a else i) = max i a
    by_cases h : i < a
    · rw [if_pos (decide_eq_true h)]; omega
    · rw [if_neg (by simpa using h)]; omega
def mMaxDf (m md : ME) : ME := fun ρ δ => (m ρ δ).bind fun p => (md ρ p.2).bind fun q => match p.1 with
  | .list ds => (intsD ds).map fun ns => (match greatI ns with
    | some n => .int n
    | none => q.1, q.2)
  | _ => none
theorem pd_maxDf {d : Expr} {md : ME} {kp : Pos} (hm : X.mg "max" = none) (hc : X.calm = true) (hu : X.A.units + 1 < cLine) (ha : PD X e me) (hd : PD X d md) (hg : Gl X "max" := by rfl) (hse : starEach [e] X.env = (false, eval e X.env) :: starEach [] X.env := by rfl)
    (he : backTo pos (starEach [e] X.env) = (false, eval e X.env) :: backTo pos (starEach [] X.env) := by rfl) (hpl : (backTo pos (starEach [e] X.env)).any (·.1) = false := by rfl)
    (hall : (backToKw pos (keywordEach [⟨some "default", d, kp⟩] X.env)).all (·.1.isSome) = true := by rfl) (hnone : (backToKw pos (keywordEach [⟨some "default", d, kp⟩] X.env)).any (·.1.isNone) = false := by rfl) (hks : (backToKw pos (keywordEach [⟨some "default", d, kp⟩] X.env)).filterMap (·.1) = [Str.ofString "default"] := by rfl) :
    PD X (.Call (.Name "max" p) [e] [⟨some "default", d, kp⟩] pos) (mMaxDf me md) := by
  obtain ⟨te, h1, s1⟩ := ha.ex
  obtain ⟨td, h2, s2⟩ := hd.ex
  refine ⟨_, pe_callBK (cr_maxDf hc hu) hg hm (by decide +kernel) (pa_cons h1 pa_nil hse) (pk_cons h2 pk_nil) (by decide) (by decide) he hpl hall hnone hks, fun F σ H ρ δ z δ' G e Q q => ?_⟩
  obtain ⟨⟨x, δ1⟩, e1, e⟩ := Option.bind_eq_some_iff.mp e
  obtain ⟨⟨y, δ2⟩, e2, e⟩ := Option.bind_eq_some_iff.mp e
  dsimp only at e e2
  split at e
  · rename_i ds
    obtain ⟨ns, e3, e⟩ := Option.map_eq_some_iff.mp e
    refine s1 F σ H ρ δ _ _ G e1 _ fun v H1 G1 M1 R1 => ?_
    refine s2 F σ H1 ρ δ1 _ _ G1 e2 _ fun w H2 G2 M2 R2 => ?_
    have R1' := R1.mv M2
    cases R1' with
    | lst ha r =>
      refine ⟨_, ns, w, rfl, rfl, by rw [← r.intsR e3]; exact ha.sq, fun en => ?_, fun i is en => ?_⟩
      · subst en
        cases e
        exact q _ _ G2 (M1.trans M2) R2
      · subst en
        cases e
        rw [maxOf_int]
        exact q _ _ G2 (M1.trans M2) (.int _)
  · cases e
end
end PD
namespace PD
open PySem PySem.Spec PyProof.Rows L2
theorem u1 {k : Nat} {A : Around} (hr : Room k A) : A.units + 1 < cLine := by have := u65 hr; omega
theorem pdss_dict {X : Cx} {tg iter e1 e2 : Expr} {R : Str} {py p0 p1 apos cpos pos2 spos fpos : Pos} {rest : List Stmt} {mi : MA} {mg : MG} {m1 m2 : ME} {m : MS} {sl : List Nat} (r : Nat)
    (hc : X.calm = true) (hN : X.N.Nodup) (hi : PDI X tg iter mi) (hg : PDG X tg sl mg) (h1 : PD X e1 m1) (h2 : PD X e2 m2) (hrest : PDSs X rest m) (hr : r ∉ sl) (hp : PassesOwn (model X.prog X.w) X.A X.env X.xe)
    (hy : X.N[r]? = some R := by rfl) (hl : Loc X.env.scope R := by first | exact Or.inl rfl | exact Or.inr rfl) (hs2 : ∀ x, foldedSetIterable iter X.env x = pure x := by intro _; rfl)
    (hv : Vis X.env.scope R := by first | exact Or.inl rfl | exact Or.inr (Or.inl rfl) | exact Or.inr (Or.inr rfl)) (hd : (R == ("__debug__" : Str)) = false := by decide) (hcd : (R == ("__classdict__" : Str)) = false := by decide)
    (hb : attributeBase (.Name R p1) "setdefault" X.env (eval (.Name R p1) X.env) = eval (.Name R p1) X.env := by rfl)
    (hfew : ((backTo cpos (starEach [e1, e2] X.env)).all (fun x => !x.1) && (backToKw cpos (keywordEach [] X.env)).all (fun x => x.1.isSome) && decide (([e1, e2] : List Expr).length + ([] : List Keyword).length + (if ([] : List Keyword).isEmpty then 0 else 1) < 30)) = true := by rfl)
    (hline : (apos.endLine == cpos.line) = true := by rfl) (htr : backTo cpos (starEach [e1, e2] X.env) = [(false, eval e1 X.env), (false, eval e2 X.env)] := by rfl)
    (hse : swapsWith (.Call (.Attribute (.Name R p1) "setdefault" apos) [e1, e2] [] cpos) none pos2.line X.env = pure false := by rfl) (hf : X.fn R = true ∨ X.env.scope.names.lookup R = some .local := by first | exact .inl rfl | exact .inr rfl | assumption) (hsd : swapsWith (.Dict [] [] p0) (some (.Name R py)) spos.line X.env = pure false := by rfl) :
    PDSs X (.Assign [.Name R py] (.Dict [] [] p0) spos :: .For tg iter [.Expr (.Call (.Attribute (.Name R p1) "setdefault" apos) [e1, e2] [] cpos) pos2] [] fpos :: rest) (sSeq (sDict r mi mg m1 m2) m) := by
  obtain ⟨wi, w1, s1⟩ := hi.ex
  obtain ⟨g, w2, s2⟩ := hg.ex
  obtain ⟨t1, w3, s3⟩ := h1.ex
  obtain ⟨t2, w4, s4⟩ := h2.ex
  obtain ⟨tr, w5, s5⟩ := hrest.ex
  refine ⟨_, pss_cons (ps_set hN hy hl pe_dnewK hsd hf) (pss_cons (ps_for hp hc w1 w2 (pss_one (ps_expr (pe_dsetd (pe_var hy hv hd hcd) w3 w4 ⟨hb, hfew, hline, htr⟩) hse)) hs2) w5), ?_⟩
  have z := snd_seq (snd_dict r s1 s2 s3 s4 hr) s5
  exact z
def gSwap (K : PySem.W.Frag) (i j : Nat) : TG := fun v σ H Q => ∃ a x y, v = .ref a ∧ SqT K H a [x, y] ∧ gName j y σ H fun σ1 H1 => gName i x σ1 H1 Q
def gSwapM (i j : Nat) : MG := fun d ρ => match d with
  | .tuple [a, b] => some ((ρ.set j (.val b)).set i (.val a))
  | _ => none
theorem ps_swap {X : Cx} {i j : Nat} {x y : Str} {e : Expr} {te : TE} {k : Nat} {p1 p2 tp pos : Pos} (hc : X.calm = true) (hN : X.N.Nodup) (he : PE X e te) (hx : X.N[i]? = some x) (hy : X.N[j]? = some y) (lx : Loc X.env.scope x) (ly : Loc X.env.scope y)
    (fx : X.fn x = true ∨ X.env.scope.names.lookup x = some .local) (fy : X.fn y = true ∨ X.env.scope.names.lookup y = some .local)
    (hs : swapsWithSole [.Tuple [.Name x p1, .Name y p2] k tp] e pos.line X.env = pure false) (hw : swappedStores [.Tuple [.Name x p1, .Name y p2] k tp] e X.env = pure (some [x, y])) : PS X (.Assign [.Tuple [.Name x p1, .Name y p2] k tp] e pos) (tAsg te (gSwap X.K i j)) := by
  refine ⟨fun pins s σ H D I h => ?_⟩
  rw [exec_Assign_arm]
  refine wpAny_bind (wpAny_standAt (wpAny_bind ?_))
  rw [hs]
  refine wpAny_pure ?_
  rw [if_neg (by decide)]
  refine wpAny_bind (thn (he.run pins s σ H _ I h) fun v s1 ⟨z, H1, I1, r1, q1⟩ => ?_)
  rw [hw]
  refine wpAny_bind (wpAny_pure ?_)
  obtain ⟨a, x1, y1, rfl, hq, h2⟩ := q1
  cases r1
  obtain ⟨its, rv, ht, hz⟩ := I1.tuple hq
  cases rv with | @cons _ u1 _ us ra rv => cases rv with | @cons _ u2 _ us rb rv =>
    cases rv
    unfold assignStores
    dsimp only [List.reverse_cons, List.reverse_nil, List.nil_append, List.cons_append, List.map_cons, List.map_nil]
    refine wpAny_bind (wpAny_rule ?_)
    refine wpAny_bind (?_ : wpAny _ X.A (unpackItems (.ref a) [u1, u2].toArray.size none) _ _ s1)
    refine unpackItems_tuple (I1.ok.hd hc) ht fun h' hk => ?_
    have I2 : Inv X pins σ H1 { s1 with heap := h' } := I1.kept (t' := s1.toks) fun b o e => hk b o (Nat.ne_of_lt (Heap.lt_size e)) e
    refine wpAny_bind ?_
    show wpAny _ _ (assignInOrder [bindName X.env y, bindName X.env x] [u2, u1]) _ _ _
    refine assignInOrder_cons (wpAny_bindName (store_ok I2 hN hy ly rb (fun s3 I3 => ?_) fy))
    refine assignInOrder_cons (wpAny_bindName (store_ok I3 hN hx lx ra (fun s4 I4 => ?_) fx))
    exact assignInOrder_nil (wpAny_pure ⟨_, _, I4, h2⟩)
theorem snd_swap {K} (i j : Nat) : SndG K ([j] ++ [i]) (gSwap K i j) (gSwapM i j) := fun F σ H ρ δ v d ρ' G r e Q q => by
  unfold gSwapM at e
  split at e
  · cases e
    cases r with
    | tup ha r => cases r with | cons r1 r => cases r with | cons r2 r =>
      cases r
      refine ⟨_, _, _, rfl, ha.sq, ?_⟩
      exact q _ ((G.set j r2).1.set i (r1.mv (G.set j r2).2)).1 ((G.set j r2).2.trans ((G.set j r2).1.set i (r1.mv (G.set j r2).2)).2) ((Set1.set j).trans (Set1.set i))
  · cases e
theorem pds_swap {X : Cx} (i j : Nat) {x y : Str} {e : Expr} {me : ME} {k : Nat} {p1 p2 tp pos : Pos} (hc : X.calm = true) (hN : X.N.Nodup) (he : PD X e me) (hx : X.N[i]? = some x := by rfl) (hy : X.N[j]? = some y := by rfl) (lx : Loc X.env.scope x := by first | exact Or.inl rfl | exact Or.inr rfl) (ly : Loc X.env.scope y := by first | exact Or.inl rfl | exact Or.inr rfl)
    (fx : X.fn x = true ∨ X.env.scope.names.lookup x = some .local := by first | exact .inl rfl | exact .inr rfl) (fy : X.fn y = true ∨ X.env.scope.names.lookup y = some .local := by first | exact .inl rfl | exact .inr rfl)
    (hs : swapsWithSole [.Tuple [.Name x p1, .Name y p2] k tp] e pos.line X.env = pure false := by rfl) (hw : swappedStores [.Tuple [.Name x p1, .Name y p2] k tp] e X.env = pure (some [x, y]) := by rfl) : PDS X (.Assign [.Tuple [.Name x p1, .Name y p2] k tp] e pos) (sAsg me (gSwapM i j)) := by
  obtain ⟨t, q1, s1⟩ := he.ex
  exact ⟨_, ps_swap hc hN q1 hx hy lx ly fx fy hs hw, snd_asg s1 (snd_swap i j)⟩
end PD
namespace PD
open PySem PySem.Spec PyProof.Rows L2
def getD2 : D → D → D → Option D
  | .dict es, k, z => (keyOf k).map fun _ => (lookD es k).getD z
  | _, _, _ => none
def mGet2 (a b c : ME) : ME := fun ρ δ => (a ρ δ).bind fun p => (b ρ p.2).bind fun q => (c ρ q.2).bind fun r => (getD2 p.1 q.1 r.1).map fun z => (z, r.2)
section
variable {X : Cx} {a b c e : Expr} {es : List Expr} {ma mb mc : ME} {r : MA} {p pos : Pos}
def strD : List D → Option D
  | [.int i] => if i.natAbs.log2 < 1920 then some (.str (toString i)) else none
  | _ => none
theorem cs_str {K} : CallS K (fun xs H Q => ∃ i, xs = [.int i] ∧ i.natAbs.log2 < 1920 ∧ Q (.str (toString i)) H) strD := fun F σ H ρ δ xs ds z G R hz Q q => by
  unfold strD at hz
  split at hz
  · split at hz
    · rename_i hc
      cases hz
      obtain ⟨v, rfl, r⟩ := reps1 R
      cases r
      exact ⟨_, rfl, hc, q _ _ nokeep (.str _)⟩
    · cases hz
  · cases hz
theorem pd_cstr (hm : X.mg "str" = none) (ha : PDA X (e :: es) r) (hg : Gl X "str" := by rfl) (he : starEach (e :: es) X.env = (false, eval e X.env) :: starEach es X.env := by rfl) (hpl : (backTo pos (starEach es X.env)).any (·.1) = false := by rfl) : PD X (.Call (.Name "str" p) (e :: es) [] pos) (mCall strD r) := pd_ct (by decide +kernel) call_str_int cs_str ha hg hm (by decide) (by decide) he hpl
end
end PD
namespace PD
open PySem PySem.Spec PyProof.Rows L2
def W1 (o : Option D) (P : D → Prop) : Prop := ∃ z, o = some z ∧ P z
def WE (m : ME) (ρ : List Sl) (δ : Dk) (P : D → Dk → Prop) : Prop := ∃ d δ', m ρ δ = some (d, δ') ∧ P d δ'
def WT (m : MT) (ρ : List Sl) (δ : Dk) (P : Bool → Dk → Prop) : Prop := ∃ d δ', m ρ δ = some (d, δ') ∧ P d δ'
def WA (m : MA) (ρ : List Sl) (δ : Dk) (P : List D → Dk → Prop) : Prop := ∃ d δ', m ρ δ = some (d, δ') ∧ P d δ'
def WO (m : MO) (ρ : List Sl) (δ : Dk) (P : Option Int → Dk → Prop) : Prop := ∃ d δ', m ρ δ = some (d, δ') ∧ P d δ'
def WP (m : MP) (ρ : List Sl) (δ : Dk) (P : List (Key × D) → Dk → Prop) : Prop := ∃ d δ', m ρ δ = some (d, δ') ∧ P d δ'
def WG (g : MG) (d : D) (ρ : List Sl) (P : List Sl → Prop) : Prop := ∃ ρ', g d ρ = some ρ' ∧ P ρ'
def WGs (g : MGs) (d : List D) (ρ : List Sl) (P : List Sl → Prop) : Prop := ∃ ρ', g d ρ = some ρ' ∧ P ρ'
def WS (s : MS) (ρ : List Sl) (δ : Dk) (P : Fl → List Sl → Dk → Prop) : Prop := ∃ f ρ' δ', s ρ δ = some (f, ρ', δ') ∧ P f ρ' δ'
def WK (f : List D → Dk → Option (D × Dk)) (ds : List D) (δ : Dk) (P : D → Dk → Prop) : Prop := ∃ d δ', f ds δ = some (d, δ') ∧ P d δ'
def WC (g : MG) (tt : MT) (te : ME) (ρ : List Sl) (ds : List D) (δ : Dk) (P : List D → Dk → Prop) : Prop := ∃ d δ', compL g tt te ρ ds δ = some (d, δ') ∧ P d δ'
theorem W1.of {o : Option D} {z : D} {P : D → Prop} (h : o = some z) (p : P z) : W1 o P := ⟨z, h, p⟩
theorem W1.mono {o : Option D} {P Q : D → Prop} (h : W1 o P) (k : ∀ z, P z → Q z) : W1 o Q := let ⟨z, e, p⟩ := h; ⟨z, e, k z p⟩
theorem WK.mono {f ds δ} {P Q : D → Dk → Prop} (h : WK f ds δ P) (k : ∀ z δ', P z δ' → Q z δ') : WK f ds δ Q := let ⟨z, δ', e, p⟩ := h; ⟨z, δ', e, k z δ' p⟩
theorem WS.mono {s ρ δ} {P Q : Fl → List Sl → Dk → Prop} (h : WS s ρ δ P) (k : ∀ f ρ' δ', P f ρ' δ' → Q f ρ' δ') : WS s ρ δ Q := let ⟨f, ρ', δ', e, p⟩ := h; ⟨f, ρ', δ', e, k f ρ' δ' p⟩
theorem WE.mono {m ρ δ} {P Q : D → Dk → Prop} (h : WE m ρ δ P) (k : ∀ z δ', P z δ' → Q z δ') : WE m ρ δ Q := let ⟨z, δ', e, p⟩ := h; ⟨z, δ', e, k z δ' p⟩
theorem WT.mono {m ρ δ} {P Q : Bool → Dk → Prop} (h : WT m ρ δ P) (k : ∀ z δ', P z δ' → Q z δ') : WT m ρ δ Q := let ⟨z, δ', e, p⟩ := h; ⟨z, δ', e, k z δ' p⟩
section
variable {ρ : List Sl} {δ : Dk}
theorem we_var {i : Nat} {P} : WE (mVar i) ρ δ P ↔ ∃ d, ρ[i]? = some (.val d) ∧ P d δ := by
  unfold WE mVar
  constructor
  · rintro ⟨d, δ', h, p⟩
    split at h
    · rename_i e
      cases h; exact ⟨_, e, p⟩
    · cases h
  · rintro ⟨d, e, p⟩
    exact ⟨d, δ, by rw [e], p⟩
theorem we_c {d : D} {P} : WE (mC d) ρ δ P ↔ P d δ := ⟨fun ⟨_, _, h, p⟩ => by cases h; exact p, fun p => ⟨_, _, rfl, p⟩⟩
theorem we_bin {f a b P} : WE (mBin f a b) ρ δ P ↔ WE a ρ δ fun x δ1 => WE b ρ δ1 fun y δ2 => W1 (f x y) fun z => P z δ2 := by
  constructor
  · rintro ⟨d, δ', e, p⟩
    obtain ⟨⟨x, δ1⟩, e1, e⟩ := Option.bind_eq_some_iff.mp e
    obtain ⟨⟨y, δ2⟩, e2, e⟩ := Option.bind_eq_some_iff.mp e
    obtain ⟨z, e3, e⟩ := Option.map_eq_some_iff.mp e
    cases e
    exact ⟨x, δ1, e1, y, _, e2, _, e3, p⟩
  · rintro ⟨x, δ1, e1, y, δ2, e2, z, e3, p⟩
    exact ⟨z, δ2, bin_eq e1 e2 e3, p⟩
theorem we_un {f a P} : WE (mUn f a) ρ δ P ↔ WE a ρ δ fun x δ1 => W1 (f x) fun z => P z δ1 := by
  constructor
  · rintro ⟨d, δ', e, p⟩
    obtain ⟨⟨x, δ1⟩, e1, e⟩ := Option.bind_eq_some_iff.mp e
    obtain ⟨z, e3, e⟩ := Option.map_eq_some_iff.mp e
    cases e
    exact ⟨x, _, e1, _, e3, p⟩
  · rintro ⟨x, δ1, e1, z, e3, p⟩
    exact ⟨z, δ1, un_eq e1 e3, p⟩
theorem we_call {f r P} : WE (mCall f r) ρ δ P ↔ WA r ρ δ fun x δ1 => W1 (f x) fun z => P z δ1 := by
  constructor
  · rintro ⟨d, δ', e, p⟩
    obtain ⟨⟨x, δ1⟩, e1, e⟩ := Option.bind_eq_some_iff.mp e
    obtain ⟨z, e3, e⟩ := Option.map_eq_some_iff.mp e
    cases e
    exact ⟨x, _, e1, _, e3, p⟩
  · rintro ⟨x, δ1, e1, z, e3, p⟩
    exact ⟨z, δ1, call_eq e1 e3, p⟩
theorem we_callK {i f r P} : WE (mCallK i f r) ρ δ P ↔ ρ[i]? = some .deck ∧ WA r ρ δ fun x δ1 => WK f x δ1 P := by
  constructor
  · rintro ⟨d, δ', e, p⟩
    unfold mCallK at e
    split at e
    · rename_i hi
      obtain ⟨⟨x, δ1⟩, e1, e⟩ := Option.bind_eq_some_iff.mp e
      exact ⟨hi, x, δ1, e1, d, δ', e, p⟩
    · cases e
  · rintro ⟨hi, x, δ1, e1, d, δ', e, p⟩
    exact ⟨d, δ', callK_eq hi e1 e, p⟩
theorem wa_nil {P} : WA mNil ρ δ P ↔ P [] δ := ⟨fun ⟨_, _, h, p⟩ => by cases h; exact p, fun p => ⟨_, _, rfl, p⟩⟩
theorem wa_cons {a r P} : WA (mCons a r) ρ δ P ↔ WE a ρ δ fun x δ1 => WA r ρ δ1 fun xs δ2 => P (x :: xs) δ2 := by
  constructor
  · rintro ⟨d, δ', e, p⟩
    obtain ⟨⟨x, δ1⟩, e1, e⟩ := Option.bind_eq_some_iff.mp e
    obtain ⟨⟨z, δ2⟩, e3, e⟩ := Option.map_eq_some_iff.mp e
    cases e
    exact ⟨x, δ1, e1, z, _, e3, p⟩
  · rintro ⟨x, δ1, e1, z, δ2, e3, p⟩
    exact ⟨_, _, cons_eq e1 e3, p⟩
theorem we_tup {r P} : WE (mTup r) ρ δ P ↔ WA r ρ δ fun ds δ1 => ds.length ≤ sizeLine ∧ P (.tuple ds) δ1 := by
  constructor
  · rintro ⟨d, δ', e, p⟩
    obtain ⟨⟨x, δ1⟩, e1, e⟩ := Option.bind_eq_some_iff.mp e
    dsimp only at e
    split at e
    · rename_i hl; cases e; exact ⟨x, _, e1, hl, p⟩
    · cases e
  · rintro ⟨x, δ1, e1, hl, p⟩
    exact ⟨_, _, tup_eq e1 hl, p⟩
theorem we_lst {r P} : WE (mLst r) ρ δ P ↔ WA r ρ δ fun ds δ1 => ds.length ≤ sizeLine ∧ P (.list ds) δ1 := by
  constructor
  · rintro ⟨d, δ', e, p⟩
    obtain ⟨⟨x, δ1⟩, e1, e⟩ := Option.bind_eq_some_iff.mp e
    dsimp only at e
    split at e
    · rename_i hl; cases e; exact ⟨x, _, e1, hl, p⟩
    · cases e
  · rintro ⟨x, δ1, e1, hl, p⟩
    exact ⟨_, _, lst_eq e1 hl, p⟩
theorem wo_no {P} : WO oNo ρ δ P ↔ P none δ := ⟨fun ⟨_, _, h, p⟩ => by cases h; exact p, fun p => ⟨_, _, rfl, p⟩⟩
theorem wo_some {m P} : WO (oSome m) ρ δ P ↔ WE m ρ δ fun x δ1 => ∃ i, x = .int i ∧ P (some i) δ1 := by
  constructor
  · rintro ⟨d, δ', e, p⟩
    obtain ⟨⟨x, δ1⟩, e1, e⟩ := Option.bind_eq_some_iff.mp e
    dsimp only at e
    split at e
    · cases e; exact ⟨_, _, e1, _, rfl, p⟩
    · cases e
  · rintro ⟨x, δ1, e1, i, rfl, p⟩
    exact ⟨_, _, os_eq e1, p⟩
theorem we_sl {a lo hi P} : WE (mSl a lo hi) ρ δ P ↔ WE a ρ δ fun x δ1 => WO lo ρ δ1 fun l δ2 => WO hi ρ δ2 fun h δ3 => W1 (slD l h x) fun z => P z δ3 := by
  constructor
  · rintro ⟨d, δ', e, p⟩
    obtain ⟨⟨x, δ1⟩, e1, e⟩ := Option.bind_eq_some_iff.mp e
    obtain ⟨⟨y, δ2⟩, e2, e⟩ := Option.bind_eq_some_iff.mp e
    obtain ⟨⟨h, δ3⟩, e4, e⟩ := Option.bind_eq_some_iff.mp e
    obtain ⟨z, e3, e⟩ := Option.map_eq_some_iff.mp e
    cases e
    exact ⟨x, δ1, e1, y, δ2, e2, h, _, e4, _, e3, p⟩
  · rintro ⟨x, δ1, e1, y, δ2, e2, h, δ3, e4, z, e3, p⟩
    exact ⟨z, _, sl_eq e1 e2 e4 e3, p⟩
theorem wt_b {m P} : WT (mB m) ρ δ P ↔ WE m ρ δ fun x δ1 => ∃ b, x = .bool b ∧ P b δ1 := by
  constructor
  · rintro ⟨d, δ', e, p⟩
    obtain ⟨⟨x, δ1⟩, e1, e⟩ := Option.bind_eq_some_iff.mp e
    dsimp only at e
    split at e
    · cases e; exact ⟨_, _, e1, _, rfl, p⟩
    · cases e
  · rintro ⟨x, δ1, e1, i, rfl, p⟩
    exact ⟨_, _, mB_eq e1, p⟩
theorem wt_tru {m P} : WT (mTru m) ρ δ P ↔ WE m ρ δ fun x δ1 => ∃ b, truD x = some b ∧ P b δ1 := by
  constructor
  · rintro ⟨d, δ', e, p⟩
    obtain ⟨⟨x, δ1⟩, e1, e⟩ := Option.bind_eq_some_iff.mp e
    obtain ⟨z, e3, e⟩ := Option.map_eq_some_iff.mp e
    cases e
    exact ⟨_, _, e1, _, e3, p⟩
  · rintro ⟨x, δ1, e1, i, e2, p⟩
    exact ⟨_, _, tru_eq e1 e2, p⟩
theorem wt_and {a b P} : WT (tAndM a b) ρ δ P ↔ WT a ρ δ fun x δ1 => if x = true then WT b ρ δ1 P else P false δ1 := by
  constructor
  · rintro ⟨d, δ', e, p⟩
    obtain ⟨⟨x, δ1⟩, e1, e⟩ := Option.bind_eq_some_iff.mp e
    dsimp only at e
    refine ⟨x, δ1, e1, ?_⟩
    split at e
    · rw [if_pos (by assumption)]; exact ⟨_, _, e, p⟩
    · rw [if_neg (by assumption)]; cases e; exact p
  · rintro ⟨x, δ1, e1, p⟩
    unfold WT tAndM
    rw [e1]
    simp only [Option.bind_some]
    split at p
    · rw [if_pos (by assumption)]; exact p
    · rw [if_neg (by assumption)]; exact ⟨_, _, rfl, p⟩
theorem wt_or {a b P} : WT (tOrM a b) ρ δ P ↔ WT a ρ δ fun x δ1 => if x = true then P true δ1 else WT b ρ δ1 P := by
  constructor
  · rintro ⟨d, δ', e, p⟩
    obtain ⟨⟨x, δ1⟩, e1, e⟩ := Option.bind_eq_some_iff.mp e
    dsimp only at e
    refine ⟨x, δ1, e1, ?_⟩
    split at e
    · rw [if_pos (by assumption)]; cases e; exact p
    · rw [if_neg (by assumption)]; exact ⟨_, _, e, p⟩
  · rintro ⟨x, δ1, e1, p⟩
    unfold WT tOrM
    rw [e1]
    simp only [Option.bind_some]
    split at p
    · rw [if_pos (by assumption)]; exact ⟨_, _, rfl, p⟩
    · rw [if_neg (by assumption)]; exact p
theorem wt_not {a P} : WT (tNotM a) ρ δ P ↔ WT a ρ δ fun x δ1 => P (!x) δ1 := by
  constructor
  · rintro ⟨d, δ', e, p⟩
    obtain ⟨⟨x, δ1⟩, e1, e⟩ := Option.map_eq_some_iff.mp e
    cases e
    exact ⟨x, _, e1, p⟩
  · rintro ⟨x, δ1, e1, p⟩
    exact ⟨_, _, by unfold tNotM; rw [e1]; rfl, p⟩
theorem we_if {c a b P} : WE (mIf c a b) ρ δ P ↔ WT c ρ δ fun x δ1 => if x = true then WE a ρ δ1 P else WE b ρ δ1 P := by
  constructor
  · rintro ⟨d, δ', e, p⟩
    obtain ⟨⟨x, δ1⟩, e1, e⟩ := Option.bind_eq_some_iff.mp e
    dsimp only at e
    refine ⟨x, δ1, e1, ?_⟩
    split at e
    · rw [if_pos (by assumption)]; exact ⟨_, _, e, p⟩
    · rw [if_neg (by assumption)]; exact ⟨_, _, e, p⟩
  · rintro ⟨x, δ1, e1, p⟩
    unfold WE mIf
    rw [e1]
    simp only [Option.bind_some]
    split at p
    · rw [if_pos (by assumption)]; exact p
    · rw [if_neg (by assumption)]; exact p
theorem we_and {a b P} : WE (mAnd a b) ρ δ P ↔ WE a ρ δ fun x δ1 => ∃ c, x = .bool c ∧ if c = true then WE b ρ δ1 P else P (.bool false) δ1 := by
  constructor
  · rintro ⟨d, δ', e, p⟩
    obtain ⟨⟨x, δ1⟩, e1, e⟩ := Option.bind_eq_some_iff.mp e
    dsimp only at e
    split at e
    · exact ⟨_, _, e1, true, rfl, d, δ', e, p⟩
    · cases e; exact ⟨_, _, e1, false, rfl, p⟩
    · cases e
  · rintro ⟨x, δ1, e1, c, rfl, p⟩
    unfold WE mAnd
    rw [e1]
    simp only [Option.bind_some]
    cases c with
    | true => exact p
    | false => exact ⟨_, _, rfl, p⟩
theorem we_or {a b P} : WE (mOr a b) ρ δ P ↔ WE a ρ δ fun x δ1 => ∃ c, x = .bool c ∧ if c = true then P (.bool true) δ1 else WE b ρ δ1 P := by
  constructor
  · rintro ⟨d, δ', e, p⟩
    obtain ⟨⟨x, δ1⟩, e1, e⟩ := Option.bind_eq_some_iff.mp e
    dsimp only at e
    split at e
    · cases e; exact ⟨_, _, e1, true, rfl, p⟩
    · exact ⟨_, _, e1, false, rfl, d, δ', e, p⟩
    · cases e
  · rintro ⟨x, δ1, e1, c, rfl, p⟩
    unfold WE mOr
    rw [e1]
    simp only [Option.bind_some]
    cases c with
    | false => exact p
    | true => exact ⟨_, _, rfl, p⟩
theorem we_chain {f g a b c P} : WE (mChain f g a b c) ρ δ P ↔ WE a ρ δ fun x δ1 => WE b ρ δ1 fun y δ2 => W1 (f x y) fun z => ∃ t, z = .bool t ∧ if t = true then WE c ρ δ2 fun w δ3 => W1 (g y w) fun v => P v δ3 else P (.bool false) δ2 := by
  constructor
  · rintro ⟨d, δ', e, p⟩
    obtain ⟨⟨x, δ1⟩, e1, e⟩ := Option.bind_eq_some_iff.mp e
    obtain ⟨⟨y, δ2⟩, e2, e⟩ := Option.bind_eq_some_iff.mp e
    obtain ⟨z, e3, e⟩ := Option.bind_eq_some_iff.mp e
    refine ⟨x, δ1, e1, y, δ2, e2, z, e3, ?_⟩
    dsimp only at e
    split at e
    · obtain ⟨⟨w, δ3⟩, e4, e⟩ := Option.bind_eq_some_iff.mp e
      obtain ⟨v, e5, e⟩ := Option.map_eq_some_iff.mp e
      cases e
      exact ⟨true, rfl, w, _, e4, _, e5, p⟩
    · cases e; exact ⟨false, rfl, p⟩
    · cases e
  · rintro ⟨x, δ1, e1, y, δ2, e2, z, e3, t, rfl, p⟩
    unfold WE mChain
    rw [e1]; simp only [Option.bind_some]; rw [e2]; simp only [Option.bind_some]; rw [e3]; simp only [Option.bind_some]
    cases t with
    | true =>
      obtain ⟨w, δ3, e4, v, e5, p⟩ := p
      rw [e4]; simp only [Option.bind_some]; rw [e5]
      exact ⟨_, _, rfl, p⟩
    | false => exact ⟨_, _, rfl, p⟩
theorem we_get2 {a b c P} : WE (mGet2 a b c) ρ δ P ↔ WE a ρ δ fun x δ1 => WE b ρ δ1 fun y δ2 => WE c ρ δ2 fun w δ3 => W1 (getD2 x y w) fun z => P z δ3 := by
  constructor
  · rintro ⟨d, δ', e, p⟩
    obtain ⟨⟨x, δ1⟩, e1, e⟩ := Option.bind_eq_some_iff.mp e
    obtain ⟨⟨y, δ2⟩, e2, e⟩ := Option.bind_eq_some_iff.mp e
    obtain ⟨⟨h, δ3⟩, e4, e⟩ := Option.bind_eq_some_iff.mp e
    obtain ⟨z, e3, e⟩ := Option.map_eq_some_iff.mp e
    cases e
    exact ⟨x, δ1, e1, y, δ2, e2, h, _, e4, _, e3, p⟩
  · rintro ⟨x, δ1, e1, y, δ2, e2, h, δ3, e4, z, e3, p⟩
    refine ⟨z, δ3, ?_, p⟩
    unfold mGet2
    rw [e1]; simp only [Option.bind_some]; rw [e2]; simp only [Option.bind_some]; rw [e4]; simp only [Option.bind_some]; rw [e3]; rfl
theorem wp_nil {P} : WP pNil ρ δ P ↔ P [] δ := ⟨fun ⟨_, _, h, p⟩ => by cases h; exact p, fun p => ⟨_, _, rfl, p⟩⟩
theorem wp_cons {k v r P} : WP (pCons k v r) ρ δ P ↔ WE k ρ δ fun x δ1 => ∃ kk, keyOf x = some kk ∧ WE v ρ δ1 fun y δ2 => WP r ρ δ2 fun z δ3 => P ((kk, y) :: z) δ3 := by
  constructor
  · rintro ⟨d, δ', e, p⟩
    obtain ⟨⟨x, δ1⟩, e1, e⟩ := Option.bind_eq_some_iff.mp e
    obtain ⟨kk, e2, e⟩ := Option.bind_eq_some_iff.mp e
    obtain ⟨⟨y, δ2⟩, e3, e⟩ := Option.bind_eq_some_iff.mp e
    obtain ⟨⟨z, δ3⟩, e4, e⟩ := Option.map_eq_some_iff.mp e
    cases e
    exact ⟨x, δ1, e1, kk, e2, y, δ2, e3, z, _, e4, p⟩
  · rintro ⟨x, δ1, e1, kk, e2, y, δ2, e3, z, δ3, e4, p⟩
    refine ⟨_, δ3, ?_, p⟩
    unfold pCons
    rw [e1]; simp only [Option.bind_some]; rw [e2]; simp only [Option.bind_some]; rw [e3]; simp only [Option.bind_some]; rw [e4]; rfl
theorem we_disp {m P} : WE (mDisp m) ρ δ P ↔ WP m ρ δ fun es δ1 => (nodupK es ∧ es.length ≤ 15) ∧ P (.dict (es.map fun e => (keyD e.1, e.2))) δ1 := by
  constructor
  · rintro ⟨d, δ', e, p⟩
    obtain ⟨⟨x, δ1⟩, e1, e⟩ := Option.bind_eq_some_iff.mp e
    dsimp only at e
    split at e
    · rename_i hl; cases e; exact ⟨x, _, e1, hl, p⟩
    · cases e
  · rintro ⟨x, δ1, e1, hl, p⟩
    refine ⟨_, δ1, ?_, p⟩
    unfold mDisp
    rw [e1]; simp only [Option.bind_some]; rw [if_pos hl]
theorem wa_items {m P} : WA (mItems m) ρ δ P ↔ WE m ρ δ fun x δ1 => ∃ ds, itemsD x = some ds ∧ P ds δ1 := by
  constructor
  · rintro ⟨d, δ', e, p⟩
    obtain ⟨⟨x, δ1⟩, e1, e⟩ := Option.bind_eq_some_iff.mp e
    obtain ⟨z, e3, e⟩ := Option.map_eq_some_iff.mp e
    cases e
    exact ⟨_, _, e1, _, e3, p⟩
  · rintro ⟨x, δ1, e1, i, e2, p⟩
    exact ⟨_, _, it_eq e1 e2, p⟩
/-- range(j), j at most a million -/
theorem wa_rng {m P} (h : WE m ρ δ fun x δ1 => ∃ j : Nat, x = .int j ∧ j ≤ 1000000 ∧ P (rngL j) δ1) : WA (mRng1 m) ρ δ P := by
  obtain ⟨x, δ1, e, j, rfl, hj, p⟩ := h
  exact ⟨_, _, rng_eq e hj, p⟩
theorem we_lc {mi vs g tt te P} : WE (mLc mi vs g tt te) ρ δ P ↔ WA mi ρ δ fun ds δ1 => noU ρ vs = true ∧ WC g tt te (wipeR ρ vs) ds δ1 fun out δ2 => out.length ≤ sizeLine ∧ P (.list out) δ2 := by
  constructor
  · rintro ⟨d, δ', e, p⟩
    obtain ⟨⟨x, δ1⟩, e1, e⟩ := Option.bind_eq_some_iff.mp e
    dsimp only at e
    split at e
    · rename_i hu
      obtain ⟨⟨out, δ2⟩, e2, e⟩ := Option.bind_eq_some_iff.mp e
      dsimp only at e
      split at e
      · rename_i hz; cases e; exact ⟨x, δ1, e1, hu, out, _, e2, hz, p⟩
      · cases e
    · cases e
  · rintro ⟨x, δ1, e1, hu, out, δ2, e2, hz, p⟩
    exact ⟨_, _, lc_eq e1 hu e2 hz, p⟩
/-- targets -/
theorem wg_set {i : Nat} {d : D} {P} : WG (gSet i) d ρ P ↔ P (ρ.set i (.val d)) := ⟨fun ⟨_, h, p⟩ => by cases h; exact p, fun p => ⟨_, rfl, p⟩⟩
theorem wg_tup {n : Nat} {m d P} : WG (gTupM n m) d ρ P ↔ ∃ ds, d = .tuple ds ∧ ds.length = n ∧ WGs m ds ρ P := by
  constructor
  · rintro ⟨ρ', e, p⟩
    unfold gTupM at e
    split at e
    · split at e
      · rename_i hl; exact ⟨_, rfl, hl, _, e, p⟩
      · cases e
    · cases e
  · rintro ⟨ds, rfl, hl, ρ', e, p⟩
    exact ⟨ρ', by unfold gTupM; simp only; rw [if_pos hl]; exact e, p⟩
theorem wgs_nil {P} : WGs gsNil [] ρ P ↔ P ρ := ⟨fun ⟨_, h, p⟩ => by cases h; exact p, fun p => ⟨_, rfl, p⟩⟩
theorem wgs_cons {m r d ds P} : WGs (gsCons m r) (d :: ds) ρ P ↔ WG m d ρ fun ρ1 => WGs r ds ρ1 P := by
  constructor
  · rintro ⟨ρ', e, p⟩
    obtain ⟨ρ1, e1, e⟩ := Option.bind_eq_some_iff.mp e
    exact ⟨ρ1, e1, ρ', e, p⟩
  · rintro ⟨ρ1, e1, ρ', e, p⟩
    exact ⟨ρ', by unfold gsCons; simp only; rw [e1]; exact e, p⟩
/-- statements -/
theorem ws_next {P} : WS sNext ρ δ P ↔ P .nx ρ δ := ⟨fun ⟨_, _, _, h, p⟩ => by cases h; exact p, fun p => ⟨_, _, _, rfl, p⟩⟩
theorem ws_asg {m g P} : WS (sAsg m g) ρ δ P ↔ WE m ρ δ fun d δ1 => WG g d ρ fun ρ1 => P .nx ρ1 δ1 := by
  constructor
  · rintro ⟨f, ρ', δ', e, p⟩
    obtain ⟨⟨x, δ1⟩, e1, e⟩ := Option.bind_eq_some_iff.mp e
    obtain ⟨ρ1, e2, e⟩ := Option.map_eq_some_iff.mp e
    cases e
    exact ⟨x, _, e1, _, e2, p⟩
  · rintro ⟨x, δ1, e1, ρ1, e2, p⟩
    exact ⟨_, _, _, asg_eq e1 e2, p⟩
theorem ws_ret {m P} : WS (sRet m) ρ δ P ↔ WE m ρ δ fun d δ1 => P (.rt d) ρ δ1 := by
  constructor
  · rintro ⟨f, ρ', δ', e, p⟩
    obtain ⟨⟨x, δ1⟩, e1, e⟩ := Option.map_eq_some_iff.mp e
    cases e
    exact ⟨x, _, e1, p⟩
  · rintro ⟨x, δ1, e1, p⟩
    exact ⟨_, _, _, ret_eq e1, p⟩
theorem ws_if {c a b P} : WS (sIf c a b) ρ δ P ↔ WT c ρ δ fun x δ1 => if x = true then WS a ρ δ1 P else WS b ρ δ1 P := by
  constructor
  · rintro ⟨f, ρ', δ', e, p⟩
    obtain ⟨⟨x, δ1⟩, e1, e⟩ := Option.bind_eq_some_iff.mp e
    dsimp only at e
    refine ⟨x, δ1, e1, ?_⟩
    split at e
    · rw [if_pos (by assumption)]; exact ⟨_, _, _, e, p⟩
    · rw [if_neg (by assumption)]; exact ⟨_, _, _, e, p⟩
  · rintro ⟨x, δ1, e1, p⟩
    unfold WS sIf
    rw [e1]
    simp only [Option.bind_some]
    split at p
    · rw [if_pos (by assumption)]; exact p
    · rw [if_neg (by assumption)]; exact p
def onNx (P : Fl → List Sl → Dk → Prop) (Q : List Sl → Dk → Prop) : Fl → List Sl → Dk → Prop
  | .nx, ρ, δ => Q ρ δ
  | f, ρ, δ => P f ρ δ
theorem onNx_nx {P Q} : onNx P Q .nx ρ δ = Q ρ δ := rfl
theorem onNx_rt {P Q d} : onNx P Q (.rt d) ρ δ = P (.rt d) ρ δ := rfl
theorem onNx_bk {P Q} : onNx P Q .bk ρ δ = P .bk ρ δ := rfl
theorem onNx_ct {P Q} : onNx P Q .ct ρ δ = P .ct ρ δ := rfl
theorem ws_seq {a b P} : WS (sSeq a b) ρ δ P ↔ WS a ρ δ (onNx P fun ρ1 δ1 => WS b ρ1 δ1 P) := by
  constructor
  · rintro ⟨f, ρ', δ', e, p⟩
    obtain ⟨⟨f1, ρ1, δ1⟩, e1, e⟩ := Option.bind_eq_some_iff.mp e
    refine ⟨f1, ρ1, δ1, e1, ?_⟩
    cases f1 with
    | nx => exact ⟨_, _, _, e, p⟩
    | rt d => cases e; exact p
    | bk => cases e; exact p
    | ct => cases e; exact p
  · rintro ⟨f, ρ1, δ1, e1, p⟩
    unfold WS sSeq
    rw [e1]
    simp only [Option.bind_some]
    cases f with
    | nx => exact p
    | rt d => exact ⟨_, _, _, rfl, p⟩
    | bk => exact ⟨_, _, _, rfl, p⟩
    | ct => exact ⟨_, _, _, rfl, p⟩
theorem ws_uni {i r P} : WS (sUni i r) ρ δ P ↔ WA r ρ δ fun ds δ1 => (ds.length ≤ sizeLine ∧ i < ρ.length) ∧ P .nx (ρ.set i (.uni ds)) δ1 := by
  constructor
  · rintro ⟨f, ρ', δ', e, p⟩
    obtain ⟨⟨x, δ1⟩, e1, e⟩ := Option.bind_eq_some_iff.mp e
    dsimp only at e
    split at e
    · rename_i hl; cases e; exact ⟨x, _, e1, hl, p⟩
    · cases e
  · rintro ⟨x, δ1, e1, hl, p⟩
    refine ⟨_, _, _, ?_, p⟩
    unfold sUni
    rw [e1]; simp only [Option.bind_some]; rw [if_pos hl]
theorem ws_app {i m P} : WS (sApp i m) ρ δ P ↔ ∃ ds, ρ[i]? = some (.uni ds) ∧ WE m ρ δ fun d δ1 => ds.length < sizeLine ∧ P .nx (ρ.set i (.uni (ds ++ [d]))) δ1 := by
  constructor
  · rintro ⟨f, ρ', δ', e, p⟩
    unfold sApp at e
    split at e
    · rename_i hi
      obtain ⟨⟨x, δ1⟩, e1, e⟩ := Option.bind_eq_some_iff.mp e
      dsimp only at e
      split at e
      · rename_i hl; cases e; exact ⟨_, hi, x, _, e1, hl, p⟩
      · cases e
    · cases e
  · rintro ⟨ds, hi, x, δ1, e1, hl, p⟩
    refine ⟨_, _, _, ?_, p⟩
    unfold sApp
    rw [hi]; simp only; rw [e1]; simp only [Option.bind_some]; rw [if_pos hl]
theorem ws_frz {i s P} : WS (sFrz i s) ρ δ P ↔ ∃ ds, ρ[i]? = some (.uni ds) ∧ WS s (ρ.set i (.val (.list ds))) δ P := by
  constructor
  · rintro ⟨f, ρ', δ', e, p⟩
    unfold sFrz at e
    split at e
    · rename_i hi; exact ⟨_, hi, _, _, _, e, p⟩
    · cases e
  · rintro ⟨ds, hi, p⟩
    unfold WS sFrz
    rw [hi]; exact p
theorem ws_aug {i f m P} : WS (sAug i f m) ρ δ P ↔ ∃ x, ρ[i]? = some (.val x) ∧ WE m ρ δ fun d δ1 => W1 (f x d) fun z => P .nx (ρ.set i (.val z)) δ1 := by
  constructor
  · rintro ⟨fl, ρ', δ', e, p⟩
    unfold sAug at e
    split at e
    · rename_i hi
      obtain ⟨⟨x, δ1⟩, e1, e⟩ := Option.bind_eq_some_iff.mp e
      obtain ⟨z, e3, e⟩ := Option.map_eq_some_iff.mp e
      cases e
      exact ⟨_, hi, x, _, e1, _, e3, p⟩
    · cases e
  · rintro ⟨x, hi, d, δ1, e1, z, e3, p⟩
    refine ⟨_, _, _, ?_, p⟩
    unfold sAug
    rw [hi]; simp only; rw [e1]; simp only [Option.bind_some]; rw [e3]; rfl
theorem ws_for {mi g s P} : WS (sFor mi g s) ρ δ P ↔ WA mi ρ δ fun ds δ1 => WS (forL g s ds) ρ δ1 P := by
  constructor
  · rintro ⟨f, ρ', δ', e, p⟩
    obtain ⟨⟨x, δ1⟩, e1, e⟩ := Option.bind_eq_some_iff.mp e
    exact ⟨x, δ1, e1, _, _, _, e, p⟩
  · rintro ⟨x, δ1, e1, f, ρ', δ', e, p⟩
    exact ⟨f, ρ', δ', by unfold sFor; rw [e1]; exact e, p⟩
/-- a for by an invariant of the items that are left -/
theorem ws_forI {g s P} (I : List D → List Sl → Dk → Prop) (hs : ∀ d ds ρ δ, I (d :: ds) ρ δ → WG g d ρ fun ρ1 => WS s ρ1 δ fun f ρ2 δ2 => match f with
    | .nx => I ds ρ2 δ2
    | .ct => I ds ρ2 δ2
    | .bk => P .nx ρ2 δ2
    | .rt d => P (.rt d) ρ2 δ2) (h0 : ∀ ρ δ, I [] ρ δ → P .nx ρ δ) : ∀ (ds : List D) (ρ : List Sl) (δ : Dk), I ds ρ δ → WS (forL g s ds) ρ δ P
  | [], ρ, δ, h => ⟨_, _, _, rfl, h0 _ _ h⟩
  | d :: ds, ρ, δ, h => by
    obtain ⟨ρ1, e1, f, ρ2, δ2, e2, p⟩ := hs d ds ρ δ h
    unfold WS forL
    rw [e1]; simp only [Option.bind_some]; rw [e2]; simp only [Option.bind_some]
    cases f with
    | nx => exact ws_forI I hs h0 ds ρ2 δ2 p
    | ct => exact ws_forI I hs h0 ds ρ2 δ2 p
    | bk => exact ⟨_, _, _, rfl, p⟩
    | rt d => exact ⟨_, _, _, rfl, p⟩
theorem wc_filter {α : Type} {g tt te} {ρ : List Sl} {P : List D → Dk → Prop} (enc : α → D) (p : α → Bool) (f : α → D) (xs : List α) (hs : ∀ x ∈ xs, WG g (enc x) ρ fun ρ2 => WT tt ρ2 δ fun b δ1 => (b = p x ∧ δ1 = δ) ∧ (p x = true → WE te ρ2 δ fun y δ2 => y = f x ∧ δ2 = δ)) (hp : P ((xs.filter p).map f) δ) : WC g tt te ρ (xs.map enc) δ P :=
  ⟨_, _, compL_filter enc p f xs fun x hx => by
    obtain ⟨ρ2, e1, b, δ1, e2, ⟨rfl, rfl⟩, h⟩ := hs x hx
    refine ⟨ρ2, e1, e2, fun hq => ?_⟩
    obtain ⟨y, δ2, e3, rfl, rfl⟩ := h hq
    exact e3, hp⟩
end
/-- defs -/
def onRt (P : D → Dk → Prop) : Fl → List Sl → Dk → Prop
  | .rt d, _, δ => P d δ
  | .nx, _, δ => P .none δ
  | _, _, _ => False
theorem onRt_rt {P d ρ δ} : onRt P (.rt d) ρ δ = P d δ := rfl
theorem onRt_nx {P ρ δ} : onRt P .nx ρ δ = P .none δ := rfl
theorem w1_fnP {n np : Nat} {s : MS} {ds : List D} {P : D → Prop} (h : WS s (slots n (ds.map .val)) ⟨[], 0, [], none⟩ (onRt fun d _ => P d)) (hl : ds.length = np ∧ np ≤ n := by exact ⟨rfl, by decide⟩) : W1 (fnP n np s ds) P := by
  obtain ⟨f, ρ', δ', e, p⟩ := h
  unfold W1 fnP
  rw [if_pos hl, e]
  cases f with
  | rt d => exact ⟨_, rfl, p⟩
  | nx => exact ⟨_, rfl, p⟩
  | bk => exact p.elim
  | ct => exact p.elim
theorem wk_fnK {n np : Nat} {s : MS} {ds : List D} {δ : Dk} {P : D → Dk → Prop} (h : WS s (slots n (.deck :: ds.map .val)) δ (onRt P)) (hl : ds.length + 1 = np ∧ np ≤ n := by exact ⟨rfl, by decide⟩) : WK (fnK n np s) ds δ P := by
  obtain ⟨f, ρ', δ', e, p⟩ := h
  unfold WK fnK
  rw [if_pos hl, e]
  cases f with
  | rt d => exact ⟨_, _, rfl, p⟩
  | nx => exact ⟨_, _, rfl, p⟩
  | bk => exact p.elim
  | ct => exact p.elim
theorem WS.rt {s ρ δ} {z : D} (h : WS s ρ δ fun f _ _ => f = .rt z) : ∃ ρ' δ', s ρ δ = some (.rt z, ρ', δ') := by
  obtain ⟨f, ρ', δ', e, rfl⟩ := h
  exact ⟨_, _, e⟩
section
variable {P : D → Prop} {i j : Int}
theorem w_add : W1 (addD (.int i) (.int j)) P ↔ P (.int (i + j)) := ⟨fun ⟨_, h, p⟩ => by cases h; exact p, fun p => ⟨_, rfl, p⟩⟩
theorem w_sub : W1 (subD (.int i) (.int j)) P ↔ P (.int (i - j)) := ⟨fun ⟨_, h, p⟩ => by cases h; exact p, fun p => ⟨_, rfl, p⟩⟩
theorem w_lt : W1 (ltD (.int i) (.int j)) P ↔ P (.bool (decide (i < j))) := ⟨fun ⟨_, h, p⟩ => by cases h; exact p, fun p => ⟨_, rfl, p⟩⟩
theorem w_le : W1 (leD (.int i) (.int j)) P ↔ P (.bool (decide (i ≤ j))) := ⟨fun ⟨_, h, p⟩ => by cases h; exact p, fun p => ⟨_, rfl, p⟩⟩
theorem w_gt : W1 (gtD (.int i) (.int j)) P ↔ P (.bool (decide (j < i))) := ⟨fun ⟨_, h, p⟩ => by cases h; exact p, fun p => ⟨_, rfl, p⟩⟩
theorem w_ge : W1 (geD (.int i) (.int j)) P ↔ P (.bool (decide (j ≤ i))) := ⟨fun ⟨_, h, p⟩ => by cases h; exact p, fun p => ⟨_, rfl, p⟩⟩
theorem w_eqI : W1 (eqD (.int i) (.int j)) P ↔ P (.bool (decide (i = j))) := by unfold W1; rw [eqD_int]; simp
theorem neD_int (i j : Int) : neD (.int i) (.int j) = some (.bool (!decide (i = j))) := by
  show some (PyData.bool (!(i == j))) = _
  rw [Bool.eq_iff_iff.mpr (by simp : (i == j) = true ↔ decide (i = j) = true)]
theorem w_neI : W1 (neD (.int i) (.int j)) P ↔ P (.bool (!decide (i = j))) := by unfold W1; rw [neD_int]; simp
theorem w_fdiv (h : 0 < j) (h' : j.natAbs.log2 < 9000) : W1 (fdivD (.int i) (.int j)) P ↔ P (.int (i / j)) := by unfold W1; rw [fdivD_int h h']; simp
theorem w_intB {b : Bool} : W1 (intD [.bool b]) P ↔ P (.int (if b then 1 else 0)) := by
  unfold W1 intD; simp
end
end PD
namespace PD
open PySem PySem.Spec PyProof.Rows L2 TL
local macro_rules | `(tactic| walk_at "wp") => `(tactic| simp only [ws_seq, ws_asg, ws_ret, ws_if, ws_next, ws_uni, ws_app, ws_frz, ws_aug, ws_for, onNx_nx, onNx_rt, onNx_bk, onNx_ct, onRt_rt, onRt_nx, we_var, we_c, we_bin, we_un, we_call, we_callK, wa_nil, wa_cons, we_tup, we_lst, wo_no, wo_some, we_sl, wt_b, wt_tru, wt_and, wt_or, wt_not, we_if, we_and, we_or, we_chain, we_get2, wp_nil, wp_cons, we_disp, wa_items, we_lc, wg_set, wg_tup, wgs_nil, wgs_cons, List.getElem?_cons_zero, List.getElem?_cons_succ, Option.some.injEq, Sl.val.injEq, Sl.uni.injEq, exists_eq_left', exists_eq_left, List.set_cons_zero, List.set_cons_succ, true_and, and_true, List.length_cons, List.length_nil, List.map_cons, List.map_nil, PyData.int.injEq, PyData.bool.injEq, PyData.tuple.injEq, PyData.list.injEq, PyData.str.injEq, w_add, w_sub, w_lt, w_le, w_gt, w_ge, w_eqI, w_neI, w_intB, itemsD, truD, slots, List.cons_append, List.nil_append, Nat.reduceAdd, Nat.reduceSub, List.replicate_succ, List.replicate_zero, ↓reduceIte, Bool.false_eq_true, Bool.not_true, Bool.not_false, decide_true, decide_false, if_true, if_false])
theorem ixN_in {n : Nat} {i : Int} (h0 : 0 ≤ i) (h1 : i < n) : ixN n i = some i.toNat := by
  unfold ixN
  rw [if_pos h0, if_pos h1]
theorem atI_in {α : Type} {xs : List α} {i : Int} (h0 : 0 ≤ i) (h1 : i < xs.length) : ∃ x, atI xs i = some x ∧ xs[i.toNat]? = some x ∧ x ∈ xs := by
  have hl : i.toNat < xs.length := by omega
  refine ⟨xs[i.toNat], ?_, List.getElem?_eq_getElem hl, List.getElem_mem hl⟩
  unfold atI
  rw [ixN_in h0 h1]
  exact List.getElem?_eq_getElem hl
theorem log_ok {many : Int} (h0 : 0 < many) (h1 : many ≤ 10000000000000) : many.natAbs.log2 < 9000 := by
  have h2 : many.natAbs < 2 ^ 64 := Nat.lt_of_le_of_lt (show many.natAbs ≤ 10000000000000 by omega) (by decide)
  exact Nat.lt_of_lt_of_le (PySem.Flt.log2_lt_of (by decide) h2) (by decide)
theorem w_ixL {ds : List D} {i : Int} {P : D → Prop} (h0 : 0 ≤ i) (h1 : i < ds.length) (p : ∀ d ∈ ds, P d) : W1 (subD' (.list ds) (.int i)) P := by
  obtain ⟨x, e, _, hx⟩ := atI_in h0 h1
  exact ⟨x, ix_lst ds i e, p x hx⟩
def ch (c : Nat) : Str := ⟨#[c]⟩
theorem tl_nil : tl (Str.ofString "") = [] := by decide +kernel
theorem sizeBig : (1000000 : Nat) ≤ sizeLine := by decide
end PD
namespace PD
open PySem PySem.Spec PyProof.Rows L2 TL
local macro_rules | `(tactic| walk_at "wp") => `(tactic| simp only [ws_seq, ws_asg, ws_ret, ws_if, ws_next, ws_uni, ws_app, ws_frz, ws_aug, ws_for, onNx_nx, onNx_rt, onNx_bk, onNx_ct, onRt_rt, onRt_nx, we_var, we_c, we_bin, we_un, we_call, we_callK, wa_nil, wa_cons, we_tup, we_lst, wo_no, wo_some, we_sl, wt_b, wt_tru, wt_and, wt_or, wt_not, we_if, we_and, we_or, we_chain, we_get2, wp_nil, wp_cons, we_disp, wa_items, we_lc, wg_set, wg_tup, wgs_nil, wgs_cons, List.getElem?_cons_zero, List.getElem?_cons_succ, Option.some.injEq, Sl.val.injEq, Sl.uni.injEq, exists_eq_left', exists_eq_left, List.set_cons_zero, List.set_cons_succ, true_and, and_true, List.length_cons, List.length_nil, List.map_cons, List.map_nil, PyData.int.injEq, PyData.bool.injEq, PyData.tuple.injEq, PyData.list.injEq, PyData.str.injEq, w_add, w_sub, w_lt, w_le, w_gt, w_ge, w_eqI, w_neI, w_intB, itemsD, truD, slots, List.cons_append, List.nil_append, Nat.reduceAdd, Nat.reduceSub, List.replicate_succ, List.replicate_zero, ↓reduceIte, Bool.false_eq_true, Bool.not_true, Bool.not_false, decide_true, decide_false, if_true, if_false])
def F (n least : Nat) : Str := ⟨(List.replicate (least - (numL n).length) 48 ++ numL n).toArray⟩
theorem w_lenL {x : List D} {P : D → Prop} : W1 (lenD [.list x]) P ↔ P (.int x.length) := by
  unfold W1 lenD
  simp only [Option.some.injEq, exists_eq_left']
theorem w_lenT {x : List D} {P : D → Prop} : W1 (lenD [.tuple x]) P ↔ P (.int x.length) := by
  unfold W1 lenD
  simp only [Option.some.injEq, exists_eq_left']
end PD
namespace PD
open PySem PySem.Spec PyProof.Rows L2
section
variable {P : Program} {w : World} {K : PySem.W.Frag} {mg : Str → Option Value} {base : Heap}
theorem okPD {x qual : Str} {st : Stmt} {f : Addr} {fd : FuncData} {N ps : List Str} {k : Nat} {s : MS} {dvs : List V} (F : FunD K x qual (defArgs st) (defBody st) (defScope st) dvs [] f fd) (S : FnScope N ps (defScope st)) (hn : ps.length ≤ N.length)
    (hb : ∀ (cdv : Value) (A : Around) (outer : List Env) (s0 : Shared) (H : Hp) (E : XK), Room k (A.deeper (envOfC qual (defScope st) s0.heap.objs.size f cdv)) → PDSs (cxOf CX0 P w K mg base N qual (defScope st) f cdv A outer s0 H E).nox (defBody st) s) :
    FnOk P w K mg base CX0 (k + 1) f fd ps (spP K (fnP N.length ps.length s)) := by
  refine F.ok S (fun vs H Q E h => ?_) (fun cdv A outer s0 H vs Q E hr h => ?_)
  · obtain ⟨M, ds, r, hM, R, hm, q⟩ := h
    unfold fnP at hm
    split at hm
    · rename_i hz; rw [R.length]; exact hz.1
    · cases hm
  · obtain ⟨M, ds, r, hM, R, hm, q⟩ := h
    unfold fnP at hm
    split at hm
    · rename_i hz
      obtain ⟨t, p1, s1⟩ := (hb cdv A outer s0 H E hr).ex
      refine ⟨t, p1.nox, ?_⟩
      obtain ⟨⟨r', δ'⟩, e1, e2⟩ := Option.map_eq_some_iff.mp hm
      cases e2
      generalize hres : s (slots N.length (ds.map Sl.val)) ⟨[], 0, [], none⟩ = res at e1
      have nun : ∀ (i : Nat) es, (slots N.length (ds.map Sl.val))[i]? ≠ some (.own es) := fun i es h => by
        rcases slots_get h with h | h
        · rw [List.getElem?_map] at h
          obtain ⟨d, _, h⟩ := Option.map_eq_some_iff.mp h
          cases h
        · cases h
      let Fr0 : Fr := ⟨M, none, H, 0⟩
      have eM : Mm Fr0 (start N vs) (slots N.length (ds.map Sl.val)) = M := by
        funext a
        refine propext ⟨fun z => ?_, .inl⟩
        rcases z with z | ⟨i, es, f1, _⟩
        · exact z
        · exact (nun i es f1).elim
      have G : Good K Fr0 (start N vs) H (slots N.length (ds.map Sl.val)) ⟨[], 0, [], none⟩ := by
        refine ⟨?_, fun i d h => ?_, fun i es h => (nun i es h).elim, fun i j es _ _ h => (nun i es h).elim, hM, fun i h => ?_, fun p h => (nomatch h), fun _ _ e _ => e⟩
        · unfold L2.start slots
          simp only [List.length_append, List.length_map, List.length_replicate, R.length]
        · rw [eM]
          rcases slots_get h with h | h
          · rw [List.getElem?_map] at h
            obtain ⟨d', h1, h2⟩ := Option.map_eq_some_iff.mp h
            cases h2
            obtain ⟨v, g1, g2⟩ := R.get' h1
            exact ⟨v, start_get g1, g2⟩
          · cases h
        · rcases slots_get h with h | h
          · rw [List.getElem?_map] at h
            obtain ⟨d', h1, h2⟩ := Option.map_eq_some_iff.mp h
            cases h2
          · cases h
      cases res with
      | none => cases e1
      | some p =>
        obtain ⟨fl, ρ1, δ1⟩ := p
        refine s1 Fr0 (start N vs) H _ ⟨[], 0, [], none⟩ fl ρ1 δ1 G hres _ fun σ' H' G' M' => ?_
        have an : Mv (Mm Fr0 σ' ρ1) H' M H' := fun a o e n => ⟨e, fun z => n (.inl z)⟩
        have kp : ∀ a o, H a = some o → H' a = some o := fun a o e => G'.fr a o e fun p h => nomatch h
        cases fl with
        | nx => cases e1; exact q _ _ kp .non
        | rt d => cases e1; exact fun v R1 => q _ _ kp (R1.mv an)
        | bk => cases e1
        | ct => cases e1
    · cases hm
end
def mCallD (f : List D → Option D) (dds : List D) (r : MA) : ME := mCall (fun xs => f (xs ++ dds)) r
section
variable {X : Cx} {a b e : Expr} {es : List Expr} {ma mb : ME} {r : MA} {p pos : Pos}
theorem pd_callPD {CX : CXT} {k : Nat} {f : Addr} {fd : FuncData} {ps : List Str} {m : List D → Option D} {x : Str} {E : XK} {dvs : List V} {dds : List D} (Fn : FnOk X.prog X.w X.K X.mg X.base CX k f fd ps (spP X.K m)) (hr : Room k X.A) (hm : X.mg x = some (.ref f)) (hk : PySem.W.keepIn X.K (.ref f) = true)
    (hb : ∃ ds, Vals dvs ds ∧ Binds X.K fd ps ds) (hd : ∀ M H, Reps X.K M H dvs dds) (hx : Passes CX X E)
    (ha : PDA X (e :: es) r) (hg : Gl X x := by rfl) (hdb : (x == ("__debug__" : Str)) = false := by decide) (he : starEach (e :: es) X.env = (false, eval e X.env) :: starEach es X.env := by rfl) (hpl : (backTo pos (starEach es X.env)).any (·.1) = false := by rfl) :
    PD X (.Call (.Name x p) (e :: es) [] pos) (mCallD m dds r) := by
  obtain ⟨t, h1, s1⟩ := ha.ex
  obtain ⟨ds, hv, hb⟩ := hb
  refine ⟨_, pe_call Fn hr hg hm hk hb hv hx h1 hdb he hpl, fun F σ H ρ δ d δ' G e Q q => ?_⟩
  obtain ⟨⟨xs, δ1⟩, e1, e⟩ := Option.bind_eq_some_iff.mp e
  obtain ⟨z, e3, e⟩ := Option.map_eq_some_iff.mp e
  cases e
  refine s1 F σ H ρ δ xs _ G e1 _ fun vs H1 G1 M1 R1 => ?_
  exact ⟨_, xs ++ dds, _, G1.mm, R1.append (hd _ _), e3, fun v H2 k R2 => q v H2 (G1.keep k) (M1.trans (Mv.same k)) R2⟩
end
end PD
namespace PD
open PySem PySem.Spec PyProof.Rows L2
abbrev Es := List (Key × D)
structure SideD (K : PySem.W.Frag) (F : Fr) (A : Addr) (r : Nat) (σ : L2.St) (H : Hp) (ρ : List Sl) (es : Es) : Prop where
  sl : σ[r]? = some (some (.ref A))
  ro : ρ[r]? = some .no
  ob : ∃ kvs, H A = some (.dK kvs) ∧ RepD K (Mm (F.plus A) σ ρ) H kvs es
structure EnvD (F : Fr) (A : Addr) : Prop where
  n0 : F.H0 A = none
  nd : ∀ p, F.dk = some p → A ≠ p.1 ∧ A ≠ p.2 ∧ A ≠ p.3
  nm : ¬ F.M0 A
abbrev MS2 := List Sl → Dk → Es → Option (Fl × List Sl × Dk × Es)
abbrev MT2 := List Sl → Dk → Es → Option (Bool × Dk)
theorem SideD.heap {K F A r σ H H' ρ es} (s : SideD K F A r σ H ρ es) (hA : ∀ o, H A = some o → H' A = some o) (mv : Mv (Mm (F.plus A) σ ρ) H (Mm (F.plus A) σ ρ) H') : SideD K F A r σ H' ρ es := by
  obtain ⟨kvs, h1, h2⟩ := s.ob
  exact ⟨s.sl, s.ro, kvs, hA _ h1, h2.mv mv⟩
section
variable {X : Cx} {e : Expr} {ma : ME} {pos : Pos}
/-- if -/
def if2 (c : MT2) (a b : MS2) : MS2 := fun ρ δ es => (c ρ δ es).bind fun p => if p.1 = true then a ρ p.2 es else b ρ p.2 es
theorem Good.drop {K F σ H ρ δ A} (E : EnvD F A) (G : Good K (F.plus A) σ H ρ δ) : Good K F σ H ρ δ ∧ Mv (Mm (F.plus A) σ ρ) H (Mm F σ ρ) H := by
  have an : Mv (Mm (F.plus A) σ ρ) H (Mm F σ ρ) H := fun a o e n => ⟨e, fun z => n (by rw [Mm_plus]; exact .inl z)⟩
  refine ⟨⟨G.len, fun i d e => ?_, fun i ds e => ?_, G.inj, fun a ha => G.m0 a (.inl ha), fun {k} i e => (G.dsl i e).mo rfl (fun a u t e1 n1 => ⟨e1, fun z => n1 (.inl z)⟩) (Nat.le_refl _), fun p e => ?_, G.fr⟩, an⟩
  · obtain ⟨v, e1, r⟩ := G.val i d e
    exact ⟨v, e1, r.mv an⟩
  · obtain ⟨a, xs, e1, e2, r, n⟩ := G.own i ds e
    exact ⟨a, xs, e1, e2, r.mv an, fun z => n.1 (.inl z), n.2⟩
  · obtain ⟨d1, d2, d4, d3⟩ := G.dck p e
    obtain ⟨n1, n2, n3⟩ := E.nd p e
    exact ⟨d1.resolve_right fun z => n1 z.symm, d2.resolve_right fun z => n2 z.symm, d4.resolve_right fun z => n3 z.symm, d3⟩
end
end PD
namespace PD
open PySem PySem.Spec PyProof.Rows L2
end PD
namespace PD
open PySem PySem.Spec PyProof.Rows L2
end PD
namespace PD
open PySem PySem.Spec PyProof.Rows L2
def putP (es : List (Key × D)) (k : Key) (d : D) : List (Key × D) := if hasK es k = true then es.map (fun e => if e.1 = k then (e.1, d) else e) else es ++ [(k, d)]
theorem RepD.any {K M H} (k : Key) : ∀ {ps es}, RepD K M H ps es → (ps.any fun kv => decide (kv.1 = k)) = hasK es k
  | _, _, .nil => rfl
  | _, _, .cons (k := k') r t => by
    have := RepD.any k t
    unfold hasK at this ⊢
    rw [List.any_cons, List.any_cons, this]
theorem RepD.rep {K M H v d} (k : Key) (r : Rep K M H v d) : ∀ {ps es}, RepD K M H ps es → RepD K M H (ps.map fun kv => if kv.1 = k then (kv.1, v) else kv) (es.map fun e => if e.1 = k then (e.1, d) else e)
  | _, _, .nil => .nil
  | _, _, .cons (k := k') r' t => by
    rw [List.map_cons, List.map_cons]
    dsimp only
    by_cases h : k' = k
    · rw [if_pos h, if_pos h]
      exact .cons r (RepD.rep k r t)
    · rw [if_neg h, if_neg h]
      exact .cons r' (RepD.rep k r t)
theorem RepD.put {K M H ps es v d} (R : RepD K M H ps es) (k : Key) (r : Rep K M H v d) : RepD K M H (putK ps k v) (putP es k d) := by
  unfold putK putP
  rw [R.any k]
  split
  · exact RepD.rep k r R
  · exact R.app r
end PD
namespace PD
open PySem PySem.Spec PyProof.Rows L2
theorem Reps.set {K M H v d} (r : Rep K M H v d) : ∀ {vs ds} (i : Nat), Reps K M H vs ds → Reps K M H (vs.set i v) (ds.set i d)
  | _, _, _, .nil => .nil
  | _, _, 0, .cons _ t => .cons r t
  | _, _, i + 1, .cons q t => .cons q (Reps.set r i t)
theorem Reps.erase {K M H} : ∀ {vs ds} (i : Nat), Reps K M H vs ds → Reps K M H (vs.eraseIdx i) (ds.eraseIdx i)
  | _, _, _, .nil => .nil
  | _, _, 0, .cons _ t => t
  | _, _, i + 1, .cons q t => .cons q (Reps.erase i t)
def mLenU (i : Nat) : ME := fun ρ δ => match ρ[i]? with
  | some (.own (.lst ds)) => some (.int ds.length, δ)
  | _ => none
def mIxU (i : Nat) (m : ME) : ME := fun ρ δ => match ρ[i]? with
  | some (.own (.lst ds)) => (m ρ δ).bind fun p => match p.1 with
    | .int j => (atI ds j).map fun d => (d, p.2)
    | _ => none
  | _ => none
def sSetU (i : Nat) (m mi : ME) : MS := fun ρ δ => match ρ[i]? with
  | some (.own (.lst ds)) => (m ρ δ).bind fun p => (mi ρ p.2).bind fun q => match q.1 with
    | .int j => (ixN ds.length j).map fun n => (.nx, ρ.set i (.uni (ds.set n p.1)), q.2)
    | _ => none
  | _ => none
/-- an expression that changes the slots -/
abbrev MX := List Sl → Dk → Option (D × List Sl × Dk)
def xPop (i : Nat) (m : ME) : MX := fun ρ δ => match ρ[i]? with
  | some (.own (.lst ds)) => (m ρ δ).bind fun p => match p.1 with
    | .int j => if ds.length ≤ sizeLine then (ixN ds.length j).bind fun n => (ds[n]?).map fun d => (d, ρ.set i (.uni (ds.eraseIdx n)), p.2) else none
    | _ => none
  | _ => none
def xBin (f : D → D → Option D) (m : ME) (mx : MX) : MX := fun ρ δ => (m ρ δ).bind fun p => (mx ρ p.2).bind fun q => (f p.1 q.1).map fun z => (z, q.2)
def sAsgX (mx : MX) (g : MG) : MS := fun ρ δ => (mx ρ δ).bind fun p => (g p.1 p.2.1).map fun ρ1 => (.nx, ρ1, p.2.2)
end PD
namespace PD
open PySem PySem.Spec PyProof.Rows L2
structure Hid (K : PySem.W.Frag) (F : Fr) (r : Nat) (σ : L2.St) (H : Hp) (ρ : List Sl) (δ : Dk) (A : Addr) (bs : List Addr) (dss : List (List D)) : Prop where
  g : Good K (F.plusS (A :: bs)) σ H ρ δ
  s : σ[r]? = some (some (.ref A))
  p : ρ[r]? = some .no
  a : H A = some (.lst (bs.map V.ref))
  l : Lists K (Mm (F.plusS (A :: bs)) σ ρ) H bs dss
  nd : (A :: bs).Nodup
  z : ∀ a ∈ A :: bs, F.H0 a = none
  m : ∀ a ∈ A :: bs, ¬ F.M0 a
  k : ∀ a ∈ A :: bs, ∀ p, F.dk = some p → a ≠ p.1 ∧ a ≠ p.2 ∧ a ≠ p.3
theorem Hid.pin {K F r σ H ρ δ A bs dss} (h : Hid K F r σ H ρ δ A bs dss) : Good K ((F.plusS (A :: bs)).pinS (A :: bs) H) σ H ρ δ := h.g.pinS fun a ha => .inr ha
theorem Hid.step {K F r σ H ρ δ A bs dss σ' H' ρ' δ'} (h : Hid K F r σ H ρ δ A bs dss) (G' : Good K ((F.plusS (A :: bs)).pinS (A :: bs) H) σ' H' ρ' δ') (M' : Mv (Mm (F.plusS (A :: bs)) σ ρ) H (Mm (F.plusS (A :: bs)) σ' ρ') H') (hs : σ'[r]? = σ[r]?) (hp : ρ'[r]? = ρ[r]?) : Hid K F r σ' H' ρ' δ' A bs dss := by
  have keep : ∀ a ∈ A :: bs, ∀ o, H a = some o → H' a = some o := fun a ha o ho => G'.fr a o ((if_pos ha).trans ho) (h.k a ha)
  refine ⟨Good.unpinS (fun a ha => .inr ha) h.z G', hs.trans h.s, hp.trans h.p, keep A (.head _) _ h.a, ⟨h.l.len, fun j b hb => ?_⟩, h.nd, h.z, h.m, h.k⟩
  obtain ⟨ds, xs, e1, e2, e3⟩ := h.l.at' j b hb
  exact ⟨ds, xs, e1, keep b (.tail _ (List.mem_of_getElem? hb)) _ e2, e3.mv M'⟩
abbrev ML := List Sl → Dk → List (List D) → Option (Fl × List Sl × Dk × List (List D))
def lGen (m : MS) : ML := fun ρ δ dss => (m ρ δ).map fun p => (p.1, p.2.1, p.2.2, dss)
def lSeq (a b : ML) : ML := fun ρ δ dss => (a ρ δ dss).bind fun p => match p.1 with
  | .nx => b p.2.1 p.2.2.1 p.2.2.2
  | f => some (f, p.2)
def lApp (m : ME) : ML := fun ρ δ dss => (m ρ δ).bind fun p => if dss.length < sizeLine then some (.nx, ρ, p.2, dss ++ [[p.1]]) else none
def lAt (mix me : ME) : ML := fun ρ δ dss => (mix ρ δ).bind fun p => match p.1 with
  | .int i => (ixN dss.length i).bind fun j => (me ρ p.2).bind fun q => if (dss.getD j []).length < sizeLine then some (.nx, ρ, q.2, dss.set j (dss.getD j [] ++ [q.1])) else none
  | _ => none
def forLL (g : MG) (s : ML) : List D → ML
  | [] => fun ρ δ dss => some (.nx, ρ, δ, dss)
  | d :: ds => fun ρ δ dss => (g d ρ).bind fun ρ1 => (s ρ1 δ dss).bind fun p => match p.1 with
    | .nx => forLL g s ds p.2.1 p.2.2.1 p.2.2.2
    | .ct => forLL g s ds p.2.1 p.2.2.1 p.2.2.2
    | .bk => some (.nx, p.2)
    | .rt d => some (.rt d, p.2)
def lFor (mi : MA) (g : MG) (s : ML) : ML := fun ρ δ dss => (mi ρ δ).bind fun p => forLL g s p.1 ρ p.2 dss
def sHid (r : Nat) (ml : ML) (rest : MS) : MS := fun ρ δ => if r < ρ.length then (ml (ρ.set r .no) δ []).bind fun p => match p.1 with
  | .nx => rest (p.2.1.set r (.val (.list (p.2.2.2.map .list)))) p.2.2.1
  | .rt d => some (.rt d, p.2.1, p.2.2.1)
  | _ => none
  else none
end PD
namespace PD
open PySem PySem.Spec PyProof.Rows L2
def WX (m : MX) (ρ : List Sl) (δ : Dk) (P : D → List Sl → Dk → Prop) : Prop := ∃ d ρ' δ', m ρ δ = some (d, ρ', δ') ∧ P d ρ' δ'
def WL (m : ML) (ρ : List Sl) (δ : Dk) (dss : List (List D)) (P : Fl → List Sl → Dk → List (List D) → Prop) : Prop := ∃ f ρ' δ' dss', m ρ δ dss = some (f, ρ', δ', dss') ∧ P f ρ' δ' dss'
section
variable {ρ : List Sl} {δ : Dk} {dss : List (List D)}
theorem we_lenU {i P} : WE (mLenU i) ρ δ P ↔ ∃ ds, ρ[i]? = some (.uni ds) ∧ P (.int ds.length) δ := by
  constructor
  · rintro ⟨d, δ', e, p⟩
    unfold mLenU at e
    split at e
    · rename_i ds h; cases e; exact ⟨ds, h, p⟩
    · cases e
  · rintro ⟨ds, h, p⟩
    exact ⟨_, _, by unfold mLenU; rw [h], p⟩
theorem we_ixU {i m P} : WE (mIxU i m) ρ δ P ↔ ∃ ds, ρ[i]? = some (.uni ds) ∧ WE m ρ δ fun j δ1 => ∃ k d, j = .int k ∧ atI ds k = some d ∧ P d δ1 := by
  constructor
  · rintro ⟨d, δ', e, p⟩
    unfold mIxU at e
    split at e
    · rename_i ds h
      obtain ⟨⟨x, δ1⟩, e1, e⟩ := Option.bind_eq_some_iff.mp e
      dsimp only at e
      split at e
      · rename_i k
        obtain ⟨y, e2, e⟩ := Option.map_eq_some_iff.mp e
        cases e
        exact ⟨ds, h, _, _, e1, k, _, rfl, e2, p⟩
      · cases e
    · cases e
  · rintro ⟨ds, h, x, δ1, e1, k, d, rfl, e2, p⟩
    exact ⟨d, δ1, by unfold mIxU; rw [h]; simp only [e1, Option.bind_some, e2, Option.map_some], p⟩
theorem ws_setU {i m mi P} : WS (sSetU i m mi) ρ δ P ↔ ∃ ds, ρ[i]? = some (.uni ds) ∧ WE m ρ δ fun x δ1 => WE mi ρ δ1 fun j δ2 => ∃ k n, j = .int k ∧ ixN ds.length k = some n ∧ P .nx (ρ.set i (.uni (ds.set n x))) δ2 := by
  constructor
  · rintro ⟨f, ρ', δ', e, p⟩
    unfold sSetU at e
    split at e
    · rename_i ds h
      obtain ⟨⟨x, δ1⟩, e1, e⟩ := Option.bind_eq_some_iff.mp e
      obtain ⟨⟨y, δ2⟩, e2, e⟩ := Option.bind_eq_some_iff.mp e
      dsimp only at e
      split at e
      · rename_i k
        obtain ⟨n, e3, e⟩ := Option.map_eq_some_iff.mp e
        cases e
        exact ⟨ds, h, _, _, e1, _, _, e2, k, n, rfl, e3, p⟩
      · cases e
    · cases e
  · rintro ⟨ds, h, x, δ1, e1, y, δ2, e2, k, n, rfl, e3, p⟩
    exact ⟨_, _, _, by unfold sSetU; rw [h]; simp only [e1, e2, Option.bind_some, e3, Option.map_some], p⟩
theorem ws_asgX {m g P} : WS (sAsgX m g) ρ δ P ↔ WX m ρ δ fun d ρ1 δ1 => WG g d ρ1 fun ρ2 => P .nx ρ2 δ1 := by
  constructor
  · rintro ⟨f, ρ', δ', e, p⟩
    obtain ⟨⟨x, ρ1, δ1⟩, e1, e⟩ := Option.bind_eq_some_iff.mp e
    obtain ⟨ρ2, e2, e⟩ := Option.map_eq_some_iff.mp e
    cases e
    exact ⟨x, _, _, e1, _, e2, p⟩
  · rintro ⟨x, ρ1, δ1, e1, ρ2, e2, p⟩
    exact ⟨_, _, _, by unfold sAsgX; simp only [e1, Option.bind_some, e2, Option.map_some], p⟩
theorem wx_pop {i m P} : WX (xPop i m) ρ δ P ↔ ∃ ds, ρ[i]? = some (.uni ds) ∧ WE m ρ δ fun j δ1 => ∃ k n d, j = .int k ∧ ds.length ≤ sizeLine ∧ ixN ds.length k = some n ∧ ds[n]? = some d ∧ P d (ρ.set i (.uni (ds.eraseIdx n))) δ1 := by
  constructor
  · rintro ⟨f, ρ', δ', e, p⟩
    unfold xPop at e
    split at e
    · rename_i ds h
      obtain ⟨⟨x, δ1⟩, e1, e⟩ := Option.bind_eq_some_iff.mp e
      dsimp only at e
      split at e
      · rename_i k
        split at e
        · rename_i hz
          obtain ⟨n, e2, e⟩ := Option.bind_eq_some_iff.mp e
          obtain ⟨d, e3, e⟩ := Option.map_eq_some_iff.mp e
          cases e
          exact ⟨ds, h, _, _, e1, k, n, _, rfl, hz, e2, e3, p⟩
        · cases e
      · cases e
    · cases e
  · rintro ⟨ds, h, x, δ1, e1, k, n, d, rfl, hz, e2, e3, p⟩
    exact ⟨_, _, _, by unfold xPop; rw [h]; simp only [e1, Option.bind_some, if_pos hz, e2, e3, Option.map_some], p⟩
theorem wx_bin {f m mx P} : WX (xBin f m mx) ρ δ P ↔ WE m ρ δ fun x δ1 => WX mx ρ δ1 fun y ρ2 δ2 => W1 (f x y) fun z => P z ρ2 δ2 := by
  constructor
  · rintro ⟨d, ρ', δ', e, p⟩
    obtain ⟨⟨x, δ1⟩, e1, e⟩ := Option.bind_eq_some_iff.mp e
    obtain ⟨⟨y, ρ2, δ2⟩, e2, e⟩ := Option.bind_eq_some_iff.mp e
    obtain ⟨z, e3, e⟩ := Option.map_eq_some_iff.mp e
    cases e
    exact ⟨x, _, e1, y, _, _, e2, _, e3, p⟩
  · rintro ⟨x, δ1, e1, y, ρ2, δ2, e2, z, e3, p⟩
    exact ⟨_, _, _, by unfold xBin; simp only [e1, e2, Option.bind_some, e3, Option.map_some], p⟩
theorem ws_hid {r ml m P} : WS (sHid r ml m) ρ δ P ↔ r < ρ.length ∧ WL ml (ρ.set r .no) δ [] fun f ρ1 δ1 dss1 => match f with
    | .nx => WS m (ρ1.set r (.val (.list (dss1.map .list)))) δ1 P
    | .rt d => P (.rt d) ρ1 δ1
    | _ => False := by
  constructor
  · rintro ⟨f, ρ', δ', e, p⟩
    unfold sHid at e
    split at e
    · rename_i hz
      obtain ⟨⟨g, ρ1, δ1, dss1⟩, e1, e⟩ := Option.bind_eq_some_iff.mp e
      refine ⟨hz, g, ρ1, δ1, dss1, e1, ?_⟩
      cases g with
      | nx => exact ⟨f, ρ', δ', e, p⟩
      | rt d => cases e; exact p
      | bk => cases e
      | ct => cases e
    · cases e
  · rintro ⟨hz, g, ρ1, δ1, dss1, e1, p⟩
    cases g with
    | nx =>
      obtain ⟨f, ρ', δ', e, p⟩ := p
      exact ⟨f, ρ', δ', by unfold sHid; rw [if_pos hz, e1]; exact e, p⟩
    | rt d => exact ⟨_, _, _, by unfold sHid; rw [if_pos hz, e1]; rfl, p⟩
    | bk => exact p.elim
    | ct => exact p.elim
theorem wl_gen {m P} : WL (lGen m) ρ δ dss P ↔ WS m ρ δ fun f ρ1 δ1 => P f ρ1 δ1 dss := by
  constructor
  · rintro ⟨f, ρ', δ', dss', e, p⟩
    obtain ⟨⟨g, ρ1, δ1⟩, e1, e⟩ := Option.map_eq_some_iff.mp e
    cases e
    exact ⟨_, _, _, e1, p⟩
  · rintro ⟨f, ρ1, δ1, e1, p⟩
    exact ⟨_, _, _, _, by unfold lGen; simp only [e1, Option.map_some], p⟩
theorem wl_seq {a b P} : WL (lSeq a b) ρ δ dss P ↔ WL a ρ δ dss fun f ρ1 δ1 dss1 => match f with
    | .nx => WL b ρ1 δ1 dss1 P
    | f => P f ρ1 δ1 dss1 := by
  constructor
  · rintro ⟨f, ρ', δ', dss', e, p⟩
    obtain ⟨⟨g, ρ1, δ1, dss1⟩, e1, e⟩ := Option.bind_eq_some_iff.mp e
    refine ⟨g, ρ1, δ1, dss1, e1, ?_⟩
    cases g with
    | nx => exact ⟨_, _, _, _, e, p⟩
    | _ => cases e; exact p
  · rintro ⟨g, ρ1, δ1, dss1, e1, p⟩
    cases g with
    | nx =>
      obtain ⟨f, ρ', δ', dss', e, p⟩ := p
      exact ⟨_, _, _, _, by unfold lSeq; rw [e1]; exact e, p⟩
    | _ => exact ⟨_, _, _, _, by unfold lSeq; rw [e1]; rfl, p⟩
theorem wl_app {m P} : WL (lApp m) ρ δ dss P ↔ WE m ρ δ fun x δ1 => dss.length < sizeLine ∧ P .nx ρ δ1 (dss ++ [[x]]) := by
  constructor
  · rintro ⟨f, ρ', δ', dss', e, p⟩
    obtain ⟨⟨x, δ1⟩, e1, e⟩ := Option.bind_eq_some_iff.mp e
    dsimp only at e
    split at e
    · rename_i hz; cases e; exact ⟨x, _, e1, hz, p⟩
    · cases e
  · rintro ⟨x, δ1, e1, hz, p⟩
    exact ⟨_, _, _, _, by unfold lApp; rw [e1]; exact if_pos hz, p⟩
theorem wl_at {mi m P} : WL (lAt mi m) ρ δ dss P ↔ WE mi ρ δ fun j δ1 => ∃ k n, j = .int k ∧ ixN dss.length k = some n ∧ WE m ρ δ1 fun x δ2 => (dss.getD n []).length < sizeLine ∧ P .nx ρ δ2 (dss.set n (dss.getD n [] ++ [x])) := by
  constructor
  · rintro ⟨f, ρ', δ', dss', e, p⟩
    obtain ⟨⟨j, δ1⟩, e1, e⟩ := Option.bind_eq_some_iff.mp e
    dsimp only at e
    split at e
    · rename_i k
      obtain ⟨n, e2, e⟩ := Option.bind_eq_some_iff.mp e
      obtain ⟨⟨x, δ2⟩, e3, e⟩ := Option.bind_eq_some_iff.mp e
      dsimp only at e
      split at e
      · rename_i hz; cases e; exact ⟨_, _, e1, k, n, rfl, e2, x, _, e3, hz, p⟩
      · cases e
    · cases e
  · rintro ⟨j, δ1, e1, k, n, rfl, e2, x, δ2, e3, hz, p⟩
    exact ⟨_, _, _, _, by unfold lAt; simp only [e1, Option.bind_some, e2, e3, if_pos hz], p⟩
theorem wl_for {mi g s P} : WL (lFor mi g s) ρ δ dss P ↔ WA mi ρ δ fun ds δ1 => WL (forLL g s ds) ρ δ1 dss P := by
  constructor
  · rintro ⟨f, ρ', δ', dss', e, p⟩
    obtain ⟨⟨ds, δ1⟩, e1, e⟩ := Option.bind_eq_some_iff.mp e
    exact ⟨_, _, e1, _, _, _, _, e, p⟩
  · rintro ⟨ds, δ1, e1, f, ρ', δ', dss', e, p⟩
    exact ⟨_, _, _, _, by unfold lFor; rw [e1]; exact e, p⟩
end
end PD
namespace PD
open PySem PySem.Spec PyProof.Rows L2
structure FnG (P : Program) (ω : World) (K : PySem.W.Frag) (μ : Str → Option Value) (B : Heap) (n : Nat) (g : Addr) (D : FuncData) (par : List Str) (π : Sp) : Prop where
  ln : ∀ xs H Q E, π xs H Q E → xs.length = par.length
  go : ∀ (A : Around) (out : List Env) (z : Shared) (H : Hp) (ar : Args) (ys : List Value) (xs : List V) (Q : VK) (E : XK), Room n A → A.guards = some [] → Env0 P ω K μ B A out z H → BindsTo z D ar (par.zip ys) → Vals xs ys → π xs H Q E →
    codeAny (model P ω) A (.call (.ref g) ar) (CR CX0 out P ω H z Q E) z
section
variable {P : Program} {ω : World} {K : PySem.W.Frag} {μ : Str → Option Value} {B : Heap}
theorem fn_okG {nm ql : Str} {st : Stmt} {g : Addr} {D : FuncData} {N par : List Str} {n : Nat} {π : Sp} (F : Fun K nm ql st g D) (S : FnScope N par (defScope st)) (hl : ∀ xs H Q E, π xs H Q E → xs.length = par.length)
    (hb : ∀ (cv : Value) (A : Around) (out : List Env) (z : Shared) (H : Hp) (xs : List V) (Q : VK) (E : XK), Room n (A.deeper (envOfC ql (defScope st) z.heap.objs.size g cv)) → A.guards = some [] → π xs H Q E →
      ∃ t, PSs (cxOf CX0 P ω K μ B N ql (defScope st) g cv A out z H E).nox (defBody st) t ∧ t { nx := fun _ H' => Q .non H', rt := Q } (start N xs) H) : FnG P ω K μ B (n + 1) g D par π := by
  obtain ⟨oc, od, kv, dc, pm, an, cv, ct, sl, rfl, lk, hc⟩ := F.ex
  constructor
  · exact hl
  · intro A out z H ar ys xs Q E room gd env bind vals hp
    have hn := hl xs H Q E hp
    have inK : K.In z.heap := env.mod.kin.keeps fun i u q => (env.bs i u q).1
    have nol : z.heap.NoLimit := env.mod.nolimit.keeps fun i u q => (env.bs i u q).1
    have kinds : ∀ q ∈ par.zip ys, (defScope st).names.lookup q.1 = some .local ∨ ((defScope st).names.lookup q.1 = some .cell ∧ ((cellsFrom (z.heap.objs.size + 1) (defScope st).names []).lookup q.1).isSome = true) := by
      rintro ⟨i, v⟩ hq
      cases S.par i (List.of_mem_zip hq).1 with
      | inl q => exact Or.inl q
      | inr q => exact Or.inr ⟨q, PySem.W.cellsFrom_some _ _ _ (Or.inl q)⟩
    apply codeAny_call_function room.depth (inK _ _ lk) rfl S.co S.gen rfl (PySem.W.codeRec_of inK hc)
    apply bind
    apply wpAny_newFunctionEnv_cells S.kind kinds
    intro ev hev z1 ic
    subst hev
    obtain ⟨t, ht, ht2⟩ := hb cv A out z H xs Q E (room.deeper _) gd hp
    have J : Inv (cxOf CX0 P ω K μ B N ql (defScope st) g cv A out z H E) [] (start N xs) H z1 := inv_start S room.hd env hn vals ic
    refine ⟨nol.keeps ic.toInCall.keep, codeAny_func (wpAny_mono (ht.nox.run [] z1 (start N xs) H _ J ht2) ?_ fun _ _ q => q)⟩
    intro fl z2 h2
    cases fl with
    | brk => obtain ⟨_, _, _, no⟩ := h2; exact no.elim
    | cont => obtain ⟨_, _, _, no⟩ := h2; exact no.elim
    | next => obtain ⟨_, H2, J2, q2⟩ := h2; exact ⟨.non, H2, J2.os, J2.bare, J2.base, J2.hok, rfl, q2⟩
    | ret u => obtain ⟨v2, _, H2, J2, r2, q2⟩ := h2; exact ⟨v2, H2, J2.os, J2.bare, J2.base, J2.hok, r2, q2⟩
end
end PD
namespace PD
open PySem PySem.Spec PyProof.Rows L2
/-- from an abstract heap that holds the script at most -/
theorem lawCore {P : Program} {ω : World} {K : PySem.W.Frag} {μ β : Str → Option Value} {n : Nat} {g i : Addr} {D : FuncData} {nm : Str} {π : Sp} {z : Shared} {vs : List Value} {H : Hp}
    (inK : K.In z.heap) (gl : z.heap.Ns mainGlobals μ) (bl : z.heap.Ns builtinsNs β) (bb : ∀ q : Str, q ≠ "__name__" → β q = bootBuiltins q) (nol : z.heap.NoLimit) (ng : z.gens = #[])
    (hi : z.heap.get? i = some { cls := .type "list", data := .seq vs.toArray }) (room : Room n callerA)
    (F : ∀ B : Heap, K.In B → B.Ns mainGlobals μ → FnG P ω K μ B n g D [nm] π) (bind : ∀ (t : Shared) (u : Value), BindsTo t D ⟨[u], []⟩ [(nm, u)])
    (hp : π [.ref i] H (fun v _ => v = .bl true) fun _ _ _ => False) (hO : Only H) (hok : HOk P ω H z.heap) (one : ∀ c, H c ≠ none → c = i) (own : H i ≠ none → K.lookup i = none) :
    codeAny (model P ω) callerA (.call (.ref g) ⟨[.ref i], []⟩) (fun r t => r = .ok (.ret (.bool true)) ∧ OldK z.heap t.heap ∧ t.os = z.os ∧ AllBare t.gens) z := by
  have hid : ∀ {c : Addr} {o : Obj}, z.heap.get? c = some o → H c = none → (hidT z.heap H).get? c = some o := fun e q => hidT_get e q
  have dictFree : ∀ {c : Addr} {o : Obj} {es : Array DictEntry} {ep : Nat}, z.heap.get? c = some o → o.data = .dict es ep → H c = none := by
    intro c o es ep e d
    by_cases q : H c = none
    · exact q
    · have ec := one c q
      subst ec
      rw [hi] at e
      cases e
      exact absurd d (by intro y; cases y)
  have nsOf : ∀ {c : Addr} {m : Str → Option Value}, z.heap.Ns c m → (hidT z.heap H).Ns c m := by
    rintro c m ⟨o, es, ep, e, d, r⟩
    exact ⟨o, es, ep, hid e (dictFree e d), d, r⟩
  have inB : K.In (hidT z.heap H) := by
    intro c o e
    refine hid (inK c o e) ?_
    by_cases q : H c = none
    · exact q
    · have ec := one c q
      subst ec
      rw [own q] at e
      cases e
  have M : Mod K μ (hidT z.heap H) := ⟨inB, nsOf gl, ⟨β, nsOf bl, bb⟩, by obtain ⟨m, a1, a2⟩ := nol; exact ⟨m, nsOf a1, a2⟩⟩
  have E : Env0 P ω K μ (hidT z.heap H) callerA [] z H := ⟨rfl, M, fun c o e => of_hidT e, Nat.le_of_eq (hidT_size _ _), trivial, by intro c hc; exact absurd (show c ∈ ([] : List Addr) from hc) (by simp), hok, .of_eq ng⟩
  refine codeAny_mono ((F _ inB (nsOf gl)).go callerA [] z H ⟨[.ref i], []⟩ [.ref i] [.ref i] _ _ room rfl E (bind z (.ref i)) (.cons rfl .nil) hp) ?_
  intro r t ht
  match r, ht with
  | .error e, ht => exact ht.elim
  | .ok .next, ht => exact ht.elim
  | .ok .brk, ht => exact ht.elim
  | .ok .cont, ht => exact ht.elim
  | .ok (.ret u), ht =>
    obtain ⟨v, H2, os, bare, un, hok2, rv, qv⟩ := ht
    have qv : v = .bl true := qv
    subst qv
    obtain rfl : u = Value.bool true := rv
    refine ⟨rfl, OldK.of_keep ?_, os, bare⟩
    intro c o e
    by_cases q : H c = none
    · exact un.keep c o e q (by intro y; exact absurd (show c ∈ ([] : List Addr) from y) (by simp)) (by simp)
    · rcases hO c with y | ⟨ob, xs, y⟩
      · exact absurd y q
      · obtain ⟨f1, _⟩ := hok c _ y
        obtain ⟨f2, _⟩ := hok2 c _ (un.frzs c ob _ y)
        rw [e] at f1
        cases f1
        exact f2
/-- the end: the law's def, called where no repr is under way -/
theorem walkG {l : PySem.W.OpenLaw} {m n : Nat} {q : Program} {loose : List Str} {XP : (Str → Option Value) → Heap → Prop} {YP : World → Heap → Prop} {d : DefRec} {K : Params → PySem.W.Frag} {π : World → Sp} {nm : Str}
    (h1 : l.most = some m) (h2 : m ≤ sizeLine) (h3 : d.params.defaults = []) (room : Room n callerA)
    (hY : ∀ (ω : World) (h : Heap), YP ω h → (K ω.params).In h)
    (F : ∀ (ω : World) (μ : Str → Option Value) (g : Addr) (h : Heap), (K ω.params).In h → h.Ns mainGlobals μ → μ d.name = some (.ref g) →
      ∃ D : FuncData, (∀ (t : Shared) (u : Value), BindsTo t D ⟨[u], []⟩ [(nm, u)]) ∧ ∀ B : Heap, (K ω.params).In B → B.Ns mainGlobals μ → FnG l.prog ω (K ω.params) μ B n g D [nm] (π ω))
    (hp : ∀ (ω : World) (H : Hp) (i : Addr) (ns : List Int), ns.length ≤ m → Only H → SqL (K ω.params) H i (ns.map V.int) → π ω [.ref i] H (fun v _ => v = .bl true) fun _ _ _ => False) :
    PySem.W.WalkO q loose XP YP l.row.toRowW d [] (fun f vs => PySem.call f vs) := by
  refine Att.attach_call h1 h3 ?_
  intro ω z0 z μ β g o pm cd doc i vs ns G Y ho hd hcd hmg hobj hints hlen hg
  have inK := hY ω _ Y
  obtain ⟨D, bind, F2⟩ := F ω μ g _ inK G.T.g hmg
  have hl : ns.length ≤ sizeLine := Nat.le_trans hlen h2
  have rv := vals_ints hints
  have lv := hints.length
  cases hk : (K ω.params).lookup i with
  | some ob =>
    have e := inK i ob hk
    rw [hobj] at e
    cases e
    have hS : SqL (K ω.params) (fun _ => none) i (ns.map V.int) := .inr ⟨_, vs.toArray, _, hk, rfl, rfl, rfl, by rw [List.size_toArray, lv]; exact hl, by simpa using rv⟩
    exact lawCore inK G.T.g G.T.b G.T.builtins G.T.nolimit hg hobj room F2 bind (hp ω _ i ns hlen (fun _ => .inl rfl) hS) (fun _ => .inl rfl) (fun c u y => nomatch (show (none : Option HO) = some u from y)) (fun c y => absurd rfl y) (fun y => absurd rfl y)
  | none =>
    let ob : Obj := { cls := .type "list", data := .seq vs.toArray }
    let H : Hp := fun c => if c = i then some (.frz ob (.lst (ns.map V.int))) else none
    have e1 : H i = some (.frz ob (.lst (ns.map V.int))) := if_pos rfl
    have e2 : ∀ c, c ≠ i → H c = none := fun c hc => if_neg hc
    have hO : Only H := fun c => by
      by_cases hc : c = i
      · rw [hc]; exact .inr ⟨_, _, e1⟩
      · exact .inl (e2 c hc)
    have hS : SqL (K ω.params) H i (ns.map V.int) := .inl (.inr ⟨ob, e1⟩)
    refine lawCore inK G.T.g G.T.b G.T.builtins G.T.nolimit hg hobj room F2 bind (hp ω H i ns hlen hO hS) hO (fun c u y => ?_) (fun c y => ?_) (fun _ => hk)
    · by_cases hc : c = i
      · subst hc
        rw [e1] at y
        cases y
        exact ⟨hobj, by rw [List.length_map]; exact hl, vs, _, rv, hobj⟩
      · rw [e2 c hc] at y; cases y
    · by_cases hc : c = i
      · exact hc
      · exact absurd (e2 c hc) y
end PD
namespace PD
open PySem PySem.Spec PyProof.Rows L2
mutual
theorem Rep.reads {X : Cx} {pins : List (Addr × Obj)} {σ : L2.St} {H : Hp} {s : Shared} {M : Addr → Prop} (I : Inv X pins σ H s) : ∀ {v : V} {d : D} {u : Value}, Rep X.K M H v d → d.hasDict = false → RelV v u → ∃ as, Reads s.heap u d as
  | _, _, _, .non, _, r => ⟨[], by cases r; exact .none⟩
  | _, _, _, .bl b, _, r => ⟨[], by cases r; exact .bool b⟩
  | _, _, _, .int i, _, r => ⟨[], by obtain ⟨t, rfl⟩ := r; exact .int i t⟩
  | _, _, _, .str x, _, r => ⟨[], by obtain ⟨t, rfl⟩ := r; exact .str x t⟩
  | _, _, _, .lst (a := a) (xs := xs) (ds := ds) ha rs, hd, r => by
    cases r
    obtain ⟨its, rv, ⟨o, n, e1, e2, _, e3⟩, _⟩ := I.list ha.sq
    obtain ⟨as, ra⟩ := Reps.reads I rs (by simpa [PyData.hasDict] using hd) rv
    exact ⟨_, .list e1 e2 e3 (by simpa using ra)⟩
  | _, _, _, .tup (a := a) (xs := xs) (ds := ds) ha rs, hd, r => by
    cases r
    obtain ⟨its, rv, ⟨o, e1, e2, n, e3⟩, _⟩ := I.tuple ha.sq
    obtain ⟨as, ra⟩ := Reps.reads I rs (by simpa [PyData.hasDict] using hd) rv
    exact ⟨_, .tuple e1 e2 e3 (by simpa using ra)⟩
  | _, _, _, .dic _ _ _, hd, _ => by simp [PyData.hasDict] at hd
theorem Reps.reads {X : Cx} {pins : List (Addr × Obj)} {σ : L2.St} {H : Hp} {s : Shared} {M : Addr → Prop} (I : Inv X pins σ H s) : ∀ {vs : List V} {ds : List D} {us : List Value}, Reps X.K M H vs ds → PyData.hasDictAll ds = false → Vals vs us → ∃ as, ReadsAll s.heap us ds as
  | _, _, _, .nil, _, .nil => ⟨[], .nil⟩
  | _, _, _, .cons r t, hd, .cons rv tv => by
    simp only [PyData.hasDictAll, Bool.or_eq_false_iff] at hd
    obtain ⟨as, ra⟩ := Rep.reads I r hd.1 rv
    obtain ⟨bs, rb⟩ := Reps.reads I t hd.2 tv
    exact ⟨_, .cons ra rb⟩
end
/-- what can be shown -/
structure ShowOk (d : D) : Prop where
  s : d.showable = true
  n : d.hasDict = false
  p : d.depth ≤ 60
  z : d.shown.length ≤ sizeLine
def rRepr (K : PySem.W.Frag) : List V → Hp → VK → Prop := fun xs H Q => ∃ (M : Addr → Prop) (d : D) (x : V), xs = [x] ∧ Rep K M H x d ∧ ShowOk d ∧ Q (.str d.shown) H
theorem call_reprD {X : Cx} (hg : X.A.guards = some []) (hu : X.A.units + 65 < cLine) : CallR X (.builtin "repr") (rRepr X.K) := by
  intro pins s σ H xs us Q I r h
  obtain ⟨M, d, x, rfl, rp, ok, q⟩ := h
  obtain ⟨u, rfl, rv⟩ := vals1 r
  have hq : ∀ (h' : Heap) (t : Tok) (tk : Nat), (∀ b o, s.heap.get? b = some o → h'.get? b = some o) → EP X pins σ Q (.str d.shown t) { s with heap := h', toks := tk } := fun h' t tk k => ⟨.str d.shown, H, I.kept k, ⟨t, rfl⟩, q⟩
  obtain ⟨as, rd⟩ := rp.reads I ok.n rv
  have byRef : ∀ a, u = .ref a → wpAny (model X.prog X.w) X.A (call (.builtin "repr") [u]) (EP X pins σ Q) X.xe s := fun a e => by
    subst e
    exact PySem.repr_of_reads' rd ok.s (PyData.noDict_hsm ok.n) hg (by have := ok.p; omega) (fun _ _ e => e) hq ok.z
  cases rp with
  | non =>
    cases rv
    exact PySem.P.repr_of_none (hq _ _ _ fun _ _ e => e)
  | bl b =>
    cases rv
    have := hq s.heap s.toks (s.toks + 1) fun _ _ e => e
    cases b <;> exact PySem.P.repr_of_bool this
  | int i =>
    obtain ⟨t, rfl⟩ := rv
    exact PySem.P.repr_of_int (of_decide_eq_true (by simpa [PyData.showable] using ok.s)) (hq _ _ _ fun _ _ e => e)
  | str y =>
    obtain ⟨t, rfl⟩ := rv
    exact PySem.P.repr_of_str (hq _ _ _ fun _ _ e => e) ok.z
  | lst ha rs => exact byRef _ rv
  | tup ha rs => exact byRef _ rv
  | dic a b c => exact byRef _ rv
instance (d : D) : Decidable (ShowOk d) := decidable_of_iff (d.showable = true ∧ d.hasDict = false ∧ d.depth ≤ 60 ∧ d.shown.length ≤ sizeLine) ⟨fun h => ⟨h.1, h.2.1, h.2.2.1, h.2.2.2⟩, fun h => ⟨h.1, h.2, h.3, h.4⟩⟩
def reprD : List D → Option D
  | [d] => if ShowOk d then some (.str d.shown) else none
  | _ => none
theorem cs_repr {K} : CallS K (rRepr K) reprD := fun F σ H ρ δ xs ds z G R hz Q q => by
  unfold reprD at hz
  split at hz
  · rename_i d
    split at hz
    · rename_i ok
      cases hz
      obtain ⟨v, rfl, r⟩ := reps1 R
      exact ⟨_, d, v, rfl, r, ok, q _ _ (fun _ _ e => e) (.str _)⟩
    · cases hz
  · cases hz
section
variable {X : Cx} {e : Expr} {es : List Expr} {r : MA} {p pos : Pos}
theorem pd_repr (hm : X.mg "repr" = none) (hgd : X.A.guards = some []) (hu : X.A.units + 65 < cLine) (ha : PDA X (e :: es) r) (hg : Gl X "repr" := by rfl) (he : starEach (e :: es) X.env = (false, eval e X.env) :: starEach es X.env := by rfl) (hpl : (backTo pos (starEach es X.env)).any (·.1) = false := by rfl) : PD X (.Call (.Name "repr" p) (e :: es) [] pos) (mCall reprD r) :=
  pd_cb (by decide +kernel) (call_reprD hgd hu) cs_repr ha hg hm (by decide) (by decide) he hpl
end
end PD
namespace PD
open PySem PySem.Spec PyProof.Rows L2
section
variable {P : Program} {w : World} {K : PySem.W.Frag} {mg : Str → Option Value} {base : Heap}
theorem okLawG {x qual : Str} {st : Stmt} {f : Addr} {fd : FuncData} {N : List Str} {k : Nat} {s : MS} {rest : List Stmt} {p1 p2 p3 p4 p5 : Pos} {xs xd xf : Str} {mk : List Int → Dk} (F : Fun K x qual st f fd) (S : FnScope N [xs] (defScope st)) (hl : 2 ≤ N.length)
    (hbd : defBody st = .Assign [.Name xd p1] (.Call (.Name xf p2) [.Name xs p3] [] p4) p5 :: rest)
    (h1 : ∀ (cdv : Value) (A : Around) (outer : List Env) (s0 : Shared) (H : Hp) (E : XK), Room k (A.deeper (envOfC qual (defScope st) s0.heap.objs.size f cdv)) → A.guards = some [] → PS (cxOf CX0 P w K mg base N qual (defScope st) f cdv A outer s0 H E).nox (.Assign [.Name xd p1] (.Call (.Name xf p2) [.Name xs p3] [] p4) p5) (tAsg (tCall (spDeck K mk) [] E0 (tCons (tVar 0) tNil)) (gName 1)))
    (h2 : ∀ (cdv : Value) (A : Around) (outer : List Env) (s0 : Shared) (H : Hp) (E : XK), Room k (A.deeper (envOfC qual (defScope st) s0.heap.objs.size f cdv)) → A.guards = some [] → PDSs (cxOf CX0 P w K mg base N qual (defScope st) f cdv A outer s0 H E).nox rest s)
    (hm : ∀ ns : List Int, ns.length ≤ 63 → ∃ ρ' δ', s (slots N.length [.no, .deck]) (mk ns) = some (.rt (.bool true), ρ', δ')) :
    FnG P w K mg base (k + 1) f fd [xs] (spLaw K) := by
  refine fn_okG F S (fun vs H Q E h => ?_) (fun cdv A outer s0 H vs Q E hr gd h => ?_)
  · obtain ⟨a, ns, rfl, _⟩ := h
    rfl
  · obtain ⟨a, ns, rfl, hS, hn, q⟩ := h
    obtain ⟨t, w2, s2⟩ := (h2 cdv A outer s0 H E hr gd).ex
    rw [hbd]
    refine ⟨_, pss_cons (h1 cdv A outer s0 H E hr gd) w2, ?_⟩
    refine ⟨.ref a, start_get rfl, a, ns, rfl, hS, fun p H' sm dk => ?_⟩
    obtain ⟨ρ', δ', hm⟩ := hm ns hn
    have hge : ∀ (i : Nat) x, (slots N.length [Sl.no, Sl.deck])[i]? = some x → x = .no ∨ (i = 1 ∧ x = .deck) := fun i x h => by
      rcases slots_get h with h | h
      · match i, h with
        | 0, h => cases h; exact .inl rfl
        | 1, h => cases h; exact .inr ⟨rfl, rfl⟩
        | i + 2, h => cases h
      · exact .inl h
    have G : Good K ⟨fun a => a = p.1 ∨ a = p.2 ∨ a = p.3, some p, H', 0⟩ ((L2.start N [.ref a]).set 1 (some (.ref p.1))) H' (slots N.length [.no, .deck]) (mk ns) := by
      refine ⟨?_, fun i d h => ?_, fun i ds h => ?_, fun i j ds _ _ h => ?_, fun b hb => ?_, fun i h => ?_, fun p' h => ?_, fun _ _ e _ => e⟩
      · unfold L2.start slots
        simp only [List.length_set, List.length_append, List.length_map, List.length_replicate, List.length_cons, List.length_nil]
        omega
      · rcases hge i _ h with h | ⟨_, h⟩ <;> cases h
      · rcases hge i _ h with h | ⟨_, h⟩ <;> cases h
      · rcases hge i _ h with h | ⟨_, h⟩ <;> cases h
      · rcases hb with rfl | rfl | rfl
        · rw [dk.one]; trivial
        · rw [dk.two]; trivial
        · rw [dk.tri]; trivial
      · rcases hge i _ h with h | ⟨rfl, hk⟩
        · cases h
        · cases hk
          exact ⟨p, rfl, List.getElem?_set_self (by unfold L2.start; simp only [List.length_append, List.length_map, List.length_replicate, List.length_cons, List.length_nil]; omega)⟩
      · cases h
        exact ⟨.inl rfl, .inr (.inl rfl), .inr (.inr rfl), dk⟩
    refine s2 _ _ H' _ _ _ ρ' δ' G hm _ fun σ' H2 G2 M2 v R => ?_
    cases R
    exact q H2
end
end PD
namespace PD
open PySem PySem.Spec PyProof.Rows L2
theorem cells_len (ns : List Int) : 0 < (cellsOf ns).length ∧ (cellsOf ns).length ≤ 64 := by
  unfold cellsOf
  cases ns with
  | nil => decide
  | cons n r =>
    rw [if_neg (by simp), List.append_nil, List.length_take, List.length_cons]
    omega
structure DkOk (b : Nat) (δ : Dk) : Prop where
  k0 : 0 ≤ δ.k
  k1 : δ.k ≤ b
  c0 : 0 < δ.cells.length
  r0 : δ.rests.length = δ.cells.length
  l0 : δ.lft = none
theorem DkOk.mono {b c : Nat} {δ : Dk} (h : DkOk b δ) (hb : b ≤ c) : DkOk c δ := ⟨h.k0, by have := h.k1; omega, h.c0, h.r0, h.l0⟩
theorem DkOk.start (ns : List Int) : DkOk 0 (deckOf ns) := ⟨Int.le_refl 0, Int.le_refl 0, (cells_len ns).1, by unfold deckOf; simp, rfl⟩
end PD
namespace PD
open PySem PySem.Spec PyProof.Rows L2
theorem atI_getD {xs : List Int} {i : Int} (h0 : 0 ≤ i) (h1 : i < xs.length) : atI (xs.map V.int) i = some (.int (xs.getD i.toNat 0)) := by
  obtain ⟨x, _, e2, _⟩ := atI_in h0 h1
  rw [atI_map]
  unfold atI
  rw [ixN_in h0 h1]
  show (xs[i.toNat]?).map V.int = _
  rw [e2, List.getD_eq_getElem?_getD, e2]
  rfl
theorem mod_small (c k : Int) {p a b : Int} (hp : 0 < p) (hp2 : p ≤ 4000000000) (ha : 0 ≤ a) (ha2 : a ≤ 1000000) (hb : 0 ≤ b) (hb2 : b ≤ 1000000) (h0 : 0 ≤ k) (h1 : k ≤ 1000000000) : (c % p + a * k + b).natAbs < 2 ^ 64 := by
  have a1 := Int.emod_nonneg c (show p ≠ 0 by omega)
  have a2 := Int.emod_lt_of_pos c hp
  have a3 : 0 ≤ a * k := Int.mul_nonneg ha h0
  have a4 : a * k ≤ 1000000 * 1000000000 := Int.mul_le_mul ha2 h1 h0 (by decide)
  rw [show (2 : Nat) ^ 64 = 18446744073709551616 by decide]
  omega
end PD
namespace PD
open PySem PySem.Spec PyProof.Rows L2
section
variable {X : Cx} {pos : Pos}
/-- x, y = e where e is a list -/
def gLstM (n : Nat) (m : MGs) : MG := fun d ρ => match d with
  | .list ds => if ds.length = n then m ds ρ else none
  | _ => none
theorem wg_lst {ρ : List Sl} {n : Nat} {m d P} : WG (gLstM n m) d ρ P ↔ ∃ ds, d = .list ds ∧ ds.length = n ∧ WGs m ds ρ P := by
  constructor
  · rintro ⟨ρ', e, p⟩
    unfold gLstM at e
    split at e
    · split at e
      · rename_i hl; exact ⟨_, rfl, hl, _, e, p⟩
      · cases e
    · cases e
  · rintro ⟨ds, rfl, hl, ρ', e, p⟩
    exact ⟨ρ', by unfold gLstM; simp only; rw [if_pos hl]; exact e, p⟩
end
end PD
namespace PD
open PySem PySem.Spec PyProof.Rows L2
def eqS : D → D → Option D := onS (fun _ _ => true) fun i j => .bool (decide (i = j))
def neS : D → D → Option D := onS (fun _ _ => true) fun i j => .bool (!decide (i = j))
section
variable {X : Cx}
theorem cs_neS : CmpS X .NotEq neS := ⟨fun x y H Q => ∃ i j, x = .str i ∧ y = .str j ∧ Q (.bl (!decide (i = j))) H, by
  intro pins s σ H x y v u Q I rx ry h
  obtain ⟨i, j, rfl, rfl, q⟩ := h
  refine op_ne pins s σ H _ _ v u Q I rx ry ⟨rfl, ?_⟩
  have e : decide (V.str i = V.str j) = decide (i = j) := by rw [Bool.eq_iff_iff]; simp
  rw [e]; exact q, ops_cmpS (c := fun i j => !decide (i = j))⟩
end
theorem w_eqS {x y : Str} {P : D → Prop} : W1 (eqS (.str x) (.str y)) P ↔ P (.bool (decide (x = y))) := ⟨fun ⟨_, h, p⟩ => by cases h; exact p, fun p => ⟨_, rfl, p⟩⟩
theorem w_neS {x y : Str} {P : D → Prop} : W1 (neS (.str x) (.str y)) P ↔ P (.bool (!decide (x = y))) := ⟨fun ⟨_, h, p⟩ => by cases h; exact p, fun p => ⟨_, rfl, p⟩⟩
/-- dicts that a law's odd things hold: {} and {'a': 1} -/
def oddE : List (D × D) → Bool
  | [] => true
  | [(.str x, .int i)] => decide (x = Str.ofString "a") && decide (i = 1)
  | _ => false
mutual
def shB : D → Nat
  | .none => 4
  | .bool _ => 5
  | .int i => (Str.ofString (toString i)).length
  | .str x => 10 * x.length + 2
  | .list ds => shBs ds + 3
  | .tuple ds => shBs ds + 3
  | .dict _ => 8
def shBs : List D → Nat
  | [] => 0
  | d :: ds => shB d + 2 + shBs ds
end
theorem textFrom_le : ∀ (ts : List Str) (k : Nat) (acc : Str), (textFrom k acc ts).length ≤ acc.length + (ts.map fun t => t.length + 2).sum
  | [], k, acc => by simp [textFrom]
  | t :: r, k, acc => by
    have ih := textFrom_le r (k + 1) (acc ++ (if k > 0 then ", " else "" : String) ++ t)
    have e : (acc ++ (if k > 0 then ", " else "" : String) ++ t).length ≤ acc.length + 2 + t.length := by
      rw [TL.len_tl, TL.tl_append, TL.tl_append, List.length_append, List.length_append, ← TL.len_tl, ← TL.len_tl, ← TL.len_tl]
      have : ((if k > 0 then ", " else "" : String) : Str).length ≤ 2 := by split <;> decide
      omega
    rw [List.map_cons, List.sum_cons]
    show (textFrom (k + 1) (acc ++ (if k > 0 then ", " else "" : String) ++ t) r).length ≤ _
    omega
theorem join_le (ts : List Str) : (Str.join ", " ts).length ≤ (ts.map fun t => t.length + 2).sum := by
  have := StrLaws.join_length_le (Str.ofString ", ") ts
  have e : (Str.ofString ", ").length = 2 := by decide
  rw [e] at this
  have e2 : ∀ l : List Str, (l.map fun t => t.length + 2).sum = (l.map (·.length)).sum + l.length * 2 := fun l => by
    induction l with
    | nil => rfl
    | cons a l ih => simp only [List.map_cons, List.sum_cons, List.length_cons, ih]; omega
  rw [e2]
  exact this
mutual
/-- texts of signs -/
def ascD : D → Bool
  | .str x => x.cps.toList.all (· < 16 ^ 8)
  | .list ds => ascDs ds
  | .tuple ds => ascDs ds
  | .dict es => oddE es
  | _ => true
def ascDs : List D → Bool
  | [] => true
  | d :: ds => ascD d && ascDs ds
end
mutual
theorem shown_le : ∀ d : D, ascD d = true → d.shown.length ≤ shB d
  | .none, _ => by simp only [PyData.shown, shB]; decide
  | .bool b, _ => by simp only [PyData.shown, shB]; cases b <;> decide
  | .int i, _ => by simp only [PyData.shown, shB]; exact Nat.le_refl _
  | .str x, h => by
    simp only [PyData.shown, shB]
    refine StrLaws.reprText_len x fun c hc => ?_
    have := List.all_eq_true.mp (show x.cps.toList.all (· < 16 ^ 8) = true by simpa [ascD] using h) c hc
    exact of_decide_eq_true this
  | .list ds, h => by
    have ih := showns_le ds (by simpa [ascD] using h)
    have := textFrom_le (PyData.shownAll ds) 0 (Str.ofString "[")
    simp only [PyData.shown, shB, listText]
    rw [TL.len_tl, TL.tl_append, List.length_append, ← TL.len_tl, ← TL.len_tl]
    have e1 : (Str.ofString "[").length = 1 := by decide
    have e2 : (Str.ofString "]").length = 1 := by decide
    rw [e1] at this
    rw [e2]
    omega
  | .tuple ds, h => by
    have ih := showns_le ds (by simpa [ascD] using h)
    have := join_le (PyData.shownAll ds)
    simp only [PyData.shown, shB, tupleText]
    rw [TL.len_tl, TL.tl_append, TL.tl_append, List.length_append, List.length_append, ← TL.len_tl, ← TL.len_tl, ← TL.len_tl]
    have e1 : (Str.ofString "(").length = 1 := by decide
    have e2 : ((if (PyData.shownAll ds).length == 1 then ",)" else ")" : String) : Str).length ≤ 2 := by split <;> decide
    rw [e1]
    omega
  | .dict es, h => by
    have h : oddE es = true := by simpa [ascD] using h
    unfold oddE at h
    split at h
    · decide +kernel
    · simp only [Bool.and_eq_true, decide_eq_true_eq] at h
      obtain ⟨rfl, rfl⟩ := h
      decide +kernel
    · cases h
theorem showns_le : ∀ ds : List D, ascDs ds = true → ((PyData.shownAll ds).map fun t => t.length + 2).sum ≤ shBs ds
  | [], _ => by simp [PyData.shownAll, shBs]
  | d :: ds, h => by
    simp only [ascDs, Bool.and_eq_true] at h
    have h1 := shown_le d h.1
    have h2 := showns_le ds h.2
    simp only [PyData.shownAll, shBs, List.map_cons, List.sum_cons]
    omega
end
end PD
namespace PD
open PySem PySem.Spec PyProof.Rows L2
section
variable {X : Cx} {a b e tg iter elt : Expr} {ma mb : ME} {mi : MA} {mx : MX} {pos : Pos} {scope : Scope} {own : List (Str × Nat)} {sl : List Nat} {mg : MG}
/-- an operator whose left side changes the slots -/
def xBinL (f : D → D → Option D) (mx : MX) (m : ME) : MX := fun ρ δ => (mx ρ δ).bind fun p => (m p.2.1 p.2.2).bind fun q => (f p.1 q.1).map fun z => (z, p.2.1, q.2)
def sRetX (mx : MX) : MS := fun ρ δ => (mx ρ δ).map fun p => (.rt p.1, p.2.1, p.2.2)
end
end PD
namespace PD
open PySem PySem.Spec PyProof.Rows L2
def signs (x : Str) : List Str := x.cps.toList.map fun c => ⟨#[c]⟩
section
variable {X : Cx} {e : Expr} {ma : ME} {pos : Pos}
def sUniS (i : Nat) (m : ME) : MS := fun ρ δ => (m ρ δ).bind fun p => match p.1 with
  | .str x => if x.length ≤ sizeLine ∧ i < ρ.length then some (.nx, ρ.set i (.uni ((signs x).map .str)), p.2) else none
  | _ => none
end
def mLcKeys (r : Nat) (vs : List Nat) (g : MG) (tt : MT) (te : ME) : ME := fun ρ δ => match ρ[r]? with
  | some (.val (.dict es)) => if noU ρ vs = true then (compL g tt te (wipeR ρ vs) (es.map (·.1)) δ).bind fun q => if q.1.length ≤ sizeLine then some (.list q.1, q.2) else none else none
  | _ => none
end PD
namespace PD
open PySem PySem.Spec PyProof.Rows L2
end PD
namespace PD
open PySem PySem.Spec PyProof.Rows L2
section
variable {ρ : List Sl} {δ : Dk}
theorem ws_retX {mx : MX} {P} : WS (sRetX mx) ρ δ P ↔ WX mx ρ δ fun d ρ1 δ1 => P (.rt d) ρ1 δ1 := by
  constructor
  · rintro ⟨f, ρ', δ', e, p⟩
    obtain ⟨⟨x, ρ1, δ1⟩, e1, e⟩ := Option.map_eq_some_iff.mp e
    cases e
    exact ⟨x, _, _, e1, p⟩
  · rintro ⟨x, ρ1, δ1, e1, p⟩
    exact ⟨_, _, _, by unfold sRetX; rw [e1]; rfl, p⟩
theorem wx_binL {f : D → D → Option D} {m : ME} {mx : MX} {P} : WX (xBinL f mx m) ρ δ P ↔ WX mx ρ δ fun x ρ1 δ1 => WE m ρ1 δ1 fun y δ2 => W1 (f x y) fun z => P z ρ1 δ2 := by
  constructor
  · rintro ⟨d, ρ', δ', e, p⟩
    obtain ⟨⟨x, ρ1, δ1⟩, e1, e⟩ := Option.bind_eq_some_iff.mp e
    obtain ⟨⟨y, δ2⟩, e2, e⟩ := Option.bind_eq_some_iff.mp e
    obtain ⟨z, e3, e⟩ := Option.map_eq_some_iff.mp e
    cases e
    exact ⟨x, _, _, e1, y, _, e2, _, e3, p⟩
  · rintro ⟨x, ρ1, δ1, e1, y, δ2, e2, z, e3, p⟩
    exact ⟨_, _, _, by unfold xBinL; simp only [e1, e2, Option.bind_some, e3, Option.map_some], p⟩
theorem ws_uniS {i : Nat} {m : ME} {P} : WS (sUniS i m) ρ δ P ↔ WE m ρ δ fun d δ1 => ∃ x, d = .str x ∧ (x.length ≤ sizeLine ∧ i < ρ.length) ∧ P .nx (ρ.set i (.uni ((signs x).map .str))) δ1 := by
  constructor
  · rintro ⟨f, ρ', δ', e, p⟩
    obtain ⟨⟨d, δ1⟩, e1, e⟩ := Option.bind_eq_some_iff.mp e
    dsimp only at e
    split at e
    · split at e
      · rename_i hz; cases e; exact ⟨_, _, e1, _, rfl, hz, p⟩
      · cases e
    · cases e
  · rintro ⟨d, δ1, e1, x, rfl, hz, p⟩
    exact ⟨_, _, _, by unfold sUniS; rw [e1]; exact if_pos hz, p⟩
end
/-- a comprehension over the keys of a dict -/
theorem we_lcKeys {ρ : List Sl} {δ : Dk} {r : Nat} {vs : List Nat} {g : MG} {tt : MT} {te : ME} {P} : WE (mLcKeys r vs g tt te) ρ δ P ↔ ∃ es, ρ[r]? = some (.val (.dict es)) ∧ noU ρ vs = true ∧ WC g tt te (wipeR ρ vs) (es.map (·.1)) δ fun out δ2 => out.length ≤ sizeLine ∧ P (.list out) δ2 := by
  constructor
  · rintro ⟨d, δ', e, p⟩
    unfold mLcKeys at e
    split at e
    · rename_i es hr
      split at e
      · rename_i hu
        obtain ⟨⟨out, δ2⟩, e2, e⟩ := Option.bind_eq_some_iff.mp e
        dsimp only at e
        split at e
        · rename_i hz; cases e; exact ⟨es, hr, hu, out, _, e2, hz, p⟩
        · cases e
      · cases e
    · cases e
  · rintro ⟨es, hr, hu, out, δ2, e2, hz, p⟩
    refine ⟨_, _, ?_, p⟩
    unfold mLcKeys
    rw [hr]
    simp only
    rw [if_pos hu, e2]
    simp only [Option.bind_some]
    rw [if_pos hz]
end PD
namespace PD
open PySem PySem.Spec PyProof.Rows L2
section
variable {P : Program} {w : World} {K : PySem.W.Frag} {mg : Str → Option Value} {base : Heap}
theorem noneK {x qual : Str} {st : Stmt} {f : Addr} {fd : FuncData} {N ps : List Str} (k : Nat) (F : Fun K x qual st f fd) (S : FnScope N ps (defScope st)) : FnOk P w K mg base CX0 (k + 1) f fd ps (spK K fun _ _ => none) := by
  refine F.ok S (fun vs H Q E h => ?_) (fun cdv A outer s0 H vs Q E hr h => ?_)
  · obtain ⟨M, p, ws, ds, δ, r, δ', rfl, hM, _, _, _, _, R, hm, q⟩ := h
    cases hm
  · obtain ⟨M, p, ws, ds, δ, r, δ', rfl, hM, m1, m2, m3, dk, R, hm, q⟩ := h
    cases hm
end
end PD
set_option maxHeartbeats 4000000
namespace PD
open PySem PySem.Spec PyProof.Rows L2
end PD
namespace PD
open PySem PySem.Spec PyProof.Rows L2
def keyIs : D → Key → Bool
  | .int i, .inl j => decide (i = j)
  | .str x, .inr y => decide (x = y)
  | _, _ => false
theorem keyIs_key (k j : Key) : keyIs (keyD k) j = decide (k = j) := by
  cases k <;> cases j <;> simp [keyD, keyIs]
def hasE (es : List (D × D)) (k : Key) : Bool := es.any fun e => keyIs e.1 k
def putE (es : List (D × D)) (k : Key) (d : D) : List (D × D) := if hasE es k = true then es.map (fun e => if keyIs e.1 k = true then (e.1, d) else e) else es ++ [(keyD k, d)]
def dropE (es : List (D × D)) (k : Key) : List (D × D) := es.filter fun e => !keyIs e.1 k
theorem RepK.has {K M H} (k : Key) : ∀ {ps es}, RepK K M H ps es → (ps.any fun kv => decide (kv.1 = k)) = hasE es k
  | _, _, .nil => rfl
  | _, _, .cons (k := k') r t => by
    have := RepK.has k t
    unfold hasE at this ⊢
    rw [List.any_cons, List.any_cons, this, keyIs_key]
theorem RepK.rep {K M H v d} (k : Key) (r : Rep K M H v d) : ∀ {ps es}, RepK K M H ps es → RepK K M H (ps.map fun kv => if kv.1 = k then (kv.1, v) else kv) (es.map fun e => if keyIs e.1 k = true then (e.1, d) else e)
  | _, _, .nil => .nil
  | _, _, .cons (k := k') r' t => by
    rw [List.map_cons, List.map_cons]
    dsimp only
    rw [keyIs_key]
    by_cases h : k' = k
    · rw [if_pos h, if_pos (decide_eq_true h)]
      exact .cons r (RepK.rep k r t)
    · rw [if_neg h, if_neg (by rw [decide_eq_false h]; exact Bool.false_ne_true)]
      exact .cons r' (RepK.rep k r t)
theorem RepK.app {K M H v d} (k : Key) (r : Rep K M H v d) : ∀ {ps es}, RepK K M H ps es → RepK K M H (ps ++ [(k, v)]) (es ++ [(keyD k, d)])
  | _, _, .nil => .cons r .nil
  | _, _, .cons r' t => .cons r' (RepK.app k r t)
theorem RepK.put {K M H ps es v d} (R : RepK K M H ps es) (k : Key) (r : Rep K M H v d) : RepK K M H (putK ps k v) (putE es k d) := by
  unfold putK putE
  rw [R.has k]
  split
  · exact RepK.rep k r R
  · exact R.app k r
theorem RepK.len {K M H} : ∀ {ps es}, RepK K M H ps es → ps.length = es.length
  | _, _, .nil => rfl
  | _, _, .cons _ t => by simp [RepK.len t]
end PD
namespace PD
open PySem PySem.Spec PyProof.Rows L2
theorem RepK.drop {K M H} (k : Key) : ∀ {ps es}, RepK K M H ps es → RepK K M H (dropK ps k) (dropE es k)
  | _, _, .nil => .nil
  | _, _, .cons (k := k') r t => by
    have ih := RepK.drop k t
    unfold dropK dropE at ih ⊢
    rw [List.filter_cons, List.filter_cons]
    dsimp only
    rw [keyIs_key]
    by_cases h : k' = k
    · rw [if_neg (by simpa using h), if_neg (by simp [h])]
      exact ih
    · rw [if_pos (by simpa using h), if_pos (by simp [h])]
      exact .cons r ih
end PD
namespace PD
open PySem PySem.Spec PyProof.Rows L2
end PD
namespace PD
open PySem PySem.Spec PyProof.Rows L2
end PD
namespace PD
open PySem PySem.Spec PyProof.Rows L2
end PD
namespace PD
open PySem PySem.Spec PyProof.Rows L2
section
variable {X : Cx} {e b : Expr} {ma mb : ME} {x y : Str} {p0 p1 p2 p3 tp tq pos : Pos}
theorem RepK.empty {K M H kvs es} (r : RepK K M H kvs es) : kvs.isEmpty = es.isEmpty := by cases r <;> rfl
end
end PD
namespace PD
open PySem PySem.Spec PyProof.Rows L2
end PD
namespace HT
open PySem PySem.Spec PyProof.Rows
section
variable {prog : Program} {w : World} {A : Around} {E : Value → Shared → Prop} {s : Shared}
theorem adjust_rev (n : Nat) : Builtin.Slice.sliceAdjust none none (-1) (n : Int) = ((n : Int) - 1, -1) := by
  unfold Builtin.Slice.sliceAdjust
  simp
theorem places_rev (n : Nat) : Builtin.Slice.slicePlaces ((n : Int) - 1) (-1) (-1) = n := by
  unfold Builtin.Slice.slicePlaces
  simp
  omega
theorem sliceApplied_rev {sl : Addr} {t : Tok} {n : Nat} {Q : Int × Int × Nat → Shared → Prop} (hs : s.heap.IsSliceOf sl .none .none (.int (-1) t))
    (h : Q ((n : Int) - 1, -1, n) s) : wpAny (model prog w) A (Builtin.Slice.sliceApplied (.ref sl) (pure (n : Int))) Q E s := by
  obtain ⟨os, hos, hcs, hds⟩ := id hs
  unfold Builtin.Slice.sliceApplied Builtin.Slice.sliceFields
  refine wpAny_bind (wpAny_bind (wpAny_field hos hds (x := .none) rfl (wpAny_bind (wpAny_field hos hds (x := .none) rfl (wpAny_bind (wpAny_field hos hds (x := .int (-1) t) rfl (wpAny_pure ?_)))))))
  refine wpAny_bind (slicePart_int ?_)
  show wpAny _ _ (if ((-1 : Int) == 0) = true then _ else _) _ _ s
  rw [if_neg (by decide)]
  refine wpAny_bind (slicePart_none (wpAny_bind (slicePart_none (wpAny_bind (wpAny_pure ?_)))))
  show wpAny _ _ (match Builtin.Slice.sliceAdjust none none (-1) (n : Int) with | (lo, hi) => pure (lo, (-1 : Int), Builtin.Slice.slicePlaces lo hi (-1))) _ _ s
  rw [adjust_rev n]
  show wpAny _ _ (pure ((n : Int) - 1, (-1 : Int), Builtin.Slice.slicePlaces ((n : Int) - 1) (-1) (-1))) _ _ s
  rw [places_rev]
  exact wpAny_pure h
theorem range_pick {α : Type} : ∀ (l : List α) (f : Nat → Option α), (∀ m, m < l.length → f m = l[m]?) → (List.range l.length).filterMap f = l
  | [], _, _ => rfl
  | x :: l, f, h => by
    rw [List.length_cons, List.range_succ_eq_map, List.filterMap_cons, h 0 (by simp), List.filterMap_map]
    show x :: (List.range l.length).filterMap (f ∘ Nat.succ) = x :: l
    rw [range_pick l (f ∘ Nat.succ) fun m hm => by
      show f (m + 1) = _
      rw [h (m + 1) (by rw [List.length_cons]; omega)]
      rfl]
theorem pick_rev (xs : Array Value) : ((List.range xs.size).filterMap fun (m : Nat) => xs[((xs.size : Int) - 1 + (m : Int) * (-1)).toNat]?).toArray = xs.toList.reverse.toArray := by
  congr 1
  have h := range_pick xs.toList.reverse (fun (m : Nat) => xs[((xs.size : Int) - 1 + (m : Int) * (-1)).toNat]?) fun m hm => by
    have hm : m < xs.size := by simpa using hm
    rw [List.getElem?_reverse (by simpa using hm), show ((xs.size : Int) - 1 + (m : Int) * (-1)).toNat = xs.size - 1 - m by omega]
    simp
  rw [List.length_reverse, Array.length_toList] at h
  exact h
theorem getItem_tuple_rev {t sl : Addr} {items : Array Value} {u : Tok} {Q : Value → Shared → Prop} (ht : IsTup s.heap t items) (hs : s.heap.IsSliceOf sl .none .none (.int (-1) u))
    (h : Q (.ref s.heap.objs.size) { s with heap := s.heap.push { cls := .type "tuple", data := .seq items.toList.reverse.toArray } })
    (hsz : items.size ≤ sizeLine) : wpAny (model prog w) A (getItem (.ref t) (.ref sl)) Q E s := by
  have htake : sizeOk (.seq items.toList.reverse.toArray) := by
    show items.toList.reverse.toArray.size ≤ sizeLine
    simpa using hsz
  obtain ⟨os, hos, hcs, hds⟩ := id hs
  have hTs : s.TypeIs (.ref sl) "slice" := ⟨os, hos, hcs⟩
  unfold getItem
  try with_reducible refine wpAny_holding ?_
  first | refine wpAny_bind (wpAny_pure ?_) | skip
  refine wpAny_bind (wpAny_sequenceKey ht.typeIs (by decide) ?_)
  refine wpAny_bind (wpAny_callSpecial?_slot (name := Str.ofString "__getitem__") ht.typeIs PyProof.Rows.slot_tuple_getitem
    (wpAny_call_entry PyProof.Rows.slot_tuple_getitem ht.typeIs entry_tuple_getitem ?_ (args_tuple_getitem _ _)))
  show wpAny _ _ (Builtin.Tuple.tupleItemsOf (.ref t) >>= _) _ _ s
  refine wpAny_bind (tupleItemsOf_ ht ?_)
  refine wpAny_bind (wpAny_typeOf hTs ?_)
  rw [if_pos (by decide)]
  refine wpAny_bind (sliceApplied_rev (n := items.size) hs ?_)
  have hno : ¬ (((items.size : Int) - 1 == 0 && (-1 : Int) == 1 && items.size == items.size) = true) := by
    intro q
    rw [Bool.and_eq_true, Bool.and_eq_true] at q
    exact absurd q.1.2 (by decide)
  show wpAny _ _ (if ((items.size : Int) - 1 == 0 && (-1 : Int) == 1 && items.size == items.size) = true then _ else _) _ _ s
  rw [if_neg hno, pick_rev]
  first
    | exact wpAny_bind (m := Builtin.Tuple.tupleExact _) (wpAny_newObj_type (wpAny_pure ⟨_, rfl, wpAny_pure h⟩) htake)
    | exact wpAny_bind (m := Builtin.Tuple.tupleExact _) (wpAny_newObj_type (wpAny_bind (wpAny_pure (wpAny_pure ⟨_, rfl, wpAny_pure h⟩))) htake)
    | exact wpAny_bind (wpAny_bind (m := Builtin.Tuple.tupleExact _) (wpAny_newObj_type (wpAny_pure (wpAny_pure ⟨_, rfl, wpAny_pure h⟩)) htake))
    | exact wpAny_bind (wpAny_bind (m := Builtin.Tuple.tupleExact _) (wpAny_newObj_type (wpAny_pure ⟨_, rfl, wpAny_pure h⟩) htake))
end
end HT
namespace PD
open PySem PySem.Spec PyProof.Rows L2
/-- x[::-1], a list or a tuple -/
def tRev (K : PySem.W.Frag) (te ts : TE) : TE := fun σ H Q => te σ H fun x H1 => ts σ H1 fun y H2 => y = .int (-1) ∧ ∃ (a : Addr) (xs : List V), x = .ref a ∧ ((SqT K H2 a xs ∧ ∀ p, H2 p = none → ∀ o : Obj, o.dict = none → Q (.ref p) (upd H2 p (tupH o xs.reverse))) ∨ (SqL K H2 a xs ∧ ∀ p, H2 p = none → Q (.ref p) (upd H2 p (.lst xs.reverse))))
theorem vals_reverse {xs : List V} {us : List Value} (r : Vals xs us) : Vals xs.reverse us.reverse := by
  induction r with
  | nil => exact .nil
  | cons a b k =>
    rw [List.reverse_cons, List.reverse_cons]
    exact Vals.append k (.cons a .nil)
theorem pick_revL (its : List Value) : slicePick its.toArray none none (some (-1)) = its.reverse.toArray := by
  have e : sliceRange ((its.length : Int) - 1) (-1) (-1) = (List.range its.length).map fun (k : Nat) => ((its.length : Int) - 1 + (-1) * (k : Int)).toNat := by
    unfold sliceRange
    have : (if (-1 : Int) > 0 then (if (its.length : Int) - 1 < -1 then (-1 - ((its.length : Int) - 1) + -1 - 1) / -1 else 0) else (if (its.length : Int) - 1 > -1 then ((its.length : Int) - 1 - -1 - -1 - 1) / (- -1) else 0)).toNat = its.length := by
      rw [if_neg (by decide)]
      split
      · rw [show (- -1 : Int) = 1 by decide, Int.ediv_one]; omega
      · omega
    dsimp only
    rw [this]
  show ((sliceRange ((its.toArray.size : Int) - 1) (-1) (-1)).filterMap (its.toArray[·]?)).toArray = _
  rw [List.size_toArray, e, List.filterMap_map]
  congr 1
  have h := HT.range_pick its.reverse ((fun x => its.toArray[x]?) ∘ fun (k : Nat) => ((its.length : Int) - 1 + (-1) * (k : Int)).toNat) fun m hm => by
    rw [List.length_reverse] at hm
    rw [List.getElem?_reverse hm]
    show its.toArray[((its.length : Int) - 1 + (-1) * (m : Int)).toNat]? = _
    rw [show ((its.length : Int) - 1 + (-1) * (m : Int)).toNat = its.length - 1 - m by omega]
    simp
  rw [List.length_reverse] at h
  exact h
theorem pe_rev {X : Cx} {e : Expr} {te ts : TE} {j : Nat} {p1 p2 p3 pos : Pos} (he : PE X e te) (hst : PE X (.UnaryOp .USub (.Constant (.int 1) j p1) p2) ts) : PE X (.Subscript e (.Slice none none (some (.UnaryOp .USub (.Constant (.int 1) j p1) p2)) p3) pos) (tRev X.K te ts) := by
  refine ⟨fun pins s σ H Q I h => ?_⟩
  refine Subscript_ (thn (he.run pins s σ H _ I h) fun v s1 ⟨x, H1, I1, r1, q1⟩ => ?_)
  refine wpAny_Slice ?_
  rw [evalPart_none]
  refine wpAny_pure (wpAny_pure ?_)
  rw [evalPart_some]
  refine thn (hst.run pins s1 σ H1 _ I1 q1) fun u s2 ⟨y, H2, I2, r2, ey, a, xs, ex, q2⟩ => ?_
  subst ey ex
  cases r1
  obtain ⟨t, rfl⟩ := r2
  have I3 : Inv X pins σ H2 { s2 with heap := s2.heap.push { cls := .type "slice", data := .fields #[.none, .none, .int (-1) t] } } := I2.kept (t' := s2.toks) fun b ob q => Heap.get?_push_of_some _ q
  have hsl : (s2.heap.push { cls := .type "slice", data := .fields #[.none, .none, .int (-1) t] }).IsSliceOf s2.heap.objs.size .none .none (.int (-1) t) := Heap.IsSliceOf.new ..
  rcases q2 with ⟨hT, q2⟩ | ⟨hL, q2⟩
  · obtain ⟨its, r, ht, hz⟩ := I3.tuple hT
    have hl : its.length = xs.length := r.length.symm
    refine tail_any (ops := [.ref a, .ref s2.heap.objs.size]) ht.typeIs PyProof.Rows.slot_tuple_getitem.lookup ?_ (by with_unfolding_all rfl)
    refine HT.getItem_tuple_rev ht hsl ?_ (by rw [List.size_toArray, hl]; exact hz)
    exact ⟨.ref _, _, I3.laid (t' := s2.toks) (fun b ob q => Heap.get?_push_of_some _ q) (Nat.le_refl _) (tupH_ok (n := 0) (by rw [List.length_reverse]; exact hz) (vals_reverse r) (Heap.get?_push_size _ rfl)), rfl, q2 _ (I3.hok.fresh (Nat.le_refl _)) _ rfl⟩
  · obtain ⟨its, r, ht, hz⟩ := I3.list hL
    have hl : its.length = xs.length := r.length.symm
    refine tail_any (ops := [.ref a, .ref s2.heap.objs.size]) ht.isList.typeIs slot_list_getitem.lookup ?_ (by with_unfolding_all rfl)
    refine wpAny_getItem_list_slice ht.isList hsl .none .none (.int (-1) t) (by decide) ?_ (by rw [List.size_toArray, hl]; exact hz)
    rw [pick_revL]
    refine ⟨.ref _, _, I3.laid (t' := s2.toks) (o := .lst xs.reverse) (fun b ob q => Heap.get?_push_of_some _ q) (Nat.le_refl _) ?_, rfl, q2 _ (I3.hok.fresh (Nat.le_refl _))⟩
    exact ⟨by rw [List.length_reverse]; exact hz, _, 0, vals_reverse r, Heap.get?_push_size _ rfl⟩
def revD : D → Option D
  | .tuple ds => some (.tuple ds.reverse)
  | .list ds => some (.list ds.reverse)
  | _ => none
theorem Reps.reverse {K M H} : ∀ {vs ds}, Reps K M H vs ds → Reps K M H vs.reverse ds.reverse
  | _, _, .nil => .nil
  | _, _, .cons r t => by
    rw [List.reverse_cons, List.reverse_cons]
    exact (Reps.reverse t).append (.cons r .nil)
theorem pd_rev {X : Cx} {e : Expr} {ma : ME} {j : Nat} {p1 p2 p3 pos : Pos} (ha : PD X e ma) : PD X (.Subscript e (.Slice none none (some (.UnaryOp .USub (.Constant (.int 1) j p1) p2)) p3) pos) (mUn revD ma) := by
  obtain ⟨t, h1, s1⟩ := ha.ex
  refine ⟨_, pe_rev h1 (pe_un un_neg pe_int), fun F σ H ρ δ d δ' G e Q q => ?_⟩
  obtain ⟨⟨x, δ1⟩, e1, e⟩ := Option.bind_eq_some_iff.mp e
  obtain ⟨z, e3, e⟩ := Option.map_eq_some_iff.mp e
  cases e
  refine s1 F σ H ρ δ x δ1 G e1 _ fun v H1 G1 M1 R1 => ?_
  refine ⟨1, rfl, rfl, ?_⟩
  dsimp only at e3
  unfold revD at e3
  split at e3
  · cases e3
    cases R1 with
    | tup ha r => exact ⟨_, _, rfl, .inl ⟨ha.sq, fun p hp o hd => q _ _ (G1.keep (upd_keeps hp)) (M1.trans (Mv.same (upd_keeps hp))) (.tup (.new (G1.mfree hp) upd_same hd) ((r.reverse).mv (Mv.same (upd_keeps hp))))⟩⟩
  · cases e3
    cases R1 with
    | lst ha r => exact ⟨_, _, rfl, .inr ⟨ha.sq, fun p hp => q _ _ (G1.keep (upd_keeps hp)) (M1.trans (Mv.same (upd_keeps hp))) (.lst ⟨G1.mfree hp, upd_same⟩ ((r.reverse).mv (Mv.same (upd_keeps hp))))⟩⟩
  · cases e3
end PD
namespace PD
open PySem PySem.Spec PyProof.Rows L2
mutual
def noL : D → Bool
  | .list _ => false
  | .tuple ds => noLs ds
  | .dict es => es.isEmpty
  | _ => true
def noLs : List D → Bool
  | [] => true
  | d :: ds => noL d && noLs ds
end
structure ShowOk2 (d : D) : Prop where
  s : d.showable = true
  n : noL d = true
  p : d.depth ≤ 60
  z : d.shown.length ≤ sizeLine
instance (d : D) : Decidable (ShowOk2 d) := decidable_of_iff (d.showable = true ∧ noL d = true ∧ d.depth ≤ 60 ∧ d.shown.length ≤ sizeLine) ⟨fun h => ⟨h.1, h.2.1, h.2.2.1, h.2.2.2⟩, fun h => ⟨h.1, h.2, h.3, h.4⟩⟩
end PD
namespace PD
open PySem PySem.Spec PyProof.Rows L2
end PD
set_option maxHeartbeats 4000000
namespace PD
open PySem PySem.Spec PyProof.Rows L2
end PD
namespace PD
open PySem PySem.Spec PyProof.Rows L2 TL
def repS (x : Str) (k : Nat) : Str := if x.length = 0 then x else ⟨(List.replicate k x.cps).foldl (· ++ ·) #[]⟩
def rMulS : R2 := fun x y H Q => ∃ a k, x = .str a ∧ y = .int k ∧ 2 ≤ k ∧ k ≤ 1000 ∧ a.length ≤ 1000 ∧ Q (.str (repS a k.toNat)) H
theorem foldl_app : ∀ (l : List (Array Nat)) (a : Array Nat), (l.foldl (· ++ ·) a).toList = a.toList ++ (l.map (·.toList)).flatten
  | [], a => by simp
  | x :: l, a => by rw [List.foldl_cons, foldl_app l]; simp
theorem tl_rep (x : Str) (k : Nat) : tl (repS x k) = (List.replicate k (tl x)).flatten := by
  unfold repS
  split
  · rename_i h
    rw [len_tl] at h
    have : tl x = [] := List.length_eq_zero_iff.mp h
    rw [this]
    symm
    simp
  · show ((List.replicate k x.cps).foldl (· ++ ·) #[]).toList = _
    rw [foldl_app]
    simp [tl]
theorem op_mulS {X : Cx} : OpR X (binaryOp .Mult) rMulS := by
  intro pins s σ H x y v u Q I rx ry h
  obtain ⟨a, k, rfl, rfl, h2, h3, h4, q⟩ := h
  obtain ⟨t, rfl⟩ := rx
  obtain ⟨t', rfl⟩ := ry
  have e1 : ¬ k < 1 := by omega
  have sb : (1000000 : Nat) ≤ sizeLine := by decide
  have hle : a.length * k.toNat ≤ 1000 * 1000 := Nat.mul_le_mul h4 (by omega)
  refine PySem.P.mul_str ?_ (fun _ _ => ?_) (fun _ _ => ?_) ?_
  · rw [decide_eq_false (show ¬ k < -(2 ^ 63 : Int) by omega), decide_eq_false (show ¬ k ≥ 2 ^ 63 by omega)]; rfl
  · have : (1000 : Int) ≤ (2 ^ 63 - 1) / k := by
      rw [Int.le_ediv_iff_mul_le (by omega)]
      omega
    omega
  · exact decide_eq_false (by omega)
  · rw [if_neg e1]
    have e2 : (k == 1) = false := by
      rw [beq_eq_false_iff_ne]; omega
    rw [e2, Bool.false_or]
    unfold repS at q
    by_cases h0 : a.length = 0
    · rw [if_pos h0] at q
      rw [if_pos (by rw [h0]; rfl)]
      exact ⟨.str a, H, I, ⟨_, rfl⟩, q⟩
    · rw [if_neg h0] at q
      rw [if_neg (by simpa using h0)]
      refine ⟨?_, ⟨.str _, H, I.tok _, ⟨_, rfl⟩, q⟩⟩
      have hl : (⟨(List.replicate k.toNat a.cps).foldl (· ++ ·) #[]⟩ : Str).length = a.length * k.toNat := by
        have e := tl_rep a k.toNat
        unfold repS at e
        rw [if_neg h0] at e
        rw [len_tl, e, List.length_flatten, List.map_replicate, List.sum_replicate_nat, len_tl, Nat.mul_comm]
      rw [hl]
      omega
def mulS : D → D → Option D
  | .str a, .int k => if 2 ≤ k ∧ k ≤ 1000 ∧ a.length ≤ 1000 then some (.str (repS a k.toNat)) else none
  | _, _ => none
theorem ops_mulS {K} : OpS K rMulS mulS := fun F σ H ρ δ x y d e z G rx ry hz Q q => by
  unfold mulS at hz
  split at hz
  · split at hz
    · rename_i h
      cases hz
      cases ry
      cases rx
      exact ⟨_, _, rfl, rfl, h.1, h.2.1, h.2.2, q _ _ (fun _ _ e => e) (.str _)⟩
    · cases hz
  · cases hz
theorem pd_mulS {X : Cx} {a b : Expr} {ma mb : ME} {pos : Pos} (ha : PD X a ma) (hb : PD X b mb) : PD X (.BinOp a .Mult b pos) (mBin mulS ma mb) := PD.op op_mulS ops_mulS ha hb
def upperD : D → Option D
  | .str x => if x.length ≤ 5592405 then some (.str (Txt.upper x)) else none
  | _ => none
theorem pd_upper {X : Cx} {a : Expr} {ma : ME} {pos apos : Pos} (ha : PD X a ma) (hbase : attributeBase a "upper" X.env (eval a X.env) = eval a X.env := by rfl) (hline : (apos.endLine == pos.line) = true := by rfl) :
    PD X (.Call (.Attribute a "upper" apos) [] [] pos) (mUn upperD ma) := by
  obtain ⟨ta, h1, s1⟩ := ha.ex
  refine ⟨_, pe_upper h1 hbase hline, fun F σ H ρ δ d δ' G e Q q => ?_⟩
  obtain ⟨⟨x, δ1⟩, e1, e⟩ := Option.bind_eq_some_iff.mp e
  obtain ⟨z, e3, e⟩ := Option.map_eq_some_iff.mp e
  cases e
  refine s1 F σ H ρ δ x δ1 G e1 _ fun v H1 G1 M1 R1 => ?_
  dsimp only at e3
  unfold upperD at e3
  split at e3
  · split at e3
    · rename_i hz
      cases e3
      cases R1
      exact ⟨⟨_, rfl⟩, _, rfl, rfl, hz, q _ _ G1 M1 (.str _)⟩
    · cases e3
  · cases e3
end PD
namespace PD
open PySem PySem.Spec PyProof.Rows L2 TL
def absO (i : Int) : Int := if i < 0 then -i else i
def deckO (ns : List Int) : Dk := ⟨(ns.take 63).map absO, 0, [], none⟩
theorem snd_deckO {K : PySem.W.Frag} {H : Hp} {a : Addr} {ns : List Int} {Q : VK} (hS : SqL K H a (ns.map V.int)) (q : ∀ (p : DP) H', Same H H' → DeckAt H' p (deckO ns) → Q (.ref p.1) H') :
    tRet (tLst (tCons (tLc (iList K (tSl (rSlL K) (tVar 0) tNoPart (tPart (tC (.int 63))))) (gName 1) tYes (tCB (fun xs H Q => ∃ i, xs = [.int i] ∧ Q (.int (if i < 0 then -i else i)) H) (tCons (tVar 1) tNil)) [1]) (tCons (tC (.int 0)) tNil))) { nx := fun _ H' => Q .non H', rt := Q } [some (.ref a), none] H := by
  refine ⟨.ref a, rfl, 63, rfl, a, _, rfl, hS, fun s hs => ?_⟩
  have e63 : cutV (ns.map V.int) none (some 63) = (ns.take 63).map V.int := by rw [cut63, List.map_take]
  rw [e63]
  have hSl : SqL K (upd H s (.lst ((ns.take 63).map V.int))) s ((ns.take 63).map V.int) := SqL.of upd_same
  refine ⟨s, rfl, ⟨_, hSl⟩, fun c hc => ?_⟩
  have ncs : s ≠ c := ne_of_none (show (upd H s (.lst ((ns.take 63).map V.int))) s = some _ from upd_same) hc
  refine lc_list (xs := (ns.take 63).map V.int) (fun i H2 => Same H H2 ∧ H2 s = some (.lst ((ns.take 63).map V.int)) ∧ H2 c = some (.lst ((((ns.take 63).map absO).take i).map V.int))) ⟨(same_new hs).trans (same_new hc), by rw [upd_ne ncs, upd_same], by rw [upd_same]; rfl⟩ (fun i H2 _ h => SqL.of h.2.1) (fun i x H2 hx h => ?_) (fun H2 h => ?_)
  · obtain ⟨h1, h2, h3⟩ := h
    rw [List.getElem?_map] at hx
    obtain ⟨n, hn, rfl⟩ := Option.map_eq_some_iff.mp hx
    refine ⟨rfl, ?_⟩
    simp only [tYes, ↓reduceIte]
    refine ⟨.int n, rfl, n, rfl, _, h3, ?_, fun b o e => ?_, ?_, ?_⟩
    · simp only [List.length_map, List.length_take]
      exact Nat.lt_of_le_of_lt (Nat.le_trans (Nat.min_le_right _ _) (Nat.min_le_left _ _)) (by decide)
    · have hb : b ≠ c := ne_of_none (same_new hs b o e) hc
      rw [upd_ne hb]
      exact h1 b o e
    · rw [upd_ne ncs]; exact h2
    · rw [upd_same, List.take_add_one (l := (ns.take 63).map absO) (i := i), List.getElem?_map, hn, List.map_append]
      rfl
  · obtain ⟨h1, h2, h3⟩ := h
    have ei : ((ns.take 63).map absO).take ((ns.take 63).map V.int).length = (ns.take 63).map absO := List.take_of_length_le (by simp)
    rw [ei] at h3
    refine ⟨by show 2 ≤ sizeLine; decide, fun d hd => ?_⟩
    have ncd : c ≠ d := ne_of_none h3 hd
    have nsd : s ≠ d := ne_of_none h2 hd
    exact q ⟨d, s, c, (ns.take 63).map V.int⟩ _ (h1.trans (same_new hd)) (DeckO.at ⟨nsd.symm, ncd.symm, ncs, upd_same, by show upd H2 d _ s = _; rw [upd_ne nsd]; exact h2, by show upd H2 d _ c = _; rw [upd_ne ncd]; exact h3⟩ rfl)
def drawOk (δ : Dk) (many : Int) : Bool := decide (0 < many ∧ many ≤ 10000000000000 ∧ δ.rests = [] ∧ 0 ≤ δ.k ∧ δ.k ≤ 900000000)
def atO (δ : Dk) : Nat := ((δ.k + 1) % (δ.cells.length : Int)).toNat
def mixO (c k : Int) : Int := (c % 2147483587 + 7919 * k + 1) ^ (5 : Int).toNat % 2147483647
def drawOf (δ : Dk) (many : Int) : Int × Dk :=
  let c := δ.cells.getD (atO δ) 0
  if (10 : Int) ^ (18 : Int).toNat ≤ c then (c % many, ⟨δ.cells.set (atO δ) (c / many), δ.k + 1, δ.rests, δ.lft⟩) else (mixO c (δ.k + 1) % many, ⟨δ.cells, δ.k + 1, δ.rests, δ.lft⟩)
def fDraw : List D → Dk → Option (D × Dk)
  | [.int many], δ => if drawOk δ many then some (.int (drawOf δ many).1, (drawOf δ many).2) else none
  | _, _ => none
structure DkO (b : Nat) (δ : Dk) : Prop where
  k0 : 0 ≤ δ.k
  k1 : δ.k ≤ b
  r0 : δ.rests = []
theorem DkO.mono {b c : Nat} {δ : Dk} (h : DkO b δ) (hb : b ≤ c) : DkO c δ := ⟨h.k0, by have := h.k1; omega, h.r0⟩
theorem DkO.start (ns : List Int) : DkO 0 (deckO ns) := ⟨Int.le_refl 0, Int.le_refl 0, rfl⟩
theorem draw_wp {b : Nat} {δ : Dk} {many : Int} {P : D → Dk → Prop} (h : DkO b δ) (hb : b ≤ 900000000) (h0 : 0 < many) (h1 : many ≤ 10000000000000) (p : ∀ r δ', 0 ≤ r → r < many → DkO (b + 1) δ' → P (.int r) δ') : WK fDraw [.int many] δ P := by
  have hk := h.k1
  have ok : drawOk δ many = true := decide_eq_true ⟨h0, h1, h.r0, h.k0, by omega⟩
  have rd : ∀ x : Int, 0 ≤ x % many ∧ x % many < many := fun x => ⟨Int.emod_nonneg _ (by omega), Int.emod_lt_of_pos _ h0⟩
  refine ⟨_, _, if_pos ok, ?_⟩
  have hk0 := h.k0
  unfold drawOf
  dsimp only
  split
  · exact p _ _ (rd _).1 (rd _).2 ⟨show 0 ≤ δ.k + 1 by omega, show δ.k + 1 ≤ ((b + 1 : Nat) : Int) by omega, h.r0⟩
  · exact p _ _ (rd _).1 (rd _).2 ⟨show 0 ≤ δ.k + 1 by omega, show δ.k + 1 ≤ ((b + 1 : Nat) : Int) by omega, h.r0⟩
end PD
namespace PD
open PySem PySem.Spec PyProof.Rows L2 TL
end PD
namespace PD
open PySem PySem.Spec PyProof.Rows L2
mutual
def noL3 : D → Bool
  | .list _ => false
  | .tuple ds => noL3s ds
  | .dict es => noL3k es
  | _ => true
def noL3s : List D → Bool
  | [] => true
  | d :: ds => noL3 d && noL3s ds
def noL3k : List (D × D) → Bool
  | [] => true
  | (_, d) :: es => noL3 d && noL3k es
end
structure ShowOk3 (d : D) : Prop where
  s : d.showable = true
  n : noL3 d = true
  p : d.depth ≤ 60
  z : d.shown.length ≤ sizeLine
instance (d : D) : Decidable (ShowOk3 d) := decidable_of_iff (d.showable = true ∧ noL3 d = true ∧ d.depth ≤ 60 ∧ d.shown.length ≤ sizeLine) ⟨fun h => ⟨h.1, h.2.1, h.2.2.1, h.2.2.2⟩, fun h => ⟨h.1, h.2, h.3, h.4⟩⟩
end PD
namespace PD
open PySem PySem.Spec PyProof.Rows L2
def rEqNil (K : PySem.W.Frag) : R2 := fun x y H Q => ∃ a b xs, x = .ref a ∧ y = .ref b ∧ SqL K H a xs ∧ SqL K H b [] ∧ Q (.bl xs.isEmpty) H
theorem op_eqNil {X : Cx} (hu : X.A.units < cLine) : OpR X (compareOp .Eq) (rEqNil X.K) := by
  intro pins s σ H x y v u Q I rx ry h
  obtain ⟨a, b, xs, rfl, rfl, ha, hb, q⟩ := h
  cases rx
  cases ry
  obtain ⟨its, r, pl, _⟩ := I.list ha
  obtain ⟨its2, r2, pl2, _⟩ := I.list hb
  cases r2
  cases xs with
  | nil =>
    cases r
    exact SeqAt.eq_listAt (e := fun _ => true) pl.isList pl2.isList rfl hu (fun j h1 => absurd h1 (by simp)) ⟨.bl true, H, I, rfl, q⟩
  | cons x xs =>
    cases r
    exact SeqAt.eq_list_lengthsAt pl.isList pl2.isList (by simp) hu ⟨.bl false, H, I, rfl, q⟩
def eqNilD : D → D → Option D
  | .list ds, .list [] => some (.bool ds.isEmpty)
  | _, _ => none
theorem ops_eqNil {K} : OpS K (rEqNil K) eqNilD := fun F σ H ρ δ x y d e z G rx ry hz Q q => by
  unfold eqNilD at hz
  split at hz
  · rename_i ds
    cases hz
    cases rx with
    | @lst a vs _ ha r1 =>
      cases ry with
      | @lst b ws _ hb r2 =>
        cases r2
        refine ⟨a, b, vs, rfl, rfl, ha.sq, hb.sq, ?_⟩
        have : vs.isEmpty = ds.isEmpty := by
          cases r1 <;> rfl
        rw [this]
        exact q _ _ (fun _ _ e => e) (.bl _)
  · cases hz
def rNeNil (K : PySem.W.Frag) : R2 := fun x y H Q => ∃ a b xs, x = .ref a ∧ y = .ref b ∧ SqL K H a xs ∧ SqL K H b [] ∧ Q (.bl !xs.isEmpty) H
theorem op_neNil {X : Cx} (hu : X.A.units < cLine) : OpR X (compareOp .NotEq) (rNeNil X.K) := by
  intro pins s σ H x y v u Q I rx ry h
  obtain ⟨a, b, xs, rfl, rfl, ha, hb, q⟩ := h
  cases rx
  cases ry
  obtain ⟨its, r, pl, _⟩ := I.list ha
  obtain ⟨its2, r2, pl2, _⟩ := I.list hb
  cases r2
  cases xs with
  | nil =>
    cases r
    exact SeqAt.RcNeAt.lists (e := fun _ => true) pl.isList pl2.isList rfl hu (fun j h1 => absurd h1 (by simp)) _ _ _ _ ⟨.bl false, H, I, rfl, q⟩
  | cons x xs =>
    cases r
    exact SeqAt.RcNeAt.lists_lengths pl.isList pl2.isList (by simp) hu _ _ _ _ ⟨.bl true, H, I, rfl, q⟩
def neNilD : D → D → Option D
  | .list ds, .list [] => some (.bool !ds.isEmpty)
  | _, _ => none
theorem ops_neNil {K} : OpS K (rNeNil K) neNilD := fun F σ H ρ δ x y d e z G rx ry hz Q q => by
  unfold neNilD at hz
  split at hz
  · rename_i ds
    cases hz
    cases rx with
    | @lst a vs _ ha r1 =>
      cases ry with
      | @lst b ws _ hb r2 =>
        cases r2
        refine ⟨a, b, vs, rfl, rfl, ha.sq, hb.sq, ?_⟩
        have : vs.isEmpty = ds.isEmpty := by
          cases r1 <;> rfl
        rw [this]
        exact q _ _ (fun _ _ e => e) (.bl _)
  · cases hz
theorem cs_neNil {X : Cx} (hu : X.A.units + 64 < cLine) : CmpS X .NotEq neNilD := ⟨_, op_neNil (by omega), ops_neNil⟩
theorem cs_eqNil {X : Cx} (hu : X.A.units + 64 < cLine) : CmpS X .Eq eqNilD := ⟨_, op_eqNil (by omega), ops_eqNil⟩
end PD
namespace PD
open PySem PySem.Spec PyProof.Rows L2
open AutoSeq1 (wpAny_loadPart')
theorem dct_no_str (l : Addr) (dt : Data) (da : Option Addr) (fl : Array (Option Value)) (y : Str) (u : Tok) :
    Meets (Builtin.«dict.__eq__» ⟨[.ref l, .str y u], []⟩) (fun _ R z => z.heap.get? l = some { cls := .type "dict", dict := da, data := dt, slots := fl } ∧ R (.ok (.ret .notImplemented)) z) :=
  .of_wp fun P w A R z q => by
    obtain ⟨a1, a2, a3, a4, a5⟩ := z
    obtain ⟨e1, q⟩ := q
    have f1 := F.sub_str_dict
    wp_walk using wpAny_loadPart' e1
    exact ⟨_, rfl, q⟩
theorem str_no_dct (y : Str) (u : Tok) (l : Addr) (es : Array DictEntry) (ep : Nat) (da : Option Addr) (fl : Array (Option Value)) :
    Meets (Builtin.«str.__eq__» ⟨[.str y u, .ref l], []⟩) (fun _ R z => z.heap.get? l = some { cls := .type "dict", dict := da, data := .dict es ep, slots := fl } ∧ R (.ok (.ret .notImplemented)) z) :=
  .of_wp fun P w A R z q => by
    obtain ⟨a1, a2, a3, a4, a5⟩ := z
    obtain ⟨e1, q⟩ := q
    wp_walk using wpAny_loadPart' e1, wpAny_load e1
    exact ⟨_, rfl, q⟩
theorem dct_str {A : Around} {s : Shared} {l : Addr} {o : Obj} {es : Array DictEntry} {ep : Nat} (y : Str) (u : Tok) (h1 : s.heap.get? l = some o) (h2 : o.cls = .type "dict") (h3 : o.data = .dict es ep) (hu : A.units < cLine) : SeqAt.RcAt A s (.ref l) (.str y u) false := fun P w E Q q => by
  obtain ⟨oc, od, ot, os⟩ := o
  simp only at h2 h3
  subst h2 h3
  refine SeqAt.rc_eq_decline_or (k := false) ⟨_, h1, rfl⟩ (typeIs_str s y u) (by decide) F.sub_str_dict F.slot_dict_eq F.slot_str_eq_refl
    (fun _ g => call_meets F.slot_dict_eq ⟨_, h1, rfl⟩ F.entry_dict_eq (F.args_dict_eq_2 _ _) (dct_no_str l _ od os y u) ⟨h1, g⟩) ?_ ?_ (.inr hu) q
  · exact fun _ g => call_meets F.slot_str_eq_refl (typeIs_str s y u) F.entry_str_eq (F.args_str_eq_2 _ _) (str_no_dct y u l es ep od os) ⟨h1, g⟩
  · exact fun _ g => wpAny_of_eq (rfl : isSame (.ref l) (.str y u) = pure false) g
def isS (y : Str) : D → Bool
  | .str x => x == y
  | _ => false
def rEqT (K : PySem.W.Frag) : R2 := fun x y H Q => ∃ (M : Addr → Prop) (d : D) (t : Str), Rep K M H x d ∧ y = .str t ∧ Q (.bl (isS t d)) H
theorem op_eqT {X : Cx} (hu : X.A.units < cLine) : OpR X (compareOp .Eq) (rEqT X.K) := by
  intro pins s σ H x y v u Q I rx ry h
  obtain ⟨M, d, t, rp, rfl, q⟩ := h
  obtain ⟨tk, rfl⟩ := ry
  have fin : SeqAt.RcAt X.A s v (.str t tk) (isS t d) → wpAny (model X.prog X.w) X.A (compareOp .Eq v (.str t tk)) (EP X pins σ Q) X.xe s := fun z => z _ _ _ _ ⟨.bl _, H, I, rfl, q⟩
  cases rp with
  | non => cases rx; exact fin (SeqAt.RcAt.none_str t tk)
  | bl b => cases rx; exact fin (SeqAt.RcAt.bool_str b t tk)
  | int i => obtain ⟨t1, rfl⟩ := rx; exact fin (SeqAt.RcAt.int_str i t1 t tk)
  | str x => obtain ⟨t1, rfl⟩ := rx; exact fin (SeqAt.RcAt.str_str x t1 t tk)
  | lst ha rs =>
    cases rx
    obtain ⟨its, rv, pl, _⟩ := I.list ha.sq
    exact fin (SeqAt.RcAt.list_str t tk pl.isList hu)
  | tup ha rs =>
    cases rx
    obtain ⟨its, rv, pl, _⟩ := I.tuple ha.sq
    exact fin (SeqAt.RcAt.tuple_str t tk pl hu)
  | dic n hr rk =>
    cases rx
    obtain ⟨_, hs, vs, kv, o, es, ep, h1, h2, h3, _⟩ := dk_rd I.hok hr
    exact fin (dct_str t tk h1 h2.1 h3 hu)
def eqT : D → D → Option D
  | d, .str t => some (.bool (isS t d))
  | _, _ => none
theorem ops_eqT {K} : OpS K (rEqT K) eqT := fun F σ H ρ δ x y d e z G rx ry hz Q q => by
  unfold eqT at hz
  split at hz
  · rename_i t
    cases hz
    cases ry
    exact ⟨_, d, t, rx, rfl, q _ _ (fun _ _ e => e) (.bl _)⟩
  · cases hz
theorem cs_eqT {X : Cx} (hu : X.A.units + 64 < cLine) : CmpS X .Eq eqT := ⟨_, op_eqT (by omega), ops_eqT⟩
theorem w_eqT {d : D} {t : Str} {P : D → Prop} : W1 (eqT d (.str t)) P ↔ P (.bool (isS t d)) := by unfold W1 eqT; simp
def rEqU (K : PySem.W.Frag) : R2 := fun x y H Q => ∃ (M : Addr → Prop) (ds : List D), Rep K M H x (.tuple ds) ∧ Rep K M H y (.tuple []) ∧ Q (.bl ds.isEmpty) H
theorem op_eqU {X : Cx} (hu : X.A.units < cLine) : OpR X (compareOp .Eq) (rEqU X.K) := by
  intro pins s σ H x y v u Q I rx ry h
  obtain ⟨M, ds, r1, r2, q⟩ := h
  cases r1 with
  | tup ha rs =>
    cases r2 with
    | tup hb rt =>
      cases rx
      cases ry
      cases rt
      obtain ⟨its, rv, pl, _⟩ := I.tuple ha.sq
      obtain ⟨its2, rv2, pl2, _⟩ := I.tuple hb.sq
      cases rv2
      refine SeqAt.eq_tupleAt (e := fun _ => true) pl pl2 hu (fun j _ h2 => absurd h2 (by simp)) ⟨.bl ds.isEmpty, H, I, ?_, q⟩
      cases rs <;> cases rv <;> simp [L2.RelV]
def eqU : D → D → Option D
  | .tuple ds, .tuple [] => some (.bool ds.isEmpty)
  | _, _ => none
theorem ops_eqU {K} : OpS K (rEqU K) eqU := fun F σ H ρ δ x y d e z G rx ry hz Q q => by
  unfold eqU at hz
  split at hz
  · rename_i ds
    cases hz
    exact ⟨_, ds, rx, ry, q _ _ (fun _ _ e => e) (.bl _)⟩
  · cases hz
theorem cs_eqU {X : Cx} (hu : X.A.units + 64 < cLine) : CmpS X .Eq eqU := ⟨_, op_eqU (by omega), ops_eqU⟩
end PD
namespace QS
open PySem PySem.Spec PyProof.Rows L2
def putK (acc : List Str) (x : Str) : List Str := if x ∈ acc then acc else x :: acc
def metK (xs : List Str) : List Str := xs.foldl putK []
theorem putK_len (acc : List Str) (x : Str) : (putK acc x).length = if decide (x ∈ acc) = true then acc.length else acc.length + 1 := by
  unfold putK
  by_cases h : x ∈ acc
  · rw [if_pos h, if_pos (decide_eq_true h)]
  · rw [if_neg h, if_neg (by simpa using h)]; rfl
theorem putK_mem (acc : List Str) (x k : Str) : decide (k ∈ putK acc x) = (decide (k ∈ acc) || decide (k = x)) := by
  unfold putK
  by_cases h : x ∈ acc
  · rw [if_pos h]
    by_cases e : k = x
    · subst e; simp [h]
    · simp [e]
  · rw [if_neg h]
    rw [Bool.eq_iff_iff]
    simp [List.mem_cons, or_comm]
/-- the set at a holds just these texts -/
def At (P : Program) (w : World) (h : Heap) (a : Addr) (l : List Str) : Prop := h.SetOf (PySem.strKind P w) a (fun k => decide (k ∈ l)) l.length
theorem At.keep {P : Program} {w : World} {h h' : Heap} {a : Addr} {l : List Str} (H : At P w h a l) (k : ∀ o, h.get? a = some o → h'.get? a = some o) : At P w h' a l := by
  obtain ⟨o, es, ep, t, ho, r⟩ := H
  exact ⟨o, es, ep, t, k o ho, r⟩
theorem At.put {P : Program} {w : World} {h : Heap} {a : Addr} {l : List Str} {x : Str} (H : h.SetOf (PySem.strKind P w) a (fun k => decide (k ∈ l) || decide (k = x)) (if decide (x ∈ l) = true then l.length else l.length + 1)) : At P w h a (putK l x) := by
  unfold At
  rw [putK_len]
  have e : (fun k => decide (k ∈ putK l x)) = fun k => decide (k ∈ l) || decide (k = x) := funext fun k => putK_mem l x k
  rw [e]
  exact H
section
variable {P : Program} {w : World} {A : Around} {R : Result → Shared → Prop} {it S : Addr} {fp wr : List Addr} {G : Array GenState → Array GenState → Prop} {n : Nat} {Pv : Nat → Value → Prop} {St : Nat → Shared → Prop}
/-- the loop that fills the set, from the place i on -/
theorem fill (W : WalksS P w A.in1 it fp wr G n Pv St) (hS : S ∉ fp) (xs : List Str) (hn : xs.length = n) (hb : n + 1 < scanBound) (hv : ∀ i v, Pv i v → ∃ x t, xs[i]? = some x ∧ v = .str x t) :
    ∀ (rest : List Str) (i : Nat) (acc : List Str) (s : Shared), xs.drop i = rest → i + rest.length = n → acc.length ≤ i → St i s → At P w s.heap S acc →
      (∀ s', Moved (S :: wr) G s s' → At P w s'.heap S (rest.foldl putK acc) → R (.ok (.ret .none)) s') →
      codeAny (model P w) A (.builtin "set.update.loop" ⟨[.ref S, .ref it], []⟩) R s := by
  have nw : S ∉ wr := fun h => hS (W.sub _ h)
  have up : ∀ b ∈ wr, b ∈ S :: wr := fun b hb => List.mem_cons_of_mem _ hb
  intro rest
  induction rest with
  | nil =>
    intro i acc s hr hi _ hst hA k
    have ei : i = n := by simpa using hi
    subst ei
    refine codeAny_builtin PyProof.Rows.F.entry_set_update_loop ?_
    rw [Around.under_plainId PyProof.Rows.F.plain_set_update_loop _]
    show wpAny _ A.in1 (pyNext (.ref it) >>= _) _ _ s
    exact wpAny_bind (W.done s _ _ hst fun s' mv => wpAny_pure (k s' (mv.mono up) (hA.keep fun o e => mv.heap S o nw e)))
  | cons x rest ih =>
    intro i acc s hr hi ha hst hA k
    have hi1 : i < n := by rw [List.length_cons] at hi; omega
    have hx : xs[i]? = some x := by
      have := congrArg List.head? hr
      rwa [List.head?_drop, List.head?_cons] at this
    have hd : xs.drop (i + 1) = rest := by
      rw [← List.drop_drop, hr] <;> rfl
    refine codeAny_builtin PyProof.Rows.F.entry_set_update_loop ?_
    rw [Around.under_plainId PyProof.Rows.F.plain_set_update_loop _]
    show wpAny _ A.in1 (pyNext (.ref it) >>= _) _ _ s
    refine wpAny_bind (W.item i s _ _ hi1 hst fun v s' hP hst' mv => ?_)
    obtain ⟨y, t, hy, rfl⟩ := hv i v hP
    have hxy : y = x := by
      have h2 : xs[i]? = some y := hy
      rw [hx] at h2
      cases h2
      rfl
    subst hxy
    have hA' := hA.keep (h' := s'.heap) fun o e => mv.heap S o nw e
    show wpAny _ A.in1 (holding [Value.str y t] (setAdd S (.str y t)) >>= _) _ _ s'
    refine wpAny_bind (wpAny_holding ?_)
    unfold setAdd
    refine wpAny_holding ?_
    have isy : (PySem.strKind P w).is y (.str y t) = true := PySem.strKind_is P w y t
    refine wpAny_bind ((PySem.strKind P w).pyHash (k := y) isy ?_)
    refine wpAny_setAddHashed_of (s := { s' with toks := s'.toks + 1 }) isy rfl hA' (by omega) fun h' same hA2 => ?_
    have stay : ∀ b o, b ≠ S → s'.heap.get? b = some o → h'.get? b = some o := fun b o hb e => by rw [same.2 b hb]; exact e
    refine wpAny_pure ⟨plainId_quiet PyProof.Rows.F.plain_set_update_loop _, ih (i + 1) (putK acc y) _ hd (by rw [List.length_cons] at hi; omega) ?_ (W.frame _ s' _ _ hst' (Nat.le_succ _) fun b hb o e => stay b o (fun z => hS (z ▸ hb)) e) (At.put hA2) fun s'' mv2 hA3 => ?_⟩
    · rw [putK_len]; split <;> omega
    · exact k s'' (Moved.trans W.gtrans ((mv.mono up).then_heap (Nat.le_succ _) fun b o hb e => stay b o (fun z => hb (by rw [z]; exact .head _)) e) mv2) hA3
end
end QS
namespace QS
open PySem PySem.Spec PyProof.Rows L2
section
variable {P : Program} {w : World} {A : Around} {E : Value → Shared → Prop} {s : Shared}
abbrev fresh (w : World) : Obj := { cls := .type "set", dict := none, data := .set #[] 0 (.fresh 0 0 (!w.params.followText "set-order")) }
theorem fresh_at {h : Heap} : At P w (h.push (fresh w)) h.objs.size [] :=
  ⟨_, #[], 0, _, Heap.get?_push_size _ rfl, ⟨rfl, rfl, rfl⟩, rfl, fun e he => by simp at he, fun k => by simp, by decide, by rfl, rfl⟩
/-- what the filled set's heap is -/
structure Done (P : Program) (w : World) (s : Shared) (l : List Str) (s' : Shared) : Prop where
  same : ∃ tk, s' = { s with heap := s'.heap, toks := tk }
  at_ : At P w s'.heap s.heap.objs.size l
  keep : ∀ b o, s.heap.get? b = some o → s'.heap.get? b = some o
/-- the new set is filled of v, and then holds l -/
def Fills (P : Program) (w : World) (A : Around) (E : Value → Shared → Prop) (s : Shared) (v : Value) (l : List Str) : Prop :=
  wpAny (model P w) A.in1.in1 (Builtin.«set.__init__» ⟨[.ref s.heap.objs.size, v], []⟩)
    (fun fin s' => match fin with
      | .done f => wants (fun r s2 => r = Value.none ∧ Done P w s l s2) E (.ok f) s'
      | .again c' => c'.quiet = true ∧ codeAny (model P w) A.in1 c' (wants (fun r s2 => r = Value.none ∧ Done P w s l s2) E) s')
    (fun e s' => wants (fun r s2 => r = Value.none ∧ Done P w s l s2) E (.error e) s')
    { s with heap := s.heap.push (fresh w) }
set_option maxHeartbeats 3200000 in
theorem set_by {v : Value} {l : List Str} {Q : Value → Shared → Prop}
    (hi : Fills P w A E s v l)
    (h : ∀ s2, Done P w s l s2 → Q (.ref s.heap.objs.size) s2) : wpAny (model P w) A (call (.type "set") [v]) Q E s := by
  obtain ⟨c, tl, hmro⟩ := PySem.F.called_set.mro
  have k1 := PySem.F.called_set.made
  have k2 := PySem.F.called_set.sub
  have k3 := PySem.F.called_set.notType
  have k4 := PySem.F.called_set.canCreate
  have k5 := PySem.F.typeCall_set_1 v
  refine wpAny_call (codeAny_of_tree ?_)
  show wpAny _ _ (callAny (.type "set") _) _ _ _
  refine wpAny_pure ⟨Code.quiet_builtin _ (by decide +kernel), codeAny_builtin PySem.F.entry_type_call ?_⟩
  rw [Around.under_plain (weight_type_call_type "set" [v] []) rfl]
  repeat (any_goals (first | assumption | wp_step))
  refine codeAny_mono (code_set_led1 v (E := E) (Q₁ := fun o s1 => o = .ref s.heap.objs.size ∧ s1 = { s with heap := s.heap.push (fresh w) }) ⟨rfl, rfl⟩) fun r s1 hr => ?_
  match r, hr with
  | .error e, hr => exact hr
  | .ok (.ret o), hr =>
    obtain ⟨rfl, rfl⟩ := hr
    have t1 : Shared.TypeIs { s with heap := s.heap.push (fresh w) } (.ref s.heap.objs.size) "set" := ⟨_, Heap.get?_push_size _ rfl, rfl⟩
    have k6 := PySem.F.called_set.init.lookup
    have k7 := PySem.F.called_set.init.bind (.ref s.heap.objs.size)
    repeat (any_goals (first | assumption | wp_step))
    refine codeAny_mono (codeAny_call_builtin (R := wants (fun r s2 => r = .none ∧ Done P w s l s2) E) PySem.F.called_set.init.plain PySem.F.entry_set_init (check_set_init_1 t1 ?_)) fun r2 s2 hr2 => ?_
    · exact hi
    · match r2, hr2 with
      | .error e, hr2 => exact hr2
      | .ok (.ret o), hr2 =>
        obtain ⟨rfl, hd⟩ := hr2
        repeat (any_goals (first | assumption | wp_step))
        exact h _ hd
theorem moved_done {x : Addr} {m : List Str} {o : Obj} {s' : Shared} (hx : x = s.heap.objs.size + 1) (mv : Moved [s.heap.objs.size, x] (fun a b => b = a) { s with heap := (s.heap.push (fresh w)).push o } s') (hA : At P w s'.heap s.heap.objs.size m) : Done P w s m s' := by
  obtain ⟨h', g2, d', tk', os'⟩ := s'
  have eg : g2 = s.gens := mv.gens
  have ed : d' = s.drawn := mv.drawn
  have eo : os' = s.os := mv.os
  subst eg; subst ed; subst eo
  refine ⟨⟨tk', rfl⟩, hA, fun b o e => ?_⟩
  have hb : b < s.heap.objs.size := Heap.lt_size e
  exact mv.heap b o (by simp only [List.mem_cons, List.not_mem_nil, or_false, not_or]; exact ⟨Nat.ne_of_lt hb, by rw [hx]; exact Nat.ne_of_lt (Nat.lt_succ_of_lt hb)⟩) (Heap.get?_push_of_some _ (Heap.get?_push_of_some _ e))
set_option maxHeartbeats 3200000 in
theorem fills_tup {l : Addr} {items : Array Value} (xs : List Str) (hh : A.handled = none) (hl : s.heap.IsTuple l items) (hi : StrsAre items.toList xs) (hb : xs.length + 1 < scanBound) : Fills P w A E s (.ref l) (metK xs) := by
  unfold Fills
  obtain ⟨⟨ocls, odict, odata, osl⟩, ho, hc, nl, hd⟩ := hl
  simp only at hc hd
  subst hc; subst hd
  have g0 : (s.heap.push (fresh w)).get? s.heap.objs.size = some (fresh w) := Heap.get?_push_size _ rfl
  have g1 : (s.heap.push (fresh w)).get? l = some { cls := .type "tuple", dict := odict, data := .seq items nl, slots := osl } := Heap.get?_push_of_some _ ho
  have g2 : (s.heap.push (fresh w)).IsTuple l items := ⟨_, g1, rfl, nl, rfl⟩
  have u1 := PySem.F.sub_tuple_set
  have u2 := PySem.F.sub_tuple_frozenset
  have u3 : (Value.type "tuple" == Value.type "dict") = false := by decide
  unfold Builtin.«set.__init__» noKeywords Builtin.Frozenset.updateFrom
  generalize hP : pyIter = PI
  wp_walk
  subst hP
  have ll : l < s.heap.objs.size := Heap.lt_size ho
  have e1 : (s.heap.push (fresh w)).objs.size = s.heap.objs.size + 1 := Heap.size_push ..
  have n1 : l ≠ (s.heap.push (fresh w)).objs.size := by rw [e1]; exact Nat.ne_of_lt (Nat.lt_succ_of_lt ll)
  have n2 : s.heap.objs.size ∉ [(s.heap.push (fresh w)).objs.size, l] := by
    rw [e1]
    simp only [List.mem_cons, List.not_mem_nil, or_false, not_or]
    exact ⟨Nat.ne_of_lt (Nat.lt_succ_self _), Nat.ne_of_gt ll⟩
  have sz : xs.length = items.size := by
    have := StrsAre.length hi
    rw [Array.length_toList] at this
    exact this.symm
  have hv : ∀ (i : Nat) (v : Value), items[i]? = some v → ∃ x t, xs[i]? = some x ∧ v = .str x t := fun i v hv => by
    have hlt : i < xs.length := by rw [sz]; exact (Array.getElem?_eq_some_iff.mp hv).1
    obtain ⟨t, e⟩ := SS.strs_at hi i v (by rw [Array.getElem?_toList]; exact hv)
    exact ⟨xs[i], t, List.getElem?_eq_getElem hlt, by rw [e, List.getD_eq_getElem?_getD, List.getElem?_eq_getElem hlt] <;> rfl⟩
  refine wpAny_pyIter_tuple g2 (wpAny_bind (wpAny_runValue ?_))
  refine fill ((Walks.tuple (by simp [hh]) _ l n1 items).toS) n2 xs sz (by rw [← sz]; exact hb) hv xs 0 [] _ rfl (by rw [Nat.zero_add]; exact sz) (Nat.le_refl 0) ⟨⟨_, Heap.get?_push_size _ rfl, rfl, rfl⟩, g2.push _⟩ (fresh_at.keep fun o e => Heap.get?_push_of_some _ e) fun s' mv hA => ?_
  exact wpAny_pure (wpAny_pure ⟨rfl, moved_done e1 mv hA⟩)
end
end QS
namespace QS
open PySem PySem.Spec PyProof.Rows L2
/-- len(set(e)), e a tuple of texts -/
def tSetN (K : PySem.W.Frag) (ta : TE) : TE := fun σ H Q => ta σ H fun x H1 => ∃ (l : Addr) (xs : List Str), x = .ref l ∧ SqT K H1 l (xs.map V.str) ∧ xs.length ≤ 3000 ∧ Q (.int ((metK xs).length : Nat)) H1
theorem met_len : ∀ (xs acc : List Str), (xs.foldl putK acc).length ≤ acc.length + xs.length
  | [], acc => by simp
  | x :: xs, acc => by
    rw [List.foldl_cons, List.length_cons]
    have h1 := met_len xs (putK acc x)
    have h2 := putK_len acc x
    have h3 : (putK acc x).length ≤ acc.length + 1 := by rw [h2]; split <;> omega
    omega
theorem pe_setN {X : Cx} {a : Expr} {ta : TE} {p p2 q pos : Pos} (hc : X.calm = true) (hg : Gl X "len") (hm : X.mg "len" = none) (hg2 : Gl X "set") (hm2 : X.mg "set" = none) (ha : PE X a ta)
    (na : starEach [a] X.env = (false, eval a X.env) :: starEach [] X.env := by rfl) : PE X (.Call (.Name "len" p) [.Call (.Name "set" p2) [a] [] q] [] pos) (tSetN X.K ta) := by
  refine ⟨fun pins s σ H Q I h => Call_ (ld_blt I hg hm boot_len (callWith_builtin1 (args_cons (Call_ (ld_blt I hg2 hm2 boot_set ?_)) rfl) rfl rfl))⟩
  refine callWith_type1 (args_cons (thn (ha.run pins s σ H _ I h) fun v s1 ⟨x, H1, I1, r1, q1⟩ => args_nil ?_) na) na rfl
  obtain ⟨l, xs, rfl, hq, hz, q1⟩ := q1
  cases r1
  obtain ⟨its, r, pl, _⟩ := I1.tuple hq
  have sb : (3000 : Nat) + 1 < scanBound := by decide
  refine set_by (l := metK xs) (fills_tup xs (I1.ok.hd hc) pl (by simpa using strsAre_of r) (by omega)) fun s2 D => args_nil ?_
  obtain ⟨tk, e2⟩ := D.same
  have I2 : Inv X pins σ H1 s2 := by rw [e2]; exact I1.kept D.keep
  obtain ⟨o, es, ep, t, ho, hex, hd, _, _, _, hf, hn⟩ := D.at_
  have hm3 : (metK xs).length ≤ 3000 := by
    have := met_len xs []
    rw [List.length_nil, Nat.zero_add] at this
    exact Nat.le_trans this hz
  exact call_len_set ho hex hd hf (by rw [hn]; omega) ⟨.int ((metK xs).length : Nat), H1, I2.tok _, ⟨_, by rw [hn]⟩, q1⟩
end QS
namespace PD
open PySem PySem.Spec PyProof.Rows L2 TL
end PD
namespace PD
open PySem PySem.Spec PyProof.Rows L2 TL
def pairsD (xs ys : List D) : List D := List.zipWith (fun x y => PyData.tuple [x, y]) xs ys
def mZip (ma mb : ME) : MA := fun ρ δ => (ma ρ δ).bind fun p => (mb ρ p.2).bind fun q => match p.1, q.1 with
  | .list xs, .list ys => if xs.all objF = true then some (pairsD xs ys, q.2) else none
  | .tuple xs, .tuple ys => if xs.all objF = true then some (pairsD xs ys, q.2) else none
  | _, _ => none
theorem wa_zip {ρ : List Sl} {δ : Dk} {ma mb : ME} {P : List D → Dk → Prop} : WA (mZip ma mb) ρ δ P ↔ WE ma ρ δ fun x δ1 => WE mb ρ δ1 fun y δ2 => ∃ xs ys, ((x = .list xs ∧ y = .list ys) ∨ (x = .tuple xs ∧ y = .tuple ys)) ∧ xs.all objF = true ∧ P (pairsD xs ys) δ2 := by
  constructor
  · rintro ⟨d, δ', e, p⟩
    obtain ⟨⟨x, δ1⟩, e1, e⟩ := Option.bind_eq_some_iff.mp e
    obtain ⟨⟨y, δ2⟩, e2, e⟩ := Option.bind_eq_some_iff.mp e
    dsimp only at e e2
    split at e
    · split at e
      · rename_i hf; cases e; exact ⟨_, _, e1, _, _, e2, _, _, .inl ⟨rfl, rfl⟩, hf, p⟩
      · cases e
    · split at e
      · rename_i hf; cases e; exact ⟨_, _, e1, _, _, e2, _, _, .inr ⟨rfl, rfl⟩, hf, p⟩
      · cases e
    · cases e
  · rintro ⟨x, δ1, e1, y, δ2, e2, xs, ys, h, hf, p⟩
    refine ⟨_, _, ?_, p⟩
    unfold mZip
    rw [e1]
    show (mb ρ δ1).bind _ = _
    rw [e2]
    rcases h with ⟨rfl, rfl⟩ | ⟨rfl, rfl⟩ <;> exact if_pos hf
end PD
namespace QS
open PySem PySem.Spec PyProof.Rows L2 TL PD
end QS
namespace QS
open PySem PySem.Spec PyProof.Rows L2 TL PD
end QS
namespace PD
open PySem PySem.Spec PyProof.Rows L2 TL
end PD
namespace QS
open PySem
end QS
namespace PD
open PySem PySem.Spec PyProof.Rows L2 TL
open AutoSeq1 (wpAny_loadPart')
end PD
namespace PD
open PySem PySem.Spec PyProof.Rows L2 TL
end PD
namespace PD
open PySem PySem.Spec PyProof.Rows L2 TL
end PD
namespace PD
open PySem PySem.Spec PyProof.Rows L2 TL
end PD
namespace QS
open PySem PySem.Spec PyProof.Rows L2
section
variable (P : Program) (w : World)
def tx (e : Int × Value) : Str := match e.2 with
  | .str x _ => x
  | _ => Str.empty
def Fine (e : Int × Value) : Prop := ∃ x tk, e = ((strKind P w).hash x, Value.str x tk)
/-- the entries es, laid out by t, are the texts of l -/
structure Lies (es : Array (Int × Value)) (t : SetTable) (l : List Str) : Prop where
  fine : ∀ e ∈ es.toList, Fine P w e
  perm : (es.toList.map tx).Perm l
  nd : l.Nodup
  few : es.size < scanBound
  fits : t.fits es.size = true
  ris : Ris t.place.toList
  led : w.params.followText "set-order" = true ∨ t.led = true
def AtR (h : Heap) (a : Addr) (l : List Str) : Prop := ∃ o es ep t, h.get? a = some o ∧ o.ExactSet ∧ o.data = .set es ep t ∧ Lies P w es t l
end
section
variable {P : Program} {w : World} {A : Around} {E : Value → Shared → Prop} {s : Shared} {a : Addr}
theorem AtR.keep {h h' : Heap} {l : List Str} (H : AtR P w h a l) (k : ∀ o, h.get? a = some o → h'.get? a = some o) : AtR P w h' a l := by
  obtain ⟨o, es, ep, t, ho, r⟩ := H
  exact ⟨o, es, ep, t, k o ho, r⟩
theorem Lies.elems {es : Array (Int × Value)} {t : SetTable} {l : List Str} (L : Lies P w es t l) : ElemsOf (strKind P w) es.toList := fun e he => by
  obtain ⟨x, tk, rfl⟩ := L.fine e he
  exact ⟨⟨x, strKind_is P w x tk, rfl⟩, rfl⟩
theorem fine_is {e : Int × Value} (h : Fine P w e) {x : Str} : (strKind P w).is x e.2 = true ↔ tx e = x := by
  obtain ⟨y, tk, rfl⟩ := h
  constructor
  · intro q
    have q : (y == x) = true := q
    exact eq_of_beq q
  · intro q
    have q : y = x := q
    subst q
    exact strKind_is P w y tk
theorem Lies.relay {es : Array (Int × Value)} {t : SetTable} {l : List Str} (L : Lies P w es t l) (n : Nat) : Lies P w (relayAll t es n).1 (relayAll t es n).2.1 l := by
  have pm := relayAll_perm t es n
  have hs : (relayAll t es n).1.size = es.size := by rw [← Array.length_toList, pm.length_eq, Array.length_toList]
  exact ⟨fun e he => L.fine e (pm.mem_iff.mp he), (pm.map tx).trans L.perm, L.nd, by rw [hs]; exact L.few, relayAll_fits t es n, relayAll_ris t es n, L.led.imp id fun z => by rw [relayAll_led]; exact z⟩
theorem store_set {l : List Str} {o : Obj} {es es' : Array (Int × Value)} {ep : Nat} {t t' : SetTable} {Q : Unit → Shared → Prop} (ho : s.heap.get? a = some o) (hx : o.ExactSet) (hd : o.data = .set es ep t) (L : Lies P w es' t' l)
    (hQ : ∀ h' o', Heap.SameBut a s.heap h' → h'.get? a = some o' → o'.ExactSet → o'.data = .set es' (ep + 1) t' → Q () { s with heap := h' }) : wpAny (model P w) A (storeSet a es' t') Q E s :=
  wpAny_storeSet_of ho hd (hQ _ _ (Heap.SameBut.update s.heap a (Obj.putSet es' t')) (store_at ho hd) hx rfl) (fits_of_scanBound L.few)
theorem AtR.put {l : List Str} {x : Str} {tk : Tok} {Q : Bool → Shared → Prop} (H : AtR P w s.heap a l) (room : l.length + 1 < scanBound)
    (hQ : ∀ (b : Bool) h', Heap.SameBut a s.heap h' → AtR P w h' a (putK l x) → Q b { s with heap := h' }) : wpAny (model P w) A (setAddHashed a (.str x tk) ((strKind P w).hash x)) Q E s := by
  obtain ⟨o, es, ep, t, ho, hex, hd, L⟩ := H
  have hsc : (Value.str x tk).scannable = true := rfl
  have mem : x ∈ l ↔ ∃ e ∈ es.toList, (strKind P w).is x e.2 = true := by
    rw [← L.perm.mem_iff, List.mem_map]
    exact ⟨fun ⟨e, he, q⟩ => ⟨e, he, (fine_is (L.fine e he)).mpr q⟩, fun ⟨e, he, q⟩ => ⟨e, he, (fine_is (L.fine e he)).mp q⟩⟩
  have quiet : ∀ (b : Bool) (s₁ : Shared) (Q' : Unit → Shared → Prop), Q' () s₁ → wpAny (model P w) A (match b with | true => rule "set.scan.the-table-gave-way" | false => pure ()) Q' E s₁ := fun b s₁ Q' q => by
    cases b
    · exact wpAny_pure q
    · exact wpAny_rule q
  unfold setAddHashed setAddHashedIn
  refine wpAny_holding (wpAny_bind (wpAny_setState_of ho hd L.fits ?_))
  dsimp only
  rw [byScan_of hsc L.few L.elems]
  simp only [↓reduceIte]
  unfold setAddByScan
  refine wpAny_bind (wpAny_bind (wpAny_rule (wpAny_bind (wpAny_setScan_of (strKind_is P w x tk) ho hd L.fits L.elems ?_))))
  cases hfi : List.findIdx? (fun e => (strKind P w).is x e.2) es.toList with
  | some j =>
    dsimp only
    obtain ⟨hj, pj, _⟩ := List.findIdx?_eq_some_iff_getElem.mp hfi
    have hx : x ∈ l := mem.mpr ⟨_, List.getElem_mem hj, pj⟩
    refine wpAny_pure (wpAny_pure (hQ _ s.heap (Heap.SameBut.refl a s.heap) ⟨o, es, ep, t, ho, hex, hd, ?_⟩))
    unfold putK
    rw [if_pos hx]
    exact L
  | none =>
    dsimp only
    have hx : x ∉ l := fun z => by
      obtain ⟨e, he, q⟩ := mem.mp z
      rw [List.findIdx?_eq_none_iff.mp hfi e he] at q
      cases q
    have pm := layNew_perm t es ((strKind P w).hash x) (.str x tk)
    have hf1 := layNew_fits t es ((strKind P w).hash x) (.str x tk)
    have hr1 := layNew_ris t es ((strKind P w).hash x) (.str x tk) L.ris
    have hl1 := layNew_led t es ((strKind P w).hash x) (.str x tk)
    generalize layNew t es ((strKind P w).hash x) (.str x tk) = Z at pm hf1 hr1 hl1 ⊢
    obtain ⟨es1, t1, wasDummy, gave⟩ := Z
    dsimp only at pm hf1 hr1 hl1 ⊢
    rw [Array.toList_push] at pm
    have pc : es1.toList.Perm (((strKind P w).hash x, Value.str x tk) :: es.toList) := pm.trans (List.perm_append_singleton _ _)
    have hsz : es1.size = l.length + 1 := by
      rw [← Array.length_toList, pc.length_eq, List.length_cons, ← L.perm.length_eq, List.length_map]
    have go : ∀ t2 : SetTable, t2.fits es1.size = true → Ris t2.place.toList → t2.led = t1.led → Lies P w es1 t2 (putK l x) := fun t2 f r d => by
      unfold putK
      rw [if_neg hx]
      refine ⟨fun e he => ?_, (pc.map tx).trans (L.perm.cons x), List.nodup_cons.mpr ⟨hx, L.nd⟩, by rw [hsz]; exact room, f, r, L.led.imp id fun z => by rw [d, hl1]; exact z⟩
      rcases List.mem_cons.mp (pc.mem_iff.mp he) with z | z
      · exact ⟨x, tk, z⟩
      · exact L.fine e z
    have tail : ∀ (t2 : SetTable) (R : Option Bool → Shared → Prop), Lies P w es1 t2 (putK l x) → (∀ h', Heap.SameBut a s.heap h' → AtR P w h' a (putK l x) → R (some true) { s with heap := h' }) →
        wpAny (model P w) A (do
          storeSet a es1 t2
          if (!wasDummy && t2.tooFull) = true then do
              (match (relayAll t2 es1 (SetTable.grown es1.size)).2.2 with | true => rule "set.scan.the-table-gave-way" | false => pure ())
              storeSet a (relayAll t2 es1 (SetTable.grown es1.size)).1 (relayAll t2 es1 (SetTable.grown es1.size)).2.1
              pure (some true)
            else pure (some true)) R E s := fun t2 R L2 hR => by
      refine wpAny_bind (store_set ho hex hd L2 fun h1 o1 sb1 ho1 hex1 hd1 => ?_)
      split
      · refine wpAny_bind (quiet _ _ _ (wpAny_bind (store_set ho1 hex1 hd1 (L2.relay _) fun h2 o2 sb2 ho2 hex2 hd2 => wpAny_pure (hR h2 (sb1.trans sb2) ⟨o2, _, _, _, ho2, hex2, hd2, L2.relay _⟩))))
      · exact wpAny_pure (hR h1 sb1 ⟨o1, _, _, _, ho1, hex1, hd1, L2⟩)
    refine wpAny_bind (quiet _ _ _ ?_)
    split
    · refine wpAny_bind ?_
      rw [hashByValue_scannable 8 hsc]
      refine wpAny_pure ?_
      refine tail _ _ ?_ fun h' sb r => ?_
      · first
          | (split
             · exact go _ hf1 hr1 rfl
             · exact go _ (SetTable.fits_plain_off hf1) hr1 rfl)
          | (split
             · exact go _ (SetTable.fits_plain_off hf1) hr1 rfl
             · exact go _ hf1 hr1 rfl)
          | exact go _ hf1 hr1 rfl
      · dsimp only; exact wpAny_pure (hQ true h' sb r)
    · refine wpAny_bind (wpAny_pure ?_)
      simp only [↓reduceIte]
      refine tail _ _ (go _ hf1 hr1 rfl) fun h' sb r => ?_
      dsimp only
      exact wpAny_pure (hQ true h' sb r)
end
end QS
namespace PD
open PySem PySem.Spec PyProof.Rows L2 TL
end PD
namespace PD
open PySem PySem.Spec PyProof.Rows L2
end PD
namespace PD
open PySem PySem.Spec PyProof.Rows L2
end PD
namespace PD
open PySem PySem.Spec PyProof.Rows L2
/-- the deck with another number -/
theorem DeckAt.left {H : Hp} {p : DP} {δ : Dk} (h : DeckAt H p δ) (h0 : δ.rests = []) (n : Int) : DeckAt (upd H p.2 (.lst [.int n])) p { δ with lft := some n } := by
  refine ⟨h.ne, h.ne2, h.ne3, by rw [upd_ne h.ne, h.one]; unfold dkTl; rw [if_pos h0, if_pos (show ({ δ with lft := some n } : Dk).rests = [] from h0)], ?_, by rw [upd_ne h.ne3.symm, h.tri]⟩
  rw [upd_same]
  show _ = some (HO.lst (if δ.rests = [] then _ else _))
  rw [if_pos h0]
  rfl
end PD
namespace PD
open PySem PySem.Spec PyProof.Rows L2
end PD
namespace PD
open PySem PySem.Spec PyProof.Rows L2
end PD
namespace PySem.W
open PySem PySem.Calls PyProof.Rows
end PySem.W
namespace PD
open PySem PySem.Spec PyProof.Rows L2
def allAlk (ds : List D) : Bool := ds.all fun d => ds.all fun e => PySem.W.alike d e
def isTp : D → Bool
  | .tuple (_ :: _) => true
  | _ => false
def isOth : D → Bool
  | .none => false
  | .tuple _ => false
  | _ => true
structure SortOk (ds : List D) : Prop where
  l : ds.length ≤ sizeLine
  a : allAlk ds = true
  s : (ds.all isTp || ds.all isOth) = true
  h : PyData.hasDictAll ds = false
  d : ∀ d ∈ ds, d.depth ≤ 50
instance (ds : List D) : Decidable (SortOk ds) := decidable_of_iff (ds.length ≤ sizeLine ∧ allAlk ds = true ∧ (ds.all isTp || ds.all isOth) = true ∧ PyData.hasDictAll ds = false ∧ ∀ d ∈ ds, d.depth ≤ 50) ⟨fun h => ⟨h.1, h.2.1, h.2.2.1, h.2.2.2.1, h.2.2.2.2⟩, fun h => ⟨h.1, h.2, h.3, h.4, h.5⟩⟩
end PD
namespace PD
open PySem PySem.Spec PyProof.Rows L2
end PD
namespace L2
open PySem PySem.Spec PyProof.Rows
def nkN (b : Bool) : NestedKey := .num (if b = true then 1 else 0)
def nkT (bs : List Bool) : NestedKey := .tup (bs.map nkN)
theorem nkN_inj {a b : Bool} (h : nkN a = nkN b) : a = b := by
  have := NestedKey.num.inj h
  cases a <;> cases b <;> first | rfl | (exfalso; revert this; decide)
theorem nkM_inj : ∀ {as bs : List Bool}, as.map nkN = bs.map nkN → as = bs
  | [], [], _ => rfl
  | [], _ :: _, h => by cases h
  | _ :: _, [], h => by cases h
  | a :: as, b :: bs, h => by
    rw [List.map_cons, List.map_cons] at h
    rw [nkN_inj (List.cons.inj h).1, nkM_inj (List.cons.inj h).2]
theorem nkT_inj {as bs : List Bool} (h : nkT as = nkT bs) : as = bs := nkM_inj (NestedKey.tup.inj h)
theorem nkT_depth (bs : List Bool) : (nkT bs).depth ≤ 8 := by
  have : ∀ l : List Bool, NestedKey.depthAll (l.map nkN) = 0 := fun l => by
    induction l with
    | nil => rfl
    | cons b l ih =>
      rw [List.map_cons, NestedKey.depthAll, ih]
      rfl
  unfold nkT
  rw [NestedKey.depth, this]
  decide
abbrev NK := List Bool × Addr × Int
inductive VI : List NK → List (NestedKey × Addr × Value) → Prop
  | nil : VI [] []
  | cons {bs : List Bool} {b : Addr} {i : Int} {t : Tok} {ks : List NK} {xs : List (NestedKey × Addr × Value)} : VI ks xs → VI ((bs, b, i) :: ks) ((nkT bs, b, .int i t) :: xs)
theorem VI.app {bs : List Bool} {b : Addr} {i : Int} {t : Tok} : ∀ {ks xs}, VI ks xs → VI (ks ++ [(bs, b, i)]) (xs ++ [(nkT bs, b, .int i t)])
  | _, _, .nil => .cons .nil
  | _, _, .cons r => .cons (VI.app r)
theorem VI.len : ∀ {ks xs}, VI ks xs → xs.length = ks.length
  | _, _, .nil => rfl
  | _, _, .cons r => by rw [List.length_cons, List.length_cons, VI.len r]
theorem VI.mem {x : NestedKey × Addr × Value} : ∀ {ks xs}, VI ks xs → x ∈ xs → ∃ e ∈ ks, ∃ t, x = (nkT e.1, e.2.1, .int e.2.2 t)
  | _, _, .nil, h => by cases h
  | _, _, .cons r, h => by
    rcases List.mem_cons.mp h with rfl | h
    · exact ⟨_, .head _, _, rfl⟩
    · obtain ⟨e, he, t, q⟩ := VI.mem r h
      exact ⟨e, .tail _ he, t, q⟩
theorem VI.ints : ∀ {ks xs}, VI ks xs → IntsAre (xs.map (·.2.2)) (ks.map (·.2.2))
  | _, _, .nil => .nil
  | _, _, .cons r => .cons _ _ (VI.ints r)
theorem VI.look (bs : List Bool) : ∀ {ks xs}, VI ks xs → (∀ p, atKey xs (nkT bs) = some p → (ks.any fun e => decide (e.1 = bs)) = true ∧ ∃ j t, p.2 = .int j t) ∧ (atKey xs (nkT bs) = none → (ks.any fun e => decide (e.1 = bs)) = false)
  | _, _, .nil => ⟨fun p h => by simp [atKey] at h, fun _ => rfl⟩
  | _, _, .cons (bs := bs') r => by
    obtain ⟨h1, h2⟩ := VI.look bs r
    unfold atKey at h1 h2 ⊢
    rw [List.find?_cons]
    dsimp only
    by_cases hk : bs' = bs
    · subst hk
      rw [decide_eq_true rfl]
      refine ⟨fun p h => ?_, fun h => by cases h⟩
      cases h
      exact ⟨by rw [List.any_cons, decide_eq_true rfl]; rfl, _, _, rfl⟩
    · rw [decide_eq_false fun z => hk (nkT_inj z), List.any_cons, decide_eq_false hk, Bool.false_or]
      exact ⟨h1, h2⟩
def DN (P : Program) (w : World) (a : Addr) (ks : List NK) : HO := .ext fun h => (a == sysModules) = false ∧ ks.length ≤ sizeLine ∧ ∃ xs o es ep, VI ks xs ∧ h.get? a = some o ∧ o.ExactDict ∧ o.data = .dict es ep ∧ es.toList = xs.map (entryOfKey (nestedKind P w)) ∧ (xs.map (·.1)).Nodup
section
variable {X : Cx} {pins : List (Addr × Obj)} {σ : St} {H : Hp} {s : Shared} {a b : Addr} {A : Around} {E : Value → Shared → Prop}
theorem dn_ok {P : Program} {w : World} {h : Heap} {ks : List NK} {xs : List (NestedKey × Addr × Value)} (hs : (a == sysModules) = false) (hz : ks.length ≤ sizeLine) (vi : VI ks xs) (hm : h.DictOfH (nestedKind P w) a xs) : ObjOk P w H h a (DN P w a ks) := by
  obtain ⟨o, es, ep, ho, hc, hd, het, _, hn⟩ := hm
  refine ⟨⟨hs, hz, xs, o, es, ep, vi, ho, hc, hd, het, hn⟩, ⟨o, ho⟩, ?_⟩
  rintro h1 h2 ⟨k1, k2, xs, o, es, ep, k3, k4, k5⟩ k
  exact ⟨k1, k2, xs, o, es, ep, k3, k o k4, k5⟩
theorem dn_get {ks : List NK} (I : Inv X pins σ H s) (ha : H a = some (DN X.prog X.w a ks)) : (a == sysModules) = false ∧ ks.length ≤ sizeLine ∧ ∃ xs o es ep, VI ks xs ∧ s.heap.get? a = some o ∧ o.ExactDict ∧ o.data = .dict es ep ∧ es.toList = xs.map (entryOfKey (nestedKind X.prog X.w)) ∧ (xs.map (·.1)).Nodup := (I.hok a _ ha).1
theorem nested_bools {h : Heap} : ∀ {bs : List Bool} {its : List Value}, Vals (bs.map V.bl) its → NestedAll h (bs.map nkN) its
  | [], _, .nil => .nil
  | b :: bs, _, .cons r rs => by cases r; exact .cons (.bool rfl) (nested_bools rs)
theorem nested_is {bs : List Bool} (I : Inv X pins σ H s) (q : SqT X.K H b (bs.map V.bl)) : (nestedKind X.prog X.w).is s.heap (nkT bs) b := by
  obtain ⟨its, r, ⟨o, e, c, n, d⟩, _⟩ := I.tuple q
  exact ⟨.tup e c d (nested_bools r), nkT_depth bs⟩
/-- {} -/
def tDNewN (P : Program) (w : World) : TE := fun _ H Q => ∀ p, H p = none → Q (.ref p) (upd H p (DN P w p []))
theorem pe_dnewN {pos : Pos} : PE X (.Dict [] [] pos) (tDNewN X.prog X.w) := ⟨fun pins s σ H Q I h =>
  wpAny_Dict_empty ⟨.ref s.heap.objs.size, _, I.laid (a := s.heap.objs.size) (o := DN X.prog X.w s.heap.objs.size []) (t' := s.toks) (fun _ _ q => Heap.get?_push_of_some _ q) (Nat.le_refl _)
    (dn_ok (beq_eq_false_iff_ne.mpr (Ne.symm (Nat.ne_of_lt I.big))) (Nat.zero_le _) .nil (Heap.DictOfH.new s.heap)), rfl, h _ (I.hok.fresh (Nat.le_refl _))⟩⟩
/-- d.setdefault(y, z), y a tuple of truths, z a number -/
def tSetN (P : Program) (w : World) (K : PySem.W.Frag) (td ty tx : TE) : TE := fun σ H Q => td σ H fun x H1 => (∃ a ks, x = V.ref a ∧ H1 a = some (DN P w a ks)) ∧ ty σ H1 fun y H2 => tx σ H2 fun z H3 => ∃ (a : Addr) (ks : List NK) (b : Addr) (bs : List Bool) (i : Int), x = V.ref a ∧ H3 a = some (DN P w a ks) ∧ y = V.ref b ∧
  SqT K H3 b (bs.map V.bl) ∧ z = V.int i ∧ (∀ e ∈ ks, SqT K H3 e.2.1 (e.1.map V.bl)) ∧ ks.length < sizeLine ∧ ((ks.any fun e => decide (e.1 = bs)) = true → ∀ j, Q (.int j) H3) ∧ ((ks.any fun e => decide (e.1 = bs)) = false → Q (.int i) (upd H3 a (DN P w a (ks ++ [(bs, b, i)]))))
theorem pe_setN {o e f : Expr} {td ty tx : TE} {apos cpos : Pos} (hu : X.A.units + 9 < cLine) (ho : PE X o td) (he : PE X e ty) (hf : PE X f tx) (m : M2 X o "setdefault" apos e f cpos) : PE X (.Call (.Attribute o "setdefault" apos) [e, f] [] cpos) (tSetN X.prog X.w X.K td ty tx) := by
  refine ⟨fun pins s σ H Q I h => ?_⟩
  refine wpAny_Call_method m.base m.few m.line PySem.F.plainAttrs_dict PySem.F.slot_dict_setdefault PySem.F.type_dict_setdefault (thn (ho.run pins s σ H _ I h) fun u s1 ⟨x, H1, I1, rx, ⟨a, ks, ex, ha⟩, q1⟩ => ?_)
  subst ex
  obtain rfl : u = Value.ref a := rx
  obtain ⟨_, _, _, o1, _, _, _, g1, g2, _⟩ := dn_get I1 ha
  refine ⟨⟨o1, g1, g2.1⟩, fun b e => by cases e; exact ⟨o1, g1, g2.2.1⟩, ?_⟩
  rw [m.trees]
  refine Calls.callWith_builtin rfl (Calls.evalArgs_plain (Calls.spliced_cons (thn (he.run pins s1 σ H1 _ I1 q1) fun iv s2 ⟨y, H2, I2, ry, q2⟩ =>
    Calls.spliced_cons (thn (hf.run pins s2 σ H2 _ I2 q2) fun fv s3 ⟨z, H3, I3, rz, a', ks, b, bs, i, ea, ha, ey, hq, ez, hks, hl, q3, q4⟩ => Calls.spliced_nil ?_))))
  cases ea
  subst ey
  subst ez
  obtain rfl : iv = Value.ref b := ry
  obtain ⟨t, rfl⟩ : ∃ t, fv = Value.int i t := rz
  obtain ⟨hsys, hz, xs, o, es, ep, vi, g1, g2, g3, g4, g5⟩ := dn_get I3 ha
  have hm : s3.heap.DictOfH (nestedKind X.prog X.w) a xs := ⟨o, es, ep, g1, g2, g3, g4, fun x hx => by
    obtain ⟨e, he, t, rfl⟩ := vi.mem hx
    exact nested_is I3 (hks e he), g5⟩
  obtain ⟨l1, l2⟩ := vi.look bs
  refine call_setdefault_heap (A := X.A) (k := nkT bs) (by show X.A.in1.units + 8 < cLine; simp only [Around.in1]; omega) (nested_is I3 hq) hsys hm (fun p hp => ?_) (fun hn h' hm' hs => ?_) (by rw [vi.len]; omega)
  · obtain ⟨k1, j, t, k2⟩ := l1 p hp
    exact ⟨.int j, _, I3.tok _, ⟨t, k2⟩, q3 k1 j⟩
  · rw [storedH_new hn] at hm'
    have he' : ∃ u, h'.get? a = some u := by
      obtain ⟨o, _, _, ho, _⟩ := hm'
      exact ⟨o, ho⟩
    refine ⟨.int i, _, I3.write (e := a) (by rw [ha]; trivial) (.inl rfl) (fun b u hb hu => (hs.2 b hb).trans hu) he' (dn_ok hsys (by rw [List.length_append]; exact hl) vi.app hm'), ⟨t, rfl⟩, q4 (l2 hn)⟩
/-- sorted(d.values()), where they rise -/
def tSortN (P : Program) (w : World) (td : TE) : TE := fun σ H Q => td σ H fun x H1 => ∃ (a : Addr) (ks : List NK), x = V.ref a ∧ H1 a = some (DN P w a ks) ∧ (ks.map (·.2.2)).Pairwise (· ≤ ·) ∧ ∀ p, H1 p = none → Q (.ref p) (upd H1 p (.lst (ks.map fun e => V.int e.2.2)))
theorem ints_same : ∀ {l r : List Int}, l.Perm r → l.Pairwise (· ≤ ·) → r.Pairwise (· ≤ ·) → l = r := fun p a b => PySem.W.os_sorted_one p a b
theorem pe_sortN {o : Expr} {td : TE} {p pos apos mpos : Pos} (hc : X.calm = true) (hg : Gl X "sorted") (hm : X.mg "sorted" = none) (hd : PE X o td) (hbase : attributeBase o "values" X.env (eval o X.env) = eval o X.env := by rfl) (hline : (apos.endLine == mpos.line) = true := by rfl)
    (hse : starEach [Expr.Call (.Attribute o "values" apos) [] [] mpos] X.env = [(false, eval (Expr.Call (.Attribute o "values" apos) [] [] mpos) X.env)] := by rfl) :
    PE X (.Call (.Name "sorted" p) [.Call (.Attribute o "values" apos) [] [] mpos] [] pos) (tSortN X.prog X.w td) := by
  refine ⟨fun pins s σ H Q I h => ?_⟩
  refine wpAny_Call_Name_kw (ld_blt I hg hm (u := .builtin "sorted") (by first | rfl | decide +kernel) ?_ (by first | decide +kernel | decide) (by first | decide +kernel | decide))
  rw [hse]
  refine PySem.callWith_builtin1 (wpAny_Call_method0_late hbase hline (thn (hd.run pins s σ H _ I h) fun v s1 ⟨x, H1, I1, r1, a, ks, ex, ha, hup, q⟩ => ?_))
  subst ex
  obtain rfl : v = Value.ref a := r1
  obtain ⟨hsys, hz, xs, o, es, ep, vi, g1, g2, g3, g4, g5⟩ := dn_get I1 ha
  have raw : s1.heap.DictRaw a es ep := ⟨o, g1, g2, g3⟩
  refine ⟨"dict", "dict.values", F.plainAttrs_dict, F.slot_dict_values, F.type_dict_values, ⟨o, g1, g2.1⟩, fun b e => by cases e; exact ⟨o, g1, g2.2.1⟩, Calls.callWith_builtin rfl (PySem.evalArgs_none ?_)⟩
  refine call_meetsIn F.slot_dict_values ⟨o, g1, g2.1⟩ F.entry_dict_values (F.args_dict_values_1 _) (meets_dict_values_raw a hsys) ⟨⟨es, ep, raw⟩, ?_⟩
  have k1 : ∀ b u, s1.heap.get? b = some u → (s1.heap.push { cls := .type "dict_values", data := .fields #[.ref a] }).get? b = some u := fun b u e => Heap.get?_push_of_some _ e
  have raw1 : (s1.heap.push { cls := .type "dict_values", data := .fields #[.ref a] }).DictRaw a es ep := raw.push _
  have hel : es.size = ks.length := by rw [← vi.len, ← Array.length_toList, g4, List.length_map]
  refine Calls.call_function_entry PyProof.Rows.kind_sorted PyProof.Rows.plain_sorted PyProof.Rows.entry_sorted (PyProof.Rows.args_sorted1 _) ?_
  unfold Builtin.«sorted»
  refine wpAny_bind (m := checkCount "sorted" 1 1 _) (wpAny_pure ?_)
  refine wpAny_bind (PySem.W.kdu_collect (A := X.A.in1) (PySem.KdlSrc.rawValues (r := s1.heap.objs.size) (d := a) (es := es) (ep := ep)) (I.ok.hd hc) ⟨⟨_, Heap.get?_push_size _ rfl, rfl, rfl⟩, raw1⟩ (by rw [hel]; exact hz) fun h' tk acc hk hacc => ?_)
  have hl : acc.toList.length = ks.length := by rw [Array.length_toList, hacc.1, hel]
  have hval : IntsAre acc.toList (ks.map (·.2.2)) := by
    have e1 : acc.toList = xs.map (·.2.2) := by
      refine List.ext_getElem? fun i => ?_
      rw [Array.getElem?_toList]
      by_cases hi : i < acc.size
      · obtain ⟨hi2, e⟩ := hacc.2 i acc[i] (Array.getElem?_eq_getElem hi)
        rw [Array.getElem?_eq_getElem hi, e]
        have e3 : es[i]? = (xs[i]?).map (entryOfKey (nestedKind X.prog X.w)) := by
          rw [← Array.getElem?_toList, g4, List.getElem?_map]
        rw [Array.getElem?_eq_getElem hi2] at e3
        rw [List.getElem?_map]
        cases hx : xs[i]? with
        | none => rw [hx] at e3; cases e3
        | some y =>
          rw [hx] at e3
          rw [Option.some.inj e3]
          rfl
      · rw [Array.getElem?_eq_none (by omega), List.getElem?_eq_none (by rw [List.length_map, vi.len, ← hl, Array.length_toList]; omega)]
    rw [e1]
    exact vi.ints
  refine wpAny_bind (wpAny_newList ?_ (by rw [hl]; exact hz))
  have hoL : (h'.push (seqObj "list" acc.toList.toArray 0)).get? h'.objs.size = some (seqObj "list" acc.toList.toArray 0) := Heap.get?_push_size _ rfl
  show wpAny _ _ _ _ _ { s1 with heap := h'.push (seqObj "list" acc.toList.toArray 0), toks := tk }
  refine wpAny_bind (wpAny_holding (wpAny_call_entry PyProof.Rows.slot_list_sort ⟨_, hoL, rfl⟩ PyProof.Rows.entry_list_sort
    (SrtO.list_sort_ord SrtO.swo_int hoL (by rw [hl]; exact hz) (fun h2 => SrtO.ints_sortable hval h2) fun out h1 h2 => ⟨_, rfl, ?_⟩) (PyProof.Rows.args_list_sort _)))
  obtain ⟨j1, j2, j3⟩ := SrtO.ints_out hval h1 h2
  obtain ⟨ee, he'⟩ := PyProof.Rows.sortedHeap_at (vs := acc.toList) (out := out.toArray) hoL
  have eo : out.map SrtO.iv = ks.map (·.2.2) := ints_same j2 j3 hup
  have hb : s1.heap.objs.size ≤ h'.objs.size := by
    have e0 : (s1.heap.push { cls := .type "dict_values", data := .fields #[.ref a] }).get? s1.heap.objs.size = some _ := Heap.get?_push_size _ rfl
    exact Nat.le_of_lt (Heap.lt_size (hk _ _ e0))
  rw [eo] at j1
  have ev : Vals (ks.map fun e => V.int e.2.2) out := by
    have := vals_of_ints j1
    rw [List.map_map] at this
    exact this
  exact wpAny_pure ⟨_, rfl, .ref h'.objs.size, upd H1 h'.objs.size (.lst (ks.map fun e => V.int e.2.2)), I1.laid (t' := tk) (fun b u e => by
    have e2 := hk b u (k1 b u e)
    rw [PyProof.Rows.sortedHeap_old (Nat.ne_of_lt (Heap.lt_size e2)) (Heap.lt_size (Heap.get?_push_of_some _ e2))]
    exact Heap.get?_push_of_some _ e2) hb ⟨by rw [List.length_map]; exact hz, out, ee, ev, he'⟩, rfl, q _ (I1.hok.fresh hb)⟩
end
end L2
namespace PD
open PySem PySem.Spec PyProof.Rows L2
def bitsL : List D → Option (List Bool)
  | [] => some []
  | .bool b :: r => (bitsL r).map (b :: ·)
  | _ => none
def bitsOf : D → Option (List Bool)
  | .tuple ds => bitsL ds
  | _ => none
def numOf : D → Option Int
  | .int i => some i
  | _ => none
theorem bitsL_eq : ∀ {ds : List D} {bs : List Bool}, bitsL ds = some bs → ds = bs.map PyData.bool
  | [], _, h => by cases h; rfl
  | d :: ds, bs, h => by
    unfold bitsL at h
    split at h
    · rename_i e; cases e
    · rename_i b r e
      cases e
      obtain ⟨x, e1, e2⟩ := Option.map_eq_some_iff.mp h
      cases e2
      rw [List.map_cons, ← bitsL_eq e1]
    · cases h
theorem bitsL_map : ∀ bs : List Bool, bitsL (bs.map PyData.bool) = some bs
  | [] => rfl
  | b :: bs => by
    rw [List.map_cons]
    unfold bitsL
    rw [bitsL_map bs]
    rfl
theorem bitsOf_eq {d : D} {bs : List Bool} (h : bitsOf d = some bs) : d = .tuple (bs.map PyData.bool) := by
  unfold bitsOf at h
  split at h
  · rw [bitsL_eq h]
  · cases h
theorem numOf_eq {d : D} {i : Int} (h : numOf d = some i) : d = .int i := by
  unfold numOf at h
  split at h
  · cases h; rfl
  · cases h
theorem reps_bools {K M H} : ∀ {bs : List Bool} {xs : List V}, Reps K M H xs (bs.map PyData.bool) → xs = bs.map V.bl
  | [], _, r => by cases r; rfl
  | b :: bs, _, r => by
    rw [List.map_cons] at r
    cases r with
    | cons r rs =>
      cases r
      rw [reps_bools rs]
      rfl
theorem sq_bools {K M H b} {bs : List Bool} (r : Rep K M H (.ref b) (.tuple (bs.map PyData.bool))) : SqT K H b (bs.map V.bl) := by
  cases r with
  | tup ha rs =>
    rw [← reps_bools rs]
    exact ha.sq
theorem ref_tup {K M H v} {ds : List D} (r : Rep K M H v (.tuple ds)) : ∃ b, v = .ref b := by
  cases r
  exact ⟨_, rfl⟩
def hasB (es : List (List Bool × Int)) (k : List Bool) : Bool := es.any fun e => decide (e.1 = k)
def dictNL (g : MG) (m1 m2 : ME) : List D → List Sl → Dk → List (List Bool × Int) → Option (List Sl × Dk × List (List Bool × Int))
  | [], ρ, δ, es => some (ρ, δ, es)
  | d :: ds, ρ, δ, es => (g d ρ).bind fun ρ1 => (m1 ρ1 δ).bind fun p => (bitsOf p.1).bind fun k => (m2 ρ1 p.2).bind fun q => (numOf q.1).bind fun i => if es.length < sizeLine then dictNL g m1 m2 ds ρ1 q.2 (if hasB es k then es else es ++ [(k, i)]) else none
def upB : List Int → Bool
  | [] => true
  | [_] => true
  | i :: j :: r => decide (i ≤ j) && upB (j :: r)
theorem upB_pw : ∀ {l : List Int}, upB l = true → l.Pairwise (· ≤ ·)
  | [], _ => .nil
  | [_], _ => List.pairwise_singleton _ _
  | i :: j :: r, h => by
    unfold upB at h
    rw [Bool.and_eq_true] at h
    have h2 := upB_pw h.2
    have h1 := of_decide_eq_true h.1
    refine List.pairwise_cons.mpr ⟨fun x hx => ?_, h2⟩
    rcases List.mem_cons.mp hx with rfl | hx
    · exact h1
    · exact Int.le_trans h1 ((List.pairwise_cons.mp h2).1 x hx)
def sDictN (r : Nat) (mi : MA) (g : MG) (m1 m2 : ME) : MS := fun ρ δ => if r < ρ.length then (mi (ρ.set r .no) δ).bind fun p => (dictNL g m1 m2 p.1 (ρ.set r .no) p.2 []).bind fun z => if upB (z.2.2.map (·.2)) = true then some (.rt (.list (z.2.2.map fun e => .int e.2)), z.1, z.2.1) else none else none
def NKe (ks : List NK) : List (List Bool × Int) := ks.map fun e => (e.1, e.2.2)
theorem NKe_any (ks : List NK) (k : List Bool) : (ks.any fun e => decide (e.1 = k)) = hasB (NKe ks) k := by
  unfold hasB NKe
  rw [List.any_map]
  rfl
theorem reps_nums {K M H} : ∀ ks : List NK, Reps K M H (ks.map fun e => V.int e.2.2) ((NKe ks).map fun e => PyData.int e.2)
  | [] => .nil
  | e :: ks => .cons (.int _) (reps_nums ks)
theorem snd_dictN {K wi t1 t2 mi m1 m2 g mg} {P : Program} {w : World} {sl : List Nat} (r : Nat)
    (hi : ∀ F σ H ρ δ ds δ', Good K F σ H ρ δ → mi ρ δ = some (ds, δ') → ∀ R : It → Hp → Prop, (∀ J H', Good K F σ H' ρ δ' → Mv (Mm F σ ρ) H (Mm F σ ρ) H' → Walks K (Mm F σ ρ) H' J ds → R J H') → wi σ H R)
    (hg : ∀ F σ H ρ δ v d ρ', Good K F σ H ρ δ → Rep K (Mm F σ ρ) H v d → mg d ρ = some ρ' → ∀ Q : L2.St → Hp → Prop, (∀ σ', Good K F σ' H ρ' δ → Mv (Mm F σ ρ) H (Mm F σ' ρ') H → Set1 sl σ σ' ρ ρ' → Q σ' H) → g v σ H Q)
    (h1 : Snd K t1 m1) (h2 : Snd K t2 m2) (hr : r ∉ sl) :
    SndS K (tSeq (tAsg (tDNewN P w) (gName r)) (tSeq (tFor wi g (tDrop (tSetN P w K (tVar r) t1 t2))) (tRet (tSortN P w (tVar r))))) (sDictN r mi mg m1 m2) := fun F σ H ρ δ fl ρ' δ' G e D q => by
  unfold sDictN at e
  split at e
  · rename_i hz
    obtain ⟨⟨ds, δ1⟩, e1, e⟩ := Option.bind_eq_some_iff.mp e
    obtain ⟨⟨ρ3, δ3, es3⟩, e3, e⟩ := Option.bind_eq_some_iff.mp e
    dsimp only at e
    split at e
    · rename_i hup
      cases e
      intro A hA
      have nDk : ∀ p, F.dk = some p → A ≠ p.1 ∧ A ≠ p.2 ∧ A ≠ p.3 := fun p hp => ⟨(ne_of_none (G.dck p hp).2.2.2.one hA).symm, (ne_of_none (G.dck p hp).2.2.2.two hA).symm, (ne_of_none (G.dck p hp).2.2.2.tri hA).symm⟩
      obtain ⟨G1, M1⟩ := G.plus (o := DN P w A []) hA
      have hn0 : (F.plus A).H0 A = none := G.fresh0 hA
      have hMA : (F.plus A).M0 A := .inr rfl
      obtain ⟨G2, M2⟩ := G1.setNo r (some (.ref A))
      have hrl : r < σ.length := by rw [G.len]; exact hz
      refine hi ((F.plus A).pin A (DN P w A [])) (σ.set r (some (.ref A))) _ (ρ.set r .no) δ ds δ1 (G2.pin hMA upd_same) e1 _ fun J H4 G4 M4 Wk => ?_
      rw [Mm_pin] at M4 Wk
      have hA4 : H4 A = some (DN P w A []) := G4.fr A _ upd_same nDk
      refine ⟨fun ii k σ5 H5 => k = ds.length - ii ∧ ii ≤ ds.length ∧ ∃ ρ5 δ5 ks5, Good K (F.plus A) σ5 H5 ρ5 δ5 ∧ σ5[r]? = some (some (.ref A)) ∧ ρ5[r]? = some .no ∧ H5 A = some (DN P w A ks5) ∧ (∀ e ∈ ks5, Rep K (Mm (F.plus A) σ5 ρ5) H5 (.ref e.2.1) (.tuple (e.1.map PyData.bool))) ∧
        Mv (Mm (F.plus A) (σ.set r (some (.ref A))) (ρ.set r .no)) H4 (Mm (F.plus A) σ5 ρ5) H5 ∧ dictNL mg m1 m2 (ds.drop ii) ρ5 δ5 (NKe ks5) = some (ρ', δ', es3), ⟨_, rfl, Nat.zero_le _, ρ.set r .no, δ1, [], Good.unpin hn0 hMA G4, List.getElem?_set_self hrl, List.getElem?_set_self hz, hA4, (fun e he => nomatch he), Mv.refl _ _, e3⟩, ?_⟩
      rintro ii k σ5 H5 ⟨rfl, hile, ρ5, δ5, ks5, G5, hσ5, hρ5, hA5, RD5, M5, ef⟩
      by_cases hlt : ii < ds.length
      · obtain ⟨go, yl⟩ := (Wk _ H5 M5 G5.mm ii).1 hlt
        have hld : ii < ds.length := hlt
        rw [List.drop_eq_getElem_cons hld] at ef
        refine .inr ⟨go, fun σ5 H5 => ∃ ρ5 δ5 ks5, Good K (F.plus A) σ5 H5 ρ5 δ5 ∧ σ5[r]? = some (some (.ref A)) ∧ ρ5[r]? = some .no ∧ H5 A = some (DN P w A ks5) ∧ (∀ e ∈ ks5, Rep K (Mm (F.plus A) σ5 ρ5) H5 (.ref e.2.1) (.tuple (e.1.map PyData.bool))) ∧
          Mv (Mm (F.plus A) (σ.set r (some (.ref A))) (ρ.set r .no)) H4 (Mm (F.plus A) σ5 ρ5) H5 ∧ dictNL mg m1 m2 (ds.drop (ii + 1)) ρ5 δ5 (NKe ks5) = some (ρ', δ', es3), fun σ' H' h => ⟨ds.length - (ii + 1), by omega, rfl, hlt, h⟩, fun x H6 hy => ?_⟩
        obtain ⟨kp, dx, edx, rdx⟩ := yl x H6 hy
        rw [List.getElem?_eq_getElem hld] at edx
        cases edx
        replace G5 := G5.keep kp
        replace M5 := M5.trans (Mv.same kp)
        replace hA5 := kp _ _ hA5
        replace RD5 := fun e he => (RD5 e he).mv (Mv.same kp)
        unfold dictNL at ef
        obtain ⟨ρ6, f1, ef⟩ := Option.bind_eq_some_iff.mp ef
        obtain ⟨⟨d1, δ6⟩, f2, ef⟩ := Option.bind_eq_some_iff.mp ef
        obtain ⟨kk, f3, ef⟩ := Option.bind_eq_some_iff.mp ef
        obtain ⟨⟨d2, δ7⟩, f4, ef⟩ := Option.bind_eq_some_iff.mp ef
        obtain ⟨i, f5, ef⟩ := Option.bind_eq_some_iff.mp ef
        dsimp only at ef f3 f5
        obtain rfl := bitsOf_eq f3
        obtain rfl := numOf_eq f5
        split at ef
        · rename_i hsz
          refine hg _ σ5 H6 ρ5 δ5 x _ ρ6 G5 rdx f1 _ fun σ6 G6 M6 T6 => ?_
          have hσ6 : σ6[r]? = some (some (.ref A)) := (T6.s r hr).trans hσ5
          have hρ6 : ρ6[r]? = some .no := (T6.r r hr).trans hρ5
          refine ⟨_, hσ6, ⟨A, ks5, rfl, hA5⟩, ?_⟩
          refine h1 ((F.plus A).pin A (DN P w A ks5)) σ6 H6 ρ6 δ5 _ δ6 (G6.pin hMA hA5) f2 _ fun v1 H7 G7 M7 R7 => ?_
          refine h2 ((F.plus A).pin A (DN P w A ks5)) σ6 H7 ρ6 δ6 _ δ7 G7 f4 _ fun v2 H8 G8 M8 R8 => ?_
          rw [Mm_pin] at M7 R7 M8 R8
          have hA8 : H8 A = some (DN P w A ks5) := G8.fr A _ upd_same nDk
          have MM := (M6.trans M7).trans M8
          have RD8 := fun e he => (RD5 e he).mv MM
          have R7 := R7.mv M8
          obtain ⟨b, rfl⟩ := ref_tup R7
          have G8' := Good.unpin hn0 hMA G8
          have hlen : ks5.length < sizeLine := by unfold NKe at hsz; rw [List.length_map] at hsz; exact hsz
          cases R8
          refine ⟨A, ks5, b, kk, i, rfl, hA8, rfl, sq_bools R7, rfl, fun e he => sq_bools (RD8 e he), hlen, fun hv j => ?_, fun hv => ?_⟩
          · rw [NKe_any] at hv
            rw [hv] at ef
            exact ⟨ρ6, δ7, ks5, G8', hσ6, hρ6, hA8, RD8, M5.trans MM, ef⟩
          · rw [NKe_any] at hv
            rw [hv] at ef
            obtain ⟨G9, M9⟩ := G8'.writeM (D := A) (o := DN P w A (ks5 ++ [(kk, b, i)])) hMA nDk hn0
            refine ⟨ρ6, δ7, ks5 ++ [(kk, b, i)], G9, hσ6, hρ6, upd_same, fun e he => ?_, (M5.trans MM).trans M9, ?_⟩
            · rcases List.mem_append.mp he with he | he
              · exact (RD8 e he).mv M9
              · rw [List.mem_singleton.mp he]
                exact R7.mv M9
            · unfold NKe at ef ⊢
              rw [List.map_append]
              exact ef
        · cases ef
      · have hi5 : ii = ds.length := by omega
        subst hi5
        rw [List.drop_of_length_le (Nat.le_refl _)] at ef
        cases ef
        refine .inl ⟨(Wk _ H5 M5 G5.mm ds.length).2 (Nat.le_refl _), ?_⟩
        have eA : F.plus A = F.plusS [A] := by
          have := plusS_cons (F := F) (l := []) (b := A)
          rw [plusS_nil] at this
          exact this
        have G5' := G5
        rw [eA] at G5'
        obtain ⟨G9, M9⟩ := Good.shrink ⟨_, _, _, _, G⟩ G5'
        rw [← eA] at M9
        refine ⟨_, hσ5, A, ks5, rfl, hA5, ?_, fun p hp => ?_⟩
        · have := upB_pw hup
          unfold NKe at this
          rw [List.map_map] at this
          exact this
        · have kp := upd_keeps (o := .lst (ks5.map fun e => V.int e.2.2)) hp
          exact q σ5 _ (G9.keep kp) (((M1.trans M2).trans M4).trans ((M5.trans M9).trans (Mv.same kp))) _ (.lst ⟨G9.mfree hp, upd_same⟩ (reps_nums ks5))
    · cases e
  · cases e
theorem u9 {k : Nat} {A : Around} (hr : Room k A) : A.units + 9 < cLine := by have := u65 hr; omega
theorem pdss_dictN {X : Cx} {tg iter e1 e2 : Expr} {R : Str} {py p0 p1 p3 p4 apos cpos pos2 spos fpos ap2 mp2 ps2 rp : Pos} {mi : MA} {mg : MG} {m1 m2 : ME} {sl : List Nat} (r : Nat)
    (hc : X.calm = true) (hN : X.N.Nodup) (hu : X.A.units + 9 < cLine) (hmS : X.mg "sorted" = none) (hi : PDI X tg iter mi) (hg : PDG X tg sl mg) (h1 : PD X e1 m1) (h2 : PD X e2 m2) (hr : r ∉ sl) (hp : PassesOwn (model X.prog X.w) X.A X.env X.xe)
    (hgS : Gl X "sorted" := by rfl)
    (hy : X.N[r]? = some R := by rfl) (hl : Loc X.env.scope R := by first | exact Or.inl rfl | exact Or.inr rfl) (hs2 : ∀ x, foldedSetIterable iter X.env x = pure x := by intro _; rfl)
    (hv : Vis X.env.scope R := by first | exact Or.inl rfl | exact Or.inr (Or.inl rfl) | exact Or.inr (Or.inr rfl)) (hd : (R == ("__debug__" : Str)) = false := by decide) (hcd : (R == ("__classdict__" : Str)) = false := by decide)
    (hb : attributeBase (.Name R p1) "setdefault" X.env (eval (.Name R p1) X.env) = eval (.Name R p1) X.env := by rfl)
    (hfew : ((backTo cpos (starEach [e1, e2] X.env)).all (fun x => !x.1) && (backToKw cpos (keywordEach [] X.env)).all (fun x => x.1.isSome) && decide (([e1, e2] : List Expr).length + ([] : List Keyword).length + (if ([] : List Keyword).isEmpty then 0 else 1) < 30)) = true := by rfl)
    (hline : (apos.endLine == cpos.line) = true := by rfl) (htr : backTo cpos (starEach [e1, e2] X.env) = [(false, eval e1 X.env), (false, eval e2 X.env)] := by rfl)
    (hse : swapsWith (.Call (.Attribute (.Name R p1) "setdefault" apos) [e1, e2] [] cpos) none pos2.line X.env = pure false := by rfl) (hf : X.fn R = true ∨ X.env.scope.names.lookup R = some .local := by first | exact .inl rfl | exact .inr rfl | assumption) (hsd : swapsWith (.Dict [] [] p0) (some (.Name R py)) spos.line X.env = pure false := by rfl)
    (hb2 : attributeBase (.Name R p3) "values" X.env (eval (.Name R p3) X.env) = eval (.Name R p3) X.env := by rfl) (hline2 : (ap2.endLine == mp2.line) = true := by rfl)
    (hse2 : starEach [Expr.Call (.Attribute (.Name R p3) "values" ap2) [] [] mp2] X.env = [(false, eval (Expr.Call (.Attribute (.Name R p3) "values" ap2) [] [] mp2) X.env)] := by rfl) :
    PDSs X [.Assign [.Name R py] (.Dict [] [] p0) spos, .For tg iter [.Expr (.Call (.Attribute (.Name R p1) "setdefault" apos) [e1, e2] [] cpos) pos2] [] fpos,
      .Return (some (.Call (.Name "sorted" p4) [.Call (.Attribute (.Name R p3) "values" ap2) [] [] mp2] [] ps2)) rp] (sDictN r mi mg m1 m2) := by
  obtain ⟨wi, w1, s1⟩ := hi.ex
  obtain ⟨g, w2, s2⟩ := hg.ex
  obtain ⟨t1, w3, s3⟩ := h1.ex
  obtain ⟨t2, w4, s4⟩ := h2.ex
  exact ⟨_, pss_cons (ps_set hN hy hl pe_dnewN hsd hf) (pss_cons (ps_for hp hc w1 w2 (pss_one (ps_expr (pe_setN hu (pe_var hy hv hd hcd) w3 w4 ⟨hb, hfew, hline, htr⟩) hse)) hs2) (pss_one (ps_ret (pe_sortN hc hgS hmS (pe_var hy hv hd hcd) hb2 hline2 hse2)))), snd_dictN r s1 s2 s3 s4 hr⟩
theorem ws_dictN {r : Nat} {mi : MA} {g : MG} {m1 m2 : ME} {ρ : List Sl} {δ δ1 δ2 : Dk} {ds : List D} {ρ3 : List Sl} {es : List (List Bool × Int)} {P : Fl → List Sl → Dk → Prop} (hz : r < ρ.length) (h1 : mi (ρ.set r .no) δ = some (ds, δ1)) (h2 : dictNL g m1 m2 ds (ρ.set r .no) δ1 [] = some (ρ3, δ2, es)) (h3 : upB (es.map (·.2)) = true)
    (p : P (.rt (.list (es.map fun e => .int e.2))) ρ3 δ2) : WS (sDictN r mi g m1 m2) ρ δ P := by
  refine ⟨_, _, _, ?_, p⟩
  unfold sDictN
  rw [if_pos hz, h1]
  show ((dictNL g m1 m2 ds (ρ.set r .no) δ1 []).bind _) = _
  rw [h2]
  exact if_pos h3
end PD
set_option maxHeartbeats 1000000
namespace K04
open PySem PySem.Spec PyProof.Rows L2 PD
def topS (i : Nat) : Stmt := PySem.Challenge.pw_tonguehouse_k04_what_shows_no_cover.main.body.getD i (.Pass ⟨0, 0, 0, 0⟩)
abbrev s_is_number : Stmt := topS 2
abbrev N_is_number : List Str := ["thing", "low", "high"]
theorem sc_is_number : FnScope N_is_number ["thing", "low", "high"] (defScope s_is_number) := ⟨rfl, rfl, rfl, by decide +kernel, rfl, by decide +kernel, by decide +kernel⟩
abbrev s_is_tuple : Stmt := topS 3
abbrev N_is_tuple : List Str := ["thing", "least", "most"]
theorem sc_is_tuple : FnScope N_is_tuple ["thing", "least", "most"] (defScope s_is_tuple) := ⟨rfl, rfl, rfl, by decide +kernel, rfl, by decide +kernel, by decide +kernel⟩
abbrev s_is_count : Stmt := topS 6
abbrev N_is_count : List Str := ["thing"]
theorem sc_is_count : FnScope N_is_count ["thing"] (defScope s_is_count) := ⟨rfl, rfl, rfl, by decide +kernel, rfl, by decide +kernel, by decide +kernel⟩
abbrev s_scale_of : Stmt := topS 7
abbrev N_scale_of : List Str := ["places", "scale", "place"]
theorem sc_scale_of : FnScope N_scale_of ["places"] (defScope s_scale_of) := ⟨rfl, rfl, rfl, by decide +kernel, rfl, by decide +kernel, by decide +kernel⟩
abbrev s_parts_of : Stmt := topS 8
abbrev N_parts_of : List Str := ["count", "n", "places", "whole", "rest"]
theorem sc_parts_of : FnScope N_parts_of ["count"] (defScope s_parts_of) := ⟨rfl, rfl, rfl, by decide +kernel, rfl, by decide +kernel, by decide +kernel⟩
abbrev s_all_tests : Stmt := topS 9
abbrev N_all_tests : List Str := ["forms", "word", "rule", "row", "test"]
theorem sc_all_tests : FnScope N_all_tests ["forms"] (defScope s_all_tests) := ⟨rfl, rfl, rfl, by decide +kernel, rfl, by decide +kernel, by decide +kernel⟩
abbrev s_common_divisor : Stmt := topS 10
abbrev N_common_divisor : List Str := ["one", "other"]
theorem sc_common_divisor : FnScope N_common_divisor ["one", "other"] (defScope s_common_divisor) := ⟨rfl, rfl, rfl, by decide +kernel, rfl, by decide +kernel, by decide +kernel⟩
abbrev s_round_of : Stmt := topS 11
abbrev N_round_of : List Str := ["forms", "least", "what", "by", "low", "high", "yes"]
theorem sc_round_of : FnScope N_round_of ["forms"] (defScope s_round_of) := ⟨rfl, rfl, rfl, by decide +kernel, rfl, by decide +kernel, by decide +kernel⟩
abbrev s_holds_of : Stmt := topS 12
abbrev N_holds_of : List Str := ["test", "number", "what", "by", "low", "high", "yes", "left"]
theorem sc_holds_of : FnScope N_holds_of ["test", "number"] (defScope s_holds_of) := ⟨rfl, rfl, rfl, by decide +kernel, rfl, by decide +kernel, by decide +kernel⟩
abbrev s_rule_holds : Stmt := topS 13
abbrev N_rule_holds : List Str := ["rule", "parts", "test", "row"]
theorem sc_rule_holds : FnScope N_rule_holds ["rule", "parts"] (defScope s_rule_holds) := ⟨rfl, rfl, rfl, by decide +kernel, rfl, by decide +kernel, by decide +kernel⟩
abbrev s_forms_of : Stmt := topS 14
abbrev N_forms_of : List Str := ["forms", "count", "parts", "word", "rule"]
theorem sc_forms_of : FnScope N_forms_of ["forms", "count"] (defScope s_forms_of) := ⟨rfl, rfl, rfl, by decide +kernel, rfl, by decide +kernel, by decide +kernel⟩
abbrev s_row_bits : Stmt := topS 16
abbrev N_row_bits : List Str := ["forms", "what", "number", "bits", "bit", "word", "rule", "row", "test"]
theorem sc_row_bits : FnScope N_row_bits ["forms", "what", "number"] (defScope s_row_bits) := ⟨rfl, rfl, rfl, by decide +kernel, rfl, by decide +kernel, by decide +kernel⟩
abbrev s_form_bits : Stmt := topS 17
abbrev N_form_bits : List Str := ["forms", "pairs", "bit", "word", "rule", "own", "row"]
theorem sc_form_bits : FnScope N_form_bits ["forms"] (defScope s_form_bits) := ⟨rfl, rfl, rfl, by decide +kernel, rfl, by decide +kernel, by decide +kernel⟩
abbrev s_words_with : Stmt := topS 18
abbrev N_words_with : List Str := ["pairs", "bits", "word", "own"]
theorem sc_words_with : FnScope N_words_with ["pairs", "bits"] (defScope s_words_with) := ⟨rfl, rfl, rfl, by decide +kernel, rfl, by decide +kernel, by decide +kernel⟩
abbrev s_unlike : Stmt := topS 19
abbrev N_unlike : List Str := ["forms", "what", "numbers", "first", "number", "bits"]
theorem sc_unlike : FnScope N_unlike ["forms", "what", "numbers"] (defScope s_unlike) := ⟨rfl, rfl, rfl, by decide +kernel, rfl, by decide +kernel, by decide +kernel⟩
abbrev s_first_far : Stmt := topS 20
abbrev N_first_far : List Str := ["forms", "what", "by", "low", "high", "yes"]
theorem sc_first_far : FnScope N_first_far ["forms"] (defScope s_first_far) := ⟨rfl, rfl, rfl, by decide +kernel, rfl, by decide +kernel, by decide +kernel⟩
abbrev s_amiss : Stmt := topS 21
abbrev N_amiss : List Str := ["forms", "wholes", "places", "pairs", "held", "scale", "rests", "whole", "whole_bits", "rest", "rest_bits", "words"]
theorem sc_amiss : FnScope N_amiss ["forms", "wholes", "places"] (defScope s_amiss) := ⟨rfl, rfl, rfl, by decide +kernel, rfl, by decide +kernel, by decide +kernel⟩
abbrev s_cover : Stmt := topS 22
abbrev N_cover : List Str := ["forms", "wholes", "places", "paper"]
theorem sc_cover : FnScope N_cover ["forms"] (defScope s_cover) := ⟨rfl, rfl, rfl, by decide +kernel, rfl, by decide +kernel, by decide +kernel⟩
abbrev s_cover_holds : Stmt := topS 23
abbrev N_cover_holds : List Str := ["forms", "thing", "many"]
theorem sc_cover_holds : FnScope N_cover_holds ["forms", "thing"] (defScope s_cover_holds) := ⟨rfl, rfl, rfl, by decide +kernel, rfl, by decide +kernel, by decide +kernel⟩
abbrev s_l_deck : Stmt := topS 25
abbrev N_l_deck : List Str := ["_law_script", "_law_cell"]
theorem sc_l_deck : FnScope N_l_deck ["_law_script"] (defScope s_l_deck) := ⟨rfl, rfl, rfl, by decide +kernel, rfl, by decide +kernel, by decide +kernel⟩
abbrev s_l_draw : Stmt := topS 26
abbrev N_l_draw : List Str := ["_law_deck_here", "_law_many", "_law_cell", "_law_place"]
theorem sc_l_draw : FnScope N_l_draw ["_law_deck_here", "_law_many"] (defScope s_l_draw) := ⟨rfl, rfl, rfl, by decide +kernel, rfl, by decide +kernel, by decide +kernel⟩
abbrev s_l_names : Stmt := topS 27
abbrev N_l_names : List Str := ["_law_deck_here", "_law_many", "_law_letters", "_law_stem", "_law_k", "_law_at", "_law_first"]
theorem sc_l_names : FnScope N_l_names ["_law_deck_here", "_law_many"] (defScope s_l_names) := ⟨rfl, rfl, rfl, by decide +kernel, rfl, by decide +kernel, by decide +kernel⟩
abbrev s_l_test : Stmt := topS 28
abbrev N_l_test : List Str := ["_law_deck_here", "_law_menu", "_law_what", "_law_by", "_law_top", "_law_low", "_law_high"]
theorem sc_l_test : FnScope N_l_test ["_law_deck_here", "_law_menu"] (defScope s_l_test) := ⟨rfl, rfl, rfl, by decide +kernel, rfl, by decide +kernel, by decide +kernel⟩
abbrev s_l_turned : Stmt := topS 29
abbrev N_l_turned : List Str := ["_law_test_here"]
theorem sc_l_turned : FnScope N_l_turned ["_law_test_here"] (defScope s_l_turned) := ⟨rfl, rfl, rfl, by decide +kernel, rfl, by decide +kernel, by decide +kernel⟩
abbrev s_l_covering : Stmt := topS 30
abbrev N_l_covering : List Str := ["_law_deck_here", "_law_menu", "_law_by", "_law_tests", "_law_k", "_law_rows", "_law_test_here", "_law_names_here", "_law_many", "_law_rules", "_law_forms", "_law_first"]
theorem sc_l_covering : FnScope N_l_covering ["_law_deck_here"] (defScope s_l_covering) := ⟨rfl, rfl, rfl, by decide +kernel, rfl, by decide +kernel, by decide +kernel⟩
abbrev s_l_holds : Stmt := topS 31
abbrev N_l_holds : List Str := ["_law_test_here", "_law_n", "_law_d", "_law_what", "_law_by", "_law_low", "_law_high", "_law_yes", "_law_ten", "_law_number"]
theorem sc_l_holds : FnScope N_l_holds ["_law_test_here", "_law_n", "_law_d"] (defScope s_l_holds) := ⟨rfl, rfl, rfl, by decide +kernel, rfl, by decide +kernel, by decide +kernel⟩
abbrev s_l_words : Stmt := topS 32
abbrev N_l_words : List Str := ["_law_forms", "_law_n", "_law_d", "_law_found", "_law_word", "_law_rule", "_law_row", "_law_test_here"]
theorem sc_l_words : FnScope N_l_words ["_law_forms", "_law_n", "_law_d"] (defScope s_l_words) := ⟨rfl, rfl, rfl, by decide +kernel, rfl, by decide +kernel, by decide +kernel⟩
abbrev s_l_bent_forms : Stmt := topS 33
abbrev N_l_bent_forms : List Str := ["_law_deck_here", "_law_forms", "_law_at", "_law_word", "_law_rule", "_law_way", "_law_spot", "_law_row", "_law_k", "_law_what", "_law_by", "_law_low", "_law_high", "_law_yes", "_law_far", "_law_name", "_law_one", "_law_other"]
theorem sc_l_bent_forms : FnScope N_l_bent_forms ["_law_deck_here", "_law_forms"] (defScope s_l_bent_forms) := ⟨rfl, rfl, rfl, by decide +kernel, rfl, by decide +kernel, by decide +kernel⟩
abbrev s_l_firsts : Stmt := topS 34
abbrev N_l_firsts : List Str := ["_law_forms", "_law_what", "_law_many", "_law_d", "_law_tests", "_law_word", "_law_rule", "_law_row", "_law_test_here", "_law_found", "_law_number"]
theorem sc_l_firsts : FnScope N_l_firsts ["_law_forms", "_law_what", "_law_many", "_law_d"] (defScope s_l_firsts) := ⟨rfl, rfl, rfl, by decide +kernel, rfl, by decide +kernel, by decide +kernel⟩
abbrev s_l_cover : Stmt := topS 35
abbrev N_l_cover : List Str := ["_law_forms", "_law_wholes", "_law_d", "_law_rests", "_law_whole_here", "_law_rest", "_law_n", "_law_many"]
theorem sc_l_cover : FnScope N_l_cover ["_law_forms"] (defScope s_l_cover) := ⟨rfl, rfl, rfl, by decide +kernel, rfl, by decide +kernel, by decide +kernel⟩
abbrev s_l_odd : Stmt := topS 36
abbrev N_l_odd : List Str := ["_law_deck_here", "_law_some"]
theorem sc_l_odd : FnScope N_l_odd ["_law_deck_here"] (defScope s_l_odd) := ⟨rfl, rfl, rfl, by decide +kernel, rfl, by decide +kernel, by decide +kernel⟩
abbrev s_l_bent : Stmt := topS 37
abbrev N_l_bent : List Str := ["_law_deck_here", "_law_thing", "_law_deep", "_law_at", "_law_way", "_law_more"]
theorem sc_l_bent : FnScope N_l_bent ["_law_deck_here", "_law_thing", "_law_deep"] (defScope s_l_bent) := ⟨rfl, rfl, rfl, by decide +kernel, rfl, by decide +kernel, by decide +kernel⟩
abbrev s_l_whole : Stmt := topS 38
abbrev N_l_whole : List Str := ["_law_thing"]
theorem sc_l_whole : FnScope N_l_whole ["_law_thing"] (defScope s_l_whole) := ⟨rfl, rfl, rfl, by decide +kernel, rfl, by decide +kernel, by decide +kernel⟩
abbrev s_l_due : Stmt := topS 39
abbrev N_l_due : List Str := ["_law_forms", "_law_thing", "_law_covers", "_law_n", "_law_d", "_law_many"]
theorem sc_l_due : FnScope N_l_due ["_law_forms", "_law_thing", "_law_covers"] (defScope s_l_due) := ⟨rfl, rfl, rfl, by decide +kernel, rfl, by decide +kernel, by decide +kernel⟩
abbrev s_law : Stmt := topS 40
abbrev N_law : List Str := ["_law_script", "_law_deck_here", "_law_forms", "_law_time", "_law_due_here", "_law_some", "_law_d", "_law_n", "_law_thing", "_law_kept", "_law_found"]
theorem sc_law : FnScope N_law ["_law_script"] (defScope s_law) := ⟨rfl, rfl, rfl, by decide +kernel, rfl, by decide +kernel, by decide +kernel⟩
structure Tx (K : PySem.W.Frag) (mg : Str → Option Value) where
  a_is_number : Addr
  d_is_number : FuncData
  F_is_number : FunD K "is_number" "is_number" (defArgs s_is_number) (defBody s_is_number) (defScope s_is_number) [.int 0, .int 1000000000000] [] a_is_number d_is_number
  g_is_number : mg "is_number" = some (.ref a_is_number)
  b_is_number : Binds K d_is_number ["thing", "low", "high"] []
  e_is_number_1 : ∃ ds, Vals [.int 0, .int 1000000000000] ds ∧ Binds K d_is_number ["thing", "low", "high"] ds
  a_is_tuple : Addr
  d_is_tuple : FuncData
  F_is_tuple : Fun K "is_tuple" "is_tuple" s_is_tuple a_is_tuple d_is_tuple
  g_is_tuple : mg "is_tuple" = some (.ref a_is_tuple)
  b_is_tuple : Binds K d_is_tuple ["thing", "least", "most"] []
  a_is_count : Addr
  d_is_count : FuncData
  F_is_count : Fun K "is_count" "is_count" s_is_count a_is_count d_is_count
  g_is_count : mg "is_count" = some (.ref a_is_count)
  b_is_count : Binds K d_is_count ["thing"] []
  a_scale_of : Addr
  d_scale_of : FuncData
  F_scale_of : Fun K "scale_of" "scale_of" s_scale_of a_scale_of d_scale_of
  g_scale_of : mg "scale_of" = some (.ref a_scale_of)
  b_scale_of : Binds K d_scale_of ["places"] []
  a_parts_of : Addr
  d_parts_of : FuncData
  F_parts_of : Fun K "parts_of" "parts_of" s_parts_of a_parts_of d_parts_of
  g_parts_of : mg "parts_of" = some (.ref a_parts_of)
  b_parts_of : Binds K d_parts_of ["count"] []
  a_all_tests : Addr
  d_all_tests : FuncData
  F_all_tests : Fun K "all_tests" "all_tests" s_all_tests a_all_tests d_all_tests
  g_all_tests : mg "all_tests" = some (.ref a_all_tests)
  b_all_tests : Binds K d_all_tests ["forms"] []
  a_common_divisor : Addr
  d_common_divisor : FuncData
  F_common_divisor : Fun K "common_divisor" "common_divisor" s_common_divisor a_common_divisor d_common_divisor
  g_common_divisor : mg "common_divisor" = some (.ref a_common_divisor)
  b_common_divisor : Binds K d_common_divisor ["one", "other"] []
  a_round_of : Addr
  d_round_of : FuncData
  F_round_of : Fun K "round_of" "round_of" s_round_of a_round_of d_round_of
  g_round_of : mg "round_of" = some (.ref a_round_of)
  b_round_of : Binds K d_round_of ["forms"] []
  a_holds_of : Addr
  d_holds_of : FuncData
  F_holds_of : Fun K "holds_of" "holds_of" s_holds_of a_holds_of d_holds_of
  g_holds_of : mg "holds_of" = some (.ref a_holds_of)
  b_holds_of : Binds K d_holds_of ["test", "number"] []
  a_rule_holds : Addr
  d_rule_holds : FuncData
  F_rule_holds : Fun K "rule_holds" "rule_holds" s_rule_holds a_rule_holds d_rule_holds
  g_rule_holds : mg "rule_holds" = some (.ref a_rule_holds)
  b_rule_holds : Binds K d_rule_holds ["rule", "parts"] []
  a_forms_of : Addr
  d_forms_of : FuncData
  F_forms_of : Fun K "forms_of" "forms_of" s_forms_of a_forms_of d_forms_of
  g_forms_of : mg "forms_of" = some (.ref a_forms_of)
  b_forms_of : Binds K d_forms_of ["forms", "count"] []
  a_row_bits : Addr
  d_row_bits : FuncData
  F_row_bits : Fun K "row_bits" "row_bits" s_row_bits a_row_bits d_row_bits
  g_row_bits : mg "row_bits" = some (.ref a_row_bits)
  b_row_bits : Binds K d_row_bits ["forms", "what", "number"] []
  a_form_bits : Addr
  d_form_bits : FuncData
  F_form_bits : Fun K "form_bits" "form_bits" s_form_bits a_form_bits d_form_bits
  g_form_bits : mg "form_bits" = some (.ref a_form_bits)
  b_form_bits : Binds K d_form_bits ["forms"] []
  a_words_with : Addr
  d_words_with : FuncData
  F_words_with : Fun K "words_with" "words_with" s_words_with a_words_with d_words_with
  g_words_with : mg "words_with" = some (.ref a_words_with)
  b_words_with : Binds K d_words_with ["pairs", "bits"] []
  a_unlike : Addr
  d_unlike : FuncData
  F_unlike : Fun K "unlike" "unlike" s_unlike a_unlike d_unlike
  g_unlike : mg "unlike" = some (.ref a_unlike)
  b_unlike : Binds K d_unlike ["forms", "what", "numbers"] []
  a_first_far : Addr
  d_first_far : FuncData
  F_first_far : Fun K "first_far" "first_far" s_first_far a_first_far d_first_far
  g_first_far : mg "first_far" = some (.ref a_first_far)
  b_first_far : Binds K d_first_far ["forms"] []
  a_amiss : Addr
  d_amiss : FuncData
  F_amiss : Fun K "amiss" "amiss" s_amiss a_amiss d_amiss
  g_amiss : mg "amiss" = some (.ref a_amiss)
  b_amiss : Binds K d_amiss ["forms", "wholes", "places"] []
  a_cover : Addr
  d_cover : FuncData
  F_cover : Fun K "cover" "cover" s_cover a_cover d_cover
  g_cover : mg "cover" = some (.ref a_cover)
  b_cover : Binds K d_cover ["forms"] []
  a_cover_holds : Addr
  d_cover_holds : FuncData
  F_cover_holds : Fun K "cover_holds" "cover_holds" s_cover_holds a_cover_holds d_cover_holds
  g_cover_holds : mg "cover_holds" = some (.ref a_cover_holds)
  b_cover_holds : Binds K d_cover_holds ["forms", "thing"] []
  a_l_deck : Addr
  d_l_deck : FuncData
  F_l_deck : Fun K "_law_deck" "_law_deck" s_l_deck a_l_deck d_l_deck
  g_l_deck : mg "_law_deck" = some (.ref a_l_deck)
  b_l_deck : Binds K d_l_deck ["_law_script"] []
  a_l_draw : Addr
  d_l_draw : FuncData
  F_l_draw : Fun K "_law_draw" "_law_draw" s_l_draw a_l_draw d_l_draw
  g_l_draw : mg "_law_draw" = some (.ref a_l_draw)
  b_l_draw : Binds K d_l_draw ["_law_deck_here", "_law_many"] []
  a_l_names : Addr
  d_l_names : FuncData
  F_l_names : Fun K "_law_names" "_law_names" s_l_names a_l_names d_l_names
  g_l_names : mg "_law_names" = some (.ref a_l_names)
  b_l_names : Binds K d_l_names ["_law_deck_here", "_law_many"] []
  a_l_test : Addr
  d_l_test : FuncData
  F_l_test : Fun K "_law_test" "_law_test" s_l_test a_l_test d_l_test
  g_l_test : mg "_law_test" = some (.ref a_l_test)
  b_l_test : Binds K d_l_test ["_law_deck_here", "_law_menu"] []
  a_l_turned : Addr
  d_l_turned : FuncData
  F_l_turned : Fun K "_law_turned" "_law_turned" s_l_turned a_l_turned d_l_turned
  g_l_turned : mg "_law_turned" = some (.ref a_l_turned)
  b_l_turned : Binds K d_l_turned ["_law_test_here"] []
  a_l_covering : Addr
  d_l_covering : FuncData
  F_l_covering : Fun K "_law_covering" "_law_covering" s_l_covering a_l_covering d_l_covering
  g_l_covering : mg "_law_covering" = some (.ref a_l_covering)
  b_l_covering : Binds K d_l_covering ["_law_deck_here"] []
  a_l_holds : Addr
  d_l_holds : FuncData
  F_l_holds : Fun K "_law_holds" "_law_holds" s_l_holds a_l_holds d_l_holds
  g_l_holds : mg "_law_holds" = some (.ref a_l_holds)
  b_l_holds : Binds K d_l_holds ["_law_test_here", "_law_n", "_law_d"] []
  a_l_words : Addr
  d_l_words : FuncData
  F_l_words : Fun K "_law_words" "_law_words" s_l_words a_l_words d_l_words
  g_l_words : mg "_law_words" = some (.ref a_l_words)
  b_l_words : Binds K d_l_words ["_law_forms", "_law_n", "_law_d"] []
  a_l_bent_forms : Addr
  d_l_bent_forms : FuncData
  F_l_bent_forms : Fun K "_law_bent_forms" "_law_bent_forms" s_l_bent_forms a_l_bent_forms d_l_bent_forms
  g_l_bent_forms : mg "_law_bent_forms" = some (.ref a_l_bent_forms)
  b_l_bent_forms : Binds K d_l_bent_forms ["_law_deck_here", "_law_forms"] []
  a_l_firsts : Addr
  d_l_firsts : FuncData
  F_l_firsts : Fun K "_law_firsts" "_law_firsts" s_l_firsts a_l_firsts d_l_firsts
  g_l_firsts : mg "_law_firsts" = some (.ref a_l_firsts)
  b_l_firsts : Binds K d_l_firsts ["_law_forms", "_law_what", "_law_many", "_law_d"] []
  a_l_cover : Addr
  d_l_cover : FuncData
  F_l_cover : Fun K "_law_cover" "_law_cover" s_l_cover a_l_cover d_l_cover
  g_l_cover : mg "_law_cover" = some (.ref a_l_cover)
  b_l_cover : Binds K d_l_cover ["_law_forms"] []
  a_l_odd : Addr
  d_l_odd : FuncData
  F_l_odd : Fun K "_law_odd" "_law_odd" s_l_odd a_l_odd d_l_odd
  g_l_odd : mg "_law_odd" = some (.ref a_l_odd)
  b_l_odd : Binds K d_l_odd ["_law_deck_here"] []
  a_l_bent : Addr
  d_l_bent : FuncData
  F_l_bent : Fun K "_law_bent" "_law_bent" s_l_bent a_l_bent d_l_bent
  g_l_bent : mg "_law_bent" = some (.ref a_l_bent)
  b_l_bent : Binds K d_l_bent ["_law_deck_here", "_law_thing", "_law_deep"] []
  a_l_whole : Addr
  d_l_whole : FuncData
  F_l_whole : Fun K "_law_whole" "_law_whole" s_l_whole a_l_whole d_l_whole
  g_l_whole : mg "_law_whole" = some (.ref a_l_whole)
  b_l_whole : Binds K d_l_whole ["_law_thing"] []
  a_l_due : Addr
  d_l_due : FuncData
  F_l_due : Fun K "_law_due" "_law_due" s_l_due a_l_due d_l_due
  g_l_due : mg "_law_due" = some (.ref a_l_due)
  b_l_due : Binds K d_l_due ["_law_forms", "_law_thing", "_law_covers"] []
  a_law : Addr
  d_law : FuncData
  F_law : Fun K "law" "law" s_law a_law d_law
  g_law : mg "law" = some (.ref a_law)
  b_law : Binds K d_law ["_law_script"] []
  m_abs : mg "abs" = none
  m_all : mg "all" = none
  m_any : mg "any" = none
  m_bool : mg "bool" = none
  m_divmod : mg "divmod" = none
  m_int : mg "int" = none
  m_isinstance : mg "isinstance" = none
  m_len : mg "len" = none
  m_list : mg "list" = none
  m_max : mg "max" = none
  m_min : mg "min" = none
  m_range : mg "range" = none
  m_repr : mg "repr" = none
  m_sorted : mg "sorted" = none
  m_str : mg "str" = none
  m_tuple : mg "tuple" = none
  u_MOST_PLACES : Value
  c_MOST_PLACES : mg "MOST_PLACES" = some u_MOST_PLACES ∧ RelV (.int 2) u_MOST_PLACES ∧ ∀ (M : Addr → Prop) (H : Hp), Rep K M H (.int 2) (.int 2)
section
variable {P : Program} {w : World} {K : PySem.W.Frag} {mg : Str → Option Value} {base : Heap}
def m_is_number : MS := (sRet (mAnd (mUn (isiD "int") (mVar 0)) (mAnd (mUn notD (mUn (isiD "bool") (mVar 0))) (mChain leD leD (mVar 1) (mVar 0) (mVar 2)))))
def f_is_number : List D → Option D := fnP 3 3 m_is_number
theorem ok_is_number (T : Tx K mg) : FnOk P w K mg base CX0 1 T.a_is_number T.d_is_number ["thing", "low", "high"] (spP K f_is_number) := okPD (k := 0) T.F_is_number sc_is_number (by decide) fun cdv A outer s0 H E hr =>
  ((pdss_one (pds_ret (pd_and (pd_isi (T := "int") (t := "int") (by decide +kernel) T.m_isinstance T.m_int (pd_var 0)) (pd_and (pd_not (pd_isi (T := "bool") (t := "bool") (by decide +kernel) T.m_isinstance T.m_bool (pd_var 0))) (pd_one (pd_chain cs_le cs_le (pd_var 1) (pd_var 0) (pd_var 2))))))) : PDSs _ _ m_is_number)
def m_is_tuple : MS := (sRet (mAnd (mUn (isiD "tuple") (mVar 0)) (mChain leD leD (mVar 1) (mCall lenD (mCons (mVar 0) mNil)) (mVar 2))))
def f_is_tuple : List D → Option D := fnP 3 3 m_is_tuple
theorem ok_is_tuple (T : Tx K mg) : FnOk P w K mg base CX0 1 T.a_is_tuple T.d_is_tuple ["thing", "least", "most"] (spP K f_is_tuple) := okP (k := 0) T.F_is_tuple sc_is_tuple (by decide) fun cdv A outer s0 H E hr =>
  ((pdss_one (pds_ret (pd_and (pd_isi (T := "tuple") (t := "tuple") (by decide +kernel) T.m_isinstance T.m_tuple (pd_var 0)) (pd_one (pd_chain cs_le cs_le (pd_var 1) (pd_len T.m_len (pda_cons (pd_var 0) pda_nil)) (pd_var 2)))))) : PDSs _ _ m_is_tuple)
def m_scale_of : MS := (sSeq (sAsg (mC (.int 1)) (gSet 1))
  (sSeq (sFor (mRng1 (mVar 0)) (gSet 2) (sAug 1 mulI (mC (.int 10))))
  (sRet (mVar 1))))
def f_scale_of : List D → Option D := fnP 3 1 m_scale_of
theorem ok_scale_of (T : Tx K mg) : FnOk P w K mg base CX0 1 T.a_scale_of T.d_scale_of ["places"] (spP K f_scale_of) := okP (k := 0) T.F_scale_of sc_scale_of (by decide) fun cdv A outer s0 H E hr =>
  ((pdss_cons (pds_set 1 sc_scale_of.nd pd_int) (pdss_cons (pds_for PassesOwn.never rfl (pdi_range1 T.m_range (pd_var 0)) (pdg_name 2 sc_scale_of.nd) (pdss_one (pds_aug 1 sc_scale_of.nd as_mul pd_int))) (pdss_one (pds_ret (pd_var 1))))) : PDSs _ _ m_scale_of)
def m_all_tests : MS := (sRet (mLcN (mFor (mItems (mVar 0)) [1, 2, 3, 4] (gTupM 2 (gsCons (gSet 1) (gsCons (gSet 2) gsNil))) mYes (mFor (mItems (mVar 2)) [3, 4] (gSet 3) mYes (mFor (mItems (mVar 3)) [4] (gSet 4) mYes (mOne (mVar 4)))))))
def f_all_tests : List D → Option D := fnP 5 1 m_all_tests
theorem ok_all_tests (T : Tx K mg) : FnOk P w K mg base CX0 1 T.a_all_tests T.d_all_tests ["forms"] (spP K f_all_tests) := okP (k := 0) T.F_all_tests sc_all_tests (by decide) fun cdv A outer s0 H E hr =>
  ((pdss_one (pds_ret (pd_lcN (own := [("word", 1), ("rule", 2), ("row", 3), ("test", 4)]) rfl sc_all_tests.nd (pdi_seq (pd_var 0)) (blkOk_by (own := [("word", 1), ("rule", 2), ("row", 3), ("test", 4)]) (N := N_all_tests) (sc := defScope s_all_tests) (by decide +kernel)) (fun _ _ _ _ _ => (pdg_tup rfl (pdgs_cons (pdg_name 1 sc_all_tests.nd) (pdgs_cons (pdg_name 2 sc_all_tests.nd) pdgs_nil)))) (fun _ _ _ _ _ => pdts_nil) (by decide) (bn_cons (vs1 := [3, 4]) (by decide) (fun _ _ _ _ _ => (pdi_seq (pd_var 2))) (fun _ _ _ _ _ => (pdg_name 3 sc_all_tests.nd)) (fun _ _ _ _ _ => pdts_nil) (by decide) (bn_cons (vs1 := [4]) (by decide) (fun _ _ _ _ _ => (pdi_seq (pd_var 3))) (fun _ _ _ _ _ => (pdg_name 4 sc_all_tests.nd)) (fun _ _ _ _ _ => pdts_nil) (by decide) (bn_nil fun _ _ _ _ _ => (pd_var 4))))))) : PDSs _ _ m_all_tests)
def m_common_divisor : MS := (sSeq (whileL (mB (mBin neD (mVar 1) (mC (.int 0)))) (sAsg (mTup (mCons (mVar 1) (mCons (mBin modD (mVar 0) (mVar 1)) mNil))) (gSwapM 0 1)) 100000)
  (sRet (mVar 0)))
def f_common_divisor : List D → Option D := fnP 2 2 m_common_divisor
theorem ok_common_divisor (T : Tx K mg) : FnOk P w K mg base CX0 1 T.a_common_divisor T.d_common_divisor ["one", "other"] (spP K f_common_divisor) := okP (k := 0) T.F_common_divisor sc_common_divisor (by decide) fun cdv A outer s0 H E hr =>
  ((pdss_cons (pds_while 100000 PassesOwn.never (pdt_cmp (cs_ne hr.units) (pd_var 1) pd_int (nomark _)) (pdss_one (pds_swap 0 1 rfl sc_common_divisor.nd (pd_tup (pda_cons (pd_var 1) (pda_cons (pd_mod (pd_var 0) (pd_var 1)) pda_nil)))))) (pdss_one (pds_ret (pd_var 0)))) : PDSs _ _ m_common_divisor)
def m_holds_of : MS := (sSeq (sAsg (mVar 0) (gTupM 5 (gsCons (gSet 2) (gsCons (gSet 3) (gsCons (gSet 4) (gsCons (gSet 5) (gsCons (gSet 6) gsNil)))))))
  (sSeq (sAsg (mIf (mB (mBin eqD (mVar 3) (mC (.int 0)))) (mVar 1) (mBin modD (mVar 1) (mVar 3))) (gSet 7))
  (sRet (mBin eqD (mChain leD leD (mVar 4) (mVar 7) (mVar 5)) (mVar 6)))))
def f_holds_of : List D → Option D := fnP 8 2 m_holds_of
theorem ok_holds_of (T : Tx K mg) : FnOk P w K mg base CX0 1 T.a_holds_of T.d_holds_of ["test", "number"] (spP K f_holds_of) := okP (k := 0) T.F_holds_of sc_holds_of (by decide) fun cdv A outer s0 H E hr =>
  ((pdss_cons (pds_asg (pd_var 0) (pdg_tup rfl (pdgs_cons (pdg_name 2 sc_holds_of.nd) (pdgs_cons (pdg_name 3 sc_holds_of.nd) (pdgs_cons (pdg_name 4 sc_holds_of.nd) (pdgs_cons (pdg_name 5 sc_holds_of.nd) (pdgs_cons (pdg_name 6 sc_holds_of.nd) pdgs_nil))))))) (pdss_cons (pds_set 7 sc_holds_of.nd (pd_ifExp (pdt_cmp (cs_eq hr.units) (pd_var 3) pd_int (nomark _)) (pd_var 1) (pd_mod (pd_var 1) (pd_var 3)))) (pdss_one (pds_ret (pd_cmp (cs_eq hr.units) (pd_chain cs_le cs_le (pd_var 4) (pd_var 7) (pd_var 5)) (pd_var 6) (nomark _)))))) : PDSs _ _ m_holds_of)
def m_form_bits : MS := (sSeq (sUni 1 mNil)
  (sSeq (sAsg (mC (.int 1)) (gSet 2))
  (sSeq (sFor (mItems (mVar 0)) (gTupM 2 (gsCons (gSet 3) (gsCons (gSet 4) gsNil))) (sSeq (sAsg (mC (.int 0)) (gSet 5))
  (sSeq (sFor (mItems (mVar 4)) (gSet 6) (sSeq (sAug 5 (onI (fun _ _ => true) fun i j => .int (i + j)) (mVar 2))
  (sAug 2 mulI (mC (.int 2)))))
  (sApp 1 (mTup (mCons (mVar 3) (mCons (mVar 5) mNil)))))))
  (sFrz 1 (sRet (mVar 1))))))
def f_form_bits : List D → Option D := fnP 7 1 m_form_bits
theorem ok_form_bits (T : Tx K mg) : FnOk P w K mg base CX0 1 T.a_form_bits T.d_form_bits ["forms"] (spP K f_form_bits) := okP (k := 0) T.F_form_bits sc_form_bits (by decide) fun cdv A outer s0 H E hr =>
  ((pdss_cons (pds_uni 1 sc_form_bits.nd pda_nil) (pdss_cons (pds_set 2 sc_form_bits.nd pd_int) (pdss_cons (pds_for PassesOwn.never rfl (pdi_seq (pd_var 0)) (pdg_tup rfl (pdgs_cons (pdg_name 3 sc_form_bits.nd) (pdgs_cons (pdg_name 4 sc_form_bits.nd) pdgs_nil))) (pdss_cons (pds_set 5 sc_form_bits.nd pd_int) (pdss_cons (pds_for PassesOwn.never rfl (pdi_seq (pd_var 4)) (pdg_name 6 sc_form_bits.nd) (pdss_cons (pds_aug 5 sc_form_bits.nd as_add (pd_var 2)) (pdss_one (pds_aug 2 sc_form_bits.nd as_mul pd_int)))) (pdss_one (pds_app 1 (pd_tup (pda_cons (pd_var 3) (pda_cons (pd_var 5) pda_nil)))))))) (pdss_frz 1 (pdss_one (pds_ret (pd_var 1))))))) : PDSs _ _ m_form_bits)
def m_words_with : MS := (sRet (mLc (mItems (mVar 0)) [2, 3] (gTupM 2 (gsCons (gSet 2) (gsCons (gSet 3) gsNil))) (mB (mBin neD (mBin bandD (mVar 3) (mVar 1)) (mC (.int 0)))) (mVar 2)))
def f_words_with : List D → Option D := fnP 4 2 m_words_with
theorem ok_words_with (T : Tx K mg) : FnOk P w K mg base CX0 1 T.a_words_with T.d_words_with ["pairs", "bits"] (spP K f_words_with) := okP (k := 0) T.F_words_with sc_words_with (by decide) fun cdv A outer s0 H E hr =>
  ((pdss_one (pds_ret (pd_lc (own := [("word", 2), ("own", 3)]) rfl sc_words_with.nd (pdi_seq (pd_var 0)) (blkOk_by (own := [("word", 2), ("own", 3)]) (N := N_words_with) (sc := defScope s_words_with) (by decide +kernel)) ⟨fun _ _ _ _ _ => (pdg_tup rfl (pdgs_cons (pdg_name 2 sc_words_with.nd) (pdgs_cons (pdg_name 3 sc_words_with.nd) pdgs_nil))), fun _ _ _ _ _ => (pdts_one (pdt_cmp (cs_ne hr.units) (pd_band (pd_var 3) (pd_var 1)) pd_int (nomark _))), fun _ _ _ _ _ => (pd_var 2), by decide⟩))) : PDSs _ _ m_words_with)
theorem ok_l_deck (T : Tx K mg) : FnOk P w K mg base CX0 1 T.a_l_deck T.d_l_deck ["_law_script"] (spDeck K deckO) := by
  refine T.F_l_deck.ok sc_l_deck (fun vs H Q E h => ?_) (fun cdv A outer s0 H vs Q E hr h => ?_)
  · obtain ⟨a, ns, rfl, _⟩ := h
    rfl
  · obtain ⟨a, ns, rfl, hS, q⟩ := h
    refine ⟨_, pss_one (ps_ret (pe_lst (pa_cons (pe_lc (own := [("_law_cell", 1)]) (g := gName 1) (tt := tYes) rfl sc_l_deck.nd (pi_list (pe_slice sl_list (pv 0) po_none (po_some pe_int)))
      (blkOk_by (own := [("_law_cell", 1)]) (N := N_l_deck) (sc := defScope s_l_deck) (by decide +kernel)) (fun _ _ _ _ _ => pg_name (i := 1) sc_l_deck.nd rfl (Or.inl rfl)) (fun _ _ _ _ _ => pts_nil)
      (fun _ _ _ _ _ => pe_callB call_abs (by rfl) T.m_abs (by decide +kernel) (pa_cons (pv 1) pa_nil))) (pa_cons pe_int pa_nil)))), ?_⟩
    exact snd_deckO hS q
def f_l_draw : List D → Dk → Option (D × Dk) := fDraw
theorem ok_l_draw (T : Tx K mg) : FnOk P w K mg base CX0 1 T.a_l_draw T.d_l_draw ["_law_deck_here", "_law_many"] (spK K f_l_draw) := by
  refine T.F_l_draw.ok sc_l_draw (fun vs H Q E h => ?_) (fun cdv A outer s0 H vs Q E hr h => ?_)
  · obtain ⟨M, p, ws, ds, δ, r, δ', rfl, hM, _, _, _, _, R, hm, q⟩ := h
    unfold f_l_draw fDraw at hm
    split at hm
    · rw [List.length_cons, R.length]; rfl
    · cases hm
  · obtain ⟨M, p, ws, ds, δ, rr, δ', rfl, hM, m1, m2, m3, dk, R, hm, q⟩ := h
    unfold f_l_draw fDraw at hm
    split at hm
    · rename_i many
      split at hm
      · rename_i ok
        obtain ⟨b0, b1, b2, b4, b5⟩ := of_decide_eq_true (p := 0 < many ∧ many ≤ 10000000000000 ∧ δ.rests = [] ∧ 0 ≤ δ.k ∧ δ.k ≤ 900000000) ok
        replace dk := dk.old b2
        obtain ⟨v, rfl, rv⟩ := reps1 R
        cases rv
        refine ⟨_, pss_cons (ps_asg (pe_op op_add (pe_ix ix_list (pv 0) pe_int (fun _ _ => rfl)) pe_int) (pg_sub (pv 0) pe_int set_list))
          (pss_cons (ps_set (i := 2) sc_l_draw.nd rfl (by first | exact Or.inl rfl | exact Or.inr rfl) pe_int)
          (pss_cons (ps_set (i := 3) sc_l_draw.nd rfl (by first | exact Or.inl rfl | exact Or.inr rfl) (pe_un un_neg pe_int))
          (pss_cons (ps_if (pt_cmp (pc_gt (pe_callB call_len (by rfl) T.m_len PySem.boot_len (pa_cons (pe_ix ix_list (pv 0) pe_int (fun _ _ => rfl)) pa_nil)) pe_int))
              (pss_cons (ps_set (i := 3) sc_l_draw.nd rfl (by first | exact Or.inl rfl | exact Or.inr rfl) (pe_op op_mod (pe_ix ix_list (pv 0) pe_int (fun _ _ => rfl)) (pe_callB call_len (by rfl) T.m_len PySem.boot_len (pa_cons (pe_ix ix_list (pv 0) pe_int (fun _ _ => rfl)) pa_nil))))
              (pss_one (ps_set (i := 2) sc_l_draw.nd rfl (by first | exact Or.inl rfl | exact Or.inr rfl) (pe_ix ix_list (pe_ix ix_list (pv 0) pe_int (fun _ _ => rfl)) (pv 3) (fun _ _ => rfl)))))
              pss_nil)
          (pss_cons (ps_if (pt_cmp (pc_ge (pv 2) (pe_op op_pow pe_int pe_int)))
              (pss_cons (ps_asg (pe_op op_fdivW (pv 2) (pv 1)) (pg_sub (pe_ix ix_list (pv 0) pe_int (fun _ _ => rfl)) (pv 3) set_list))
              (pss_one (ps_ret (pe_op op_mod (pv 2) (pv 1)))))
              pss_nil)
          (pss_one (ps_ret (pe_op op_mod (pe_op op_mod (pe_op op_pow (pe_op op_add (pe_op op_add (pe_op op_mod (pv 2) pe_int) (pe_op op_mul pe_int (pe_ix ix_list (pv 0) pe_int (fun _ _ => rfl)))) pe_int) pe_int) pe_int) (pv 1)))))))), ?_⟩
        refine ⟨.ref p.o, rfl, p.o, _, 1, .int δ.k, rfl, rfl, SqL.of dk.one, rfl, δ.k, 1, rfl, rfl, .ref p.o, rfl, p.o, _, 1, 1, rfl, rfl, dk.one, rfl, ?_⟩
        have hset : [V.ref p.c, V.int δ.k].set 1 (.int (δ.k + 1)) = [V.ref p.c, V.int (δ.k + 1)] := rfl
        rw [hset]
        generalize hH1 : upd H p.o (.lst [V.ref p.c, V.int (δ.k + 1)]) = H1
        have f1 : H1 p.o = some (.lst [V.ref p.c, V.int (δ.k + 1)]) := by rw [← hH1]; exact upd_same
        have f2 : H1 p.r = some (.lst (lx δ.lft p)) := by rw [← hH1, upd_ne dk.ne.symm]; exact dk.two
        have f3 : H1 p.c = some (.lst (δ.cells.map V.int)) := by rw [← hH1, upd_ne dk.ne2.symm]; exact dk.tri
        have f4 : ∀ a o, a ≠ p.o → H a = some o → H1 a = some o := fun a o n e => by rw [← hH1, upd_ne n]; exact e
        have g0 : atI [V.ref p.c, V.int (δ.k + 1)] 0 = some (.ref p.c) := rfl
        have g1 : atI [V.ref p.c, V.int (δ.k + 1)] 1 = some (.int (δ.k + 1)) := rfl
        refine ⟨1, rfl, ?_⟩
        refine ⟨.ref p.o, rfl, p.o, _, 0, .ref p.c, rfl, rfl, SqL.of f1, rfl, ?_⟩
        refine ⟨.ref p.c, _, rfl, .inl ⟨_, SqL.of f3, rfl⟩, _, 0, rfl, rfl, _, rfl, ?_⟩
        have en : drawOf δ many = if (10 : Int) ^ (18 : Int).toNat ≤ δ.cells.getD (atO δ) 0 then (δ.cells.getD (atO δ) 0 % many, ⟨δ.cells.set (atO δ) (δ.cells.getD (atO δ) 0 / many), δ.k + 1, δ.rests, δ.lft⟩) else (mixO (δ.cells.getD (atO δ) 0) (δ.k + 1) % many, ⟨δ.cells, δ.k + 1, δ.rests, δ.lft⟩) := rfl
        rw [en] at hm
        by_cases hc0 : 0 < δ.cells.length
        · have hlen : 0 < (((δ.cells.map V.int).length : Nat) : Int) := by rw [List.length_map]; omega
          refine Eq.mpr (if_pos (c := decide ((0 : Int) < (((δ.cells.map V.int).length : Nat) : Int)) = true) (decide_eq_true hlen)) ?_
          refine ⟨.ref p.o, rfl, p.o, _, 1, .int (δ.k + 1), rfl, rfl, SqL.of f1, rfl, ?_⟩
          refine ⟨.ref p.o, rfl, p.o, _, 0, .ref p.c, rfl, rfl, SqL.of f1, rfl, .ref p.c, _, rfl, .inl ⟨_, SqL.of f3, rfl⟩, δ.k + 1, _, rfl, rfl, hlen, ?_⟩
          obtain ⟨at_, hat⟩ : ∃ at_ : Int, (δ.k + 1) % (((δ.cells.map V.int).length : Nat) : Int) = at_ := ⟨_, rfl⟩
          have hat0 : 0 ≤ at_ := by rw [← hat]; exact Int.emod_nonneg _ (by omega)
          have hat1 : at_ < δ.cells.length := by rw [← hat]; have := Int.emod_lt_of_pos (δ.k + 1) hlen; rw [List.length_map] at this ⊢; exact this
          have hatN : atO δ = at_.toNat := by unfold atO; rw [← hat, List.length_map]
          have gc := atI_getD (xs := δ.cells) hat0 hat1
          rw [hatN] at hm
          generalize hcc : δ.cells.getD at_.toNat 0 = cv at gc hm
          refine ⟨.ref p.o, rfl, p.o, _, 0, .ref p.c, rfl, rfl, SqL.of f1, rfl, .int at_, (by rw [← hat]; rfl), p.c, _, at_, .int cv, rfl, rfl, SqL.of f3, gc, ?_⟩
          by_cases hsm : (10 : Int) ^ (18 : Int).toNat ≤ cv
          · rw [if_pos hsm] at hm
            simp only [Option.some.injEq, Prod.mk.injEq] at hm
            obtain ⟨rfl, rfl⟩ := hm
            refine ⟨_, rfl, 10, 18, rfl, rfl, ⟨by decide, by decide, by decide⟩, cv, _, rfl, rfl, _, rfl, ?_⟩
            refine Eq.mpr (if_pos (c := decide ((10 : Int) ^ (18 : Int).toNat ≤ cv) = true) (decide_eq_true hsm)) ?_
            refine ⟨.int cv, rfl, .int many, rfl, cv, many, rfl, rfl, ⟨b0, log_ok b0 b1⟩, ?_⟩
            refine ⟨.ref p.o, rfl, p.o, _, 0, .ref p.c, rfl, rfl, SqL.of f1, rfl, .int at_, (by rw [← hat]; rfl), p.c, _, at_, at_.toNat, rfl, rfl, f3, by rw [List.length_map]; exact ixN_in hat0 (by omega), ?_⟩
            refine ⟨.int cv, rfl, .int many, rfl, cv, many, rfl, rfl, b0, ?_⟩
            refine q _ _ (fun a o n1 n2 n3 e => by rw [upd_ne n3]; exact f4 a o n1 e) (DeckO.at ⟨dk.ne, dk.ne2, dk.ne3, by rw [upd_ne dk.ne2]; exact f1, by rw [upd_ne dk.ne3]; exact f2, ?_⟩ b2) (.int _)
            rw [upd_same, List.map_set]
          · rw [if_neg hsm] at hm
            simp only [Option.some.injEq, Prod.mk.injEq] at hm
            obtain ⟨rfl, rfl⟩ := hm
            refine ⟨_, rfl, 10, 18, rfl, rfl, ⟨by decide, by decide, by decide⟩, cv, _, rfl, rfl, _, rfl, ?_⟩
            refine Eq.mpr (if_neg (c := decide ((10 : Int) ^ (18 : Int).toNat ≤ cv) = true) (fun z => hsm (of_decide_eq_true z))) ?_
            refine ⟨_, rfl, cv, 2147483587, rfl, rfl, (show (0 : Int) < 2147483587 by decide), .ref p.o, rfl, p.o, _, 1, .int (δ.k + 1), rfl, rfl, SqL.of f1, rfl, 7919, δ.k + 1, rfl, rfl, .inl ⟨by decide, by decide⟩, _, _, rfl, rfl, _, 1, rfl, rfl, _, 5, rfl, rfl, ⟨by decide, by decide, mod_small cv (δ.k + 1) (by decide) (by decide) (by decide) (by decide) (by decide) (by decide) (by omega) (by omega)⟩, _, 2147483647, rfl, rfl, (show (0 : Int) < 2147483647 by decide), ?_⟩
            refine ⟨.int many, rfl, _, many, rfl, rfl, b0, ?_⟩
            exact q _ _ (fun a o n1 n2 n3 e => f4 a o n1 e) (DeckO.at ⟨dk.ne, dk.ne2, dk.ne3, f1, f2, f3⟩ b2) (.int _)
        · have hnil : δ.cells = [] := List.length_eq_zero_iff.mp (by omega)
          refine Eq.mpr (if_neg (c := decide ((0 : Int) < (((δ.cells.map V.int).length : Nat) : Int)) = true) (by rw [hnil]; decide)) ?_
          have hg : δ.cells.getD (atO δ) 0 = 0 := by rw [hnil]; rfl
          have hsm : ¬ (10 : Int) ^ (18 : Int).toNat ≤ 0 := by decide
          rw [hg, if_neg hsm] at hm
          simp only [Option.some.injEq, Prod.mk.injEq] at hm
          obtain ⟨rfl, rfl⟩ := hm
          refine ⟨_, rfl, 10, 18, rfl, rfl, ⟨by decide, by decide, by decide⟩, 0, _, rfl, rfl, _, rfl, ?_⟩
          refine Eq.mpr (if_neg (c := decide ((10 : Int) ^ (18 : Int).toNat ≤ 0) = true) (fun z => hsm (of_decide_eq_true z))) ?_
          refine ⟨_, rfl, 0, 2147483587, rfl, rfl, (show (0 : Int) < 2147483587 by decide), .ref p.o, rfl, p.o, _, 1, .int (δ.k + 1), rfl, rfl, SqL.of f1, rfl, 7919, δ.k + 1, rfl, rfl, .inl ⟨by decide, by decide⟩, _, _, rfl, rfl, _, 1, rfl, rfl, _, 5, rfl, rfl, ⟨by decide, by decide, mod_small 0 (δ.k + 1) (by decide) (by decide) (by decide) (by decide) (by decide) (by decide) (by omega) (by omega)⟩, _, 2147483647, rfl, rfl, (show (0 : Int) < 2147483647 by decide), ?_⟩
          refine ⟨.int many, rfl, _, many, rfl, rfl, b0, ?_⟩
          exact q _ _ (fun a o n1 n2 n3 e => f4 a o n1 e) (DeckO.at ⟨dk.ne, dk.ne2, dk.ne3, f1, f2, f3⟩ b2) (.int _)
      · cases hm
    · cases hm
def m_l_turned : MS := (sRet (mBin addD (mSl (mVar 0) oNo (oSome (mC (.int 4)))) (mTup (mCons (mUn notD (mBin subD' (mVar 0) (mC (.int 4)))) mNil))))
def f_l_turned : List D → Option D := fnP 1 1 m_l_turned
theorem ok_l_turned (T : Tx K mg) : FnOk P w K mg base CX0 1 T.a_l_turned T.d_l_turned ["_law_test_here"] (spP K f_l_turned) := okP (k := 0) T.F_l_turned sc_l_turned (by decide) fun cdv A outer s0 H E hr =>
  ((pdss_one (pds_ret (pd_add (pd_sl (pd_var 0) pdo_no (pdo_some pd_int)) (pd_tup (pda_cons (pd_not (pd_ix (hu_of hr) (pd_var 0) pd_int)) pda_nil))))) : PDSs _ _ m_l_turned)
def m_l_holds : MS := (sSeq (sAsg (mVar 0) (gTupM 5 (gsCons (gSet 3) (gsCons (gSet 4) (gsCons (gSet 5) (gsCons (gSet 6) (gsCons (gSet 7) gsNil)))))))
  (sSeq (sAsg (mBin subD' (mLst (mCons (mC (.int 1)) (mCons (mC (.int 10)) (mCons (mC (.int 100)) mNil)))) (mVar 2)) (gSet 8))
  (sSeq (sAsg (mBin subD' (mDisp (pCons (mC (.str "whole")) (mBin fdivD (mVar 1) (mVar 8)) (pCons (mC (.str "rest")) (mBin modD (mVar 1) (mVar 8)) (pCons (mC (.str "places")) (mVar 2) pNil)))) (mVar 3)) (gSet 9))
  (sSeq (sIf (mB (mBin gtD (mVar 4) (mC (.int 0)))) (sAsg (mBin modD (mVar 9) (mVar 4)) (gSet 9)) sNext)
  (sRet (mBin eqD (mChain leD leD (mVar 5) (mVar 9) (mVar 6)) (mVar 7)))))))
def f_l_holds : List D → Option D := fnP 10 3 m_l_holds
theorem ok_l_holds (T : Tx K mg) : FnOk P w K mg base CX0 1 T.a_l_holds T.d_l_holds ["_law_test_here", "_law_n", "_law_d"] (spP K f_l_holds) := okP (k := 0) T.F_l_holds sc_l_holds (by decide) fun cdv A outer s0 H E hr =>
  ((pdss_cons (pds_asg (pd_var 0) (pdg_tup rfl (pdgs_cons (pdg_name 3 sc_l_holds.nd) (pdgs_cons (pdg_name 4 sc_l_holds.nd) (pdgs_cons (pdg_name 5 sc_l_holds.nd) (pdgs_cons (pdg_name 6 sc_l_holds.nd) (pdgs_cons (pdg_name 7 sc_l_holds.nd) pdgs_nil))))))) (pdss_cons (pds_set 8 sc_l_holds.nd (pd_ix (hu_of hr) (pd_lst (pda_cons pd_int (pda_cons pd_int (pda_cons pd_int pda_nil)))) (pd_var 2))) (pdss_cons (pds_set 9 sc_l_holds.nd (pd_ix (hu_of hr) (pd_disp (pdp_cons pd_str (pd_fdiv (pd_var 1) (pd_var 8)) (pdp_cons pd_str (pd_mod (pd_var 1) (pd_var 8)) (pdp_cons pd_str (pd_var 2) pdp_nil)))) (pd_var 3))) (pdss_cons (pds_if (pdt_cmp cs_gt (pd_var 4) pd_int (nomark _)) (pdss_one (pds_set 9 sc_l_holds.nd (pd_mod (pd_var 9) (pd_var 4)))) pdss_nil) (pdss_one (pds_ret (pd_cmp (cs_eq hr.units) (pd_chain cs_le cs_le (pd_var 5) (pd_var 9) (pd_var 6)) (pd_var 7) (nomark _)))))))) : PDSs _ _ m_l_holds)
def m_l_whole : MS := (sRet (mAnd (mUn (isiD "int") (mVar 0)) (mUn notD (mUn (isiD "bool") (mVar 0)))))
def f_l_whole : List D → Option D := fnP 1 1 m_l_whole
theorem ok_l_whole (T : Tx K mg) : FnOk P w K mg base CX0 1 T.a_l_whole T.d_l_whole ["_law_thing"] (spP K f_l_whole) := okP (k := 0) T.F_l_whole sc_l_whole (by decide) fun cdv A outer s0 H E hr =>
  ((pdss_one (pds_ret (pd_and (pd_isi (T := "int") (t := "int") (by decide +kernel) T.m_isinstance T.m_int (pd_var 0)) (pd_one (pd_not (pd_isi (T := "bool") (t := "bool") (by decide +kernel) T.m_isinstance T.m_bool (pd_var 0))))))) : PDSs _ _ m_l_whole)
def m_is_count : MS := (sRet (mAnd (mCall f_is_tuple (mCons (mVar 0) (mCons (mC (.int 2)) (mCons (mC (.int 2)) mNil)))) (mAnd (mCallD f_is_number [.int 0, .int 1000000000000] (mCons (mBin subD' (mVar 0) (mC (.int 0))) mNil)) (mCall f_is_number (mCons (mBin subD' (mVar 0) (mC (.int 1))) (mCons (mC (.int 0)) (mCons (mC (.int 2)) mNil)))))))
def f_is_count : List D → Option D := fnP 1 1 m_is_count
theorem ok_is_count (T : Tx K mg) : FnOk P w K mg base CX0 2 T.a_is_count T.d_is_count ["thing"] (spP K f_is_count) := okP (k := 1) T.F_is_count sc_is_count (by decide) fun cdv A outer s0 H E hr =>
  ((pdss_one (pds_ret (pd_and (pd_callP (ok_is_tuple T) (hr.mono (by decide)) T.g_is_tuple T.F_is_tuple.kp T.b_is_tuple pass0 (pda_cons (pd_var 0) (pda_cons pd_int (pda_cons pd_int pda_nil)))) (pd_and (pd_callPD (ok_is_number T) (hr.mono (by decide)) T.g_is_number T.F_is_number.kp T.e_is_number_1 (fun _ _ => (.cons (.int 0) (.cons (.int 1000000000000) .nil))) pass0 (pda_cons (pd_ix (hu_of hr) (pd_var 0) pd_int) pda_nil)) (pd_one (pd_callP (ok_is_number T) (hr.mono (by decide)) T.g_is_number T.F_is_number.kp T.b_is_number pass0 (pda_cons (pd_ix (hu_of hr) (pd_var 0) pd_int) (pda_cons pd_int (pda_cons (pd_glob T.c_MOST_PLACES) pda_nil))))))))) : PDSs _ _ m_is_count)
def m_parts_of : MS := (sSeq (sAsg (mVar 0) (gTupM 2 (gsCons (gSet 1) (gsCons (gSet 2) gsNil))))
  (sSeq (sAsg (mCall divmodD (mCons (mVar 1) (mCons (mCall f_scale_of (mCons (mVar 2) mNil)) mNil))) (gTupM 2 (gsCons (gSet 3) (gsCons (gSet 4) gsNil))))
  (sRet (mDisp (pCons (mC (.str "whole")) (mVar 3) (pCons (mC (.str "rest")) (mVar 4) (pCons (mC (.str "places")) (mVar 2) pNil)))))))
def f_parts_of : List D → Option D := fnP 5 1 m_parts_of
theorem ok_parts_of (T : Tx K mg) : FnOk P w K mg base CX0 2 T.a_parts_of T.d_parts_of ["count"] (spP K f_parts_of) := okP (k := 1) T.F_parts_of sc_parts_of (by decide) fun cdv A outer s0 H E hr =>
  ((pdss_cons (pds_asg (pd_var 0) (pdg_tup rfl (pdgs_cons (pdg_name 1 sc_parts_of.nd) (pdgs_cons (pdg_name 2 sc_parts_of.nd) pdgs_nil)))) (pdss_cons (pds_asg (pd_divmod T.m_divmod (pda_cons (pd_var 1) (pda_cons (pd_callP (ok_scale_of T) (hr.mono (by decide)) T.g_scale_of T.F_scale_of.kp T.b_scale_of pass0 (pda_cons (pd_var 2) pda_nil)) pda_nil))) (pdg_tup rfl (pdgs_cons (pdg_name 3 sc_parts_of.nd) (pdgs_cons (pdg_name 4 sc_parts_of.nd) pdgs_nil)))) (pdss_one (pds_ret (pd_disp (pdp_cons pd_str (pd_var 3) (pdp_cons pd_str (pd_var 4) (pdp_cons pd_str (pd_var 2) pdp_nil)))))))) : PDSs _ _ m_parts_of)
def m_round_of : MS := (sSeq (sAsg (mC (.int 1)) (gSet 1))
  (sSeq (sFor (mItems (mCall f_all_tests (mCons (mVar 0) mNil))) (gTupM 5 (gsCons (gSet 2) (gsCons (gSet 3) (gsCons (gSet 4) (gsCons (gSet 5) (gsCons (gSet 6) gsNil)))))) (sIf (mB (mBin neD (mVar 3) (mC (.int 0)))) (sAsg (mBin fdivD (mBin mulD (mVar 1) (mVar 3)) (mCall f_common_divisor (mCons (mVar 1) (mCons (mVar 3) mNil)))) (gSet 1)) sNext))
  (sRet (mVar 1))))
def f_round_of : List D → Option D := fnP 7 1 m_round_of
theorem ok_round_of (T : Tx K mg) : FnOk P w K mg base CX0 2 T.a_round_of T.d_round_of ["forms"] (spP K f_round_of) := okP (k := 1) T.F_round_of sc_round_of (by decide) fun cdv A outer s0 H E hr =>
  ((pdss_cons (pds_set 1 sc_round_of.nd pd_int) (pdss_cons (pds_for PassesOwn.never rfl (pdi_seq (pd_callP (ok_all_tests T) (hr.mono (by decide)) T.g_all_tests T.F_all_tests.kp T.b_all_tests pass0 (pda_cons (pd_var 0) pda_nil))) (pdg_tup rfl (pdgs_cons (pdg_name 2 sc_round_of.nd) (pdgs_cons (pdg_name 3 sc_round_of.nd) (pdgs_cons (pdg_name 4 sc_round_of.nd) (pdgs_cons (pdg_name 5 sc_round_of.nd) (pdgs_cons (pdg_name 6 sc_round_of.nd) pdgs_nil)))))) (pdss_one (pds_if (pdt_cmp (cs_ne hr.units) (pd_var 3) pd_int (nomark _)) (pdss_one (pds_set 1 sc_round_of.nd (pd_fdiv (pd_mul (pd_var 1) (pd_var 3)) (pd_callP (ok_common_divisor T) (hr.mono (by decide)) T.g_common_divisor T.F_common_divisor.kp T.b_common_divisor pass0 (pda_cons (pd_var 1) (pda_cons (pd_var 3) pda_nil)))))) pdss_nil))) (pdss_one (pds_ret (pd_var 1))))) : PDSs _ _ m_round_of)
def m_rule_holds : MS := (sRet (mCall anyD (mCons (mLc (mItems (mVar 0)) [3] (gSet 3) mYes (mCall allD (mCons (mLc (mItems (mVar 3)) [2] (gSet 2) mYes (mCall f_holds_of (mCons (mVar 2) (mCons (mBin subD' (mVar 1) (mBin subD' (mVar 2) (mC (.int 0)))) mNil)))) mNil))) mNil)))
def f_rule_holds : List D → Option D := fnP 4 2 m_rule_holds
theorem ok_rule_holds (T : Tx K mg) : FnOk P w K mg base CX0 2 T.a_rule_holds T.d_rule_holds ["rule", "parts"] (spP K f_rule_holds) := okP (k := 1) T.F_rule_holds sc_rule_holds (by decide) fun cdv A outer s0 H E hr =>
  ((pdss_one (pds_ret (pd_any T.m_any rfl (pda_cons (pd_lc (own := [("row", 3)]) rfl sc_rule_holds.nd (pdi_seq (pd_var 0)) (blkOk_by (own := [("row", 3)]) (N := N_rule_holds) (sc := defScope s_rule_holds) (by decide +kernel)) ⟨fun _ _ _ _ _ => (pdg_name 3 sc_rule_holds.nd), fun _ _ _ _ _ => pdts_nil, fun _ _ _ _ _ => (pd_all T.m_all rfl (pda_cons (pd_lc (own := [("test", 2)]) rfl sc_rule_holds.nd (pdi_seq (pd_var 3)) (blkOk_by (own := [("test", 2)]) (N := N_rule_holds) (sc := relS _ (defScope s_rule_holds)) (by decide +kernel)) ⟨fun _ _ _ _ _ => (pdg_name 2 sc_rule_holds.nd), fun _ _ _ _ _ => pdts_nil, fun _ _ _ _ _ => (pd_callP (ok_holds_of T) (hr.mono (by decide)) T.g_holds_of T.F_holds_of.kp T.b_holds_of pass0 (pda_cons (pd_var 2) (pda_cons (pd_ix (hu_of hr) (pd_var 1) (pd_ix (hu_of hr) (pd_var 2) pd_int)) pda_nil))), by decide⟩) pda_nil)), by decide⟩) pda_nil)))) : PDSs _ _ m_rule_holds)
def m_row_bits : MS := (sSeq (sAsg (mC (.int 0)) (gSet 3))
  (sSeq (sAsg (mC (.int 1)) (gSet 4))
  (sSeq (sFor (mItems (mVar 0)) (gTupM 2 (gsCons (gSet 5) (gsCons (gSet 6) gsNil))) (sFor (mItems (mVar 6)) (gSet 7) (sSeq (sIf (mTru (mCall allD (mCons (mLc (mItems (mVar 7)) [8] (gSet 8) (mB (mBin eqD (mBin subD' (mVar 8) (mC (.int 0))) (mVar 1))) (mCall f_holds_of (mCons (mVar 8) (mCons (mVar 2) mNil)))) mNil))) (sAug 3 (onI (fun _ _ => true) fun i j => .int (i + j)) (mVar 4)) sNext)
  (sAug 4 mulI (mC (.int 2))))))
  (sRet (mVar 3)))))
def f_row_bits : List D → Option D := fnP 9 3 m_row_bits
theorem ok_row_bits (T : Tx K mg) : FnOk P w K mg base CX0 2 T.a_row_bits T.d_row_bits ["forms", "what", "number"] (spP K f_row_bits) := okP (k := 1) T.F_row_bits sc_row_bits (by decide) fun cdv A outer s0 H E hr =>
  ((pdss_cons (pds_set 3 sc_row_bits.nd pd_int) (pdss_cons (pds_set 4 sc_row_bits.nd pd_int) (pdss_cons (pds_for PassesOwn.never rfl (pdi_seq (pd_var 0)) (pdg_tup rfl (pdgs_cons (pdg_name 5 sc_row_bits.nd) (pdgs_cons (pdg_name 6 sc_row_bits.nd) pdgs_nil))) (pdss_one (pds_for PassesOwn.never rfl (pdi_seq (pd_var 6)) (pdg_name 7 sc_row_bits.nd) (pdss_cons (pds_if (pdt_tru (pd_all T.m_all rfl (pda_cons (pd_lc (own := [("test", 8)]) rfl sc_row_bits.nd (pdi_seq (pd_var 7)) (blkOk_by (own := [("test", 8)]) (N := N_row_bits) (sc := defScope s_row_bits) (by decide +kernel)) ⟨fun _ _ _ _ _ => (pdg_name 8 sc_row_bits.nd), fun _ _ _ _ _ => (pdts_one (pdt_cmp (cs_eq hr.units) (pd_ix (hu_of hr) (pd_var 8) pd_int) (pd_var 1) (nomark _))), fun _ _ _ _ _ => (pd_callP (ok_holds_of T) (hr.mono (by decide)) T.g_holds_of T.F_holds_of.kp T.b_holds_of pass0 (pda_cons (pd_var 8) (pda_cons (pd_var 2) pda_nil))), by decide⟩) pda_nil))) (pdss_one (pds_aug 3 sc_row_bits.nd as_add (pd_var 4))) pdss_nil) (pdss_one (pds_aug 4 sc_row_bits.nd as_mul pd_int)))))) (pdss_one (pds_ret (pd_var 3)))))) : PDSs _ _ m_row_bits)
def m_first_far : MS := (sRet (mBin addD (mC (.int 1)) (mMaxDf (mLc (mItems (mCall f_all_tests (mCons (mVar 0) mNil))) [1, 2, 3, 4, 5] (gTupM 5 (gsCons (gSet 1) (gsCons (gSet 2) (gsCons (gSet 3) (gsCons (gSet 4) (gsCons (gSet 5) gsNil)))))) mYes (mVar 4)) (mUn negD (mC (.int 1))))))
def f_first_far : List D → Option D := fnP 6 1 m_first_far
theorem ok_first_far (T : Tx K mg) : FnOk P w K mg base CX0 2 T.a_first_far T.d_first_far ["forms"] (spP K f_first_far) := okP (k := 1) T.F_first_far sc_first_far (by decide) fun cdv A outer s0 H E hr =>
  ((pdss_one (pds_ret (pd_add pd_int (pd_maxDf T.m_max rfl (u1 hr) (pd_lc (own := [("what", 1), ("by", 2), ("low", 3), ("high", 4), ("yes", 5)]) rfl sc_first_far.nd (pdi_seq (pd_callP (ok_all_tests T) (hr.mono (by decide)) T.g_all_tests T.F_all_tests.kp T.b_all_tests pass0 (pda_cons (pd_var 0) pda_nil))) (blkOk_by (own := [("what", 1), ("by", 2), ("low", 3), ("high", 4), ("yes", 5)]) (N := N_first_far) (sc := defScope s_first_far) (by decide +kernel)) ⟨fun _ _ _ _ _ => (pdg_tup rfl (pdgs_cons (pdg_name 1 sc_first_far.nd) (pdgs_cons (pdg_name 2 sc_first_far.nd) (pdgs_cons (pdg_name 3 sc_first_far.nd) (pdgs_cons (pdg_name 4 sc_first_far.nd) (pdgs_cons (pdg_name 5 sc_first_far.nd) pdgs_nil)))))), fun _ _ _ _ _ => pdts_nil, fun _ _ _ _ _ => (pd_var 4), by decide⟩) (pd_neg pd_int))))) : PDSs _ _ m_first_far)
def m_l_names : MS := (sSeq (sAsg (mC (.str "abcdefghijklmnopqrstuvwxyz")) (gSet 2))
  (sSeq (sAsg (mBin joinD (mC (.str "")) (mLc (mRng1 (mCallK 0 f_l_draw (mCons (mC (.int 8)) mNil))) [4] (gSet 4) mYes (mBin subD' (mVar 2) (mCallK 0 f_l_draw (mCons (mC (.int 26)) mNil))))) (gSet 3))
  (sSeq (sAsg (mCallK 0 f_l_draw (mCons (mBin addD (mCall lenD (mCons (mVar 3) mNil)) (mC (.int 1))) mNil)) (gSet 5))
  (sSeq (sAsg (mCallK 0 f_l_draw (mCons (mC (.int 26)) mNil)) (gSet 6))
  (sRet (mLc (mRng1 (mVar 1)) [4] (gSet 4) mYes (mBin addD (mBin addD (mSl (mVar 3) oNo (oSome (mVar 5))) (mBin subD' (mVar 2) (mBin modD (mBin addD (mVar 6) (mBin mulD (mC (.int 5)) (mVar 4))) (mC (.int 26))))) (mSl (mVar 3) (oSome (mVar 5)) oNo))))))))
def f_l_names : List D → Dk → Option (D × Dk) := fnK 7 2 m_l_names
theorem ok_l_names (T : Tx K mg) : FnOk P w K mg base CX0 2 T.a_l_names T.d_l_names ["_law_deck_here", "_law_many"] (spK K f_l_names) := okK (k := 1) T.F_l_names sc_l_names (by decide) fun cdv A outer s0 H E hr =>
  ((pdss_cons (pds_set 2 sc_l_names.nd pd_str) (pdss_cons (pds_set 3 sc_l_names.nd (pd_join pd_str (pd_lc (own := [("_law_k", 4)]) rfl sc_l_names.nd (pdi_range1 T.m_range (pd_callK 0 (ok_l_draw T) (hr.mono (by decide)) T.g_l_draw T.F_l_draw.kp T.b_l_draw pass0 (pda_cons pd_int pda_nil))) (blkOk_by (own := [("_law_k", 4)]) (N := N_l_names) (sc := defScope s_l_names) (by decide +kernel)) ⟨fun _ _ _ _ _ => (pdg_name 4 sc_l_names.nd), fun _ _ _ _ _ => pdts_nil, fun _ _ _ _ _ => (pd_ix (hu_of hr) (pd_var 2) (pd_callK 0 (ok_l_draw T) (hr.mono (by decide)) T.g_l_draw T.F_l_draw.kp T.b_l_draw pass0 (pda_cons pd_int pda_nil))), by decide⟩))) (pdss_cons (pds_set 5 sc_l_names.nd (pd_callK 0 (ok_l_draw T) (hr.mono (by decide)) T.g_l_draw T.F_l_draw.kp T.b_l_draw pass0 (pda_cons (pd_add (pd_len T.m_len (pda_cons (pd_var 3) pda_nil)) pd_int) pda_nil))) (pdss_cons (pds_set 6 sc_l_names.nd (pd_callK 0 (ok_l_draw T) (hr.mono (by decide)) T.g_l_draw T.F_l_draw.kp T.b_l_draw pass0 (pda_cons pd_int pda_nil))) (pdss_one (pds_ret (pd_lc (own := [("_law_k", 4)]) rfl sc_l_names.nd (pdi_range1 T.m_range (pd_var 1)) (blkOk_by (own := [("_law_k", 4)]) (N := N_l_names) (sc := defScope s_l_names) (by decide +kernel)) ⟨fun _ _ _ _ _ => (pdg_name 4 sc_l_names.nd), fun _ _ _ _ _ => pdts_nil, fun _ _ _ _ _ => (pd_add (pd_add (pd_sl (pd_var 3) pdo_no (pdo_some (pd_var 5))) (pd_ix (hu_of hr) (pd_var 2) (pd_mod (pd_add (pd_var 6) (pd_mul pd_int (pd_var 4))) pd_int))) (pd_sl (pd_var 3) (pdo_some (pd_var 5)) pdo_no)), by decide⟩))))))) : PDSs _ _ m_l_names)
def m_l_test : MS := (sSeq (sAsg (mBin subD' (mLst (mCons (mC (.str "whole")) (mCons (mC (.str "whole")) (mCons (mC (.str "whole")) (mCons (mC (.str "rest")) (mCons (mC (.str "places")) mNil)))))) (mCallK 0 f_l_draw (mCons (mC (.int 5)) mNil))) (gSet 2))
  (sSeq (sAsg (mBin subD' (mVar 1) (mCallK 0 f_l_draw (mCons (mCall lenD (mCons (mVar 1) mNil)) mNil))) (gSet 3))
  (sSeq (sAsg (mBin subD' (mLst (mCons (mC (.int 201)) (mCons (mVar 3) mNil))) (mCall intD (mCons (mBin gtD (mVar 3) (mC (.int 0))) mNil))) (gSet 4))
  (sSeq (sIf (mB (mBin eqT (mVar 2) (mC (.str "places")))) (sAsg (mC (.int 4)) (gSet 4)) sNext)
  (sSeq (sAsg (mCallK 0 f_l_draw (mCons (mBin subD' (mLst (mCons (mVar 4) (mCons (mCall minD (mCons (mVar 4) (mCons (mC (.int 12)) mNil))) mNil))) (mCallK 0 f_l_draw (mCons (mC (.int 2)) mNil))) mNil)) (gSet 5))
  (sSeq (sAsg (mCall minD (mCons (mC (.int 200)) (mCons (mBin addD (mVar 5) (mBin subD' (mLst (mCons (mC (.int 0)) (mCons (mC (.int 0)) (mCons (mC (.int 1)) (mCons (mC (.int 3)) (mCons (mCallK 0 f_l_draw (mCons (mC (.int 40)) mNil)) (mCons (mC (.int 200)) mNil))))))) (mCallK 0 f_l_draw (mCons (mC (.int 6)) mNil)))) mNil))) (gSet 6))
  (sRet (mTup (mCons (mVar 2) (mCons (mVar 3) (mCons (mVar 5) (mCons (mVar 6) (mCons (mBin gtD (mCallK 0 f_l_draw (mCons (mC (.int 3)) mNil)) (mC (.int 0))) mNil)))))))))))))
def f_l_test : List D → Dk → Option (D × Dk) := fnK 7 2 m_l_test
theorem ok_l_test (T : Tx K mg) : FnOk P w K mg base CX0 2 T.a_l_test T.d_l_test ["_law_deck_here", "_law_menu"] (spK K f_l_test) := okK (k := 1) T.F_l_test sc_l_test (by decide) fun cdv A outer s0 H E hr =>
  ((pdss_cons (pds_set 2 sc_l_test.nd (pd_ix (hu_of hr) (pd_lst (pda_cons pd_str (pda_cons pd_str (pda_cons pd_str (pda_cons pd_str (pda_cons pd_str pda_nil)))))) (pd_callK 0 (ok_l_draw T) (hr.mono (by decide)) T.g_l_draw T.F_l_draw.kp T.b_l_draw pass0 (pda_cons pd_int pda_nil)))) (pdss_cons (pds_set 3 sc_l_test.nd (pd_ix (hu_of hr) (pd_var 1) (pd_callK 0 (ok_l_draw T) (hr.mono (by decide)) T.g_l_draw T.F_l_draw.kp T.b_l_draw pass0 (pda_cons (pd_len T.m_len (pda_cons (pd_var 1) pda_nil)) pda_nil)))) (pdss_cons (pds_set 4 sc_l_test.nd (pd_ix (hu_of hr) (pd_lst (pda_cons pd_int (pda_cons (pd_var 3) pda_nil))) (pd_cint T.m_int (pda_cons (pd_cmp cs_gt (pd_var 3) pd_int (nomark _)) pda_nil)))) (pdss_cons (pds_if (pdt_cmp (cs_eqT hr.units) (pd_var 2) pd_str (nomark _)) (pdss_one (pds_set 4 sc_l_test.nd pd_int)) pdss_nil) (pdss_cons (pds_set 5 sc_l_test.nd (pd_callK 0 (ok_l_draw T) (hr.mono (by decide)) T.g_l_draw T.F_l_draw.kp T.b_l_draw pass0 (pda_cons (pd_ix (hu_of hr) (pd_lst (pda_cons (pd_var 4) (pda_cons (pd_min T.m_min rfl (pda_cons (pd_var 4) (pda_cons pd_int pda_nil))) pda_nil))) (pd_callK 0 (ok_l_draw T) (hr.mono (by decide)) T.g_l_draw T.F_l_draw.kp T.b_l_draw pass0 (pda_cons pd_int pda_nil))) pda_nil))) (pdss_cons (pds_set 6 sc_l_test.nd (pd_min T.m_min rfl (pda_cons pd_int (pda_cons (pd_add (pd_var 5) (pd_ix (hu_of hr) (pd_lst (pda_cons pd_int (pda_cons pd_int (pda_cons pd_int (pda_cons pd_int (pda_cons (pd_callK 0 (ok_l_draw T) (hr.mono (by decide)) T.g_l_draw T.F_l_draw.kp T.b_l_draw pass0 (pda_cons pd_int pda_nil)) (pda_cons pd_int pda_nil))))))) (pd_callK 0 (ok_l_draw T) (hr.mono (by decide)) T.g_l_draw T.F_l_draw.kp T.b_l_draw pass0 (pda_cons pd_int pda_nil)))) pda_nil)))) (pdss_one (pds_ret (pd_tup (pda_cons (pd_var 2) (pda_cons (pd_var 3) (pda_cons (pd_var 5) (pda_cons (pd_var 6) (pda_cons (pd_cmp cs_gt (pd_callK 0 (ok_l_draw T) (hr.mono (by decide)) T.g_l_draw T.F_l_draw.kp T.b_l_draw pass0 (pda_cons pd_int pda_nil)) pd_int (nomark _)) pda_nil)))))))))))))) : PDSs _ _ m_l_test)
def m_l_words : MS := (sSeq (sUni 3 mNil)
  (sSeq (sFor (mItems (mVar 0)) (gTupM 2 (gsCons (gSet 4) (gsCons (gSet 5) gsNil))) (sIf (mB (mBin neNilD (mLc (mItems (mVar 5)) [6] (gSet 6) (mB (mBin eqNilD (mLc (mItems (mVar 6)) [7] (gSet 7) (tNotM (mTru (mCall f_l_holds (mCons (mVar 7) (mCons (mVar 1) (mCons (mVar 2) mNil)))))) (mVar 7)) (mLst mNil))) (mVar 6)) (mLst mNil))) (sApp 3 (mVar 4)) sNext))
  (sFrz 3 (sRet (mVar 3)))))
def f_l_words : List D → Option D := fnP 8 3 m_l_words
theorem ok_l_words (T : Tx K mg) : FnOk P w K mg base CX0 2 T.a_l_words T.d_l_words ["_law_forms", "_law_n", "_law_d"] (spP K f_l_words) := okP (k := 1) T.F_l_words sc_l_words (by decide) fun cdv A outer s0 H E hr =>
  ((pdss_cons (pds_uni 3 sc_l_words.nd pda_nil) (pdss_cons (pds_for PassesOwn.never rfl (pdi_seq (pd_var 0)) (pdg_tup rfl (pdgs_cons (pdg_name 4 sc_l_words.nd) (pdgs_cons (pdg_name 5 sc_l_words.nd) pdgs_nil))) (pdss_one (pds_if (pdt_cmp (cs_neNil hr.units) (pd_lc (own := [("_law_row", 6)]) rfl sc_l_words.nd (pdi_seq (pd_var 5)) (blkOk_by (own := [("_law_row", 6)]) (N := N_l_words) (sc := defScope s_l_words) (by decide +kernel)) ⟨fun _ _ _ _ _ => (pdg_name 6 sc_l_words.nd), fun _ _ _ _ _ => (pdts_one (pdt_cmp (cs_eqNil hr.units) (pd_lc (own := [("_law_test_here", 7)]) rfl sc_l_words.nd (pdi_seq (pd_var 6)) (blkOk_by (own := [("_law_test_here", 7)]) (N := N_l_words) (sc := relS _ (defScope s_l_words)) (by decide +kernel)) ⟨fun _ _ _ _ _ => (pdg_name 7 sc_l_words.nd), fun _ _ _ _ _ => (pdts_one (pdt_not (pdt_tru (pd_callP (ok_l_holds T) (hr.mono (by decide)) T.g_l_holds T.F_l_holds.kp T.b_l_holds pass0 (pda_cons (pd_var 7) (pda_cons (pd_var 1) (pda_cons (pd_var 2) pda_nil))))))), fun _ _ _ _ _ => (pd_var 7), by decide⟩) (pd_lst pda_nil) (nomark _))), fun _ _ _ _ _ => (pd_var 6), by decide⟩) (pd_lst pda_nil) (nomark _)) (pdss_one (pds_app 3 (pd_var 4))) pdss_nil))) (pdss_frz 3 (pdss_one (pds_ret (pd_var 3)))))) : PDSs _ _ m_l_words)
def m_l_bent_forms : MS := (sSeq (sAsg (mCallK 0 f_l_draw (mCons (mCall lenD (mCons (mVar 1) mNil)) mNil)) (gSet 2))
  (sSeq (sAsg (mBin subD' (mVar 1) (mVar 2)) (gTupM 2 (gsCons (gSet 3) (gsCons (gSet 4) gsNil))))
  (sSeq (sAsg (mCallK 0 f_l_draw (mCons (mC (.int 5)) mNil)) (gSet 5))
  (sSeq (sIf (tAndM (mB (mBin neD (mVar 4) (mTup mNil))) (mB (mBin ltD (mVar 5) (mC (.int 3))))) (sSeq (sAsg (mCallK 0 f_l_draw (mCons (mCall lenD (mCons (mVar 4) mNil)) mNil)) (gSet 6))
  (sSeq (sAsg (mBin subD' (mVar 4) (mVar 6)) (gSet 7))
  (sSeq (sIf (tAndM (mB (mBin neD (mVar 7) (mTup mNil))) (mB (mBin eqD (mVar 5) (mC (.int 0))))) (sSeq (sAsg (mCallK 0 f_l_draw (mCons (mCall lenD (mCons (mVar 7) mNil)) mNil)) (gSet 8))
  (sSeq (sAsg (mBin subD' (mVar 7) (mVar 8)) (gTupM 5 (gsCons (gSet 9) (gsCons (gSet 10) (gsCons (gSet 11) (gsCons (gSet 12) (gsCons (gSet 13) gsNil)))))))
  (sSeq (sAsg (mCall minD (mCons (mVar 12) (mCons (mCall maxD (mCons (mC (.int 0)) (mCons (mBin subD (mBin addD (mVar 11) (mCallK 0 f_l_draw (mCons (mC (.int 3)) mNil))) (mC (.int 1))) mNil))) mNil))) (gSet 11))
  (sSeq (sAsg (mBin neD (mVar 13) (mBin eqD (mCallK 0 f_l_draw (mCons (mC (.int 3)) mNil)) (mC (.int 0)))) (gSet 13))
  (sAsg (mBin addD (mBin addD (mSl (mVar 7) oNo (oSome (mVar 8))) (mTup (mCons (mTup (mCons (mVar 9) (mCons (mVar 10) (mCons (mVar 11) (mCons (mVar 12) (mCons (mVar 13) mNil)))))) mNil))) (mSl (mVar 7) (oSome (mBin addD (mVar 8) (mC (.int 1)))) oNo)) (gSet 7)))))) sNext)
  (sSeq (sIf (tAndM (mB (mBin neD (mVar 7) (mTup mNil))) (mB (mBin eqD (mVar 5) (mC (.int 1))))) (sSeq (sAsg (mCallK 0 f_l_draw (mCons (mCall lenD (mCons (mVar 7) mNil)) mNil)) (gSet 8))
  (sAsg (mBin addD (mSl (mVar 7) oNo (oSome (mVar 8))) (mSl (mVar 7) (oSome (mBin addD (mVar 8) (mC (.int 1)))) oNo)) (gSet 7))) sNext)
  (sAsg (mBin addD (mBin addD (mSl (mVar 4) oNo (oSome (mVar 6))) (mBin subD' (mLst (mCons (mTup (mCons (mVar 7) mNil)) (mCons (mTup mNil) mNil))) (mCall intD (mCons (mBin eqD (mVar 5) (mC (.int 2))) mNil)))) (mSl (mVar 4) (oSome (mBin addD (mVar 6) (mC (.int 1)))) oNo)) (gSet 4)))))) (sIf (tAndM (mB (mBin eqD (mVar 5) (mC (.int 3)))) (mB (mBin ltD (mCall lenD (mCons (mVar 4) mNil)) (mC (.int 4))))) (sAsg (mBin addD (mVar 4) (mTup (mCons (mTup (mCons (mTup (mCons (mC (.str "whole")) (mCons (mC (.int 0)) (mCons (mCallK 0 f_l_draw (mCons (mC (.int 201)) mNil)) (mCons (mC (.int 200)) (mCons (mC (.bool true)) mNil)))))) mNil)) mNil))) (gSet 4)) (sIf (tAndM (mB (mBin eqD (mVar 5) (mC (.int 4)))) (mB (mBin ltD (mCall lenD (mCons (mVar 1) mNil)) (mC (.int 6))))) (sSeq (sAsg (mTup (mCons (mC (.str "whole")) (mCons (mC (.int 0)) (mCons (mCallK 0 f_l_draw (mCons (mC (.int 201)) mNil)) (mCons (mC (.int 200)) (mCons (mC (.bool true)) mNil)))))) (gSet 14))
  (sSeq (sAsg (mBin subD' (mLc (mItems (mTup (mCons (mC (.str "zzzzzzzz")) (mCons (mC (.str "y")) (mCons (mC (.str "x")) (mCons (mC (.str "w")) (mCons (mC (.str "v")) (mCons (mC (.str "u")) mNil)))))))) [15] (gSet 15) (mB (mBin (inD true) (mVar 15) (mLc (mItems (mVar 1)) [16, 17] (gTupM 2 (gsCons (gSet 16) (gsCons (gSet 17) gsNil))) mYes (mVar 16)))) (mVar 15)) (mC (.int 0))) (gSet 3))
  (sRet (mBin addD (mVar 1) (mTup (mCons (mTup (mCons (mVar 3) (mCons (mTup (mCons (mTup (mCons (mVar 14) (mCons (mTup (mCons (mC (.str "places")) (mCons (mC (.int 0)) (mCons (mC (.int 1)) (mCons (mC (.int 2)) (mCons (mC (.bool true)) mNil)))))) mNil))) mNil)) mNil))) mNil)))))) sNext)))
  (sRet (mBin addD (mBin addD (mSl (mVar 1) oNo (oSome (mVar 2))) (mTup (mCons (mTup (mCons (mVar 3) (mCons (mVar 4) mNil))) mNil))) (mSl (mVar 1) (oSome (mBin addD (mVar 2) (mC (.int 1)))) oNo)))))))
def f_l_bent_forms : List D → Dk → Option (D × Dk) := fnK 18 2 m_l_bent_forms
theorem ok_l_bent_forms (T : Tx K mg) : FnOk P w K mg base CX0 2 T.a_l_bent_forms T.d_l_bent_forms ["_law_deck_here", "_law_forms"] (spK K f_l_bent_forms) := okK (k := 1) T.F_l_bent_forms sc_l_bent_forms (by decide) fun cdv A outer s0 H E hr =>
  ((pdss_cons (pds_set 2 sc_l_bent_forms.nd (pd_callK 0 (ok_l_draw T) (hr.mono (by decide)) T.g_l_draw T.F_l_draw.kp T.b_l_draw pass0 (pda_cons (pd_len T.m_len (pda_cons (pd_var 1) pda_nil)) pda_nil))) (pdss_cons (pds_asg (pd_ix (hu_of hr) (pd_var 1) (pd_var 2)) (pdg_tup rfl (pdgs_cons (pdg_name 3 sc_l_bent_forms.nd) (pdgs_cons (pdg_name 4 sc_l_bent_forms.nd) pdgs_nil)))) (pdss_cons (pds_set 5 sc_l_bent_forms.nd (pd_callK 0 (ok_l_draw T) (hr.mono (by decide)) T.g_l_draw T.F_l_draw.kp T.b_l_draw pass0 (pda_cons pd_int pda_nil))) (pdss_cons (pds_if (PDW.pt (pdw_and (pdt_cmp (cs_ne hr.units) (pd_var 4) (pd_tup pda_nil) (nomark _)) (pdw_and1 (pdt_cmp cs_lt (pd_var 5) pd_int (nomark _))))) (pdss_cons (pds_set 6 sc_l_bent_forms.nd (pd_callK 0 (ok_l_draw T) (hr.mono (by decide)) T.g_l_draw T.F_l_draw.kp T.b_l_draw pass0 (pda_cons (pd_len T.m_len (pda_cons (pd_var 4) pda_nil)) pda_nil))) (pdss_cons (pds_set 7 sc_l_bent_forms.nd (pd_ix (hu_of hr) (pd_var 4) (pd_var 6))) (pdss_cons (pds_if (PDW.pt (pdw_and (pdt_cmp (cs_ne hr.units) (pd_var 7) (pd_tup pda_nil) (nomark _)) (pdw_and1 (pdt_cmp (cs_eq hr.units) (pd_var 5) pd_int (nomark _))))) (pdss_cons (pds_set 8 sc_l_bent_forms.nd (pd_callK 0 (ok_l_draw T) (hr.mono (by decide)) T.g_l_draw T.F_l_draw.kp T.b_l_draw pass0 (pda_cons (pd_len T.m_len (pda_cons (pd_var 7) pda_nil)) pda_nil))) (pdss_cons (pds_asg (pd_ix (hu_of hr) (pd_var 7) (pd_var 8)) (pdg_tup rfl (pdgs_cons (pdg_name 9 sc_l_bent_forms.nd) (pdgs_cons (pdg_name 10 sc_l_bent_forms.nd) (pdgs_cons (pdg_name 11 sc_l_bent_forms.nd) (pdgs_cons (pdg_name 12 sc_l_bent_forms.nd) (pdgs_cons (pdg_name 13 sc_l_bent_forms.nd) pdgs_nil))))))) (pdss_cons (pds_set 11 sc_l_bent_forms.nd (pd_min T.m_min rfl (pda_cons (pd_var 12) (pda_cons (pd_max T.m_max rfl (pda_cons pd_int (pda_cons (pd_sub (pd_add (pd_var 11) (pd_callK 0 (ok_l_draw T) (hr.mono (by decide)) T.g_l_draw T.F_l_draw.kp T.b_l_draw pass0 (pda_cons pd_int pda_nil))) pd_int) pda_nil))) pda_nil)))) (pdss_cons (pds_set 13 sc_l_bent_forms.nd (pd_cmp (cs_ne hr.units) (pd_var 13) (pd_cmp (cs_eq hr.units) (pd_callK 0 (ok_l_draw T) (hr.mono (by decide)) T.g_l_draw T.F_l_draw.kp T.b_l_draw pass0 (pda_cons pd_int pda_nil)) pd_int (nomark _)) (nomark _))) (pdss_one (pds_set 7 sc_l_bent_forms.nd (pd_add (pd_add (pd_sl (pd_var 7) pdo_no (pdo_some (pd_var 8))) (pd_tup (pda_cons (pd_tup (pda_cons (pd_var 9) (pda_cons (pd_var 10) (pda_cons (pd_var 11) (pda_cons (pd_var 12) (pda_cons (pd_var 13) pda_nil)))))) pda_nil))) (pd_sl (pd_var 7) (pdo_some (pd_add (pd_var 8) pd_int)) pdo_no)))))))) pdss_nil) (pdss_cons (pds_if (PDW.pt (pdw_and (pdt_cmp (cs_ne hr.units) (pd_var 7) (pd_tup pda_nil) (nomark _)) (pdw_and1 (pdt_cmp (cs_eq hr.units) (pd_var 5) pd_int (nomark _))))) (pdss_cons (pds_set 8 sc_l_bent_forms.nd (pd_callK 0 (ok_l_draw T) (hr.mono (by decide)) T.g_l_draw T.F_l_draw.kp T.b_l_draw pass0 (pda_cons (pd_len T.m_len (pda_cons (pd_var 7) pda_nil)) pda_nil))) (pdss_one (pds_set 7 sc_l_bent_forms.nd (pd_add (pd_sl (pd_var 7) pdo_no (pdo_some (pd_var 8))) (pd_sl (pd_var 7) (pdo_some (pd_add (pd_var 8) pd_int)) pdo_no))))) pdss_nil) (pdss_one (pds_set 4 sc_l_bent_forms.nd (pd_add (pd_add (pd_sl (pd_var 4) pdo_no (pdo_some (pd_var 6))) (pd_ix (hu_of hr) (pd_lst (pda_cons (pd_tup (pda_cons (pd_var 7) pda_nil)) (pda_cons (pd_tup pda_nil) pda_nil))) (pd_cint T.m_int (pda_cons (pd_cmp (cs_eq hr.units) (pd_var 5) pd_int (nomark _)) pda_nil)))) (pd_sl (pd_var 4) (pdo_some (pd_add (pd_var 6) pd_int)) pdo_no)))))))) (pdss_one (pds_if (PDW.pt (pdw_and (pdt_cmp (cs_eq hr.units) (pd_var 5) pd_int (nomark _)) (pdw_and1 (pdt_cmp cs_lt (pd_len T.m_len (pda_cons (pd_var 4) pda_nil)) pd_int (nomark _))))) (pdss_one (pds_set 4 sc_l_bent_forms.nd (pd_add (pd_var 4) (pd_tup (pda_cons (pd_tup (pda_cons (pd_tup (pda_cons pd_str (pda_cons pd_int (pda_cons (pd_callK 0 (ok_l_draw T) (hr.mono (by decide)) T.g_l_draw T.F_l_draw.kp T.b_l_draw pass0 (pda_cons pd_int pda_nil)) (pda_cons pd_int (pda_cons pd_bl pda_nil)))))) pda_nil)) pda_nil))))) (pdss_one (pds_if (PDW.pt (pdw_and (pdt_cmp (cs_eq hr.units) (pd_var 5) pd_int (nomark _)) (pdw_and1 (pdt_cmp cs_lt (pd_len T.m_len (pda_cons (pd_var 1) pda_nil)) pd_int (nomark _))))) (pdss_cons (pds_set 14 sc_l_bent_forms.nd (pd_tup (pda_cons pd_str (pda_cons pd_int (pda_cons (pd_callK 0 (ok_l_draw T) (hr.mono (by decide)) T.g_l_draw T.F_l_draw.kp T.b_l_draw pass0 (pda_cons pd_int pda_nil)) (pda_cons pd_int (pda_cons pd_bl pda_nil))))))) (pdss_cons (pds_set 3 sc_l_bent_forms.nd (pd_ix (hu_of hr) (pd_lc (own := [("_law_name", 15)]) rfl sc_l_bent_forms.nd (pdi_seq (pd_tup (pda_cons pd_str (pda_cons pd_str (pda_cons pd_str (pda_cons pd_str (pda_cons pd_str (pda_cons pd_str pda_nil)))))))) (blkOk_by (own := [("_law_name", 15)]) (N := N_l_bent_forms) (sc := defScope s_l_bent_forms) (by decide +kernel)) ⟨fun _ _ _ _ _ => (pdg_name 15 sc_l_bent_forms.nd), fun _ _ _ _ _ => (pdts_one (pdt_cmp (cs_notin (u65 hr)) (pd_var 15) (pd_lc (own := [("_law_one", 16), ("_law_other", 17)]) rfl sc_l_bent_forms.nd (pdi_seq (pd_var 1)) (blkOk_by (own := [("_law_one", 16), ("_law_other", 17)]) (N := N_l_bent_forms) (sc := relS _ (defScope s_l_bent_forms)) (by decide +kernel)) ⟨fun _ _ _ _ _ => (pdg_tup rfl (pdgs_cons (pdg_name 16 sc_l_bent_forms.nd) (pdgs_cons (pdg_name 17 sc_l_bent_forms.nd) pdgs_nil))), fun _ _ _ _ _ => pdts_nil, fun _ _ _ _ _ => (pd_var 16), by decide⟩) (by with_unfolding_all rfl))), fun _ _ _ _ _ => (pd_var 15), by decide⟩) pd_int)) (pdss_one (pds_ret (pd_add (pd_var 1) (pd_tup (pda_cons (pd_tup (pda_cons (pd_var 3) (pda_cons (pd_tup (pda_cons (pd_tup (pda_cons (pd_var 14) (pda_cons (pd_tup (pda_cons pd_str (pda_cons pd_int (pda_cons pd_int (pda_cons pd_int (pda_cons pd_bl pda_nil)))))) pda_nil))) pda_nil)) pda_nil))) pda_nil))))))) pdss_nil))))) (pdss_one (pds_ret (pd_add (pd_add (pd_sl (pd_var 1) pdo_no (pdo_some (pd_var 2))) (pd_tup (pda_cons (pd_tup (pda_cons (pd_var 3) (pda_cons (pd_var 4) pda_nil))) pda_nil))) (pd_sl (pd_var 1) (pdo_some (pd_add (pd_var 2) pd_int)) pdo_no)))))))) : PDSs _ _ m_l_bent_forms)
def m_l_firsts : MS := (sSeq (sAsg (mLst mNil) (gSet 4))
  (sSeq (sFor (mItems (mVar 0)) (gTupM 2 (gsCons (gSet 5) (gsCons (gSet 6) gsNil))) (sFor (mItems (mVar 6)) (gSet 7) (sAsg (mBin addD (mVar 4) (mLc (mItems (mVar 7)) [8] (gSet 8) (mB (mBin eqD (mBin subD' (mVar 8) (mC (.int 0))) (mVar 1))) (mVar 8))) (gSet 4))))
  (sDictN 9 (mRng1 (mVar 2)) (gSet 10) (mCall tupD (mCons (mLc (mItems (mVar 4)) [8] (gSet 8) mYes (mCall f_l_holds (mCons (mVar 8) (mCons (mVar 10) (mCons (mVar 3) mNil))))) mNil)) (mVar 10))))
def f_l_firsts : List D → Option D := fnP 11 4 m_l_firsts
theorem ok_l_firsts (T : Tx K mg) : FnOk P w K mg base CX0 2 T.a_l_firsts T.d_l_firsts ["_law_forms", "_law_what", "_law_many", "_law_d"] (spP K f_l_firsts) := okP (k := 1) T.F_l_firsts sc_l_firsts (by decide) fun cdv A outer s0 H E hr =>
  ((pdss_cons (pds_set 4 sc_l_firsts.nd (pd_lst pda_nil)) (pdss_cons (pds_for PassesOwn.never rfl (pdi_seq (pd_var 0)) (pdg_tup rfl (pdgs_cons (pdg_name 5 sc_l_firsts.nd) (pdgs_cons (pdg_name 6 sc_l_firsts.nd) pdgs_nil))) (pdss_one (pds_for PassesOwn.never rfl (pdi_seq (pd_var 6)) (pdg_name 7 sc_l_firsts.nd) (pdss_one (pds_set 4 sc_l_firsts.nd (pd_add (pd_var 4) (pd_lc (own := [("_law_test_here", 8)]) rfl sc_l_firsts.nd (pdi_seq (pd_var 7)) (blkOk_by (own := [("_law_test_here", 8)]) (N := N_l_firsts) (sc := defScope s_l_firsts) (by decide +kernel)) ⟨fun _ _ _ _ _ => (pdg_name 8 sc_l_firsts.nd), fun _ _ _ _ _ => (pdts_one (pdt_cmp (cs_eq hr.units) (pd_ix (hu_of hr) (pd_var 8) pd_int) (pd_var 1) (nomark _))), fun _ _ _ _ _ => (pd_var 8), by decide⟩))))))) (pdss_dictN 9 rfl sc_l_firsts.nd (u9 hr) T.m_sorted (pdi_range1 T.m_range (pd_var 2)) (pdg_name 10 sc_l_firsts.nd) (pd_ctup T.m_tuple (pda_cons (pd_lc (own := [("_law_test_here", 8)]) rfl sc_l_firsts.nd (pdi_seq (pd_var 4)) (blkOk_by (own := [("_law_test_here", 8)]) (N := N_l_firsts) (sc := defScope s_l_firsts) (by decide +kernel)) ⟨fun _ _ _ _ _ => (pdg_name 8 sc_l_firsts.nd), fun _ _ _ _ _ => pdts_nil, fun _ _ _ _ _ => (pd_callP (ok_l_holds T) (hr.mono (by decide)) T.g_l_holds T.F_l_holds.kp T.b_l_holds pass0 (pda_cons (pd_var 8) (pda_cons (pd_var 10) (pda_cons (pd_var 3) pda_nil)))), by decide⟩) pda_nil)) (pd_var 10) (by decide) PassesOwn.never))) : PDSs _ _ m_l_firsts)
def m_l_odd : MS := (sSeq (sAsg (mLst (mCons (mC .none) (mCons (mC (.bool true)) (mCons (mC (.bool false)) (mCons (mUn negD (mC (.int 1))) (mCons (mC (.int 0)) (mCons (mC (.int 1)) (mCons (mC (.int 2)) (mCons (mC (.int 61)) (mCons (mC (.int 201)) (mCons (mBin addD (mBin powD (mC (.int 10)) (mC (.int 12))) (mC (.int 1))) (mCons (mC (.str "")) (mCons (mC (.str "a")) (mCons (mC (.str "A")) mNil)))))))))))))) (gSet 1))
  (sSeq (sAsg (mBin addD (mVar 1) (mLst (mCons (mC (.str "whole")) (mCons (mC (.str "abcdefghi")) (mCons (mTup mNil) (mCons (mTup (mCons (mTup mNil) mNil)) (mCons (mLst mNil) (mCons (mTup (mCons (mC (.int 0)) mNil)) mNil)))))))) (gSet 1))
  (sRet (mBin subD' (mVar 1) (mCallK 0 f_l_draw (mCons (mC (.int 19)) mNil))))))
def f_l_odd : List D → Dk → Option (D × Dk) := fnK 2 1 m_l_odd
theorem ok_l_odd (T : Tx K mg) : FnOk P w K mg base CX0 2 T.a_l_odd T.d_l_odd ["_law_deck_here"] (spK K f_l_odd) := okK (k := 1) T.F_l_odd sc_l_odd (by decide) fun cdv A outer s0 H E hr =>
  ((pdss_cons (pds_set 1 sc_l_odd.nd (pd_lst (pda_cons pd_non (pda_cons pd_bl (pda_cons pd_bl (pda_cons (pd_neg pd_int) (pda_cons pd_int (pda_cons pd_int (pda_cons pd_int (pda_cons pd_int (pda_cons pd_int (pda_cons (pd_add (pd_pow pd_int pd_int) pd_int) (pda_cons pd_str (pda_cons pd_str (pda_cons pd_str pda_nil))))))))))))))) (pdss_cons (pds_set 1 sc_l_odd.nd (pd_add (pd_var 1) (pd_lst (pda_cons pd_str (pda_cons pd_str (pda_cons (pd_tup pda_nil) (pda_cons (pd_tup (pda_cons (pd_tup pda_nil) pda_nil)) (pda_cons (pd_lst pda_nil) (pda_cons (pd_tup (pda_cons pd_int pda_nil)) pda_nil))))))))) (pdss_one (pds_ret (pd_ix (hu_of hr) (pd_var 1) (pd_callK 0 (ok_l_draw T) (hr.mono (by decide)) T.g_l_draw T.F_l_draw.kp T.b_l_draw pass0 (pda_cons pd_int pda_nil))))))) : PDSs _ _ m_l_odd)
def m_forms_of : MS := (sSeq (sAsg (mCall f_parts_of (mCons (mVar 1) mNil)) (gSet 2))
  (sRet (mCall tupD (mCons (mLc (mItems (mVar 0)) [3, 4] (gTupM 2 (gsCons (gSet 3) (gsCons (gSet 4) gsNil))) (mTru (mCall f_rule_holds (mCons (mVar 4) (mCons (mVar 2) mNil)))) (mVar 3)) mNil))))
def f_forms_of : List D → Option D := fnP 5 2 m_forms_of
theorem ok_forms_of (T : Tx K mg) : FnOk P w K mg base CX0 3 T.a_forms_of T.d_forms_of ["forms", "count"] (spP K f_forms_of) := okP (k := 2) T.F_forms_of sc_forms_of (by decide) fun cdv A outer s0 H E hr =>
  ((pdss_cons (pds_set 2 sc_forms_of.nd (pd_callP (ok_parts_of T) (hr.mono (by decide)) T.g_parts_of T.F_parts_of.kp T.b_parts_of pass0 (pda_cons (pd_var 1) pda_nil))) (pdss_one (pds_ret (pd_ctup T.m_tuple (pda_cons (pd_lc (own := [("word", 3), ("rule", 4)]) rfl sc_forms_of.nd (pdi_seq (pd_var 0)) (blkOk_by (own := [("word", 3), ("rule", 4)]) (N := N_forms_of) (sc := defScope s_forms_of) (by decide +kernel)) ⟨fun _ _ _ _ _ => (pdg_tup rfl (pdgs_cons (pdg_name 3 sc_forms_of.nd) (pdgs_cons (pdg_name 4 sc_forms_of.nd) pdgs_nil))), fun _ _ _ _ _ => (pdts_one (pdt_tru (pd_callP (ok_rule_holds T) (hr.mono (by decide)) T.g_rule_holds T.F_rule_holds.kp T.b_rule_holds pass0 (pda_cons (pd_var 4) (pda_cons (pd_var 2) pda_nil))))), fun _ _ _ _ _ => (pd_var 3), by decide⟩) pda_nil))))) : PDSs _ _ m_forms_of)
def m_unlike : MS := (sSeq (sDict 3 (mItems (mVar 2)) (gSet 4) (mCall f_row_bits (mCons (mVar 0) (mCons (mVar 1) (mCons (mVar 4) mNil)))) (mVar 4))
  (sRet (mLcItems 3 [5, 4] (gTupM 2 (gsCons (gSet 5) (gsCons (gSet 4) gsNil))) mYes (mTup (mCons (mVar 4) (mCons (mVar 5) mNil))))))
def f_unlike : List D → Option D := fnP 6 3 m_unlike
theorem ok_unlike (T : Tx K mg) : FnOk P w K mg base CX0 3 T.a_unlike T.d_unlike ["forms", "what", "numbers"] (spP K f_unlike) := okP (k := 2) T.F_unlike sc_unlike (by decide) fun cdv A outer s0 H E hr =>
  ((pdss_dict 3 rfl sc_unlike.nd (pdi_seq (pd_var 2)) (pdg_name 4 sc_unlike.nd) (pd_callP (ok_row_bits T) (hr.mono (by decide)) T.g_row_bits T.F_row_bits.kp T.b_row_bits pass0 (pda_cons (pd_var 0) (pda_cons (pd_var 1) (pda_cons (pd_var 4) pda_nil)))) (pd_var 4) (pdss_one (pds_ret (pd_lcItems 3 (own := [("bits", 5), ("number", 4)]) rfl sc_unlike.nd (blkOk_by (own := [("bits", 5), ("number", 4)]) (N := N_unlike) (sc := defScope s_unlike) (by decide +kernel)) ⟨fun _ _ _ _ _ => (pdg_tup rfl (pdgs_cons (pdg_name 5 sc_unlike.nd) (pdgs_cons (pdg_name 4 sc_unlike.nd) pdgs_nil))), fun _ _ _ _ _ => pdts_nil, fun _ _ _ _ _ => (pd_tup (pda_cons (pd_var 4) (pda_cons (pd_var 5) pda_nil))), by decide⟩))) (by decide) PassesOwn.never) : PDSs _ _ m_unlike)
def m_l_covering : MS := (sSeq (sAsg (mBin subD' (mLst (mCons (mLst (mCons (mC (.int 0)) (mCons (mC (.int 0)) (mCons (mC (.int 2)) (mCons (mC (.int 4)) (mCons (mC (.int 10)) mNil)))))) (mCons (mLst (mCons (mC (.int 0)) (mCons (mC (.int 10)) (mCons (mC (.int 60)) (mCons (mC (.int 12)) mNil))))) (mCons (mLst (mCons (mC (.int 0)) (mCons (mC (.int 7)) (mCons (mC (.int 8)) mNil)))) (mCons (mLst (mCons (mC (.int 0)) mNil)) (mCons (mLst (mCons (mC (.int 0)) (mCons (mC (.int 100)) (mCons (mC (.int 3)) (mCons (mC (.int 5)) mNil))))) mNil)))))) (mCallK 0 f_l_draw (mCons (mC (.int 5)) mNil))) (gSet 1))
  (sSeq (sAsg (mLc (mItems (mVar 1)) [2] (gSet 2) (mB (mBin leD (mVar 2) (mC (.int 60)))) (mVar 2)) (gSet 1))
  (sSeq (sAsg (mLc (mRng1 (mCallK 0 f_l_draw (mCons (mC (.int 5)) mNil))) [4] (gSet 4) mYes (mCallK 0 f_l_test (mCons (mVar 1) mNil))) (gSet 3))
  (sSeq (sUni 5 mNil)
  (sSeq (sFor (mRng1 (mCall lenD (mCons (mVar 3) mNil))) (gSet 4) (sApp 5 (mCall tupD (mCons (mBin addD (mLc (mItems (mSl (mVar 3) oNo (oSome (mVar 4)))) [6] (gSet 6) mYes (mCall f_l_turned (mCons (mVar 6) mNil))) (mLst (mCons (mBin subD' (mVar 3) (mVar 4)) mNil))) mNil))))
  (sSeq (sApp 5 (mCall tupD (mCons (mLc (mItems (mVar 3)) [6] (gSet 6) mYes (mCall f_l_turned (mCons (mVar 6) mNil))) mNil)))
  (sSeq (sAsg (mCallK 0 f_l_names (mCons (mC (.int 6)) mNil)) (gSet 7))
  (sFrz 5 (sSeq (sAsg (mCall maxD (mCons (mBin addD (mC (.int 1)) (mCall intD (mCons (mBin gtD (mCall lenD (mCons (mVar 5) mNil)) (mC (.int 4))) mNil))) (mCons (mBin addD (mC (.int 1)) (mCallK 0 f_l_draw (mCons (mCall lenD (mCons (mVar 5) mNil)) mNil))) mNil))) (gSet 8))
  (sSeq (sRules 9 (mRng1 (mVar 8)) (mRng1 (mCall lenD (mCons (mVar 5) mNil))) (gSet 4) (mBin subD' (mLst (mCons (mVar 4) (mCons (mCallK 0 f_l_draw (mCons (mVar 8) mNil)) mNil))) (mCall intD (mCons (mBin geD (mVar 4) (mVar 8)) mNil))) (mBin subD' (mVar 5) (mVar 4)))
  (sSeq (sAsg (mLc (mRng1 (mVar 8)) [4] (gSet 4) mYes (mTup (mCons (mBin subD' (mVar 7) (mVar 4)) (mCons (mCall tupD (mCons (mBin subD' (mVar 9) (mVar 4)) mNil)) mNil)))) (gSet 10))
  (sSeq (sAsg (mCallK 0 f_l_draw (mCons (mVar 8) mNil)) (gSet 11))
  (sRet (mCall tupD (mCons (mBin addD (mSl (mVar 10) (oSome (mVar 11)) oNo) (mSl (mVar 10) oNo (oSome (mVar 11)))) mNil)))))))))))))))
def f_l_covering : List D → Dk → Option (D × Dk) := fnK 12 1 m_l_covering
theorem ok_l_covering (T : Tx K mg) : FnOk P w K mg base CX0 3 T.a_l_covering T.d_l_covering ["_law_deck_here"] (spK K f_l_covering) := okK (k := 2) T.F_l_covering sc_l_covering (by decide) fun cdv A outer s0 H E hr =>
  ((pdss_cons (pds_set 1 sc_l_covering.nd (pd_ix (hu_of hr) (pd_lst (pda_cons (pd_lst (pda_cons pd_int (pda_cons pd_int (pda_cons pd_int (pda_cons pd_int (pda_cons pd_int pda_nil)))))) (pda_cons (pd_lst (pda_cons pd_int (pda_cons pd_int (pda_cons pd_int (pda_cons pd_int pda_nil))))) (pda_cons (pd_lst (pda_cons pd_int (pda_cons pd_int (pda_cons pd_int pda_nil)))) (pda_cons (pd_lst (pda_cons pd_int pda_nil)) (pda_cons (pd_lst (pda_cons pd_int (pda_cons pd_int (pda_cons pd_int (pda_cons pd_int pda_nil))))) pda_nil)))))) (pd_callK 0 (ok_l_draw T) (hr.mono (by decide)) T.g_l_draw T.F_l_draw.kp T.b_l_draw pass0 (pda_cons pd_int pda_nil)))) (pdss_cons (pds_set 1 sc_l_covering.nd (pd_lc (own := [("_law_by", 2)]) rfl sc_l_covering.nd (pdi_seq (pd_var 1)) (blkOk_by (own := [("_law_by", 2)]) (N := N_l_covering) (sc := defScope s_l_covering) (by decide +kernel)) ⟨fun _ _ _ _ _ => (pdg_name 2 sc_l_covering.nd), fun _ _ _ _ _ => (pdts_one (pdt_cmp cs_le (pd_var 2) pd_int (nomark _))), fun _ _ _ _ _ => (pd_var 2), by decide⟩)) (pdss_cons (pds_setLc 3 (own := [("_law_k", 4)]) rfl sc_l_covering.nd (pdi_range1 T.m_range (pd_callK 0 (ok_l_draw T) (hr.mono (by decide)) T.g_l_draw T.F_l_draw.kp T.b_l_draw pass0 (pda_cons pd_int pda_nil))) (blkOk_by (own := [("_law_k", 4)]) (N := N_l_covering) (sc := defScope s_l_covering) (by decide +kernel)) ⟨fun _ _ _ _ _ => (pdg_name 4 sc_l_covering.nd), fun _ _ _ _ _ => pdts_nil, fun _ _ _ _ _ => (pd_callK 0 (ok_l_test T) (hr.mono (by decide)) T.g_l_test T.F_l_test.kp T.b_l_test pass0 (pda_cons (pd_var 1) pda_nil)), by decide⟩ (sw_true rfl rfl rfl (by decide +kernel))) (pdss_cons (pds_uni 5 sc_l_covering.nd pda_nil) (pdss_cons (pds_for PassesOwn.never rfl (pdi_range1 T.m_range (pd_len T.m_len (pda_cons (pd_var 3) pda_nil))) (pdg_name 4 sc_l_covering.nd) (pdss_one (pds_app 5 (pd_ctup T.m_tuple (pda_cons (pd_add (pd_lc (own := [("_law_test_here", 6)]) rfl sc_l_covering.nd (pdi_seq (pd_sl (pd_var 3) pdo_no (pdo_some (pd_var 4)))) (blkOk_by (own := [("_law_test_here", 6)]) (N := N_l_covering) (sc := defScope s_l_covering) (by decide +kernel)) ⟨fun _ _ _ _ _ => (pdg_name 6 sc_l_covering.nd), fun _ _ _ _ _ => pdts_nil, fun _ _ _ _ _ => (pd_callP (ok_l_turned T) (hr.mono (by decide)) T.g_l_turned T.F_l_turned.kp T.b_l_turned pass0 (pda_cons (pd_var 6) pda_nil)), by decide⟩) (pd_lst (pda_cons (pd_ix (hu_of hr) (pd_var 3) (pd_var 4)) pda_nil))) pda_nil))))) (pdss_cons (pds_app 5 (pd_ctup T.m_tuple (pda_cons (pd_lc (own := [("_law_test_here", 6)]) rfl sc_l_covering.nd (pdi_seq (pd_var 3)) (blkOk_by (own := [("_law_test_here", 6)]) (N := N_l_covering) (sc := defScope s_l_covering) (by decide +kernel)) ⟨fun _ _ _ _ _ => (pdg_name 6 sc_l_covering.nd), fun _ _ _ _ _ => pdts_nil, fun _ _ _ _ _ => (pd_callP (ok_l_turned T) (hr.mono (by decide)) T.g_l_turned T.F_l_turned.kp T.b_l_turned pass0 (pda_cons (pd_var 6) pda_nil)), by decide⟩) pda_nil))) (pdss_cons (pds_set 7 sc_l_covering.nd (pd_callK 0 (ok_l_names T) (hr.mono (by decide)) T.g_l_names T.F_l_names.kp T.b_l_names pass0 (pda_cons pd_int pda_nil))) (pdss_frz 5 (pdss_cons (pds_set 8 sc_l_covering.nd (pd_max T.m_max rfl (pda_cons (pd_add pd_int (pd_cint T.m_int (pda_cons (pd_cmp cs_gt (pd_len T.m_len (pda_cons (pd_var 5) pda_nil)) pd_int (nomark _)) pda_nil))) (pda_cons (pd_add pd_int (pd_callK 0 (ok_l_draw T) (hr.mono (by decide)) T.g_l_draw T.F_l_draw.kp T.b_l_draw pass0 (pda_cons (pd_len T.m_len (pda_cons (pd_var 5) pda_nil)) pda_nil))) pda_nil)))) (pdss_rules 9 4 4 rfl (pdi_range1 T.m_range (pd_var 8)) (fun wi w1 => ps_set (i := 9) sc_l_covering.nd rfl (Or.inr rfl) (pe_lc (own := [("_law_k", 4)]) rfl sc_l_covering.nd w1 (blkOk_by (own := [("_law_k", 4)]) (N := N_l_covering) (sc := defScope s_l_covering) (by decide +kernel)) (fun _ _ _ _ _ => pg_name (i := 4) sc_l_covering.nd rfl (Or.inl rfl)) (fun _ _ _ _ _ => pts_nil) (fun _ _ _ _ _ => pe_lst pa_nil))) (pdi_range1 T.m_range (pd_len T.m_len (pda_cons (pd_var 5) pda_nil))) (pg_name (i := 4) sc_l_covering.nd rfl (by first | exact Or.inl rfl | exact Or.inr rfl)) (pd_ix (hu_of hr) (pd_lst (pda_cons (pd_var 4) (pda_cons (pd_callK 0 (ok_l_draw T) (hr.mono (by decide)) T.g_l_draw T.F_l_draw.kp T.b_l_draw pass0 (pda_cons (pd_var 8) pda_nil)) pda_nil))) (pd_cint T.m_int (pda_cons (pd_cmp cs_ge (pd_var 4) (pd_var 8) (nomark _)) pda_nil))) (pd_ix (hu_of hr) (pd_var 5) (pd_var 4)) (pdss_cons (pds_setLc 10 (own := [("_law_k", 4)]) rfl sc_l_covering.nd (pdi_range1 T.m_range (pd_var 8)) (blkOk_by (own := [("_law_k", 4)]) (N := N_l_covering) (sc := defScope s_l_covering) (by decide +kernel)) ⟨fun _ _ _ _ _ => (pdg_name 4 sc_l_covering.nd), fun _ _ _ _ _ => pdts_nil, fun _ _ _ _ _ => (pd_tup (pda_cons (pd_ix (hu_of hr) (pd_var 7) (pd_var 4)) (pda_cons (pd_ctup T.m_tuple (pda_cons (pd_ix (hu_of hr) (pd_var 9) (pd_var 4)) pda_nil)) pda_nil))), by decide⟩ (sw_true rfl rfl rfl (by decide +kernel))) (pdss_cons (pds_set 11 sc_l_covering.nd (pd_callK 0 (ok_l_draw T) (hr.mono (by decide)) T.g_l_draw T.F_l_draw.kp T.b_l_draw pass0 (pda_cons (pd_var 8) pda_nil))) (pdss_one (pds_ret (pd_ctup T.m_tuple (pda_cons (pd_add (pd_sl (pd_var 10) (pdo_some (pd_var 11)) pdo_no) (pd_sl (pd_var 10) pdo_no (pdo_some (pd_var 11)))) pda_nil)))))) (by decide) (hp := PassesOwn.never))))))))))) : PDSs _ _ m_l_covering)
def m_l_cover : MS := (sSeq (sAsg (mCall f_l_firsts (mCons (mVar 0) (mCons (mC (.str "whole")) (mCons (mBin addD (mC (.int 201)) (mC (.int 120))) (mCons (mC (.int 0)) mNil))))) (gSet 1))
  (sSeq (sFor (mItems (mTup (mCons (mC (.int 0)) (mCons (mC (.int 1)) (mCons (mC (.int 2)) mNil))))) (gSet 2) (sSeq (sAsg (mCall f_l_firsts (mCons (mVar 0) (mCons (mC (.str "rest")) (mCons (mBin subD' (mLst (mCons (mC (.int 1)) (mCons (mC (.int 10)) (mCons (mC (.int 100)) mNil)))) (mVar 2)) (mCons (mVar 2) mNil))))) (gSet 3))
  (sFor (mItems (mVar 1)) (gSet 4) (sFor (mItems (mVar 3)) (gSet 5) (sSeq (sAsg (mBin addD (mBin mulD (mVar 4) (mBin subD' (mLst (mCons (mC (.int 1)) (mCons (mC (.int 10)) (mCons (mC (.int 100)) mNil)))) (mVar 2))) (mVar 5)) (gSet 6))
  (sSeq (sAsg (mCall lenD (mCons (mCall f_l_words (mCons (mVar 0) (mCons (mVar 6) (mCons (mVar 2) mNil)))) mNil)) (gSet 7))
  (sIf (mB (mBin neD (mVar 7) (mC (.int 1)))) (sRet (mTup (mCons (mBin subD' (mLst (mCons (mC (.str "none")) (mCons (mC (.str "two")) mNil))) (mCall intD (mCons (mBin gtD (mVar 7) (mC (.int 1))) mNil))) (mCons (mTup (mCons (mVar 6) (mCons (mVar 2) mNil))) mNil)))) sNext)))))))
  (sRet (mTup (mCons (mC (.str "just")) mNil)))))
def f_l_cover : List D → Option D := fnP 8 1 m_l_cover
theorem ok_l_cover (T : Tx K mg) : FnOk P w K mg base CX0 3 T.a_l_cover T.d_l_cover ["_law_forms"] (spP K f_l_cover) := okP (k := 2) T.F_l_cover sc_l_cover (by decide) fun cdv A outer s0 H E hr =>
  ((pdss_cons (pds_set 1 sc_l_cover.nd (pd_callP (ok_l_firsts T) (hr.mono (by decide)) T.g_l_firsts T.F_l_firsts.kp T.b_l_firsts pass0 (pda_cons (pd_var 0) (pda_cons pd_str (pda_cons (pd_add pd_int pd_int) (pda_cons pd_int pda_nil)))))) (pdss_cons (pds_for PassesOwn.never rfl (pdi_seq (pd_tup (pda_cons pd_int (pda_cons pd_int (pda_cons pd_int pda_nil))))) (pdg_name 2 sc_l_cover.nd) (pdss_cons (pds_set 3 sc_l_cover.nd (pd_callP (ok_l_firsts T) (hr.mono (by decide)) T.g_l_firsts T.F_l_firsts.kp T.b_l_firsts pass0 (pda_cons (pd_var 0) (pda_cons pd_str (pda_cons (pd_ix (hu_of hr) (pd_lst (pda_cons pd_int (pda_cons pd_int (pda_cons pd_int pda_nil)))) (pd_var 2)) (pda_cons (pd_var 2) pda_nil)))))) (pdss_one (pds_for PassesOwn.never rfl (pdi_seq (pd_var 1)) (pdg_name 4 sc_l_cover.nd) (pdss_one (pds_for PassesOwn.never rfl (pdi_seq (pd_var 3)) (pdg_name 5 sc_l_cover.nd) (pdss_cons (pds_set 6 sc_l_cover.nd (pd_add (pd_mul (pd_var 4) (pd_ix (hu_of hr) (pd_lst (pda_cons pd_int (pda_cons pd_int (pda_cons pd_int pda_nil)))) (pd_var 2))) (pd_var 5))) (pdss_cons (pds_set 7 sc_l_cover.nd (pd_len T.m_len (pda_cons (pd_callP (ok_l_words T) (hr.mono (by decide)) T.g_l_words T.F_l_words.kp T.b_l_words pass0 (pda_cons (pd_var 0) (pda_cons (pd_var 6) (pda_cons (pd_var 2) pda_nil)))) pda_nil))) (pdss_one (pds_if (pdt_cmp (cs_ne hr.units) (pd_var 7) pd_int (nomark _)) (pdss_one (pds_ret (pd_tup (pda_cons (pd_ix (hu_of hr) (pd_lst (pda_cons pd_str (pda_cons pd_str pda_nil))) (pd_cint T.m_int (pda_cons (pd_cmp cs_gt (pd_var 7) pd_int (nomark _)) pda_nil))) (pda_cons (pd_tup (pda_cons (pd_var 6) (pda_cons (pd_var 2) pda_nil))) pda_nil))))) pdss_nil)))))))))) (pdss_one (pds_ret (pd_tup (pda_cons pd_str pda_nil)))))) : PDSs _ _ m_l_cover)
def m_l_due : MS := (sSeq (sIf (tOrM (tNotM (mTru (mUn (isiD "tuple") (mVar 1)))) (tOrM (mB (mBin eqU (mVar 1) (mTup mNil))) (tNotM (mTru (mUn (isiD "str") (mBin subD' (mVar 1) (mC (.int 0)))))))) (sRet (mC (.bool false))) sNext)
  (sSeq (sIf (mB (mBin eqD (mCall lenD (mCons (mVar 1) mNil)) (mC (.int 1)))) (sRet (mAnd (mBin eqT (mBin subD' (mVar 1) (mC (.int 0))) (mC (.str "just"))) (mVar 2))) sNext)
  (sSeq (sIf (tOrM (mB (mBin neD (mCall lenD (mCons (mVar 1) mNil)) (mC (.int 2)))) (tOrM (mB (mBin (inD true) (mBin subD' (mVar 1) (mC (.int 0))) (mLst (mCons (mC (.str "none")) (mCons (mC (.str "two")) mNil))))) (tOrM (tNotM (mTru (mUn (isiD "tuple") (mBin subD' (mVar 1) (mC (.int 1)))))) (mB (mBin neD (mCall lenD (mCons (mBin subD' (mVar 1) (mC (.int 1))) mNil)) (mC (.int 2))))))) (sRet (mC (.bool false))) sNext)
  (sSeq (sAsg (mBin subD' (mVar 1) (mC (.int 1))) (gTupM 2 (gsCons (gSet 3) (gsCons (gSet 4) gsNil))))
  (sSeq (sIf (tOrM (tNotM (mTru (mCall f_l_whole (mCons (mVar 3) mNil)))) (tOrM (tNotM (mTru (mCall f_l_whole (mCons (mVar 4) mNil)))) (tOrM (tNotM (mB (mChain leD leD (mC (.int 0)) (mVar 3) (mBin powD (mC (.int 10)) (mC (.int 12)))))) (tNotM (mB (mChain leD leD (mC (.int 0)) (mVar 4) (mC (.int 2)))))))) (sRet (mC (.bool false))) sNext)
  (sSeq (sAsg (mCall lenD (mCons (mCall f_l_words (mCons (mVar 0) (mCons (mVar 3) (mCons (mVar 4) mNil)))) mNil)) (gSet 5))
  (sRet (mBin subD' (mLst (mCons (mBin eqD (mVar 5) (mC (.int 0))) (mCons (mBin gtD (mVar 5) (mC (.int 1))) mNil))) (mCall intD (mCons (mBin eqT (mBin subD' (mVar 1) (mC (.int 0))) (mC (.str "two"))) mNil))))))))))
def f_l_due : List D → Option D := fnP 6 3 m_l_due
theorem ok_l_due (T : Tx K mg) : FnOk P w K mg base CX0 3 T.a_l_due T.d_l_due ["_law_forms", "_law_thing", "_law_covers"] (spP K f_l_due) := okP (k := 2) T.F_l_due sc_l_due (by decide) fun cdv A outer s0 H E hr =>
  ((pdss_cons (pds_if (PDW.pt (pdw_or (pdt_not (pdt_tru (pd_isi (T := "tuple") (t := "tuple") (by decide +kernel) T.m_isinstance T.m_tuple (pd_var 1)))) (pdw_or (pdt_cmp (cs_eqU hr.units) (pd_var 1) (pd_tup pda_nil) (nomark _)) (pdw_or1 (pdt_not (pdt_tru (pd_isi (T := "str") (t := "str") (by decide +kernel) T.m_isinstance T.m_str (pd_ix (hu_of hr) (pd_var 1) pd_int)))))))) (pdss_one (pds_ret pd_bl)) pdss_nil) (pdss_cons (pds_if (pdt_cmp (cs_eq hr.units) (pd_len T.m_len (pda_cons (pd_var 1) pda_nil)) pd_int (nomark _)) (pdss_one (pds_ret (pd_and (pd_cmp (cs_eqT hr.units) (pd_ix (hu_of hr) (pd_var 1) pd_int) pd_str (nomark _)) (pd_one (pd_var 2))))) pdss_nil) (pdss_cons (pds_if (PDW.pt (pdw_or (pdt_cmp (cs_ne hr.units) (pd_len T.m_len (pda_cons (pd_var 1) pda_nil)) pd_int (nomark _)) (pdw_or (pdt_cmp (cs_notin (u65 hr)) (pd_ix (hu_of hr) (pd_var 1) pd_int) (pd_lst (pda_cons pd_str (pda_cons pd_str pda_nil))) (by with_unfolding_all rfl)) (pdw_or (pdt_not (pdt_tru (pd_isi (T := "tuple") (t := "tuple") (by decide +kernel) T.m_isinstance T.m_tuple (pd_ix (hu_of hr) (pd_var 1) pd_int)))) (pdw_or1 (pdt_cmp (cs_ne hr.units) (pd_len T.m_len (pda_cons (pd_ix (hu_of hr) (pd_var 1) pd_int) pda_nil)) pd_int (nomark _))))))) (pdss_one (pds_ret pd_bl)) pdss_nil) (pdss_cons (pds_asg (pd_ix (hu_of hr) (pd_var 1) pd_int) (pdg_tup rfl (pdgs_cons (pdg_name 3 sc_l_due.nd) (pdgs_cons (pdg_name 4 sc_l_due.nd) pdgs_nil)))) (pdss_cons (pds_if (PDW.pt (pdw_or (pdt_not (pdt_tru (pd_callP (ok_l_whole T) (hr.mono (by decide)) T.g_l_whole T.F_l_whole.kp T.b_l_whole pass0 (pda_cons (pd_var 3) pda_nil)))) (pdw_or (pdt_not (pdt_tru (pd_callP (ok_l_whole T) (hr.mono (by decide)) T.g_l_whole T.F_l_whole.kp T.b_l_whole pass0 (pda_cons (pd_var 4) pda_nil)))) (pdw_or (pdt_not (pdt_chain cs_le cs_le pd_int (pd_var 3) (pd_pow pd_int pd_int))) (pdw_or1 (pdt_not (pdt_chain cs_le cs_le pd_int (pd_var 4) pd_int))))))) (pdss_one (pds_ret pd_bl)) pdss_nil) (pdss_cons (pds_set 5 sc_l_due.nd (pd_len T.m_len (pda_cons (pd_callP (ok_l_words T) (hr.mono (by decide)) T.g_l_words T.F_l_words.kp T.b_l_words pass0 (pda_cons (pd_var 0) (pda_cons (pd_var 3) (pda_cons (pd_var 4) pda_nil)))) pda_nil))) (pdss_one (pds_ret (pd_ix (hu_of hr) (pd_lst (pda_cons (pd_cmp (cs_eq hr.units) (pd_var 5) pd_int (nomark _)) (pda_cons (pd_cmp cs_gt (pd_var 5) pd_int (nomark _)) pda_nil))) (pd_cint T.m_int (pda_cons (pd_cmp (cs_eqT hr.units) (pd_ix (hu_of hr) (pd_var 1) pd_int) pd_str (nomark _)) pda_nil))))))))))) : PDSs _ _ m_l_due)
def m_amiss : MS := (sSeq (sAsg (mCall f_form_bits (mCons (mVar 0) mNil)) (gSet 3))
  (sSeq (sAsg (mCall f_row_bits (mCons (mVar 0) (mCons (mC (.str "places")) (mCons (mVar 2) mNil)))) (gSet 4))
  (sSeq (sAsg (mCall f_scale_of (mCons (mVar 2) mNil)) (gSet 5))
  (sSeq (sAsg (mCall f_unlike (mCons (mVar 0) (mCons (mC (.str "rest")) (mCons (mLRng (mRng1 (mVar 5))) mNil)))) (gSet 6))
  (sSeq (sFor (mItems (mVar 1)) (gTupM 2 (gsCons (gSet 7) (gsCons (gSet 8) gsNil))) (sFor (mItems (mVar 6)) (gTupM 2 (gsCons (gSet 9) (gsCons (gSet 10) gsNil))) (sSeq (sAsg (mCall f_words_with (mCons (mVar 3) (mCons (mBin bandD (mBin bandD (mVar 8) (mVar 10)) (mVar 4)) mNil))) (gSet 11))
  (sIf (mB (mBin neD (mCall lenD (mCons (mVar 11) mNil)) (mC (.int 1)))) (sRet (mTup (mCons (mIf (mTru (mVar 11)) (mC (.str "two")) (mC (.str "none"))) (mCons (mTup (mCons (mBin addD (mBin mulD (mVar 7) (mVar 5)) (mVar 9)) (mCons (mVar 2) mNil))) mNil)))) sNext))))
  (sRet (mC .none)))))))
def f_amiss : List D → Option D := fnP 12 3 m_amiss
theorem ok_amiss (T : Tx K mg) : FnOk P w K mg base CX0 4 T.a_amiss T.d_amiss ["forms", "wholes", "places"] (spP K f_amiss) := okP (k := 3) T.F_amiss sc_amiss (by decide) fun cdv A outer s0 H E hr =>
  ((pdss_cons (pds_set 3 sc_amiss.nd (pd_callP (ok_form_bits T) (hr.mono (by decide)) T.g_form_bits T.F_form_bits.kp T.b_form_bits pass0 (pda_cons (pd_var 0) pda_nil))) (pdss_cons (pds_set 4 sc_amiss.nd (pd_callP (ok_row_bits T) (hr.mono (by decide)) T.g_row_bits T.F_row_bits.kp T.b_row_bits pass0 (pda_cons (pd_var 0) (pda_cons pd_str (pda_cons (pd_var 2) pda_nil))))) (pdss_cons (pds_set 5 sc_amiss.nd (pd_callP (ok_scale_of T) (hr.mono (by decide)) T.g_scale_of T.F_scale_of.kp T.b_scale_of pass0 (pda_cons (pd_var 2) pda_nil))) (pdss_cons (pds_set 6 sc_amiss.nd (pd_callP (ok_unlike T) (hr.mono (by decide)) T.g_unlike T.F_unlike.kp T.b_unlike pass0 (pda_cons (pd_var 0) (pda_cons pd_str (pda_cons (pd_listR1 T.m_list T.m_range rfl (pd_var 5)) pda_nil))))) (pdss_cons (pds_for PassesOwn.never rfl (pdi_seq (pd_var 1)) (pdg_tup rfl (pdgs_cons (pdg_name 7 sc_amiss.nd) (pdgs_cons (pdg_name 8 sc_amiss.nd) pdgs_nil))) (pdss_one (pds_for PassesOwn.never rfl (pdi_seq (pd_var 6)) (pdg_tup rfl (pdgs_cons (pdg_name 9 sc_amiss.nd) (pdgs_cons (pdg_name 10 sc_amiss.nd) pdgs_nil))) (pdss_cons (pds_set 11 sc_amiss.nd (pd_callP (ok_words_with T) (hr.mono (by decide)) T.g_words_with T.F_words_with.kp T.b_words_with pass0 (pda_cons (pd_var 3) (pda_cons (pd_band (pd_band (pd_var 8) (pd_var 10)) (pd_var 4)) pda_nil)))) (pdss_one (pds_if (pdt_cmp (cs_ne hr.units) (pd_len T.m_len (pda_cons (pd_var 11) pda_nil)) pd_int (nomark _)) (pdss_one (pds_ret (pd_tup (pda_cons (pd_ifExp (pdt_tru (pd_var 11)) pd_str pd_str) (pda_cons (pd_tup (pda_cons (pd_add (pd_mul (pd_var 7) (pd_var 5)) (pd_var 9)) (pda_cons (pd_var 2) pda_nil))) pda_nil))))) pdss_nil)))))) (pdss_one (pds_ret pd_non))))))) : PDSs _ _ m_amiss)
def m_cover : MS := (sSeq (sAsg (mCall f_unlike (mCons (mVar 0) (mCons (mC (.str "whole")) (mCons (mLRng (mRng1 (mBin addD (mCall f_first_far (mCons (mVar 0) mNil)) (mCall f_round_of (mCons (mVar 0) mNil))))) mNil)))) (gSet 1))
  (sSeq (sFor (mRng1 (mBin addD (mC (.int 2)) (mC (.int 1)))) (gSet 2) (sSeq (sAsg (mCall f_amiss (mCons (mVar 0) (mCons (mVar 1) (mCons (mVar 2) mNil)))) (gSet 3))
  (sIf (mB (mBin isNotD (mVar 3) (mC .none))) (sRet (mVar 3)) sNext)))
  (sRet (mTup (mCons (mC (.str "just")) mNil)))))
def f_cover : List D → Option D := fnP 4 1 m_cover
theorem ok_cover (T : Tx K mg) : FnOk P w K mg base CX0 5 T.a_cover T.d_cover ["forms"] (spP K f_cover) := okP (k := 4) T.F_cover sc_cover (by decide) fun cdv A outer s0 H E hr =>
  ((pdss_cons (pds_set 1 sc_cover.nd (pd_callP (ok_unlike T) (hr.mono (by decide)) T.g_unlike T.F_unlike.kp T.b_unlike pass0 (pda_cons (pd_var 0) (pda_cons pd_str (pda_cons (pd_listR1 T.m_list T.m_range rfl (pd_add (pd_callP (ok_first_far T) (hr.mono (by decide)) T.g_first_far T.F_first_far.kp T.b_first_far pass0 (pda_cons (pd_var 0) pda_nil)) (pd_callP (ok_round_of T) (hr.mono (by decide)) T.g_round_of T.F_round_of.kp T.b_round_of pass0 (pda_cons (pd_var 0) pda_nil)))) pda_nil))))) (pdss_cons (pds_for PassesOwn.never rfl (pdi_range1 T.m_range (pd_add (pd_glob T.c_MOST_PLACES) pd_int)) (pdg_name 2 sc_cover.nd) (pdss_cons (pds_set 3 sc_cover.nd (pd_callP (ok_amiss T) (hr.mono (by decide)) T.g_amiss T.F_amiss.kp T.b_amiss pass0 (pda_cons (pd_var 0) (pda_cons (pd_var 1) (pda_cons (pd_var 2) pda_nil))))) (pdss_one (pds_if (pdt_cmp cs_isnot (pd_var 3) pd_non (nomark _)) (pdss_one (pds_ret (pd_var 3))) pdss_nil)))) (pdss_one (pds_ret (pd_tup (pda_cons pd_str pda_nil)))))) : PDSs _ _ m_cover)
def m_cover_holds : MS := (sSeq (sIf (mTru (mCall f_is_tuple (mCons (mVar 1) (mCons (mC (.int 1)) (mCons (mC (.int 1)) mNil))))) (sRet (mAnd (mBin eqD (mVar 1) (mTup (mCons (mC (.str "just")) mNil))) (mBin eqD (mCall f_cover (mCons (mVar 0) mNil)) (mTup (mCons (mC (.str "just")) mNil))))) sNext)
  (sSeq (sIf (tOrM (tNotM (mTru (mCall f_is_tuple (mCons (mVar 1) (mCons (mC (.int 2)) (mCons (mC (.int 2)) mNil)))))) (tNotM (mTru (mCall f_is_count (mCons (mBin subD' (mVar 1) (mC (.int 1))) mNil))))) (sRet (mC (.bool false))) sNext)
  (sSeq (sAsg (mCall lenD (mCons (mCall f_forms_of (mCons (mVar 0) (mCons (mBin subD' (mVar 1) (mC (.int 1))) mNil))) mNil)) (gSet 2))
  (sRet (mOr (mAnd (mBin eqT (mBin subD' (mVar 1) (mC (.int 0))) (mC (.str "none"))) (mBin eqD (mVar 2) (mC (.int 0)))) (mAnd (mBin eqT (mBin subD' (mVar 1) (mC (.int 0))) (mC (.str "two"))) (mBin geD (mVar 2) (mC (.int 2)))))))))
def f_cover_holds : List D → Option D := fnP 3 2 m_cover_holds
theorem ok_cover_holds (T : Tx K mg) : FnOk P w K mg base CX0 6 T.a_cover_holds T.d_cover_holds ["forms", "thing"] (spP K f_cover_holds) := okP (k := 5) T.F_cover_holds sc_cover_holds (by decide) fun cdv A outer s0 H E hr =>
  ((pdss_cons (pds_if (pdt_tru (pd_callP (ok_is_tuple T) (hr.mono (by decide)) T.g_is_tuple T.F_is_tuple.kp T.b_is_tuple pass0 (pda_cons (pd_var 1) (pda_cons pd_int (pda_cons pd_int pda_nil))))) (pdss_one (pds_ret (pd_and (pd_cmp (cs_eq hr.units) (pd_var 1) (pd_tup (pda_cons pd_str pda_nil)) (nomark _)) (pd_one (pd_cmp (cs_eq hr.units) (pd_callP (ok_cover T) (hr.mono (by decide)) T.g_cover T.F_cover.kp T.b_cover pass0 (pda_cons (pd_var 0) pda_nil)) (pd_tup (pda_cons pd_str pda_nil)) (nomark _)))))) pdss_nil) (pdss_cons (pds_if (PDW.pt (pdw_or (pdt_not (pdt_tru (pd_callP (ok_is_tuple T) (hr.mono (by decide)) T.g_is_tuple T.F_is_tuple.kp T.b_is_tuple pass0 (pda_cons (pd_var 1) (pda_cons pd_int (pda_cons pd_int pda_nil)))))) (pdw_or1 (pdt_not (pdt_tru (pd_callP (ok_is_count T) (hr.mono (by decide)) T.g_is_count T.F_is_count.kp T.b_is_count pass0 (pda_cons (pd_ix (hu_of hr) (pd_var 1) pd_int) pda_nil))))))) (pdss_one (pds_ret pd_bl)) pdss_nil) (pdss_cons (pds_set 2 sc_cover_holds.nd (pd_len T.m_len (pda_cons (pd_callP (ok_forms_of T) (hr.mono (by decide)) T.g_forms_of T.F_forms_of.kp T.b_forms_of pass0 (pda_cons (pd_var 0) (pda_cons (pd_ix (hu_of hr) (pd_var 1) pd_int) pda_nil))) pda_nil))) (pdss_one (pds_ret (pd_or (pd_and (pd_cmp (cs_eqT hr.units) (pd_ix (hu_of hr) (pd_var 1) pd_int) pd_str (nomark _)) (pd_one (pd_cmp (cs_eq hr.units) (pd_var 2) pd_int (nomark _)))) (pd_one (pd_and (pd_cmp (cs_eqT hr.units) (pd_ix (hu_of hr) (pd_var 1) pd_int) pd_str (nomark _)) (pd_one (pd_cmp cs_ge (pd_var 2) pd_int (nomark _))))))))))) : PDSs _ _ m_cover_holds)
def m_l_bent (g_l_bent : List D → Dk → Option (D × Dk)) : MS := (sSeq (sIf (tAndM (mTru (mUn (isiD "tuple") (mVar 1))) (tAndM (mB (mBin gtD (mCall lenD (mCons (mVar 1) mNil)) (mC (.int 0)))) (tAndM (mB (mBin gtD (mVar 2) (mC (.int 0)))) (mB (mBin gtD (mCallK 0 f_l_draw (mCons (mC (.int 6)) mNil)) (mC (.int 0))))))) (sSeq (sAsg (mCallK 0 f_l_draw (mCons (mCall lenD (mCons (mVar 1) mNil)) mNil)) (gSet 3))
  (sRet (mBin addD (mBin addD (mSl (mVar 1) oNo (oSome (mVar 3))) (mTup (mCons (mCallK 0 g_l_bent (mCons (mBin subD' (mVar 1) (mVar 3)) (mCons (mBin subD (mVar 2) (mC (.int 1))) mNil))) mNil))) (mSl (mVar 1) (oSome (mBin addD (mVar 3) (mC (.int 1)))) oNo)))) sNext)
  (sSeq (sAsg (mCallK 0 f_l_draw (mCons (mC (.int 5)) mNil)) (gSet 4))
  (sSeq (sIf (tAndM (mTru (mUn (isiD "tuple") (mVar 1))) (mB (mBin gtD (mVar 4) (mC (.int 0))))) (sSeq (sAsg (mLst (mCons (mBin addD (mVar 1) (mTup (mCons (mCallK 0 f_l_odd mNil) mNil))) (mCons (mSl (mVar 1) oNo (oSome (mUn negD (mC (.int 1))))) (mCons (mUn revD (mVar 1)) (mCons (mBin addD (mVar 1) (mSl (mVar 1) (oSome (mUn negD (mC (.int 1)))) oNo)) (mCons (mBin addD (mSl (mVar 1) (oSome (mC (.int 1))) oNo) (mSl (mVar 1) oNo (oSome (mC (.int 1))))) mNil)))))) (gSet 5))
  (sRet (mBin subD' (mBin addD (mLst (mCons (mCall listD (mCons (mVar 1) mNil)) mNil)) (mVar 5)) (mCallK 0 f_l_draw (mCons (mC (.int 6)) mNil))))) sNext)
  (sSeq (sIf (tAndM (mTru (mUn (isiD "int") (mVar 1))) (tAndM (tNotM (mTru (mUn (isiD "bool") (mVar 1)))) (mB (mBin gtD (mVar 4) (mC (.int 0)))))) (sRet (mBin subD' (mLst (mCons (mBin addD (mVar 1) (mC (.int 1))) (mCons (mBin subD (mVar 1) (mC (.int 1))) (mCons (mC (.int 0)) (mCons (mBin addD (mVar 1) (mC (.int 100))) (mCons (mC (.int 1)) (mCons (mCall strD (mCons (mVar 1) mNil)) mNil))))))) (mCallK 0 f_l_draw (mCons (mC (.int 6)) mNil)))) sNext)
  (sSeq (sIf (tAndM (mTru (mUn (isiD "str") (mVar 1))) (mB (mBin gtD (mVar 4) (mC (.int 0))))) (sRet (mBin subD' (mLst (mCons (mBin addD (mVar 1) (mC (.str "a"))) (mCons (mSl (mVar 1) oNo (oSome (mUn negD (mC (.int 1))))) (mCons (mUn upperD (mVar 1)) (mCons (mBin addD (mVar 1) (mC (.str " "))) (mCons (mTup (mCons (mVar 1) mNil)) (mCons (mBin mulS (mVar 1) (mC (.int 3))) mNil))))))) (mCallK 0 f_l_draw (mCons (mC (.int 6)) mNil)))) sNext)
  (sRet (mCallK 0 f_l_odd mNil)))))))
def f_l_bent : Nat → List D → Dk → Option (D × Dk)
  | 0 => fun _ _ => none
  | n + 1 => fnK 6 3 (m_l_bent (f_l_bent n))
theorem okg_l_bent (T : Tx K mg) : ∀ n : Nat, FnOk P w K mg base CX0 (3 + n) T.a_l_bent T.d_l_bent ["_law_deck_here", "_law_thing", "_law_deep"] (spK K (f_l_bent n))
  | 0 => noneK 2 T.F_l_bent sc_l_bent
  | n + 1 => by
    have ih_l_bent := okg_l_bent T n
    exact okK (k := 3 + n) T.F_l_bent sc_l_bent (by decide) fun cdv A outer s0 H E hr =>
      ((pdss_cons (pds_if (PDW.pt (pdw_and (pdt_tru (pd_isi (T := "tuple") (t := "tuple") (by decide +kernel) T.m_isinstance T.m_tuple (pd_var 1))) (pdw_and (pdt_cmp cs_gt (pd_len T.m_len (pda_cons (pd_var 1) pda_nil)) pd_int (nomark _)) (pdw_and (pdt_cmp cs_gt (pd_var 2) pd_int (nomark _)) (pdw_and1 (pdt_cmp cs_gt (pd_callK 0 (ok_l_draw T) (hr.mono (by omega)) T.g_l_draw T.F_l_draw.kp T.b_l_draw pass0 (pda_cons pd_int pda_nil)) pd_int (nomark _))))))) (pdss_cons (pds_set 3 sc_l_bent.nd (pd_callK 0 (ok_l_draw T) (hr.mono (by omega)) T.g_l_draw T.F_l_draw.kp T.b_l_draw pass0 (pda_cons (pd_len T.m_len (pda_cons (pd_var 1) pda_nil)) pda_nil))) (pdss_one (pds_ret (pd_add (pd_add (pd_sl (pd_var 1) pdo_no (pdo_some (pd_var 3))) (pd_tup (pda_cons (pd_callK 0 ih_l_bent (hr.mono (by omega)) T.g_l_bent T.F_l_bent.kp T.b_l_bent pass0 (pda_cons (pd_ix (hu_of hr) (pd_var 1) (pd_var 3)) (pda_cons (pd_sub (pd_var 2) pd_int) pda_nil))) pda_nil))) (pd_sl (pd_var 1) (pdo_some (pd_add (pd_var 3) pd_int)) pdo_no))))) pdss_nil) (pdss_cons (pds_set 4 sc_l_bent.nd (pd_callK 0 (ok_l_draw T) (hr.mono (by omega)) T.g_l_draw T.F_l_draw.kp T.b_l_draw pass0 (pda_cons pd_int pda_nil))) (pdss_cons (pds_if (PDW.pt (pdw_and (pdt_tru (pd_isi (T := "tuple") (t := "tuple") (by decide +kernel) T.m_isinstance T.m_tuple (pd_var 1))) (pdw_and1 (pdt_cmp cs_gt (pd_var 4) pd_int (nomark _))))) (pdss_cons (pds_set 5 sc_l_bent.nd (pd_lst (pda_cons (pd_add (pd_var 1) (pd_tup (pda_cons (pd_callK 0 (ok_l_odd T) (hr.mono (by omega)) T.g_l_odd T.F_l_odd.kp T.b_l_odd pass0 pda_nil) pda_nil))) (pda_cons (pd_sl (pd_var 1) pdo_no (pdo_some (pd_neg pd_int))) (pda_cons (pd_rev (pd_var 1)) (pda_cons (pd_add (pd_var 1) (pd_sl (pd_var 1) (pdo_some (pd_neg pd_int)) pdo_no)) (pda_cons (pd_add (pd_sl (pd_var 1) (pdo_some pd_int) pdo_no) (pd_sl (pd_var 1) pdo_no (pdo_some pd_int))) pda_nil))))))) (pdss_one (pds_ret (pd_ix (hu_of hr) (pd_add (pd_lst (pda_cons (pd_clist T.m_list (pda_cons (pd_var 1) pda_nil)) pda_nil)) (pd_var 5)) (pd_callK 0 (ok_l_draw T) (hr.mono (by omega)) T.g_l_draw T.F_l_draw.kp T.b_l_draw pass0 (pda_cons pd_int pda_nil)))))) pdss_nil) (pdss_cons (pds_if (PDW.pt (pdw_and (pdt_tru (pd_isi (T := "int") (t := "int") (by decide +kernel) T.m_isinstance T.m_int (pd_var 1))) (pdw_and (pdt_not (pdt_tru (pd_isi (T := "bool") (t := "bool") (by decide +kernel) T.m_isinstance T.m_bool (pd_var 1)))) (pdw_and1 (pdt_cmp cs_gt (pd_var 4) pd_int (nomark _)))))) (pdss_one (pds_ret (pd_ix (hu_of hr) (pd_lst (pda_cons (pd_add (pd_var 1) pd_int) (pda_cons (pd_sub (pd_var 1) pd_int) (pda_cons pd_int (pda_cons (pd_add (pd_var 1) pd_int) (pda_cons pd_int (pda_cons (pd_cstr T.m_str (pda_cons (pd_var 1) pda_nil)) pda_nil))))))) (pd_callK 0 (ok_l_draw T) (hr.mono (by omega)) T.g_l_draw T.F_l_draw.kp T.b_l_draw pass0 (pda_cons pd_int pda_nil))))) pdss_nil) (pdss_cons (pds_if (PDW.pt (pdw_and (pdt_tru (pd_isi (T := "str") (t := "str") (by decide +kernel) T.m_isinstance T.m_str (pd_var 1))) (pdw_and1 (pdt_cmp cs_gt (pd_var 4) pd_int (nomark _))))) (pdss_one (pds_ret (pd_ix (hu_of hr) (pd_lst (pda_cons (pd_add (pd_var 1) pd_str) (pda_cons (pd_sl (pd_var 1) pdo_no (pdo_some (pd_neg pd_int))) (pda_cons (pd_upper (pd_var 1)) (pda_cons (pd_add (pd_var 1) pd_str) (pda_cons (pd_tup (pda_cons (pd_var 1) pda_nil)) (pda_cons (pd_mulS (pd_var 1) pd_int) pda_nil))))))) (pd_callK 0 (ok_l_draw T) (hr.mono (by omega)) T.g_l_draw T.F_l_draw.kp T.b_l_draw pass0 (pda_cons pd_int pda_nil))))) pdss_nil) (pdss_one (pds_ret (pd_callK 0 (ok_l_odd T) (hr.mono (by omega)) T.g_l_odd T.F_l_odd.kp T.b_l_odd pass0 pda_nil)))))))) : PDSs _ _ (m_l_bent (f_l_bent n)))
theorem ok_l_bent (T : Tx K mg) (n : Nat) : FnOk P w K mg base CX0 (3 + n) T.a_l_bent T.d_l_bent ["_law_deck_here", "_law_thing", "_law_deep"] (spK K (f_l_bent n)) := (okg_l_bent T n)
def m_law : MS := (sSeq (sAsg (mCallK 1 f_l_covering mNil) (gSet 2))
  (sSeq (sFor (mRng1 (mCallK 1 f_l_draw (mCons (mC (.int 4)) mNil))) (gSet 3) (sAsg (mCallK 1 f_l_bent_forms (mCons (mVar 2) mNil)) (gSet 2)))
  (sSeq (sAsg (mCall f_l_cover (mCons (mVar 2) mNil)) (gSet 4))
  (sSeq (sAsg (mLst (mCons (mVar 4) (mCons (mTup (mCons (mC (.str "just")) mNil)) (mCons (mTup (mCons (mC (.str "none")) mNil)) (mCons (mTup (mCons (mC (.str "two")) (mCons (mTup (mCons (mC (.int 0)) (mCons (mC (.int 0)) mNil))) (mCons (mTup mNil) mNil)))) (mCons (mCallK 1 f_l_odd mNil) mNil)))))) (gSet 5))
  (sSeq (sFor (mRng1 (mC (.int 6))) (gSet 3) (sSeq (sAsg (mCallK 1 f_l_draw (mCons (mC (.int 3)) mNil)) (gSet 6))
  (sSeq (sAsg (mBin subD' (mLst (mCons (mCallK 1 f_l_draw (mCons (mC (.int 40)) mNil)) (mCons (mCallK 1 f_l_draw (mCons (mC (.int 25000)) mNil)) (mCons (mCallK 1 f_l_draw (mCons (mBin addD (mBin powD (mC (.int 10)) (mC (.int 12))) (mC (.int 1))) mNil)) mNil)))) (mCallK 1 f_l_draw (mCons (mC (.int 3)) mNil))) (gSet 7))
  (sSeq (sIf (tAndM (mB (mBin eqD (mCall lenD (mCons (mVar 4) mNil)) (mC (.int 2)))) (mB (mBin eqD (mCallK 1 f_l_draw (mCons (mC (.int 2)) mNil)) (mC (.int 0))))) (sAsg (mTup (mCons (mBin addD (mBin subD' (mBin subD' (mVar 4) (mC (.int 1))) (mC (.int 0))) (mBin mulD (mBin subD' (mLst (mCons (mC (.int 0)) (mCons (mC (.int 120)) (mCons (mC (.int 240)) mNil)))) (mCallK 1 f_l_draw (mCons (mC (.int 3)) mNil))) (mBin subD' (mLst (mCons (mC (.int 1)) (mCons (mC (.int 10)) (mCons (mC (.int 100)) mNil)))) (mBin subD' (mBin subD' (mVar 4) (mC (.int 1))) (mC (.int 1)))))) (mCons (mBin subD' (mBin subD' (mVar 4) (mC (.int 1))) (mC (.int 1))) mNil))) (gSwapM 7 6)) sNext)
  (sSeq (sAsg (mTup (mCons (mBin subD' (mLst (mCons (mC (.str "none")) (mCons (mC (.str "two")) mNil))) (mCallK 1 f_l_draw (mCons (mC (.int 2)) mNil))) (mCons (mTup (mCons (mVar 7) (mCons (mVar 6) mNil))) mNil))) (gSet 8))
  (sAsg (mBin addD (mVar 5) (mLst (mCons (mVar 8) (mCons (mCallK 1 (f_l_bent 12) (mCons (mVar 8) (mCons (mC (.int 2)) mNil))) mNil)))) (gSet 5)))))))
  (sSeq (sFor (mItems (mVar 5)) (gSet 8) (sSeq (sAsg (mCall reprD (mCons (mVar 8) mNil)) (gSet 9))
  (sSeq (sAsg (mCall f_cover_holds (mCons (mVar 2) (mCons (mVar 8) mNil))) (gSet 10))
  (sIf (tOrM (tNotM (mTru (mUn (isiD "bool") (mVar 10)))) (tOrM (mB (mBin neD (mVar 10) (mCall f_l_due (mCons (mVar 2) (mCons (mVar 8) (mCons (mBin eqD (mVar 4) (mTup (mCons (mC (.str "just")) mNil))) mNil)))))) (mB (mBin neS (mCall reprD (mCons (mVar 8) mNil)) (mVar 9))))) (sRet (mC (.bool false))) sNext))))
  (sRet (mC (.bool true)))))))))
theorem ok_law (T : Tx K mg) (hm : ∀ ns : List Int, ns.length ≤ 63 → ∃ ρ' δ', m_law (slots N_law.length [.no, .deck]) (deckO ns) = some (.rt (.bool true), ρ', δ')) : FnG P w K mg base 16 T.a_law T.d_law ["_law_script"] (spLaw K) :=
  okLawG (k := 15) T.F_law sc_law (by decide) rfl
    (fun cdv A outer s0 H E hr gd => ps_set (i := 1) sc_law.nd rfl (by first | exact Or.inl rfl | exact Or.inr rfl) (pe_call (ok_l_deck T) (hr.mono (by decide)) (by rfl) T.g_l_deck T.F_l_deck.kp T.b_l_deck .nil pass0 (pa_cons (pv 0) pa_nil)))
    (fun cdv A outer s0 H E hr gd => ((pdss_cons (pds_set 2 sc_law.nd (pd_callK 1 (ok_l_covering T) (hr.mono (by decide)) T.g_l_covering T.F_l_covering.kp T.b_l_covering pass0 pda_nil)) (pdss_cons (pds_for PassesOwn.never rfl (pdi_range1 T.m_range (pd_callK 1 (ok_l_draw T) (hr.mono (by decide)) T.g_l_draw T.F_l_draw.kp T.b_l_draw pass0 (pda_cons pd_int pda_nil))) (pdg_name 3 sc_law.nd) (pdss_one (pds_set 2 sc_law.nd (pd_callK 1 (ok_l_bent_forms T) (hr.mono (by decide)) T.g_l_bent_forms T.F_l_bent_forms.kp T.b_l_bent_forms pass0 (pda_cons (pd_var 2) pda_nil))))) (pdss_cons (pds_set 4 sc_law.nd (pd_callP (ok_l_cover T) (hr.mono (by decide)) T.g_l_cover T.F_l_cover.kp T.b_l_cover pass0 (pda_cons (pd_var 2) pda_nil))) (pdss_cons (pds_set 5 sc_law.nd (pd_lst (pda_cons (pd_var 4) (pda_cons (pd_tup (pda_cons pd_str pda_nil)) (pda_cons (pd_tup (pda_cons pd_str pda_nil)) (pda_cons (pd_tup (pda_cons pd_str (pda_cons (pd_tup (pda_cons pd_int (pda_cons pd_int pda_nil))) (pda_cons (pd_tup pda_nil) pda_nil)))) (pda_cons (pd_callK 1 (ok_l_odd T) (hr.mono (by decide)) T.g_l_odd T.F_l_odd.kp T.b_l_odd pass0 pda_nil) pda_nil))))))) (pdss_cons (pds_for PassesOwn.never rfl (pdi_range1 T.m_range pd_int) (pdg_name 3 sc_law.nd) (pdss_cons (pds_set 6 sc_law.nd (pd_callK 1 (ok_l_draw T) (hr.mono (by decide)) T.g_l_draw T.F_l_draw.kp T.b_l_draw pass0 (pda_cons pd_int pda_nil))) (pdss_cons (pds_set 7 sc_law.nd (pd_ix (hu_of hr) (pd_lst (pda_cons (pd_callK 1 (ok_l_draw T) (hr.mono (by decide)) T.g_l_draw T.F_l_draw.kp T.b_l_draw pass0 (pda_cons pd_int pda_nil)) (pda_cons (pd_callK 1 (ok_l_draw T) (hr.mono (by decide)) T.g_l_draw T.F_l_draw.kp T.b_l_draw pass0 (pda_cons pd_int pda_nil)) (pda_cons (pd_callK 1 (ok_l_draw T) (hr.mono (by decide)) T.g_l_draw T.F_l_draw.kp T.b_l_draw pass0 (pda_cons (pd_add (pd_pow pd_int pd_int) pd_int) pda_nil)) pda_nil)))) (pd_callK 1 (ok_l_draw T) (hr.mono (by decide)) T.g_l_draw T.F_l_draw.kp T.b_l_draw pass0 (pda_cons pd_int pda_nil)))) (pdss_cons (pds_if (PDW.pt (pdw_and (pdt_cmp (cs_eq hr.units) (pd_len T.m_len (pda_cons (pd_var 4) pda_nil)) pd_int (nomark _)) (pdw_and1 (pdt_cmp (cs_eq hr.units) (pd_callK 1 (ok_l_draw T) (hr.mono (by decide)) T.g_l_draw T.F_l_draw.kp T.b_l_draw pass0 (pda_cons pd_int pda_nil)) pd_int (nomark _))))) (pdss_one (pds_swap 7 6 rfl sc_law.nd (pd_tup (pda_cons (pd_add (pd_ix (hu_of hr) (pd_ix (hu_of hr) (pd_var 4) pd_int) pd_int) (pd_mul (pd_ix (hu_of hr) (pd_lst (pda_cons pd_int (pda_cons pd_int (pda_cons pd_int pda_nil)))) (pd_callK 1 (ok_l_draw T) (hr.mono (by decide)) T.g_l_draw T.F_l_draw.kp T.b_l_draw pass0 (pda_cons pd_int pda_nil))) (pd_ix (hu_of hr) (pd_lst (pda_cons pd_int (pda_cons pd_int (pda_cons pd_int pda_nil)))) (pd_ix (hu_of hr) (pd_ix (hu_of hr) (pd_var 4) pd_int) pd_int)))) (pda_cons (pd_ix (hu_of hr) (pd_ix (hu_of hr) (pd_var 4) pd_int) pd_int) pda_nil))))) pdss_nil) (pdss_cons (pds_set 8 sc_law.nd (pd_tup (pda_cons (pd_ix (hu_of hr) (pd_lst (pda_cons pd_str (pda_cons pd_str pda_nil))) (pd_callK 1 (ok_l_draw T) (hr.mono (by decide)) T.g_l_draw T.F_l_draw.kp T.b_l_draw pass0 (pda_cons pd_int pda_nil))) (pda_cons (pd_tup (pda_cons (pd_var 7) (pda_cons (pd_var 6) pda_nil))) pda_nil)))) (pdss_one (pds_set 5 sc_law.nd (pd_add (pd_var 5) (pd_lst (pda_cons (pd_var 8) (pda_cons (pd_callK 1 (ok_l_bent T 12) (hr.mono (by decide)) T.g_l_bent T.F_l_bent.kp T.b_l_bent pass0 (pda_cons (pd_var 8) (pda_cons pd_int pda_nil))) pda_nil))))))))))) (pdss_cons (pds_for PassesOwn.never rfl (pdi_seq (pd_var 5)) (pdg_name 8 sc_law.nd) (pdss_cons (pds_set 9 sc_law.nd (pd_repr T.m_repr gd (u65 hr) (pda_cons (pd_var 8) pda_nil))) (pdss_cons (pds_set 10 sc_law.nd (pd_callP (ok_cover_holds T) (hr.mono (by decide)) T.g_cover_holds T.F_cover_holds.kp T.b_cover_holds pass0 (pda_cons (pd_var 2) (pda_cons (pd_var 8) pda_nil)))) (pdss_one (pds_if (PDW.pt (pdw_or (pdt_not (pdt_tru (pd_isi (T := "bool") (t := "bool") (by decide +kernel) T.m_isinstance T.m_bool (pd_var 10)))) (pdw_or (pdt_cmp (cs_ne hr.units) (pd_var 10) (pd_callP (ok_l_due T) (hr.mono (by decide)) T.g_l_due T.F_l_due.kp T.b_l_due pass0 (pda_cons (pd_var 2) (pda_cons (pd_var 8) (pda_cons (pd_cmp (cs_eq hr.units) (pd_var 4) (pd_tup (pda_cons pd_str pda_nil)) (nomark _)) pda_nil)))) (nomark _)) (pdw_or1 (pdt_cmp cs_neS (pd_repr T.m_repr gd (u65 hr) (pda_cons (pd_var 8) pda_nil)) (pd_var 9) (nomark _)))))) (pdss_one (pds_ret pd_bl)) pdss_nil))))) (pdss_one (pds_ret pd_bl)))))))) : PDSs _ _ m_law)) hm
end
end K04
namespace MT
variable {α : Type} [DecidableEq α]
/-- as many as both begin with -/
def pfx : List α → List α → Nat
  | x :: xs, y :: ys => if x = y then pfx xs ys + 1 else 0
  | _, _ => 0
theorem pfx_le : ∀ a b : List α, pfx a b ≤ a.length ∧ pfx a b ≤ b.length
  | [], _ => by simp [pfx]
  | _ :: _, [] => by simp [pfx]
  | x :: xs, y :: ys => by
    have := pfx_le xs ys
    unfold pfx
    split
    · simp only [List.length_cons]; omega
    · simp
theorem pfx_take : ∀ a b : List α, a.take (pfx a b) = b.take (pfx a b)
  | [], b => by simp [pfx]
  | _ :: _, [] => by simp [pfx]
  | x :: xs, y :: ys => by
    unfold pfx
    split
    · rename_i h; subst h; rw [List.take_succ_cons, List.take_succ_cons, pfx_take xs ys]
    · simp
/-- as many as both end with, of those that are left -/
def sfx (a b : List α) : Nat := min (pfx a.reverse b.reverse) (min a.length b.length - pfx a b)
/-- the change of a base: begin, end, what came -/
structure Ch (a b : List α) (i j : Nat) (c : List α) : Prop where
  i_eq : i = pfx a b
  j_eq : j = a.length - sfx a b
  c_eq : c = (b.drop i).take (b.length - sfx a b - i)
theorem sfx_le (a b : List α) : sfx a b ≤ a.length - pfx a b ∧ sfx a b ≤ b.length - pfx a b := by
  unfold sfx; omega
theorem sfx_drop (a b : List α) : a.drop (a.length - sfx a b) = b.drop (b.length - sfx a b) := by
  have h := pfx_take a.reverse b.reverse
  have hl : sfx a b ≤ pfx a.reverse b.reverse := Nat.min_le_left _ _
  have h2 : a.reverse.take (sfx a b) = b.reverse.take (sfx a b) := by
    have e := congrArg (List.take (sfx a b)) h
    rwa [List.take_take, List.take_take, Nat.min_eq_left hl] at e
  rw [List.take_reverse, List.take_reverse] at h2
  exact List.reverse_inj.mp h2
theorem Ch.le {a b : List α} {i j : Nat} {c : List α} (h : Ch a b i j c) : i ≤ j ∧ j ≤ a.length := by
  have := sfx_le a b
  have := pfx_le a b
  rw [h.i_eq, h.j_eq]
  omega
/-- the change made is the other row -/
theorem Ch.made {a b : List α} {i j : Nat} {c : List α} (h : Ch a b i j c) : a.take i ++ c ++ a.drop j = b := by
  have h1 := sfx_le a b
  have h2 := pfx_le a b
  rw [h.c_eq, h.j_eq, sfx_drop, h.i_eq, pfx_take]
  have e : (b.drop (pfx a b)).take (b.length - sfx a b - pfx a b) ++ b.drop (b.length - sfx a b) = b.drop (pfx a b) := by
    have : b.drop (b.length - sfx a b) = (b.drop (pfx a b)).drop (b.length - sfx a b - pfx a b) := by
      rw [List.drop_drop]
      congr 1
      omega
    rw [this, List.take_append_drop]
  rw [List.append_assoc, e, List.take_append_drop]
theorem Ch.len {a b : List α} {i j : Nat} {c : List α} (h : Ch a b i j c) : c.length + a.length = b.length + (j - i) := by
  have e := congrArg List.length h.made
  have := h.le
  rw [List.length_append, List.length_append, List.length_take, List.length_drop] at e
  omega
theorem mark_cancel {x : α} : ∀ {f n l m : List α}, x ∉ f → x ∉ n → f ++ x :: l = n ++ x :: m → f = n ∧ l = m
  | [], [], l, m, _, _, e => by simpa using e
  | [], y :: n, l, m, _, h2, e => by simp at e; exact absurd e.1 fun q => h2 (by rw [q]; simp)
  | y :: f, [], l, m, h1, _, e => by simp at e; exact absurd e.1 fun q => h1 (by rw [q]; simp)
  | y :: f, z :: n, l, m, h1, h2, e => by
    simp only [List.cons_append, List.cons.injEq] at e
    obtain ⟨rfl, e⟩ := e
    obtain ⟨rfl, rfl⟩ := mark_cancel (fun q => h1 (.tail _ q)) (fun q => h2 (.tail _ q)) e
    exact ⟨rfl, rfl⟩
end MT
namespace DL
open PySem PySem.Spec PyProof.Rows L2 TL PD MT
local macro_rules | `(tactic| walk_at "lx") => `(tactic| simp only [wl_gen, wl_seq, wl_app, wl_at, wl_for, ws_hid, we_lenU, we_ixU, ws_setU, ws_asgX, wx_pop, wx_bin, ws_asg, ws_ret, ws_if, ws_next, ws_uni, ws_app, ws_frz, ws_aug, ws_for, onNx_nx, onNx_rt, onNx_bk, onNx_ct, onRt_rt, onRt_nx, we_var, we_c, we_bin, we_un, we_call, we_callK, wa_nil, wa_cons, we_tup, we_lst, wo_no, wo_some, we_sl, wt_b, wt_tru, wt_and, wt_or, wt_not, we_if, we_and, we_or, we_chain, we_get2, wp_nil, wp_cons, we_disp, wa_items, we_lc, wg_set, wg_tup, wg_lst, w_eqS, w_neS, wgs_nil, wgs_cons, List.getElem?_cons_zero, List.getElem?_cons_succ, Option.some.injEq, Sl.val.injEq, Sl.uni.injEq, exists_eq_left', exists_eq_left, List.set_cons_zero, List.set_cons_succ, true_and, and_true, List.length_cons, List.length_nil, List.map_cons, List.map_nil, PyData.int.injEq, PyData.bool.injEq, PyData.tuple.injEq, PyData.list.injEq, PyData.str.injEq, w_add, w_sub, w_lt, w_le, w_gt, w_ge, w_eqI, w_neI, w_intB, itemsD, truD, slots, wipeR, List.cons_append, List.nil_append, Nat.reduceAdd, Nat.reduceSub, List.replicate_succ, List.replicate_zero, ↓reduceIte, Bool.false_eq_true, Bool.not_true, Bool.not_false, decide_true, decide_false, if_true, if_false])
def tgS (t : Fin 3) : Str := match t with | 0 => "en" | 1 => "de" | 2 => "fr"
def nbD (n : Fin 4) : D := match n with | 0 => .none | 1 => .int 0 | 2 => .int 1 | 3 => .int 12
def pcD (p : Fin 4) : D := match p with
  | 0 => .tuple []
  | 1 => .tuple [.str "go"]
  | 2 => .tuple [.str "go", .tuple [.str "say", .str "n"]]
  | 3 => .tuple [.tuple [.str "by", .str "n", .tuple [.tuple [.str "one", .tuple [.str "x"]], .tuple [.str "many", .tuple []]]]]
structure NmOk (n : Str) : Prop where
  ln : n.length ≤ 8
  asc : ∀ c ∈ tl n, 97 ≤ c ∧ c ≤ 122
theorem strOk_lt {x : Str} (h : ∀ c ∈ tl x, c < 128) : PyData.strOk x = true := by
  unfold PyData.strOk
  rw [Array.all_eq_true_iff_forall_mem]
  intro c hc
  have := h c (by unfold tl; exact Array.mem_toList_iff.mpr hc)
  exact decide_eq_true (by omega)
theorem NmOk.ok {n : Str} (h : NmOk n) : PyData.strOk n = true := strOk_lt fun c hc => by have := h.asc c hc; omega
def rest (t : Fin 3) (n p : Fin 4) : List Nat := [44, 32] ++ tl (PyData.shown (.str (tgS t))) ++ [44, 32] ++ tl (nbD n).shown ++ [44, 32] ++ tl (pcD p).shown ++ [41]
structure Sw (m k : Nat) (d : D) : Prop where
  a : ascD d = true
  b : shB d ≤ k
  s : d.showable = true
  n : d.hasDict = false
  p : d.depth ≤ m
theorem Sw.all {m k : Nat} : ∀ {ds : List D}, (∀ d ∈ ds, Sw m k d) → ascDs ds = true ∧ shBs ds ≤ (k + 2) * ds.length ∧ PyData.showableAll ds = true ∧ PyData.hasDictAll ds = false ∧ PyData.depthAll ds ≤ m
  | [], _ => by simp [ascDs, shBs, PyData.showableAll, PyData.hasDictAll, PyData.depthAll]
  | d :: ds, h => by
    have h1 := h d (.head _)
    obtain ⟨a, b, c, e, f⟩ := Sw.all fun x hx => h x (.tail _ hx)
    refine ⟨by simp only [ascDs, h1.a, a, Bool.and_self], ?_, by simp only [PyData.showableAll, h1.s, c, Bool.and_self], by simp only [PyData.hasDictAll, h1.n, e, Bool.or_self], ?_⟩
    · have := h1.b
      rw [shBs, List.length_cons, Nat.mul_succ]
      omega
    · have := h1.p
      simp only [PyData.depthAll]
      omega
theorem Sw.tup {m k : Nat} {ds : List D} (h : ∀ d ∈ ds, Sw m k d) : Sw (m + 1) ((k + 2) * ds.length + 3) (.tuple ds) := by
  obtain ⟨a, b, c, e, f⟩ := Sw.all h
  refine ⟨by simpa [ascD] using a, by simp only [shB]; omega, by simpa [PyData.showable] using c, by simpa [PyData.hasDict] using e, by simp only [PyData.depth]; omega⟩
theorem Sw.lst {m k : Nat} {ds : List D} (h : ∀ d ∈ ds, Sw m k d) : Sw (m + 1) ((k + 2) * ds.length + 3) (.list ds) := by
  obtain ⟨a, b, c, e, f⟩ := Sw.all h
  refine ⟨by simpa [ascD] using a, by simp only [shB]; omega, by simpa [PyData.showable] using c, by simpa [PyData.hasDict] using e, by simp only [PyData.depth]; omega⟩
theorem Sw.mono {m k m' k' : Nat} {d : D} (h : Sw m k d) (hm : m ≤ m') (hk : k ≤ k') : Sw m' k' d := ⟨h.a, Nat.le_trans h.b hk, h.s, h.n, Nat.le_trans h.p hm⟩
theorem Sw.ok {m k : Nat} {d : D} (h : Sw m k d) (hm : m ≤ 60) (hk : k ≤ 1000000) : ShowOk d := ⟨h.s, h.n, Nat.le_trans h.p hm, by have := shown_le d h.a; have := h.b; have := sizeBig; omega⟩
theorem repr_of {m k : Nat} {d : D} (h : Sw m k d) (hm : m ≤ 60 := by decide) (hk : k ≤ 1000000 := by decide) : reprD [d] = some (.str d.shown) := if_pos (h.ok hm hk)
end DL
namespace NC
open PySem PySem.Spec PyProof.Rows L2 TL PD MT DL
def plain (c : Nat) : Bool := decide (32 ≤ c ∧ c < 127 ∧ c ≠ 39 ∧ c ≠ 92)
mutual
def nice : D → Bool
  | .str x => (tl x).all plain
  | .int i => decide (0 ≤ i ∧ i < 10000000000000)
  | .tuple ds => niceAll ds
  | .none => true
  | _ => false
def niceAll : List D → Bool
  | [] => true
  | d :: ds => nice d && niceAll ds
end
theorem ni {i : Int} (h : nice (.int i) = true) : 0 ≤ i := (of_decide_eq_true (p := 0 ≤ i ∧ i < 10000000000000) (by simpa only [nice] using h)).1
def code (d : D) : List Nat := tl d.shown
def tails : List D → List Nat
  | [] => [41]
  | d :: r => 44 :: 32 :: (code d ++ tails r)
def body : List D → List Nat
  | [] => [41]
  | [d] => code d ++ [44, 41]
  | d :: e :: r => code d ++ tails (e :: r)
theorem reprChar_plain : ∀ c, c < 127 → plain c = true → Builtin.Str.reprChar 39 c = [c] := by decide +kernel
theorem fold_plain : ∀ (l : List Nat) (acc : Array Nat), (∀ c ∈ l, plain c = true) → l.foldl (fun out c => out ++ (Builtin.Str.reprChar 39 c).toArray) acc = acc ++ l.toArray
  | [], acc, _ => by simp
  | c :: l, acc, h => by
    have hc := h c (.head _)
    have hc' := of_decide_eq_true (p := 32 ≤ c ∧ c < 127 ∧ c ≠ 39 ∧ c ≠ 92) hc
    rw [List.foldl_cons, reprChar_plain c hc'.2.1 hc, fold_plain l _ fun d hd => h d (.tail _ hd)]
    simp
theorem plain_ne {x : Str} (h : (tl x).all plain = true) : 39 ∉ tl x := fun z => by
  have := List.all_eq_true.mp h 39 z
  revert this
  decide
theorem code_str {x : Str} (h : (tl x).all plain = true) : code (.str x) = 39 :: (tl x ++ [39]) := by
  have hq : reprQuote x = 39 := by
    unfold reprQuote
    rw [if_neg ?_]
    intro z
    simp only [Bool.and_eq_true, Array.contains_eq_mem, decide_eq_true_eq] at z
    exact plain_ne h (by unfold tl; exact Array.mem_toList_iff.mpr z.1)
  show tl (PyData.shown (.str x)) = _
  simp only [PyData.shown]
  unfold reprText
  rw [hq]
  show ((x.cps.foldl (fun out c => out ++ (Builtin.Str.reprChar 39 c).toArray) #[39]).push 39).toList = _
  rw [← Array.foldl_toList, fold_plain _ _ fun c hc => List.all_eq_true.mp h c hc]
  simp [tl]
def dig (c : Nat) : Prop := 48 ≤ c ∧ c ≤ 57
theorem code_int (n : Nat) : code (.int (n : Int)) = (Nat.toDigits 10 n).map (·.toNat) := by
  show (PyData.shown (.int (n : Int))).cps.toList = _
  simp only [PyData.shown]
  rw [Str.ofString_eq_toList]
  show (toString (n : Int)).toList.map Char.toNat = _
  congr 1
  show (Nat.repr n).toList = _
  rw [Nat.repr_eq_ofList_toDigits]
  exact String.toList_ofList ..
theorem code_dig (n : Nat) : ∀ c ∈ code (.int (n : Int)), dig c := by
  rw [code_int]
  intro c hc
  obtain ⟨ch, h, rfl⟩ := List.mem_map.mp hc
  have := Nat.isDigit_of_mem_toDigits (by decide) (by decide) h
  unfold Char.isDigit at this
  simp only [Bool.and_eq_true, decide_eq_true_eq] at this
  exact ⟨this.1, this.2⟩
theorem code_inj {n m : Nat} (h : code (.int (n : Int)) = code (.int (m : Int))) : n = m := by
  rw [code_int, code_int] at h
  have e : Nat.toDigits 10 n = Nat.toDigits 10 m := by
    refine (List.map_inj_right fun a b hab => ?_).mp h
    exact Char.toNat_inj.mp hab
  have := congrArg (fun l => Nat.ofDigitChars 10 l 0) e
  simpa using this
theorem code_ne (n : Nat) : code (.int (n : Int)) ≠ [] := by
  rw [code_int]
  intro z
  exact Nat.toDigits_ne_nil (List.map_eq_nil_iff.mp z)
/-- what may follow -/
def Cl (u : List Nat) : Prop := ∀ c r, u = c :: r → ¬ dig c
theorem cl_cons {c : Nat} {r : List Nat} (h : c < 48) : Cl (c :: r) := fun d q e z => by
  cases e
  exact absurd z.1 (by omega)
theorem cl_tails (ds : List D) (u : List Nat) : Cl (tails ds ++ u) := by
  cases ds with
  | nil => exact cl_cons (by decide)
  | cons d r => exact cl_cons (by decide)
theorem dig_cancel : ∀ {a b u v : List Nat}, (∀ c ∈ a, dig c) → (∀ c ∈ b, dig c) → Cl u → Cl v → a ++ u = b ++ v → a = b ∧ u = v
  | [], [], u, v, _, _, _, _, h => ⟨rfl, h⟩
  | [], d :: b, u, v, _, hb, hu, _, h => absurd (hb d (.head _)) (hu d _ h)
  | c :: a, [], u, v, ha, _, _, hv, h => absurd (ha c (.head _)) (hv c _ h.symm)
  | c :: a, d :: b, u, v, ha, hb, hu, hv, h => by
    simp only [List.cons_append, List.cons.injEq] at h
    obtain ⟨rfl, h⟩ := h
    obtain ⟨rfl, rfl⟩ := dig_cancel (fun x hx => ha x (.tail _ hx)) (fun x hx => hb x (.tail _ hx)) hu hv h
    exact ⟨rfl, rfl⟩
theorem joinL_tails : ∀ (e : D) (r : List D), 44 :: 32 :: (joinL [44, 32] ((PyData.shownAll (e :: r)).map tl) ++ [41]) = tails (e :: r)
  | e, [] => by simp [PyData.shownAll, joinL, tails, code]
  | e, f :: r => by
    have ih := joinL_tails f r
    simp only [PyData.shownAll, List.map_cons] at ih ⊢
    rw [joinL, tails, ← ih]
    simp [code]
theorem shownAll_len : ∀ ds : List D, (PyData.shownAll ds).length = ds.length
  | [] => rfl
  | d :: ds => by simp [PyData.shownAll, shownAll_len ds]
theorem code_tup (ds : List D) : code (.tuple ds) = 40 :: body ds := by
  show tl (PyData.shown (.tuple ds)) = _
  simp only [PyData.shown]
  unfold tupleText
  rw [tl_append, tl_append, tl_join]
  have e1 : tl ("(" : Str) = [40] := by decide +kernel
  have e3 : tl (", " : Str) = [44, 32] := by decide +kernel
  have e4 : tl (")" : Str) = [41] := by decide +kernel
  have e5 : tl (",)" : Str) = [44, 41] := by decide +kernel
  rw [e1, e3]
  match ds with
  | [] =>
    show [40] ++ [] ++ tl (Str.ofString ")") = _
    rw [e4]; rfl
  | [d] =>
    show [40] ++ tl d.shown ++ tl (Str.ofString ",)") = _
    rw [e5]; simp [body, code]
  | d :: e :: r =>
    have ej := joinL_tails e r
    have e2 : tl ((if (PyData.shownAll (d :: e :: r)).length == 1 then ",)" else ")" : String) : Str) = [41] := by
      rw [shownAll_len]
      exact e4
    rw [e2]
    show [40] ++ joinL [44, 32] (tl d.shown :: (PyData.shownAll (e :: r)).map tl) ++ [41] = 40 :: (code d ++ tails (e :: r))
    rw [← ej]
    simp [PyData.shownAll, joinL, code]
theorem code_none : code .none = [78, 111, 110, 101] := by decide +kernel
theorem code_head : ∀ {d : D}, nice d = true → ∃ c r, code d = c :: r ∧ c ≠ 41 ∧ c ≠ 44
  | .str x, h => by
    rw [code_str (by simpa only [nice] using h)]
    exact ⟨_, _, rfl, by decide, by decide⟩
  | .int i, h => by
    obtain ⟨n, rfl⟩ := Int.eq_ofNat_of_zero_le (ni h)
    have h1 := code_ne n
    have h2 := code_dig n
    cases hc : code (.int (n : Int)) with
    | nil => exact absurd hc h1
    | cons c r =>
      have := h2 c (by rw [hc]; exact .head _)
      exact ⟨c, r, rfl, by intro z; subst z; exact absurd this.1 (by decide), by intro z; subst z; exact absurd this.1 (by decide)⟩
  | .tuple ds, h => by
    rw [code_tup]
    exact ⟨_, _, rfl, by decide, by decide⟩
  | .none, h => ⟨_, _, code_none, by decide, by decide⟩
  | .bool _, h => by simp [nice] at h
  | .list _, h => by simp [nice] at h
  | .dict _, h => by simp [nice] at h
theorem int_head (n : Nat) (u : List Nat) : ∃ c r, code (.int (n : Int)) ++ u = c :: r ∧ dig c := by
  cases hc : code (.int (n : Int)) with
  | nil => exact absurd hc (code_ne n)
  | cons c r => exact ⟨c, r ++ u, rfl, code_dig n c (by rw [hc]; exact .head _)⟩
mutual
theorem inj : ∀ (a b : D) {u v : List Nat}, nice a = true → nice b = true → Cl u → Cl v → code a ++ u = code b ++ v → a = b ∧ u = v
  | .str x, b, u, v, ha, hb, hu, hv, h => by
    have hx : (tl x).all plain = true := by simpa only [nice] using ha
    match b, hb, h with
    | .str y, hb, h =>
      have hy : (tl y).all plain = true := by simpa only [nice] using hb
      rw [code_str hx, code_str hy] at h
      simp only [List.cons_append, List.append_assoc, List.cons.injEq, true_and, List.nil_append] at h
      obtain ⟨e1, e2⟩ := mark_cancel (plain_ne hx) (plain_ne hy) h
      exact ⟨by rw [ext_tl e1], e2⟩
    | .int j, hb, h =>
      obtain ⟨m, rfl⟩ := Int.eq_ofNat_of_zero_le (ni hb)
      obtain ⟨c, r, e, hc⟩ := int_head m v
      rw [e, code_str hx] at h
      simp only [List.cons_append, List.cons.injEq] at h
      rw [← h.1] at hc
      exact absurd hc.1 (by decide)
    | .tuple bs, hb, h =>
      rw [code_str hx, code_tup] at h
      simp at h
    | .none, hb, h =>
      rw [code_str hx, code_none] at h
      simp at h
    | .bool _, hb, h => simp [nice] at hb
    | .list _, hb, h => simp [nice] at hb
    | .dict _, hb, h => simp [nice] at hb
  | .int i, b, u, v, ha, hb, hu, hv, h => by
    obtain ⟨n, rfl⟩ := Int.eq_ofNat_of_zero_le (ni ha)
    match b, hb, h with
    | .str y, hb, h =>
      obtain ⟨c, r, e, hc⟩ := int_head n u
      rw [e, code_str (by simpa only [nice] using hb)] at h
      simp only [List.cons_append, List.cons.injEq] at h
      rw [h.1] at hc
      exact absurd hc.1 (by decide)
    | .int j, hb, h =>
      obtain ⟨m, rfl⟩ := Int.eq_ofNat_of_zero_le (ni hb)
      obtain ⟨e1, e2⟩ := dig_cancel (code_dig n) (code_dig m) hu hv h
      exact ⟨by rw [code_inj e1], e2⟩
    | .tuple bs, hb, h =>
      obtain ⟨c, r, e, hc⟩ := int_head n u
      rw [e, code_tup] at h
      simp only [List.cons_append, List.cons.injEq] at h
      rw [h.1] at hc
      exact absurd hc.1 (by decide)
    | .none, hb, h =>
      obtain ⟨c, r, e, hc⟩ := int_head n u
      rw [e, code_none] at h
      simp only [List.cons_append, List.cons.injEq] at h
      rw [h.1] at hc
      exact absurd hc.2 (by decide)
    | .bool _, hb, h => simp [nice] at hb
    | .list _, hb, h => simp [nice] at hb
    | .dict _, hb, h => simp [nice] at hb
  | .tuple as, b, u, v, ha, hb, hu, hv, h => by
    have ha' : niceAll as = true := by simpa only [nice] using ha
    match b, hb, h with
    | .str y, hb, h =>
      rw [code_tup, code_str (by simpa only [nice] using hb)] at h
      simp at h
    | .int j, hb, h =>
      obtain ⟨m, rfl⟩ := Int.eq_ofNat_of_zero_le (ni hb)
      obtain ⟨c, r, e, hc⟩ := int_head m v
      rw [e, code_tup] at h
      simp only [List.cons_append, List.cons.injEq] at h
      rw [← h.1] at hc
      exact absurd hc.1 (by decide)
    | .tuple bs, hb, h =>
      have hb' : niceAll bs = true := by simpa only [nice] using hb
      rw [code_tup, code_tup] at h
      simp only [List.cons_append, List.cons.injEq, true_and] at h
      have q := bodies as bs ha' hb' hu hv h
      exact ⟨by rw [q.1], q.2⟩
    | .none, hb, h =>
      rw [code_tup, code_none] at h
      simp at h
    | .bool _, hb, h => simp [nice] at hb
    | .list _, hb, h => simp [nice] at hb
    | .dict _, hb, h => simp [nice] at hb
  | .none, b, u, v, ha, hb, hu, hv, h => by
    match b, hb, h with
    | .str y, hb, h =>
      rw [code_none, code_str (by simpa only [nice] using hb)] at h
      simp at h
    | .int j, hb, h =>
      obtain ⟨m, rfl⟩ := Int.eq_ofNat_of_zero_le (ni hb)
      obtain ⟨c, r, e, hc⟩ := int_head m v
      rw [e, code_none] at h
      simp only [List.cons_append, List.cons.injEq] at h
      rw [← h.1] at hc
      exact absurd hc.2 (by decide)
    | .tuple bs, hb, h =>
      rw [code_none, code_tup] at h
      simp at h
    | .none, hb, h => exact ⟨rfl, List.append_cancel_left h⟩
    | .bool _, hb, h => simp [nice] at hb
    | .list _, hb, h => simp [nice] at hb
    | .dict _, hb, h => simp [nice] at hb
  | .bool _, b, u, v, ha, hb, hu, hv, h => by simp [nice] at ha
  | .list _, b, u, v, ha, hb, hu, hv, h => by simp [nice] at ha
  | .dict _, b, u, v, ha, hb, hu, hv, h => by simp [nice] at ha
theorem bodies : ∀ (as bs : List D) {u v : List Nat}, niceAll as = true → niceAll bs = true → Cl u → Cl v → body as ++ u = body bs ++ v → as = bs ∧ u = v
  | [], [], u, v, _, _, _, _, h => by
    simp only [body, List.cons_append, List.nil_append, List.cons.injEq, true_and] at h
    exact ⟨rfl, h⟩
  | [], b :: bs, u, v, _, hb, _, _, h => by
    simp only [niceAll, Bool.and_eq_true] at hb
    obtain ⟨c, r, e, c1, _⟩ := code_head hb.1
    cases bs with
    | nil =>
      simp only [body, e, List.cons_append, List.cons.injEq] at h
      exact absurd h.1.symm c1
    | cons b2 bs =>
      simp only [body, e, List.cons_append, List.cons.injEq] at h
      exact absurd h.1.symm c1
  | a :: as, [], u, v, ha, _, _, _, h => by
    simp only [niceAll, Bool.and_eq_true] at ha
    obtain ⟨c, r, e, c1, _⟩ := code_head ha.1
    cases as with
    | nil =>
      simp only [body, e, List.cons_append, List.cons.injEq] at h
      exact absurd h.1 c1
    | cons a2 as =>
      simp only [body, e, List.cons_append, List.cons.injEq] at h
      exact absurd h.1 c1
  | [a], [b], u, v, ha, hb, hu, hv, h => by
    simp only [niceAll, Bool.and_eq_true] at ha hb
    simp only [body, List.append_assoc] at h
    have q := inj a b ha.1 hb.1 (cl_cons (by decide)) (cl_cons (by decide)) h
    exact ⟨by rw [q.1], List.append_cancel_left (as := [44, 41]) q.2⟩
  | [a], b :: b2 :: bs, u, v, ha, hb, hu, hv, h => by
    simp only [niceAll, Bool.and_eq_true] at ha hb
    simp only [body, List.append_assoc] at h
    have q := inj a b ha.1 hb.1 (cl_cons (by decide)) (cl_tails _ _) h
    have e := q.2
    simp [tails] at e
  | a :: a2 :: as, [b], u, v, ha, hb, hu, hv, h => by
    simp only [niceAll, Bool.and_eq_true] at ha hb
    simp only [body, List.append_assoc] at h
    have q := inj a b ha.1 hb.1 (cl_tails _ _) (cl_cons (by decide)) h
    have e := q.2
    simp [tails] at e
  | a :: a2 :: as, b :: b2 :: bs, u, v, ha, hb, hu, hv, h => by
    rw [niceAll, Bool.and_eq_true] at ha hb
    simp only [body, List.append_assoc] at h
    have q := inj a b ha.1 hb.1 (cl_tails _ _) (cl_tails _ _) h
    have e := injs (a2 :: as) (b2 :: bs) ha.2 hb.2 q.2
    exact ⟨by rw [q.1, e.1], e.2⟩
theorem injs : ∀ (as bs : List D) {u v : List Nat}, niceAll as = true → niceAll bs = true → tails as ++ u = tails bs ++ v → as = bs ∧ u = v
  | [], [], u, v, _, _, h => by
    simp only [tails, List.cons_append, List.nil_append, List.cons.injEq, true_and] at h
    exact ⟨rfl, h⟩
  | [], b :: bs, u, v, _, hb, h => by simp [tails] at h
  | a :: as, [], u, v, ha, _, h => by simp [tails] at h
  | a :: as, b :: bs, u, v, ha, hb, h => by
    simp only [niceAll, Bool.and_eq_true] at ha hb
    simp only [tails, List.cons_append, List.append_assoc, List.cons.injEq, true_and] at h
    have q := inj a b ha.1 hb.1 (cl_tails _ _) (cl_tails _ _) h
    have e := injs as bs ha.2 hb.2 q.2
    exact ⟨by rw [q.1, e.1], e.2⟩
end
end NC
namespace NC
open PySem PySem.Spec PyProof.Rows L2 TL PD MT DL
structure Nc (m k : Nat) (d : D) : Prop where
  sw : Sw m k d
  sh : Sh m d
  nc : nice d = true
theorem niceAll_of : ∀ {ds : List D}, (∀ d ∈ ds, nice d = true) → niceAll ds = true
  | [], _ => by simp [niceAll]
  | d :: ds, h => by simp [niceAll, h d (.head _), niceAll_of fun x hx => h x (.tail _ hx)]
theorem Nc.tup {m k : Nat} {ds : List D} (h : ∀ d ∈ ds, Nc m k d) : Nc (m + 1) ((k + 2) * ds.length + 3) (.tuple ds) :=
  ⟨Sw.tup fun d hd => (h d hd).sw, Sh.tup fun d hd => (h d hd).sh, by simp only [nice]; exact niceAll_of fun d hd => (h d hd).nc⟩
theorem Nc.mono {m k m' k' : Nat} {d : D} (h : Nc m k d) (hm : m ≤ m') (hk : k ≤ k') : Nc m' k' d := ⟨h.sw.mono hm hk, h.sh.mono hm, h.nc⟩
theorem plain_ok {x : Str} (h : (tl x).all plain = true) : PyData.strOk x = true := strOk_lt fun c hc => by
  have := of_decide_eq_true (p := 32 ≤ c ∧ c < 127 ∧ c ≠ 39 ∧ c ≠ 92) (List.all_eq_true.mp h c hc)
  omega
theorem Nc.str {n : Nat} {x : Str} (h : (tl x).all plain = true) (hl : x.length ≤ n) : Nc 0 (10 * n + 2) (.str x) := by
  refine ⟨⟨?_, ?_, by simp [PyData.showable], by simp [PyData.hasDict], by simp [PyData.depth]⟩, Sh.str (plain_ok h), by simpa only [nice] using h⟩
  · simp only [ascD]
    refine List.all_eq_true.mpr fun c hc => decide_eq_true ?_
    have := of_decide_eq_true (p := 32 ≤ c ∧ c < 127 ∧ c ≠ 39 ∧ c ≠ 92) (List.all_eq_true.mp h c hc)
    exact Nat.lt_of_lt_of_le this.2.1 (by decide)
  · simp only [shB]
    omega
theorem Nc.int {n : Nat} (h : n < 10 ^ 13) : Nc 0 13 (.int (n : Int)) := by
  refine ⟨⟨by simp [ascD], ?_, ?_, by simp [PyData.hasDict], by simp [PyData.depth]⟩, Sh.int _, by simp only [nice]; exact decide_eq_true ⟨by omega, by omega⟩⟩
  · simp only [shB]
    rw [len_tl]
    have e := code_int n
    unfold code at e
    simp only [PyData.shown] at e
    rw [e, List.length_map]
    exact toDigits_len_pow (b := 10) (k := 13) (by decide) (by decide) h
  · simp only [PyData.showable, Int.natAbs_natCast]
    refine decide_eq_true ?_
    by_cases h0 : n = 0
    · subst h0; decide
    · rw [Nat.log2_lt h0]
      exact Nat.lt_of_lt_of_le h (Nat.le_trans (show 10 ^ 13 ≤ 2 ^ 50 by decide) (Nat.pow_le_pow_right (by decide) (by decide)))
theorem Nc.repr {m k : Nat} {a : D} (ha : Nc m k a) (hm : m ≤ 60) (hk : k ≤ 1000000) : reprD [a] = some (.str a.shown) := repr_of ha.sw hm hk
/-- a plain text, so long -/
structure Pt (n : Nat) (x : Str) : Prop where
  pl : (tl x).all plain = true
  l1 : 1 ≤ x.length
  l2 : x.length ≤ n
theorem Pt.nc {n : Nat} {x : Str} (h : Pt n x) : Nc 0 (10 * n + 2) (.str x) := Nc.str h.pl h.l2
end NC
namespace K04
open PySem PySem.Spec PyProof.Rows L2 PD
local macro_rules | `(tactic| walk_at "ev") => `(tactic| simp only [*, Int.reduceLE, Int.reduceLT, Int.reduceAdd, Int.reduceSub, Int.reduceMul, Int.reduceNeg, Int.reducePow, Int.reduceToNat, Nat.reducePow, gt_iff_lt, ge_iff_le, fnK, fnP, outP, slots, sSeq, sAsg, sRet, sIf, sFrz, sUni, sApp, sFor, sNext, sAug, mVar, mC, mBin, mUn, mCall, mCallK, mCons, mNil, mTup, mLst, mIf, mB, mTru, mChain, mAnd, mOr, tAndM, tOrM, tNotM, gSet, gTupM, gsCons, gsNil, mItems, itemsD, mYes, mSl, oNo, oSome, mDisp, pCons, pNil, addD_int, subD_int, mulD_int, modD_int, fdivD_int, powD_int, ltD_int, leD_int, gtD_int, geD_int, eqD_int, eqD_bool, negD, notD, truD, maxD, minD, PD.intD, lenD, absD, listD, tupD, List.length_cons, List.length_nil, List.length_map, List.map_cons, List.map_nil, List.getElem?_cons_zero, List.getElem?_cons_succ, List.set_cons_zero, List.set_cons_succ, Option.bind_some, Option.bind_none, Option.map_some, Option.map_none, List.cons_append, List.nil_append, Nat.reduceAdd, Nat.reduceSub, Nat.reduceLT, Nat.reduceLeDiff, List.replicate_succ, List.replicate_zero, ↓reduceIte, and_self, and_true, true_and, decide_true, decide_false, Bool.true_and, Bool.false_and, Bool.false_eq_true, Bool.not_true, Bool.not_false])
abbrev DkOk := DkO
theorem DkOk.mono {b c : Nat} {δ : Dk} (h : DkOk b δ) (hb : b ≤ c) : DkOk c δ := DkO.mono h hb
theorem draw_ok {b : Nat} {δ : Dk} {many : Int} (h : DkOk b δ) (hb : b ≤ 900000000) (h0 : 0 < many) (h1 : many ≤ 10000000000000) : ∃ r δ', f_l_draw [.int many] δ = some (.int r, δ') ∧ 0 ≤ r ∧ r < many ∧ DkOk (b + 1) δ' := by
  have := draw_wp (P := fun z δ1 => ∃ r, z = .int r ∧ 0 ≤ r ∧ r < many ∧ DkOk (b + 1) δ1) h hb h0 h1 fun r δ1 a c D => ⟨r, rfl, a, c, D⟩
  obtain ⟨z, δ1, e, r, rfl, a, c, D⟩ := this
  exact ⟨r, δ1, e, a, c, D⟩
inductive Wh where
  | whole | rest | places
def Wh.str : Wh → Str
  | .whole => "whole" | .rest => "rest" | .places => "places"
structure Tt where
  w : Wh
  by_ : Int
  lo : Int
  hi : Int
  yes : Bool
/-- a test's numbers: what it divides by divides L, its bounds -/
structure TO (L : Int) (t : Tt) : Prop where
  b0 : 0 ≤ t.by_
  b1 : t.by_ = 0 ∨ t.by_ ∣ L
  l0 : 0 ≤ t.lo
  h0 : 0 ≤ t.hi
  h1 : t.hi ≤ 200
/-- a name: a text that may be compared, with a sign -/
def NmOk (x : Str) : Prop := PyData.strOk x = true ∧ x ≠ ""
abbrev Row := List Tt
abbrev Rule := List Row
abbrev Forms := List (Str × Rule)
def dT (t : Tt) : D := .tuple [.str t.w.str, .int t.by_, .int t.lo, .int t.hi, .bool t.yes]
def dRow (r : Row) : D := .tuple (r.map dT)
def dRule (r : Rule) : D := .tuple (r.map dRow)
def dForm (f : Str × Rule) : D := .tuple [.str f.1, dRule f.2]
def dForms (f : Forms) : D := .tuple (f.map dForm)
def num (n d : Int) : Wh → Int
  | .whole => n / 10 ^ d.toNat
  | .rest => n % 10 ^ d.toNat
  | .places => d
def holdsN (t : Tt) (x : Int) : Bool := let left := if t.by_ = 0 then x else x % t.by_; (decide (t.lo ≤ left) && decide (left ≤ t.hi)) == t.yes
def holds (t : Tt) (n d : Int) : Bool := holdsN t (num n d t.w)
def ruleH (r : Rule) (n d : Int) : Bool := r.any fun row => row.all fun t => holds t n d
def words (f : Forms) (n d : Int) : List Str := (f.filter fun p => ruleH p.2 n d).map (·.1)
structure CntOk (n d : Int) : Prop where
  n0 : 0 ≤ n
  d0 : d = 0 ∨ d = 1 ∨ d = 2
theorem holds_of_eq {t : Tt} (h : 0 ≤ t.by_) (x : Int) : f_holds_of [dT t, .int x] = some (.bool (holdsN t x)) := by
  obtain ⟨w, b, lo, hi, y⟩ := t
  dsimp only at h
  unfold f_holds_of m_holds_of dT holdsN
  by_cases hb : b = 0
  · by_cases hc : lo ≤ x
    · walk_at "ev"
    · walk_at "ev"
  · have hb1 : 0 < b := by omega
    by_cases hc : lo ≤ x % b
    · walk_at "ev"
    · walk_at "ev"
theorem scale_eq {d : Int} (h : d = 0 ∨ d = 1 ∨ d = 2) : f_scale_of [.int d] = some (.int (10 ^ d.toNat)) := by
  rcases h with rfl | rfl | rfl <;> rfl
def partsD (n d : Int) : D := .dict [(.str "whole", .int (num n d .whole)), (.str "rest", .int (num n d .rest)), (.str "places", .int d)]
theorem parts_eq {n d : Int} (h : CntOk n d) : f_parts_of [.tuple [.int n, .int d]] = some (partsD n d) := by
  have hs := scale_eq h.d0
  have hd : divmodD [.int n, .int (10 ^ d.toNat)] = some (.tuple [.int (n / 10 ^ d.toNat), .int (n % 10 ^ d.toNat)]) := by
    rcases h.d0 with rfl | rfl | rfl <;> rfl
  have hn : ∀ a b c : D, nodupK [(Sum.inr "whole", a), (Sum.inr "rest", b), (Sum.inr "places", c)] = true := fun a b c => rfl
  unfold f_parts_of m_parts_of partsD
  walk_at "ev"
  simp only [PD.keyOf, Option.bind_some, Option.map_some, hn, List.length_cons, List.length_nil, Nat.reduceAdd, Nat.reduceLeDiff, and_self, ↓reduceIte, List.map_cons, List.map_nil, keyD, num]
theorem parts_ix (n d : Int) (w : Wh) : subD' (partsD n d) (.str w.str) = some (.int (num n d w)) := by
  cases w <;> rfl
structure RuleOk (r : Rule) : Prop where
  len : r.length ≤ 1000
  row : ∀ x ∈ r, x.length ≤ 1000
  by0 : ∀ x ∈ r, ∀ t ∈ x, 0 ≤ t.by_
theorem sz {n : Nat} (h : n ≤ 1000) : n ≤ sizeLine := Nat.le_trans h (by decide)
theorem rule_eq {r : Rule} (h : RuleOk r) (n d : Int) : f_rule_holds [dRule r, partsD n d] = some (.bool (ruleH r n d)) := by
  unfold f_rule_holds m_rule_holds
  have inner : ∀ row ∈ r, ∀ δ, mCall allD (mCons (mLc (mItems (mVar 3)) [2] (gSet 2) mYes (mCall f_holds_of (mCons (mVar 2) (mCons (mBin subD' (mVar 1) (mBin subD' (mVar 2) (mC (.int 0)))) mNil)))) mNil) [.val (dRule r), .val (partsD n d), .no, .val (dRow row)] δ = some (.bool (row.all fun t => holds t n d), δ) := fun row hrow δ => by
    refine call_eq (cons_eq (lc_eq (it_eq rfl rfl) rfl (compL_map dT (fun t => .bool (holds t n d)) row fun t ht => ⟨_, rfl, ?_⟩) (by rw [List.length_map]; exact sz (h.row row hrow))) rfl) ?_
    · refine call_eq (cons_eq rfl (cons_eq (bin_eq rfl (bin_eq rfl rfl rfl) (parts_ix n d t.w)) rfl)) (holds_of_eq (h.by0 row hrow t ht) _)
    · show (boolsD (row.map fun t => .bool (holds t n d))).map _ = _
      rw [show (row.map fun t => PyData.bool (holds t n d)) = (row.map fun t => holds t n d).map .bool by rw [List.map_map]; rfl, boolsD_map]
      simp
  have outer : mCall anyD (mCons (mLc (mItems (mVar 0)) [3] (gSet 3) mYes (mCall allD (mCons (mLc (mItems (mVar 3)) [2] (gSet 2) mYes (mCall f_holds_of (mCons (mVar 2) (mCons (mBin subD' (mVar 1) (mBin subD' (mVar 2) (mC (.int 0)))) mNil)))) mNil))) mNil) [.val (dRule r), .val (partsD n d), .no, .no] ⟨[], 0, [], none⟩ = some (.bool (ruleH r n d), ⟨[], 0, [], none⟩) := by
    refine call_eq (cons_eq (lc_eq (it_eq rfl rfl) rfl (compL_map dRow (fun row => .bool (row.all fun t => holds t n d)) r fun row hrow => ⟨_, rfl, inner row hrow _⟩) (by rw [List.length_map]; exact sz h.len)) rfl) ?_
    show (boolsD (r.map fun row => .bool (row.all fun t => holds t n d))).map _ = _
    rw [show (r.map fun row => PyData.bool (row.all fun t => holds t n d)) = (r.map fun row => row.all fun t => holds t n d).map .bool by rw [List.map_map]; rfl, boolsD_map]
    simp [ruleH]
  exact fnP_eq ⟨rfl, by decide⟩ (ret_eq outer)
structure FormsOk (f : Forms) : Prop where
  len : f.length ≤ 1000
  rule : ∀ x ∈ f, RuleOk x.2
  name : ∀ x ∈ f, PyData.strOk x.1 = true
theorem forms_eq {f : Forms} (h : FormsOk f) {n d : Int} (hc : CntOk n d) : f_forms_of [dForms f, .tuple [.int n, .int d]] = some (.tuple ((words f n d).map .str)) := by
  unfold f_forms_of m_forms_of
  have e : mCall tupD (mCons (mLc (mItems (mVar 0)) [3, 4] (gTupM 2 (gsCons (gSet 3) (gsCons (gSet 4) gsNil))) (mTru (mCall f_rule_holds (mCons (mVar 4) (mCons (mVar 2) mNil)))) (mVar 3)) mNil) [.val (dForms f), .val (.tuple [.int n, .int d]), .val (partsD n d), .no, .no] ⟨[], 0, [], none⟩ = some (.tuple ((words f n d).map .str), ⟨[], 0, [], none⟩) := by
    refine call_eq (cons_eq (lc_eq (it_eq rfl rfl) rfl (compL_filter dForm (fun p => ruleH p.2 n d) (fun p => .str p.1) f fun p hp => ⟨_, rfl, tru_eq (call_eq (cons_eq rfl (cons_eq rfl rfl)) (rule_eq (h.rule p hp) n d)) rfl, fun _ => rfl⟩) ?_) rfl) ?_
    · rw [List.length_map]
      exact sz (Nat.le_trans (List.length_filter_le _ _) h.len)
    · show some (PyData.tuple ((f.filter fun p => ruleH p.2 n d).map fun p => .str p.1)) = _
      unfold words
      rw [List.map_map]
      rfl
  exact fnP_eq ⟨rfl, by decide⟩ ((seq_nx (asg_eq (call_eq (cons_eq rfl rfl) (parts_eq hc)) rfl)).trans (ret_eq e))
theorem tens {d : Int} (h : d = 0 ∨ d = 1 ∨ d = 2) : subD' (.list [.int 1, .int 10, .int 100]) (.int d) = some (.int (10 ^ d.toNat)) := by
  rcases h with rfl | rfl | rfl <;> rfl
theorem pow_pos {d : Int} (h : d = 0 ∨ d = 1 ∨ d = 2) : (0 : Int) < 10 ^ d.toNat ∧ ((10 : Int) ^ d.toNat).natAbs.log2 < 9000 := by
  rcases h with rfl | rfl | rfl <;> exact ⟨by decide, by decide⟩
end K04
namespace K04
open PySem PySem.Spec PyProof.Rows L2 PD
theorem not_eq {t : MT} {ρ : List Sl} {δ δ1 : Dk} {b : Bool} (h : t ρ δ = some (b, δ1)) : tNotM t ρ δ = some (!b, δ1) := by unfold tNotM; rw [h]; rfl
theorem for_eq {mi : MA} {g : MG} {s : MS} {ρ : List Sl} {δ δ1 : Dk} {ds : List D} (h : mi ρ δ = some (ds, δ1)) : sFor mi g s ρ δ = forL g s ds ρ δ1 := by unfold sFor; rw [h]; rfl
theorem w_ok (w : Wh) : PyData.strOk w.str = true := by cases w <;> decide +kernel
theorem sh_T (t : Tt) : Sh 1 (dT t) := Sh.tup fun d hd => by
  simp only [List.mem_cons, List.not_mem_nil, or_false] at hd
  rcases hd with rfl | rfl | rfl | rfl | rfl
  · exact Sh.str (w_ok _)
  · exact Sh.int _
  · exact Sh.int _
  · exact Sh.int _
  · exact Sh.bool _
theorem sh_Row (r : Row) : Sh 2 (dRow r) := Sh.tup fun d hd => by
  obtain ⟨t, _, rfl⟩ := List.mem_map.mp hd
  exact sh_T t
theorem sh_Rule (r : Rule) : Sh 3 (dRule r) := Sh.tup fun d hd => by
  obtain ⟨t, _, rfl⟩ := List.mem_map.mp hd
  exact sh_Row t
theorem sh_nilT : Sh 1 (.tuple []) := Sh.tup (k := 0) fun d hd => by simp at hd
theorem filter_emp {α : Type} (p : α → Bool) : ∀ l : List α, (l.filter fun x => !p x).isEmpty = l.all p
  | [] => rfl
  | x :: l => by
    cases h : p x with
    | true => rw [List.filter_cons_of_neg (by simp [h]), filter_emp p l]; simp [h]
    | false => rw [List.filter_cons_of_pos (by simp [h])]; simp [h]
theorem filter_any {α : Type} (p : α → Bool) : ∀ l : List α, (!(l.filter p).isEmpty) = l.any p
  | [] => rfl
  | x :: l => by
    cases h : p x with
    | false => rw [List.filter_cons_of_neg (by simp [h]), filter_any p l]; simp [h]
    | true => rw [List.filter_cons_of_pos h]; simp [h]
theorem map_emp {α β : Type} (f : α → β) (l : List α) : (l.map f).isEmpty = l.isEmpty := by cases l <;> rfl
section
variable {n d : Int} (hc : CntOk n d)
theorem words_cons (f : Str × Rule) (fs : Forms) (n d : Int) : words (f :: fs) n d = if ruleH f.2 n d = true then f.1 :: words fs n d else words fs n d := by
  unfold words
  cases h : ruleH f.2 n d with
  | true => rw [List.filter_cons_of_pos (by exact h)]; simp
  | false => rw [List.filter_cons_of_neg (by simp [h])]; simp
include hc in
end
end K04
namespace K04
open PySem PySem.Spec PyProof.Rows L2 PD
theorem szr {ds : List D} (h : Nat.ble ds.length 1000 = true) : ds.length ≤ sizeLine := sz (Nat.le_of_ble_eq_true h)
def flip (t : Tt) : Tt := { t with yes := !t.yes }
theorem turned_eq (t : Tt) : f_l_turned [dT t] = some (dT (flip t)) := rfl
theorem test_ok {b : Nat} {δ : Dk} {menu : List Int} (h : DkOk b δ) (hb : b ≤ 100000) (hl : 1 ≤ menu.length) (hl2 : menu.length ≤ 1000) {L : Int} (hm : ∀ x ∈ menu, 0 ≤ x ∧ x ≤ 1000 ∧ (x = 0 ∨ x ∣ L)) : ∃ t δ', f_l_test [.list (menu.map .int)] δ = some (dT t, δ') ∧ TO L t ∧ DkOk (b + 8) δ' := by
  obtain ⟨r5, δ1, e1, x0, x1, D1⟩ := draw_ok (many := 5) h (by omega) (by decide) (by decide)
  obtain ⟨w, hw⟩ : ∃ w : Wh, subD' (.list [.str "whole", .str "whole", .str "whole", .str "rest", .str "places"]) (.int r5) = some (.str w.str) := by
    have hw : r5 = 0 ∨ r5 = 1 ∨ r5 = 2 ∨ r5 = 3 ∨ r5 = 4 := by omega
    rcases hw with rfl | rfl | rfl | rfl | rfl
    · exact ⟨.whole, rfl⟩
    · exact ⟨.whole, rfl⟩
    · exact ⟨.whole, rfl⟩
    · exact ⟨.rest, rfl⟩
    · exact ⟨.places, rfl⟩
  obtain ⟨rm, δ2, e2, m0, m1, D2⟩ := draw_ok (many := (menu.length : Int)) D1 (by omega) (by omega) (by omega)
  obtain ⟨by_, hby, _, hbm⟩ := atI_in (xs := menu) (i := rm) m0 m1
  obtain ⟨by0, by1, by2⟩ := hm by_ hbm
  have hbyD : subD' (.list (menu.map .int)) (.int rm) = some (.int by_) := ix_lst _ _ (by rw [atI_map, hby]; rfl)
  have elen : lenD [.list (menu.map .int)] = some (.int (menu.length : Int)) := by simp [lenD]
  -- the top
  obtain ⟨top, htop, t0, t1⟩ : ∃ top : Int, subD' (.list [.int 201, .int by_]) (.int (if decide (0 < by_) = true then 1 else 0)) = some (.int top) ∧ 0 < top ∧ top ≤ 1000 := by
    by_cases hp : 0 < by_
    · refine ⟨by_, ?_, hp, by1⟩
      rw [if_pos (decide_eq_true hp)]; rfl
    · refine ⟨201, ?_, by decide, by decide⟩
      rw [if_neg (by rw [decide_eq_false hp]; exact Bool.false_ne_true)]; rfl
  obtain ⟨top2, htop2, t2, t3⟩ : ∃ top2 : Int, sIf (mB (mBin eqT (mVar 2) (mC (.str "places")))) (sAsg (mC (.int 4)) (gSet 4)) sNext [.deck, .val (.list (menu.map .int)), .val (.str w.str), .val (.int by_), .val (.int top), .no, .no] δ2 = some (.nx, [.deck, .val (.list (menu.map .int)), .val (.str w.str), .val (.int by_), .val (.int top2), .no, .no], δ2) ∧ 0 < top2 ∧ top2 ≤ 1000 := by
    cases w with
    | places => exact ⟨4, (if_t (mB_eq (bin_eq rfl rfl rfl))).trans rfl, by decide, by decide⟩
    | whole => exact ⟨top, (if_f (mB_eq (bin_eq rfl rfl rfl))).trans rfl, t0, t1⟩
    | rest => exact ⟨top, (if_f (mB_eq (bin_eq rfl rfl rfl))).trans rfl, t0, t1⟩
  obtain ⟨r2, δ3, e3, y0, y1, D3⟩ := draw_ok (many := 2) D2 (by omega) (by decide) (by decide)
  obtain ⟨many, hmany, g0, g1⟩ : ∃ many : Int, subD' (.list [.int top2, .int (if 12 < top2 then 12 else top2)]) (.int r2) = some (.int many) ∧ 0 < many ∧ many ≤ 1000 := by
    have hw : r2 = 0 ∨ r2 = 1 := by omega
    rcases hw with rfl | rfl
    · exact ⟨top2, rfl, t2, t3⟩
    · refine ⟨_, rfl, ?_, ?_⟩ <;> split <;> omega
  obtain ⟨lo, δ4, e4, l0, l1, D4⟩ := draw_ok (many := many) D3 (by omega) g0 (by omega)
  obtain ⟨r40, δ5, e5, q0, q1, D5⟩ := draw_ok (many := 40) D4 (by omega) (by decide) (by decide)
  obtain ⟨r6, δ6, e6, s0, s1, D6⟩ := draw_ok (many := 6) D5 (by omega) (by decide) (by decide)
  obtain ⟨more, hmore, more0⟩ : ∃ more : Int, subD' (.list [.int 0, .int 0, .int 1, .int 3, .int r40, .int 200]) (.int r6) = some (.int more) ∧ 0 ≤ more := by
    have hw : r6 = 0 ∨ r6 = 1 ∨ r6 = 2 ∨ r6 = 3 ∨ r6 = 4 ∨ r6 = 5 := by omega
    rcases hw with rfl | rfl | rfl | rfl | rfl | rfl <;> exact ⟨_, rfl, by omega⟩
  obtain ⟨r3, δ7, e7, u0, u1, D7⟩ := draw_ok (many := 3) D6 (by omega) (by decide) (by decide)
  refine ⟨⟨w, by_, lo, if lo + more < 200 then lo + more else 200, decide (0 < r3)⟩, δ7, ?_, ⟨by0, by2, l0, by dsimp only; split <;> omega, by dsimp only; split <;> omega⟩, D7.mono (by omega)⟩
  exact fnK_eq ⟨rfl, by decide⟩ ((seq_nx (asg_eq (bin_eq (lst_eq rfl (szr rfl)) (callK_eq rfl (cons_eq rfl rfl) e1) hw) rfl)).trans ((seq_nx (asg_eq (bin_eq rfl (callK_eq rfl (cons_eq (call_eq (cons_eq rfl rfl) elen) rfl) e2) hbyD) rfl)).trans ((seq_nx (asg_eq (bin_eq (lst_eq rfl (szr rfl)) (call_eq (cons_eq (bin_eq rfl rfl (gtD_int _ _)) rfl) rfl) htop) rfl)).trans ((seq_nx htop2).trans ((seq_nx (asg_eq (callK_eq rfl (cons_eq (bin_eq (lst_eq (cons_eq rfl (cons_eq (call_eq (cons_eq rfl (cons_eq rfl rfl)) rfl) rfl)) (szr rfl)) (callK_eq rfl (cons_eq rfl rfl) e3) hmany) rfl) e4) rfl)).trans ((seq_nx (asg_eq (call_eq (cons_eq rfl (cons_eq (bin_eq rfl (bin_eq (lst_eq (cons_eq rfl (cons_eq rfl (cons_eq rfl (cons_eq rfl (cons_eq (callK_eq rfl (cons_eq rfl rfl) e5) (cons_eq rfl rfl)))))) (szr rfl)) (callK_eq rfl (cons_eq rfl rfl) e6) hmore) (addD_int _ _)) rfl)) rfl) rfl)).trans (ret_eq (tup_eq (cons_eq rfl (cons_eq rfl (cons_eq rfl (cons_eq rfl (cons_eq (bin_eq (callK_eq rfl (cons_eq rfl rfl) e7) rfl (gtD_int _ _)) rfl))))) (szr rfl)))))))))
end K04
namespace K04
open PySem PySem.Spec PyProof.Rows L2 PD
def Lo (x : Str) (k : Nat) : Prop := (∀ c ∈ x.cps.toList, c < 128) ∧ x.cps.size ≤ k
theorem Lo.ok {x : Str} {k : Nat} (h : Lo x k) : PyData.strOk x = true := by
  unfold PyData.strOk
  rw [Array.all_eq_true']
  intro c hc
  have := h.1 c (by simpa using hc)
  exact decide_eq_true (by omega)
theorem Lo.app {x y : Str} {k l : Nat} (h : Lo x k) (g : Lo y l) : Lo (x ++ y) (k + l) := by
  have e : (x ++ y).cps = x.cps ++ y.cps := rfl
  refine ⟨fun c hc => ?_, ?_⟩
  · rw [e, Array.toList_append] at hc
    rcases List.mem_append.mp hc with z | z
    · exact h.1 c z
    · exact g.1 c z
  · rw [e, Array.size_append]
    have := h.2
    have := g.2
    omega
theorem Lo.mono {x : Str} {k l : Nat} (h : Lo x k) (hl : k ≤ l) : Lo x l := ⟨h.1, Nat.le_trans h.2 hl⟩
theorem Lo.cut {x : Str} {k : Nat} (h : Lo x k) (a b : Option Int) : Lo (cutS x a b) k := by
  unfold cutS
  refine ⟨fun c hc => h.1 c (List.mem_of_mem_drop (List.mem_of_mem_take (by simpa using hc))), ?_⟩
  have := h.2
  simp
  omega
theorem Lo.join_go : ∀ (r : List Str) (acc : Array Nat) (k : Nat), (∀ c ∈ acc.toList, c < 128) → acc.size ≤ k → (∀ y ∈ r, Lo y 1) → (∀ c ∈ (r.foldl (fun acc p => acc ++ (Str.ofString "").cps ++ p.cps) acc).toList, c < 128) ∧ (r.foldl (fun acc p => acc ++ (Str.ofString "").cps ++ p.cps) acc).size ≤ k + r.length
  | [], acc, k, h, hk, _ => ⟨h, hk⟩
  | y :: r, acc, k, h, hk, hy => by
    have hy1 := hy y (.head _)
    have e0 : (Str.ofString "").cps = #[] := by decide +kernel
    have := Lo.join_go r (acc ++ (Str.ofString "").cps ++ y.cps) (k + 1) (fun c hc => by
      rw [e0] at hc
      simp at hc
      rcases hc with z | z
      · exact h c (by simpa using z)
      · exact hy1.1 c (by simpa using z)) (by
      rw [e0]
      simp
      have := hy1.2
      omega) fun z hz => hy z (.tail _ hz)
    refine ⟨this.1, ?_⟩
    have h2 := this.2
    simp only [List.foldl_cons, List.length_cons]
    omega
theorem Lo.join {ys : List Str} (h : ∀ y ∈ ys, Lo y 1) : Lo (Txt.join "" ys) ys.length := by
  unfold Txt.join Builtin.Str.glued
  cases ys with
  | nil => exact ⟨fun c hc => by simp [Str.empty] at hc, by simp [Str.empty]⟩
  | cons y r =>
    have hy := h y (.head _)
    have := Lo.join_go r y.cps 1 hy.1 hy.2 fun z hz => h z (.tail _ hz)
    refine ⟨this.1, ?_⟩
    have h2 := this.2
    simp only [List.length_cons]
    show (r.foldl (fun acc p => acc ++ (Str.ofString "").cps ++ p.cps) y.cps).size ≤ r.length + 1
    omega
abbrev letters : Str := "abcdefghijklmnopqrstuvwxyz"
theorem let_low : ∀ c ∈ letters.cps.toList, c < 128 := by decide +kernel
theorem let_len : letters.cps.toList.length = 26 := by decide +kernel
theorem let_sz : letters.length ≤ sizeLine := by decide +kernel
theorem ix_str' {x : Str} {i : Int} {c : Nat} (hz : x.length ≤ sizeLine) (h : atI x.cps.toList i = some c) : subD' (.str x) (.int i) = some (.str ⟨#[c]⟩) := by
  show (Option.orElse (if x.length ≤ sizeLine then (atI x.cps.toList i).map (fun c => PyData.str ⟨#[c]⟩) else none) _) = _
  rw [if_pos hz, h]; rfl
theorem let_ix {r : Int} (h0 : 0 ≤ r) (h1 : r < 26) : ∃ c : Nat, subD' (.str letters) (.int r) = some (.str ⟨#[c]⟩) ∧ c < 128 ∧ letters.cps.toList[r.toNat]? = some c := by
  obtain ⟨c, e1, e2, e3⟩ := atI_in (xs := letters.cps.toList) h0 (by rw [let_len]; exact h1)
  exact ⟨c, ix_str' let_sz e1, let_low c e3, e2⟩
theorem Lo.one {c : Nat} (h : c < 128) : Lo ⟨#[c]⟩ 1 := ⟨fun x hx => by simp at hx; omega, by simp⟩
theorem paired_strs {R : D → D → Prop} (hR : ∀ d z, R d z → ∃ y, z = .str y ∧ Lo y 1) : ∀ {ds out : List D}, Paired R ds out → ∃ ys : List Str, out = ys.map .str ∧ (∀ y ∈ ys, Lo y 1) ∧ ys.length = ds.length
  | _, _, .nil => ⟨[], rfl, fun y hy => by simp at hy, rfl⟩
  | _, _, .cons r t => by
    obtain ⟨y, rfl, hy⟩ := hR _ _ r
    obtain ⟨ys, rfl, hys, hl⟩ := paired_strs hR t
    exact ⟨y :: ys, rfl, fun z hz => by
      rcases List.mem_cons.mp hz with z | z
      · rw [z]; exact hy
      · exact hys _ z, by simp [hl]⟩
theorem joinSz_ok {ys : List Str} (h : ∀ y ∈ ys, Lo y 1) (hl : ys.length ≤ 100) : joinSz "" ys = true := by
  have e : ∀ zs : List Str, (∀ y ∈ zs, Lo y 1) → (zs.map (·.length)).sum ≤ zs.length := fun zs => by
    induction zs with
    | nil => intro _; simp
    | cons z zs ih =>
      intro hz
      have h1 := (hz z (.head _)).2
      have h2 := ih fun y hy => hz y (.tail _ hy)
      have h3 : z.length ≤ 1 := h1
      simp only [List.map_cons, List.sum_cons, List.length_cons]
      omega
  have e0 : (Str.ofString "").length = 0 := by decide +kernel
  have := e ys h
  refine decide_eq_true ?_
  rw [e0]
  omega
def nm (S : Str) (at' first : Int) (i : Nat) : Str := cutS S none (some at') ++ ⟨#[letters.cps.toList.getD ((first + 5 * (i : Int)) % 26).toNat 0]⟩ ++ cutS S (some at') none
theorem names_ok {b : Nat} {δ : Dk} (h : DkOk b δ) (hb : b ≤ 100000) : ∃ (ns : List Str) (δ' : Dk), f_l_names [.int 6] δ = some (.list (ns.map .str), δ') ∧ ns.length = 6 ∧ (∀ x ∈ ns, NmOk x) ∧ DkOk (b + 12) δ' := by
  obtain ⟨r8, δ1, e1, a0, a1, D1⟩ := draw_ok (many := 8) h (by omega) (by decide) (by decide)
  obtain ⟨j, rfl⟩ : ∃ j : Nat, r8 = (j : Int) := ⟨r8.toNat, by omega⟩
  have hj : j ≤ 7 := by omega
  obtain ⟨out, δ2, e2, D2, pr⟩ := compL_inv (g := gSet 4) (te := mBin subD' (mVar 2) (mCallK 0 f_l_draw (mCons (mC (.int 26)) mNil))) (ρ := wipeR [.deck, .val (.int 6), .val (.str letters), .no, .no, .no, .no] [4]) (fun k δ => DkOk (b + 1 + k) δ) (fun _ z => ∃ y, z = .str y ∧ Lo y 1) (rngL j) 0 δ1 (D1.mono (by omega)) (fun d hd k δ hk hD => by
    have hlen : (rngL j).length = j := by simp [rngL]
    obtain ⟨r, δ', e, x0, x1, D'⟩ := draw_ok (many := 26) hD (by omega) (by decide) (by decide)
    obtain ⟨c, e3, hc, _⟩ := let_ix x0 x1
    exact ⟨_, _, δ', rfl, bin_eq rfl (callK_eq rfl (cons_eq rfl rfl) e) e3, ⟨_, rfl, Lo.one hc⟩, D'.mono (by omega)⟩)
  obtain ⟨ys, rfl, hys, hyl⟩ := paired_strs (fun _ _ h => h) pr
  have hlen : ys.length = j := by rw [hyl]; simp [rngL]
  have hS := (Lo.join hys).mono (show ys.length ≤ 7 by omega)
  generalize hSd : Txt.join "" ys = S at hS
  have ej : joinD (.str "") (.list (ys.map .str)) = some (.str S) := by
    show (strsD (ys.map .str)).bind _ = _
    rw [strsD_map, Option.bind_some, if_pos (joinSz_ok hys (by omega)), hSd]
  have hSl : S.length ≤ 7 := hS.2
  have D2 : DkOk (b + 8) δ2 := D2.mono (by have : (rngL j).length = j := by simp [rngL]
                                           omega)
  have elen : lenD [.str S] = some (.int (S.length : Int)) := if_pos (Nat.le_trans hSl (by decide))
  obtain ⟨at', δ3, e3, b0, b1, D3⟩ := draw_ok (many := (S.length : Int) + 1) D2 (by omega) (by omega) (by omega)
  obtain ⟨first, δ4, e4, c0, c1, D4⟩ := draw_ok (many := 26) D3 (by omega) (by decide) (by decide)
  have hnm : ∀ i : Nat, Lo (nm S at' first i) 15 ∧ ∃ c : Nat, c < 128 ∧ subD' (.str letters) (.int ((first + 5 * (i : Int)) % 26)) = some (.str ⟨#[c]⟩) ∧ letters.cps.toList.getD ((first + 5 * (i : Int)) % 26).toNat 0 = c := fun i => by
    obtain ⟨c, f1, f2, f3⟩ := let_ix (r := (first + 5 * (i : Int)) % 26) (Int.emod_nonneg _ (by decide)) (Int.emod_lt_of_pos _ (by decide))
    have f4 : letters.cps.toList.getD ((first + 5 * (i : Int)) % 26).toNat 0 = c := by rw [List.getD_eq_getElem?_getD, f3]; rfl
    refine ⟨?_, c, f2, f1, f4⟩
    unfold nm
    rw [f4]
    exact (((hS.cut none (some at')).app (Lo.one f2)).app (hS.cut (some at') none)).mono (by decide)
  refine ⟨(List.range 6).map (nm S at' first), δ4, ?_, by simp, fun x hx => ?_, D4.mono (by omega)⟩
  · refine fnK_eq ⟨rfl, by decide⟩ ((seq_nx (asg_eq rfl rfl)).trans ((seq_nx (asg_eq (bin_eq rfl (lc_eq (rng_eq (callK_eq rfl (cons_eq rfl rfl) e1) (by omega)) rfl e2 (by rw [List.length_map]; exact sz (by omega))) ej) rfl)).trans ((seq_nx (asg_eq (callK_eq rfl (cons_eq (bin_eq (call_eq (cons_eq rfl rfl) elen) rfl (addD_int _ _)) rfl) e3) rfl)).trans ((seq_nx (asg_eq (callK_eq rfl (cons_eq rfl rfl) e4) rfl)).trans (ret_eq (lc_eq (out := ((List.range 6).map (nm S at' first)).map .str) (rng_eq (j := 6) rfl (by decide)) rfl ?_ (szr rfl)))))))
    rw [List.map_map]
    refine compL_map (fun (i : Nat) => .int (i : Int)) _ (List.range 6) fun i hi => ⟨_, rfl, ?_⟩
    obtain ⟨hl, c, f2, f1, f4⟩ := hnm i
    have hi6 : i < 6 := List.mem_range.mp hi
    have em : mulD (.int 5) (.int (i : Int)) = some (.int (5 * (i : Int))) := mulD_int rfl
    have hc1 : (cutS S none (some at')).length ≤ 7 := (hS.cut none (some at')).2
    have hc2 : (cutS S (some at') none).length ≤ 7 := (hS.cut (some at') none).2
    have hc3 : (⟨#[c]⟩ : Str).length = 1 := rfl
    have s1 : slD none (some at') (.str S) = some (.str (cutS S none (some at'))) := if_pos (Nat.le_trans hSl (by decide))
    have s2 : slD (some at') none (.str S) = some (.str (cutS S (some at') none)) := if_pos (Nat.le_trans hSl (by decide))
    have a1 : addD (.str (cutS S none (some at'))) (.str ⟨#[c]⟩) = some (.str (cutS S none (some at') ++ ⟨#[c]⟩)) := addD_str (sz (by omega))
    have hc4 : (cutS S none (some at') ++ (⟨#[c]⟩ : Str)).length ≤ 8 := ((hS.cut none (some at')).app (Lo.one f2)).2
    have a2 : addD (.str (cutS S none (some at') ++ ⟨#[c]⟩)) (.str (cutS S (some at') none)) = some (.str (nm S at' first i)) := by
      rw [addD_str (sz (by omega))]
      unfold nm
      rw [f4]
    exact bin_eq (bin_eq (sl_eq rfl rfl (os_eq rfl) s1) (bin_eq rfl (bin_eq (bin_eq rfl (bin_eq rfl rfl em) (addD_int _ _)) rfl (modD_int (by decide))) f1) a1) (sl_eq rfl (os_eq rfl) rfl s2) a2
  · obtain ⟨i, _, rfl⟩ := List.mem_map.mp hx
    refine ⟨(hnm i).1.ok, fun z => ?_⟩
    have := congrArg TL.tl z
    unfold nm at this
    rw [TL.tl_append, TL.tl_append, show TL.tl (Str.ofString "") = [] from tl_nil] at this
    simp at this
end K04
namespace K04
open PySem PySem.Spec PyProof.Rows L2 PD
theorem forL_inv {α : Type} {g : MG} {s : MS} (enc : α → D) (I : Nat → List Sl → Dk → Prop) : ∀ (xs : List α) (n : Nat) (ρ : List Sl) (δ : Dk), I n ρ δ → (∀ (k : Nat) x ρ δ, xs[k]? = some x → I (n + k) ρ δ → ∃ ρ1 ρ' δ', g (enc x) ρ = some ρ1 ∧ s ρ1 δ = some (.nx, ρ', δ') ∧ I (n + k + 1) ρ' δ') →
    ∃ ρ' δ', forL g s (xs.map enc) ρ δ = some (.nx, ρ', δ') ∧ I (n + xs.length) ρ' δ'
  | [], n, ρ, δ, h, _ => ⟨ρ, δ, rfl, h⟩
  | x :: xs, n, ρ, δ, h, hs => by
    obtain ⟨ρ1, ρ2, δ2, e1, e2, h2⟩ := hs 0 x ρ δ rfl h
    obtain ⟨ρ', δ', e3, h3⟩ := forL_inv enc I xs (n + 1) ρ2 δ2 h2 fun k y ρ δ hy hI => by
      obtain ⟨a, b, c, f1, f2, f3⟩ := hs (k + 1) y ρ δ (by rw [List.getElem?_cons_succ]; exact hy) (by rw [show n + (k + 1) = n + 1 + k by omega]; exact hI)
      exact ⟨a, b, c, f1, f2, by rw [show n + 1 + k + 1 = n + (k + 1) + 1 by omega]; exact f3⟩
    refine ⟨ρ', δ', ?_, by rw [List.length_cons, show n + (xs.length + 1) = n + 1 + xs.length by omega]; exact h3⟩
    rw [List.map_cons]
    unfold forL
    rw [e1, Option.bind_some, e2, Option.bind_some]
    exact e3
def rowsP : Row → List Tt → List Row
  | pre, [] => [pre]
  | pre, t :: ts => (pre ++ [t]) :: rowsP (pre ++ [flip t]) ts
theorem holds_flip (t : Tt) (n d : Int) : holds (flip t) n d = !holds t n d := by
  unfold holds holdsN flip
  dsimp only
  cases t.yes <;> simp
theorem rowsP_one (h : Tt → Bool) (hf : ∀ t, h (flip t) = !h t) : ∀ (ts : List Tt) (pre : Row), ((rowsP pre ts).filter fun r => r.all h).length = if pre.all h then 1 else 0
  | [], pre => by
    unfold rowsP
    cases e : pre.all h with
    | true => rw [List.filter_cons_of_pos (by exact e)]; rfl
    | false => rw [List.filter_cons_of_neg (by simp [e])]; rfl
  | t :: ts, pre => by
    unfold rowsP
    have ih := rowsP_one h hf ts (pre ++ [flip t])
    have e1 : (pre ++ [t]).all h = (pre.all h && h t) := by simp [List.all_append]
    have e2 : (pre ++ [flip t]).all h = (pre.all h && !h t) := by simp [List.all_append, hf]
    rw [e2] at ih
    cases hp : pre.all h with
    | false =>
      rw [hp] at ih e1
      rw [List.filter_cons_of_neg (by rw [e1]; simp)]
      simpa using ih
    | true =>
      rw [hp] at ih e1
      cases ht : h t with
      | true =>
        rw [ht] at ih e1
        rw [List.filter_cons_of_pos (by rw [e1]; rfl), List.length_cons]
        have : ((rowsP (pre ++ [flip t]) ts).filter fun r => r.all h).length = 0 := by simpa using ih
        rw [this]
        rfl
      | false =>
        rw [ht] at ih e1
        rw [List.filter_cons_of_neg (by rw [e1]; simp)]
        simpa using ih
theorem rowsP_get : ∀ (ts : List Tt) (pre : Row) (k : Nat), (rowsP pre ts)[k]? = if k < ts.length then (ts[k]?).map (fun t => pre ++ (ts.take k).map flip ++ [t]) else if k = ts.length then some (pre ++ ts.map flip) else none
  | [], pre, 0 => by simp [rowsP]
  | [], pre, k + 1 => by simp [rowsP]
  | t :: ts, pre, 0 => by simp [rowsP]
  | t :: ts, pre, k + 1 => by
    unfold rowsP
    rw [List.getElem?_cons_succ, rowsP_get ts (pre ++ [flip t]) k]
    simp only [List.length_cons, Nat.add_lt_add_iff_right, List.getElem?_cons_succ, List.take_succ_cons, List.map_cons, Nat.add_right_cancel_iff]
    by_cases h1 : k < ts.length
    · rw [if_pos h1, if_pos h1]; simp
    · rw [if_neg h1, if_neg h1]; simp
theorem rowsP_len : ∀ (ts : List Tt) (pre : Row), (rowsP pre ts).length = ts.length + 1
  | [], _ => rfl
  | t :: ts, pre => by unfold rowsP; rw [List.length_cons, rowsP_len]; rfl
theorem rowsP_mem (P : Tt → Prop) (hf : ∀ t, P t → P (flip t)) : ∀ (ts : List Tt) (pre : Row), (∀ t ∈ ts, P t) → (∀ t ∈ pre, P t) → ∀ r ∈ rowsP pre ts, (∀ t ∈ r, P t) ∧ r.length ≤ pre.length + ts.length
  | [], pre, _, hp, r, hr => by
    simp [rowsP] at hr
    subst hr
    exact ⟨hp, by simp⟩
  | t :: ts, pre, ht, hp, r, hr => by
    unfold rowsP at hr
    rcases List.mem_cons.mp hr with rfl | hr
    · refine ⟨fun x hx => ?_, by simp⟩
      rcases List.mem_append.mp hx with z | z
      · exact hp x z
      · simp at z; rw [z]; exact ht t (.head _)
    · obtain ⟨a, b⟩ := rowsP_mem P hf ts (pre ++ [flip t]) (fun x hx => ht x (.tail _ hx)) (fun x hx => by
        rcases List.mem_append.mp hx with z | z
        · exact hp x z
        · simp at z; rw [z]; exact hf t (ht t (.head _))) r hr
      refine ⟨a, ?_⟩
      simp at b ⊢
      omega
def put (rss : List Rule) (j : Nat) (x : Row) : List Rule := rss.set j (rss.getD j [] ++ [x])
theorem put_filter (p : Row → Bool) (rss : List Rule) (j : Nat) (x : Row) (hj : j < rss.length) : ((put rss j x).filter fun r => r.any p).length = if p x = true ∧ (rss.getD j []).any p = false then (rss.filter fun r => r.any p).length + 1 else (rss.filter fun r => r.any p).length := by
  unfold put
  induction rss generalizing j with
  | nil => simp at hj
  | cons r rss ih =>
    cases j with
    | zero =>
      simp only [List.set_cons_zero, List.getD_cons_zero, List.filter_cons, List.any_append, List.any_cons, List.any_nil, Bool.or_false]
      cases hp : p x <;> cases hr : r.any p <;> simp
    | succ j =>
      have := ih j (by simpa using hj)
      simp only [List.set_cons_succ, List.getD_cons_succ, List.filter_cons] at this ⊢
      cases hr : r.any p
      · simp only [Bool.false_eq_true, ↓reduceIte]; exact this
      · simp only [↓reduceIte, List.length_cons, this]
        split <;> rfl
theorem any_of_filter (p : Row → Bool) : ∀ (rss : List Rule) (j : Nat), (rss.filter fun r => r.any p).length = 0 → (rss.getD j []).any p = false
  | [], j, _ => by simp
  | r :: rss, j, h => by
    rw [List.filter_cons] at h
    cases hr : r.any p with
    | true => rw [hr] at h; simp at h
    | false =>
      rw [hr] at h
      cases j with
      | zero => simpa using hr
      | succ j => rw [List.getD_cons_succ]; exact any_of_filter p rss j (by simpa using h)
end K04
namespace K04
open PySem PySem.Spec PyProof.Rows L2 PD
theorem frz_eq {i : Nat} {s : MS} {ρ : List Sl} {δ : Dk} {ds : List D} (h : ρ[i]? = some (.uni ds)) : sFrz i s ρ δ = s (ρ.set i (.val (.list ds))) δ := by unfold sFrz; rw [h]
theorem cut_take (ds : List D) (k : Nat) : PD.cutD ds none (some (k : Int)) = ds.take k := by
  unfold PD.cutD
  rw [HT.sIx_nat ds.length ds.length k, HT.sIx_none, List.drop_zero, Nat.sub_zero]
  rcases Nat.le_total k ds.length with h | h
  · rw [Nat.min_eq_left h]
  · rw [Nat.min_eq_right h, List.take_of_length_le h, List.take_of_length_le (Nat.le_refl _)]
theorem cut_drop (ds : List D) (k : Nat) : PD.cutD ds (some (k : Int)) none = ds.drop k := by
  unfold PD.cutD
  rw [HT.sIx_nat ds.length 0 k, HT.sIx_none]
  rcases Nat.le_total k ds.length with h | h
  · rw [Nat.min_eq_left h]
    exact List.take_of_length_le (by rw [List.length_drop]; exact Nat.le_refl _)
  · rw [Nat.min_eq_right h, List.drop_of_length_le h, Nat.sub_self, List.take_zero]
theorem ixL {ds : List D} {k : Nat} {d : D} (h : ds[k]? = some d) : subD' (.list ds) (.int (k : Int)) = some d := ix_lst _ _ (atI_nat h)
theorem ixT {ds : List D} {k : Nat} {d : D} (h : ds[k]? = some d) : subD' (.tuple ds) (.int (k : Int)) = some d := ix_tupl _ _ (atI_nat h)
theorem menu_ok {r : Int} (h0 : 0 ≤ r) (h1 : r < 5) : ∃ (m : List Int) (L : Int), subD' (.list [.list [.int 0, .int 0, .int 2, .int 4, .int 10], .list [.int 0, .int 10, .int 60, .int 12], .list [.int 0, .int 7, .int 8], .list [.int 0], .list [.int 0, .int 100, .int 3, .int 5]]) (.int r) = some (.list (m.map .int)) ∧ 0 ∈ m ∧ (∀ x ∈ m, 0 ≤ x) ∧ m.length ≤ 5 ∧ 1 ≤ L ∧ L ≤ 60 ∧ (∀ x ∈ m, x ≤ 60 → x = 0 ∨ x ∣ L) := by
  have hr : r = 0 ∨ r = 1 ∨ r = 2 ∨ r = 3 ∨ r = 4 := by omega
  rcases hr with rfl | rfl | rfl | rfl | rfl
  · exact ⟨[0, 0, 2, 4, 10], 20, rfl, by decide, by decide, by decide, by decide, by decide, by decide⟩
  · exact ⟨[0, 10, 60, 12], 60, rfl, by decide, by decide, by decide, by decide, by decide, by decide⟩
  · exact ⟨[0, 7, 8], 56, rfl, by decide, by decide, by decide, by decide, by decide, by decide⟩
  · exact ⟨[0], 1, rfl, by decide, by decide, by decide, by decide, by decide, by decide⟩
  · exact ⟨[0, 100, 3, 5], 15, rfl, by decide, by decide, by decide, by decide, by decide, by decide⟩
theorem paired_tests {R : D → D → Prop} (hR : ∀ d z, R d z → ∃ t : Tt, z = dT t ∧ TO L t) : ∀ {ds out : List D}, Paired R ds out → ∃ ts : List Tt, out = ts.map dT ∧ (∀ t ∈ ts, TO L t) ∧ ts.length = ds.length
  | _, _, .nil => ⟨[], rfl, fun y hy => by simp at hy, rfl⟩
  | _, _, .cons r t => by
    obtain ⟨y, rfl, hy⟩ := hR _ _ r
    obtain ⟨ys, rfl, hys, hl⟩ := paired_tests hR t
    exact ⟨y :: ys, rfl, fun z hz => by
      rcases List.mem_cons.mp hz with z | z
      · rw [z]; exact hy
      · exact hys _ z, by simp [hl]⟩
/-- the rules' loop -/
theorem rules_loop {b : Nat} (M T NM : D) (rows : List Row) (many : Nat) (hmany : 1 ≤ many) (hm5 : many ≤ 1000) (hrl : rows.length ≤ 100) (hb : b ≤ 100000) : ∀ (rest : List Row) (i : Nat) (s4 : Sl) (rss : List Rule) (δ : Dk), rows.drop i = rest → i + rest.length = rows.length → DkOk (b + i) δ → rss.length = many → (∀ r ∈ rss, r.length ≤ i ∧ ∀ x ∈ r, x ∈ rows) →
    (∀ ds, s4 ≠ .own ds) → ∃ (s4' : Sl) (rss' : List Rule) (δ' : Dk), (∀ ds, s4' ≠ .own ds) ∧ rulesL (gSet 4) (mBin subD' (mLst (mCons (mVar 4) (mCons (mCallK 0 f_l_draw (mCons (mVar 8) mNil)) mNil))) (mCall PD.intD (mCons (mBin geD (mVar 4) (mVar 8)) mNil))) (mBin subD' (mVar 5) (mVar 4))
      ((List.range' i rest.length).map fun (k : Nat) => .int (k : Int)) [.deck, .val M, .no, .val T, s4, .val (.list (rows.map dRow)), .no, .val NM, .val (.int (many : Int)), .no, .no, .no] δ (rss.map (·.map dRow))
      = some ([.deck, .val M, .no, .val T, s4', .val (.list (rows.map dRow)), .no, .val NM, .val (.int (many : Int)), .no, .no, .no], δ', rss'.map (·.map dRow)) ∧ DkOk (b + rows.length) δ' ∧ rss'.length = many ∧ (∀ r ∈ rss', r.length ≤ rows.length ∧ ∀ x ∈ r, x ∈ rows) ∧
      ∀ p : Row → Bool, (rss.filter fun r => r.any p).length + (rest.filter p).length ≤ 1 → (rss'.filter fun r => r.any p).length = (rss.filter fun r => r.any p).length + (rest.filter p).length
  | [], i, s4, rss, δ, hd, hil, hD, hl, hr, hu => by
    have : rows.length = i := by simp at hil; omega
    exact ⟨s4, rss, δ, hu, rfl, by rw [this]; exact hD, hl, fun r h => by rw [this]; exact hr r h, fun p _ => by simp⟩
  | x :: rest, i, s4, rss, δ, hd, hil, hD, hl, hr, hu => by
    have hlen : i < rows.length := by simp at hil; omega
    have hx : rows[i]? = some x := by
      have := congrArg (fun l => l[0]?) hd
      simpa [List.getElem?_drop] using this
    have hxm : x ∈ rows := List.mem_of_getElem? hx
    have hd' : rows.drop (i + 1) = rest := by
      rw [← List.drop_drop, hd]; rfl
    obtain ⟨r, δ1, e1, r0, r1, D1⟩ := draw_ok (many := (many : Int)) hD (by omega) (by omega) (by omega)
    obtain ⟨jn, hj, hjl⟩ : ∃ jn : Nat, subD' (.list [.int (i : Int), .int r]) (.int (if decide ((many : Int) ≤ (i : Int)) = true then 1 else 0)) = some (.int (jn : Int)) ∧ jn < many := by
      by_cases hm : (many : Int) ≤ (i : Int)
      · refine ⟨r.toNat, ?_, by omega⟩
        rw [if_pos (decide_eq_true hm)]
        show some (PyData.int r) = _
        rw [Int.toNat_of_nonneg r0]
      · refine ⟨i, ?_, by omega⟩
        rw [if_neg (by rw [decide_eq_false hm]; exact Bool.false_ne_true)]
        rfl
    have hixn : ixN (rss.map (·.map dRow)).length (jn : Int) = some jn := by
      rw [ixN_in (by omega) (by rw [List.length_map, hl]; omega)]; simp
    have hgd : (rss.map (·.map dRow)).getD jn [] = (rss.getD jn []).map dRow := by
      rw [List.getD_eq_getElem?_getD, List.getD_eq_getElem?_getD, List.getElem?_map]
      cases rss[jn]? <;> rfl
    have hgl : (rss.getD jn []).length ≤ i ∧ ∀ y ∈ rss.getD jn [], y ∈ rows := by
      have : jn < rss.length := by omega
      rw [List.getD_eq_getElem?_getD, List.getElem?_eq_getElem this]
      exact hr _ (List.getElem_mem this)
    have hput : (rss.map (·.map dRow)).set jn ((rss.map (·.map dRow)).getD jn [] ++ [dRow x]) = (put rss jn x).map (·.map dRow) := by
      unfold put
      rw [List.map_set, hgd, List.map_append]
      rfl
    have hpl : (put rss jn x).length = many := by unfold put; rw [List.length_set]; exact hl
    obtain ⟨s4', rss', δ', hu', e2, D2, l2, h2, c2⟩ := rules_loop M T NM rows many hmany hm5 hrl hb rest (i + 1) (.val (.int (i : Int))) (put rss jn x) δ1 hd' (by simp at hil; omega) (by rw [show b + (i + 1) = b + i + 1 by omega]; exact D1) hpl (fun q hq => by
      unfold put at hq
      rcases List.mem_or_eq_of_mem_set hq with z | z
      · exact ⟨by have := (hr q z).1; omega, (hr q z).2⟩
      · rw [z]
        refine ⟨by rw [List.length_append]; exact Nat.add_le_add_right hgl.1 1, fun y hy => ?_⟩
        rcases List.mem_append.mp hy with w | w
        · exact hgl.2 y w
        · simp at w; rw [w]; exact hxm) (fun ds z => nomatch z)
    refine ⟨s4', rss', δ', hu', ?_, D2, l2, h2, fun p hp => ?_⟩
    · rw [List.length_cons, List.range'_succ, List.map_cons]
      unfold rulesL
      have em : (mBin subD' (mLst (mCons (mVar 4) (mCons (mCallK 0 f_l_draw (mCons (mVar 8) mNil)) mNil))) (mCall PD.intD (mCons (mBin geD (mVar 4) (mVar 8)) mNil))) [.deck, .val M, .no, .val T, .val (.int (i : Int)), .val (.list (rows.map dRow)), .no, .val NM, .val (.int (many : Int)), .no, .no, .no] δ = some (.int (jn : Int), δ1) :=
        bin_eq (lst_eq (cons_eq rfl (cons_eq (callK_eq rfl (cons_eq rfl rfl) e1) rfl)) (szr rfl)) (call_eq (cons_eq (bin_eq rfl rfl (geD_int _ _)) rfl) rfl) hj
      have ee : (mBin subD' (mVar 5) (mVar 4)) [.deck, .val M, .no, .val T, .val (.int (i : Int)), .val (.list (rows.map dRow)), .no, .val NM, .val (.int (many : Int)), .no, .no, .no] δ1 = some (dRow x, δ1) :=
        bin_eq rfl rfl (ixL (by rw [List.getElem?_map, hx]; rfl))
      have hset : gSet 4 (.int (i : Int)) [.deck, .val M, .no, .val T, s4, .val (.list (rows.map dRow)), .no, .val NM, .val (.int (many : Int)), .no, .no, .no] = some [.deck, .val M, .no, .val T, .val (.int (i : Int)), .val (.list (rows.map dRow)), .no, .val NM, .val (.int (many : Int)), .no, .no, .no] := rfl
      rw [hset, Option.bind_some, em, Option.bind_some]
      dsimp only
      rw [hixn, Option.bind_some, ee, Option.bind_some]
      dsimp only
      rw [if_pos (by rw [hgd, List.length_map]; exact Nat.lt_of_le_of_lt (show _ ≤ 1000 by omega) (by decide)), hput]
      exact e2
    · have hq := put_filter p rss jn x (by omega)
      cases hpx : p x with
      | true =>
        rw [List.filter_cons_of_pos hpx, List.length_cons] at hp ⊢
        have h0 : (rss.filter fun r => r.any p).length = 0 := by omega
        rw [hpx, any_of_filter p rss jn h0] at hq
        simp only [and_self, ↓reduceIte] at hq
        rw [c2 p (by omega), hq]
        omega
      | false =>
        rw [List.filter_cons_of_neg (by simp [hpx])] at hp ⊢
        rw [hpx] at hq
        simp only [Bool.false_eq_true, false_and, ↓reduceIte] at hq
        rw [c2 p (by omega), hq]
structure WF (L : Int) (f : Forms) : Prop where
  l1 : 1 ≤ f.length
  l6 : f.length ≤ 6
  rule : ∀ x ∈ f, x.2.length ≤ 100
  row : ∀ x ∈ f, ∀ r ∈ x.2, r.length ≤ 100
  by0 : ∀ x ∈ f, ∀ r ∈ x.2, ∀ t ∈ r, TO L t
  name : ∀ x ∈ f, NmOk x.1
theorem WF.ok {f : Forms} (h : WF L f) : FormsOk f := ⟨Nat.le_trans h.l6 (by decide), fun x hx => ⟨Nat.le_trans (h.rule x hx) (by decide), fun r hr => Nat.le_trans (h.row x hx r hr) (by decide), fun r hr t ht => (h.by0 x hx r hr t ht).b0⟩, fun x hx => (h.name x hx).1⟩
theorem words_len (f : Forms) (n d : Int) : (words f n d).length = ((f.map (·.2)).filter fun r => ruleH r n d).length := by
  unfold words
  rw [List.length_map, List.filter_map, List.length_map]
  rfl
theorem covering_ok {b : Nat} {δ : Dk} (h : DkOk b δ) (hb : b ≤ 10000) : ∃ L : Int, 1 ≤ L ∧ L ≤ 60 ∧ ∃ (f : Forms) (δ' : Dk), f_l_covering [] δ = some (dForms f, δ') ∧ WF L f ∧ (∀ n d, (words f n d).length = 1) ∧ DkOk (b + 100) δ' := by
  obtain ⟨r5, δ1, e1, a0, a1, D1⟩ := draw_ok (many := 5) h (by omega) (by decide) (by decide)
  obtain ⟨m, L, hm, hm0, hmn, hml, hL1, hL2, hLd⟩ := menu_ok a0 a1
  refine ⟨L, hL1, hL2, ?_⟩
  -- the menu without what is too great
  have hM : ∀ δ, mLc (mItems (mVar 1)) [2] (gSet 2) (mB (mBin leD (mVar 2) (mC (.int 60)))) (mVar 2) [.deck, .val (.list (m.map .int)), .no, .no, .no, .no, .no, .no, .no, .no, .no, .no] δ = some (.list ((m.filter fun x => decide (x ≤ 60)).map .int), δ) := fun δ =>
    lc_eq (it_eq rfl rfl) rfl (compL_filter PyData.int (fun x => decide (x ≤ 60)) PyData.int m fun x hx => ⟨_, rfl, mB_eq (bin_eq rfl rfl (leD_int _ _)), fun _ => rfl⟩) (by rw [List.length_map]; exact sz (Nat.le_trans (List.length_filter_le _ _) (by omega)))
  generalize hMd : (m.filter fun x => decide (x ≤ 60)) = M at hM
  have hM1 : 1 ≤ M.length := by
    have : (0 : Int) ∈ M := by rw [← hMd]; exact List.mem_filter.mpr ⟨hm0, by decide⟩
    exact List.length_pos_of_mem this
  have hM2 : ∀ x ∈ M, 0 ≤ x ∧ x ≤ 1000 ∧ (x = 0 ∨ x ∣ L) := fun x hx => by
    rw [← hMd] at hx
    obtain ⟨p, q⟩ := List.mem_filter.mp hx
    exact ⟨hmn x p, by have := of_decide_eq_true q; omega, hLd x p (of_decide_eq_true q)⟩
  have hM3 : M.length ≤ 1000 := by rw [← hMd]; exact Nat.le_trans (List.length_filter_le _ _) (by omega)
  -- the tests
  obtain ⟨rt, δ2, e2, b0, b1, D2⟩ := draw_ok (many := 5) D1 (by omega) (by decide) (by decide)
  obtain ⟨j, rfl⟩ : ∃ j : Nat, rt = (j : Int) := ⟨rt.toNat, by omega⟩
  have hj : j ≤ 4 := by omega
  obtain ⟨out, δ3, e3, D3, pr⟩ := compL_inv (g := gSet 4) (te := mCallK 0 f_l_test (mCons (mVar 1) mNil)) (ρ := wipeR [.deck, .val (.list (M.map .int)), .no, .no, .no, .no, .no, .no, .no, .no, .no, .no] [4]) (fun k δ => DkOk (b + 2 + 8 * k) δ) (fun _ z => ∃ t : Tt, z = dT t ∧ TO L t) (rngL j) 0 δ2 (D2.mono (by omega)) (fun d hd k δ hk hD => by
    have hlen : (rngL j).length = j := by simp [rngL]
    obtain ⟨t, δ', e, t0, D'⟩ := test_ok hD (by omega) hM1 hM3 hM2
    exact ⟨_, _, δ', rfl, callK_eq rfl (cons_eq rfl rfl) e, ⟨t, rfl, t0⟩, D'.mono (by omega)⟩)
  obtain ⟨ts, rfl, hts, htl⟩ := paired_tests (fun _ _ h => h) pr
  have hjl : ts.length = j := by rw [htl]; simp [rngL]
  have D3 : DkOk (b + 34) δ3 := D3.mono (by have : (rngL j).length = j := by simp [rngL]
                                            omega)
  -- the rows
  generalize hrows : rowsP [] ts = rows
  have hrl : rows.length = j + 1 := by rw [← hrows, rowsP_len, hjl]
  have elen : lenD [.list (ts.map dT)] = some (.int (j : Int)) := by
    show some (PyData.int ((ts.map dT).length : Int)) = _
    rw [List.length_map, hjl]
  obtain ⟨ρ5, δ5, e5, hδ5, s45, hu45, rfl⟩ := forL_inv (g := gSet 4) (s := sApp 5 (mCall tupD (mCons (mBin addD (mLc (mItems (mSl (mVar 3) oNo (oSome (mVar 4)))) [6] (gSet 6) mYes (mCall f_l_turned (mCons (mVar 6) mNil))) (mLst (mCons (mBin subD' (mVar 3) (mVar 4)) mNil))) mNil))) (fun (i : Nat) => PyData.int (i : Int))
    (fun k ρ δ => δ = δ3 ∧ ∃ s4, (∀ ds, s4 ≠ .own ds) ∧ ρ = [.deck, .val (.list (M.map .int)), .no, .val (.list (ts.map dT)), s4, .uni ((rows.take k).map dRow), .no, .no, .no, .no, .no, .no]) (List.range j) 0 [.deck, .val (.list (M.map .int)), .no, .val (.list (ts.map dT)), .no, .uni [], .no, .no, .no, .no, .no, .no] δ3 ⟨rfl, .no, (fun ds z => nomatch z), rfl⟩ (fun k x ρ δ hx hI => by
      obtain ⟨rfl, s4, _, rfl⟩ := hI
      have hkj : k < j := by
        rcases Nat.lt_or_ge k j with h | h
        · exact h
        · rw [List.getElem?_eq_none (by simpa using h)] at hx; cases hx
      have hxk : x = k := by
        rw [List.getElem?_range hkj] at hx
        exact (Option.some.inj hx).symm
      subst hxk
      rw [Nat.zero_add]
      obtain ⟨t, ht⟩ : ∃ t, ts[x]? = some t := ⟨ts[x]'(by omega), List.getElem?_eq_getElem (by omega)⟩
      have hrow : rows[x]? = some ((ts.take x).map flip ++ [t]) := by
        rw [← hrows, rowsP_get, if_pos (by omega), ht]; rfl
      have ecomp : (mLc (mItems (mSl (mVar 3) oNo (oSome (mVar 4)))) [6] (gSet 6) mYes (mCall f_l_turned (mCons (mVar 6) mNil))) [.deck, .val (.list (M.map .int)), .no, .val (.list (ts.map dT)), .val (.int (x : Int)), .uni ((rows.take x).map dRow), .no, .no, .no, .no, .no, .no] δ = some (.list ((ts.take x).map fun t => dT (flip t)), δ) := by
        refine lc_eq (it_eq (d := .list ((ts.take x).map dT)) (sl_eq rfl rfl (os_eq rfl) ?_) rfl) rfl (compL_map dT (fun t => dT (flip t)) (ts.take x) fun t ht => ⟨_, rfl, call_eq (cons_eq rfl rfl) (turned_eq t)⟩) (by rw [List.length_map, List.length_take]; exact sz (by omega))
        show some (PyData.list (PD.cutD (ts.map dT) none (some (x : Int)))) = _
        rw [cut_take, List.map_take]
      have eix : (mLst (mCons (mBin subD' (mVar 3) (mVar 4)) mNil)) [.deck, .val (.list (M.map .int)), .no, .val (.list (ts.map dT)), .val (.int (x : Int)), .uni ((rows.take x).map dRow), .no, .no, .no, .no, .no, .no] δ = some (.list [dT t], δ) :=
        lst_eq (cons_eq (bin_eq rfl rfl (ixL (by rw [List.getElem?_map, ht]; rfl))) rfl) (szr rfl)
      refine ⟨_, [.deck, .val (.list (M.map .int)), .no, .val (.list (ts.map dT)), .val (.int (x : Int)), .uni ((rows.take (x + 1)).map dRow), .no, .no, .no, .no, .no, .no], δ, rfl, ?_, rfl, .val (.int (x : Int)), (fun ds z => nomatch z), rfl⟩
      have etup : mCall tupD (mCons (mBin addD (mLc (mItems (mSl (mVar 3) oNo (oSome (mVar 4)))) [6] (gSet 6) mYes (mCall f_l_turned (mCons (mVar 6) mNil))) (mLst (mCons (mBin subD' (mVar 3) (mVar 4)) mNil))) mNil) [.deck, .val (.list (M.map .int)), .no, .val (.list (ts.map dT)), .val (.int (x : Int)), .uni ((rows.take x).map dRow), .no, .no, .no, .no, .no, .no] δ = some (dRow ((ts.take x).map flip ++ [t]), δ) := by
        refine call_eq (cons_eq (bin_eq ecomp eix (addD_lst (by rw [List.length_map, List.length_take]; exact sz (by simp; omega)))) rfl) ?_
        show some (PyData.tuple _) = _
        unfold dRow
        rw [List.map_append, List.map_map]
        rfl
      show sApp 5 _ [.deck, .val (.list (M.map .int)), .no, .val (.list (ts.map dT)), .val (.int (x : Int)), .uni ((rows.take x).map dRow), .no, .no, .no, .no, .no, .no] δ = _
      unfold sApp
      simp only [List.getElem?_cons_succ, List.getElem?_cons_zero]
      rw [etup, Option.bind_some]
      rw [if_pos (by rw [List.length_map, List.length_take]; exact Nat.lt_of_le_of_lt (show _ ≤ 1000 by omega) (by decide))]
      rw [List.take_add_one, hrow]
      simp)
  subst hδ5
  rw [show 0 + (List.range j).length = j by simp] at e5
  -- the last row
  have hlast : rows[j]? = some (ts.map flip) := by
    rw [← hrows, rowsP_get, if_neg (by omega), if_pos (by omega)]; rfl
  have hall : (rows.take j).map dRow ++ [dRow (ts.map flip)] = rows.map dRow := by
    have : rows.take (j + 1) = rows := List.take_of_length_le (by omega)
    rw [List.take_add_one, hlast] at this
    have h2 : rows.map dRow = (rows.take j ++ [ts.map flip]).map dRow := congrArg (List.map dRow) this.symm
    rw [h2, List.map_append]
    rfl
  have e6 : sApp 5 (mCall tupD (mCons (mLc (mItems (mVar 3)) [6] (gSet 6) mYes (mCall f_l_turned (mCons (mVar 6) mNil))) mNil)) [.deck, .val (.list (M.map .int)), .no, .val (.list (ts.map dT)), s45, .uni ((rows.take j).map dRow), .no, .no, .no, .no, .no, .no] δ5 = some (.nx, [.deck, .val (.list (M.map .int)), .no, .val (.list (ts.map dT)), s45, .uni (rows.map dRow), .no, .no, .no, .no, .no, .no], δ5) := by
    have etup : mCall tupD (mCons (mLc (mItems (mVar 3)) [6] (gSet 6) mYes (mCall f_l_turned (mCons (mVar 6) mNil))) mNil) [.deck, .val (.list (M.map .int)), .no, .val (.list (ts.map dT)), s45, .uni ((rows.take j).map dRow), .no, .no, .no, .no, .no, .no] δ5 = some (dRow (ts.map flip), δ5) := by
      refine call_eq (cons_eq (lc_eq (it_eq rfl rfl) rfl (compL_map dT (fun t => dT (flip t)) ts fun t ht => ⟨_, rfl, call_eq (cons_eq rfl rfl) (turned_eq t)⟩) (by rw [List.length_map]; exact sz (by omega))) rfl) ?_
      show some (PyData.tuple _) = _
      unfold dRow
      rw [List.map_map]
      rfl
    unfold sApp
    simp only [List.getElem?_cons_succ, List.getElem?_cons_zero]
    rw [etup, Option.bind_some]
    rw [if_pos (by rw [List.length_map, List.length_take]; exact Nat.lt_of_le_of_lt (show _ ≤ 1000 by omega) (by decide))]
    simp only [hall, List.set_cons_succ, List.set_cons_zero]
  obtain ⟨ns, δ6, e7, nl, nok, D6⟩ := names_ok D3 (by omega)
  -- how many
  have elr : lenD [.list (rows.map dRow)] = some (.int ((j + 1 : Nat) : Int)) := by
    show some (PyData.int ((rows.map dRow).length : Int)) = _
    rw [List.length_map, hrl]
  obtain ⟨r, δ7, e8, c0, c1, D7⟩ := draw_ok (many := ((j + 1 : Nat) : Int)) D6 (by omega) (by omega) (by omega)
  obtain ⟨many, hmany, k1, k5⟩ : ∃ many : Nat, maxD [.int (1 + (if decide ((4 : Int) < ((j + 1 : Nat) : Int)) = true then 1 else 0)), .int (1 + r)] = some (.int (many : Int)) ∧ 1 ≤ many ∧ many ≤ 5 := by
    have hx : ∃ x : Int, (1 + (if decide ((4 : Int) < ((j + 1 : Nat) : Int)) = true then (1 : Int) else 0)) = x ∧ 1 ≤ x ∧ x ≤ 2 := by
      by_cases h4 : (4 : Int) < ((j + 1 : Nat) : Int)
      · exact ⟨2, by rw [if_pos (decide_eq_true h4)]; rfl, by decide, by decide⟩
      · exact ⟨1, by rw [if_neg (by rw [decide_eq_false h4]; exact Bool.false_ne_true)]; rfl, by decide, by decide⟩
    obtain ⟨x, hx, x1, x2⟩ := hx
    rw [hx]
    refine ⟨(if 1 + r > x then 1 + r else x).toNat, ?_, ?_, ?_⟩
    · show some (PyData.int (if 1 + r > x then 1 + r else x)) = _
      rw [Int.toNat_of_nonneg (by split <;> omega)]
    · split <;> omega
    · split <;> omega
  -- the rules
  have hrr : ∀ n : Nat, rngL n = (List.range' 0 n).map fun (k : Nat) => PyData.int (k : Int) := fun n => by unfold rngL; rw [List.range_eq_range']
  obtain ⟨s4', rss, δ8, hu4, e9, D8, rl, hr, hcnt⟩ := rules_loop (b := b + 47) (.list (M.map .int)) (.list (ts.map dT)) (.list (ns.map .str)) rows many k1 (by omega) (by omega) (by omega) rows 0 s45 (List.replicate many []) δ7 rfl (by omega) (D7.mono (by omega)) (by simp) (fun q hq => by
    have := List.eq_of_mem_replicate hq
    subst this
    exact ⟨by simp, fun x hx => by simp at hx⟩) hu45
  have e10 : sRules 9 (mRng1 (mVar 8)) (mRng1 (mCall lenD (mCons (mVar 5) mNil))) (gSet 4) (mBin subD' (mLst (mCons (mVar 4) (mCons (mCallK 0 f_l_draw (mCons (mVar 8) mNil)) mNil))) (mCall PD.intD (mCons (mBin geD (mVar 4) (mVar 8)) mNil))) (mBin subD' (mVar 5) (mVar 4)) [.deck, .val (.list (M.map .int)), .no, .val (.list (ts.map dT)), s45, .val (.list (rows.map dRow)), .no, .val (.list (ns.map .str)), .val (.int (many : Int)), .no, .no, .no] δ7 = some (.nx, [.deck, .val (.list (M.map .int)), .no, .val (.list (ts.map dT)), s4', .val (.list (rows.map dRow)), .no, .val (.list (ns.map .str)), .val (.int (many : Int)), .val (.list ((rss.map (·.map dRow)).map .list)), .no, .no], δ8) := by
    unfold sRules
    rw [rng_eq (j := many) rfl (by omega), Option.bind_some]
    dsimp only
    rw [if_pos ⟨by simp only [rngL, List.length_map, List.length_range]; exact sz (by omega), show 9 < 12 by decide⟩]
    rw [show ([Sl.deck, .val (.list (M.map .int)), .no, .val (.list (ts.map dT)), s45, .val (.list (rows.map dRow)), .no, .val (.list (ns.map .str)), .val (.int (many : Int)), .no, .no, .no].set 9 .no) = [.deck, .val (.list (M.map .int)), .no, .val (.list (ts.map dT)), s45, .val (.list (rows.map dRow)), .no, .val (.list (ns.map .str)), .val (.int (many : Int)), .no, .no, .no] from rfl]
    rw [rng_eq (j := j + 1) (call_eq (cons_eq rfl rfl) elr) (by omega), Option.bind_some]
    dsimp only
    have hrep : List.replicate (rngL many).length ([] : List D) = (List.replicate many ([] : Rule)).map (·.map dRow) := by
      simp [rngL]
    rw [hrep, hrr (j + 1), ← hrl, e9]
    rfl
  -- the forms
  have hfs : ∀ δ, mLc (mRng1 (mVar 8)) [4] (gSet 4) mYes (mTup (mCons (mBin subD' (mVar 7) (mVar 4)) (mCons (mCall tupD (mCons (mBin subD' (mVar 9) (mVar 4)) mNil)) mNil))) [.deck, .val (.list (M.map .int)), .no, .val (.list (ts.map dT)), s4', .val (.list (rows.map dRow)), .no, .val (.list (ns.map .str)), .val (.int (many : Int)), .val (.list ((rss.map (·.map dRow)).map .list)), .no, .no] δ = some (.list (((List.range many).map fun i => (ns.getD i "", rss.getD i [])).map dForm), δ) := fun δ => by
    refine lc_eq (rng_eq (j := many) rfl (by omega)) (by
      cases s4' with
      | own ds => exact absurd rfl (hu4 ds)
      | _ => rfl) ?_ (by simp; exact sz (by omega))
    rw [show (((List.range many).map fun i => (ns.getD i "", rss.getD i [])).map dForm) = (List.range many).map (dForm ∘ fun i => (ns.getD i "", rss.getD i [])) from List.map_map]
    unfold rngL
    refine compL_map (fun (i : Nat) => PyData.int (i : Int)) (dForm ∘ fun i => (ns.getD i "", rss.getD i [])) (List.range many) ?_
    intro i hi
    refine ⟨_, rfl, ?_⟩
    have hi' : i < many := List.mem_range.mp hi
    have h1 : (ns.map PyData.str)[i]? = some (.str (ns.getD i "")) := by
      rw [List.getElem?_map, List.getD_eq_getElem?_getD, List.getElem?_eq_getElem (by omega)]; rfl
    have h2 : ((rss.map (·.map dRow)).map PyData.list)[i]? = some (.list ((rss.getD i []).map dRow)) := by
      rw [List.getElem?_map, List.getElem?_map, List.getD_eq_getElem?_getD, List.getElem?_eq_getElem (by omega)]; rfl
    exact tup_eq (cons_eq (bin_eq rfl rfl (ixL h1)) (cons_eq (call_eq (cons_eq (bin_eq rfl rfl (ixL h2)) rfl) rfl) rfl)) (szr rfl)
  generalize hfd : ((List.range many).map fun i => (ns.getD i "", rss.getD i [])) = fs at hfs
  have hfl : fs.length = many := by rw [← hfd]; simp
  have hf2 : fs.map (·.2) = rss := by
    rw [← hfd, List.map_map]
    refine List.ext_getElem? fun i => ?_
    rw [List.getElem?_map]
    by_cases hi : i < many
    · rw [List.getElem?_range hi]
      show some (rss.getD i []) = rss[i]?
      rw [List.getD_eq_getElem?_getD, List.getElem?_eq_getElem (by omega)]
      rfl
    · rw [List.getElem?_eq_none (by simpa using hi), List.getElem?_eq_none (by omega)]
      rfl
  have hfm : ∀ x ∈ fs, NmOk x.1 ∧ x.2 ∈ rss := fun x hx => by
    refine ⟨?_, by rw [← hf2]; exact List.mem_map_of_mem hx⟩
    rw [← hfd] at hx
    obtain ⟨i, hi, rfl⟩ := List.mem_map.mp hx
    have hi' : i < many := List.mem_range.mp hi
    dsimp only
    rw [List.getD_eq_getElem?_getD, List.getElem?_eq_getElem (by omega)]
    exact nok _ (List.getElem_mem (by omega))
  obtain ⟨rf, δ9, e11, g0, g1, D9⟩ := draw_ok (many := (many : Int)) D8 (by omega) (by omega) (by omega)
  obtain ⟨q, rfl⟩ : ∃ q : Nat, rf = (q : Int) := ⟨rf.toNat, by omega⟩
  have hrowsOk := rowsP_mem (fun t => TO L t) (fun t ht => ⟨ht.b0, ht.b1, ht.l0, ht.h0, ht.h1⟩) ts [] hts (fun t ht => by simp at ht)
  rw [hrows] at hrowsOk
  have hmem : ∀ x ∈ fs.drop q ++ fs.take q, x ∈ fs := fun x hx => by
    rcases List.mem_append.mp hx with z | z
    · exact List.mem_of_mem_drop z
    · exact List.mem_of_mem_take z
  refine ⟨fs.drop q ++ fs.take q, δ9, ?_, ⟨by simp; omega, by simp; omega, fun x hx => ?_, fun x hx r hr' => ?_, fun x hx r hr' t ht => ?_, fun x hx => (hfm x (hmem x hx)).1⟩, fun n d => ?_, D9.mono (by omega)⟩
  · have s1 : slD (some (q : Int)) none (.list (fs.map dForm)) = some (.list ((fs.map dForm).drop q)) := by
      show some (PyData.list (PD.cutD _ _ _)) = _
      rw [cut_drop]
    have s2 : slD none (some (q : Int)) (.list (fs.map dForm)) = some (.list ((fs.map dForm).take q)) := by
      show some (PyData.list (PD.cutD _ _ _)) = _
      rw [cut_take]
    have s3 : tupD [.list ((fs.map dForm).drop q ++ (fs.map dForm).take q)] = some (dForms (fs.drop q ++ fs.take q)) := by
      show some (PyData.tuple _) = _
      unfold dForms
      rw [List.map_append, List.map_drop, List.map_take]
    exact fnK_eq ⟨rfl, by decide⟩ ((seq_nx (asg_eq (bin_eq (lst_eq (cons_eq (lst_eq rfl (szr rfl)) (cons_eq (lst_eq rfl (szr rfl)) (cons_eq (lst_eq rfl (szr rfl)) (cons_eq (lst_eq rfl (szr rfl)) (cons_eq (lst_eq rfl (szr rfl)) rfl))))) (szr rfl)) (callK_eq rfl (cons_eq rfl rfl) e1) hm) rfl)).trans ((seq_nx (asg_eq (hM _) rfl)).trans ((seq_nx (asg_eq (lc_eq (rng_eq (callK_eq rfl (cons_eq rfl rfl) e2) (by omega)) rfl e3 (by rw [List.length_map]; exact sz (by omega))) rfl)).trans
      ((seq_nx (ρ1 := [.deck, .val (.list (M.map .int)), .no, .val (.list (ts.map dT)), .no, .uni [], .no, .no, .no, .no, .no, .no]) (δ1 := δ5) rfl).trans ((seq_nx ((for_eq (rng_eq (j := j) (call_eq (cons_eq rfl rfl) elen) (by omega))).trans e5)).trans ((seq_nx e6).trans ((seq_nx (asg_eq (callK_eq rfl (cons_eq rfl rfl) e7) rfl)).trans ((frz_eq rfl).trans
      ((seq_nx (asg_eq (call_eq (cons_eq (bin_eq rfl (call_eq (cons_eq (bin_eq (call_eq (cons_eq rfl rfl) elr) rfl (gtD_int _ _)) rfl) rfl) (addD_int _ _)) (cons_eq (bin_eq rfl (callK_eq rfl (cons_eq (call_eq (cons_eq rfl rfl) elr) rfl) e8) (addD_int _ _)) rfl)) hmany) rfl)).trans ((seq_nx e10).trans ((seq_nx (asg_eq (hfs _) rfl)).trans ((seq_nx (asg_eq (callK_eq rfl (cons_eq rfl rfl) e11) rfl)).trans (ret_eq (call_eq (cons_eq (bin_eq (sl_eq rfl (os_eq rfl) rfl s1) (sl_eq rfl rfl (os_eq rfl) s2) (addD_lst (by simp; exact sz (by omega)))) rfl) s3))))))))))))))
  · have := (hr _ (hfm x (hmem x hx)).2).1
    omega
  · have h1 := (hr _ (hfm x (hmem x hx)).2).2 r hr'
    have h2 := (hrowsOk r h1).2
    simp at h2
    omega
  · exact (hrowsOk r ((hr _ (hfm x (hmem x hx)).2).2 r hr')).1 t ht
  · rw [words_len, List.map_append, List.filter_append, List.length_append, Nat.add_comm, ← List.length_append, ← List.filter_append, List.map_take, List.map_drop, List.take_append_drop, hf2]
    have h1 := rowsP_one (fun t => holds t n d) (fun t => holds_flip t n d) ts []
    rw [hrows] at h1
    have h0 : ((List.replicate many ([] : Rule)).filter fun r => r.any fun row => row.all fun t => holds t n d).length = 0 := by
      rw [List.filter_eq_nil_iff.mpr (fun r hr => by have := List.eq_of_mem_replicate hr; subst this; simp)]; rfl
    have h2 := hcnt (fun row => row.all fun t => holds t n d) (by rw [h0, h1]; simp)
    rw [h0, h1] at h2
    simpa [ruleH] using h2
end K04
namespace K04
open PySem PySem.Spec PyProof.Rows L2 PD
theorem and_f {a b : MT} {ρ : List Sl} {δ δ1 : Dk} (h : a ρ δ = some (false, δ1)) : tAndM a b ρ δ = some (false, δ1) := by unfold tAndM; rw [h]; rfl
theorem and_t {a b : MT} {ρ : List Sl} {δ δ1 : Dk} (h : a ρ δ = some (true, δ1)) : tAndM a b ρ δ = b ρ δ1 := by unfold tAndM; rw [h]; rfl
theorem ne_row (row : Row) : neD (dRow row) (.tuple []) = some (.bool (!row.isEmpty)) := by
  rw [neD_of (sh_Row row) sh_nilT (by decide) (by decide)]
  unfold dRow
  rw [eqv_nilT, map_emp]
theorem ne_rule (r : Rule) : neD (dRule r) (.tuple []) = some (.bool (!r.isEmpty)) := by
  rw [neD_of (sh_Rule r) sh_nilT (by decide) (by decide)]
  unfold dRule
  rw [eqv_nilT, map_emp]
theorem sl_takeT (ds : List D) (k : Nat) : slD none (some (k : Int)) (.tuple ds) = some (.tuple (ds.take k)) := by
  show some (PyData.tuple (PD.cutD _ _ _)) = _
  rw [cut_take]
theorem sl_dropT (ds : List D) (k : Nat) : slD (some ((k : Int) + 1)) none (.tuple ds) = some (.tuple (ds.drop (k + 1))) := by
  show some (PyData.tuple (PD.cutD _ _ _)) = _
  rw [show (k : Int) + 1 = ((k + 1 : Nat) : Int) by omega, cut_drop]
abbrev st (F at' w rule way : D) (s6 s7 s8 s9 s10 s11 s12 s13 : Sl) : List Sl := [.deck, .val F, .val at', .val w, .val rule, .val way, s6, s7, s8, s9, s10, s11, s12, s13, .no, .no, .no, .no]
structure RowOk (L : Int) (r : Row) : Prop where
  len : r.length ≤ 100
  by0 : ∀ t ∈ r, TO L t
theorem RowOk.cut {r : Row} (h : RowOk L r) (k : Nat) : RowOk L (r.take k ++ r.drop (k + 1)) := ⟨by have := h.len; simp; omega, fun t ht => by
  rcases List.mem_append.mp ht with z | z
  · exact h.by0 t (List.mem_of_mem_take z)
  · exact h.by0 t (List.mem_of_mem_drop z)⟩
theorem RowOk.put {r : Row} (h : RowOk L r) (k : Nat) (hk : k < r.length) {t' : Tt} (ht' : TO L t') : RowOk L (r.take k ++ [t'] ++ r.drop (k + 1)) := ⟨by have := h.len; simp; omega, fun t ht => by
  rcases List.mem_append.mp ht with z | z
  · rcases List.mem_append.mp z with y | y
    · exact h.by0 t (List.mem_of_mem_take y)
    · simp at y; rw [y]; exact ht'
  · exact h.by0 t (List.mem_of_mem_drop z)⟩
abbrev if1 : MS := sIf (tAndM (mB (mBin neD (mVar 7) (mTup mNil))) (mB (mBin eqD (mVar 5) (mC (.int 0))))) (sSeq (sAsg (mCallK 0 f_l_draw (mCons (mCall lenD (mCons (mVar 7) mNil)) mNil)) (gSet 8))
  (sSeq (sAsg (mBin subD' (mVar 7) (mVar 8)) (gTupM 5 (gsCons (gSet 9) (gsCons (gSet 10) (gsCons (gSet 11) (gsCons (gSet 12) (gsCons (gSet 13) gsNil)))))))
  (sSeq (sAsg (mCall minD (mCons (mVar 12) (mCons (mCall maxD (mCons (mC (.int 0)) (mCons (mBin subD (mBin addD (mVar 11) (mCallK 0 f_l_draw (mCons (mC (.int 3)) mNil))) (mC (.int 1))) mNil))) mNil))) (gSet 11))
  (sSeq (sAsg (mBin neD (mVar 13) (mBin eqD (mCallK 0 f_l_draw (mCons (mC (.int 3)) mNil)) (mC (.int 0)))) (gSet 13))
  (sAsg (mBin addD (mBin addD (mSl (mVar 7) oNo (oSome (mVar 8))) (mTup (mCons (mTup (mCons (mVar 9) (mCons (mVar 10) (mCons (mVar 11) (mCons (mVar 12) (mCons (mVar 13) mNil)))))) mNil))) (mSl (mVar 7) (oSome (mBin addD (mVar 8) (mC (.int 1)))) oNo)) (gSet 7)))))) sNext
theorem if1_ok {b : Nat} {δ : Dk} (F at' w rule : D) (way : Int) (s6 s8 s9 s10 s11 s12 s13 : Sl) {row : Row} (hrow : RowOk L row) (h : DkOk b δ) (hb : b ≤ 100000) : ∃ row' a8 a9 a10 a11 a12 a13 δ', if1 (st F at' w rule (.int way) s6 (.val (dRow row)) s8 s9 s10 s11 s12 s13) δ = some (.nx, st F at' w rule (.int way) s6 (.val (dRow row')) a8 a9 a10 a11 a12 a13, δ') ∧ RowOk L row' ∧ DkOk (b + 3) δ' := by
  by_cases hr : row.isEmpty = true
  · exact ⟨row, s8, s9, s10, s11, s12, s13, δ, if_f (and_f (mB_eq (bin_eq rfl (tup_eq rfl (szr rfl)) (by rw [ne_row, hr]; rfl)))), hrow, h.mono (by omega)⟩
  · have hr : row.isEmpty = false := by simpa using hr
    have hne : mB (mBin neD (mVar 7) (mTup mNil)) (st F at' w rule (.int way) s6 (.val (dRow row)) s8 s9 s10 s11 s12 s13) δ = some (true, δ) := mB_eq (bin_eq rfl (tup_eq rfl (szr rfl)) (by rw [ne_row, hr]; rfl))
    by_cases hw : way = 0
    · subst hw
      have hl : 1 ≤ row.length := by
        cases row with
        | nil => cases hr
        | cons _ _ => simp
      have elen : lenD [dRow row] = some (.int (row.length : Int)) := by
        show some (PyData.int ((row.map dT).length : Int)) = _
        rw [List.length_map]
      have h100 := hrow.len
      obtain ⟨rk, δ1, e1, a0, a1, D1⟩ := draw_ok (many := (row.length : Int)) h (by omega) (by omega) (by omega)
      obtain ⟨k, rfl⟩ : ∃ k : Nat, rk = (k : Int) := ⟨rk.toNat, by omega⟩
      have hk : k < row.length := by omega
      obtain ⟨t, ht⟩ : ∃ t, row[k]? = some t := ⟨row[k], List.getElem?_eq_getElem hk⟩
      have ht0 := hrow.by0 t (List.mem_of_getElem? ht)
      obtain ⟨r3, δ2, e2, _, _, D2⟩ := draw_ok (many := 3) D1 (by omega) (by decide) (by decide)
      obtain ⟨r4, δ3, e3, _, _, D3⟩ := draw_ok (many := 3) D2 (by omega) (by decide) (by decide)
      have hix : subD' (dRow row) (.int (k : Int)) = some (dT t) := ixT (by rw [List.getElem?_map, ht]; rfl)
      obtain ⟨lo, hlo, hlo0⟩ : ∃ lo : Int, minD [.int t.hi, .int (if t.lo + r3 - 1 > 0 then t.lo + r3 - 1 else 0)] = some (.int lo) ∧ 0 ≤ lo := ⟨_, rfl, by have := ht0.h0; (repeat' split) <;> omega⟩
      refine ⟨row.take k ++ [⟨t.w, t.by_, lo, t.hi, !(t.yes == decide (r4 = 0))⟩] ++ row.drop (k + 1), .val (.int (k : Int)), .val (.str t.w.str), .val (.int t.by_), .val (.int lo), .val (.int t.hi), .val (.bool (!(t.yes == decide (r4 = 0)))), δ3, ?_, hrow.put k hk ⟨ht0.b0, ht0.b1, hlo0, ht0.h0, ht0.h1⟩, D3⟩
      refine (if_t ((and_t hne).trans (mB_eq (bin_eq rfl rfl (eqD_int _ _))))).trans ((seq_nx (asg_eq (callK_eq rfl (cons_eq (call_eq (cons_eq rfl rfl) elen) rfl) e1) rfl)).trans ((seq_nx (asg_eq (bin_eq rfl rfl hix) rfl)).trans ((seq_nx (asg_eq (call_eq (cons_eq rfl (cons_eq (call_eq (cons_eq rfl (cons_eq (bin_eq (bin_eq rfl (callK_eq rfl (cons_eq rfl rfl) e2) (addD_int _ _)) rfl (subD_int _ _)) rfl)) rfl) rfl)) hlo) rfl)).trans ((seq_nx (asg_eq (bin_eq rfl (bin_eq (callK_eq rfl (cons_eq rfl rfl) e3) rfl (eqD_int _ _)) (neD_bool _ _)) rfl)).trans (asg_eq (bin_eq (bin_eq (sl_eq rfl rfl (os_eq rfl) (sl_takeT (row.map dT) k)) (tup_eq (cons_eq (tup_eq rfl (szr rfl)) rfl) (szr rfl)) (addD_tup (by simp; exact sz (by omega)))) (sl_eq rfl (os_eq (bin_eq rfl rfl (addD_int _ _))) rfl (sl_dropT (row.map dT) k)) (addD_tup (by simp; exact sz (by omega)))) ?_)))))
      show some _ = some _
      unfold dRow
      rw [List.map_append, List.map_append, List.map_take, List.map_drop]
      rfl
    · exact ⟨row, s8, s9, s10, s11, s12, s13, δ, if_f ((and_t hne).trans (mB_eq (bin_eq rfl rfl (by rw [eqD_int, decide_eq_false hw])))), hrow, h.mono (by omega)⟩
abbrev if2 : MS := sIf (tAndM (mB (mBin neD (mVar 7) (mTup mNil))) (mB (mBin eqD (mVar 5) (mC (.int 1))))) (sSeq (sAsg (mCallK 0 f_l_draw (mCons (mCall lenD (mCons (mVar 7) mNil)) mNil)) (gSet 8))
  (sAsg (mBin addD (mSl (mVar 7) oNo (oSome (mVar 8))) (mSl (mVar 7) (oSome (mBin addD (mVar 8) (mC (.int 1)))) oNo)) (gSet 7))) sNext
theorem if2_ok {b : Nat} {δ : Dk} (F at' w rule : D) (way : Int) (s6 s8 s9 s10 s11 s12 s13 : Sl) {row : Row} (hrow : RowOk L row) (h : DkOk b δ) (hb : b ≤ 100000) : ∃ row' a8 δ', if2 (st F at' w rule (.int way) s6 (.val (dRow row)) s8 s9 s10 s11 s12 s13) δ = some (.nx, st F at' w rule (.int way) s6 (.val (dRow row')) a8 s9 s10 s11 s12 s13, δ') ∧ RowOk L row' ∧ DkOk (b + 1) δ' := by
  by_cases hr : row.isEmpty = true
  · exact ⟨row, s8, δ, if_f (and_f (mB_eq (bin_eq rfl (tup_eq rfl (szr rfl)) (by rw [ne_row, hr]; rfl)))), hrow, h.mono (by omega)⟩
  · have hr : row.isEmpty = false := by simpa using hr
    have hne : mB (mBin neD (mVar 7) (mTup mNil)) (st F at' w rule (.int way) s6 (.val (dRow row)) s8 s9 s10 s11 s12 s13) δ = some (true, δ) := mB_eq (bin_eq rfl (tup_eq rfl (szr rfl)) (by rw [ne_row, hr]; rfl))
    by_cases hw : way = 1
    · subst hw
      have hl : 1 ≤ row.length := by
        cases row with
        | nil => cases hr
        | cons _ _ => simp
      have elen : lenD [dRow row] = some (.int (row.length : Int)) := by
        show some (PyData.int ((row.map dT).length : Int)) = _
        rw [List.length_map]
      have h100 := hrow.len
      obtain ⟨rk, δ1, e1, a0, a1, D1⟩ := draw_ok (many := (row.length : Int)) h (by omega) (by omega) (by omega)
      obtain ⟨k, rfl⟩ : ∃ k : Nat, rk = (k : Int) := ⟨rk.toNat, by omega⟩
      refine ⟨row.take k ++ row.drop (k + 1), .val (.int (k : Int)), δ1, ?_, hrow.cut k, D1⟩
      refine (if_t ((and_t hne).trans (mB_eq (bin_eq rfl rfl (eqD_int _ _))))).trans ((seq_nx (asg_eq (callK_eq rfl (cons_eq (call_eq (cons_eq rfl rfl) elen) rfl) e1) rfl)).trans (asg_eq (bin_eq (sl_eq rfl rfl (os_eq rfl) (sl_takeT (row.map dT) k)) (sl_eq rfl (os_eq (bin_eq rfl rfl (addD_int _ _))) rfl (sl_dropT (row.map dT) k)) (addD_tup (by simp; exact sz (by omega)))) ?_))
      show some _ = some _
      unfold dRow
      rw [List.map_append, List.map_take, List.map_drop]
      rfl
    · exact ⟨row, s8, δ, if_f ((and_t hne).trans (mB_eq (bin_eq rfl rfl (by rw [eqD_int, decide_eq_false hw])))), hrow, h.mono (by omega)⟩
structure RuleWF (L : Int) (r : Rule) : Prop where
  len : r.length ≤ 100
  row : ∀ x ∈ r, RowOk L x
abbrev B1 : MS := sSeq (sAsg (mCallK 0 f_l_draw (mCons (mCall lenD (mCons (mVar 4) mNil)) mNil)) (gSet 6))
  (sSeq (sAsg (mBin subD' (mVar 4) (mVar 6)) (gSet 7))
  (sSeq if1 (sSeq if2
  (sAsg (mBin addD (mBin addD (mSl (mVar 4) oNo (oSome (mVar 6))) (mBin subD' (mLst (mCons (mTup (mCons (mVar 7) mNil)) (mCons (mTup mNil) mNil))) (mCall PD.intD (mCons (mBin eqD (mVar 5) (mC (.int 2))) mNil)))) (mSl (mVar 4) (oSome (mBin addD (mVar 6) (mC (.int 1)))) oNo)) (gSet 4)))))
theorem B1_ok {b : Nat} {δ : Dk} (F at' w : D) (way : Int) {r : Rule} (hr : RuleWF L r) (h1 : r.isEmpty = false) (h : DkOk b δ) (hb : b ≤ 10000) : ∃ r' a6 a7 a8 a9 a10 a11 a12 a13 δ', B1 (st F at' w (dRule r) (.int way) .no .no .no .no .no .no .no .no) δ = some (.nx, st F at' w (dRule r') (.int way) a6 a7 a8 a9 a10 a11 a12 a13, δ') ∧ RuleWF L r' ∧ DkOk (b + 5) δ' := by
  have hl : 1 ≤ r.length := by
    cases r with
    | nil => cases h1
    | cons _ _ => simp
  have hl100 := hr.len
  have elen : lenD [dRule r] = some (.int (r.length : Int)) := by
    show some (PyData.int ((r.map dRow).length : Int)) = _
    rw [List.length_map]
  obtain ⟨rk, δ1, e1, a0, a1, D1⟩ := draw_ok (many := (r.length : Int)) h (by omega) (by omega) (by omega)
  obtain ⟨k, rfl⟩ : ∃ k : Nat, rk = (k : Int) := ⟨rk.toNat, by omega⟩
  have hk : k < r.length := by omega
  obtain ⟨row, hrow⟩ : ∃ t, r[k]? = some t := ⟨r[k], List.getElem?_eq_getElem hk⟩
  have hix : subD' (dRule r) (.int (k : Int)) = some (dRow row) := ixT (by rw [List.getElem?_map, hrow]; rfl)
  obtain ⟨row1, b8, b9, b10, b11, b12, b13, δ2, e2, o1, D2⟩ := if1_ok F at' w (dRule r) way (.val (.int (k : Int))) .no .no .no .no .no .no (hr.row row (List.mem_of_getElem? hrow)) D1 (by omega)
  obtain ⟨row2, c8, δ3, e3, o2, D3⟩ := if2_ok F at' w (dRule r) way (.val (.int (k : Int))) b8 b9 b10 b11 b12 b13 o1 D2 (by omega)
  obtain ⟨mid, hmid, hml, hmr⟩ : ∃ mid : Rule, subD' (.list [.tuple [dRow row2], .tuple []]) (.int (if decide (way = 2) = true then 1 else 0)) = some (dRule mid) ∧ mid.length ≤ 1 ∧ ∀ x ∈ mid, x = row2 := by
    by_cases hw : way = 2
    · refine ⟨[], ?_, by simp, fun x hx => by simp at hx⟩
      rw [if_pos (decide_eq_true hw)]; rfl
    · refine ⟨[row2], ?_, by simp, fun x hx => by simpa using hx⟩
      rw [if_neg (by rw [decide_eq_false hw]; exact Bool.false_ne_true)]; rfl
  refine ⟨r.take k ++ mid ++ r.drop (k + 1), .val (.int (k : Int)), .val (dRow row2), c8, b9, b10, b11, b12, b13, δ3, ?_, ⟨by simp; omega, fun x hx => ?_⟩, D3.mono (by omega)⟩
  · refine (seq_nx (asg_eq (callK_eq rfl (cons_eq (call_eq (cons_eq rfl rfl) elen) rfl) e1) rfl)).trans ((seq_nx (asg_eq (bin_eq rfl rfl hix) rfl)).trans ((seq_nx e2).trans ((seq_nx e3).trans (asg_eq (bin_eq (bin_eq (sl_eq rfl rfl (os_eq rfl) (sl_takeT (r.map dRow) k)) (bin_eq (lst_eq (cons_eq (tup_eq rfl (szr rfl)) (cons_eq (tup_eq rfl (szr rfl)) rfl)) (szr rfl)) (call_eq (cons_eq (bin_eq rfl rfl (eqD_int _ _)) rfl) rfl) hmid) (addD_tup (by simp; exact sz (by omega)))) (sl_eq rfl (os_eq (bin_eq rfl rfl (addD_int _ _))) rfl (sl_dropT (r.map dRow) k)) (addD_tup (by simp; exact sz (by omega)))) ?_))))
    show some _ = some _
    unfold dRule
    rw [List.map_append, List.map_append, List.map_take, List.map_drop]
    rfl
  · rcases List.mem_append.mp hx with z | z
    · rcases List.mem_append.mp z with y | y
      · exact hr.row x (List.mem_of_mem_take y)
      · rw [hmr x y]; exact o2
    · exact hr.row x (List.mem_of_mem_drop z)
theorem pigeon {α : Type} [DecidableEq α] : ∀ (c l : List α), c.Nodup → (∀ x ∈ c, x ∈ l) → c.length ≤ l.length
  | [], _, _, _ => Nat.zero_le _
  | x :: c, l, hn, h => by
    have hx := h x (.head _)
    have := pigeon c (l.erase x) (List.nodup_cons.mp hn).2 fun y hy => by
      have hne : y ≠ x := fun z => (List.nodup_cons.mp hn).1 (z ▸ hy)
      exact (List.mem_erase_of_ne hne).mpr (h y (.tail _ hy))
    rw [List.length_erase_of_mem hx] at this
    have hp : 0 < l.length := List.length_pos_of_mem hx
    simp only [List.length_cons]
    omega
abbrev six : List Str := ["zzzzzzzz", "y", "x", "w", "v", "u"]
theorem six_nd : six.Nodup := by decide +kernel
theorem six_ok : ∀ x ∈ six, NmOk x := by unfold NmOk; decide +kernel
theorem six_free {names : List Str} (h : names.length < 6) : ∃ w ws, (six.filter fun x => !(names.any fun y => y == x)) = w :: ws := by
  cases hf : six.filter fun x => !(names.any fun y => y == x) with
  | cons w ws => exact ⟨w, ws, rfl⟩
  | nil =>
    exfalso
    have hall : ∀ x ∈ six, x ∈ names := fun x hx => by
      have := List.filter_eq_nil_iff.mp hf x hx
      simp only [Bool.not_eq_true', Bool.not_eq_false, List.any_eq_true, Bool.not_eq_true] at this
      have h2 : (names.any fun y => y == x) = true := by simpa using this
      obtain ⟨y, hy, e⟩ := List.any_eq_true.mp h2
      have : y = x := by simpa using e
      rw [← this]; exact hy
    have := pigeon six names six_nd hall
    simp at this
    omega
end K04
namespace K04
open PySem PySem.Spec PyProof.Rows L2 PD
theorem in_ok {x : Str} {names : List Str} (hx : PyData.strOk x = true) (hn : ∀ y ∈ names, PyData.strOk y = true) : inD true (.str x) (.list (names.map .str)) = some (.bool (!(names.any fun y => y == x))) := by
  have h1 := (Sh.str hx).ok (by decide)
  have h2 : SeqAt.shaped (.list (names.map .str)) = true := (Sh.lst (k := 0) fun d hd => by
    obtain ⟨y, hy, rfl⟩ := List.mem_map.mp hd
    exact Sh.str (hn y hy)).ok (by decide)
  unfold inD inL
  dsimp only
  rw [h1, h2]
  simp only [Bool.and_self, ↓reduceIte, Option.orElse, Bool.true_xor]
  rw [List.any_map]
  rfl
structure FormOk (L : Int) (x : Str × Rule) : Prop where
  name : NmOk x.1
  rule : RuleWF L x.2
theorem WF.form {f : Forms} (h : WF L f) {x : Str × Rule} (hx : x ∈ f) : FormOk L x := ⟨h.name x hx, h.rule x hx, fun r hr => ⟨h.row x hx r hr, h.by0 x hx r hr⟩⟩
theorem wf_of {f : Forms} (l1 : 1 ≤ f.length) (l6 : f.length ≤ 6) (h : ∀ x ∈ f, FormOk L x) : WF L f := ⟨l1, l6, fun x hx => (h x hx).rule.len, fun x hx r hr => ((h x hx).rule.row r hr).len, fun x hx r hr => ((h x hx).rule.row r hr).by0, fun x hx => (h x hx).name⟩
theorem bent_ok {b : Nat} {δ : Dk} {f : Forms} (hf : WF L f) (h : DkOk b δ) (hb : b ≤ 5000) : ∃ (f' : Forms) (δ' : Dk), f_l_bent_forms [dForms f] δ = some (dForms f', δ') ∧ WF L f' ∧ DkOk (b + 10) δ' := by
  have l1 := hf.l1
  have l6 := hf.l6
  have elen : lenD [dForms f] = some (.int (f.length : Int)) := by
    show some (PyData.int ((f.map dForm).length : Int)) = _
    rw [List.length_map]
  obtain ⟨ra, δ1, e1, a0, a1, D1⟩ := draw_ok (many := (f.length : Int)) h (by omega) (by omega) (by omega)
  obtain ⟨a, rfl⟩ : ∃ k : Nat, ra = (k : Int) := ⟨ra.toNat, by omega⟩
  have ha : a < f.length := by omega
  obtain ⟨x, hx⟩ : ∃ t, f[a]? = some t := ⟨f[a], List.getElem?_eq_getElem ha⟩
  have hxo := hf.form (List.mem_of_getElem? hx)
  obtain ⟨w, r⟩ := x
  obtain ⟨way, δ2, e2, b0, b1, D2⟩ := draw_ok (many := 5) D1 (by omega) (by decide) (by decide)
  have hix : subD' (dForms f) (.int (a : Int)) = some (dForm (w, r)) := ixT (by rw [List.getElem?_map, hx]; rfl)
  -- the end
  have fin : ∀ {r' : Rule} {s6 s7 s8 s9 s10 s11 s12 s13 : Sl} {δ' : Dk}, sRet (mBin addD (mBin addD (mSl (mVar 1) oNo (oSome (mVar 2))) (mTup (mCons (mTup (mCons (mVar 3) (mCons (mVar 4) mNil))) mNil))) (mSl (mVar 1) (oSome (mBin addD (mVar 2) (mC (.int 1)))) oNo)) (st (dForms f) (.int (a : Int)) (.str w) (dRule r') (.int way) s6 s7 s8 s9 s10 s11 s12 s13) δ'
      = some (.rt (dForms (f.take a ++ [(w, r')] ++ f.drop (a + 1))), st (dForms f) (.int (a : Int)) (.str w) (dRule r') (.int way) s6 s7 s8 s9 s10 s11 s12 s13, δ') := fun {r' s6 s7 s8 s9 s10 s11 s12 s13 δ'} => by
    have e : addD (.tuple ((f.map dForm).take a ++ [dForm (w, r')])) (.tuple ((f.map dForm).drop (a + 1))) = some (dForms (f.take a ++ [(w, r')] ++ f.drop (a + 1))) := by
      rw [addD_tup (by simp; exact sz (by omega))]
      unfold dForms
      rw [List.map_append, List.map_append, List.map_take, List.map_drop]
      rfl
    exact ret_eq (bin_eq (bin_eq (sl_eq rfl rfl (os_eq rfl) (sl_takeT (f.map dForm) a)) (tup_eq (cons_eq (tup_eq rfl (szr rfl)) rfl) (szr rfl)) (addD_tup (by simp; exact sz (by omega)))) (sl_eq rfl (os_eq (bin_eq rfl rfl (addD_int _ _))) rfl (sl_dropT (f.map dForm) a)) e)
  have finWF : ∀ {r' : Rule}, RuleWF L r' → WF L (f.take a ++ [(w, r')] ++ f.drop (a + 1)) := fun {r'} hr' => wf_of (by simp; omega) (by simp; omega) fun y hy => by
    rcases List.mem_append.mp hy with z | z
    · rcases List.mem_append.mp z with q | q
      · exact hf.form (List.mem_of_mem_take q)
      · simp at q; rw [q]; exact ⟨hxo.name, hr'⟩
    · exact hf.form (List.mem_of_mem_drop z)
  have hne : mB (mBin neD (mVar 4) (mTup mNil)) (st (dForms f) (.int (a : Int)) (.str w) (dRule r) (.int way) .no .no .no .no .no .no .no .no) δ2 = some (!r.isEmpty, δ2) := mB_eq (bin_eq rfl (tup_eq rfl (szr rfl)) (ne_rule r))
  have hlt : ∀ c : Int, mB (mBin ltD (mVar 5) (mC (.int c))) (st (dForms f) (.int (a : Int)) (.str w) (dRule r) (.int way) .no .no .no .no .no .no .no .no) δ2 = some (decide (way < c), δ2) := fun c => mB_eq (bin_eq rfl rfl (ltD_int _ _))
  have heq : ∀ c : Int, mB (mBin eqD (mVar 5) (mC (.int c))) (st (dForms f) (.int (a : Int)) (.str w) (dRule r) (.int way) .no .no .no .no .no .no .no .no) δ2 = some (decide (way = c), δ2) := fun c => mB_eq (bin_eq rfl rfl (eqD_int _ _))
  have erl : lenD [dRule r] = some (.int (r.length : Int)) := by
    show some (PyData.int ((r.map dRow).length : Int)) = _
    rw [List.length_map]
  have hl4 : mB (mBin ltD (mCall lenD (mCons (mVar 4) mNil)) (mC (.int 4))) (st (dForms f) (.int (a : Int)) (.str w) (dRule r) (.int way) .no .no .no .no .no .no .no .no) δ2 = some (decide ((r.length : Int) < 4), δ2) := mB_eq (bin_eq (call_eq (cons_eq rfl rfl) erl) rfl (ltD_int _ _))
  have hl6 : mB (mBin ltD (mCall lenD (mCons (mVar 1) mNil)) (mC (.int 6))) (st (dForms f) (.int (a : Int)) (.str w) (dRule r) (.int way) .no .no .no .no .no .no .no .no) δ2 = some (decide ((f.length : Int) < 6), δ2) := mB_eq (bin_eq (call_eq (cons_eq rfl rfl) elen) rfl (ltD_int _ _))
  have and_b : ∀ {p q : MT} {ρ : List Sl} {δ : Dk} {x y : Bool}, p ρ δ = some (x, δ) → q ρ δ = some (y, δ) → tAndM p q ρ δ = some (x && y, δ) := fun {p q ρ δ x y} h1 h2 => by
    cases x with
    | true => rw [and_t h1, h2]; rfl
    | false => rw [and_f h1]; rfl
  obtain ⟨r2, δ3, e3, c0, c1, D3⟩ := draw_ok (many := 201) D2 (by omega) (by decide) (by decide)
  by_cases hA : (!r.isEmpty && decide (way < 3)) = true
  · -- a row put otherwise
    have hr1 : r.isEmpty = false := by
      cases hq : r.isEmpty <;> simp [hq] at hA ⊢
    obtain ⟨r', a6, a7, a8, a9, a10, a11, a12, a13, δ4, e4, ok4, D4⟩ := B1_ok (dForms f) (.int (a : Int)) (.str w) way hxo.rule hr1 D2 (by omega)
    refine ⟨_, δ4, fnK_eq ⟨rfl, by decide⟩ ((seq_nx (asg_eq (callK_eq rfl (cons_eq (call_eq (cons_eq rfl rfl) elen) rfl) e1) rfl)).trans ((seq_nx (asg_eq (bin_eq rfl rfl hix) rfl)).trans ((seq_nx (asg_eq (callK_eq rfl (cons_eq rfl rfl) e2) rfl)).trans ((seq_nx ((if_t ((and_b hne (hlt 3)).trans (by rw [hA]))).trans e4)).trans fin)))), finWF ok4, D4.mono (by omega)⟩
  · have hA : (!r.isEmpty && decide (way < 3)) = false := by simpa using hA
    by_cases hB : (decide (way = 3) && decide ((r.length : Int) < 4)) = true
    · -- a row more
      have hrl : r.length < 4 := by simp at hB; omega
      have e5 : sAsg (mBin addD (mVar 4) (mTup (mCons (mTup (mCons (mTup (mCons (mC (.str "whole")) (mCons (mC (.int 0)) (mCons (mCallK 0 f_l_draw (mCons (mC (.int 201)) mNil)) (mCons (mC (.int 200)) (mCons (mC (.bool true)) mNil)))))) mNil)) mNil))) (gSet 4) (st (dForms f) (.int (a : Int)) (.str w) (dRule r) (.int way) .no .no .no .no .no .no .no .no) δ2 = some (.nx, st (dForms f) (.int (a : Int)) (.str w) (dRule (r ++ [[⟨.whole, 0, r2, 200, true⟩]])) (.int way) .no .no .no .no .no .no .no .no, δ3) := by
        refine asg_eq (bin_eq rfl (tup_eq (cons_eq (tup_eq (cons_eq (tup_eq (cons_eq rfl (cons_eq rfl (cons_eq (callK_eq rfl (cons_eq rfl rfl) e3) rfl))) (szr rfl)) rfl) (szr rfl)) rfl) (szr rfl)) (addD_tup (by simp; exact sz (by omega)))) ?_
        show some _ = some _
        unfold dRule
        rw [List.map_append]
        rfl
      refine ⟨_, δ3, fnK_eq ⟨rfl, by decide⟩ ((seq_nx (asg_eq (callK_eq rfl (cons_eq (call_eq (cons_eq rfl rfl) elen) rfl) e1) rfl)).trans ((seq_nx (asg_eq (bin_eq rfl rfl hix) rfl)).trans ((seq_nx (asg_eq (callK_eq rfl (cons_eq rfl rfl) e2) rfl)).trans ((seq_nx ((if_f ((and_b hne (hlt 3)).trans (by rw [hA]))).trans ((if_t ((and_b (heq 3) hl4).trans (by rw [hB]))).trans e5))).trans fin)))), finWF ⟨by simp; omega, fun y hy => ?_⟩, D3.mono (by omega)⟩
      rcases List.mem_append.mp hy with z | z
      · exact hxo.rule.row y z
      · simp at z
        rw [z]
        exact ⟨by simp, fun t ht => by simp at ht; rw [ht]; exact ⟨Int.le_refl 0, .inl rfl, by dsimp only; omega, by dsimp only; omega, by dsimp only; omega⟩⟩
    · have hB : (decide (way = 3) && decide ((r.length : Int) < 4)) = false := by simpa using hB
      by_cases hC : (decide (way = 4) && decide ((f.length : Int) < 6)) = true
      · -- a form more
        have hfl : f.length < 6 := by simp at hC; omega
        have hnames : ∀ (ρ : List Sl) (δ : Dk), ρ[1]? = some (.val (dForms f)) → noU ρ [16, 17] = true → (∀ p ∈ f, ∃ ρ2, gTupM 2 (gsCons (gSet 16) (gsCons (gSet 17) gsNil)) (dForm p) (wipeR ρ [16, 17]) = some ρ2 ∧ mVar 16 ρ2 δ = some (.str p.1, δ)) → mLc (mItems (mVar 1)) [16, 17] (gTupM 2 (gsCons (gSet 16) (gsCons (gSet 17) gsNil))) mYes (mVar 16) ρ δ = some (.list ((f.map (·.1)).map .str), δ) := fun ρ δ h1 h2 h3 => by
          rw [List.map_map]
          refine lc_eq (it_eq (d := dForms f) (by unfold mVar; rw [h1]) rfl) h2 (compL_map dForm _ f h3) (by rw [List.length_map]; exact sz (by omega))
        obtain ⟨wd, ws, hwd⟩ := six_free (names := f.map (·.1)) (by rw [List.length_map]; exact hfl)
        have hwm : wd ∈ six := (List.mem_filter.mp (by rw [hwd]; exact .head _ : wd ∈ six.filter fun x => !((f.map (·.1)).any fun y => y == x))).1
        have hfn : ∀ y ∈ f.map (·.1), PyData.strOk y = true := fun y hy => by
          obtain ⟨p, hp, rfl⟩ := List.mem_map.mp hy
          exact (hf.name p hp).1
        have efar : mTup (mCons (mC (.str "whole")) (mCons (mC (.int 0)) (mCons (mCallK 0 f_l_draw (mCons (mC (.int 201)) mNil)) (mCons (mC (.int 200)) (mCons (mC (.bool true)) mNil))))) (st (dForms f) (.int (a : Int)) (.str w) (dRule r) (.int way) .no .no .no .no .no .no .no .no) δ2 = some (dT ⟨.whole, 0, r2, 200, true⟩, δ3) := tup_eq (cons_eq rfl (cons_eq rfl (cons_eq (callK_eq rfl (cons_eq rfl rfl) e3) rfl))) (szr rfl)
        have ewd : mBin subD' (mLc (mItems (mTup (mCons (mC (.str "zzzzzzzz")) (mCons (mC (.str "y")) (mCons (mC (.str "x")) (mCons (mC (.str "w")) (mCons (mC (.str "v")) (mCons (mC (.str "u")) mNil)))))))) [15] (gSet 15) (mB (mBin (inD true) (mVar 15) (mLc (mItems (mVar 1)) [16, 17] (gTupM 2 (gsCons (gSet 16) (gsCons (gSet 17) gsNil))) mYes (mVar 16)))) (mVar 15)) (mC (.int 0)) [.deck, .val (dForms f), .val (.int (a : Int)), .val (.str w), .val (dRule r), .val (.int way), .no, .no, .no, .no, .no, .no, .no, .no, .val (dT ⟨.whole, 0, r2, 200, true⟩), .no, .no, .no] δ3 = some (.str wd, δ3) := by
          refine bin_eq (x := .list ((six.filter fun x => !((f.map (·.1)).any fun y => y == x)).map .str)) (lc_eq (it_eq (d := .tuple (six.map .str)) (tup_eq rfl (szr rfl)) rfl) rfl (compL_filter PyData.str (fun x => !((f.map (·.1)).any fun y => y == x)) PyData.str six fun x hx => ⟨_, rfl, mB_eq (bin_eq rfl (hnames _ _ rfl rfl fun p hp => ⟨_, rfl, rfl⟩) (in_ok (six_ok x hx).1 hfn)), fun _ => rfl⟩) ?_) rfl ?_
          · rw [List.length_map]
            exact sz (Nat.le_trans (List.length_filter_le _ _) (by decide))
          · rw [hwd]; exact ixL (k := 0) rfl
        have eend : addD (dForms f) (.tuple [.tuple [.str wd, .tuple [.tuple [dT ⟨.whole, 0, r2, 200, true⟩, .tuple [.str "places", .int 0, .int 1, .int 2, .bool true]]]]]) = some (dForms (f ++ [(wd, [[⟨.whole, 0, r2, 200, true⟩, ⟨.places, 0, 1, 2, true⟩]])])) := by
          unfold dForms
          rw [addD_tup (by simp; exact sz (by omega)), List.map_append]
          rfl
        refine ⟨_, δ3, fnK_eq ⟨rfl, by decide⟩ ((seq_nx (asg_eq (callK_eq rfl (cons_eq (call_eq (cons_eq rfl rfl) elen) rfl) e1) rfl)).trans ((seq_nx (asg_eq (bin_eq rfl rfl hix) rfl)).trans ((seq_nx (asg_eq (callK_eq rfl (cons_eq rfl rfl) e2) rfl)).trans (seq_rt ((if_f ((and_b hne (hlt 3)).trans (by rw [hA]))).trans ((if_f ((and_b (heq 3) hl4).trans (by rw [hB]))).trans ((if_t ((and_b (heq 4) hl6).trans (by rw [hC]))).trans ((seq_nx (asg_eq efar rfl)).trans ((seq_nx (asg_eq ewd rfl)).trans (ret_eq (bin_eq rfl (tup_eq (cons_eq (tup_eq (cons_eq rfl (cons_eq (tup_eq (cons_eq (tup_eq (cons_eq rfl (cons_eq (tup_eq rfl (szr rfl)) rfl)) (szr rfl)) rfl) (szr rfl)) rfl)) (szr rfl)) rfl) (szr rfl)) eend))))))))))), wf_of (by simp) (by simp; omega) fun y hy => ?_, D3.mono (by omega)⟩
        rcases List.mem_append.mp hy with z | z
        · exact hf.form z
        · simp at z
          rw [z]
          refine ⟨six_ok wd hwm, ⟨by simp, fun q hq => ?_⟩⟩
          simp at hq
          rw [hq]
          refine ⟨by simp, fun t ht => ?_⟩
          simp at ht
          rcases ht with ht | ht <;> (rw [ht]; exact ⟨Int.le_refl 0, .inl rfl, by dsimp only; omega, by dsimp only; omega, by dsimp only; omega⟩)
      · have hC : (decide (way = 4) && decide ((f.length : Int) < 6)) = false := by simpa using hC
        refine ⟨_, δ2, fnK_eq ⟨rfl, by decide⟩ ((seq_nx (asg_eq (callK_eq rfl (cons_eq (call_eq (cons_eq rfl rfl) elen) rfl) e1) rfl)).trans ((seq_nx (asg_eq (bin_eq rfl rfl hix) rfl)).trans ((seq_nx (asg_eq (callK_eq rfl (cons_eq rfl rfl) e2) rfl)).trans ((seq_nx ((if_f ((and_b hne (hlt 3)).trans (by rw [hA]))).trans ((if_f ((and_b (heq 3) hl4).trans (by rw [hB]))).trans (if_f ((and_b (heq 4) hl6).trans (by rw [hC])))))).trans fin)))), finWF hxo.rule, D2.mono (by omega)⟩
end K04
namespace K04
open PySem PySem.Spec PyProof.Rows L2 PD
theorem while_t {c : MT} {s : MS} {n : Nat} {ρ ρ2 : List Sl} {δ δ1 δ2 : Dk} (h1 : c ρ δ = some (true, δ1)) (h2 : s ρ δ1 = some (.nx, ρ2, δ2)) : whileL c s (n + 1) ρ δ = whileL c s n ρ2 δ2 := by
  rw [whileL]
  simp only [h1, h2, Option.bind_some, if_true]
theorem gcd_loop : ∀ (n : Nat) (a b : Int) (δ : Dk), 0 ≤ a → 0 ≤ b → b < 1073741824 → b < n → ∃ g : Int, whileL (mB (mBin neD (mVar 1) (mC (.int 0)))) (sAsg (mTup (mCons (mVar 1) (mCons (mBin modD (mVar 0) (mVar 1)) mNil))) (gSwapM 0 1)) n [.val (.int a), .val (.int b)] δ = some (.nx, [.val (.int g), .val (.int 0)], δ) ∧ g = Int.gcd a b := by
  intro n
  induction n with
  | zero => intro a b δ h0 h1 hb h2; omega
  | succ n ih =>
    intro a b δ h0 h1 hb h2
    by_cases hz : b = 0
    · subst hz
      refine ⟨a, rfl, ?_⟩
      rw [Int.gcd_zero_right]; omega
    · have hpos : 0 < b := by omega
      have k1 := Int.emod_nonneg a hz
      have k2 := Int.emod_lt_of_pos a hpos
      obtain ⟨g, e, hg⟩ := ih b (a % b) δ h1 k1 (by omega) (by omega)
      refine ⟨g, ?_, ?_⟩
      · have ht : (mB (mBin neD (mVar 1) (mC (.int 0)))) [.val (.int a), .val (.int b)] δ = some (true, δ) := by
          have hq : neD (.int b) (.int 0) = some (.bool true) := by
            have : PyData.eqv (.int b) (.int 0) = false := by simp only [PyData.eqv]; simpa using hz
            show some (PyData.bool (!PyData.eqv (.int b) (.int 0))) = _
            rw [this]; rfl
          show ((neD (.int b) (.int 0)).map fun z => (z, δ)).bind _ = _
          rw [hq]; rfl
        have hb2 : (sAsg (mTup (mCons (mVar 1) (mCons (mBin modD (mVar 0) (mVar 1)) mNil))) (gSwapM 0 1)) [.val (.int a), .val (.int b)] δ = some (.nx, [.val (.int b), .val (.int (a % b))], δ) := by
          have hq : modD (.int a) (.int b) = some (.int (a % b)) := by
            show (if decide (0 < b) = true then some (PyData.int (a % b)) else none) = _
            rw [if_pos (decide_eq_true hpos)]
          have hm : (mBin modD (mVar 0) (mVar 1)) [.val (.int a), .val (.int b)] δ = some (.int (a % b), δ) := by
            show ((modD (.int a) (.int b)).map fun z => (z, δ)) = _
            rw [hq]; rfl
          exact asg_eq (tup_eq (cons_eq rfl (cons_eq hm rfl)) (show 2 ≤ sizeLine by decide)) rfl
        exact (while_t ht hb2).trans e
      · rw [hg]
        obtain ⟨m, rfl⟩ := Int.eq_ofNat_of_zero_le h0
        obtain ⟨k, rfl⟩ := Int.eq_ofNat_of_zero_le h1
        show ((Nat.gcd k (m % k) : Nat) : Int) = ((Nat.gcd m k : Nat) : Int)
        rw [Nat.gcd_comm m k, Nat.gcd_rec k m, Nat.gcd_comm]
theorem common_eq {a b : Int} (h0 : 0 ≤ a) (h1 : 0 ≤ b) (h2 : b < 100000) : f_common_divisor [.int a, .int b] = some (.int (Int.gcd a b)) := by
  obtain ⟨g, e, hg⟩ := gcd_loop 100000 a b ⟨[], 0, [], none⟩ h0 h1 (by omega) h2
  subst hg
  exact fnP_eq ⟨rfl, by decide⟩ ((seq_nx e).trans (ret_eq rfl))
end K04
namespace K04
open PySem PySem.Spec PyProof.Rows L2 PD
theorem compC_flat {g : MG} {mr : MR} {ρ : List Sl} {δ : Dk} (h : D → List D) : ∀ {ds : List D}, (∀ d ∈ ds, ∃ ρ2, g d ρ = some ρ2 ∧ mr ρ2 δ = some (h d, δ)) → compC g mYes mr ρ ds δ = some (ds.flatMap h, δ)
  | [], _ => rfl
  | d :: ds, hd => by
    obtain ⟨ρ2, e1, e2⟩ := hd d List.mem_cons_self
    have ih := compC_flat (g := g) (mr := mr) (ρ := ρ) (δ := δ) h (ds := ds) fun x hx => hd x (List.mem_cons_of_mem _ hx)
    unfold compC
    simp only [e1, mYes, Option.bind_some, if_true, e2, ih, Option.map_some, List.flatMap_cons]
theorem for_flat {mi : MA} {vs : List Nat} {g : MG} {mr : MR} {ρ : List Sl} {δ : Dk} {ds : List D} (h : D → List D) (hi : mi ρ δ = some (ds, δ)) (hu : noU ρ vs = true) (hd : ∀ d ∈ ds, ∃ ρ2, g d (wipeR ρ vs) = some ρ2 ∧ mr ρ2 δ = some (h d, δ)) : mFor mi vs g mYes mr ρ δ = some (ds.flatMap h, δ) := by
  unfold mFor
  rw [hi]
  show (if noU ρ vs = true then _ else _) = _
  rw [if_pos hu]
  exact compC_flat h hd
theorem lcN_eq {mr : MR} {ρ : List Sl} {δ δ1 : Dk} {out : List D} (h : mr ρ δ = some (out, δ1)) (hz : out.length ≤ sizeLine) : mLcN mr ρ δ = some (.list out, δ1) := by
  unfold mLcN
  rw [h]
  simp only [Option.bind_some]
  rw [if_pos hz]
def itm : D → List D
  | .tuple ds => ds
  | _ => []
def ruleD : D → D
  | .tuple [_, r] => r
  | d => d
def testsD (f : Forms) : List D := f.flatMap fun p => p.2.flatMap fun r => r.map dT
theorem all_tests_eq {f : Forms} (hz : (testsD f).length ≤ sizeLine) : f_all_tests [dForms f] = some (.list (testsD f)) := by
  have e : mFor (mItems (mVar 0)) [1, 2, 3, 4] (gTupM 2 (gsCons (gSet 1) (gsCons (gSet 2) gsNil))) mYes (mFor (mItems (mVar 2)) [3, 4] (gSet 3) mYes (mFor (mItems (mVar 3)) [4] (gSet 4) mYes (mOne (mVar 4)))) [.val (dForms f), .no, .no, .no, .no] ⟨[], 0, [], none⟩
      = some ((f.map dForm).flatMap fun d => (itm (ruleD d)).flatMap fun r => (itm r).flatMap fun t => [t], ⟨[], 0, [], none⟩) := by
    refine for_flat _ rfl rfl fun d hd => ?_
    obtain ⟨p, _, rfl⟩ := List.mem_map.mp hd
    refine ⟨_, rfl, for_flat _ rfl rfl fun r hr => ?_⟩
    obtain ⟨row, _, rfl⟩ := List.mem_map.mp hr
    refine ⟨_, rfl, for_flat _ rfl rfl fun t ht => ?_⟩
    exact ⟨_, rfl, rfl⟩
  have e2 : ((f.map dForm).flatMap fun d => (itm (ruleD d)).flatMap fun r => (itm r).flatMap fun t => [t]) = testsD f := by
    unfold testsD
    rw [List.flatMap_map]
    refine congrArg (fun k => List.flatMap k f) (funext fun p => ?_)
    show ((p.2.map dRow).flatMap fun r => (itm r).flatMap fun t => [t]) = _
    rw [List.flatMap_map]
    refine congrArg (fun k => List.flatMap k p.2) (funext fun r => ?_)
    show ((r.map dT).flatMap fun t => [t]) = r.map dT
    simp
  rw [e2] at e
  refine fnP_eq (δ' := ⟨[], 0, [], none⟩) ⟨rfl, by decide⟩ (ret_eq (δ1 := ⟨[], 0, [], none⟩) ?_)
  exact lcN_eq e hz
end K04
namespace K04
open PySem PySem.Spec PyProof.Rows L2 TL PD
local macro_rules | `(tactic| walk_at "wp") => `(tactic| simp only [ws_seq, ws_asg, ws_ret, ws_if, ws_next, ws_uni, ws_app, ws_frz, ws_aug, ws_for, onNx_nx, onNx_rt, onNx_bk, onNx_ct, onRt_rt, onRt_nx, we_var, we_c, we_bin, we_un, we_call, we_callK, wa_nil, wa_cons, we_tup, we_lst, wo_no, wo_some, we_sl, wt_b, wt_tru, wt_and, wt_or, wt_not, we_if, we_and, we_or, we_chain, we_get2, wp_nil, wp_cons, we_disp, wa_items, we_lc, wg_set, wg_tup, wgs_nil, wgs_cons, List.getElem?_cons_zero, List.getElem?_cons_succ, Option.some.injEq, Sl.val.injEq, Sl.uni.injEq, exists_eq_left', exists_eq_left, List.set_cons_zero, List.set_cons_succ, true_and, and_true, List.length_cons, List.length_nil, List.map_cons, List.map_nil, PyData.int.injEq, PyData.bool.injEq, PyData.tuple.injEq, PyData.list.injEq, PyData.str.injEq, w_add, w_sub, w_lt, w_le, w_gt, w_ge, w_eqI, w_neI, w_intB, itemsD, truD, slots, wipeR, List.cons_append, List.nil_append, Nat.reduceAdd, Nat.reduceSub, List.replicate_succ, List.replicate_zero, ↓reduceIte, Bool.false_eq_true, Bool.not_true, Bool.not_false, decide_true, decide_false, if_true, if_false])
def tests (f : Forms) : List Tt := f.flatMap fun p => p.2.flatMap id
theorem testsD_eq (f : Forms) : testsD f = (tests f).map dT := by
  unfold testsD tests
  rw [List.map_flatMap]
  congr 1
  funext p
  rw [List.map_flatMap]
  rfl
theorem mem_tests {f : Forms} {t : Tt} : t ∈ tests f ↔ ∃ p ∈ f, ∃ r ∈ p.2, t ∈ r := by
  unfold tests
  simp [List.mem_flatMap]
theorem WF.to {L : Int} {f : Forms} (h : WF L f) {t : Tt} (ht : t ∈ tests f) : TO L t := by
  obtain ⟨p, hp, r, hr, ht⟩ := mem_tests.mp ht
  exact h.by0 p hp r hr t ht
theorem flat_le {α β : Type} (g : α → List β) (k : Nat) : ∀ l : List α, (∀ x ∈ l, (g x).length ≤ k) → (l.flatMap g).length ≤ k * l.length
  | [], _ => by simp
  | a :: l, h => by
    have h1 := h a (.head _)
    have h2 := flat_le g k l fun x hx => h x (.tail _ hx)
    rw [List.flatMap_cons, List.length_append, List.length_cons, Nat.mul_add]
    omega
theorem WF.tests_len {L : Int} {f : Forms} (h : WF L f) : (tests f).length ≤ 60000 := by
  have h1 : ∀ p ∈ f, (p.2.flatMap id).length ≤ 10000 := fun p hp => by
    have := flat_le (id : Row → List Tt) 100 p.2 fun r hr => h.row p hp r hr
    have := h.rule p hp
    omega
  have := flat_le (fun p : Str × Rule => p.2.flatMap id) 10000 f h1
  have := h.l6
  unfold tests
  omega
theorem WF.all_tests {L : Int} {f : Forms} (h : WF L f) : f_all_tests [dForms f] = some (.list ((tests f).map dT)) := by
  have := h.tests_len
  have sb := sizeBig
  rw [← testsD_eq]
  exact all_tests_eq (by rw [testsD_eq, List.length_map]; omega)
/-- the round: it has all divisors, and divides L -/
theorem round_ok {L : Int} {f : Forms} (h : WF L f) (hL : 1 ≤ L) (hL2 : L ≤ 60) : ∃ R : Nat, f_round_of [dForms f] = some (.int R) ∧ 1 ≤ R ∧ R ≤ 60 ∧ ∀ t ∈ tests f, t.by_ = 0 ∨ t.by_ ∣ (R : Int) := by
  have : W1 (f_round_of [dForms f]) fun z => ∃ R : Nat, z = .int R ∧ 1 ≤ R ∧ R ≤ 60 ∧ ∀ t ∈ tests f, t.by_ = 0 ∨ t.by_ ∣ (R : Int) := by
    refine w1_fnP ?_
    unfold m_round_of
    walk_at "wp"
    refine .of h.all_tests ?_
    walk_at "wp"
    refine ws_forI (fun left ρ δ => ∃ (done l : List Tt) (R : Nat) (s2 s3 s4 s5 s6 : Sl), done ++ l = tests f ∧ left = l.map dT ∧ ρ = [.val (dForms f), .val (.int R), s2, s3, s4, s5, s6] ∧ 1 ≤ R ∧ (R : Int) ∣ L ∧ ∀ t ∈ done, t.by_ = 0 ∨ t.by_ ∣ (R : Int)) (fun d left ρ δ hI => ?_) (fun ρ δ hI => ?_) _ _ _ ⟨[], tests f, 1, _, _, _, _, _, rfl, rfl, rfl, Nat.le_refl 1, Int.one_dvd L, fun t ht => by simp at ht⟩
    · obtain ⟨done, l, R, s2, s3, s4, s5, s6, e1, e2, rfl, hR, hRL, hd⟩ := hI
      match l, e2 with
      | t :: l, e2 =>
        rw [List.map_cons, List.cons.injEq] at e2
        obtain ⟨rfl, rfl⟩ := e2
        have ht : TO L t := h.to (by rw [← e1]; simp)
        unfold dT
        walk_at "wp"
        have hRle : (R : Int) ≤ L := Int.le_of_dvd (by omega) hRL
        by_cases hb : t.by_ = 0
        · simp only [hb, decide_true, Bool.not_true, Bool.false_eq_true, if_false]
          refine ⟨done ++ [t], l, R, _, _, _, _, _, by rw [← e1]; simp, rfl, rfl, hR, hRL, fun u hu => ?_⟩
          rcases List.mem_append.mp hu with hu | hu
          · exact hd u hu
          · simp at hu; rw [hu]; exact .inl hb
        · simp only [hb, decide_false, Bool.not_false, if_true]
          have hbL : t.by_ ∣ L := ht.b1.resolve_left hb
          obtain ⟨bn, ebn⟩ := Int.eq_ofNat_of_zero_le ht.b0
          have hbn : t.by_ = (bn : Int) := ebn
          have hb0 : 1 ≤ bn := by omega
          have hble : (bn : Int) ≤ L := by rw [← hbn]; exact Int.le_of_dvd (by omega) hbL
          rw [hbn]
          refine .of (mulD_int (by unfold mulOk; rw [Bool.or_eq_true]; left; exact decide_eq_true ⟨by omega, by omega⟩)) ?_
          refine .of (common_eq (by omega) (by omega) (by omega)) ?_
          have hg0 : 0 < Nat.gcd R bn := Nat.gcd_pos_of_pos_left _ (by omega)
          have hgle : Nat.gcd R bn ≤ R := Nat.gcd_le_left _ (by omega)
          have eg : (Int.gcd (R : Int) (bn : Int) : Int) = ((Nat.gcd R bn : Nat) : Int) := rfl
          rw [eg]
          rw [w_fdiv (by omega) (log_ok (by omega) (by omega))]
          have el : ((R : Int) * (bn : Int)) / ((Nat.gcd R bn : Nat) : Int) = ((Nat.lcm R bn : Nat) : Int) := by
            unfold Nat.lcm
            rw [← Int.natCast_mul, ← Int.natCast_ediv]
          rw [el]
          obtain ⟨ln, eln⟩ := Int.eq_ofNat_of_zero_le (show 0 ≤ L by omega)
          have hln : L = (ln : Int) := eln
          refine ⟨done ++ [t], l, Nat.lcm R bn, _, _, _, _, _, by rw [← e1]; simp, rfl, rfl, Nat.lcm_pos (by omega) (by omega), ?_, fun u hu => ?_⟩
          · rw [hln]
            refine Int.natCast_dvd_natCast.mpr (Nat.lcm_dvd ?_ ?_)
            · rw [hln] at hRL; exact Int.natCast_dvd_natCast.mp hRL
            · rw [hln, hbn] at hbL; exact Int.natCast_dvd_natCast.mp hbL
          · rcases List.mem_append.mp hu with hu | hu
            · exact (hd u hu).imp id fun z => Int.dvd_trans z (Int.natCast_dvd_natCast.mpr (Nat.dvd_lcm_left _ _))
            · simp at hu; rw [hu, hbn]
              exact .inr (Int.natCast_dvd_natCast.mpr (Nat.dvd_lcm_right _ _))
    · obtain ⟨done, l, R, s2, s3, s4, s5, s6, e1, e2, rfl, hR, hRL, hd⟩ := hI
      have : l = [] := by simpa using e2
      subst this
      rw [List.append_nil] at e1
      subst e1
      walk_at "wp"
      refine ⟨R, rfl, hR, ?_, hd⟩
      have := Int.le_of_dvd (by omega) hRL
      omega
  obtain ⟨z, e, R, rfl, h1⟩ := this
  exact ⟨R, e, h1⟩
theorem great_ub {ns : List Int} {m : Int} (h : greatI ns = some m) : m ∈ ns ∧ ∀ x ∈ ns, x ≤ m := by
  cases ns with
  | nil => cases h
  | cons a as =>
    have e : as.foldl max a = m := Option.some.inj h
    obtain ⟨h1, h2, h3⟩ := foldl_max_ge as a
    rw [e] at h1 h2 h3
    refine ⟨?_, fun x hx => ?_⟩
    · rcases h3 with h3 | h3
      · rw [h3]; exact .head _
      · exact .tail _ h3
    · rcases List.mem_cons.mp hx with rfl | hx
      · exact h1
      · exact h2 x hx
theorem great_none {ns : List Int} (h : greatI ns = none) : ns = [] := by
  cases ns with
  | nil => rfl
  | cons a as => cases h
theorem intsD_map : ∀ ns : List Int, intsD (ns.map .int) = some ns
  | [] => rfl
  | n :: r => by rw [List.map_cons]; unfold intsD; rw [intsD_map r]; rfl
theorem far_ok {L : Int} {f : Forms} (h : WF L f) : ∃ far : Nat, f_first_far [dForms f] = some (.int far) ∧ far ≤ 201 ∧ ∀ t ∈ tests f, t.hi < (far : Int) := by
  have sb := sizeBig
  have ht := h.tests_len
  have e1 : mLc (mItems (mCall f_all_tests (mCons (mVar 0) mNil))) [1, 2, 3, 4, 5] (gTupM 5 (gsCons (gSet 1) (gsCons (gSet 2) (gsCons (gSet 3) (gsCons (gSet 4) (gsCons (gSet 5) gsNil)))))) mYes (mVar 4) [.val (dForms f), .no, .no, .no, .no, .no] ⟨[], 0, [], none⟩ = some (.list ((tests f).map fun t => .int t.hi), ⟨[], 0, [], none⟩) :=
    lc_eq (it_eq (call_eq (cons_eq rfl rfl) h.all_tests) rfl) rfl (compL_map dT (fun t => .int t.hi) (tests f) fun t _ => ⟨_, rfl, rfl⟩) (by rw [List.length_map]; omega)
  have e2 : intsD ((tests f).map fun t => PyData.int t.hi) = some ((tests f).map (·.hi)) := by
    rw [show ((tests f).map fun t => PyData.int t.hi) = ((tests f).map (·.hi)).map .int by rw [List.map_map]; rfl, intsD_map]
  have e3 : ∀ z : D, (match greatI ((tests f).map (·.hi)) with | some n => PyData.int n | none => .int (-1)) = z → f_first_far [dForms f] = addD (.int 1) z := fun z hz => by
    have : mMaxDf (mLc (mItems (mCall f_all_tests (mCons (mVar 0) mNil))) [1, 2, 3, 4, 5] (gTupM 5 (gsCons (gSet 1) (gsCons (gSet 2) (gsCons (gSet 3) (gsCons (gSet 4) (gsCons (gSet 5) gsNil)))))) mYes (mVar 4)) (mUn negD (mC (.int 1))) [.val (dForms f), .no, .no, .no, .no, .no] ⟨[], 0, [], none⟩ = some (z, ⟨[], 0, [], none⟩) := by
      unfold mMaxDf
      rw [e1]
      simp only [Option.bind_some]
      show ((intsD ((tests f).map fun t => PyData.int t.hi)).map _) = _
      rw [e2]
      show some _ = some _
      first | (rw [← hz]; done) | (rw [← hz]; rfl)
    cases hg : addD (.int 1) z with
    | none =>
      exfalso
      cases hq : greatI ((tests f).map (·.hi)) with
      | none => rw [hq] at hz; subst hz; cases hg
      | some n => rw [hq] at hz; subst hz; cases hg
    | some y => exact fnP_eq ⟨rfl, by decide⟩ (ret_eq (bin_eq rfl this hg))
  cases hg : greatI ((tests f).map (·.hi)) with
  | none =>
    have hn := great_none hg
    rw [List.map_eq_nil_iff] at hn
    refine ⟨0, (e3 (.int (-1)) (by rw [hg])).trans rfl, by omega, fun t ht => by rw [hn] at ht; simp at ht⟩
  | some m =>
    obtain ⟨g1, g2⟩ := great_ub hg
    obtain ⟨t, ht, rfl⟩ := List.mem_map.mp g1
    have hto := h.to ht
    have a1 := hto.h0
    have a2 := hto.h1
    refine ⟨(1 + t.hi).toNat, (e3 (.int t.hi) (by rw [hg])).trans ?_, by omega, fun u hu => ?_⟩
    · rw [addD_int, Int.toNat_of_nonneg (by omega)]
    · have := g2 u.hi (List.mem_map.mpr ⟨u, hu, rfl⟩)
      omega
end K04
namespace K04
open PySem PySem.Spec PyProof.Rows L2 TL PD
local macro_rules | `(tactic| walk_at "wp") => `(tactic| simp only [ws_seq, ws_asg, ws_ret, ws_if, ws_next, ws_uni, ws_app, ws_frz, ws_aug, ws_for, onNx_nx, onNx_rt, onNx_bk, onNx_ct, onRt_rt, onRt_nx, we_var, we_c, we_bin, we_un, we_call, we_callK, wa_nil, wa_cons, we_tup, we_lst, wo_no, wo_some, we_sl, wt_b, wt_tru, wt_and, wt_or, wt_not, we_if, we_and, we_or, we_chain, we_get2, wp_nil, wp_cons, we_disp, wa_items, we_lc, wg_set, wg_tup, wgs_nil, wgs_cons, List.getElem?_cons_zero, List.getElem?_cons_succ, Option.some.injEq, Sl.val.injEq, Sl.uni.injEq, exists_eq_left', exists_eq_left, List.set_cons_zero, List.set_cons_succ, true_and, and_true, List.length_cons, List.length_nil, List.map_cons, List.map_nil, PyData.int.injEq, PyData.bool.injEq, PyData.tuple.injEq, PyData.list.injEq, PyData.str.injEq, w_add, w_sub, w_lt, w_le, w_gt, w_ge, w_eqI, w_neI, w_intB, itemsD, truD, slots, wipeR, List.cons_append, List.nil_append, Nat.reduceAdd, Nat.reduceSub, List.replicate_succ, List.replicate_zero, ↓reduceIte, Bool.false_eq_true, Bool.not_true, Bool.not_false, decide_true, decide_false, if_true, if_false])
def bitsN : List Bool → Nat
  | [] => 0
  | b :: r => b.toNat + 2 * bitsN r
theorem bitsN_snoc : ∀ (l : List Bool) (b : Bool), bitsN (l ++ [b]) = bitsN l + 2 ^ l.length * b.toNat
  | [], b => by simp [bitsN]
  | a :: l, b => by
    rw [List.cons_append, bitsN, bitsN, bitsN_snoc l b, List.length_cons, Nat.pow_succ, Nat.mul_add]
    have : 2 ^ l.length * 2 * b.toNat = 2 * (2 ^ l.length * b.toNat) := by rw [Nat.mul_comm (2 ^ l.length) 2, Nat.mul_assoc]
    omega
theorem bitsN_test : ∀ (l : List Bool) (i : Nat), (bitsN l).testBit i = (l[i]?).getD false
  | [], i => by simp [bitsN]
  | a :: l, 0 => by
    rw [bitsN, Nat.testBit_zero]
    cases a <;> simp [Nat.add_mod]
  | a :: l, i + 1 => by
    rw [bitsN, Nat.testBit_succ]
    have : (a.toNat + 2 * bitsN l) / 2 = bitsN l := by cases a <;> simp <;> omega
    rw [this, bitsN_test l i]
    simp
theorem and_ne {a b : Nat} : a &&& b ≠ 0 ↔ ∃ i, a.testBit i = true ∧ b.testBit i = true := by
  constructor
  · intro h
    obtain ⟨i, hi⟩ := Nat.exists_testBit_of_ne_zero h
    rw [Nat.testBit_and, Bool.and_eq_true] at hi
    exact ⟨i, hi⟩
  · rintro ⟨i, h1, h2⟩ h
    have : (a &&& b).testBit i = true := by rw [Nat.testBit_and, h1, h2]; rfl
    rw [h, Nat.zero_testBit] at this
    cases this
theorem bitAnd_nat (a b : Nat) : Builtin.bitAnd (a : Int) (b : Int) = ((a &&& b : Nat) : Int) := by
  rw [bitAnd_pp (by omega) (by omega)]
  simp
theorem w_band {a b : Nat} {P : D → Prop} : W1 (bandD (.int (a : Int)) (.int (b : Int))) P ↔ P (.int ((a &&& b : Nat) : Int)) := by
  unfold W1 bandD onI
  simp only [if_true, Option.some.injEq, exists_eq_left', bitAnd_nat]
theorem mulI_two (i : Int) : mulI (.int i) (.int 2) = some (.int (i * 2)) := by
  unfold mulI onI
  have : mulOk i 2 = true := by unfold mulOk; rw [Bool.or_eq_true]; right; decide
  simp only [this, if_true]
theorem onI_add (i j : Int) : onI (fun _ _ => true) (fun i j => .int (i + j)) (.int i) (.int j) = some (.int (i + j)) := rfl
def hw (w : Wh) (x : Int) (row : Row) : Bool := (row.filter fun t => decide (t.w.str = w.str)).all fun t => holdsN t x
def rows (f : Forms) : List Row := f.flatMap (·.2)
theorem rows_snoc (fd : Forms) (p : Str × Rule) : rows (fd ++ [p]) = rows fd ++ p.2 := by simp [rows]
def key (f : Forms) (w : Wh) (x : Int) : Nat := bitsN ((rows f).map (hw w x))
theorem row_bits_eq {L : Int} {f : Forms} (h : WF L f) (w : Wh) (x : Int) : f_row_bits [dForms f, .str w.str, .int x] = some (.int (key f w x)) := by
  have sb := sizeBig
  have : W1 (f_row_bits [dForms f, .str w.str, .int x]) fun z => z = .int (key f w x) := by
    refine w1_fnP ?_
    unfold m_row_bits dForms
    walk_at "wp"
    refine ws_forI (fun left ρ δ => ∃ (fd fl : Forms) (s5 s6 s7 s8 : Sl), fd ++ fl = f ∧ left = fl.map dForm ∧ (∀ ds, s8 ≠ .own ds) ∧ ρ = [.val (.tuple (f.map dForm)), .val (.str w.str), .val (.int x), .val (.int (bitsN ((rows fd).map (hw w x)))), .val (.int ((2 ^ (rows fd).length : Nat) : Int)), s5, s6, s7, s8]) (fun d left ρ δ hI => ?_) (fun ρ δ hI => ?_) _ _ _ ⟨[], f, _, _, _, .no, rfl, rfl, (fun ds z => nomatch z), rfl⟩
    · obtain ⟨fd, fl, s5, s6, s7, s8, e1, e2, hu, rfl⟩ := hI
      match fl, e2 with
      | p :: fl, e2 =>
        rw [List.map_cons, List.cons.injEq] at e2
        obtain ⟨rfl, rfl⟩ := e2
        have hp : p ∈ f := by rw [← e1]; simp
        rw [show dForm p = .tuple [.str p.1, .tuple (p.2.map dRow)] from rfl]
        walk_at "wp"
        refine ws_forI (fun left ρ δ => ∃ (rd rl : Rule) (s7 s8 : Sl), rd ++ rl = p.2 ∧ left = rl.map dRow ∧ (∀ ds, s8 ≠ .own ds) ∧ ρ = [.val (.tuple (f.map dForm)), .val (.str w.str), .val (.int x), .val (.int (bitsN ((rows fd ++ rd).map (hw w x)))), .val (.int ((2 ^ (rows fd ++ rd).length : Nat) : Int)), .val (.str p.1), .val (.tuple (p.2.map dRow)), s7, s8]) (fun d left ρ δ hI => ?_) (fun ρ δ hI => ?_) _ _ _ ⟨[], p.2, s7, s8, rfl, rfl, hu, by rw [List.append_nil]⟩
        · obtain ⟨rd, rl, s7, s8, e3, e4, hu, rfl⟩ := hI
          match rl, e4 with
          | r :: rl, e4 =>
            rw [List.map_cons, List.cons.injEq] at e4
            obtain ⟨rfl, rfl⟩ := e4
            have hr : r ∈ p.2 := by rw [← e3]; simp
            have hrl := h.row p hp r hr
            rw [show dRow r = .tuple (r.map dT) from rfl]
            walk_at "wp"
            refine ⟨by cases s8 with | own ds => exact absurd rfl (hu ds) | _ => rfl, ?_⟩
            refine wc_filter dT (fun t => decide (t.w.str = w.str)) (fun t => .bool (holdsN t x)) r (fun t ht => ?_) ?_
            · walk_at "wp"
              have e5 : subD' (dT t) (.int 0) = some (.str t.w.str) := rfl
              refine .of e5 (.of (eqD_str (w_ok _) (w_ok _)) ⟨_, rfl, rfl, fun _ => .of (holds_of_eq (h.to (mem_tests.mpr ⟨p, hp, r, hr, ht⟩)).b0 x) rfl⟩)
            · refine ⟨by rw [List.length_map]; have := List.length_filter_le (fun t : Tt => decide (t.w.str = w.str)) r; omega, ?_⟩
              have e6 : allD [.list ((r.filter fun t => decide (t.w.str = w.str)).map fun t => .bool (holdsN t x))] = some (.bool (hw w x r)) := by
                show (boolsD ((r.filter fun t => decide (t.w.str = w.str)).map fun t => PyData.bool (holdsN t x))).map _ = _
                rw [show ((r.filter fun t => decide (t.w.str = w.str)).map fun t => PyData.bool (holdsN t x)) = ((r.filter fun t => decide (t.w.str = w.str)).map fun t => holdsN t x).map .bool by rw [List.map_map]; rfl, boolsD_map]
                unfold hw
                simp
              refine .of e6 ⟨_, rfl, ?_⟩
              have e7 : ∀ b : Bool, hw w x r = b → ((bitsN ((rows fd ++ rd).map (hw w x)) : Nat) : Int) + (if b = true then ((2 ^ (rows fd ++ rd).length : Nat) : Int) else 0) = ((bitsN ((rows fd ++ (rd ++ [r])).map (hw w x)) : Nat) : Int) := fun b hb => by
                rw [← List.append_assoc, List.map_append (l₁ := rows fd ++ rd), List.map_cons, List.map_nil, bitsN_snoc, List.length_map, hb]
                cases b <;> simp
              have e8 : ((2 ^ (rows fd ++ rd).length : Nat) : Int) * 2 = ((2 ^ (rows fd ++ (rd ++ [r])).length : Nat) : Int) := by
                rw [← List.append_assoc, List.length_append (as := rows fd ++ rd), List.length_cons, List.length_nil, Nat.pow_succ, Int.natCast_mul]; rfl
              have hm : ∀ i : Int, mulI (.int i) (.int 2) = some (.int (i * 2)) := fun i => mulI_two i
              cases hb : hw w x r with
              | true =>
                simp only [if_true]
                refine .of (onI_add _ _) ?_
                refine .of (hm _) ⟨rd ++ [r], rl, .val (.tuple (r.map dT)), s8, by rw [← e3]; simp, rfl, hu, ?_⟩
                rw [e8, ← e7 true hb, if_pos rfl]
              | false =>
                simp only [Bool.false_eq_true, if_false]
                refine .of (hm _) ⟨rd ++ [r], rl, .val (.tuple (r.map dT)), s8, by rw [← e3]; simp, rfl, hu, ?_⟩
                rw [e8, ← e7 false hb, if_neg Bool.false_ne_true, Int.add_zero]
        · obtain ⟨rd, rl, s7, s8, e3, e4, hu, rfl⟩ := hI
          have : rl = [] := by simpa using e4
          subst this
          rw [List.append_nil] at e3
          subst e3
          refine ⟨fd ++ [p], fl, .val (.str p.1), .val (.tuple (p.2.map dRow)), s7, s8, by rw [← e1]; simp, rfl, hu, ?_⟩
          rw [rows_snoc]
    · obtain ⟨fd, fl, s5, s6, s7, s8, e1, e2, hu, rfl⟩ := hI
      have : fl = [] := by simpa using e2
      subst this
      rw [List.append_nil] at e1
      subst e1
      walk_at "wp"
      rfl
  obtain ⟨z, e, rfl⟩ := this
  exact e
end K04
namespace K04
open PySem PySem.Spec PyProof.Rows L2 TL PD
local macro_rules | `(tactic| walk_at "wp") => `(tactic| simp only [ws_seq, ws_asg, ws_ret, ws_if, ws_next, ws_uni, ws_app, ws_frz, ws_aug, ws_for, onNx_nx, onNx_rt, onNx_bk, onNx_ct, onRt_rt, onRt_nx, we_var, we_c, we_bin, we_un, we_call, we_callK, wa_nil, wa_cons, we_tup, we_lst, wo_no, wo_some, we_sl, wt_b, wt_tru, wt_and, wt_or, wt_not, we_if, we_and, we_or, we_chain, we_get2, wp_nil, wp_cons, we_disp, wa_items, we_lc, wg_set, wg_tup, wgs_nil, wgs_cons, List.getElem?_cons_zero, List.getElem?_cons_succ, Option.some.injEq, Sl.val.injEq, Sl.uni.injEq, exists_eq_left', exists_eq_left, List.set_cons_zero, List.set_cons_succ, true_and, and_true, List.length_cons, List.length_nil, List.map_cons, List.map_nil, PyData.int.injEq, PyData.bool.injEq, PyData.tuple.injEq, PyData.list.injEq, PyData.str.injEq, w_add, w_sub, w_lt, w_le, w_gt, w_ge, w_eqI, w_neI, w_intB, itemsD, truD, slots, wipeR, List.cons_append, List.nil_append, Nat.reduceAdd, Nat.reduceSub, List.replicate_succ, List.replicate_zero, ↓reduceIte, Bool.false_eq_true, Bool.not_true, Bool.not_false, decide_true, decide_false, if_true, if_false])
def own (s n : Nat) : Nat := bitsN (List.replicate s false ++ List.replicate n true)
theorem own_succ (s n : Nat) : own s (n + 1) = own s n + 2 ^ (s + n) := by
  unfold own
  rw [List.replicate_succ', ← List.append_assoc, bitsN_snoc]
  simp
theorem own_zero (s : Nat) : own s 0 = 0 := by
  unfold own
  rw [List.replicate_zero, List.append_nil]
  induction s with
  | zero => rfl
  | succ s ih => rw [List.replicate_succ, bitsN, ih]; rfl
theorem own_test (s n i : Nat) : (own s n).testBit i = decide (s ≤ i ∧ i < s + n) := by
  unfold own
  rw [bitsN_test, List.getElem?_append]
  simp only [List.length_replicate]
  by_cases h1 : i < s
  · rw [if_pos h1, List.getElem?_replicate, if_pos h1, decide_eq_false (by omega)]; rfl
  · rw [if_neg h1, List.getElem?_replicate]
    by_cases h2 : i - s < n
    · rw [if_pos h2, decide_eq_true (by omega)]; rfl
    · rw [if_neg h2, decide_eq_false (by omega)]; rfl
def prs : Nat → Forms → List (Str × Nat)
  | _, [] => []
  | s, p :: r => (p.1, own s p.2.length) :: prs (s + p.2.length) r
def dPr (p : Str × Nat) : D := .tuple [.str p.1, .int p.2]
theorem prs_snoc : ∀ (fd : Forms) (s : Nat) (p : Str × Rule), prs s (fd ++ [p]) = prs s fd ++ [(p.1, own (s + (rows fd).length) p.2.length)]
  | [], s, p => by simp [prs, rows]
  | q :: fd, s, p => by
    rw [List.cons_append, prs, prs, prs_snoc fd, List.cons_append]
    have : (rows (q :: fd)).length = q.2.length + (rows fd).length := by simp [rows]
    rw [this, Nat.add_assoc]
theorem prs_len : ∀ (f : Forms) (s : Nat), (prs s f).length = f.length
  | [], s => rfl
  | p :: f, s => by rw [prs, List.length_cons, prs_len f, List.length_cons]
theorem form_bits_eq {L : Int} {f : Forms} (h : WF L f) : f_form_bits [dForms f] = some (.list ((prs 0 f).map dPr)) := by
  have sb := sizeBig
  have l6 := h.l6
  have : W1 (f_form_bits [dForms f]) fun z => z = .list ((prs 0 f).map dPr) := by
    refine w1_fnP ?_
    unfold m_form_bits dForms
    walk_at "wp"
    refine ⟨⟨Nat.zero_le _, by decide⟩, ?_⟩
    refine ws_forI (fun left ρ δ => ∃ (fd fl : Forms) (s3 s4 s5 s6 : Sl), fd ++ fl = f ∧ left = fl.map dForm ∧ ρ = [.val (.tuple (f.map dForm)), .uni ((prs 0 fd).map dPr), .val (.int ((2 ^ (rows fd).length : Nat) : Int)), s3, s4, s5, s6]) (fun d left ρ δ hI => ?_) (fun ρ δ hI => ?_) _ _ _ ⟨[], f, _, _, _, _, rfl, rfl, rfl⟩
    · obtain ⟨fd, fl, s3, s4, s5, s6, e1, e2, rfl⟩ := hI
      match fl, e2 with
      | p :: fl, e2 =>
        rw [List.map_cons, List.cons.injEq] at e2
        obtain ⟨rfl, rfl⟩ := e2
        have hfl : fd.length < 6 := by
          have := congrArg List.length e1
          simp at this
          omega
        rw [show dForm p = .tuple [.str p.1, .tuple (p.2.map dRow)] from rfl]
        walk_at "wp"
        refine ws_forI (fun left ρ δ => ∃ (rd rl : Rule) (s6 : Sl), rd ++ rl = p.2 ∧ left = rl.map dRow ∧ ρ = [.val (.tuple (f.map dForm)), .uni ((prs 0 fd).map dPr), .val (.int ((2 ^ ((rows fd).length + rd.length) : Nat) : Int)), .val (.str p.1), .val (.tuple (p.2.map dRow)), .val (.int (own (rows fd).length rd.length)), s6]) (fun d left ρ δ hI => ?_) (fun ρ δ hI => ?_) _ _ _ ⟨[], p.2, s6, rfl, rfl, by rw [List.length_nil, own_zero]; rfl⟩
        · obtain ⟨rd, rl, s6, e3, e4, rfl⟩ := hI
          match rl, e4 with
          | r :: rl, e4 =>
            rw [List.map_cons, List.cons.injEq] at e4
            obtain ⟨rfl, rfl⟩ := e4
            walk_at "wp"
            refine .of (onI_add _ _) (.of (mulI_two _) ⟨rd ++ [r], rl, .val (dRow r), by rw [← e3]; simp, rfl, ?_⟩)
            rw [List.length_append, List.length_cons, List.length_nil, Nat.zero_add, own_succ, ← Nat.add_assoc, Nat.pow_succ, Int.natCast_mul, Int.natCast_add]
            rfl
        · obtain ⟨rd, rl, s6, e3, e4, rfl⟩ := hI
          have : rl = [] := by simpa using e4
          subst this
          rw [List.append_nil] at e3
          subst e3
          walk_at "wp"
          have hl : ((prs 0 fd).map dPr).length = fd.length := by rw [List.length_map, prs_len]
          refine ⟨by omega, by rw [hl]; omega, fd ++ [p], fl, .val (.str p.1), .val (.tuple (p.2.map dRow)), .val (.int (own (rows fd).length p.2.length)), s6, by rw [← e1]; simp, rfl, ?_⟩
          rw [rows_snoc, prs_snoc, List.map_append, List.length_append, Nat.zero_add]
          rfl
    · obtain ⟨fd, fl, s3, s4, s5, s6, e1, e2, rfl⟩ := hI
      have : fl = [] := by simpa using e2
      subst this
      rw [List.append_nil] at e1
      subst e1
      walk_at "wp"
  obtain ⟨z, e, rfl⟩ := this
  exact e
theorem own_and {s n B : Nat} : own s n &&& B ≠ 0 ↔ ∃ i, s ≤ i ∧ i < s + n ∧ B.testBit i = true := by
  rw [and_ne]
  constructor
  · rintro ⟨i, h1, h2⟩
    rw [own_test] at h1
    have := of_decide_eq_true h1
    exact ⟨i, this.1, this.2, h2⟩
  · rintro ⟨i, h1, h2, h3⟩
    exact ⟨i, by rw [own_test]; exact decide_eq_true ⟨h1, h2⟩, h3⟩
theorem prs_filter (g : Row → Bool) (B : Nat) : ∀ (f : Forms) (s : Nat), (∀ j, B.testBit (s + j) = (((rows f).map g)[j]?).getD false) →
    ((prs s f).filter fun p => !decide ((((p.2 &&& B : Nat) : Int)) = 0)).map (·.1) = (f.filter fun p => p.2.any g).map (·.1)
  | [], s, _ => rfl
  | p :: f, s, h => by
    have hr : rows (p :: f) = p.2 ++ rows f := by simp [rows]
    rw [hr, List.map_append] at h
    have ih := prs_filter g B f (s + p.2.length) fun j => by
      rw [Nat.add_assoc, h (p.2.length + j), List.getElem?_append_right (by simp), List.length_map, Nat.add_sub_cancel_left]
    have hc : (!decide ((((own s p.2.length &&& B : Nat) : Int)) = 0)) = p.2.any g := by
      rw [Bool.eq_iff_iff, Bool.not_eq_true', decide_eq_false_iff_not, List.any_eq_true]
      rw [show ¬ (((own s p.2.length &&& B : Nat) : Int)) = 0 ↔ own s p.2.length &&& B ≠ 0 by omega, own_and]
      constructor
      · rintro ⟨i, h1, h2, h3⟩
        obtain ⟨j, rfl⟩ : ∃ j, i = s + j := ⟨i - s, by omega⟩
        have hj : j < p.2.length := by omega
        rw [h j, List.getElem?_append_left (by simpa using hj), List.getElem?_map, List.getElem?_eq_getElem hj] at h3
        exact ⟨p.2[j], List.getElem_mem hj, by simpa using h3⟩
      · rintro ⟨r, hr, hg⟩
        obtain ⟨j, hj, rfl⟩ := List.getElem_of_mem hr
        refine ⟨s + j, by omega, by omega, ?_⟩
        rw [h j, List.getElem?_append_left (by simpa using hj), List.getElem?_map, List.getElem?_eq_getElem hj]
        simpa using hg
    rw [prs, List.filter_cons, List.filter_cons]
    dsimp only
    rw [hc]
    by_cases hp : p.2.any g = true
    · rw [if_pos hp, if_pos hp, List.map_cons, List.map_cons, ih]
    · rw [if_neg hp, if_neg hp, ih]
theorem words_with_eq {L : Int} {f : Forms} (h : WF L f) (g : Row → Bool) {B : Nat} (hB : ∀ j, B.testBit j = (((rows f).map g)[j]?).getD false) :
    f_words_with [.list ((prs 0 f).map dPr), .int B] = some (.list (((f.filter fun p => p.2.any g).map (·.1)).map .str)) := by
  have sb := sizeBig
  have l6 := h.l6
  have : W1 (f_words_with [.list ((prs 0 f).map dPr), .int B]) fun z => z = .list (((f.filter fun p => p.2.any g).map (·.1)).map .str) := by
    refine w1_fnP ?_
    unfold m_words_with
    walk_at "wp"
    refine ⟨rfl, wc_filter dPr (fun p => !decide ((((p.2 &&& B : Nat) : Int)) = 0)) (fun p => .str p.1) (prs 0 f) (fun p hp => ?_) ?_⟩
    · rw [show dPr p = .tuple [.str p.1, .int p.2] from rfl]
      walk_at "wp"
      rw [w_band]
      walk_at "wp"
      exact fun _ => trivial
    · have hl := List.length_filter_le (fun p : Str × Nat => !decide ((((p.2 &&& B : Nat) : Int)) = 0)) (prs 0 f)
      rw [prs_len] at hl
      refine ⟨by rw [List.length_map]; omega, ?_⟩
      have := prs_filter g B f 0 (fun j => by rw [Nat.zero_add]; exact hB j)
      rw [← this, List.map_map]
      rfl
  obtain ⟨z, e, rfl⟩ := this
  exact e
theorem wh_ne : (decide (Wh.whole.str = Wh.rest.str) = false ∧ decide (Wh.whole.str = Wh.places.str) = false ∧ decide (Wh.rest.str = Wh.whole.str) = false) ∧ decide (Wh.rest.str = Wh.places.str) = false ∧ decide (Wh.places.str = Wh.whole.str) = false ∧ decide (Wh.places.str = Wh.rest.str) = false := by decide +kernel
theorem row_split (n d : Int) : ∀ row : Row, (row.all fun t => holds t n d) = (hw .whole (num n d .whole) row && hw .rest (num n d .rest) row && hw .places (num n d .places) row)
  | [] => rfl
  | t :: row => by
    have ih := row_split n d row
    obtain ⟨⟨n1, n2, n3⟩, n4, n5, n6⟩ := wh_ne
    unfold hw at ih ⊢
    rw [List.all_cons, ih]
    unfold holds
    rcases t with ⟨w, b, lo, hi, y⟩
    cases w <;> simp only [List.filter_cons, n1, n2, n3, n4, n5, n6, decide_true, if_true, Bool.false_eq_true, if_false, List.all_cons] <;> simp only [Bool.and_assoc, Bool.and_left_comm]
end K04
namespace K04
open PySem PySem.Spec PyProof.Rows L2 TL PD
local macro_rules | `(tactic| walk_at "wp") => `(tactic| simp only [ws_seq, ws_asg, ws_ret, ws_if, ws_next, ws_uni, ws_app, ws_frz, ws_aug, ws_for, onNx_nx, onNx_rt, onNx_bk, onNx_ct, onRt_rt, onRt_nx, we_var, we_c, we_bin, we_un, we_call, we_callK, wa_nil, wa_cons, we_tup, we_lst, wo_no, wo_some, we_sl, wt_b, wt_tru, wt_and, wt_or, wt_not, we_if, we_and, we_or, we_chain, we_get2, wp_nil, wp_cons, we_disp, wa_items, we_lc, wg_set, wg_tup, wgs_nil, wgs_cons, List.getElem?_cons_zero, List.getElem?_cons_succ, Option.some.injEq, Sl.val.injEq, Sl.uni.injEq, exists_eq_left', exists_eq_left, List.set_cons_zero, List.set_cons_succ, true_and, and_true, List.length_cons, List.length_nil, List.map_cons, List.map_nil, PyData.int.injEq, PyData.bool.injEq, PyData.tuple.injEq, PyData.list.injEq, PyData.str.injEq, w_add, w_sub, w_lt, w_le, w_gt, w_ge, w_eqI, w_neI, w_intB, itemsD, truD, slots, wipeR, List.cons_append, List.nil_append, Nat.reduceAdd, Nat.reduceSub, List.replicate_succ, List.replicate_zero, ↓reduceIte, Bool.false_eq_true, Bool.not_true, Bool.not_false, decide_true, decide_false, if_true, if_false])
def stp (K : Int → Nat) (es : List (Nat × Int)) (x : Int) : List (Nat × Int) := if es.any (fun e => decide (e.1 = K x)) then es else es ++ [(K x, x)]
def uq (K : Int → Nat) (ns : List Int) : List (Nat × Int) := ns.foldl (stp K) []
structure UqOk (K : Int → Nat) (done : List Int) (es : List (Nat × Int)) : Prop where
  mem : ∀ e ∈ es, e.2 ∈ done ∧ e.1 = K e.2
  all : ∀ y ∈ done, ∃ e ∈ es, e.1 = K y ∧ e.2 ≤ y
  up : (es.map (·.2)).Pairwise (· < ·)
  len : es.length ≤ done.length
theorem UqOk.step {K : Int → Nat} {done : List Int} {es : List (Nat × Int)} {x : Int} (h : UqOk K done es) (hx : ∀ y ∈ done, y < x) : UqOk K (done ++ [x]) (stp K es x) := by
  unfold stp
  by_cases hc : es.any (fun e => decide (e.1 = K x)) = true
  · rw [if_pos hc]
    refine ⟨fun e he => ⟨List.mem_append_left _ (h.mem e he).1, (h.mem e he).2⟩, fun y hy => ?_, h.up, ?_⟩
    · rcases List.mem_append.mp hy with hy | hy
      · exact h.all y hy
      · simp at hy; subst hy
        obtain ⟨e, he, hk⟩ := List.any_eq_true.mp hc
        exact ⟨e, he, of_decide_eq_true hk, Int.le_of_lt (hx _ (h.mem e he).1)⟩
    · have := h.len; simp; omega
  · rw [if_neg hc]
    refine ⟨fun e he => ?_, fun y hy => ?_, ?_, ?_⟩
    · rcases List.mem_append.mp he with he | he
      · exact ⟨List.mem_append_left _ (h.mem e he).1, (h.mem e he).2⟩
      · simp at he; subst he; exact ⟨by simp, rfl⟩
    · rcases List.mem_append.mp hy with hy | hy
      · obtain ⟨e, he, p⟩ := h.all y hy
        exact ⟨e, List.mem_append_left _ he, p⟩
      · simp at hy; subst hy
        exact ⟨(K y, y), by simp, rfl, Int.le_refl _⟩
    · rw [List.map_append, List.pairwise_append]
      refine ⟨h.up, by simp, fun a ha b hb => ?_⟩
      simp at hb; subst hb
      obtain ⟨e, he, rfl⟩ := List.mem_map.mp ha
      exact hx _ (h.mem e he).1
    · have := h.len; simp; omega
theorem uq_go {K : Int → Nat} : ∀ (left done : List Int) (es : List (Nat × Int)), UqOk K done es → (done ++ left).Pairwise (· < ·) → UqOk K (done ++ left) (left.foldl (stp K) es)
  | [], done, es, h, _ => by rw [List.append_nil]; exact h
  | x :: left, done, es, h, hp => by
    have hx : ∀ y ∈ done, y < x := fun y hy => (List.pairwise_append.mp hp).2.2 y hy x (.head _)
    have := uq_go left (done ++ [x]) (stp K es x) (h.step hx) (by rw [List.append_assoc]; exact hp)
    rw [List.append_assoc] at this
    exact this
theorem uq_ok {K : Int → Nat} {ns : List Int} (hp : ns.Pairwise (· < ·)) : UqOk K ns (uq K ns) := uq_go ns [] [] ⟨fun e he => by simp at he, fun y hy => by simp at hy, by simp, by simp⟩ hp
def dW (e : Nat × Int) : D := .tuple [.int e.2, .int e.1]
def enc (es : List (Nat × Int)) : List (Key × D) := es.map fun e => (Sum.inl (e.1 : Int), .int e.2)
theorem hasK_enc (es : List (Nat × Int)) (k : Nat) : hasK (enc es) (Sum.inl (k : Int)) = es.any fun e => decide (e.1 = k) := by
  unfold hasK enc
  rw [List.any_map]
  congr 1
  funext e
  show decide ((Sum.inl (e.1 : Int) : Key) = Sum.inl (k : Int)) = _
  exact decide_eq_decide.mpr ⟨fun h => by have := Sum.inl.inj h; omega, fun h => by rw [h]⟩
theorem dict_go {L : Int} {f : Forms} (h : WF L f) (w : Wh) (Fv : D) (hF : Fv = dForms f) (NS : Sl) (δ : Dk) : ∀ (ns : List Int) (es : List (Nat × Int)) (s4 : Sl), (∀ ds, s4 ≠ .own ds) → es.length + ns.length ≤ 100000 →
    ∃ s4', (∀ ds, s4' ≠ .own ds) ∧ dictL (gSet 4) (mCall f_row_bits (mCons (mVar 0) (mCons (mVar 1) (mCons (mVar 4) mNil)))) (mVar 4) (ns.map .int) [.val Fv, .val (.str w.str), NS, .no, s4, .no] δ (enc es) = some ([.val Fv, .val (.str w.str), NS, .no, s4', .no], δ, enc (ns.foldl (stp (key f w)) es))
  | [], es, s4, hu, _ => ⟨s4, hu, rfl⟩
  | x :: ns, es, s4, hu, hl => by
    have sb := sizeBig
    subst hF
    rw [List.length_cons] at hl
    have hel : (enc es).length = es.length := by simp [enc]
    have hstep : (if hasK (enc es) (Sum.inl ((key f w x : Nat) : Int)) = true then enc es else enc es ++ [(Sum.inl ((key f w x : Nat) : Int), PyData.int x)]) = enc (stp (key f w) es x) := by
      rw [hasK_enc]
      unfold stp
      split
      · rfl
      · simp [enc]
    have hsl : (stp (key f w) es x).length ≤ es.length + 1 := by
      unfold stp; split <;> simp
    obtain ⟨s4', hu', e⟩ := dict_go h w (dForms f) rfl NS δ ns (stp (key f w) es x) (.val (.int x)) (fun ds z => nomatch z) (by omega)
    refine ⟨s4', hu', ?_⟩
    rw [List.map_cons, dictL]
    have e1 : mCall f_row_bits (mCons (mVar 0) (mCons (mVar 1) (mCons (mVar 4) mNil))) [.val (dForms f), .val (.str w.str), NS, .no, .val (.int x), .no] δ = some (.int (key f w x), δ) := call_eq (cons_eq rfl (cons_eq rfl (cons_eq rfl rfl))) (row_bits_eq h w x)
    show ((mCall f_row_bits (mCons (mVar 0) (mCons (mVar 1) (mCons (mVar 4) mNil))) [.val (dForms f), .val (.str w.str), NS, .no, .val (.int x), .no] δ).bind _) = _
    rw [e1]
    show (if (enc es).length < sizeLine then dictL (gSet 4) _ _ (ns.map .int) [.val (dForms f), .val (.str w.str), NS, .no, .val (.int x), .no] δ (if hasK (enc es) (Sum.inl ((key f w x : Nat) : Int)) = true then enc es else enc es ++ [(Sum.inl ((key f w x : Nat) : Int), PyData.int x)]) else none) = _
    rw [if_pos (by rw [hel]; omega), hstep]
    exact e
theorem unlike_eq {L : Int} {f : Forms} (h : WF L f) (w : Wh) {ns : List Int} (hp : ns.Pairwise (· < ·)) (hl : ns.length ≤ 1000) : f_unlike [dForms f, .str w.str, .list (ns.map .int)] = some (.list ((uq (key f w) ns).map dW)) := by
  have sb := sizeBig
  have hU := uq_ok (K := key f w) hp
  obtain ⟨s4, hu4, e⟩ := dict_go h w (dForms f) rfl (.val (.list (ns.map .int))) ⟨[], 0, [], none⟩ ns [] .no (fun ds z => nomatch z) (by simp; omega)
  have e1 : sDict 3 (mItems (mVar 2)) (gSet 4) (mCall f_row_bits (mCons (mVar 0) (mCons (mVar 1) (mCons (mVar 4) mNil)))) (mVar 4) [.val (dForms f), .val (.str w.str), .val (.list (ns.map .int)), .no, .no, .no] ⟨[], 0, [], none⟩ = some (.nx, [.val (dForms f), .val (.str w.str), .val (.list (ns.map .int)), .val (.dict ((uq (key f w) ns).map fun e => (.int (e.1 : Int), .int e.2))), s4, .no], ⟨[], 0, [], none⟩) := by
    unfold sDict
    rw [if_pos (by simp)]
    show ((dictL _ _ _ (ns.map .int) [.val (dForms f), .val (.str w.str), .val (.list (ns.map .int)), .no, .no, .no] ⟨[], 0, [], none⟩ (enc [])).map _) = _
    rw [e]
    show some _ = some _
    unfold enc uq
    dsimp only
    rw [List.map_map]
    rfl
  have hnu : noU [.val (dForms f), .val (.str w.str), .val (.list (ns.map .int)), .val (.dict ((uq (key f w) ns).map fun e => (.int (e.1 : Int), .int e.2))), s4, .no] [5, 4] = true := by
    cases s4 with
    | own ds => exact absurd rfl (hu4 ds)
    | _ => rfl
  have e2 : mLcItems 3 [5, 4] (gTupM 2 (gsCons (gSet 5) (gsCons (gSet 4) gsNil))) mYes (mTup (mCons (mVar 4) (mCons (mVar 5) mNil))) [.val (dForms f), .val (.str w.str), .val (.list (ns.map .int)), .val (.dict ((uq (key f w) ns).map fun e => (.int (e.1 : Int), .int e.2))), s4, .no] ⟨[], 0, [], none⟩ = some (.list ((uq (key f w) ns).map dW), ⟨[], 0, [], none⟩) := by
    unfold mLcItems
    simp only [List.getElem?_cons_zero, List.getElem?_cons_succ, hnu, if_true]
    have hc : (((uq (key f w) ns).map fun e : Nat × Int => (PyData.int (e.1 : Int), PyData.int e.2)).map fun e : D × D => PyData.tuple [e.1, e.2]) = (uq (key f w) ns).map fun e : Nat × Int => PyData.tuple [.int (e.1 : Int), .int e.2] := by rw [List.map_map]; rfl
    rw [hc, compL_map (fun e : Nat × Int => PyData.tuple [.int (e.1 : Int), .int e.2]) dW (uq (key f w) ns) fun e he => ⟨_, rfl, tup_eq rfl (show 2 ≤ sizeLine by omega)⟩]
    simp only [Option.bind_some]
    rw [if_pos (by rw [List.length_map]; have := hU.len; omega)]
  exact fnP_eq ⟨rfl, by decide⟩ ((seq_nx e1).trans (ret_eq e2))
end K04
namespace K04
open PySem PySem.Spec PyProof.Rows L2 TL PD
local macro_rules | `(tactic| walk_at "wp") => `(tactic| simp only [ws_seq, ws_asg, ws_ret, ws_if, ws_next, ws_uni, ws_app, ws_frz, ws_aug, ws_for, onNx_nx, onNx_rt, onNx_bk, onNx_ct, onRt_rt, onRt_nx, we_var, we_c, we_bin, we_un, we_call, we_callK, wa_nil, wa_cons, we_tup, we_lst, wo_no, wo_some, we_sl, wt_b, wt_tru, wt_and, wt_or, wt_not, we_if, we_and, we_or, we_chain, we_get2, wp_nil, wp_cons, we_disp, wa_items, we_lc, wg_set, wg_tup, wgs_nil, wgs_cons, List.getElem?_cons_zero, List.getElem?_cons_succ, Option.some.injEq, Sl.val.injEq, Sl.uni.injEq, exists_eq_left', exists_eq_left, List.set_cons_zero, List.set_cons_succ, true_and, and_true, List.length_cons, List.length_nil, List.map_cons, List.map_nil, PyData.int.injEq, PyData.bool.injEq, PyData.tuple.injEq, PyData.list.injEq, PyData.str.injEq, w_add, w_sub, w_lt, w_le, w_gt, w_ge, w_eqI, w_neI, w_intB, itemsD, truD, slots, wipeR, List.cons_append, List.nil_append, Nat.reduceAdd, Nat.reduceSub, List.replicate_succ, List.replicate_zero, ↓reduceIte, Bool.false_eq_true, Bool.not_true, Bool.not_false, decide_true, decide_false, if_true, if_false])
theorem holdsN_again {t : Tt} {far R : Nat} (hb : t.by_ = 0 ∨ t.by_ ∣ (R : Int)) (hf : t.hi < (far : Int)) {x : Int} (hx : (far : Int) ≤ x) : holdsN t (x + R) = holdsN t x := by
  unfold holdsN
  by_cases h0 : t.by_ = 0
  · simp only [h0, if_true]
    have h1 : decide (x ≤ t.hi) = false := decide_eq_false (by omega)
    have h2 : decide (x + R ≤ t.hi) = false := decide_eq_false (by omega)
    rw [h1, h2, Bool.and_false, Bool.and_false]
  · have hd := hb.resolve_left h0
    simp only [h0, if_false]
    obtain ⟨c, hc⟩ := hd
    rw [hc, Int.add_mul_emod_self_left]
theorem hw_again {f : Forms} {w : Wh} {far R : Nat} (hb : ∀ t ∈ tests f, t.by_ = 0 ∨ t.by_ ∣ (R : Int)) (hf : ∀ t ∈ tests f, t.hi < (far : Int)) {x : Int} (hx : (far : Int) ≤ x) {row : Row} (hr : row ∈ rows f) : hw w (x + R) row = hw w x row := by
  unfold hw
  have : ∀ t ∈ row.filter (fun t => decide (t.w.str = w.str)), t ∈ tests f := fun t ht => by
    obtain ⟨p, hp, hr⟩ := List.mem_flatMap.mp hr
    exact mem_tests.mpr ⟨p, hp, row, hr, (List.mem_filter.mp ht).1⟩
  generalize row.filter (fun t => decide (t.w.str = w.str)) = l at this
  induction l with
  | nil => rfl
  | cons t l ih =>
    rw [List.all_cons, List.all_cons, ih fun u hu => this u (.tail _ hu), holdsN_again (hb t (this t (.head _))) (hf t (this t (.head _))) hx]
theorem key_again {f : Forms} {w : Wh} {far R : Nat} (hb : ∀ t ∈ tests f, t.by_ = 0 ∨ t.by_ ∣ (R : Int)) (hf : ∀ t ∈ tests f, t.hi < (far : Int)) {x : Int} (hx : (far : Int) ≤ x) : key f w (x + R) = key f w x := by
  unfold key
  congr 1
  exact List.map_congr_left fun row hr => hw_again hb hf hx hr
theorem key_near {f : Forms} {w : Wh} {far R : Nat} (hR : 1 ≤ R) (hb : ∀ t ∈ tests f, t.by_ = 0 ∨ t.by_ ∣ (R : Int)) (hf : ∀ t ∈ tests f, t.hi < (far : Int)) : ∀ (m : Nat), ∃ k : Nat, k < far + R ∧ k ≤ m ∧ key f w (k : Int) = key f w (m : Int) := by
  intro m
  induction m using Nat.strongRecOn with
  | ind m ih =>
    by_cases h : m < far + R
    · exact ⟨m, h, Nat.le_refl _, rfl⟩
    · obtain ⟨k, h1, h2, h3⟩ := ih (m - R) (by omega)
      refine ⟨k, h1, by omega, h3.trans ?_⟩
      have := key_again (w := w) hb hf (x := ((m - R : Nat) : Int)) (by omega)
      rw [show ((m - R : Nat) : Int) + (R : Int) = (m : Int) by omega] at this
      exact this.symm
def ten (d : Int) : Int := 10 ^ d.toNat
theorem ten_pos {d : Int} (h : d = 0 ∨ d = 1 ∨ d = 2) : 0 < ten d ∧ ten d ≤ 100 := by
  rcases h with rfl | rfl | rfl <;> decide
theorem num_of {d : Int} (h : d = 0 ∨ d = 1 ∨ d = 2) {x r : Int} (hr : 0 ≤ r) (hr2 : r < ten d) : num (x * ten d + r) d .whole = x ∧ num (x * ten d + r) d .rest = r ∧ num (x * ten d + r) d .places = d := by
  unfold num
  rcases h with rfl | rfl | rfl
  · have e : ten 0 = 1 := rfl
    rw [e] at hr2 ⊢
    have e2 : (10 : Int) ^ (0 : Int).toNat = 1 := rfl
    refine ⟨?_, ?_, rfl⟩ <;> (rw [e2]; dsimp only; omega)
  · have e : ten 1 = 10 := rfl
    rw [e] at hr2 ⊢
    have e2 : (10 : Int) ^ (1 : Int).toNat = 10 := rfl
    refine ⟨?_, ?_, rfl⟩ <;> (rw [e2]; dsimp only; omega)
  · have e : ten 2 = 100 := rfl
    rw [e] at hr2 ⊢
    have e2 : (10 : Int) ^ (2 : Int).toNat = 100 := rfl
    refine ⟨?_, ?_, rfl⟩ <;> (rw [e2]; dsimp only; omega)
theorem count_of {d : Int} (h : d = 0 ∨ d = 1 ∨ d = 2) {n : Int} (hn : 0 ≤ n) : n = n / ten d * ten d + n % ten d ∧ 0 ≤ n / ten d ∧ 0 ≤ n % ten d ∧ n % ten d < ten d := by
  rcases h with rfl | rfl | rfl
  · have e : ten 0 = 1 := rfl
    rw [e]; omega
  · have e : ten 1 = 10 := rfl
    rw [e]; omega
  · have e : ten 2 = 100 := rfl
    rw [e]; omega
theorem words_key {L : Int} {f : Forms} (h : WF L f) {d x r : Int} (hd : d = 0 ∨ d = 1 ∨ d = 2) (hr : 0 ≤ r) (hr2 : r < ten d) :
    f_words_with [.list ((prs 0 f).map dPr), .int (((key f .whole x &&& key f .rest r) &&& key f .places d : Nat) : Int)] = some (.list ((words f (x * ten d + r) d).map .str)) := by
  obtain ⟨n1, n2, n3⟩ := num_of hd (x := x) hr hr2
  refine (words_with_eq h (fun row => row.all fun t => holds t (x * ten d + r) d) fun j => ?_).trans ?_
  · unfold key
    rw [Nat.testBit_and, Nat.testBit_and, bitsN_test, bitsN_test, bitsN_test]
    simp only [List.getElem?_map]
    cases hj : (rows f)[j]? with
    | none => rfl
    | some row =>
      show ((hw .whole x row && hw .rest r row) && hw .places d row) = row.all fun t => holds t (x * ten d + r) d
      rw [row_split, n1, n2, n3]
  · rfl
theorem map_str_inj {a b : List Str} (h : a.map PyData.str = b.map PyData.str) : a = b := by
  induction a generalizing b with
  | nil => cases b with
    | nil => rfl
    | cons _ _ => cases h
  | cons x a ih => cases b with
    | nil => cases h
    | cons y b =>
      rw [List.map_cons, List.map_cons, List.cons.injEq] at h
      rw [ih h.2, PyData.str.inj h.1]
theorem words_same {L : Int} {f : Forms} (h : WF L f) {d x r x' r' : Int} (hd : d = 0 ∨ d = 1 ∨ d = 2) (hr : 0 ≤ r) (hr2 : r < ten d) (hs : 0 ≤ r') (hs2 : r' < ten d) (h1 : key f .whole x = key f .whole x') (h2 : key f .rest r = key f .rest r') :
    words f (x * ten d + r) d = words f (x' * ten d + r') d := by
  have a := words_key h (x := x) hd hr hr2
  have b := words_key h (x := x') hd hs hs2
  rw [h1, h2] at a
  rw [a] at b
  exact map_str_inj (PyData.list.inj (Option.some.inj b))
def cnt (f : Forms) (n d : Int) : Nat := (words f n d).length
def paper (f : Forms) (n d : Int) : D := .tuple [.str (if cnt f n d = 0 then "none" else "two"), .tuple [.int n, .int d]]
/-- what amiss tells: ws wholes, rs rests -/
def Amiss (f : Forms) (d : Int) (ws rs : List (Nat × Int)) (z : D) : Prop :=
  (z = .none ∧ ∀ w ∈ ws, ∀ r ∈ rs, cnt f (w.2 * ten d + r.2) d = 1) ∨
  ∃ w ∈ ws, ∃ r ∈ rs, z = paper f (w.2 * ten d + r.2) d ∧ cnt f (w.2 * ten d + r.2) d ≠ 1 ∧ (∀ w' ∈ ws, w'.2 < w.2 → ∀ r' ∈ rs, cnt f (w'.2 * ten d + r'.2) d = 1) ∧ ∀ r' ∈ rs, r'.2 < r.2 → cnt f (w.2 * ten d + r'.2) d = 1
theorem rng_up (n : Nat) : ((List.range n).map fun (i : Nat) => (i : Int)).Pairwise (· < ·) := by
  rw [List.pairwise_map]
  exact List.Pairwise.imp (fun h => by omega) List.pairwise_lt_range
theorem rngL_int (n : Nat) : rngL n = ((List.range n).map fun (i : Nat) => (i : Int)).map .int := by
  unfold rngL
  rw [List.map_map]
  rfl
def rests (f : Forms) (d : Int) : List (Nat × Int) := uq (key f .rest) ((List.range (ten d).toNat).map fun (i : Nat) => (i : Int))
theorem up_split {l done left : List (Nat × Int)} {e e' : Nat × Int} (hup : (l.map (·.2)).Pairwise (· < ·)) (hl : done ++ e :: left = l) (he : e' ∈ l) (hlt : e'.2 < e.2) : e' ∈ done := by
  rw [← hl] at he hup
  rcases List.mem_append.mp he with he | he
  · exact he
  · rw [List.map_append, List.pairwise_append] at hup
    have h2 := hup.2.1
    rw [List.map_cons, List.pairwise_cons] at h2
    rcases List.mem_cons.mp he with rfl | he
    · omega
    · have := h2.1 e'.2 (List.mem_map.mpr ⟨e', he, rfl⟩)
      omega
theorem amiss_ok {L : Int} {f : Forms} (h : WF L f) {d : Int} (hd : d = 0 ∨ d = 1 ∨ d = 2) {ws : List (Nat × Int)} (hw : ∀ e ∈ ws, e.1 = key f .whole e.2) (hup : (ws.map (·.2)).Pairwise (· < ·)) :
    W1 (f_amiss [dForms f, .list (ws.map dW), .int d]) (Amiss f d ws (rests f d)) := by
  have sb := sizeBig
  obtain ⟨t0, t1⟩ := ten_pos hd
  have hU := uq_ok (K := key f .rest) (rng_up (ten d).toNat)
  have hrk : ∀ e ∈ rests f d, e.1 = key f .rest e.2 ∧ 0 ≤ e.2 ∧ e.2 < ten d := fun e he => by
    obtain ⟨m1, m2⟩ := hU.mem e he
    obtain ⟨i, hi, hie⟩ := List.mem_map.mp m1
    have := List.mem_range.mp hi
    exact ⟨m2, by omega, by omega⟩
  refine w1_fnP ?_
  unfold m_amiss
  walk_at "wp"
  refine .of (form_bits_eq h) (.of (row_bits_eq h .places d) (.of (scale_eq hd) ?_))
  have hrng : WE (mLRng (mRng1 (mVar 5))) [.val (dForms f), .val (.list (ws.map dW)), .val (.int d), .val (.list ((prs 0 f).map dPr)), .val (.int (key f .places d)), .val (.int (10 ^ d.toNat)), .no, .no, .no, .no, .no, .no] ⟨[], 0, [], none⟩ fun z δ1 => z = .list (rngL (ten d).toNat) ∧ δ1 = ⟨[], 0, [], none⟩ := by
    refine ⟨_, _, ?_, rfl, rfl⟩
    unfold mLRng
    rw [rng_eq (j := (ten d).toNat) (by show some (PyData.int (10 ^ d.toNat), _) = _; rw [Int.toNat_of_nonneg (by omega)]; rfl) (by omega)]
    simp only [Option.bind_some]
    rw [if_pos (by simp [rngL]; omega)]
  obtain ⟨zz, δz, ez, rfl, rfl⟩ := hrng
  refine ⟨_, _, ez, ?_⟩
  refine .of (by rw [rngL_int]; exact unlike_eq h .rest (rng_up _) (by simp; omega)) ?_
  have hmul : ∀ i : Int, mulD (.int i) (.int (ten d)) = some (.int (i * ten d)) := fun i => mulD_int (by unfold mulOk; rw [Bool.or_eq_true]; right; exact decide_eq_true ⟨by omega, by omega⟩)
  refine ws_forI (fun left ρ δ => ∃ (done l : List (Nat × Int)) (s7 s8 s9 s10 s11 : Sl), done ++ l = ws ∧ left = l.map dW ∧ (∀ w ∈ done, ∀ r ∈ rests f d, cnt f (w.2 * ten d + r.2) d = 1) ∧ ρ = [.val (dForms f), .val (.list (ws.map dW)), .val (.int d), .val (.list ((prs 0 f).map dPr)), .val (.int (key f .places d)), .val (.int (ten d)), .val (.list ((rests f d).map dW)), s7, s8, s9, s10, s11]) (fun dd left ρ δ hI => ?_) (fun ρ δ hI => ?_) _ _ _ ⟨[], ws, _, _, _, _, _, rfl, rfl, (fun w hw => by simp at hw), rfl⟩
  · obtain ⟨done, l, s7, s8, s9, s10, s11, e1, e2, hdone, rfl⟩ := hI
    match l, e2 with
    | w :: l, e2 =>
      rw [List.map_cons, List.cons.injEq] at e2
      obtain ⟨rfl, rfl⟩ := e2
      have hwm : w ∈ ws := by rw [← e1]; simp
      have hwk := hw w hwm
      rw [show dW w = .tuple [.int w.2, .int w.1] from rfl]
      walk_at "wp"
      refine ws_forI (fun left ρ δ => ∃ (rd rl : List (Nat × Int)) (s9 s10 s11 : Sl), rd ++ rl = rests f d ∧ left = rl.map dW ∧ (∀ r ∈ rd, cnt f (w.2 * ten d + r.2) d = 1) ∧ ρ = [.val (dForms f), .val (.list (ws.map dW)), .val (.int d), .val (.list ((prs 0 f).map dPr)), .val (.int (key f .places d)), .val (.int (ten d)), .val (.list ((rests f d).map dW)), .val (.int w.2), .val (.int w.1), s9, s10, s11]) (fun dd left ρ δ hI => ?_) (fun ρ δ hI => ?_) _ _ _ ⟨[], rests f d, _, _, _, rfl, rfl, (fun w hw => by simp at hw), rfl⟩
      · obtain ⟨rd, rl, s9, s10, s11, e3, e4, hrd, rfl⟩ := hI
        match rl, e4 with
        | r :: rl, e4 =>
          rw [List.map_cons, List.cons.injEq] at e4
          obtain ⟨rfl, rfl⟩ := e4
          have hrm : r ∈ rests f d := by rw [← e3]; simp
          obtain ⟨hrk1, hrk2, hrk3⟩ := hrk r hrm
          rw [show dW r = .tuple [.int r.2, .int r.1] from rfl]
          walk_at "wp"
          simp only [w_band]
          have ekey := words_key h (x := w.2) hd hrk2 hrk3
          rw [← hwk, ← hrk1] at ekey
          refine .of ekey ?_
          walk_at "wp"
          rw [w_lenL]
          walk_at "wp"
          have hlen : (((words f (w.2 * ten d + r.2) d).map PyData.str).length : Int) = (cnt f (w.2 * ten d + r.2) d : Int) := by rw [List.length_map]; rfl
          by_cases hc : cnt f (w.2 * ten d + r.2) d = 1
          · have hq : (((words f (w.2 * ten d + r.2) d).map PyData.str).length : Int) = 1 := by rw [hlen]; omega
            simp only [hq, decide_true, Bool.not_true, Bool.false_eq_true, if_false]
            refine ⟨rd ++ [r], rl, _, _, _, by rw [← e3]; simp, rfl, fun r' hr' => ?_, rfl⟩
            rcases List.mem_append.mp hr' with hr' | hr'
            · exact hrd r' hr'
            · simp at hr'; rw [hr']; exact hc
          · have hq : ¬ (((words f (w.2 * ten d + r.2) d).map PyData.str).length : Int) = 1 := by rw [hlen]; omega
            simp only [hq, decide_false, Bool.not_false, if_true]
            have fin : ∀ x : Str, x = (if cnt f (w.2 * ten d + r.2) d = 0 then Str.ofString "none" else Str.ofString "two") → Amiss f d ws (rests f d) (.tuple [.str x, .tuple [.int (w.2 * ten d + r.2), .int d]]) := fun x hx => by
              refine .inr ⟨w, hwm, r, hrm, by rw [hx]; unfold paper; rfl, hc, fun w' hw' hlt => hdone w' (up_split hup e1 hw' hlt), fun r' hr' hlt => hrd r' (up_split hU.up e3 hr' hlt)⟩
            have hm2 := hmul w.2
            by_cases hz : cnt f (w.2 * ten d + r.2) d = 0
            · have he : (words f (w.2 * ten d + r.2) d) = [] := List.eq_nil_of_length_eq_zero hz
              rw [if_neg (by rw [he]; exact Bool.false_ne_true)]
              refine .of hm2 ?_
              walk_at "wp"
              exact ⟨by omega, by omega, fin _ (by rw [if_pos hz])⟩
            · have he : ((words f (w.2 * ten d + r.2) d).map PyData.str).isEmpty = false := by
                cases hwl : words f (w.2 * ten d + r.2) d with
                | nil => exact absurd (by unfold cnt; rw [hwl]; rfl) hz
                | cons _ _ => rfl
              rw [if_pos (by rw [he]; rfl)]
              refine .of hm2 ?_
              walk_at "wp"
              exact ⟨by omega, by omega, fin _ (by rw [if_neg hz])⟩
      · obtain ⟨rd, rl, s9, s10, s11, e3, e4, hrd, rfl⟩ := hI
        have : rl = [] := by simpa using e4
        subst this
        rw [List.append_nil] at e3
        subst e3
        refine ⟨done ++ [w], l, _, _, _, _, _, by rw [← e1]; simp, rfl, fun w' hw' => ?_, rfl⟩
        rcases List.mem_append.mp hw' with hw' | hw'
        · exact hdone w' hw'
        · simp at hw'; rw [hw']; exact hrd
  · obtain ⟨done, l, s7, s8, s9, s10, s11, e1, e2, hdone, rfl⟩ := hI
    have : l = [] := by simpa using e2
    subst this
    rw [List.append_nil] at e1
    subst e1
    exact .inl ⟨rfl, hdone⟩
end K04
namespace K04
open PySem PySem.Spec PyProof.Rows L2 TL PD
local macro_rules | `(tactic| walk_at "wp") => `(tactic| simp only [ws_seq, ws_asg, ws_ret, ws_if, ws_next, ws_uni, ws_app, ws_frz, ws_aug, ws_for, onNx_nx, onNx_rt, onNx_bk, onNx_ct, onRt_rt, onRt_nx, we_var, we_c, we_bin, we_un, we_call, we_callK, wa_nil, wa_cons, we_tup, we_lst, wo_no, wo_some, we_sl, wt_b, wt_tru, wt_and, wt_or, wt_not, we_if, we_and, we_or, we_chain, we_get2, wp_nil, wp_cons, we_disp, wa_items, we_lc, wg_set, wg_tup, wgs_nil, wgs_cons, List.getElem?_cons_zero, List.getElem?_cons_succ, Option.some.injEq, Sl.val.injEq, Sl.uni.injEq, exists_eq_left', exists_eq_left, List.set_cons_zero, List.set_cons_succ, true_and, and_true, List.length_cons, List.length_nil, List.map_cons, List.map_nil, PyData.int.injEq, PyData.bool.injEq, PyData.tuple.injEq, PyData.list.injEq, PyData.str.injEq, w_add, w_sub, w_lt, w_le, w_gt, w_ge, w_eqI, w_neI, w_intB, itemsD, truD, slots, wipeR, List.cons_append, List.nil_append, Nat.reduceAdd, Nat.reduceSub, List.replicate_succ, List.replicate_zero, ↓reduceIte, Bool.false_eq_true, Bool.not_true, Bool.not_false, decide_true, decide_false, if_true, if_false])
abbrev Dk3 (d : Int) : Prop := d = 0 ∨ d = 1 ∨ d = 2
structure Near (f : Forms) (far R : Nat) : Prop where
  R0 : 1 ≤ R
  R1 : R ≤ 60
  f1 : far ≤ 201
  by_ : ∀ t ∈ tests f, t.by_ = 0 ∨ t.by_ ∣ (R : Int)
  hi : ∀ t ∈ tests f, t.hi < (far : Int)
def whs (f : Forms) (far R : Nat) : List (Nat × Int) := uq (key f .whole) ((List.range (far + R)).map fun (i : Nat) => (i : Int))
theorem whs_ok (f : Forms) (far R : Nat) : UqOk (key f .whole) ((List.range (far + R)).map fun (i : Nat) => (i : Int)) (whs f far R) := uq_ok (rng_up _)
theorem rests_ok (f : Forms) (d : Int) : UqOk (key f .rest) ((List.range (ten d).toNat).map fun (i : Nat) => (i : Int)) (rests f d) := uq_ok (rng_up _)
/-- each count has the words of one that is looked at, ahead of it -/
theorem looked {L : Int} {f : Forms} (h : WF L f) {far R : Nat} (N : Near f far R) {d : Int} (hd : Dk3 d) {n : Int} (hn : 0 ≤ n) : ∃ w ∈ whs f far R, ∃ r ∈ rests f d, w.2 ≤ n / ten d ∧ r.2 ≤ n % ten d ∧ words f (w.2 * ten d + r.2) d = words f n d := by
  obtain ⟨e, x0, r0, r1⟩ := count_of hd hn
  obtain ⟨t0, t1⟩ := ten_pos hd
  obtain ⟨xm, exm⟩ := Int.eq_ofNat_of_zero_le x0
  obtain ⟨k, k1, k2, k3⟩ := key_near (w := .whole) N.R0 N.by_ N.hi xm
  obtain ⟨w, hw, w1, w2⟩ := (whs_ok f far R).all (k : Int) (List.mem_map.mpr ⟨k, List.mem_range.mpr k1, rfl⟩)
  obtain ⟨r, hr, r2, r3⟩ := (rests_ok f d).all (n % ten d) (List.mem_map.mpr ⟨(n % ten d).toNat, List.mem_range.mpr (by omega), by omega⟩)
  obtain ⟨wm1, wm2⟩ := (whs_ok f far R).mem w hw
  obtain ⟨rm1, rm2⟩ := (rests_ok f d).mem r hr
  obtain ⟨i, _, hi⟩ := List.mem_map.mp rm1
  have exm' : n / ten d = (xm : Int) := exm
  refine ⟨w, hw, r, hr, by omega, r3, ?_⟩
  have := words_same h hd (x := w.2) (r := r.2) (x' := n / ten d) (r' := n % ten d) (by omega) (by omega) r0 r1 (by rw [← wm2, w1, k3, exm']) (by rw [← rm2, r2])
  rw [this, ← e]
def Cover (f : Forms) (z : D) : Prop :=
  (z = .tuple [.str "just"] ∧ ∀ n d, 0 ≤ n → Dk3 d → cnt f n d = 1) ∨
  ∃ n d, 0 ≤ n ∧ n ≤ 100000 ∧ Dk3 d ∧ z = paper f n d ∧ cnt f n d ≠ 1 ∧ ∀ n' d', 0 ≤ n' → Dk3 d' → (d' < d ∨ d' = d ∧ n' < n) → cnt f n' d' = 1
theorem amiss_none {L : Int} {f : Forms} (h : WF L f) {far R : Nat} (N : Near f far R) {d : Int} (hd : Dk3 d) (ha : ∀ w ∈ whs f far R, ∀ r ∈ rests f d, cnt f (w.2 * ten d + r.2) d = 1) : ∀ n, 0 ≤ n → cnt f n d = 1 := fun n hn => by
  obtain ⟨w, hw, r, hr, _, _, e⟩ := looked h N hd hn
  have := ha w hw r hr
  unfold cnt at this ⊢
  rw [← e]; exact this
theorem mul_le {a b T : Int} (hT : 0 < T) (h : a ≤ b) : a * T ≤ b * T := Int.mul_le_mul_of_nonneg_right h (by omega)
theorem amiss_first {L : Int} {f : Forms} (h : WF L f) {far R : Nat} (N : Near f far R) {d : Int} (hd : Dk3 d) {w r : Nat × Int} (hw : w ∈ whs f far R) (hr : r ∈ rests f d)
    (h1 : ∀ w' ∈ whs f far R, w'.2 < w.2 → ∀ r' ∈ rests f d, cnt f (w'.2 * ten d + r'.2) d = 1) (h2 : ∀ r' ∈ rests f d, r'.2 < r.2 → cnt f (w.2 * ten d + r'.2) d = 1) : ∀ n, 0 ≤ n → n < w.2 * ten d + r.2 → cnt f n d = 1 := fun n hn hlt => by
  obtain ⟨w', hw', r', hr', a1, a2, e⟩ := looked h N hd hn
  obtain ⟨e0, x0, r0, r1⟩ := count_of hd hn
  obtain ⟨t0, t1⟩ := ten_pos hd
  obtain ⟨rm1, _⟩ := (rests_ok f d).mem r hr
  obtain ⟨i, hi1, hi⟩ := List.mem_map.mp rm1
  have hi1 := List.mem_range.mp hi1
  have key : cnt f (w'.2 * ten d + r'.2) d = 1 := by
    by_cases hc : w'.2 < w.2
    · exact h1 w' hw' hc r' hr'
    · have hx : n / ten d ≤ w.2 := by
        by_cases hg : n / ten d ≤ w.2
        · exact hg
        · exfalso
          have := mul_le t0 (show w.2 + 1 ≤ n / ten d by omega)
          rw [Int.add_mul, Int.one_mul] at this
          omega
      have e1 : w'.2 = w.2 := by omega
      have e2 : n / ten d = w.2 := by omega
      rw [e2] at e0
      rw [e1]
      exact h2 r' hr' (by omega)
  unfold cnt at key ⊢
  rw [← e]; exact key
theorem cover_ok {L : Int} {f : Forms} (h : WF L f) (hL : 1 ≤ L) (hL2 : L ≤ 60) : W1 (f_cover [dForms f]) (Cover f) := by
  have sb := sizeBig
  obtain ⟨R, eR, R0, R1, hR⟩ := round_ok h hL hL2
  obtain ⟨far, efar, f1, hfar⟩ := far_ok h
  have N : Near f far R := ⟨R0, R1, f1, hR, hfar⟩
  refine w1_fnP ?_
  unfold m_cover
  walk_at "wp"
  have hrng : WE (mLRng (mRng1 (mBin addD (mCall f_first_far (mCons (mVar 0) mNil)) (mCall f_round_of (mCons (mVar 0) mNil))))) [.val (dForms f), .no, .no, .no] ⟨[], 0, [], none⟩ fun z δ1 => z = .list (rngL (far + R)) ∧ δ1 = ⟨[], 0, [], none⟩ := by
    refine ⟨_, _, ?_, rfl, rfl⟩
    unfold mLRng
    rw [rng_eq (j := far + R) (bin_eq (call_eq (cons_eq rfl rfl) efar) (call_eq (cons_eq rfl rfl) eR) (by rw [addD_int, Int.natCast_add])) (by omega)]
    simp only [Option.bind_some]
    rw [if_pos (by simp [rngL]; omega)]
  obtain ⟨zz, δz, ez, rfl, rfl⟩ := hrng
  refine ⟨_, _, ez, ?_⟩
  refine .of (by rw [rngL_int]; exact unlike_eq h .whole (rng_up _) (by simp; omega)) ?_
  refine wa_rng ?_
  walk_at "wp"
  refine ⟨3, rfl, by decide, ?_⟩
  have hW := whs_ok f far R
  refine ws_forI (fun left ρ δ => ∃ (k : Nat) (s2 s3 : Sl), left = (rngL 3).drop k ∧ k ≤ 3 ∧ (∀ d n, Dk3 d → 0 ≤ n → d < k → cnt f n d = 1) ∧ ρ = [.val (dForms f), .val (.list ((whs f far R).map dW)), s2, s3]) (fun dd left ρ δ hI => ?_) (fun ρ δ hI => ?_) _ _ _ ⟨0, _, _, rfl, by decide, (fun d n hd _ hlt => by rcases hd with rfl | rfl | rfl <;> omega), rfl⟩
  · obtain ⟨k, s2, s3, e1, hk, hdone, rfl⟩ := hI
    have hk3 : k < 3 := by
      by_cases hq : k < 3
      · exact hq
      · have : k = 3 := by omega
        subst this
        cases e1
    have e2 : dd = .int (k : Int) ∧ left = (rngL 3).drop (k + 1) := by
      match k, hk3, e1 with
      | 0, _, e1 => cases e1; exact ⟨rfl, rfl⟩
      | 1, _, e1 => cases e1; exact ⟨rfl, rfl⟩
      | 2, _, e1 => cases e1; exact ⟨rfl, rfl⟩
    obtain ⟨rfl, rfl⟩ := e2
    have hd : Dk3 (k : Int) := by omega
    walk_at "wp"
    obtain ⟨z, ez, hz⟩ := amiss_ok h hd (ws := whs f far R) (fun e he => (hW.mem e he).2) hW.up
    refine .of ez ?_
    rcases hz with ⟨rfl, ha⟩ | ⟨w, hw, r, hr, rfl, hc, h1, h2⟩
    · refine .of (z := .bool false) rfl ⟨false, rfl, ?_⟩
      simp only [Bool.false_eq_true, if_false]
      refine ⟨k + 1, _, _, rfl, by omega, fun d n hd' hn hlt => ?_, rfl⟩
      by_cases hq : d < (k : Int)
      · exact hdone d n hd' hn hq
      · have : d = (k : Int) := by omega
        subst this
        exact amiss_none h N hd' ha n hn
    · refine .of (z := .bool true) rfl ⟨true, rfl, ?_⟩
      simp only [if_true]
      refine .inr ⟨w.2 * ten k + r.2, (k : Int), ?_, ?_, hd, rfl, hc, fun n' d' hn' hd' hlt => ?_⟩
      · obtain ⟨i, _, hi⟩ := List.mem_map.mp (hW.mem w hw).1
        obtain ⟨j, _, hj⟩ := List.mem_map.mp ((rests_ok f k).mem r hr).1
        obtain ⟨t0, t1⟩ := ten_pos hd
        have := Int.mul_nonneg (show 0 ≤ w.2 by omega) (show 0 ≤ ten k by omega)
        omega
      · obtain ⟨i, hi1, hi⟩ := List.mem_map.mp (hW.mem w hw).1
        obtain ⟨j, hj1, hj⟩ := List.mem_map.mp ((rests_ok f k).mem r hr).1
        obtain ⟨t0, t1⟩ := ten_pos hd
        have hi1 := List.mem_range.mp hi1
        have hj1 := List.mem_range.mp hj1
        have := mul_le (T := ten k) t0 (show w.2 ≤ 261 by omega)
        omega
      · rcases hlt with hlt | ⟨rfl, hlt⟩
        · exact hdone d' n' hd' hn' hlt
        · exact amiss_first h N hd' hw hr h1 h2 n' hn' hlt
  · obtain ⟨k, s2, s3, e1, hk, hdone, rfl⟩ := hI
    have hk3 : k = 3 := by
      match k, hk, e1 with
      | 0, _, e1 => cases e1
      | 1, _, e1 => cases e1
      | 2, _, e1 => cases e1
      | 3, _, _ => rfl
    subst hk3
    walk_at "wp"
    refine ⟨by omega, .inl ⟨rfl, fun n d hn hd => hdone d n hd hn (by omega)⟩⟩
end K04
namespace K04
open PySem PySem.Spec PyProof.Rows L2 TL PD
local macro_rules | `(tactic| walk_at "wp") => `(tactic| simp only [ws_seq, ws_asg, ws_ret, ws_if, ws_next, ws_uni, ws_app, ws_frz, ws_aug, ws_for, onNx_nx, onNx_rt, onNx_bk, onNx_ct, onRt_rt, onRt_nx, we_var, we_c, we_bin, we_un, we_call, we_callK, wa_nil, wa_cons, we_tup, we_lst, wo_no, wo_some, we_sl, wt_b, wt_tru, wt_and, wt_or, wt_not, we_if, we_and, we_or, we_chain, we_get2, wp_nil, wp_cons, we_disp, wa_items, we_lc, wg_set, wg_tup, wgs_nil, wgs_cons, List.getElem?_cons_zero, List.getElem?_cons_succ, Option.some.injEq, Sl.val.injEq, Sl.uni.injEq, exists_eq_left', exists_eq_left, List.set_cons_zero, List.set_cons_succ, true_and, and_true, List.length_cons, List.length_nil, List.map_cons, List.map_nil, PyData.int.injEq, PyData.bool.injEq, PyData.tuple.injEq, PyData.list.injEq, PyData.str.injEq, w_add, w_sub, w_lt, w_le, w_gt, w_ge, w_eqI, w_neI, w_intB, itemsD, truD, slots, wipeR, List.cons_append, List.nil_append, Nat.reduceAdd, Nat.reduceSub, List.replicate_succ, List.replicate_zero, ↓reduceIte, Bool.false_eq_true, Bool.not_true, Bool.not_false, decide_true, decide_false, if_true, if_false])
theorem isi_t {T : String} {d : D} {b : Bool} {P : D → Prop} (h : kitB (tyD d) T = some b) (p : P (.bool b)) : W1 (isiD T d) P := ⟨.bool b, by unfold isiD; rw [h]; rfl, p⟩
theorem is_tuple_eq (ds : List D) (a b : Int) : f_is_tuple [.tuple ds, .int a, .int b] = some (.bool (decide (a ≤ ds.length) && decide ((ds.length : Int) ≤ b))) := by
  have : W1 (f_is_tuple [.tuple ds, .int a, .int b]) fun z => z = .bool (decide (a ≤ ds.length) && decide ((ds.length : Int) ≤ b)) := by
    refine w1_fnP ?_
    unfold m_is_tuple
    walk_at "wp"
    refine isi_t (b := true) (show kitB "tuple" "tuple" = some true by decide +kernel) ⟨true, rfl, ?_⟩
    simp only [if_true]
    rw [w_lenT]
    walk_at "wp"
    by_cases h : a ≤ (ds.length : Int)
    · simp only [h, decide_true, if_true, Bool.true_and]
    · simp only [h, decide_false, Bool.false_eq_true, if_false, Bool.false_and]
  obtain ⟨z, e, rfl⟩ := this
  exact e
theorem nones : PyData.strOk "none" = true ∧ PyData.strOk "two" = true ∧ PyData.strOk "just" = true := by decide +kernel
theorem sh_just : Sh 1 (.tuple [.str "just"]) := Sh.tup (k := 0) fun d hd => by
  simp at hd; rw [hd]; exact Sh.str (by decide +kernel)
theorem sh_paper (f : Forms) (n d : Int) : Sh 2 (paper f n d) := Sh.tup (k := 1) fun x hx => by
  obtain ⟨o1, o2, o3⟩ := nones
  simp at hx
  rcases hx with rfl | rfl
  · refine (Sh.str ?_).mono (by decide)
    split <;> assumption
  · refine Sh.tup (k := 0) fun y hy => ?_
    simp at hy
    rcases hy with rfl | rfl <;> exact Sh.int _
theorem eq_just : eqD (.tuple [.str "just"]) (.tuple [.str "just"]) = some (.bool true) := by
  rw [eqD_of sh_just sh_just (by decide) (by decide)]
  simp [PyData.eqv, PyData.eqvAll]
theorem eq_paper (f : Forms) (n d : Int) : eqD (paper f n d) (.tuple [.str "just"]) = some (.bool false) := by
  rw [eqD_of (sh_paper f n d) sh_just (by decide) (by decide)]
  simp [paper, PyData.eqv, PyData.eqvAll]
end K04
namespace K04
open PySem PySem.Spec PyProof.Rows L2 TL PD
theorem l_holds_eq {t : Tt} (h : 0 ≤ t.by_) {n d : Int} (hc : CntOk n d) : f_l_holds [dT t, .int n, .int d] = some (.bool (holds t n d)) := by
  have h1 := tens hc.d0
  obtain ⟨h2, h3⟩ := pow_pos hc.d0
  have hn : ∀ a b c : D, nodupK [(Sum.inr "whole", a), (Sum.inr "rest", b), (Sum.inr "places", c)] = true := fun a b c => rfl
  have h4 : ∀ (ρ : List Sl) (δ : Dk), ρ[1]? = some (.val (.int n)) → ρ[2]? = some (.val (.int d)) → ρ[8]? = some (.val (.int (10 ^ d.toNat))) → mDisp (pCons (mC (.str "whole")) (mBin fdivD (mVar 1) (mVar 8)) (pCons (mC (.str "rest")) (mBin modD (mVar 1) (mVar 8)) (pCons (mC (.str "places")) (mVar 2) pNil))) ρ δ = some (partsD n d, δ) := fun ρ δ r1 r2 r8 => by
    simp only [mDisp, pCons, pNil, mC, mBin, mVar, r1, r2, r8, Option.bind_some, PD.keyOf, fdivD_int h2 h3, modD_int h2, Option.map_some, hn, List.length_cons, List.length_nil, Nat.reduceAdd, Nat.reduceLeDiff, and_self, ↓reduceIte, List.map_cons, List.map_nil, keyD]
    rfl
  have h5 := parts_ix n d t.w
  obtain ⟨w, b, lo, hi, y⟩ := t
  dsimp only at h h5
  unfold f_l_holds m_l_holds
  by_cases hb : b = 0
  · subst hb
    have e5 : ∀ ρ : List Sl, ∀ δ : Dk, ρ[4]? = some (.val (.int 0)) → mB (mBin gtD (mVar 4) (mC (.int 0))) ρ δ = some (false, δ) := fun ρ δ hr => by simp [mB, mBin, mVar, mC, hr, gtD_int]
    have e6 : ∀ ρ : List Sl, ∀ δ : Dk, ρ[5]? = some (.val (.int lo)) → ρ[6]? = some (.val (.int hi)) → ρ[7]? = some (.val (.bool y)) → ρ[9]? = some (.val (.int (num n d w))) → mBin eqD (mChain leD leD (mVar 5) (mVar 9) (mVar 6)) (mVar 7) ρ δ = some (.bool (holds ⟨w, 0, lo, hi, y⟩ n d), δ) := fun ρ δ r5 r6 r7 r9 => by
      unfold holds holdsN
      by_cases hlo : lo ≤ num n d w
      · simp [mBin, mChain, mVar, r5, r6, r7, r9, leD_int, eqD_bool, hlo]
      · simp [mBin, mChain, mVar, r5, r6, r7, r9, leD_int, eqD_bool, hlo]
    exact fnP_eq ⟨rfl, by decide⟩ ((seq_nx (asg_eq rfl rfl)).trans ((seq_nx (asg_eq (bin_eq (lst_eq rfl (by decide)) rfl h1) rfl)).trans ((seq_nx (asg_eq (bin_eq (h4 _ _ rfl rfl rfl) rfl h5) rfl)).trans ((seq_nx ((if_f (e5 _ _ rfl)).trans rfl)).trans (ret_eq (e6 _ _ rfl rfl rfl rfl))))))
  · have hb1 : 0 < b := by omega
    have e5 : ∀ ρ : List Sl, ∀ δ : Dk, ρ[4]? = some (.val (.int b)) → mB (mBin gtD (mVar 4) (mC (.int 0))) ρ δ = some (true, δ) := fun ρ δ hr => by simp [mB, mBin, mVar, mC, hr, gtD_int, hb1]
    have e6 : ∀ ρ : List Sl, ∀ δ : Dk, ρ[5]? = some (.val (.int lo)) → ρ[6]? = some (.val (.int hi)) → ρ[7]? = some (.val (.bool y)) → ρ[9]? = some (.val (.int (num n d w % b))) → mBin eqD (mChain leD leD (mVar 5) (mVar 9) (mVar 6)) (mVar 7) ρ δ = some (.bool (holds ⟨w, b, lo, hi, y⟩ n d), δ) := fun ρ δ r5 r6 r7 r9 => by
      unfold holds holdsN
      by_cases hlo : lo ≤ num n d w % b
      · simp [mBin, mChain, mVar, r5, r6, r7, r9, leD_int, eqD_bool, hlo, hb]
      · simp [mBin, mChain, mVar, r5, r6, r7, r9, leD_int, eqD_bool, hlo, hb]
    exact fnP_eq ⟨rfl, by decide⟩ ((seq_nx (asg_eq rfl rfl)).trans ((seq_nx (asg_eq (bin_eq (lst_eq rfl (by decide)) rfl h1) rfl)).trans ((seq_nx (asg_eq (bin_eq (h4 _ _ rfl rfl rfl) rfl h5) rfl)).trans ((seq_nx ((if_t (e5 _ _ rfl)).trans (asg_eq (bin_eq rfl rfl (modD_int hb1)) rfl))).trans (ret_eq (e6 _ _ rfl rfl rfl rfl))))))
section
variable {n d : Int} (hc : CntOk n d)
abbrev rowsM : ME := mLc (mItems (mVar 5)) [6] (gSet 6) (mB (mBin eqNilD (mLc (mItems (mVar 6)) [7] (gSet 7) (tNotM (mTru (mCall f_l_holds (mCons (mVar 7) (mCons (mVar 1) (mCons (mVar 2) mNil)))))) (mVar 7)) (mLst mNil))) (mVar 6)
include hc in
theorem rows_eq {r : Rule} (h : RuleOk r) (F a w : D) (acc : List D) (δ : Dk) : mB (mBin neNilD rowsM (mLst mNil)) [.val F, .val (.int n), .val (.int d), .uni acc, .val w, .val (dRule r), .no, .no] δ = some (ruleH r n d, δ) := by
  have e : rowsM [.val F, .val (.int n), .val (.int d), .uni acc, .val w, .val (dRule r), .no, .no] δ = some (.list ((r.filter fun row => row.all fun t => holds t n d).map dRow), δ) := by
    refine lc_eq (it_eq rfl rfl) rfl (compL_filter dRow (fun row => row.all fun t => holds t n d) dRow r fun row hrow => ⟨_, rfl, ?_, fun _ => rfl⟩) (by rw [List.length_map]; exact sz (Nat.le_trans (List.length_filter_le _ _) h.len))
    refine mB_eq (bin_eq (lc_eq (it_eq rfl rfl) rfl (compL_filter dT (fun t => !holds t n d) dT row fun t ht => ⟨_, rfl, ?_, fun _ => rfl⟩) (by rw [List.length_map]; exact sz (Nat.le_trans (List.length_filter_le _ _) (h.row row hrow)))) (lst_eq rfl (by decide)) ?_)
    · exact not_eq (tru_eq (call_eq (cons_eq rfl (cons_eq rfl (cons_eq rfl rfl))) (l_holds_eq (h.by0 row hrow t ht) hc)) rfl)
    · show some (PyData.bool _) = _
      rw [map_emp, filter_emp]
  refine mB_eq (bin_eq e (lst_eq rfl (by decide)) ?_)
  show some (PyData.bool _) = _
  rw [map_emp, filter_any]
  rfl
include hc in
theorem words_loop (F : D) : ∀ (fs : Forms), FormsOk fs → ∀ (acc : List D) (s4 s5 : Sl) (δ : Dk), acc.length + fs.length ≤ 1000 → ∃ s4' s5', forL (gTupM 2 (gsCons (gSet 4) (gsCons (gSet 5) gsNil))) (sIf (mB (mBin neNilD rowsM (mLst mNil))) (sApp 3 (mVar 4)) sNext) (fs.map dForm) [.val F, .val (.int n), .val (.int d), .uni acc, s4, s5, .no, .no] δ
    = some (.nx, [.val F, .val (.int n), .val (.int d), .uni (acc ++ (words fs n d).map .str), s4', s5', .no, .no], δ)
  | [], _, acc, s4, s5, δ, _ => ⟨s4, s5, by simp [forL, words]⟩
  | f :: fs, h, acc, s4, s5, δ, hl => by
    have hf : FormsOk fs := ⟨by have := h.len; simp at this; omega, fun x hx => h.rule x (.tail _ hx), fun x hx => h.name x (.tail _ hx)⟩
    have e1 := rows_eq hc (h.rule f (.head _)) F (.none) (.str f.1) acc δ
    rw [words_cons]
    cases hr : ruleH f.2 n d with
    | true =>
      rw [hr] at e1
      obtain ⟨a, b, ih⟩ := words_loop F fs hf (acc ++ [.str f.1]) (.val (.str f.1)) (.val (dRule f.2)) δ (by simp at hl ⊢; omega)
      refine ⟨a, b, ?_⟩
      rw [List.map_cons]
      unfold forL
      show (Option.bind (sIf _ _ _ [.val F, .val (.int n), .val (.int d), .uni acc, .val (.str f.1), .val (dRule f.2), .no, .no] δ) _) = _
      rw [if_t e1]
      have e2 : sApp 3 (mVar 4) [.val F, .val (.int n), .val (.int d), .uni acc, .val (.str f.1), .val (dRule f.2), .no, .no] δ = some (.nx, [.val F, .val (.int n), .val (.int d), .uni (acc ++ [.str f.1]), .val (.str f.1), .val (dRule f.2), .no, .no], δ) := by
        have : acc.length < sizeLine := Nat.lt_of_le_of_lt (show acc.length ≤ 1000 by simp at hl; omega) (by decide)
        simp [sApp, mVar, this]
      rw [e2]
      simp only [Option.bind_some, ↓reduceIte, List.map_cons]
      rw [ih]
      simp
    | false =>
      rw [hr] at e1
      obtain ⟨a, b, ih⟩ := words_loop F fs hf acc (.val (.str f.1)) (.val (dRule f.2)) δ (by simp at hl ⊢; omega)
      refine ⟨a, b, ?_⟩
      rw [List.map_cons]
      unfold forL
      show (Option.bind (sIf _ _ _ [.val F, .val (.int n), .val (.int d), .uni acc, .val (.str f.1), .val (dRule f.2), .no, .no] δ) _) = _
      rw [if_f e1]
      simp only [sNext, Option.bind_some, Bool.false_eq_true, ↓reduceIte]
      exact ih
include hc in
theorem l_words_eq {f : Forms} (h : FormsOk f) : f_l_words [dForms f, .int n, .int d] = some (.list ((words f n d).map .str)) := by
  obtain ⟨a, b, e⟩ := words_loop hc (dForms f) f h [] .no .no ⟨[], 0, [], none⟩ (by simpa using h.len)
  exact fnP_eq (ρ' := [.val (dForms f), .val (.int n), .val (.int d), .val (.list ((words f n d).map .str)), a, b, .no, .no]) (δ' := ⟨[], 0, [], none⟩) ⟨rfl, by decide⟩ ((seq_nx (ρ1 := [.val (dForms f), .val (.int n), .val (.int d), .uni [], .no, .no, .no, .no]) (δ1 := ⟨[], 0, [], none⟩) rfl).trans ((seq_nx ((for_eq (it_eq rfl rfl)).trans e)).trans rfl))
end
end K04
namespace K04
open PySem PySem.Spec PyProof.Rows L2 TL PD
def stpB (K : Int → List Bool) (es : List (List Bool × Int)) (x : Int) : List (List Bool × Int) := if hasB es (K x) then es else es ++ [(K x, x)]
def uqB (K : Int → List Bool) (ns : List Int) : List (List Bool × Int) := ns.foldl (stpB K) []
structure UqB (K : Int → List Bool) (done : List Int) (es : List (List Bool × Int)) : Prop where
  mem : ∀ e ∈ es, e.2 ∈ done ∧ e.1 = K e.2
  all : ∀ y ∈ done, ∃ e ∈ es, e.1 = K y ∧ e.2 ≤ y
  up : (es.map (·.2)).Pairwise (· < ·)
  len : es.length ≤ done.length
theorem UqB.step {K : Int → List Bool} {done : List Int} {es : List (List Bool × Int)} {x : Int} (h : UqB K done es) (hx : ∀ y ∈ done, y < x) : UqB K (done ++ [x]) (stpB K es x) := by
  unfold stpB
  by_cases hc : hasB es (K x) = true
  · rw [if_pos hc]
    refine ⟨fun e he => ⟨List.mem_append_left _ (h.mem e he).1, (h.mem e he).2⟩, fun y hy => ?_, h.up, ?_⟩
    · rcases List.mem_append.mp hy with hy | hy
      · exact h.all y hy
      · simp at hy; subst hy
        obtain ⟨e, he, hk⟩ := List.any_eq_true.mp hc
        exact ⟨e, he, of_decide_eq_true hk, Int.le_of_lt (hx _ (h.mem e he).1)⟩
    · have := h.len; simp; omega
  · rw [if_neg hc]
    refine ⟨fun e he => ?_, fun y hy => ?_, ?_, ?_⟩
    · rcases List.mem_append.mp he with he | he
      · exact ⟨List.mem_append_left _ (h.mem e he).1, (h.mem e he).2⟩
      · simp at he; subst he; exact ⟨by simp, rfl⟩
    · rcases List.mem_append.mp hy with hy | hy
      · obtain ⟨e, he, p⟩ := h.all y hy
        exact ⟨e, List.mem_append_left _ he, p⟩
      · simp at hy; subst hy
        exact ⟨(K y, y), by simp, rfl, Int.le_refl _⟩
    · rw [List.map_append, List.pairwise_append]
      refine ⟨h.up, by simp, fun a ha b hb => ?_⟩
      simp at hb; subst hb
      obtain ⟨e, he, rfl⟩ := List.mem_map.mp ha
      exact hx _ (h.mem e he).1
    · have := h.len; simp; omega
theorem uqB_go {K : Int → List Bool} : ∀ (left done : List Int) (es : List (List Bool × Int)), UqB K done es → (done ++ left).Pairwise (· < ·) → UqB K (done ++ left) (left.foldl (stpB K) es)
  | [], done, es, h, _ => by rw [List.append_nil]; exact h
  | x :: left, done, es, h, hp => by
    have hx : ∀ y ∈ done, y < x := fun y hy => (List.pairwise_append.mp hp).2.2 y hy x (.head _)
    have := uqB_go left (done ++ [x]) (stpB K es x) (h.step hx) (by rw [List.append_assoc]; exact hp)
    rw [List.append_assoc] at this
    exact this
theorem uqB_ok {K : Int → List Bool} {ns : List Int} (hp : ns.Pairwise (· < ·)) : UqB K ns (uqB K ns) := uqB_go ns [] [] ⟨fun e he => by simp at he, fun y hy => by simp at hy, by simp, by simp⟩ hp
def sel (w : Wh) (row : Row) : Row := row.filter fun t => decide (t.w.str = w.str)
def tsOf (f : Forms) (w : Wh) : List Tt := f.flatMap fun p => p.2.flatMap (sel w)
def kN (f : Forms) (w : Wh) (x : Int) : List Bool := (tsOf f w).map fun t => holdsN t x
theorem wh_inj {a b : Wh} (h : a.str = b.str) : a = b := by
  cases a <;> cases b <;> first | rfl | (exfalso; revert h; decide +kernel)
theorem mem_tsOf {f : Forms} {w : Wh} {t : Tt} : t ∈ tsOf f w ↔ ∃ p ∈ f, ∃ row ∈ p.2, t ∈ row ∧ t.w = w := by
  unfold tsOf sel
  constructor
  · intro h
    obtain ⟨p, hp, h⟩ := List.mem_flatMap.mp h
    obtain ⟨row, hr, h⟩ := List.mem_flatMap.mp h
    obtain ⟨h1, h2⟩ := List.mem_filter.mp h
    exact ⟨p, hp, row, hr, h1, wh_inj (of_decide_eq_true h2)⟩
  · rintro ⟨p, hp, row, hr, h1, rfl⟩
    exact List.mem_flatMap.mpr ⟨p, hp, List.mem_flatMap.mpr ⟨row, hr, List.mem_filter.mpr ⟨h1, decide_eq_true rfl⟩⟩⟩
theorem kN_key {f : Forms} {w : Wh} {x y : Int} (h : kN f w x = kN f w y) : key f w x = key f w y := by
  unfold key
  congr 1
  refine List.map_congr_left fun row hr => ?_
  unfold hw
  obtain ⟨p, hp, hr⟩ := List.mem_flatMap.mp hr
  have : ∀ t ∈ row.filter (fun t => decide (t.w.str = w.str)), holdsN t x = holdsN t y := fun t ht =>
    List.map_inj_left.mp h t (List.mem_flatMap.mpr ⟨p, hp, List.mem_flatMap.mpr ⟨row, hr, ht⟩⟩)
  generalize row.filter (fun t => decide (t.w.str = w.str)) = l at this
  induction l with
  | nil => rfl
  | cons t l ih => rw [List.all_cons, List.all_cons, ih fun u hu => this u (.tail _ hu), this t (.head _)]
theorem tsOf_tests {f : Forms} {w : Wh} {t : Tt} (h : t ∈ tsOf f w) : t ∈ tests f := by
  obtain ⟨p, hp, row, hr, ht, _⟩ := mem_tsOf.mp h
  exact mem_tests.mpr ⟨p, hp, row, hr, ht⟩
theorem kN_near {f : Forms} {w : Wh} {far R : Nat} (hR : 1 ≤ R) (hb : ∀ t ∈ tests f, t.by_ = 0 ∨ t.by_ ∣ (R : Int)) (hf : ∀ t ∈ tests f, t.hi < (far : Int)) : ∀ (m : Nat), ∃ k : Nat, k < far + R ∧ k ≤ m ∧ kN f w (k : Int) = kN f w (m : Int) := by
  intro m
  induction m using Nat.strongRecOn with
  | ind m ih =>
    by_cases h : m < far + R
    · exact ⟨m, h, Nat.le_refl _, rfl⟩
    · obtain ⟨k, h1, h2, h3⟩ := ih (m - R) (by omega)
      refine ⟨k, h1, by omega, h3.trans ?_⟩
      have : kN f w (((m - R : Nat) : Int) + R) = kN f w ((m - R : Nat) : Int) :=
        List.map_congr_left fun t ht => holdsN_again (hb t (tsOf_tests ht)) (hf t (tsOf_tests ht)) (by omega)
      rw [show ((m - R : Nat) : Int) + (R : Int) = (m : Int) by omega] at this
      exact this.symm
def rngI (n : Nat) : List Int := (List.range n).map fun (i : Nat) => (i : Int)
def whB (f : Forms) : List (List Bool × Int) := uqB (kN f .whole) ((List.range 321).map fun (i : Nat) => (i : Int))
def rsB (f : Forms) (d : Int) : List (List Bool × Int) := uqB (kN f .rest) ((List.range (ten d).toNat).map fun (i : Nat) => (i : Int))
theorem whB_ok (f : Forms) : UqB (kN f .whole) ((List.range 321).map fun (i : Nat) => (i : Int)) (whB f) := uqB_ok (rng_up _)
theorem rsB_ok (f : Forms) (d : Int) : UqB (kN f .rest) ((List.range (ten d).toNat).map fun (i : Nat) => (i : Int)) (rsB f d) := uqB_ok (rng_up _)
/-- each count has the words of one that is lookedB at, ahead of it -/
theorem lookedB {L : Int} {f : Forms} (h : WF L f) {far R : Nat} (N : Near f far R) {d : Int} (hd : Dk3 d) {n : Int} (hn : 0 ≤ n) : ∃ w ∈ whB f, ∃ r ∈ rsB f d, w.2 ≤ n / ten d ∧ r.2 ≤ n % ten d ∧ words f (w.2 * ten d + r.2) d = words f n d := by
  obtain ⟨e, x0, r0, r1⟩ := count_of hd hn
  obtain ⟨t0, t1⟩ := ten_pos hd
  obtain ⟨xm, exm⟩ := Int.eq_ofNat_of_zero_le x0
  obtain ⟨k, k1, k2, k3⟩ := kN_near (w := .whole) N.R0 N.by_ N.hi xm
  obtain ⟨w, hw, w1, w2⟩ := (whB_ok f).all (k : Int) (List.mem_map.mpr ⟨k, List.mem_range.mpr (by have := N.f1; have := N.R1; omega), rfl⟩)
  obtain ⟨r, hr, r2, r3⟩ := (rsB_ok f d).all (n % ten d) (List.mem_map.mpr ⟨(n % ten d).toNat, List.mem_range.mpr (by omega), by omega⟩)
  obtain ⟨wm1, wm2⟩ := (whB_ok f).mem w hw
  obtain ⟨rm1, rm2⟩ := (rsB_ok f d).mem r hr
  obtain ⟨i, _, hi⟩ := List.mem_map.mp rm1
  have exm' : n / ten d = (xm : Int) := exm
  refine ⟨w, hw, r, hr, by omega, r3, ?_⟩
  have := words_same h hd (x := w.2) (r := r.2) (x' := n / ten d) (r' := n % ten d) (by omega) (by omega) r0 r1 (kN_key (by rw [← wm2, w1, k3, exm'])) (kN_key (by rw [← rm2, r2]))
  rw [this, ← e]
theorem amissB_none {L : Int} {f : Forms} (h : WF L f) {far R : Nat} (N : Near f far R) {d : Int} (hd : Dk3 d) (ha : ∀ w ∈ whB f, ∀ r ∈ rsB f d, cnt f (w.2 * ten d + r.2) d = 1) : ∀ n, 0 ≤ n → cnt f n d = 1 := fun n hn => by
  obtain ⟨w, hw, r, hr, _, _, e⟩ := lookedB h N hd hn
  have := ha w hw r hr
  unfold cnt at this ⊢
  rw [← e]; exact this
theorem amissB_first {L : Int} {f : Forms} (h : WF L f) {far R : Nat} (N : Near f far R) {d : Int} (hd : Dk3 d) {w r : List Bool × Int} (hw : w ∈ whB f) (hr : r ∈ rsB f d)
    (h1 : ∀ w' ∈ whB f, w'.2 < w.2 → ∀ r' ∈ rsB f d, cnt f (w'.2 * ten d + r'.2) d = 1) (h2 : ∀ r' ∈ rsB f d, r'.2 < r.2 → cnt f (w.2 * ten d + r'.2) d = 1) : ∀ n, 0 ≤ n → n < w.2 * ten d + r.2 → cnt f n d = 1 := fun n hn hlt => by
  obtain ⟨w', hw', r', hr', a1, a2, e⟩ := lookedB h N hd hn
  obtain ⟨e0, x0, r0, r1⟩ := count_of hd hn
  obtain ⟨t0, t1⟩ := ten_pos hd
  obtain ⟨rm1, _⟩ := (rsB_ok f d).mem r hr
  obtain ⟨i, hi1, hi⟩ := List.mem_map.mp rm1
  have hi1 := List.mem_range.mp hi1
  have key : cnt f (w'.2 * ten d + r'.2) d = 1 := by
    by_cases hc : w'.2 < w.2
    · exact h1 w' hw' hc r' hr'
    · have hx : n / ten d ≤ w.2 := by
        by_cases hg : n / ten d ≤ w.2
        · exact hg
        · exfalso
          have := mul_le t0 (show w.2 + 1 ≤ n / ten d by omega)
          rw [Int.add_mul, Int.one_mul] at this
          omega
      have e1 : w'.2 = w.2 := by omega
      have e2 : n / ten d = w.2 := by omega
      rw [e2] at e0
      rw [e1]
      exact h2 r' hr' (by omega)
  unfold cnt at key ⊢
  rw [← e]; exact key
section
variable {F dd : D} {w : Wh} {many : Int}
abbrev selM : ME := mLc (mItems (mVar 7)) [8] (gSet 8) (mB (mBin eqD (mBin subD' (mVar 8) (mC (.int 0))) (mVar 1))) (mVar 8)
theorem sel_eq (row : Row) (hr : row.length ≤ 100) (ts s5 s6 : D) (δ : Dk) : selM [.val F, .val (.str w.str), .val (.int many), .val dd, .val ts, .val s5, .val s6, .val (dRow row), .no, .no, .no] δ = some (.list ((sel w row).map dT), δ) := by
  refine lc_eq (it_eq rfl rfl) rfl (compL_filter dT (fun t => decide (t.w.str = w.str)) dT row fun t ht => ⟨_, rfl, ?_, fun _ => rfl⟩) (by rw [List.length_map]; exact sz (Nat.le_trans (List.length_filter_le _ _) (by omega)))
  exact mB_eq (bin_eq (bin_eq rfl rfl rfl) rfl (eqD_str (w_ok _) (w_ok _)))
theorem rows_loop : ∀ (rs : List Row) (acc : List Tt) (s5 s6 : D) (s7 : Sl) (δ : Dk), (∀ r ∈ rs, r.length ≤ 100) → acc.length + 100 * rs.length ≤ 1000000 → ∃ s7', forL (gSet 7) (sAsg (mBin addD (mVar 4) selM) (gSet 4)) (rs.map dRow) [.val F, .val (.str w.str), .val (.int many), .val dd, .val (.list (acc.map dT)), .val s5, .val s6, s7, .no, .no, .no] δ
    = some (.nx, [.val F, .val (.str w.str), .val (.int many), .val dd, .val (.list ((acc ++ rs.flatMap (sel w)).map dT)), .val s5, .val s6, s7', .no, .no, .no], δ)
  | [], acc, s5, s6, s7, δ, _, _ => ⟨s7, by rw [List.flatMap_nil, List.append_nil]; rfl⟩
  | r :: rs, acc, s5, s6, s7, δ, hr, hl => by
    rw [List.length_cons] at hl
    have hs : (sel w r).length ≤ 100 := Nat.le_trans (List.length_filter_le _ _) (hr r (.head _))
    obtain ⟨s7', ih⟩ := rows_loop rs (acc ++ sel w r) s5 s6 (.val (dRow r)) δ (fun x hx => hr x (.tail _ hx)) (by rw [List.length_append]; omega)
    refine ⟨s7', ?_⟩
    rw [List.map_cons]
    unfold forL
    show (Option.bind (sAsg _ _ [.val F, .val (.str w.str), .val (.int many), .val dd, .val (.list (acc.map dT)), .val s5, .val s6, .val (dRow r), .no, .no, .no] δ) _) = _
    have e : sAsg (mBin addD (mVar 4) selM) (gSet 4) [.val F, .val (.str w.str), .val (.int many), .val dd, .val (.list (acc.map dT)), .val s5, .val s6, .val (dRow r), .no, .no, .no] δ = some (.nx, [.val F, .val (.str w.str), .val (.int many), .val dd, .val (.list ((acc ++ sel w r).map dT)), .val s5, .val s6, .val (dRow r), .no, .no, .no], δ) := by
      refine asg_eq (bin_eq rfl (sel_eq r (hr r (.head _)) _ _ _ _) (addD_lst (by rw [List.length_map, List.length_map]; have := sizeBig; omega))) ?_
      rw [← List.map_append]
      rfl
    rw [e]
    simp only [Option.bind_some]
    rw [ih, List.flatMap_cons, List.append_assoc]
theorem forms_loop : ∀ (fs : Forms) (acc : List Tt) (s5 s6 s7 : Sl) (δ : Dk), (∀ p ∈ fs, p.2.length ≤ 100 ∧ ∀ r ∈ p.2, r.length ≤ 100) → acc.length + 10000 * fs.length ≤ 100000 → ∃ s5' s6' s7', forL (gTupM 2 (gsCons (gSet 5) (gsCons (gSet 6) gsNil))) (sFor (mItems (mVar 6)) (gSet 7) (sAsg (mBin addD (mVar 4) selM) (gSet 4))) (fs.map dForm) [.val F, .val (.str w.str), .val (.int many), .val dd, .val (.list (acc.map dT)), s5, s6, s7, .no, .no, .no] δ
    = some (.nx, [.val F, .val (.str w.str), .val (.int many), .val dd, .val (.list ((acc ++ tsOf fs w).map dT)), s5', s6', s7', .no, .no, .no], δ)
  | [], acc, s5, s6, s7, δ, _, _ => ⟨s5, s6, s7, by unfold tsOf; rw [List.flatMap_nil, List.append_nil]; rfl⟩
  | p :: fs, acc, s5, s6, s7, δ, hp, hl => by
    rw [List.length_cons] at hl
    obtain ⟨p1, p2⟩ := hp p (.head _)
    obtain ⟨s7a, e⟩ := rows_loop (F := F) (dd := dd) (w := w) (many := many) p.2 acc (.str p.1) (dRule p.2) s7 δ p2 (by omega)
    have hs : ∀ rs : List Row, (∀ r ∈ rs, r.length ≤ 100) → (rs.flatMap (sel w)).length ≤ 100 * rs.length := fun rs => by
      induction rs with
      | nil => intro _; simp
      | cons r rs ih =>
        intro hr
        rw [List.flatMap_cons, List.length_append, List.length_cons]
        have h1 : (sel w r).length ≤ 100 := Nat.le_trans (List.length_filter_le _ _) (hr r (.head _))
        have h2 := ih fun x hx => hr x (.tail _ hx)
        omega
    have hs := hs p.2 p2
    obtain ⟨s5', s6', s7', ih⟩ := forms_loop fs (acc ++ p.2.flatMap (sel w)) (.val (.str p.1)) (.val (dRule p.2)) s7a δ (fun x hx => hp x (.tail _ hx)) (by rw [List.length_append]; omega)
    refine ⟨s5', s6', s7', ?_⟩
    rw [List.map_cons]
    unfold forL
    show (Option.bind (sFor _ _ _ [.val F, .val (.str w.str), .val (.int many), .val dd, .val (.list (acc.map dT)), .val (.str p.1), .val (dRule p.2), s7, .no, .no, .no] δ) _) = _
    rw [(for_eq (it_eq rfl rfl)).trans e]
    simp only [Option.bind_some]
    rw [ih]
    unfold tsOf
    rw [List.flatMap_cons, List.append_assoc]
abbrev keyM : ME := mCall tupD (mCons (mLc (mItems (mVar 4)) [8] (gSet 8) mYes (mCall f_l_holds (mCons (mVar 8) (mCons (mVar 10) (mCons (mVar 3) mNil))))) mNil)
theorem dict_loop {ts : List Tt} (hts : ∀ t ∈ ts, 0 ≤ t.by_) (hl : ts.length ≤ 100000) {d : Int} (hd : Dk3 d) {s5 s6 s7 : Sl} {K : Int → List Bool} : ∀ (l : List Int) (es : List (List Bool × Int)) (s10 : Sl) (δ : Dk), (∀ x ∈ l, 0 ≤ x ∧ (ts.map fun t => holds t x d) = K x) → es.length + l.length ≤ 1000 →
    ∃ ρ', dictNL (gSet 10) keyM (mVar 10) (l.map .int) [.val F, .val (.str w.str), .val (.int many), .val (.int d), .val (.list (ts.map dT)), s5, s6, s7, .no, .no, s10] δ es = some (ρ', δ, l.foldl (stpB K) es)
  | [], es, s10, δ, _, _ => ⟨_, rfl⟩
  | x :: l, es, s10, δ, hx, hz => by
    rw [List.length_cons] at hz
    obtain ⟨x0, xk⟩ := hx x (.head _)
    have hlen : (stpB K es x).length ≤ es.length + 1 := by
      unfold stpB
      split
      · omega
      · rw [List.length_append]; exact Nat.le_refl _
    obtain ⟨ρ', ih⟩ := dict_loop hts hl hd (s5 := s5) (s6 := s6) (s7 := s7) l (stpB K es x) (.val (.int x)) δ (fun y hy => hx y (.tail _ hy)) (by omega)
    refine ⟨ρ', ?_⟩
    rw [List.map_cons, List.foldl_cons]
    unfold dictNL
    show (Option.bind (keyM [.val F, .val (.str w.str), .val (.int many), .val (.int d), .val (.list (ts.map dT)), s5, s6, s7, .no, .no, .val (.int x)] δ) _) = _
    have e : keyM [.val F, .val (.str w.str), .val (.int many), .val (.int d), .val (.list (ts.map dT)), s5, s6, s7, .no, .no, .val (.int x)] δ = some (.tuple ((K x).map .bool), δ) := by
      refine call_eq (cons_eq (lc_eq (out := (K x).map .bool) (it_eq rfl rfl) rfl ?_ ?_) rfl) rfl
      · rw [← xk, List.map_map]
        exact compL_map dT _ ts fun t ht => ⟨_, rfl, call_eq (cons_eq rfl (cons_eq rfl (cons_eq rfl rfl))) (l_holds_eq (hts t ht) ⟨x0, hd⟩)⟩
      · rw [← xk, List.length_map, List.length_map]
        have := sizeBig
        omega
    rw [e]
    simp only [Option.bind_some]
    show ((bitsL ((K x).map .bool)).bind _) = _
    rw [bitsL_map]
    simp only [Option.bind_some]
    show (if es.length < sizeLine then _ else _) = _
    rw [if_pos (by have := sizeBig; omega)]
    exact ih
end
theorem uqB_up {K : Int → List Bool} {ns : List Int} (h : ns.Pairwise (· < ·)) : upB ((uqB K ns).map (·.2)) = true := by
  have : ∀ l : List Int, l.Pairwise (· < ·) → upB l = true := fun l => by
    induction l with
    | nil => intro _; rfl
    | cons a l ih =>
      intro hp
      cases l with
      | nil => rfl
      | cons b l =>
        unfold upB
        rw [decide_eq_true (Int.le_of_lt ((List.pairwise_cons.mp hp).1 b (.head _))), ih (List.pairwise_cons.mp hp).2]
        rfl
  exact this _ (uqB_ok h).up
theorem l_firsts_eq {L : Int} {f : Forms} (h : WF L f) (w : Wh) {n : Nat} (hn : n ≤ 1000) {d : Int} (hd : Dk3 d) (hx : ∀ x : Nat, x < n → num x d w = x) :
    f_l_firsts [dForms f, .str w.str, .int n, .int d] = some (.list ((uqB (kN f w) (rngI n)).map fun e => .int e.2)) := by
  obtain ⟨s5, s6, s7, e⟩ := forms_loop (F := dForms f) (dd := .int d) (w := w) (many := n) f [] .no .no .no ⟨[], 0, [], none⟩ (fun p hp => ⟨h.rule p hp, h.row p hp⟩) (by have := h.l6; simp; omega)
  rw [List.nil_append] at e
  have hl : (tsOf f w).length ≤ 100000 := by
    have : ∀ g : Forms, (∀ p ∈ g, p.2.length ≤ 100 ∧ ∀ r ∈ p.2, r.length ≤ 100) → (tsOf g w).length ≤ 10000 * g.length := fun g => by
      induction g with
      | nil => intro _; simp [tsOf]
      | cons p g ih =>
        intro hp
        have h2 := ih fun x hx => hp x (.tail _ hx)
        have h3 : ∀ rs : List Row, (∀ r ∈ rs, r.length ≤ 100) → (rs.flatMap (sel w)).length ≤ 100 * rs.length := fun rs => by
          induction rs with
          | nil => intro _; simp
          | cons r rs ih =>
            intro hr
            rw [List.flatMap_cons, List.length_append, List.length_cons]
            have h1 : (sel w r).length ≤ 100 := Nat.le_trans (List.length_filter_le _ _) (hr r (.head _))
            have h2 := ih fun x hx => hr x (.tail _ hx)
            omega
        obtain ⟨a, b⟩ := hp p (.head _)
        have h3 := h3 p.2 b
        unfold tsOf at h2 ⊢
        rw [List.flatMap_cons, List.length_append, List.length_cons]
        omega
    have := this f fun p hp => ⟨h.rule p hp, h.row p hp⟩
    have := h.l6
    omega
  obtain ⟨ρ', e2⟩ := dict_loop (F := dForms f) (w := w) (many := n) (ts := tsOf f w) (fun t ht => by
    obtain ⟨p, hp, row, hr, ht, _⟩ := mem_tsOf.mp ht
    exact (h.by0 p hp row hr t ht).b0) hl hd (s5 := s5) (s6 := s6) (s7 := s7) (K := kN f w) (rngI n) [] .no ⟨[], 0, [], none⟩ (fun x hx' => by
      obtain ⟨i, hi, rfl⟩ := List.mem_map.mp hx'
      refine ⟨Int.natCast_nonneg _, List.map_congr_left fun t ht => ?_⟩
      obtain ⟨p, hp, row, hr, ht, rfl⟩ := mem_tsOf.mp ht
      unfold holds
      rw [hx i (List.mem_range.mp hi)]) (by unfold rngI; simp; exact hn)
  have e3 : sDictN 9 (mRng1 (mVar 2)) (gSet 10) keyM (mVar 10) [.val (dForms f), .val (.str w.str), .val (.int n), .val (.int d), .val (.list ((tsOf f w).map dT)), s5, s6, s7, .no, .no, .no] ⟨[], 0, [], none⟩ = some (.rt (.list ((uqB (kN f w) (rngI n)).map fun e => .int e.2)), ρ', ⟨[], 0, [], none⟩) := by
    obtain ⟨_, _, _, hh, hp⟩ := ws_dictN (P := fun fl ρ1 δ1 => fl = .rt (.list ((uqB (kN f w) (rngI n)).map fun e => .int e.2)) ∧ ρ1 = ρ' ∧ δ1 = ⟨[], 0, [], none⟩) (r := 9) (mi := mRng1 (mVar 2)) (g := gSet 10) (m1 := keyM) (m2 := mVar 10) (ρ := [.val (dForms f), .val (.str w.str), .val (.int n), .val (.int d), .val (.list ((tsOf f w).map dT)), s5, s6, s7, .no, .no, .no]) (δ := ⟨[], 0, [], none⟩) (δ1 := ⟨[], 0, [], none⟩) (ds := (rngI n).map .int) (by show (9 : Nat) < 11; decide) (by
      rw [rng_eq (j := n) rfl (by omega), rngL_int]
      rfl) e2 (uqB_up (rng_up n)) ⟨rfl, rfl, rfl⟩
    obtain ⟨rfl, rfl, rfl⟩ := hp
    exact hh
  exact fnP_eq ⟨rfl, by decide⟩ ((seq_nx (ρ1 := [.val (dForms f), .val (.str w.str), .val (.int n), .val (.int d), .val (.list []), .no, .no, .no, .no, .no, .no]) (δ1 := ⟨[], 0, [], none⟩) (asg_eq (lst_eq rfl (by decide)) rfl)).trans ((seq_nx ((for_eq (it_eq rfl rfl)).trans e)).trans e3))
end K04
namespace K04
open PySem PySem.Spec PyProof.Rows L2 TL PD
local macro_rules | `(tactic| walk_at "wp") => `(tactic| simp only [ws_seq, ws_asg, ws_ret, ws_if, ws_next, ws_uni, ws_app, ws_frz, ws_aug, ws_for, onNx_nx, onNx_rt, onNx_bk, onNx_ct, onRt_rt, onRt_nx, we_var, we_c, we_bin, we_un, we_call, we_callK, wa_nil, wa_cons, we_tup, we_lst, wo_no, wo_some, we_sl, wt_b, wt_tru, wt_and, wt_or, wt_not, we_if, we_and, we_or, we_chain, we_get2, wp_nil, wp_cons, we_disp, wa_items, we_lc, wg_set, wg_tup, wgs_nil, wgs_cons, List.getElem?_cons_zero, List.getElem?_cons_succ, Option.some.injEq, Sl.val.injEq, Sl.uni.injEq, exists_eq_left', exists_eq_left, List.set_cons_zero, List.set_cons_succ, true_and, and_true, List.length_cons, List.length_nil, List.map_cons, List.map_nil, PyData.int.injEq, PyData.bool.injEq, PyData.tuple.injEq, PyData.list.injEq, PyData.str.injEq, w_add, w_sub, w_lt, w_le, w_gt, w_ge, w_eqI, w_neI, w_intB, itemsD, truD, slots, wipeR, List.cons_append, List.nil_append, Nat.reduceAdd, Nat.reduceSub, List.replicate_succ, List.replicate_zero, ↓reduceIte, Bool.false_eq_true, Bool.not_true, Bool.not_false, decide_true, decide_false, if_true, if_false])
theorem up_splitB {l done left : List (List Bool × Int)} {e e' : List Bool × Int} (hup : (l.map (·.2)).Pairwise (· < ·)) (hl : done ++ e :: left = l) (he : e' ∈ l) (hlt : e'.2 < e.2) : e' ∈ done := by
  rw [← hl] at he hup
  rcases List.mem_append.mp he with he | he
  · exact he
  · rw [List.map_append, List.pairwise_append] at hup
    have h2 := hup.2.1
    rw [List.map_cons, List.pairwise_cons] at h2
    rcases List.mem_cons.mp he with rfl | he
    · omega
    · have := h2.1 e'.2 (List.mem_map.mpr ⟨e', he, rfl⟩)
      omega
def dB (e : List Bool × Int) : D := .int e.2
theorem l_cover_ok {L : Int} {f : Forms} (h : WF L f) (hL : 1 ≤ L) (hL2 : L ≤ 60) : W1 (f_l_cover [dForms f]) (Cover f) := by
  have sb := sizeBig
  obtain ⟨R, eR, R0, R1, hR⟩ := round_ok h hL hL2
  obtain ⟨far, efar, f1, hfar⟩ := far_ok h
  have N : Near f far R := ⟨R0, R1, f1, hR, hfar⟩
  have hW := whB_ok f
  refine w1_fnP ?_
  unfold m_l_cover
  walk_at "wp"
  refine .of (z := .list ((whB f).map dB)) (l_firsts_eq h .whole (n := 321) (by decide) (d := 0) (.inl rfl) fun x hx => by unfold num; simp) ?_
  refine ⟨by omega, ?_⟩
  refine ws_forI (fun left ρ δ => ∃ (k : Nat) (s2 s3 s4 s5 s6 s7 : Sl), left = (rngL 3).drop k ∧ k ≤ 3 ∧ (∀ d n, Dk3 d → 0 ≤ n → d < k → cnt f n d = 1) ∧ ρ = [.val (dForms f), .val (.list ((whB f).map dB)), s2, s3, s4, s5, s6, s7]) (fun dd left ρ δ hI => ?_) (fun ρ δ hI => ?_) _ _ _ ⟨0, _, _, _, _, _, _, rfl, by decide, (fun d n hd _ hlt => by rcases hd with rfl | rfl | rfl <;> omega), rfl⟩
  · obtain ⟨k, s2, s3, s4, s5, s6, s7, e1, hk, hdone, rfl⟩ := hI
    have hk3 : k < 3 := by
      by_cases hq : k < 3
      · exact hq
      · have : k = 3 := by omega
        subst this
        cases e1
    have e2 : dd = .int (k : Int) ∧ left = (rngL 3).drop (k + 1) := by
      match k, hk3, e1 with
      | 0, _, e1 => cases e1; exact ⟨rfl, rfl⟩
      | 1, _, e1 => cases e1; exact ⟨rfl, rfl⟩
      | 2, _, e1 => cases e1; exact ⟨rfl, rfl⟩
    obtain ⟨rfl, rfl⟩ := e2
    have hd : Dk3 (k : Int) := by omega
    obtain ⟨t0, t1⟩ := ten_pos hd
    have ht : (((ten k).toNat : Nat) : Int) = ten k := Int.toNat_of_nonneg (by omega)
    walk_at "wp"
    refine ⟨by omega, .of (tens hd) ?_⟩
    show W1 (f_l_firsts [dForms f, .str "rest", .int (ten k), .int (k : Int)]) _
    refine .of (z := .list ((rsB f k).map dB)) (by
      have := l_firsts_eq h .rest (n := (ten k).toNat) (by omega) (d := (k : Int)) hd fun x hx => by
        show (x : Int) % ten k = x
        exact Int.emod_eq_of_lt (Int.natCast_nonneg _) (by omega)
      rw [ht] at this
      exact this) ?_
    have hU := rsB_ok f k
    have hrk : ∀ e ∈ rsB f k, 0 ≤ e.2 ∧ e.2 < ten k := fun e he => by
      obtain ⟨i, hi, hie⟩ := List.mem_map.mp (hU.mem e he).1
      have := List.mem_range.mp hi
      omega
    have hwk : ∀ e ∈ whB f, 0 ≤ e.2 ∧ e.2 < 321 := fun e he => by
      obtain ⟨i, hi, hie⟩ := List.mem_map.mp (hW.mem e he).1
      have := List.mem_range.mp hi
      omega
    have hmul : ∀ i : Int, mulD (.int i) (.int (ten k)) = some (.int (i * ten k)) := fun i => mulD_int (by unfold mulOk; rw [Bool.or_eq_true]; right; exact decide_eq_true ⟨by omega, by omega⟩)
    try walk_at "wp"
    refine ws_forI (fun left ρ δ => ∃ (done l : List (List Bool × Int)) (s4 s5 s6 s7 : Sl), done ++ l = whB f ∧ left = l.map dB ∧ (∀ w ∈ done, ∀ r ∈ rsB f k, cnt f (w.2 * ten k + r.2) k = 1) ∧ ρ = [.val (dForms f), .val (.list ((whB f).map dB)), .val (.int (k : Int)), .val (.list ((rsB f k).map dB)), s4, s5, s6, s7]) (fun dd left ρ δ hI => ?_) (fun ρ δ hI => ?_) _ _ _ ⟨[], whB f, _, _, _, _, List.nil_append _, rfl, (fun w hw => by simp at hw), rfl⟩
    · obtain ⟨done, l, s4, s5, s6, s7, e1, e2, hdn, rfl⟩ := hI
      match l, e2 with
      | w :: l, e2 =>
        rw [List.map_cons, List.cons.injEq] at e2
        obtain ⟨rfl, rfl⟩ := e2
        have hwm : w ∈ whB f := by rw [← e1]; simp
        obtain ⟨w0, w1⟩ := hwk w hwm
        rw [show dB w = .int w.2 from rfl]
        walk_at "wp"
        refine ws_forI (fun left ρ δ => ∃ (rd rl : List (List Bool × Int)) (s5 s6 s7 : Sl), rd ++ rl = rsB f k ∧ left = rl.map dB ∧ (∀ r ∈ rd, cnt f (w.2 * ten k + r.2) k = 1) ∧ ρ = [.val (dForms f), .val (.list ((whB f).map dB)), .val (.int (k : Int)), .val (.list ((rsB f k).map dB)), .val (.int w.2), s5, s6, s7]) (fun dd left ρ δ hI => ?_) (fun ρ δ hI => ?_) _ _ _ ⟨[], rsB f k, _, _, _, List.nil_append _, rfl, (fun r hr => by simp at hr), rfl⟩
        · obtain ⟨rd, rl, s5, s6, s7, e3, e4, hrd, rfl⟩ := hI
          match rl, e4 with
          | r :: rl, e4 =>
            rw [List.map_cons, List.cons.injEq] at e4
            obtain ⟨rfl, rfl⟩ := e4
            have hrm : r ∈ rsB f k := by rw [← e3]; simp
            obtain ⟨r0, r1⟩ := hrk r hrm
            rw [show dB r = .int r.2 from rfl]
            walk_at "wp"
            refine ⟨by omega, .of (tens hd) ?_⟩
            show W1 (mulD (.int w.2) (.int (ten k))) _
            refine .of (hmul w.2) ?_
            have hn0 : 0 ≤ w.2 * ten k + r.2 := by
              have := Int.mul_nonneg w0 (show 0 ≤ ten k by omega)
              omega
            try walk_at "wp"
            refine .of (l_words_eq ⟨hn0, hd⟩ h.ok) ?_
            try walk_at "wp"
            rw [w_lenL]
            try walk_at "wp"
            have hlen : (((words f (w.2 * ten k + r.2) k).map PyData.str).length : Int) = (cnt f (w.2 * ten k + r.2) k : Int) := by rw [List.length_map]; rfl
            rw [hlen]
            by_cases hc : cnt f (w.2 * ten k + r.2) k = 1
            · have hq : ((cnt f (w.2 * ten k + r.2) k : Nat) : Int) = 1 := by omega
              simp only [hq, decide_true, Bool.not_true, Bool.false_eq_true, if_false]
              refine ⟨rd ++ [r], rl, _, _, _, by rw [← e3]; simp, rfl, fun r' hr' => ?_, rfl⟩
              rcases List.mem_append.mp hr' with hr' | hr'
              · exact hrd r' hr'
              · simp at hr'; rw [hr']; exact hc
            · have hq : ¬ ((cnt f (w.2 * ten k + r.2) k : Nat) : Int) = 1 := by omega
              simp only [hq, decide_false, Bool.not_false, if_true]
              have fin : ∀ x : Str, x = (if cnt f (w.2 * ten k + r.2) k = 0 then Str.ofString "none" else Str.ofString "two") → Cover f (.tuple [.str x, .tuple [.int (w.2 * ten k + r.2), .int (k : Int)]]) := fun x hx => by
                have := mul_le (T := ten k) t0 (show w.2 ≤ 321 by omega)
                refine .inr ⟨w.2 * ten k + r.2, (k : Int), hn0, by omega, hd, by rw [hx]; unfold paper; rfl, hc, fun n' d' hn' hd' hlt => ?_⟩
                rcases hlt with hlt | ⟨rfl, hlt⟩
                · exact hdone d' n' hd' hn' hlt
                · exact amissB_first h N hd' hwm hrm (fun w' hw' hlt => hdn w' (up_splitB hW.up e1 hw' hlt)) (fun r' hr' hlt => hrd r' (up_splitB hU.up e3 hr' hlt)) n' hn' hlt
              try walk_at "wp"
              by_cases hz : cnt f (w.2 * ten k + r.2) k = 0
              · have hgt : ¬ (1 : Int) < ((cnt f (w.2 * ten k + r.2) k : Nat) : Int) := by omega
                refine ⟨by omega, ?_⟩
                rw [decide_eq_false hgt]
                exact .of rfl ⟨by omega, by omega, fin _ (by rw [if_pos hz])⟩
              · have hgt : (1 : Int) < ((cnt f (w.2 * ten k + r.2) k : Nat) : Int) := by omega
                refine ⟨by omega, ?_⟩
                rw [decide_eq_true hgt]
                exact .of rfl ⟨by omega, by omega, fin _ (by rw [if_neg hz])⟩
        · obtain ⟨rd, rl, s5, s6, s7, e3, e4, hrd, rfl⟩ := hI
          have : rl = [] := by simpa using e4
          subst this
          rw [List.append_nil] at e3
          rw [e3] at hrd
          refine ⟨done ++ [w], l, _, _, _, _, by rw [← e1]; simp, rfl, fun w' hw' => ?_, rfl⟩
          rcases List.mem_append.mp hw' with hw' | hw'
          · exact hdn w' hw'
          · simp at hw'; rw [hw']; exact hrd
    · obtain ⟨done, l, s4, s5, s6, s7, e1, e2, hdn, rfl⟩ := hI
      have : l = [] := by simpa using e2
      subst this
      rw [List.append_nil] at e1
      rw [e1] at hdn
      refine ⟨k + 1, _, _, _, _, _, _, rfl, by omega, fun d n hd' hn hlt => ?_, rfl⟩
      by_cases hq : d < (k : Int)
      · exact hdone d n hd' hn hq
      · have : d = (k : Int) := by omega
        subst this
        exact amissB_none h N hd' hdn n hn
  · obtain ⟨k, s2, s3, s4, s5, s6, s7, e1, hk, hdone, rfl⟩ := hI
    have hk3 : k = 3 := by
      match k, hk, e1 with
      | 0, _, e1 => cases e1
      | 1, _, e1 => cases e1
      | 2, _, e1 => cases e1
      | 3, _, _ => rfl
    subst hk3
    walk_at "wp"
    refine ⟨by omega, .inl ⟨rfl, fun n d hn hd => hdone d n hd hn (by omega)⟩⟩
/-- there is but one such paper -/
theorem Cover.one {f : Forms} {z z' : D} (h : Cover f z) (h' : Cover f z') : z = z' := by
  rcases h with ⟨rfl, h⟩ | ⟨n, d, n0, _, hd, rfl, hc, hm⟩
  · rcases h' with ⟨rfl, _⟩ | ⟨n, d, n0, _, hd, rfl, hc, _⟩
    · rfl
    · exact absurd (h n d n0 hd) hc
  · rcases h' with ⟨rfl, h'⟩ | ⟨n', d', n0', _, hd', rfl, hc', hm'⟩
    · exact absurd (h' n d n0 hd) hc
    · have e1 : d = d' := by
        rcases Int.lt_trichotomy d d' with q | q | q
        · exact absurd (hm' n d n0 hd (.inl q)) hc
        · exact q
        · exact absurd (hm n' d' n0' hd' (.inl q)) hc'
      subst e1
      have e2 : n = n' := by
        rcases Int.lt_trichotomy n n' with q | q | q
        · exact absurd (hm' n d n0 hd (.inr ⟨rfl, q⟩)) hc
        · exact q
        · exact absurd (hm n' d n0' hd' (.inr ⟨rfl, q⟩)) hc'
      rw [e2]
end K04
namespace K04
open PySem PySem.Spec PyProof.Rows L2 TL PD MT DL NC
local macro_rules | `(tactic| walk_at "lx") => `(tactic| try simp only [wl_gen, wl_seq, wl_app, wl_at, wl_for, ws_hid, we_lenU, we_ixU, ws_setU, ws_asgX, ws_retX, ws_uniS, wx_binL, we_lcKeys, wx_pop, wx_bin, ws_asg, ws_ret, ws_if, ws_next, ws_uni, ws_app, ws_frz, ws_aug, ws_for, onNx_nx, onNx_rt, onNx_bk, onNx_ct, onRt_rt, onRt_nx, we_var, we_c, we_bin, we_un, we_call, we_callK, wa_nil, wa_cons, we_tup, we_lst, wo_no, wo_some, we_sl, wt_b, wt_tru, wt_and, wt_or, wt_not, we_if, we_and, we_or, we_chain, we_get2, wp_nil, wp_cons, we_disp, wa_items, we_lc, wg_set, wg_tup, wg_lst, w_eqS, w_neS, w_eqT, wa_zip, wgs_nil, wgs_cons, List.getElem?_cons_zero, List.getElem?_cons_succ, Option.some.injEq, Sl.val.injEq, Sl.uni.injEq, exists_eq_left', exists_eq_left, List.set_cons_zero, List.set_cons_succ, true_and, and_true, List.length_cons, List.length_nil, List.map_cons, List.map_nil, PyData.int.injEq, PyData.bool.injEq, PyData.tuple.injEq, PyData.list.injEq, PyData.str.injEq, w_add, w_sub, w_lt, w_le, w_gt, w_ge, w_eqI, w_neI, w_intB, itemsD, truD, slots, wipeR, List.cons_append, List.nil_append, Nat.reduceAdd, Nat.reduceSub, List.replicate_succ, List.replicate_zero, ↓reduceIte, Bool.false_eq_true, Bool.not_true, Bool.not_false, decide_true, decide_false, if_true, if_false])
mutual
def txs : D → Bool
  | .str x => (tl x).all (· < 128)
  | .list ds => txss ds
  | .tuple ds => txss ds
  | _ => true
def txss : List D → Bool
  | [] => true
  | d :: ds => txs d && txss ds
end
structure Tg (m k : Nat) (d : D) : Prop where
  a : ascD d = true
  b : shB d ≤ k
  s : d.showable = true
  p : d.depth ≤ m
  t : txs d = true
  h : d.hasDict = false
  l : d.canLay0 = true
theorem Tg.mono {m k m' k' : Nat} {d : D} (h : Tg m k d) (hm : m ≤ m') (hk : k ≤ k') : Tg m' k' d := ⟨h.a, Nat.le_trans h.b hk, h.s, Nat.le_trans h.p hm, h.t, h.h, h.l⟩
theorem Tg.all {m k : Nat} : ∀ {ds : List D}, (∀ d ∈ ds, Tg m k d) → ascDs ds = true ∧ shBs ds ≤ (k + 2) * ds.length ∧ PyData.showableAll ds = true ∧ PyData.depthAll ds ≤ m ∧ txss ds = true ∧ PyData.hasDictAll ds = false ∧ PyData.canLayAll0 ds = true
  | [], _ => by simp [ascDs, shBs, PyData.showableAll, PyData.depthAll, txss, PyData.hasDictAll, PyData.canLayAll0]
  | d :: ds, h => by
    have h1 := h d (.head _)
    obtain ⟨a, b, c, f, g, e, l⟩ := Tg.all fun x hx => h x (.tail _ hx)
    refine ⟨by simp only [ascDs, h1.a, a, Bool.and_self], ?_, by simp only [PyData.showableAll, h1.s, c, Bool.and_self], ?_, by simp only [txss, h1.t, g, Bool.and_self], by simp only [PyData.hasDictAll, h1.h, e, Bool.or_self], by simp only [PyData.canLayAll0, h1.l, l, Bool.and_self]⟩
    · have := h1.b
      rw [shBs, List.length_cons, Nat.mul_succ]
      omega
    · have := h1.p
      simp only [PyData.depthAll]
      omega
theorem Tg.tup {m k : Nat} {ds : List D} (h : ∀ d ∈ ds, Tg m k d) : Tg (m + 1) ((k + 2) * ds.length + 3) (.tuple ds) := by
  obtain ⟨a, b, c, f, g, e, l⟩ := Tg.all h
  exact ⟨by simpa [ascD] using a, by simp only [shB]; omega, by simpa [PyData.showable] using c, by simp only [PyData.depth]; omega, by simpa [txs] using g, by simpa [PyData.hasDict] using e, by simpa [PyData.canLay0] using l⟩
theorem Tg.lst {m k : Nat} {ds : List D} (h : ∀ d ∈ ds, Tg m k d) : Tg (m + 1) ((k + 2) * ds.length + 3) (.list ds) := by
  obtain ⟨a, b, c, f, g, e, l⟩ := Tg.all h
  exact ⟨by simpa [ascD] using a, by simp only [shB]; omega, by simpa [PyData.showable] using c, by simp only [PyData.depth]; omega, by simpa [txs] using g, by simpa [PyData.hasDict] using e, by simpa [PyData.canLay0] using l⟩
/-- at most n of them -/
theorem Tg.tupN {m k n : Nat} {ds : List D} (h : ∀ d ∈ ds, Tg m k d) (hn : ds.length ≤ n) : Tg (m + 1) ((k + 2) * n + 3) (.tuple ds) := (Tg.tup h).mono (Nat.le_refl _) (by have := Nat.mul_le_mul_left (k + 2) hn; omega)
theorem Tg.lstN {m k n : Nat} {ds : List D} (h : ∀ d ∈ ds, Tg m k d) (hn : ds.length ≤ n) : Tg (m + 1) ((k + 2) * n + 3) (.list ds) := (Tg.lst h).mono (Nat.le_refl _) (by have := Nat.mul_le_mul_left (k + 2) hn; omega)
theorem Tg.str {n : Nat} {x : Str} (h : ∀ c ∈ tl x, c < 128) (hl : x.length ≤ n) : Tg 0 (10 * n + 2) (.str x) := by
  refine ⟨?_, ?_, by simp [PyData.showable], by simp [PyData.depth], ?_, by simp [PyData.hasDict], (Sh.str (strOk_lt fun c hc => Nat.lt_of_lt_of_le (h c hc) (by decide))).1⟩
  · simp only [ascD]
    refine List.all_eq_true.mpr fun c hc => decide_eq_true ?_
    exact Nat.lt_of_lt_of_le (h c hc) (by decide)
  · simp only [shB]; omega
  · simp only [txs]
    exact List.all_eq_true.mpr fun c hc => decide_eq_true (h c hc)
theorem repr_ok {m k : Nat} {d : D} (h : Tg m k d) (hm : m ≤ 60) (hk : k ≤ 1000000) : reprD [d] = some (.str d.shown) := by
  have sb := sizeBig
  have z : d.shown.length ≤ sizeLine := by have := shown_le d h.a; have := h.b; omega
  exact if_pos ⟨h.s, h.h, Nat.le_trans h.p hm, z⟩
theorem Tg.sh {m k : Nat} {d : D} (h : Tg m k d) : Sh m d := ⟨h.l, h.p⟩
def numB (lo hi : Int) : D → Bool
  | .int i => decide (lo ≤ i) && decide (i ≤ hi)
  | _ => false
theorem number_eq {lo hi : Int} (d : D) : f_is_number [d, .int lo, .int hi] = some (.bool (numB lo hi d)) := by
  have : W1 (f_is_number [d, .int lo, .int hi]) fun z => z = .bool (numB lo hi d) := by
    refine w1_fnP ?_
    unfold m_is_number
    walk_at "lx"
    cases d with
    | int i =>
      refine .of (z := .bool true) rfl ⟨_, rfl, ?_⟩
      rw [if_pos rfl]
      refine .of (z := .bool false) rfl (.of (z := .bool true) rfl ⟨_, rfl, ?_⟩)
      rw [if_pos rfl]
      walk_at "lx"
      show _
      by_cases h1 : lo ≤ i
      · rw [decide_eq_true h1, if_pos rfl]
        by_cases h2 : i ≤ hi
        · simp [numB, h1, h2]
        · simp [numB, h1, h2]
      · rw [decide_eq_false h1, if_neg Bool.false_ne_true]
        simp [numB, h1]
    | bool b =>
      refine .of (z := .bool true) rfl ⟨_, rfl, ?_⟩
      rw [if_pos rfl]
      refine .of (z := .bool true) rfl (.of (z := .bool false) rfl ⟨_, rfl, ?_⟩)
      rw [if_neg Bool.false_ne_true]
      rfl
    | none => exact .of (z := .bool false) rfl ⟨_, rfl, by rw [if_neg Bool.false_ne_true]; rfl⟩
    | str x => exact .of (z := .bool false) rfl ⟨_, rfl, by rw [if_neg Bool.false_ne_true]; rfl⟩
    | list ds => exact .of (z := .bool false) rfl ⟨_, rfl, by rw [if_neg Bool.false_ne_true]; rfl⟩
    | tuple ds => exact .of (z := .bool false) rfl ⟨_, rfl, by rw [if_neg Bool.false_ne_true]; rfl⟩
    | dict es => exact .of (z := .bool false) rfl ⟨_, rfl, by rw [if_neg Bool.false_ne_true]; rfl⟩
  obtain ⟨z, e, rfl⟩ := this
  exact e
theorem dr : f_l_draw = fDraw := rfl
structure Tx1 (x : Str) : Prop where
  c : ∀ c ∈ tl x, c < 128
  l : x.length ≤ 20
theorem Tx1.tg {x : Str} (h : Tx1 x) : Tg 0 202 (.str x) := Tg.str h.c h.l
theorem tg_of {L : List D} {m k : Nat} (h : L.all (fun d => ascD d && (decide (shB d ≤ k) && (d.showable && (decide (d.depth ≤ m) && (txs d && (!d.hasDict && d.canLay0)))))) = true) : ∀ d ∈ L, Tg m k d := fun d hd => by
  have := List.all_eq_true.mp h d hd
  simp only [Bool.and_eq_true, decide_eq_true_eq, Bool.not_eq_true'] at this
  exact ⟨this.1, this.2.1, this.2.2.1, this.2.2.2.1, this.2.2.2.2.1, this.2.2.2.2.2.1, this.2.2.2.2.2.2⟩
def odds : List D := [.none, .bool true, .bool false, .int (-1), .int 0, .int 1, .int 2, .int 61, .int 201, .int 1000000000001, .str (Str.ofString ""), .str (Str.ofString "a"), .str (Str.ofString "A"), .str (Str.ofString "whole"), .str (Str.ofString "abcdefghi"), .tuple [], .tuple [.tuple []], .list [], .tuple [.int 0]]
theorem odds_ok : ∀ d ∈ odds, Tg 3 200 d := tg_of (by decide +kernel)
theorem odd_wp {b : Nat} {δ : Dk} {P : D → Dk → Prop} (h : DkO b δ) (hb : b ≤ 1000000) (p : ∀ d δ', Tg 3 200 d → DkO (b + 1) δ' → P d δ') : WK f_l_odd [] δ P := by
  have sb := sizeBig
  refine wk_fnK ?_
  unfold m_l_odd
  rw [dr]
  simp only [ws_seq]
  walk_at "lx"
  refine .of (z := .int (-1)) rfl (.of (z := .int 1000000000000) rfl ?_)
  walk_at "lx"
  refine ⟨by omega, by omega, by omega, by omega, by omega, by omega, by omega, .of (addD_lst (by simp; omega)) ?_⟩
  refine draw_wp h (by omega) (by decide) (by decide) fun r δ1 r0 r1 h1 => ?_
  exact w_ixL (ds := odds) r0 r1 fun d hd => p d δ1 (odds_ok d hd) h1
theorem cut_mem {xs : List D} {lo hi : Option Int} : ∀ y ∈ PD.cutD xs lo hi, y ∈ xs := fun y hy => List.mem_of_mem_drop (List.mem_of_mem_take hy)
theorem cut_len {xs : List D} {lo hi : Option Int} : (PD.cutD xs lo hi).length ≤ xs.length := by
  unfold PD.cutD
  rw [List.length_take, List.length_drop]
  omega
theorem sl_any (xs : List D) (lo hi : Option Int) : slD lo hi (.tuple xs) = some (.tuple (PD.cutD xs lo hi)) := rfl
theorem up_T {x : Str} (h : Tx1 x) : Tx1 (Txt.upper x) := by
  rw [upper_ascii (x := x) h.c]
  refine ⟨fun c hc => ?_, ?_⟩
  · have hc : c ∈ (x.cps.map up1).toList := hc
    rw [Array.toList_map] at hc
    obtain ⟨e, he, rfl⟩ := List.mem_map.mp hc
    have := h.c e he
    unfold up1
    split <;> omega
  · have := h.l
    show (x.cps.map up1).size ≤ 20
    rw [Array.size_map]
    exact this
theorem rep_T {x : Str} {k : Nat} (h : Tx1 x) : (∀ c ∈ tl (repS x k), c < 128) ∧ (repS x k).length ≤ 20 * k := by
  refine ⟨fun c hc => ?_, ?_⟩
  · rw [tl_rep] at hc
    obtain ⟨l, hl, hc⟩ := List.mem_flatten.mp hc
    rw [(List.mem_replicate.mp hl).2] at hc
    exact h.c c hc
  · have := h.l
    rw [len_tl] at this
    rw [len_tl, tl_rep, List.length_flatten, List.map_replicate, List.sum_replicate_nat, Nat.mul_comm]
    exact Nat.mul_le_mul_right k this
def BtW (f : List D → Dk → Option (D × Dk)) (m k B c : Nat) (d : D) (deep : Int) : Prop := ∀ (b : Nat) (δ : Dk) (P : D → Dk → Prop), DkO b δ → b ≤ B → (∀ d' δ', Tg m k d' → DkO (b + c) δ' → P d' δ') → WK f [d, .int deep] δ P
theorem pick6 {L : List D} {M K b : Nat} {δ : Dk} {P : D → Dk → Prop} (hD : DkO b δ) (hb : b ≤ 200000) (h1 : L.length = 6) (hL : ∀ x ∈ L, Tg M K x) (p : ∀ d' δ', Tg M K d' → DkO (b + 1) δ' → P d' δ') : WK fDraw [.int 6] δ fun q δ2 => W1 (subD' (.list L) q) fun z => P z δ2 := by
  refine draw_wp hD (by omega) (by omega) (by omega) fun q δ1 q0 q1 h3 => ?_
  exact w_ixL q0 (by rw [h1]; exact q1) fun d hd => p d δ1 (hL d hd) h3
theorem bent_str {n : Nat} {deep : Int} {x : Str} (h : Tx1 x) : BtW (f_l_bent (n + 1)) 3 700 150000 10 (.str x) deep := fun b δ P hD hb p => by
  have sb := sizeBig
  have hl := h.l
  rw [f_l_bent]
  refine wk_fnK ?_
  unfold m_l_bent
  rw [dr, ws_seq, ws_if, wt_and]
  walk_at "lx"
  refine .of (z := .bool false) rfl ⟨_, rfl, ?_⟩
  rw [if_neg Bool.false_ne_true, ws_seq]
  walk_at "lx"
  refine draw_wp hD (by omega) (by decide) (by decide) fun way δ1 w0 w1 h1 => ?_
  rw [ws_seq, ws_if, wt_and]
  walk_at "lx"
  refine .of (z := .bool false) rfl ⟨_, rfl, ?_⟩
  rw [if_neg Bool.false_ne_true, ws_seq, ws_if, wt_and]
  walk_at "lx"
  refine .of (z := .bool false) rfl ⟨_, rfl, ?_⟩
  rw [if_neg Bool.false_ne_true, ws_seq, ws_if, wt_and]
  walk_at "lx"
  refine .of (z := .bool true) rfl ⟨_, rfl, ?_⟩
  rw [if_pos rfl]
  by_cases hw : 0 < way
  · rw [decide_eq_true hw, if_pos rfl]
    have hs : ∀ y : Str, (∀ c ∈ tl y, c < 128) → y.length ≤ 60 → Tg 3 700 (.str y) := fun y h1 h2 => (Tg.str h1 h2).mono (by decide) (by decide)
    have happ : ∀ s : Str, s.length = 1 → (∀ c ∈ tl s, c < 128) → Tg 3 700 (.str (x ++ s)) := fun s h1 h2 => hs _ (fun c hcc => by
      rw [tl_append] at hcc
      rcases List.mem_append.mp hcc with z | z
      · exact h.c c z
      · exact h2 c z) (by rw [len_tl, tl_append, List.length_append, ← len_tl, ← len_tl]; omega)
    have hadd : ∀ s : Str, s.length = 1 → addD (.str x) (.str s) = some (.str (x ++ s)) := fun s h1 => addD_str (by omega)
    have e1 : (Str.ofString "a").length = 1 := by decide +kernel
    have e2 : (Str.ofString " ").length = 1 := by decide +kernel
    refine .of (hadd _ e1) (.of (z := .int (-1)) rfl ⟨_, rfl, .of (z := .str (cutS x none (some (-1)))) (if_pos (by omega)) (.of (z := .str (Txt.upper x)) (if_pos (by omega)) (.of (hadd _ e2) ⟨by omega, .of (z := .str (repS x 3)) (if_pos ⟨by decide, by decide, by omega⟩) ⟨by omega, ?_⟩⟩))⟩)
    refine pick6 h1 (by omega) rfl (fun d hd => ?_) fun d' δ' t hh => p d' δ' t (hh.mono (by omega))
    simp only [List.mem_cons, List.not_mem_nil, or_false] at hd
    rcases hd with rfl | rfl | rfl | rfl | rfl | rfl
    · exact happ _ e1 (by decide +kernel)
    · exact hs _ (fun c hcc => h.c c (List.mem_of_mem_drop (List.mem_of_mem_take hcc))) (Nat.le_trans (cutS_length ..) (by omega))
    · exact hs _ (up_T h).c (by have := (up_T h).l; omega)
    · exact happ _ e2 (by decide +kernel)
    · exact (Tg.tupN (n := 1) (fun y hy => by rw [List.mem_singleton.mp hy]; exact h.tg) (by simp)).mono (by decide) (by decide)
    · exact hs _ (rep_T h).1 (by have := (rep_T (k := 3) h).2; omega)
  · rw [decide_eq_false hw, if_neg Bool.false_ne_true]
    exact odd_wp h1 (by omega) fun d δ' t hh => p d δ' (t.mono (by decide) (by decide)) (hh.mono (by omega))
theorem bent_tup {n m k m' k' N M K B c : Nat} {xs : List D} {deep : Int} (hN : xs.length ≤ N) (hN2 : N ≤ 100) (hdp : 0 < deep) (hB : B ≤ 150000) (hx : ∀ x ∈ xs, Tg m k x) (ih : ∀ x ∈ xs, BtW (f_l_bent n) m' k' (B + 10) c x (deep - 1))
    (hm : m ≤ m') (hk : k ≤ k') (h3 : 3 ≤ m') (h200 : 200 ≤ k') (a1 : (k' + 2) * (2 * N + 1) + 3 ≤ K) (a2 : 200 ≤ K) (b1 : m' + 1 ≤ M) : BtW (f_l_bent (n + 1)) M K B (c + 10) (.tuple xs) deep := fun b δ P hD hb p => by
  have sb := sizeBig
  have hxm : ∀ x ∈ xs, Tg m' k' x := fun x h => (hx x h).mono hm hk
  have hT : ∀ ys : List D, (∀ y ∈ ys, Tg m' k' y) → ys.length ≤ 2 * N + 1 → Tg M K (.tuple ys) ∧ Tg M K (.list ys) := fun ys h1 h2 => ⟨(Tg.tupN h1 h2).mono b1 a1, (Tg.lstN h1 h2).mono b1 a1⟩
  rw [f_l_bent]
  refine wk_fnK ?_
  unfold m_l_bent
  rw [dr, ws_seq, ws_if, wt_and]
  walk_at "lx"
  refine .of (z := .bool true) rfl ⟨_, rfl, ?_⟩
  rw [if_pos rfl]
  refine .of (z := .int (xs.length : Int)) rfl ?_
  walk_at "lx"
  by_cases h0 : 0 < xs.length
  · rw [decide_eq_true (show (0 : Int) < (xs.length : Int) by omega), if_pos rfl]
    rw [decide_eq_true hdp, if_pos rfl]
    refine draw_wp hD (by omega) (by decide) (by decide) fun r δ1 r0 r1 h1 => ?_
    walk_at "lx"
    by_cases hr : 0 < r
    · rw [decide_eq_true hr, if_pos rfl, ws_seq]
      walk_at "lx"
      refine .of (z := .int (xs.length : Int)) rfl ?_
      refine draw_wp h1 (by omega) (by omega) (by omega) fun s δ2 s0 s1 h2 => ?_
      obtain ⟨i, rfl⟩ := Int.eq_ofNat_of_zero_le s0
      have hi : i < xs.length := by omega
      walk_at "lx"
      refine .of (sl_any xs _ _) (.of (ix_tupl xs (i : Int) (d := xs[i]) ?_) ?_)
      · unfold atI
        rw [ixN_in (by omega) (by omega)]
        exact List.getElem?_eq_getElem hi
      refine ih xs[i] (List.getElem_mem hi) _ δ2 _ h2 (by omega) fun d' δ3 t hh => ?_
      have l1 := cut_len (xs := xs) (lo := none) (hi := some (i : Int))
      have l2 := cut_len (xs := xs) (lo := some ((i : Int) + 1)) (hi := none)
      refine ⟨by omega, .of (addD_tup (by simp; omega)) (.of (sl_any xs _ _) (.of (addD_tup (by rw [List.length_append]; simp; omega)) ?_))⟩
      refine p _ δ3 (hT _ (fun z hz => ?_) ?_).1 (hh.mono (by omega))
      · rcases List.mem_append.mp hz with hz | hz
        · rcases List.mem_append.mp hz with hz | hz
          · exact hxm z (cut_mem z hz)
          · rw [List.mem_singleton.mp hz]; exact t
        · exact hxm z (cut_mem z hz)
      · rw [List.length_append, List.length_append]
        simp only [List.length_cons, List.length_nil]
        omega
    · rw [decide_eq_false hr, if_neg Bool.false_ne_true, ws_seq]
      walk_at "lx"
      refine draw_wp h1 (by omega) (by decide) (by decide) fun way δ2 w0 w1 h2 => ?_
      rw [ws_seq, ws_if, wt_and]
      walk_at "lx"
      refine .of (z := .bool true) rfl ⟨_, rfl, ?_⟩
      rw [if_pos rfl]
      by_cases hw : 0 < way
      · rw [decide_eq_true hw, if_pos rfl, ws_seq]
        walk_at "lx"
        refine odd_wp h2 (by omega) fun d δ3 t hh => ?_
        have l1 := cut_len (xs := xs) (lo := none) (hi := some (-1))
        have l2 := cut_len (xs := xs) (lo := some (-1)) (hi := none)
        have l3 := cut_len (xs := xs) (lo := some 1) (hi := none)
        have l4 := cut_len (xs := xs) (lo := none) (hi := some 1)
        refine ⟨by omega, .of (addD_tup (by simp; omega)) ?_⟩
        refine .of (z := .int (-1)) rfl ⟨_, rfl, .of (sl_any xs _ _) (.of (z := .tuple xs.reverse) rfl (.of (z := .int (-1)) rfl ⟨_, rfl, .of (sl_any xs _ _) (.of (addD_tup (by omega)) (.of (sl_any xs _ _) (.of (sl_any xs _ _) (.of (addD_tup (by omega)) ?_))))⟩))⟩
        refine ⟨by omega, .of (z := .list xs) rfl ⟨by omega, .of (addD_lst (by simp; omega)) ?_⟩⟩
        refine pick6 hh (by omega) rfl (fun d hd => ?_) fun d' δ' t h' => p d' δ' t (h'.mono (by omega))
        simp only [List.cons_append, List.nil_append, List.mem_cons, List.not_mem_nil, or_false] at hd
        rcases hd with rfl | rfl | rfl | rfl | rfl | rfl
        · exact (hT xs hxm (by omega)).2
        · exact (hT _ (fun z hz => (List.mem_append.mp hz).elim (hxm z) fun hz => by rw [List.mem_singleton.mp hz]; exact t.mono h3 h200) (by simp; omega)).1
        · exact (hT _ (fun z hz => hxm z (cut_mem z hz)) (by omega)).1
        · exact (hT _ (fun z hz => hxm z (List.mem_reverse.mp hz)) (by rw [List.length_reverse]; omega)).1
        · exact (hT _ (fun z hz => (List.mem_append.mp hz).elim (hxm z) fun hz => hxm z (cut_mem z hz)) (by rw [List.length_append]; omega)).1
        · exact (hT _ (fun z hz => (List.mem_append.mp hz).elim (fun hz => hxm z (cut_mem z hz)) fun hz => hxm z (cut_mem z hz)) (by rw [List.length_append]; omega)).1
      · rw [decide_eq_false hw, if_neg Bool.false_ne_true, ws_seq, ws_if, wt_and]
        walk_at "lx"
        refine .of (z := .bool false) rfl ⟨_, rfl, ?_⟩
        rw [if_neg Bool.false_ne_true, ws_seq, ws_if, wt_and]
        walk_at "lx"
        refine .of (z := .bool false) rfl ⟨_, rfl, ?_⟩
        rw [if_neg Bool.false_ne_true]
        exact odd_wp h2 (by omega) fun d δ' t hh => p d δ' (t.mono (by omega) a2) (hh.mono (by omega))
  · rw [decide_eq_false (show ¬ (0 : Int) < (xs.length : Int) by omega), if_neg Bool.false_ne_true, ws_seq]
    have h1 : DkO (b + 1) δ := hD.mono (by omega)
    walk_at "lx"
    refine draw_wp h1 (by omega) (by decide) (by decide) fun way δ2 w0 w1 h2 => ?_
    rw [ws_seq, ws_if, wt_and]
    walk_at "lx"
    refine .of (z := .bool true) rfl ⟨_, rfl, ?_⟩
    rw [if_pos rfl]
    by_cases hw : 0 < way
    · rw [decide_eq_true hw, if_pos rfl, ws_seq]
      walk_at "lx"
      refine odd_wp h2 (by omega) fun d δ3 t hh => ?_
      have l1 := cut_len (xs := xs) (lo := none) (hi := some (-1))
      have l2 := cut_len (xs := xs) (lo := some (-1)) (hi := none)
      have l3 := cut_len (xs := xs) (lo := some 1) (hi := none)
      have l4 := cut_len (xs := xs) (lo := none) (hi := some 1)
      refine ⟨by omega, .of (addD_tup (by simp; omega)) ?_⟩
      refine .of (z := .int (-1)) rfl ⟨_, rfl, .of (sl_any xs _ _) (.of (z := .tuple xs.reverse) rfl (.of (z := .int (-1)) rfl ⟨_, rfl, .of (sl_any xs _ _) (.of (addD_tup (by omega)) (.of (sl_any xs _ _) (.of (sl_any xs _ _) (.of (addD_tup (by omega)) ?_))))⟩))⟩
      refine ⟨by omega, .of (z := .list xs) rfl ⟨by omega, .of (addD_lst (by simp; omega)) ?_⟩⟩
      refine pick6 hh (by omega) rfl (fun d hd => ?_) fun d' δ' t h' => p d' δ' t (h'.mono (by omega))
      simp only [List.cons_append, List.nil_append, List.mem_cons, List.not_mem_nil, or_false] at hd
      rcases hd with rfl | rfl | rfl | rfl | rfl | rfl
      · exact (hT xs hxm (by omega)).2
      · exact (hT _ (fun z hz => (List.mem_append.mp hz).elim (hxm z) fun hz => by rw [List.mem_singleton.mp hz]; exact t.mono h3 h200) (by simp; omega)).1
      · exact (hT _ (fun z hz => hxm z (cut_mem z hz)) (by omega)).1
      · exact (hT _ (fun z hz => hxm z (List.mem_reverse.mp hz)) (by rw [List.length_reverse]; omega)).1
      · exact (hT _ (fun z hz => (List.mem_append.mp hz).elim (hxm z) fun hz => hxm z (cut_mem z hz)) (by rw [List.length_append]; omega)).1
      · exact (hT _ (fun z hz => (List.mem_append.mp hz).elim (fun hz => hxm z (cut_mem z hz)) fun hz => hxm z (cut_mem z hz)) (by rw [List.length_append]; omega)).1
    · rw [decide_eq_false hw, if_neg Bool.false_ne_true, ws_seq, ws_if, wt_and]
      walk_at "lx"
      refine .of (z := .bool false) rfl ⟨_, rfl, ?_⟩
      rw [if_neg Bool.false_ne_true, ws_seq, ws_if, wt_and]
      walk_at "lx"
      refine .of (z := .bool false) rfl ⟨_, rfl, ?_⟩
      rw [if_neg Bool.false_ne_true]
      exact odd_wp h2 (by omega) fun d δ' t hh => p d δ' (t.mono (by omega) a2) (hh.mono (by omega))
end K04
namespace K04
open PySem PySem.Spec PyProof.Rows L2 TL PD MT DL NC
local macro_rules | `(tactic| walk_at "lx") => `(tactic| simp only [wl_gen, wl_seq, wl_app, wl_at, wl_for, ws_hid, we_lenU, we_ixU, ws_setU, ws_asgX, ws_retX, ws_uniS, wx_binL, we_lcKeys, wx_pop, wx_bin, ws_asg, ws_ret, ws_if, ws_next, ws_uni, ws_app, ws_frz, ws_aug, ws_for, onNx_nx, onNx_rt, onNx_bk, onNx_ct, onRt_rt, onRt_nx, we_var, we_c, we_bin, we_un, we_call, we_callK, wa_nil, wa_cons, we_tup, we_lst, wo_no, wo_some, we_sl, wt_b, wt_tru, wt_and, wt_or, wt_not, we_if, we_and, we_or, we_chain, we_get2, wp_nil, wp_cons, we_disp, wa_items, we_lc, wg_set, wg_tup, wg_lst, w_eqS, w_neS, wgs_nil, wgs_cons, List.getElem?_cons_zero, List.getElem?_cons_succ, Option.some.injEq, Sl.val.injEq, Sl.uni.injEq, exists_eq_left', exists_eq_left, List.set_cons_zero, List.set_cons_succ, true_and, and_true, List.length_cons, List.length_nil, List.map_cons, List.map_nil, PyData.int.injEq, PyData.bool.injEq, PyData.tuple.injEq, PyData.list.injEq, PyData.str.injEq, w_add, w_sub, w_lt, w_le, w_gt, w_ge, w_eqI, w_neI, w_intB, itemsD, truD, slots, wipeR, List.cons_append, List.nil_append, Nat.reduceAdd, Nat.reduceSub, List.replicate_succ, List.replicate_zero, ↓reduceIte, Bool.false_eq_true, Bool.not_true, Bool.not_false, decide_true, decide_false, if_true, if_false])
def tupB (a b : Int) : D → Bool
  | .tuple ds => decide (a ≤ (ds.length : Int)) && decide ((ds.length : Int) ≤ b)
  | _ => false
theorem tup_any (d : D) (a b : Int) : f_is_tuple [d, .int a, .int b] = some (.bool (tupB a b d)) := by
  have : ∀ d : D, isiD "tuple" d = some (.bool false) → f_is_tuple [d, .int a, .int b] = some (.bool false) := fun d hd => by
    have : W1 (f_is_tuple [d, .int a, .int b]) fun z => z = .bool false := by
      refine w1_fnP ?_
      unfold m_is_tuple
      walk_at "lx"
      exact .of hd ⟨_, rfl, by rw [if_neg Bool.false_ne_true]; trivial⟩
    obtain ⟨z, e, rfl⟩ := this
    exact e
  cases d with
  | tuple ds => exact is_tuple_eq ds a b
  | _ => exact this _ rfl
def cntB : D → Bool
  | .tuple [x, y] => numB 0 1000000000000 x && numB 0 2 y
  | _ => false
theorem cntB_two (x y : D) : cntB (.tuple [x, y]) = (numB 0 1000000000000 x && numB 0 2 y) := rfl
theorem tup2 {d : D} (h : tupB 2 2 d = true) : ∃ x y, d = .tuple [x, y] := by
  match d, h with
  | .tuple ds, h =>
    have hl : ds.length = 2 := by
      unfold tupB at h
      rw [Bool.and_eq_true] at h
      have := of_decide_eq_true h.1
      have := of_decide_eq_true h.2
      omega
    match ds, hl with
    | [x, y], _ => exact ⟨x, y, rfl⟩
theorem cntB_no {d : D} (h : tupB 2 2 d = false) : cntB d = false := by
  unfold cntB
  split
  · exact Bool.noConfusion (show true = false from h)
  · rfl
theorem count_any (d : D) : f_is_count [d] = some (.bool (cntB d)) := by
  have : W1 (f_is_count [d]) fun z => z = .bool (cntB d) := by
    refine w1_fnP ?_
    unfold m_is_count mCallD
    walk_at "lx"
    refine .of (tup_any d 2 2) ⟨_, rfl, ?_⟩
    by_cases h : tupB 2 2 d = true
    · rw [if_pos h]
      obtain ⟨x, y, rfl⟩ := tup2 h
      refine .of (z := x) rfl (.of (number_eq x) ⟨_, rfl, ?_⟩)
      by_cases hx : numB 0 1000000000000 x = true
      · rw [if_pos hx]
        refine .of (z := y) rfl (.of (number_eq y) ?_)
        rw [cntB_two, hx, Bool.true_and]
      · have hx : numB 0 1000000000000 x = false := by simpa using hx
        rw [hx, if_neg Bool.false_ne_true]
        rw [cntB_two, hx, Bool.false_and]
    · have h : tupB 2 2 d = false := by simpa using h
      rw [h, if_neg Bool.false_ne_true, cntB_no h]
  obtain ⟨z, e, rfl⟩ := this
  exact e
theorem cntB_inv {d : D} (h : cntB d = true) : ∃ n e : Int, d = .tuple [.int n, .int e] ∧ 0 ≤ n ∧ n ≤ 1000000000000 ∧ Dk3 e := by
  unfold cntB at h
  split at h
  · rename_i x y
    rw [Bool.and_eq_true] at h
    obtain ⟨h1, h2⟩ := h
    unfold numB at h1 h2
    split at h1
    · split at h2
      · rw [Bool.and_eq_true] at h1 h2
        have := of_decide_eq_true h1.1
        have := of_decide_eq_true h1.2
        have := of_decide_eq_true h2.1
        have := of_decide_eq_true h2.2
        exact ⟨_, _, rfl, by omega, by omega, by omega⟩
      · cases h2
    · cases h1
  · cases h
def nmJ : Str := Str.ofString "just"
def nmN : Str := Str.ofString "none"
def nmT : Str := Str.ofString "two"
/-- what the words say of a count -/
def say (f : Forms) (x : D) (n d : Int) : Bool := if isS nmN x = true then decide (cnt f n d = 0) else if isS nmT x = true then decide (2 ≤ cnt f n d) else false
def chp (f : Forms) (x : D) : D → Bool
  | .tuple [.int n, .int d] => cntB (.tuple [.int n, .int d]) && say f x n d
  | _ => false
def chl (f : Forms) (c : Bool) : D → Bool
  | .tuple [x] => isS nmJ x && c
  | .tuple [x, y] => chp f x y
  | _ => false
theorem chl_one (f : Forms) (c : Bool) (x : D) : chl f c (.tuple [x]) = (isS nmJ x && c) := rfl
theorem chl_cnt (f : Forms) (c : Bool) (x : D) (n e : Int) : chl f c (.tuple [x, .tuple [.int n, .int e]]) = (cntB (.tuple [.int n, .int e]) && say f x n e) := rfl
theorem chl_nc {f : Forms} {c : Bool} {x y : D} (h : cntB y = false) : chl f c (.tuple [x, y]) = false := by
  show chp f x y = false
  unfold chp
  split
  · rw [h, Bool.false_and]
  · rfl
theorem chl_no {f : Forms} {c : Bool} {d : D} (h1 : tupB 1 1 d = false) (h2 : tupB 2 2 d = false) : chl f c d = false := by
  match d with
  | .tuple [] => rfl
  | .tuple [x] => exact Bool.noConfusion (show true = false from h1)
  | .tuple [x, y] => exact Bool.noConfusion (show true = false from h2)
  | .tuple (_ :: _ :: _ :: _) => rfl
  | .none => rfl
  | .bool _ => rfl
  | .int _ => rfl
  | .str _ => rfl
  | .list _ => rfl
  | .dict _ => rfl
theorem isS_eqv (y : Str) (x : D) : PyData.eqv x (.str y) = isS y x := by
  cases x <;> rfl
theorem nm_ne : (isS nmN (.str nmT) = false) ∧ isS nmT (.str nmN) = false := by decide +kernel
theorem isS_ex {y : Str} {x : D} (h : isS y x = true) : x = .str y := by
  cases x with
  | str z =>
    have : z = y := eq_of_beq (show (z == y) = true from h)
    rw [this]
  | _ => cases h
theorem holds_any {L : Int} {f : Forms} (h : WF L f) (hL : 1 ≤ L) (hL2 : L ≤ 60) {c : Bool} {z0 : D} (hz : f_cover [dForms f] = some z0) (hc : eqD z0 (.tuple [.str "just"]) = some (.bool c)) {d : D} {m : Nat} (hd : Sh m d) (hm : m ≤ 50) : f_cover_holds [dForms f, d] = some (.bool (chl f c d)) := by
  have : W1 (f_cover_holds [dForms f, d]) fun z => z = .bool (chl f c d) := by
    have sb := sizeBig
    refine w1_fnP ?_
    unfold m_cover_holds
    rw [ws_seq]
    walk_at "lx"
    refine .of (tup_any d 1 1) ⟨_, rfl, ?_⟩
    by_cases h1 : tupB 1 1 d = true
    · rw [if_pos h1]
      have : ∃ x, d = .tuple [x] := by
        match d, h1 with
        | .tuple ds, h =>
          have hl : ds.length = 1 := by
            unfold tupB at h
            rw [Bool.and_eq_true] at h
            have := of_decide_eq_true h.1
            have := of_decide_eq_true h.2
            omega
          match ds, hl with
          | [x], _ => exact ⟨x, rfl⟩
      obtain ⟨x, rfl⟩ := this
      have e1 : eqD (.tuple [x]) (.tuple [.str "just"]) = some (.bool (isS nmJ x)) := by
        rw [eqD_of hd sh_just (by omega) (by decide)]
        show some (PyData.bool (PyData.eqvAll [x] [.str "just"])) = _
        simp only [PyData.eqvAll, Bool.and_true]
        rw [show PyData.eqv x (.str "just") = isS nmJ x from isS_eqv _ _]
      refine ⟨by omega, .of e1 ⟨_, rfl, ?_⟩⟩
      by_cases hx : isS nmJ x = true
      · rw [if_pos hx]
        refine .of hz ⟨by omega, .of hc ?_⟩
        rw [chl_one, hx, Bool.true_and]
      · have hx : isS nmJ x = false := by simpa using hx
        rw [hx, if_neg Bool.false_ne_true]
        rw [chl_one, hx, Bool.false_and]
    · have h1 : tupB 1 1 d = false := by simpa using h1
      rw [h1, if_neg Bool.false_ne_true, ws_seq]
      walk_at "lx"
      refine .of (tup_any d 2 2) ⟨_, rfl, ?_⟩
      by_cases h2 : tupB 2 2 d = true
      · rw [h2, if_neg (by decide)]
        obtain ⟨x, y, rfl⟩ := tup2 h2
        refine .of (z := y) rfl (.of (count_any y) ⟨_, rfl, ?_⟩)
        by_cases hy : cntB y = true
        · rw [hy, if_neg (by decide), ws_seq]
          obtain ⟨n, e, rfl, n0, n1, he⟩ := cntB_inv hy
          walk_at "lx"
          refine .of (z := .tuple [.int n, .int e]) rfl (.of (forms_eq h.ok ⟨n0, he⟩) ?_)
          rw [w_lenT]
          have hl : ((((words f n e).map PyData.str).length : Nat) : Int) = (cnt f n e : Int) := by rw [List.length_map]; rfl
          rw [hl]
          walk_at "lx"
          refine .of (z := x) rfl ?_
          rw [w_eqT]
          refine ⟨_, rfl, ?_⟩
          rw [chl_cnt, hy, Bool.true_and]
          unfold say
          by_cases hN : isS nmN x = true
          · rw [show isS (Str.ofString "none") x = true from hN, if_pos rfl, if_pos hN]
            have hx := isS_ex hN
            have hT : isS nmT x = false := by rw [hx]; exact nm_ne.2
            by_cases h0 : cnt f n e = 0
            · have h0' : (cnt f n e : Int) = 0 := by omega
              rw [decide_eq_true h0', if_pos rfl, decide_eq_true h0]
            · have h0' : ¬ (cnt f n e : Int) = 0 := by omega
              rw [decide_eq_false h0', if_neg Bool.false_ne_true, decide_eq_false h0]
              refine .of (z := x) rfl ?_
              rw [w_eqT]
              refine ⟨_, rfl, ?_⟩
              rw [show isS (Str.ofString "two") x = false from hT, if_neg Bool.false_ne_true]
          · have hN : isS nmN x = false := by simpa using hN
            rw [show isS (Str.ofString "none") x = false from hN, if_neg Bool.false_ne_true, if_neg (by rw [hN]; exact Bool.false_ne_true)]
            refine .of (z := x) rfl ?_
            rw [w_eqT]
            refine ⟨_, rfl, ?_⟩
            by_cases hT : isS nmT x = true
            · rw [show isS (Str.ofString "two") x = true from hT, if_pos rfl, if_pos hT]
              exact decide_eq_decide.mpr (by omega)
            · have hT : isS nmT x = false := by simpa using hT
              rw [show isS (Str.ofString "two") x = false from hT, if_neg Bool.false_ne_true, if_neg (by rw [hT]; exact Bool.false_ne_true)]
        · have hy : cntB y = false := by simpa using hy
          rw [hy, if_pos (by decide), chl_nc hy]
      · have h2 : tupB 2 2 d = false := by simpa using h2
        rw [h2, if_pos (by decide), chl_no h1 h2]
  obtain ⟨z, e, rfl⟩ := this
  exact e
end K04
namespace K04
open PySem PySem.Spec PyProof.Rows L2 TL PD MT DL NC
local macro_rules | `(tactic| walk_at "lx") => `(tactic| simp only [wl_gen, wl_seq, wl_app, wl_at, wl_for, ws_hid, we_lenU, we_ixU, ws_setU, ws_asgX, ws_retX, ws_uniS, wx_binL, we_lcKeys, wx_pop, wx_bin, ws_asg, ws_ret, ws_if, ws_next, ws_uni, ws_app, ws_frz, ws_aug, ws_for, onNx_nx, onNx_rt, onNx_bk, onNx_ct, onRt_rt, onRt_nx, we_var, we_c, we_bin, we_un, we_call, we_callK, wa_nil, wa_cons, we_tup, we_lst, wo_no, wo_some, we_sl, wt_b, wt_tru, wt_and, wt_or, wt_not, we_if, we_and, we_or, we_chain, we_get2, wp_nil, wp_cons, we_disp, wa_items, we_lc, wg_set, wg_tup, wg_lst, w_eqS, w_neS, wgs_nil, wgs_cons, List.getElem?_cons_zero, List.getElem?_cons_succ, Option.some.injEq, Sl.val.injEq, Sl.uni.injEq, exists_eq_left', exists_eq_left, List.set_cons_zero, List.set_cons_succ, true_and, and_true, List.length_cons, List.length_nil, List.map_cons, List.map_nil, PyData.int.injEq, PyData.bool.injEq, PyData.tuple.injEq, PyData.list.injEq, PyData.str.injEq, w_add, w_sub, w_lt, w_le, w_gt, w_ge, w_eqI, w_neI, w_intB, itemsD, truD, slots, wipeR, List.cons_append, List.nil_append, Nat.reduceAdd, Nat.reduceSub, List.replicate_succ, List.replicate_zero, ↓reduceIte, Bool.false_eq_true, Bool.not_true, Bool.not_false, decide_true, decide_false, if_true, if_false])
def isI : D → Bool
  | .int _ => true
  | _ => false
theorem whole_eq (d : D) : f_l_whole [d] = some (.bool (isI d)) := by
  have : W1 (f_l_whole [d]) fun z => z = .bool (isI d) := by
    refine w1_fnP ?_
    unfold m_l_whole
    walk_at "lx"
    cases d with
    | int i => exact .of (z := .bool true) rfl ⟨_, rfl, by rw [if_pos rfl]; exact .of (z := .bool false) rfl (.of (z := .bool true) rfl rfl)⟩
    | bool b => exact .of (z := .bool true) rfl ⟨_, rfl, by rw [if_pos rfl]; exact .of (z := .bool true) rfl (.of (z := .bool false) rfl rfl)⟩
    | none => exact .of (z := .bool false) rfl ⟨_, rfl, by rw [if_neg Bool.false_ne_true]; rfl⟩
    | str x => exact .of (z := .bool false) rfl ⟨_, rfl, by rw [if_neg Bool.false_ne_true]; rfl⟩
    | list ds => exact .of (z := .bool false) rfl ⟨_, rfl, by rw [if_neg Bool.false_ne_true]; rfl⟩
    | tuple ds => exact .of (z := .bool false) rfl ⟨_, rfl, by rw [if_neg Bool.false_ne_true]; rfl⟩
    | dict es => exact .of (z := .bool false) rfl ⟨_, rfl, by rw [if_neg Bool.false_ne_true]; rfl⟩
  obtain ⟨z, e, rfl⟩ := this
  exact e
theorem nt_any (s : Str) : ([PyData.str (Str.ofString "none"), .str (Str.ofString "two")].any fun z => PyData.eqv z (.str s)) = (isS nmN (.str s) || isS nmT (.str s)) := by
  show ((Str.ofString "none" == s) || ((Str.ofString "two" == s) || false)) = ((s == Str.ofString "none") || (s == Str.ofString "two"))
  rw [Bool.or_false, BEq.comm (a := Str.ofString "none"), BEq.comm (a := Str.ofString "two")]
theorem inNT {s : Str} (hx : PyData.strOk s = true) : inD true (.str s) (.list [.str (Str.ofString "none"), .str (Str.ofString "two")]) = some (.bool (true ^^ (isS nmN (.str s) || isS nmT (.str s)))) := by
  have e1 : SeqAt.shaped (.str s) = true := (Sh.str hx).ok (by decide)
  have e2 : SeqAt.shaped (.list [.str (Str.ofString "none"), .str (Str.ofString "two")]) = true := by decide +kernel
  have e3 : inL true (.str s) (.list [.str (Str.ofString "none"), .str (Str.ofString "two")]) = some (.bool (true ^^ (isS nmN (.str s) || isS nmT (.str s)))) := by
    show (if (SeqAt.shaped (.str s) && SeqAt.shaped (.list [.str (Str.ofString "none"), .str (Str.ofString "two")])) = true then some (PyData.bool (true ^^ _)) else none) = _
    rw [e1, e2, nt_any]
    rfl
  show (inL true (.str s) (.list [.str (Str.ofString "none"), .str (Str.ofString "two")])).orElse _ = _
  rw [e3]
  rfl
theorem chl_len {f : Forms} {c : Bool} {ds : List D} (h1 : ds.length ≠ 1) (h2 : ds.length ≠ 2) : chl f c (.tuple ds) = false := by
  match ds, h1, h2 with
  | [], _, _ => rfl
  | [x], h, _ => exact absurd rfl h
  | [x, y], _, h => exact absurd rfl h
  | _ :: _ :: _ :: _, _, _ => rfl
theorem chp_say {f : Forms} {x y : D} (h1 : isS nmN x = false) (h2 : isS nmT x = false) : chp f x y = false := by
  unfold chp
  split
  · unfold say
    rw [if_neg (by rw [h1]; exact Bool.false_ne_true), if_neg (by rw [h2]; exact Bool.false_ne_true), Bool.and_false]
  · rfl
def isTu : D → Bool
  | .tuple _ => true
  | _ => false
def isSt : D → Bool
  | .str _ => true
  | _ => false
theorem isiTup (d : D) : isiD "tuple" d = some (.bool (isTu d)) := by cases d <;> rfl
theorem isiStr (d : D) : isiD "str" d = some (.bool (isSt d)) := by cases d <;> rfl
theorem chl_nt {f : Forms} {c : Bool} {d : D} (h : isTu d = false) : chl f c d = false := by
  cases d with
  | tuple ds => exact Bool.noConfusion (show true = false from h)
  | _ => rfl
theorem chl_ns {f : Forms} {c : Bool} {x : D} {xs : List D} (h : isSt x = false) : chl f c (.tuple (x :: xs)) = false := by
  cases x with
  | str s => exact Bool.noConfusion (show true = false from h)
  | _ =>
    match xs with
    | [] => rfl
    | [y] => exact chp_say rfl rfl
    | _ :: _ :: _ => rfl
theorem ix0 (x : D) (xs : List D) : subD' (.tuple (x :: xs)) (.int 0) = some x := ixT (k := 0) rfl
theorem ix1 (x y : D) (xs : List D) : subD' (.tuple (x :: y :: xs)) (.int 1) = some y := ixT (k := 1) rfl
theorem due_any {L : Int} {f : Forms} (h : WF L f) {c : Bool} {d : D} {m : Nat} (hd : Sh m d) : f_l_due [dForms f, d, .bool c] = some (.bool (chl f c d)) := by
  have : W1 (f_l_due [dForms f, d, .bool c]) fun z => z = .bool (chl f c d) := by
    have sb := sizeBig
    refine w1_fnP ?_
    unfold m_l_due
    rw [ws_seq]
    walk_at "lx"
    refine .of (isiTup d) ⟨_, rfl, ?_⟩
    by_cases ht : isTu d = true
    · rw [ht, if_neg (by decide)]
      obtain ⟨ds, rfl⟩ : ∃ ds, d = .tuple ds := by
        cases d with
        | tuple ds => exact ⟨ds, rfl⟩
        | _ => cases ht
      refine ⟨by omega, .of (z := .bool ds.isEmpty) rfl ⟨_, rfl, ?_⟩⟩
      match ds, hd with
      | [], _ => rfl
      | x :: xs, hd =>
        rw [show (x :: xs).isEmpty = false from rfl, if_neg Bool.false_ne_true]
        refine .of (ix0 x xs) (.of (isiStr x) ⟨_, rfl, ?_⟩)
        by_cases hx : isSt x = true
        · rw [hx, if_neg (by decide), ws_seq]
          obtain ⟨s, rfl⟩ : ∃ s, x = .str s := by
            cases x with
            | str s => exact ⟨s, rfl⟩
            | _ => cases hx
          have hs : PyData.strOk s = true := by
            have := hd.1
            simp only [PyData.canLay0, PyData.canLayAll0, Bool.and_eq_true] at this
            exact this.1
          walk_at "lx"
          rw [w_lenT]
          walk_at "lx"
          by_cases h1 : xs = []
          · subst h1
            have e1 : ((([] : List D).length + 1 : Nat) : Int) = 1 := rfl
            rw [decide_eq_true e1, if_pos rfl]
            refine .of (ix0 _ _) ?_
            rw [w_eqT]
            refine ⟨_, rfl, ?_⟩
            rw [chl_one]
            by_cases hJ : isS nmJ (.str s) = true
            · rw [show isS (Str.ofString "just") (.str s) = true from hJ, if_pos rfl, hJ, Bool.true_and]
            · have hJ : isS nmJ (.str s) = false := by simpa using hJ
              rw [show isS (Str.ofString "just") (.str s) = false from hJ, if_neg Bool.false_ne_true, hJ, Bool.false_and]
          have l1 : 1 ≤ xs.length := List.length_pos_iff.mpr h1
          have e1 : ¬ ((xs.length + 1 : Nat) : Int) = 1 := by omega
          rw [decide_eq_false e1, if_neg Bool.false_ne_true, ws_seq]
          walk_at "lx"
          rw [w_lenT]
          walk_at "lx"
          by_cases h2 : xs.length = 1
          · have e2 : ((xs.length + 1 : Nat) : Int) = 2 := by omega
            rw [decide_eq_true e2, if_neg (by decide)]
            obtain ⟨y, rfl⟩ : ∃ y, xs = [y] := List.length_eq_one_iff.mp h2
            refine .of (ix0 _ _) ⟨by omega, .of (inNT hs) ⟨_, rfl, ?_⟩⟩
            rw [show chl f c (.tuple [.str s, y]) = chp f (.str s) y from rfl]
            by_cases hw : (isS nmN (.str s) || isS nmT (.str s)) = true
            · rw [hw, if_neg (by decide)]
              refine .of (ix1 _ _ _) (.of (isiTup y) ⟨_, rfl, ?_⟩)
              by_cases hy : isTu y = true
              · rw [hy, if_neg (by decide)]
                obtain ⟨ys, rfl⟩ : ∃ ys, y = .tuple ys := by
                  cases y with
                  | tuple ys => exact ⟨ys, rfl⟩
                  | _ => cases hy
                refine .of (ix1 _ _ _) ?_
                rw [w_lenT]
                walk_at "lx"
                by_cases h3 : ys.length = 2
                · have e3 : (ys.length : Int) = 2 := by omega
                  rw [decide_eq_true e3, if_neg (by decide), ws_seq]
                  obtain ⟨a, b, rfl⟩ : ∃ a b, ys = [a, b] := by
                    match ys, h3 with
                    | [a, b], _ => exact ⟨a, b, rfl⟩
                  walk_at "lx"
                  refine .of (ix1 _ _ _) ⟨_, rfl, rfl, ?_⟩
                  simp only [wgs_cons, wgs_nil, wg_set, List.set_cons_zero, List.set_cons_succ]
                  rw [ws_seq]
                  walk_at "lx"
                  refine .of (whole_eq a) ⟨_, rfl, ?_⟩
                  by_cases ha : isI a = true
                  · rw [ha, if_neg (by decide)]
                    refine .of (whole_eq b) ⟨_, rfl, ?_⟩
                    by_cases hb : isI b = true
                    · rw [hb, if_neg (by decide)]
                      obtain ⟨n, rfl⟩ : ∃ n, a = .int n := by
                        cases a with
                        | int n => exact ⟨n, rfl⟩
                        | _ => cases ha
                      obtain ⟨e, rfl⟩ : ∃ e, b = .int e := by
                        cases b with
                        | int n => exact ⟨n, rfl⟩
                        | _ => cases hb
                      rw [show chp f (.str s) (.tuple [.int n, .int e]) = (cntB (.tuple [.int n, .int e]) && say f (.str s) n e) from rfl, cntB_two, show numB 0 1000000000000 (.int n) = (decide (0 ≤ n) && decide (n ≤ 1000000000000)) from rfl, show numB 0 2 (.int e) = (decide (0 ≤ e) && decide (e ≤ 2)) from rfl]
                      rw [w_le]
                      refine ⟨_, rfl, ?_⟩
                      by_cases n0 : 0 ≤ n
                      · rw [decide_eq_true n0, if_pos rfl]
                        refine .of (z := .int 1000000000000) rfl ?_
                        rw [w_le]
                        refine ⟨_, rfl, ?_⟩
                        by_cases n1 : n ≤ 1000000000000
                        · rw [decide_eq_true n1, if_neg (by decide), w_le]
                          refine ⟨_, rfl, ?_⟩
                          by_cases e0 : 0 ≤ e
                          · rw [decide_eq_true e0, if_pos rfl, w_le]
                            refine ⟨_, rfl, ?_⟩
                            by_cases e1 : e ≤ 2
                            · rw [decide_eq_true e1, if_neg (by decide), ws_seq]
                              have hd3 : Dk3 e := by omega
                              walk_at "lx"
                              refine .of (l_words_eq ⟨n0, hd3⟩ h.ok) ?_
                              rw [w_lenL]
                              have hl : ((((words f n e).map PyData.str).length : Nat) : Int) = (cnt f n e : Int) := by rw [List.length_map]; rfl
                              rw [hl]
                              walk_at "lx"
                              refine ⟨by omega, .of (ix0 _ _) ?_⟩
                              rw [w_eqT]
                              unfold say
                              by_cases hT : isS nmT (.str s) = true
                              · have hs2 := isS_ex hT
                                have hN : isS nmN (.str s) = false := by rw [hs2]; exact nm_ne.1
                                rw [show isS (Str.ofString "two") (.str s) = true from hT, if_neg (by rw [hN]; exact Bool.false_ne_true), if_pos hT]
                                refine .of (z := .int 1) rfl (.of rfl ?_)
                                rw [Bool.true_and, Bool.true_and, Bool.true_and]
                                exact congrArg PyData.bool (decide_eq_decide.mpr (by omega))
                              · have hT : isS nmT (.str s) = false := by simpa using hT
                                have hN : isS nmN (.str s) = true := by rw [hT, Bool.or_false] at hw; exact hw
                                rw [show isS (Str.ofString "two") (.str s) = false from hT, if_pos hN]
                                refine .of (z := .int 0) rfl (.of rfl ?_)
                                rw [Bool.true_and, Bool.true_and, Bool.true_and]
                                exact congrArg PyData.bool (decide_eq_decide.mpr (by omega))
                            · rw [decide_eq_false e1, if_pos (by decide)]
                              simp
                          · rw [decide_eq_false e0, if_neg Bool.false_ne_true]
                            simp
                        · rw [decide_eq_false n1, if_pos (by decide)]
                          simp
                      · rw [decide_eq_false n0, if_neg Bool.false_ne_true]
                        simp
                    · have hb : isI b = false := by simpa using hb
                      rw [hb, if_pos (by decide)]
                      unfold chp
                      split
                      · rename_i e; cases e; cases hb
                      · rfl
                  · have ha : isI a = false := by simpa using ha
                    rw [ha, if_pos (by decide)]
                    unfold chp
                    split
                    · rename_i e; cases e; cases ha
                    · rfl
                · have e3 : ¬ (ys.length : Int) = 2 := by omega
                  rw [decide_eq_false e3, if_pos (by decide)]
                  unfold chp
                  split
                  · rename_i e; cases e; exact absurd rfl h3
                  · rfl
              · have hy : isTu y = false := by simpa using hy
                rw [hy, if_pos (by decide)]
                unfold chp
                split
                · cases hy
                · rfl
            · have hw : (isS nmN (.str s) || isS nmT (.str s)) = false := by simpa using hw
              rw [hw, if_pos (by decide)]
              obtain ⟨a, b⟩ := Bool.or_eq_false_iff.mp hw
              exact (chp_say a b).symm
          · have e2 : ¬ ((xs.length + 1 : Nat) : Int) = 2 := by omega
            rw [decide_eq_false e2, if_pos (by decide), chl_len (by rw [List.length_cons]; omega) (by rw [List.length_cons]; omega)]
        · have hx : isSt x = false := by simpa using hx
          rw [hx, if_pos (by decide), chl_ns hx]
    · have ht : isTu d = false := by simpa using ht
      rw [ht, if_pos (by decide), chl_nt ht]
  obtain ⟨z, e, rfl⟩ := this
  exact e
end K04
namespace K04
open PySem PySem.Spec PyProof.Rows L2 TL PD MT DL NC
local macro_rules | `(tactic| walk_at "lx") => `(tactic| simp only [wl_gen, wl_seq, wl_app, wl_at, wl_for, ws_hid, we_lenU, we_ixU, ws_setU, ws_asgX, ws_retX, ws_uniS, wx_binL, we_lcKeys, wx_pop, wx_bin, ws_asg, ws_ret, ws_if, ws_next, ws_uni, ws_app, ws_frz, ws_aug, ws_for, onNx_nx, onNx_rt, onNx_bk, onNx_ct, onRt_rt, onRt_nx, we_var, we_c, we_bin, we_un, we_call, we_callK, wa_nil, wa_cons, we_tup, we_lst, wo_no, wo_some, we_sl, wt_b, wt_tru, wt_and, wt_or, wt_not, we_if, we_and, we_or, we_chain, we_get2, wp_nil, wp_cons, we_disp, wa_items, we_lc, wg_set, wg_tup, wg_lst, w_eqS, w_neS, wgs_nil, wgs_cons, List.getElem?_cons_zero, List.getElem?_cons_succ, Option.some.injEq, Sl.val.injEq, Sl.uni.injEq, exists_eq_left', exists_eq_left, List.set_cons_zero, List.set_cons_succ, true_and, and_true, List.length_cons, List.length_nil, List.map_cons, List.map_nil, PyData.int.injEq, PyData.bool.injEq, PyData.tuple.injEq, PyData.list.injEq, PyData.str.injEq, w_add, w_sub, w_lt, w_le, w_gt, w_ge, w_eqI, w_neI, w_intB, itemsD, truD, slots, wipeR, List.cons_append, List.nil_append, Nat.reduceAdd, Nat.reduceSub, List.replicate_succ, List.replicate_zero, ↓reduceIte, Bool.false_eq_true, Bool.not_true, Bool.not_false, decide_true, decide_false, if_true, if_false])
theorem int_len {i : Int} (h : i.natAbs < 10 ^ 13) : (Str.ofString (toString i)).length ≤ 14 := by
  cases i with
  | ofNat n =>
    have h1 := (Nc.int (n := n) h).sw.b
    simp only [shB] at h1
    exact Nat.le_trans h1 (by decide)
  | negSucc n =>
    have h1 := (Nc.int (n := n + 1) h).sw.b
    simp only [shB] at h1
    rw [len_tl, tl_ofString, List.length_map] at h1 ⊢
    have e : toString (Int.negSucc n) = "-" ++ toString ((n + 1 : Nat) : Int) := rfl
    rw [e, String.toList_append, List.length_append]
    have : "-".toList.length = 1 := rfl
    omega
theorem Tg.int {i : Int} (h : i.natAbs < 10 ^ 13) : Tg 0 14 (.int i) := by
  refine ⟨by simp [ascD], ?_, ?_, by simp [PyData.depth], by simp [txs], by simp [PyData.hasDict], ?_⟩
  · simp only [shB]
    exact int_len h
  · simp only [PyData.showable]
    refine decide_eq_true ?_
    by_cases h0 : i.natAbs = 0
    · rw [h0]; decide
    · rw [Nat.log2_lt h0]
      exact Nat.lt_of_lt_of_le h (Nat.le_trans (show 10 ^ 13 ≤ 2 ^ 50 by decide) (Nat.pow_le_pow_right (by decide) (by decide)))
  · simp [PyData.canLay0]
theorem str_int (n : Nat) (h : n < 10 ^ 13) : strD [.int (n : Int)] = some (.str (Str.ofString (toString (n : Int)))) ∧ Tx1 (Str.ofString (toString (n : Int))) := by
  refine ⟨if_pos ?_, fun c hc => ?_, Nat.le_trans (int_len (i := (n : Int)) (by simpa using h)) (by decide)⟩
  · by_cases h0 : n = 0
    · subst h0; decide
    · show (n : Int).natAbs.log2 < 1920
      rw [Int.natAbs_natCast, Nat.log2_lt h0]
      exact Nat.lt_of_lt_of_le h (Nat.le_trans (show 10 ^ 13 ≤ 2 ^ 50 by decide) (Nat.pow_le_pow_right (by decide) (by decide)))
  · have : dig c := code_dig n c (by
      show c ∈ tl (PyData.shown (.int (n : Int)))
      simp only [PyData.shown]
      exact hc)
    unfold dig at this
    omega
theorem bent_big {n : Nat} {deep : Int} {i : Int} (h : 0 ≤ i ∧ i ≤ 9000000000000) : BtW (f_l_bent (n + 1)) 3 700 150000 10 (.int i) deep := fun b δ P hD hb p => by
  have sb := sizeBig
  rw [f_l_bent]
  refine wk_fnK ?_
  unfold m_l_bent
  rw [dr, ws_seq, ws_if, wt_and]
  walk_at "lx"
  refine .of (z := .bool false) rfl ⟨_, rfl, ?_⟩
  rw [if_neg Bool.false_ne_true, ws_seq]
  walk_at "lx"
  refine draw_wp hD (by omega) (by decide) (by decide) fun way δ1 w0 w1 h1 => ?_
  rw [ws_seq, ws_if, wt_and]
  walk_at "lx"
  refine .of (z := .bool false) rfl ⟨_, rfl, ?_⟩
  rw [if_neg Bool.false_ne_true, ws_seq, ws_if, wt_and]
  walk_at "lx"
  refine .of (z := .bool true) rfl ⟨_, rfl, ?_⟩
  rw [if_pos rfl]
  refine .of (z := .bool false) rfl ⟨_, rfl, ?_⟩
  rw [if_pos (by decide)]
  by_cases hw : 0 < way
  · rw [decide_eq_true hw, if_pos rfl]
    obtain ⟨n, rfl⟩ := Int.eq_ofNat_of_zero_le h.1
    obtain ⟨e1, e2⟩ := str_int n (by omega)
    refine .of e1 ⟨by omega, ?_⟩
    have ti : ∀ j : Int, -10 ≤ j → j ≤ 9000000001000 → Tg 3 700 (.int j) := fun j a b => (Tg.int (by omega)).mono (by decide) (by decide)
    refine pick6 h1 (by omega) rfl (fun d hd => ?_) fun d' δ' t hh => p d' δ' t (hh.mono (by omega))
    simp only [List.mem_cons, List.not_mem_nil, or_false] at hd
    rcases hd with rfl | rfl | rfl | rfl | rfl | rfl
    · exact ti _ (by omega) (by omega)
    · exact ti _ (by omega) (by omega)
    · exact ti _ (by omega) (by omega)
    · exact ti _ (by omega) (by omega)
    · exact ti _ (by omega) (by omega)
    · exact e2.tg.mono (by decide) (by decide)
  · rw [decide_eq_false hw, if_neg Bool.false_ne_true, ws_seq, ws_if, wt_and]
    walk_at "lx"
    refine .of (z := .bool false) rfl ⟨_, rfl, ?_⟩
    rw [if_neg Bool.false_ne_true]
    exact odd_wp h1 (by omega) fun d δ' t hh => p d δ' (t.mono (by decide) (by decide)) (hh.mono (by omega))
theorem tx_NT : Tx1 nmN ∧ Tx1 nmT ∧ Tx1 nmJ := by
  have : ∀ x ∈ [nmN, nmT, nmJ], Tx1 x := by
    have : [nmN, nmT, nmJ].all (fun x => (tl x).all (fun c => decide (c < 128)) && decide (x.length ≤ 20)) = true := by decide +kernel
    intro x hx
    have := List.all_eq_true.mp this x hx
    rw [Bool.and_eq_true] at this
    exact ⟨fun c hc => of_decide_eq_true (List.all_eq_true.mp this.1 c hc), of_decide_eq_true this.2⟩
  exact ⟨this _ (by simp), this _ (by simp), this _ (by simp)⟩
theorem pair_tg {x : Str} {n e : Int} (hx : Tx1 x) (hn : 0 ≤ n ∧ n ≤ 9000000000000) (he : Dk3 e) : Tg 3 1000 (.tuple [.str x, .tuple [.int n, .int e]]) := by
  have ti : ∀ j : Int, 0 ≤ j → j ≤ 9000000000000 → Tg 0 14 (.int j) := fun j a b => Tg.int (by omega)
  have h1 : Tg 1 35 (.tuple [.int n, .int e]) := Tg.tupN (m := 0) (k := 14) (n := 2) (fun y hy => by
    simp only [List.mem_cons, List.not_mem_nil, or_false] at hy
    rcases hy with rfl | rfl
    · exact ti _ hn.1 hn.2
    · exact ti _ (by omega) (by omega)) (by simp)
  exact (Tg.tupN (m := 1) (k := 202) (n := 2) (fun y hy => by
    simp only [List.mem_cons, List.not_mem_nil, or_false] at hy
    rcases hy with rfl | rfl
    · exact hx.tg.mono (by decide) (by decide)
    · exact h1.mono (by decide) (by decide)) (by simp)).mono (by decide) (by decide)
theorem bent_pair {x : Str} {n e : Int} (hx : Tx1 x) (hn : 0 ≤ n ∧ n ≤ 9000000000000) (he : Dk3 e) : BtW (f_l_bent 12) 8 60000 100000 40 (.tuple [.str x, .tuple [.int n, .int e]]) 2 := by
  have ti : ∀ j : Int, 0 ≤ j → j ≤ 9000000000000 → Tg 0 14 (.int j) := fun j a b => Tg.int (by omega)
  have hi : ∀ y ∈ [PyData.int n, PyData.int e], Tg 0 14 y := fun y hy => by
    simp only [List.mem_cons, List.not_mem_nil, or_false] at hy
    rcases hy with rfl | rfl
    · exact ti _ hn.1 hn.2
    · exact ti _ (by omega) (by omega)
  have h1 : Tg 1 35 (.tuple [.int n, .int e]) := Tg.tupN (m := 0) (k := 14) (n := 2) hi (by simp)
  have hb1 : BtW (f_l_bent 11) 4 4000 110000 20 (.tuple [.int n, .int e]) 1 := bent_tup (n := 10) (m := 0) (k := 14) (m' := 3) (k' := 700) (N := 2) (B := 110000) (c := 10) (by simp) (by decide) (by decide) (by decide) hi (fun y hy => by
    simp only [List.mem_cons, List.not_mem_nil, or_false] at hy
    rcases hy with rfl | rfl
    · exact fun b δ P hD hb p => bent_big hn b δ P hD (by omega) p
    · exact fun b δ P hD hb p => bent_big (by omega) b δ P hD (by omega) p) (by decide) (by decide) (by decide) (by decide) (by decide) (by decide) (by decide)
  have hb0 : BtW (f_l_bent 11) 4 4000 110000 20 (.str x) 1 := fun b δ P hD hb p => bent_str hx b δ P hD (by omega) fun d' δ' t hh => p d' δ' (t.mono (by decide) (by decide)) (hh.mono (by omega))
  have := bent_tup (n := 11) (m := 1) (k := 202) (m' := 4) (k' := 4000) (N := 2) (M := 8) (K := 60000) (B := 100000) (c := 20) (xs := [.str x, .tuple [.int n, .int e]]) (deep := 2) (by simp) (by decide) (by decide) (by decide) (fun y hy => by
    simp only [List.mem_cons, List.not_mem_nil, or_false] at hy
    rcases hy with rfl | rfl
    · exact hx.tg.mono (by decide) (by decide)
    · exact h1.mono (by decide) (by decide)) (fun y hy => by
    simp only [List.mem_cons, List.not_mem_nil, or_false] at hy
    rcases hy with rfl | rfl
    · exact fun b δ P hD hb p => hb0 b δ P hD (by omega) p
    · exact fun b δ P hD hb p => hb1 b δ P hD (by omega) p) (by decide) (by decide) (by decide) (by decide) (by decide) (by decide) (by decide)
  exact fun b δ P hD hb p => this b δ P hD hb fun d' δ' t hh => p d' δ' t (hh.mono (by omega))
end K04
namespace K04
open PySem PySem.Spec PyProof.Rows L2 TL PD MT DL NC
local macro_rules | `(tactic| walk_at "lx") => `(tactic| simp only [wl_gen, wl_seq, wl_app, wl_at, wl_for, ws_hid, we_lenU, we_ixU, ws_setU, ws_asgX, ws_retX, ws_uniS, wx_binL, we_lcKeys, wx_pop, wx_bin, ws_asg, ws_ret, ws_if, ws_next, ws_uni, ws_app, ws_frz, ws_aug, ws_for, onNx_nx, onNx_rt, onNx_bk, onNx_ct, onRt_rt, onRt_nx, we_var, we_c, we_bin, we_un, we_call, we_callK, wa_nil, wa_cons, we_tup, we_lst, wo_no, wo_some, we_sl, wt_b, wt_tru, wt_and, wt_or, wt_not, we_if, we_and, we_or, we_chain, we_get2, wp_nil, wp_cons, we_disp, wa_items, we_lc, wg_set, wg_tup, wg_lst, w_eqS, w_neS, wgs_nil, wgs_cons, List.getElem?_cons_zero, List.getElem?_cons_succ, Option.some.injEq, Sl.val.injEq, Sl.uni.injEq, exists_eq_left', exists_eq_left, List.set_cons_zero, List.set_cons_succ, true_and, and_true, List.length_cons, List.length_nil, List.map_cons, List.map_nil, PyData.int.injEq, PyData.bool.injEq, PyData.tuple.injEq, PyData.list.injEq, PyData.str.injEq, w_add, w_sub, w_lt, w_le, w_gt, w_ge, w_eqI, w_neI, w_intB, itemsD, truD, slots, wipeR, List.cons_append, List.nil_append, Nat.reduceAdd, Nat.reduceSub, List.replicate_succ, List.replicate_zero, ↓reduceIte, Bool.false_eq_true, Bool.not_true, Bool.not_false, decide_true, decide_false, if_true, if_false])
theorem tgs : ∀ d ∈ [PyData.tuple [.str nmJ], .tuple [.str nmN], .tuple [.str nmT, .tuple [.int 0, .int 0], .tuple []]], Tg 8 60000 d := tg_of (by decide +kernel)
theorem sh_of {m k : Nat} {d : D} (h : Tg m k d) : Sh m d := ⟨h.l, h.p⟩
theorem eq_bool (a : Bool) : neD (.bool a) (.bool a) = some (.bool false) := by
  rw [neD_of (Sh.bool _) (Sh.bool _) (by decide) (by decide), PySem.SeqAt.eqv_refl _ (Sh.bool _).1]
  rfl
/-- what the law's cover tells -/
theorem due_is {L : Int} {f : Forms} (h : WF L f) (hL : 1 ≤ L) (hL2 : L ≤ 60) : ∃ z c, f_cover [dForms f] = some z ∧ f_l_cover [dForms f] = some z ∧ eqD z (.tuple [.str "just"]) = some (.bool c) ∧ Tg 8 60000 z ∧
    (z = .tuple [.str "just"] ∨ ∃ x n d, z = .tuple [.str x, .tuple [.int n, .int d]] ∧ 0 ≤ n ∧ n ≤ 100000 ∧ Dk3 d) := by
  obtain ⟨z, ez, hz⟩ := cover_ok h hL hL2
  obtain ⟨z2, ez2, hz2⟩ := l_cover_ok h hL hL2
  obtain rfl := hz.one hz2
  rcases hz with ⟨rfl, _⟩ | ⟨n, d, n0, n1, hd, rfl, _⟩
  · exact ⟨_, _, ez, ez2, eq_just, tgs _ (.head _), .inl rfl⟩
  · refine ⟨_, _, ez, ez2, eq_paper f n d, ?_, .inr ⟨_, n, d, rfl, n0, n1, hd⟩⟩
    refine (pair_tg ?_ ⟨n0, by omega⟩ hd).mono (by decide) (by decide)
    split
    · exact tx_NT.1
    · exact tx_NT.2.1
theorem tail_ws {F z dd : D} {ds : List D} {t8 : Sl} {n e : Int} {b : Nat} {δ : Dk} {P : Fl → List Sl → Dk → Prop} (hds : ∀ d ∈ ds, Tg 8 60000 d) (hl : ds.length ≤ 100) (h : DkO b δ) (hb : b ≤ 90000) (hn : 0 ≤ n ∧ n ≤ 9000000000000) (he : Dk3 e)
    (p : ∀ (ds' : List D) (x : D) δ', (∀ d ∈ ds', Tg 8 60000 d) → ds'.length = ds.length + 2 → DkO (b + 50) δ' → P .nx [.no, .deck, .val F, .val dd, .val z, .val (.list ds'), .val (.int e), .val (.int n), .val x, .no, .no] δ') :
    WS (sSeq (sAsg (mTup (mCons (mBin subD' (mLst (mCons (mC (.str "none")) (mCons (mC (.str "two")) mNil))) (mCallK 1 fDraw (mCons (mC (.int 2)) mNil))) (mCons (mTup (mCons (mVar 7) (mCons (mVar 6) mNil))) mNil))) (gSet 8))
      (sAsg (mBin addD (mVar 5) (mLst (mCons (mVar 8) (mCons (mCallK 1 (f_l_bent 12) (mCons (mVar 8) (mCons (mC (.int 2)) mNil))) mNil)))) (gSet 5)))
      [.no, .deck, .val F, .val dd, .val z, .val (.list ds), .val (.int e), .val (.int n), t8, .no, .no] δ P := by
  have sb := sizeBig
  rw [ws_seq]
  walk_at "lx"
  refine ⟨by omega, ?_⟩
  refine draw_wp h (by omega) (by decide) (by decide) fun r δ1 r0 r1 h1 => ?_
  have : ∃ x : Str, Tx1 x ∧ W1 (subD' (.list [.str "none", .str "two"]) (.int r)) fun z => z = .str x := by
    rcases (show r = 0 ∨ r = 1 by omega) with rfl | rfl
    · exact ⟨nmN, tx_NT.1, .of rfl rfl⟩
    · exact ⟨nmT, tx_NT.2.1, .of rfl rfl⟩
  obtain ⟨x, hx, _, ex, rfl⟩ := this
  refine .of ex ⟨by omega, by omega, ?_⟩
  refine bent_pair hx hn he _ δ1 _ h1 (by omega) fun d' δ2 t h2 => ?_
  refine ⟨by omega, .of (addD_lst (by simp; omega)) ?_⟩
  refine p _ _ δ2 (fun d hd => ?_) (by simp) (h2.mono (by omega))
  rcases List.mem_append.mp hd with hd | hd
  · exact hds d hd
  · simp only [List.mem_cons, List.not_mem_nil, or_false] at hd
    rcases hd with rfl | rfl
    · exact (pair_tg hx hn he).mono (by decide) (by decide)
    · exact t
theorem main : ∀ ns : List Int, ns.length ≤ 63 → ∃ ρ' δ', m_law (slots N_law.length [.no, .deck]) (deckO ns) = some (.rt (.bool true), ρ', δ') := fun ns hns => by
  have sb := sizeBig
  refine WS.rt ?_
  unfold m_law
  rw [show N_law.length = 11 from rfl, ws_seq]
  walk_at "lx"
  obtain ⟨L, hL1, hL2, f0, δ1, e1, wf0, _, D1⟩ := covering_ok (DkOk.mono (DkO.start ns) (Nat.zero_le 1)) (by omega)
  refine ⟨_, _, e1, ?_⟩
  dsimp only
  rw [ws_seq]
  walk_at "lx"
  rw [dr]
  refine wa_rng ?_
  walk_at "lx"
  refine draw_wp D1 (by omega) (by decide) (by decide) fun r δ2 r0 r1 D2 => ?_
  refine ⟨r.toNat, by rw [Int.toNat_of_nonneg r0], by omega, ?_⟩
  have hrl : (rngL r.toNat).length = r.toNat := by simp [rngL]
  refine ws_forI (fun left ρ δ => ∃ (f : Forms) (t3 : Sl) (k : Nat), WF L f ∧ k + left.length = r.toNat ∧ DkOk (102 + 10 * k) δ ∧ ρ = [.no, .deck, .val (dForms f), t3, .no, .no, .no, .no, .no, .no, .no]) (fun dd left ρ δ hI => ?_) (fun ρ δ hI => ?_) _ _ _ ⟨f0, .no, 0, wf0, by rw [hrl]; omega, D2.mono (by omega), rfl⟩
  · obtain ⟨f, t3, k, wf, hk, D, rfl⟩ := hI
    rw [List.length_cons] at hk
    rw [wg_set]
    walk_at "lx"
    obtain ⟨f', δ', e, wf', D'⟩ := bent_ok wf D (by omega)
    exact ⟨_, _, e, f', _, k + 1, wf', by omega, D'.mono (by omega), rfl⟩
  obtain ⟨f, t3, k, wf, hk, D, rfl⟩ := hI
  have hk2 : k ≤ 3 := by rw [List.length_nil] at hk; omega
  walk_at "lx"
  obtain ⟨z, c, ec, el, hc, hz, hsh⟩ := due_is wf hL1 hL2
  rw [ws_seq]
  walk_at "lx"
  refine .of el ?_
  rw [ws_seq]
  walk_at "lx"
  refine ⟨by omega, by omega, by omega, by omega, by omega, ?_⟩
  refine odd_wp D (by omega) fun od δ3 hod h3 => ?_
  refine ⟨by omega, ?_⟩
  rw [ws_seq]
  walk_at "lx"
  refine wa_rng ?_
  walk_at "lx"
  refine ⟨6, rfl, by decide, ?_⟩
  refine ws_forI (fun left ρ δ => ∃ (ds : List PD.D) (t3 t6 t7 t8 : Sl) (j : Nat), (∀ d ∈ ds, Tg 8 60000 d) ∧ j + left.length = 6 ∧ ds.length = 5 + 2 * j ∧ DkO (200 + 100 * j) δ ∧ ρ = [.no, .deck, .val (dForms f), t3, .val z, .val (.list ds), t6, t7, t8, .no, .no]) (fun dd left ρ δ hI => ?_) (fun ρ δ hI => ?_) _ _ _ ⟨[z, .tuple [.str nmJ], .tuple [.str nmN], .tuple [.str nmT, .tuple [.int 0, .int 0], .tuple []], od], _, _, _, _, 0, fun d hd => ?_, rfl, rfl, DkO.mono h3 (by omega), rfl⟩
  · obtain ⟨ds, t3, t6, t7, t8, j, hds, hj, hl, hD, rfl⟩ := hI
    rw [List.length_cons] at hj
    rw [wg_set, ws_seq]
    walk_at "lx"
    refine draw_wp hD (by omega) (by decide) (by decide) fun e δ4 e0 e1 h4 => ?_
    rw [ws_seq]
    walk_at "lx"
    refine draw_wp h4 (by omega) (by decide) (by decide) fun a1 δ5 a10 a11 h5 => ?_
    refine draw_wp h5 (by omega) (by decide) (by decide) fun a2 δ6 a20 a21 h6 => ?_
    refine .of (z := .int 1000000000000) rfl ?_
    walk_at "lx"
    refine draw_wp h6 (by omega) (by decide) (by decide) fun a3 δ7 a30 a31 h7 => ?_
    refine ⟨by omega, ?_⟩
    refine draw_wp h7 (by omega) (by decide) (by decide) fun q δ8 q0 q1 h8 => ?_
    refine w_ixL q0 (by simpa using q1) fun nn hnn => ?_
    obtain ⟨n, rfl, n0, n1⟩ : ∃ n : Int, nn = .int n ∧ 0 ≤ n ∧ n ≤ 1000000000000 := by
      simp only [List.mem_cons, List.not_mem_nil, or_false] at hnn
      rcases hnn with rfl | rfl | rfl
      · exact ⟨_, rfl, a10, by omega⟩
      · exact ⟨_, rfl, a20, by omega⟩
      · exact ⟨_, rfl, a30, by omega⟩
    have fin : ∀ (n e : Int) (δ' : Dk) (ds' : List PD.D) (x : PD.D), (∀ d ∈ ds', Tg 8 60000 d) → ds'.length = ds.length + 2 → DkO (200 + 100 * j + 100) δ' → ∃ (ds : List PD.D) (t3 t6 t7 t8 : Sl) (j : Nat), (∀ d ∈ ds, Tg 8 60000 d) ∧ j + left.length = 6 ∧ ds.length = 5 + 2 * j ∧ DkO (200 + 100 * j) δ' ∧ [Sl.no, .deck, .val (dForms f), .val dd, .val z, .val (.list ds'), .val (.int e), .val (.int n), .val x, .no, .no] = [.no, .deck, .val (dForms f), t3, .val z, .val (.list ds), t6, t7, t8, .no, .no] := fun n e δ' ds' x g1 g2 g3 =>
      ⟨ds', _, _, _, _, j + 1, g1, by omega, by omega, g3.mono (by omega), rfl⟩
    rw [ws_seq]
    walk_at "lx"
    rcases hsh with rfl | ⟨w, n', d', rfl, n0', n1', hd'⟩
    · rw [w_lenT]
      walk_at "lx"
      exact tail_ws hds (by omega) h8 (by omega) ⟨n0, by omega⟩ (by omega) fun ds' x δ' g1 g2 g3 => fin _ _ _ _ _ g1 g2 (g3.mono (by omega))
    · rw [w_lenT]
      walk_at "lx"
      refine draw_wp h8 (by omega) (by decide) (by decide) fun u δ9 u0 u1 h9 => ?_
      walk_at "lx"
      by_cases hu : u = 0
      · rw [decide_eq_true hu, if_pos rfl]
        refine .of (ix1 _ _ _) (.of (ix0 _ _) ⟨by omega, ?_⟩)
        refine draw_wp h9 (by omega) (by decide) (by decide) fun v δ10 v0 v1 h10 => ?_
        have : ∃ m : Int, (0 ≤ m ∧ m ≤ 240) ∧ W1 (subD' (.list [.int 0, .int 120, .int 240]) (.int v)) fun z => z = .int m := by
          rcases (show v = 0 ∨ v = 1 ∨ v = 2 by omega) with rfl | rfl | rfl
          · exact ⟨0, by decide, .of rfl rfl⟩
          · exact ⟨120, by decide, .of rfl rfl⟩
          · exact ⟨240, by decide, .of rfl rfl⟩
        obtain ⟨m, hm, _, em, rfl⟩ := this
        obtain ⟨t0, t1⟩ := ten_pos hd'
        have hmul : mulD (.int m) (.int (ten d')) = some (.int (m * ten d')) := mulD_int (by unfold mulOk; rw [Bool.or_eq_true]; right; exact decide_eq_true ⟨by omega, by omega⟩)
        refine .of em ⟨by omega, .of (ix1 _ _ _) (.of (ix1 _ _ _) (.of (tens hd') ?_))⟩
        refine .of hmul (.of (addD_int _ _) (.of (ix1 _ _ _) (.of (ix1 _ _ _) ⟨by omega, ?_⟩)))
        refine ⟨_, rfl, ?_⟩
        have hb1 : 0 ≤ m * ten d' := Int.mul_nonneg hm.1 (by omega)
        have hb2 : m * ten d' ≤ 240 * 100 := by
          have a := Int.mul_le_mul_of_nonneg_right hm.2 (show 0 ≤ ten d' by omega)
          omega
        exact tail_ws hds (by omega) h10 (by omega) ⟨by omega, by omega⟩ hd' fun ds' x δ' g1 g2 g3 => fin _ _ _ _ _ g1 g2 (g3.mono (by omega))
      · rw [decide_eq_false hu, if_neg Bool.false_ne_true]
        exact tail_ws hds (by omega) h9 (by omega) ⟨n0, by omega⟩ (by omega) fun ds' x δ' g1 g2 g3 => fin _ _ _ _ _ g1 g2 (g3.mono (by omega))
  · obtain ⟨ds, t3, t6, t7, t8, j, hds, hj, hl, hD, rfl⟩ := hI
    walk_at "lx"
    rw [ws_seq]
    walk_at "lx"
    refine ws_forI (fun left ρ δ => ∃ (t8 t9 t10 : Sl), (∀ d ∈ left, Tg 8 60000 d) ∧ ρ = [.no, .deck, .val (dForms f), t3, .val z, .val (.list ds), t6, t7, t8, t9, t10]) (fun d left ρ δ hI => ?_) (fun ρ δ hI => ?_) _ _ _ ⟨_, _, _, hds, rfl⟩
    · obtain ⟨t8, t9, t10, hd, rfl⟩ := hI
      have td := hd d (.head _)
      have rp := repr_ok td (by decide) (by decide)
      rw [wg_set, ws_seq]
      walk_at "lx"
      refine .of rp ?_
      rw [ws_seq]
      walk_at "lx"
      refine .of (holds_any wf hL1 hL2 ec hc (sh_of td) (by decide)) ?_
      refine .of (z := .bool true) rfl ⟨_, rfl, ?_⟩
      rw [if_neg (by decide)]
      refine ⟨by omega, .of hc (.of (due_any wf (sh_of td)) (.of (eq_bool _) ⟨_, rfl, ?_⟩))⟩
      rw [if_neg Bool.false_ne_true]
      refine .of rp ?_
      walk_at "lx"
      exact ⟨_, _, _, fun x hx => hd x (.tail _ hx), rfl⟩
    · obtain ⟨t8, t9, t10, hd, rfl⟩ := hI
      walk_at "lx"
  · simp only [List.mem_cons, List.not_mem_nil, or_false] at hd
    rcases hd with rfl | rfl | rfl | rfl | rfl
    · exact hz
    · exact tgs _ (by simp)
    · exact tgs _ (by simp)
    · exact tgs _ (by simp)
    · exact hod.mono (by decide) (by decide)
end K04
namespace K04
open PySem PySem.Spec PyProof.Rows L2 PD
set_option maxHeartbeats 0 in
theorem all_mk {l : PySem.W.OpenLaw} {w : World} {K : PySem.W.Frag} {h : Heap} {mg : Str → Option Value} {fa : Addr} (X : K.In h) (G : h.Ns mainGlobals mg) (hfa : mg "law" = some (.ref fa))
    (hm : ∀ ns : List Int, ns.length ≤ 63 → ∃ ρ' δ', m_law (slots N_law.length [.no, .deck]) (deckO ns) = some (.rt (.bool true), ρ', δ'))
    {f0 : Addr} {od0 an0 : Option Addr} {sl0 : Array (Option Value)} {oc0 kV0 dc0 pm0 cd0 ct0 : Value} {T0 : Addr} {oT0 : Obj} {nT0 : Nat} {tk0_0 tk0_1 : Tok}
    (a0 : PySem.W.nsIn K mainGlobals "is_number" = some (some (.ref f0))) (l0 : K.lookup f0 = some ⟨oc0, od0, .func (PySem.W.fnOf "is_number" "is_number" (defArgs s_is_number) (defBody s_is_number) (defScope s_is_number) (.ref T0) kV0 dc0 pm0 an0 cd0 ct0), sl0⟩) (t0 : K.lookup T0 = some oT0) (u0 : oT0.data = .seq (List.toArray [.int 0 tk0_0, .int 1000000000000 tk0_1]) nT0) (c0 : PySem.W.codeIn K cd0 "is_number" = true) (k0 : PySem.W.keepIn K (.ref f0) = true)
    {f1 : Addr} {od1 an1 : Option Addr} {sl1 : Array (Option Value)} {oc1 kV1 dc1 pm1 cd1 ct1 : Value}
    (a1 : PySem.W.nsIn K mainGlobals "is_tuple" = some (some (.ref f1))) (l1 : K.lookup f1 = some ⟨oc1, od1, .func (PySem.W.fnOf "is_tuple" "is_tuple" (defArgs s_is_tuple) (defBody s_is_tuple) (defScope s_is_tuple) .none kV1 dc1 pm1 an1 cd1 ct1), sl1⟩) (c1 : PySem.W.codeIn K cd1 "is_tuple" = true) (k1 : PySem.W.keepIn K (.ref f1) = true)
    {f2 : Addr} {od2 an2 : Option Addr} {sl2 : Array (Option Value)} {oc2 kV2 dc2 pm2 cd2 ct2 : Value}
    (a2 : PySem.W.nsIn K mainGlobals "is_count" = some (some (.ref f2))) (l2 : K.lookup f2 = some ⟨oc2, od2, .func (PySem.W.fnOf "is_count" "is_count" (defArgs s_is_count) (defBody s_is_count) (defScope s_is_count) .none kV2 dc2 pm2 an2 cd2 ct2), sl2⟩) (c2 : PySem.W.codeIn K cd2 "is_count" = true) (k2 : PySem.W.keepIn K (.ref f2) = true)
    {f3 : Addr} {od3 an3 : Option Addr} {sl3 : Array (Option Value)} {oc3 kV3 dc3 pm3 cd3 ct3 : Value}
    (a3 : PySem.W.nsIn K mainGlobals "scale_of" = some (some (.ref f3))) (l3 : K.lookup f3 = some ⟨oc3, od3, .func (PySem.W.fnOf "scale_of" "scale_of" (defArgs s_scale_of) (defBody s_scale_of) (defScope s_scale_of) .none kV3 dc3 pm3 an3 cd3 ct3), sl3⟩) (c3 : PySem.W.codeIn K cd3 "scale_of" = true) (k3 : PySem.W.keepIn K (.ref f3) = true)
    {f4 : Addr} {od4 an4 : Option Addr} {sl4 : Array (Option Value)} {oc4 kV4 dc4 pm4 cd4 ct4 : Value}
    (a4 : PySem.W.nsIn K mainGlobals "parts_of" = some (some (.ref f4))) (l4 : K.lookup f4 = some ⟨oc4, od4, .func (PySem.W.fnOf "parts_of" "parts_of" (defArgs s_parts_of) (defBody s_parts_of) (defScope s_parts_of) .none kV4 dc4 pm4 an4 cd4 ct4), sl4⟩) (c4 : PySem.W.codeIn K cd4 "parts_of" = true) (k4 : PySem.W.keepIn K (.ref f4) = true)
    {f5 : Addr} {od5 an5 : Option Addr} {sl5 : Array (Option Value)} {oc5 kV5 dc5 pm5 cd5 ct5 : Value}
    (a5 : PySem.W.nsIn K mainGlobals "all_tests" = some (some (.ref f5))) (l5 : K.lookup f5 = some ⟨oc5, od5, .func (PySem.W.fnOf "all_tests" "all_tests" (defArgs s_all_tests) (defBody s_all_tests) (defScope s_all_tests) .none kV5 dc5 pm5 an5 cd5 ct5), sl5⟩) (c5 : PySem.W.codeIn K cd5 "all_tests" = true) (k5 : PySem.W.keepIn K (.ref f5) = true)
    {f6 : Addr} {od6 an6 : Option Addr} {sl6 : Array (Option Value)} {oc6 kV6 dc6 pm6 cd6 ct6 : Value}
    (a6 : PySem.W.nsIn K mainGlobals "common_divisor" = some (some (.ref f6))) (l6 : K.lookup f6 = some ⟨oc6, od6, .func (PySem.W.fnOf "common_divisor" "common_divisor" (defArgs s_common_divisor) (defBody s_common_divisor) (defScope s_common_divisor) .none kV6 dc6 pm6 an6 cd6 ct6), sl6⟩) (c6 : PySem.W.codeIn K cd6 "common_divisor" = true) (k6 : PySem.W.keepIn K (.ref f6) = true)
    {f7 : Addr} {od7 an7 : Option Addr} {sl7 : Array (Option Value)} {oc7 kV7 dc7 pm7 cd7 ct7 : Value}
    (a7 : PySem.W.nsIn K mainGlobals "round_of" = some (some (.ref f7))) (l7 : K.lookup f7 = some ⟨oc7, od7, .func (PySem.W.fnOf "round_of" "round_of" (defArgs s_round_of) (defBody s_round_of) (defScope s_round_of) .none kV7 dc7 pm7 an7 cd7 ct7), sl7⟩) (c7 : PySem.W.codeIn K cd7 "round_of" = true) (k7 : PySem.W.keepIn K (.ref f7) = true)
    {f8 : Addr} {od8 an8 : Option Addr} {sl8 : Array (Option Value)} {oc8 kV8 dc8 pm8 cd8 ct8 : Value}
    (a8 : PySem.W.nsIn K mainGlobals "holds_of" = some (some (.ref f8))) (l8 : K.lookup f8 = some ⟨oc8, od8, .func (PySem.W.fnOf "holds_of" "holds_of" (defArgs s_holds_of) (defBody s_holds_of) (defScope s_holds_of) .none kV8 dc8 pm8 an8 cd8 ct8), sl8⟩) (c8 : PySem.W.codeIn K cd8 "holds_of" = true) (k8 : PySem.W.keepIn K (.ref f8) = true)
    {f9 : Addr} {od9 an9 : Option Addr} {sl9 : Array (Option Value)} {oc9 kV9 dc9 pm9 cd9 ct9 : Value}
    (a9 : PySem.W.nsIn K mainGlobals "rule_holds" = some (some (.ref f9))) (l9 : K.lookup f9 = some ⟨oc9, od9, .func (PySem.W.fnOf "rule_holds" "rule_holds" (defArgs s_rule_holds) (defBody s_rule_holds) (defScope s_rule_holds) .none kV9 dc9 pm9 an9 cd9 ct9), sl9⟩) (c9 : PySem.W.codeIn K cd9 "rule_holds" = true) (k9 : PySem.W.keepIn K (.ref f9) = true)
    {f10 : Addr} {od10 an10 : Option Addr} {sl10 : Array (Option Value)} {oc10 kV10 dc10 pm10 cd10 ct10 : Value}
    (a10 : PySem.W.nsIn K mainGlobals "forms_of" = some (some (.ref f10))) (l10 : K.lookup f10 = some ⟨oc10, od10, .func (PySem.W.fnOf "forms_of" "forms_of" (defArgs s_forms_of) (defBody s_forms_of) (defScope s_forms_of) .none kV10 dc10 pm10 an10 cd10 ct10), sl10⟩) (c10 : PySem.W.codeIn K cd10 "forms_of" = true) (k10 : PySem.W.keepIn K (.ref f10) = true)
    {f11 : Addr} {od11 an11 : Option Addr} {sl11 : Array (Option Value)} {oc11 kV11 dc11 pm11 cd11 ct11 : Value}
    (a11 : PySem.W.nsIn K mainGlobals "row_bits" = some (some (.ref f11))) (l11 : K.lookup f11 = some ⟨oc11, od11, .func (PySem.W.fnOf "row_bits" "row_bits" (defArgs s_row_bits) (defBody s_row_bits) (defScope s_row_bits) .none kV11 dc11 pm11 an11 cd11 ct11), sl11⟩) (c11 : PySem.W.codeIn K cd11 "row_bits" = true) (k11 : PySem.W.keepIn K (.ref f11) = true)
    {f12 : Addr} {od12 an12 : Option Addr} {sl12 : Array (Option Value)} {oc12 kV12 dc12 pm12 cd12 ct12 : Value}
    (a12 : PySem.W.nsIn K mainGlobals "form_bits" = some (some (.ref f12))) (l12 : K.lookup f12 = some ⟨oc12, od12, .func (PySem.W.fnOf "form_bits" "form_bits" (defArgs s_form_bits) (defBody s_form_bits) (defScope s_form_bits) .none kV12 dc12 pm12 an12 cd12 ct12), sl12⟩) (c12 : PySem.W.codeIn K cd12 "form_bits" = true) (k12 : PySem.W.keepIn K (.ref f12) = true)
    {f13 : Addr} {od13 an13 : Option Addr} {sl13 : Array (Option Value)} {oc13 kV13 dc13 pm13 cd13 ct13 : Value}
    (a13 : PySem.W.nsIn K mainGlobals "words_with" = some (some (.ref f13))) (l13 : K.lookup f13 = some ⟨oc13, od13, .func (PySem.W.fnOf "words_with" "words_with" (defArgs s_words_with) (defBody s_words_with) (defScope s_words_with) .none kV13 dc13 pm13 an13 cd13 ct13), sl13⟩) (c13 : PySem.W.codeIn K cd13 "words_with" = true) (k13 : PySem.W.keepIn K (.ref f13) = true)
    {f14 : Addr} {od14 an14 : Option Addr} {sl14 : Array (Option Value)} {oc14 kV14 dc14 pm14 cd14 ct14 : Value}
    (a14 : PySem.W.nsIn K mainGlobals "unlike" = some (some (.ref f14))) (l14 : K.lookup f14 = some ⟨oc14, od14, .func (PySem.W.fnOf "unlike" "unlike" (defArgs s_unlike) (defBody s_unlike) (defScope s_unlike) .none kV14 dc14 pm14 an14 cd14 ct14), sl14⟩) (c14 : PySem.W.codeIn K cd14 "unlike" = true) (k14 : PySem.W.keepIn K (.ref f14) = true)
    {f15 : Addr} {od15 an15 : Option Addr} {sl15 : Array (Option Value)} {oc15 kV15 dc15 pm15 cd15 ct15 : Value}
    (a15 : PySem.W.nsIn K mainGlobals "first_far" = some (some (.ref f15))) (l15 : K.lookup f15 = some ⟨oc15, od15, .func (PySem.W.fnOf "first_far" "first_far" (defArgs s_first_far) (defBody s_first_far) (defScope s_first_far) .none kV15 dc15 pm15 an15 cd15 ct15), sl15⟩) (c15 : PySem.W.codeIn K cd15 "first_far" = true) (k15 : PySem.W.keepIn K (.ref f15) = true)
    {f16 : Addr} {od16 an16 : Option Addr} {sl16 : Array (Option Value)} {oc16 kV16 dc16 pm16 cd16 ct16 : Value}
    (a16 : PySem.W.nsIn K mainGlobals "amiss" = some (some (.ref f16))) (l16 : K.lookup f16 = some ⟨oc16, od16, .func (PySem.W.fnOf "amiss" "amiss" (defArgs s_amiss) (defBody s_amiss) (defScope s_amiss) .none kV16 dc16 pm16 an16 cd16 ct16), sl16⟩) (c16 : PySem.W.codeIn K cd16 "amiss" = true) (k16 : PySem.W.keepIn K (.ref f16) = true)
    {f17 : Addr} {od17 an17 : Option Addr} {sl17 : Array (Option Value)} {oc17 kV17 dc17 pm17 cd17 ct17 : Value}
    (a17 : PySem.W.nsIn K mainGlobals "cover" = some (some (.ref f17))) (l17 : K.lookup f17 = some ⟨oc17, od17, .func (PySem.W.fnOf "cover" "cover" (defArgs s_cover) (defBody s_cover) (defScope s_cover) .none kV17 dc17 pm17 an17 cd17 ct17), sl17⟩) (c17 : PySem.W.codeIn K cd17 "cover" = true) (k17 : PySem.W.keepIn K (.ref f17) = true)
    {f18 : Addr} {od18 an18 : Option Addr} {sl18 : Array (Option Value)} {oc18 kV18 dc18 pm18 cd18 ct18 : Value}
    (a18 : PySem.W.nsIn K mainGlobals "cover_holds" = some (some (.ref f18))) (l18 : K.lookup f18 = some ⟨oc18, od18, .func (PySem.W.fnOf "cover_holds" "cover_holds" (defArgs s_cover_holds) (defBody s_cover_holds) (defScope s_cover_holds) .none kV18 dc18 pm18 an18 cd18 ct18), sl18⟩) (c18 : PySem.W.codeIn K cd18 "cover_holds" = true) (k18 : PySem.W.keepIn K (.ref f18) = true)
    {f19 : Addr} {od19 an19 : Option Addr} {sl19 : Array (Option Value)} {oc19 kV19 dc19 pm19 cd19 ct19 : Value}
    (a19 : PySem.W.nsIn K mainGlobals "_law_deck" = some (some (.ref f19))) (l19 : K.lookup f19 = some ⟨oc19, od19, .func (PySem.W.fnOf "_law_deck" "_law_deck" (defArgs s_l_deck) (defBody s_l_deck) (defScope s_l_deck) .none kV19 dc19 pm19 an19 cd19 ct19), sl19⟩) (c19 : PySem.W.codeIn K cd19 "_law_deck" = true) (k19 : PySem.W.keepIn K (.ref f19) = true)
    {f20 : Addr} {od20 an20 : Option Addr} {sl20 : Array (Option Value)} {oc20 kV20 dc20 pm20 cd20 ct20 : Value}
    (a20 : PySem.W.nsIn K mainGlobals "_law_draw" = some (some (.ref f20))) (l20 : K.lookup f20 = some ⟨oc20, od20, .func (PySem.W.fnOf "_law_draw" "_law_draw" (defArgs s_l_draw) (defBody s_l_draw) (defScope s_l_draw) .none kV20 dc20 pm20 an20 cd20 ct20), sl20⟩) (c20 : PySem.W.codeIn K cd20 "_law_draw" = true) (k20 : PySem.W.keepIn K (.ref f20) = true)
    {f21 : Addr} {od21 an21 : Option Addr} {sl21 : Array (Option Value)} {oc21 kV21 dc21 pm21 cd21 ct21 : Value}
    (a21 : PySem.W.nsIn K mainGlobals "_law_names" = some (some (.ref f21))) (l21 : K.lookup f21 = some ⟨oc21, od21, .func (PySem.W.fnOf "_law_names" "_law_names" (defArgs s_l_names) (defBody s_l_names) (defScope s_l_names) .none kV21 dc21 pm21 an21 cd21 ct21), sl21⟩) (c21 : PySem.W.codeIn K cd21 "_law_names" = true) (k21 : PySem.W.keepIn K (.ref f21) = true)
    {f22 : Addr} {od22 an22 : Option Addr} {sl22 : Array (Option Value)} {oc22 kV22 dc22 pm22 cd22 ct22 : Value}
    (a22 : PySem.W.nsIn K mainGlobals "_law_test" = some (some (.ref f22))) (l22 : K.lookup f22 = some ⟨oc22, od22, .func (PySem.W.fnOf "_law_test" "_law_test" (defArgs s_l_test) (defBody s_l_test) (defScope s_l_test) .none kV22 dc22 pm22 an22 cd22 ct22), sl22⟩) (c22 : PySem.W.codeIn K cd22 "_law_test" = true) (k22 : PySem.W.keepIn K (.ref f22) = true)
    {f23 : Addr} {od23 an23 : Option Addr} {sl23 : Array (Option Value)} {oc23 kV23 dc23 pm23 cd23 ct23 : Value}
    (a23 : PySem.W.nsIn K mainGlobals "_law_turned" = some (some (.ref f23))) (l23 : K.lookup f23 = some ⟨oc23, od23, .func (PySem.W.fnOf "_law_turned" "_law_turned" (defArgs s_l_turned) (defBody s_l_turned) (defScope s_l_turned) .none kV23 dc23 pm23 an23 cd23 ct23), sl23⟩) (c23 : PySem.W.codeIn K cd23 "_law_turned" = true) (k23 : PySem.W.keepIn K (.ref f23) = true)
    {f24 : Addr} {od24 an24 : Option Addr} {sl24 : Array (Option Value)} {oc24 kV24 dc24 pm24 cd24 ct24 : Value}
    (a24 : PySem.W.nsIn K mainGlobals "_law_covering" = some (some (.ref f24))) (l24 : K.lookup f24 = some ⟨oc24, od24, .func (PySem.W.fnOf "_law_covering" "_law_covering" (defArgs s_l_covering) (defBody s_l_covering) (defScope s_l_covering) .none kV24 dc24 pm24 an24 cd24 ct24), sl24⟩) (c24 : PySem.W.codeIn K cd24 "_law_covering" = true) (k24 : PySem.W.keepIn K (.ref f24) = true)
    {f25 : Addr} {od25 an25 : Option Addr} {sl25 : Array (Option Value)} {oc25 kV25 dc25 pm25 cd25 ct25 : Value}
    (a25 : PySem.W.nsIn K mainGlobals "_law_holds" = some (some (.ref f25))) (l25 : K.lookup f25 = some ⟨oc25, od25, .func (PySem.W.fnOf "_law_holds" "_law_holds" (defArgs s_l_holds) (defBody s_l_holds) (defScope s_l_holds) .none kV25 dc25 pm25 an25 cd25 ct25), sl25⟩) (c25 : PySem.W.codeIn K cd25 "_law_holds" = true) (k25 : PySem.W.keepIn K (.ref f25) = true)
    {f26 : Addr} {od26 an26 : Option Addr} {sl26 : Array (Option Value)} {oc26 kV26 dc26 pm26 cd26 ct26 : Value}
    (a26 : PySem.W.nsIn K mainGlobals "_law_words" = some (some (.ref f26))) (l26 : K.lookup f26 = some ⟨oc26, od26, .func (PySem.W.fnOf "_law_words" "_law_words" (defArgs s_l_words) (defBody s_l_words) (defScope s_l_words) .none kV26 dc26 pm26 an26 cd26 ct26), sl26⟩) (c26 : PySem.W.codeIn K cd26 "_law_words" = true) (k26 : PySem.W.keepIn K (.ref f26) = true)
    {f27 : Addr} {od27 an27 : Option Addr} {sl27 : Array (Option Value)} {oc27 kV27 dc27 pm27 cd27 ct27 : Value}
    (a27 : PySem.W.nsIn K mainGlobals "_law_bent_forms" = some (some (.ref f27))) (l27 : K.lookup f27 = some ⟨oc27, od27, .func (PySem.W.fnOf "_law_bent_forms" "_law_bent_forms" (defArgs s_l_bent_forms) (defBody s_l_bent_forms) (defScope s_l_bent_forms) .none kV27 dc27 pm27 an27 cd27 ct27), sl27⟩) (c27 : PySem.W.codeIn K cd27 "_law_bent_forms" = true) (k27 : PySem.W.keepIn K (.ref f27) = true)
    {f28 : Addr} {od28 an28 : Option Addr} {sl28 : Array (Option Value)} {oc28 kV28 dc28 pm28 cd28 ct28 : Value}
    (a28 : PySem.W.nsIn K mainGlobals "_law_firsts" = some (some (.ref f28))) (l28 : K.lookup f28 = some ⟨oc28, od28, .func (PySem.W.fnOf "_law_firsts" "_law_firsts" (defArgs s_l_firsts) (defBody s_l_firsts) (defScope s_l_firsts) .none kV28 dc28 pm28 an28 cd28 ct28), sl28⟩) (c28 : PySem.W.codeIn K cd28 "_law_firsts" = true) (k28 : PySem.W.keepIn K (.ref f28) = true)
    {f29 : Addr} {od29 an29 : Option Addr} {sl29 : Array (Option Value)} {oc29 kV29 dc29 pm29 cd29 ct29 : Value}
    (a29 : PySem.W.nsIn K mainGlobals "_law_cover" = some (some (.ref f29))) (l29 : K.lookup f29 = some ⟨oc29, od29, .func (PySem.W.fnOf "_law_cover" "_law_cover" (defArgs s_l_cover) (defBody s_l_cover) (defScope s_l_cover) .none kV29 dc29 pm29 an29 cd29 ct29), sl29⟩) (c29 : PySem.W.codeIn K cd29 "_law_cover" = true) (k29 : PySem.W.keepIn K (.ref f29) = true)
    {f30 : Addr} {od30 an30 : Option Addr} {sl30 : Array (Option Value)} {oc30 kV30 dc30 pm30 cd30 ct30 : Value}
    (a30 : PySem.W.nsIn K mainGlobals "_law_odd" = some (some (.ref f30))) (l30 : K.lookup f30 = some ⟨oc30, od30, .func (PySem.W.fnOf "_law_odd" "_law_odd" (defArgs s_l_odd) (defBody s_l_odd) (defScope s_l_odd) .none kV30 dc30 pm30 an30 cd30 ct30), sl30⟩) (c30 : PySem.W.codeIn K cd30 "_law_odd" = true) (k30 : PySem.W.keepIn K (.ref f30) = true)
    {f31 : Addr} {od31 an31 : Option Addr} {sl31 : Array (Option Value)} {oc31 kV31 dc31 pm31 cd31 ct31 : Value}
    (a31 : PySem.W.nsIn K mainGlobals "_law_bent" = some (some (.ref f31))) (l31 : K.lookup f31 = some ⟨oc31, od31, .func (PySem.W.fnOf "_law_bent" "_law_bent" (defArgs s_l_bent) (defBody s_l_bent) (defScope s_l_bent) .none kV31 dc31 pm31 an31 cd31 ct31), sl31⟩) (c31 : PySem.W.codeIn K cd31 "_law_bent" = true) (k31 : PySem.W.keepIn K (.ref f31) = true)
    {f32 : Addr} {od32 an32 : Option Addr} {sl32 : Array (Option Value)} {oc32 kV32 dc32 pm32 cd32 ct32 : Value}
    (a32 : PySem.W.nsIn K mainGlobals "_law_whole" = some (some (.ref f32))) (l32 : K.lookup f32 = some ⟨oc32, od32, .func (PySem.W.fnOf "_law_whole" "_law_whole" (defArgs s_l_whole) (defBody s_l_whole) (defScope s_l_whole) .none kV32 dc32 pm32 an32 cd32 ct32), sl32⟩) (c32 : PySem.W.codeIn K cd32 "_law_whole" = true) (k32 : PySem.W.keepIn K (.ref f32) = true)
    {f33 : Addr} {od33 an33 : Option Addr} {sl33 : Array (Option Value)} {oc33 kV33 dc33 pm33 cd33 ct33 : Value}
    (a33 : PySem.W.nsIn K mainGlobals "_law_due" = some (some (.ref f33))) (l33 : K.lookup f33 = some ⟨oc33, od33, .func (PySem.W.fnOf "_law_due" "_law_due" (defArgs s_l_due) (defBody s_l_due) (defScope s_l_due) .none kV33 dc33 pm33 an33 cd33 ct33), sl33⟩) (c33 : PySem.W.codeIn K cd33 "_law_due" = true) (k33 : PySem.W.keepIn K (.ref f33) = true)
    {f34 : Addr} {od34 an34 : Option Addr} {sl34 : Array (Option Value)} {oc34 kV34 dc34 pm34 cd34 ct34 : Value}
    (a34 : PySem.W.nsIn K mainGlobals "law" = some (some (.ref f34))) (l34 : K.lookup f34 = some ⟨oc34, od34, .func (PySem.W.fnOf "law" "law" (defArgs s_law) (defBody s_law) (defScope s_law) .none kV34 dc34 pm34 an34 cd34 ct34), sl34⟩) (c34 : PySem.W.codeIn K cd34 "law" = true) (k34 : PySem.W.keepIn K (.ref f34) = true)
    (z_abs : PySem.W.nsIn K mainGlobals "abs" = some none)
    (z_all : PySem.W.nsIn K mainGlobals "all" = some none)
    (z_any : PySem.W.nsIn K mainGlobals "any" = some none)
    (z_bool : PySem.W.nsIn K mainGlobals "bool" = some none)
    (z_divmod : PySem.W.nsIn K mainGlobals "divmod" = some none)
    (z_int : PySem.W.nsIn K mainGlobals "int" = some none)
    (z_isinstance : PySem.W.nsIn K mainGlobals "isinstance" = some none)
    (z_len : PySem.W.nsIn K mainGlobals "len" = some none)
    (z_list : PySem.W.nsIn K mainGlobals "list" = some none)
    (z_max : PySem.W.nsIn K mainGlobals "max" = some none)
    (z_min : PySem.W.nsIn K mainGlobals "min" = some none)
    (z_range : PySem.W.nsIn K mainGlobals "range" = some none)
    (z_repr : PySem.W.nsIn K mainGlobals "repr" = some none)
    (z_sorted : PySem.W.nsIn K mainGlobals "sorted" = some none)
    (z_str : PySem.W.nsIn K mainGlobals "str" = some none)
    (z_tuple : PySem.W.nsIn K mainGlobals "tuple" = some none)
    {tk_MOST_PLACES : Tok} (y_MOST_PLACES : PySem.W.nsIn K mainGlobals "MOST_PLACES" = some (some (.int 2 tk_MOST_PLACES)))
    : ∃ fd : FuncData, (∀ (s : Shared) (v : Value), BindsTo s fd ⟨[v], []⟩ [("_law_script", v)]) ∧ ∀ base : Heap, K.In base → base.Ns mainGlobals mg → FnG l.prog w K mg base 16 fa fd ["_law_script"] (spLaw K) := by
  have e := hfa.symm.trans (PySem.W.mg_of X G a34)
  cases e
  have F0 : FunD K "is_number" "is_number" (defArgs s_is_number) (defBody s_is_number) (defScope s_is_number) [.int 0, .int 1000000000000] [] _ _ := ⟨⟨_, _, _, _, _, _, _, _, _, _, rfl, l0, c0, .inr ⟨by simp, _, _, _, _, rfl, t0, u0, (.cons ⟨_, rfl⟩ (.cons ⟨_, rfl⟩ .nil))⟩, .inl rfl⟩, k0⟩
  have F1 := fun_mk (st := s_is_tuple) l1 c1 k1
  have F2 := fun_mk (st := s_is_count) l2 c2 k2
  have F3 := fun_mk (st := s_scale_of) l3 c3 k3
  have F4 := fun_mk (st := s_parts_of) l4 c4 k4
  have F5 := fun_mk (st := s_all_tests) l5 c5 k5
  have F6 := fun_mk (st := s_common_divisor) l6 c6 k6
  have F7 := fun_mk (st := s_round_of) l7 c7 k7
  have F8 := fun_mk (st := s_holds_of) l8 c8 k8
  have F9 := fun_mk (st := s_rule_holds) l9 c9 k9
  have F10 := fun_mk (st := s_forms_of) l10 c10 k10
  have F11 := fun_mk (st := s_row_bits) l11 c11 k11
  have F12 := fun_mk (st := s_form_bits) l12 c12 k12
  have F13 := fun_mk (st := s_words_with) l13 c13 k13
  have F14 := fun_mk (st := s_unlike) l14 c14 k14
  have F15 := fun_mk (st := s_first_far) l15 c15 k15
  have F16 := fun_mk (st := s_amiss) l16 c16 k16
  have F17 := fun_mk (st := s_cover) l17 c17 k17
  have F18 := fun_mk (st := s_cover_holds) l18 c18 k18
  have F19 := fun_mk (st := s_l_deck) l19 c19 k19
  have F20 := fun_mk (st := s_l_draw) l20 c20 k20
  have F21 := fun_mk (st := s_l_names) l21 c21 k21
  have F22 := fun_mk (st := s_l_test) l22 c22 k22
  have F23 := fun_mk (st := s_l_turned) l23 c23 k23
  have F24 := fun_mk (st := s_l_covering) l24 c24 k24
  have F25 := fun_mk (st := s_l_holds) l25 c25 k25
  have F26 := fun_mk (st := s_l_words) l26 c26 k26
  have F27 := fun_mk (st := s_l_bent_forms) l27 c27 k27
  have F28 := fun_mk (st := s_l_firsts) l28 c28 k28
  have F29 := fun_mk (st := s_l_cover) l29 c29 k29
  have F30 := fun_mk (st := s_l_odd) l30 c30 k30
  have F31 := fun_mk (st := s_l_bent) l31 c31 k31
  have F32 := fun_mk (st := s_l_whole) l32 c32 k32
  have F33 := fun_mk (st := s_l_due) l33 c33 k33
  have F34 := fun_mk (st := s_law) l34 c34 k34
  obtain ⟨ds0, v0, b0⟩ := F0.binds1 (ps := ["thing", "low", "high"]) 3 2 (by simp) rfl fun _ _ _ _ _ _ _ us its h1 h2 => match us, its, h1, h2 with | [_, _, _], [_, _], _, _ => ⟨_, rfl, rfl⟩
  replace v0 : Vals [] ds0 := v0
  cases v0
  have e0_1 := F0.binds1 (ps := ["thing", "low", "high"]) 1 0 (by simp) rfl fun _ _ _ _ _ _ _ us its h1 h2 => match us, its, h1, h2 with | [_], [_, _], _, _ => ⟨_, rfl, rfl⟩
  have b1 := F1.binds (ps := ["thing", "least", "most"]) fun _ _ _ _ _ _ us hl => match us, hl with | [_, _, _], _ => rfl
  have b2 := F2.binds (ps := ["thing"]) fun _ _ _ _ _ _ us hl => match us, hl with | [_], _ => rfl
  have b3 := F3.binds (ps := ["places"]) fun _ _ _ _ _ _ us hl => match us, hl with | [_], _ => rfl
  have b4 := F4.binds (ps := ["count"]) fun _ _ _ _ _ _ us hl => match us, hl with | [_], _ => rfl
  have b5 := F5.binds (ps := ["forms"]) fun _ _ _ _ _ _ us hl => match us, hl with | [_], _ => rfl
  have b6 := F6.binds (ps := ["one", "other"]) fun _ _ _ _ _ _ us hl => match us, hl with | [_, _], _ => rfl
  have b7 := F7.binds (ps := ["forms"]) fun _ _ _ _ _ _ us hl => match us, hl with | [_], _ => rfl
  have b8 := F8.binds (ps := ["test", "number"]) fun _ _ _ _ _ _ us hl => match us, hl with | [_, _], _ => rfl
  have b9 := F9.binds (ps := ["rule", "parts"]) fun _ _ _ _ _ _ us hl => match us, hl with | [_, _], _ => rfl
  have b10 := F10.binds (ps := ["forms", "count"]) fun _ _ _ _ _ _ us hl => match us, hl with | [_, _], _ => rfl
  have b11 := F11.binds (ps := ["forms", "what", "number"]) fun _ _ _ _ _ _ us hl => match us, hl with | [_, _, _], _ => rfl
  have b12 := F12.binds (ps := ["forms"]) fun _ _ _ _ _ _ us hl => match us, hl with | [_], _ => rfl
  have b13 := F13.binds (ps := ["pairs", "bits"]) fun _ _ _ _ _ _ us hl => match us, hl with | [_, _], _ => rfl
  have b14 := F14.binds (ps := ["forms", "what", "numbers"]) fun _ _ _ _ _ _ us hl => match us, hl with | [_, _, _], _ => rfl
  have b15 := F15.binds (ps := ["forms"]) fun _ _ _ _ _ _ us hl => match us, hl with | [_], _ => rfl
  have b16 := F16.binds (ps := ["forms", "wholes", "places"]) fun _ _ _ _ _ _ us hl => match us, hl with | [_, _, _], _ => rfl
  have b17 := F17.binds (ps := ["forms"]) fun _ _ _ _ _ _ us hl => match us, hl with | [_], _ => rfl
  have b18 := F18.binds (ps := ["forms", "thing"]) fun _ _ _ _ _ _ us hl => match us, hl with | [_, _], _ => rfl
  have b19 := F19.binds (ps := ["_law_script"]) fun _ _ _ _ _ _ us hl => match us, hl with | [_], _ => rfl
  have b20 := F20.binds (ps := ["_law_deck_here", "_law_many"]) fun _ _ _ _ _ _ us hl => match us, hl with | [_, _], _ => rfl
  have b21 := F21.binds (ps := ["_law_deck_here", "_law_many"]) fun _ _ _ _ _ _ us hl => match us, hl with | [_, _], _ => rfl
  have b22 := F22.binds (ps := ["_law_deck_here", "_law_menu"]) fun _ _ _ _ _ _ us hl => match us, hl with | [_, _], _ => rfl
  have b23 := F23.binds (ps := ["_law_test_here"]) fun _ _ _ _ _ _ us hl => match us, hl with | [_], _ => rfl
  have b24 := F24.binds (ps := ["_law_deck_here"]) fun _ _ _ _ _ _ us hl => match us, hl with | [_], _ => rfl
  have b25 := F25.binds (ps := ["_law_test_here", "_law_n", "_law_d"]) fun _ _ _ _ _ _ us hl => match us, hl with | [_, _, _], _ => rfl
  have b26 := F26.binds (ps := ["_law_forms", "_law_n", "_law_d"]) fun _ _ _ _ _ _ us hl => match us, hl with | [_, _, _], _ => rfl
  have b27 := F27.binds (ps := ["_law_deck_here", "_law_forms"]) fun _ _ _ _ _ _ us hl => match us, hl with | [_, _], _ => rfl
  have b28 := F28.binds (ps := ["_law_forms", "_law_what", "_law_many", "_law_d"]) fun _ _ _ _ _ _ us hl => match us, hl with | [_, _, _, _], _ => rfl
  have b29 := F29.binds (ps := ["_law_forms"]) fun _ _ _ _ _ _ us hl => match us, hl with | [_], _ => rfl
  have b30 := F30.binds (ps := ["_law_deck_here"]) fun _ _ _ _ _ _ us hl => match us, hl with | [_], _ => rfl
  have b31 := F31.binds (ps := ["_law_deck_here", "_law_thing", "_law_deep"]) fun _ _ _ _ _ _ us hl => match us, hl with | [_, _, _], _ => rfl
  have b32 := F32.binds (ps := ["_law_thing"]) fun _ _ _ _ _ _ us hl => match us, hl with | [_], _ => rfl
  have b33 := F33.binds (ps := ["_law_forms", "_law_thing", "_law_covers"]) fun _ _ _ _ _ _ us hl => match us, hl with | [_, _, _], _ => rfl
  have b34 := F34.binds (ps := ["_law_script"]) fun _ _ _ _ _ _ us hl => match us, hl with | [_], _ => rfl
  let T : Tx K mg := ⟨f0, _, F0, PySem.W.mg_of X G a0, b0, e0_1, f1, _, F1, PySem.W.mg_of X G a1, b1, f2, _, F2, PySem.W.mg_of X G a2, b2, f3, _, F3, PySem.W.mg_of X G a3, b3, f4, _, F4, PySem.W.mg_of X G a4, b4, f5, _, F5, PySem.W.mg_of X G a5, b5, f6, _, F6, PySem.W.mg_of X G a6, b6, f7, _, F7, PySem.W.mg_of X G a7, b7, f8, _, F8, PySem.W.mg_of X G a8, b8, f9, _, F9, PySem.W.mg_of X G a9, b9, f10, _, F10, PySem.W.mg_of X G a10, b10, f11, _, F11, PySem.W.mg_of X G a11, b11, f12, _, F12, PySem.W.mg_of X G a12, b12, f13, _, F13, PySem.W.mg_of X G a13, b13, f14, _, F14, PySem.W.mg_of X G a14, b14, f15, _, F15, PySem.W.mg_of X G a15, b15, f16, _, F16, PySem.W.mg_of X G a16, b16, f17, _, F17, PySem.W.mg_of X G a17, b17, f18, _, F18, PySem.W.mg_of X G a18, b18, f19, _, F19, PySem.W.mg_of X G a19, b19, f20, _, F20, PySem.W.mg_of X G a20, b20, f21, _, F21, PySem.W.mg_of X G a21, b21, f22, _, F22, PySem.W.mg_of X G a22, b22, f23, _, F23, PySem.W.mg_of X G a23, b23, f24, _, F24, PySem.W.mg_of X G a24, b24, f25, _, F25, PySem.W.mg_of X G a25, b25, f26, _, F26, PySem.W.mg_of X G a26, b26, f27, _, F27, PySem.W.mg_of X G a27, b27, f28, _, F28, PySem.W.mg_of X G a28, b28, f29, _, F29, PySem.W.mg_of X G a29, b29, f30, _, F30, PySem.W.mg_of X G a30, b30, f31, _, F31, PySem.W.mg_of X G a31, b31, f32, _, F32, PySem.W.mg_of X G a32, b32, f33, _, F33, PySem.W.mg_of X G a33, b33, fa, _, F34, PySem.W.mg_of X G a34, b34, PySem.W.mg_none_of X G z_abs, PySem.W.mg_none_of X G z_all, PySem.W.mg_none_of X G z_any, PySem.W.mg_none_of X G z_bool, PySem.W.mg_none_of X G z_divmod, PySem.W.mg_none_of X G z_int, PySem.W.mg_none_of X G z_isinstance, PySem.W.mg_none_of X G z_len, PySem.W.mg_none_of X G z_list, PySem.W.mg_none_of X G z_max, PySem.W.mg_none_of X G z_min, PySem.W.mg_none_of X G z_range, PySem.W.mg_none_of X G z_repr, PySem.W.mg_none_of X G z_sorted, PySem.W.mg_none_of X G z_str, PySem.W.mg_none_of X G z_tuple, _, ⟨PySem.W.mg_of X G y_MOST_PLACES, ⟨_, rfl⟩, fun _ _ => .int _⟩⟩
  exact ⟨PySem.W.fnOf "law" "law" (defArgs s_law) (defBody s_law) (defScope s_law) .none kV34 dc34 pm34 an34 cd34 ct34, fun s v => .of_eq rfl, fun base _ _ => ok_law T hm⟩
end K04
open PySem PySem.W PyProof.Rows
set_option maxHeartbeats 0 in
theorem PySem.Challenge.cw_tonguehouse_k04_what_shows_no_cover_holds : PySem.Challenge.rw_tonguehouse_k04_what_shows_no_cover.Holds := by
  w_on; o_law; k_head; (case hw => w_witness2)
  k_fill
  refine PD.walkG (l := PySem.Challenge.rw_tonguehouse_k04_what_shows_no_cover) (m := 63) (n := 16) (nm := "_law_script") (π := fun w => PD.spLaw _) rfl (by decide) rfl ⟨rfl, by decide, by decide⟩ (fun w h Y => PySem.W.kIn_of Y) ?F (fun _ _ a ns hl _ hS => ⟨a, ns, rfl, hS, hl, fun _ => rfl⟩)
  case F =>
    intro w mg fa h KX G hmg
    refine' K04.all_mk KX G hmg K04.main ?a0 ?l0 ?t0 ?u0 ?c0 ?k0 ?a1 ?l1 ?c1 ?k1 ?a2 ?l2 ?c2 ?k2 ?a3 ?l3 ?c3 ?k3 ?a4 ?l4 ?c4 ?k4 ?a5 ?l5 ?c5 ?k5 ?a6 ?l6 ?c6 ?k6 ?a7 ?l7 ?c7 ?k7 ?a8 ?l8 ?c8 ?k8 ?a9 ?l9 ?c9 ?k9 ?a10 ?l10 ?c10 ?k10 ?a11 ?l11 ?c11 ?k11 ?a12 ?l12 ?c12 ?k12 ?a13 ?l13 ?c13 ?k13 ?a14 ?l14 ?c14 ?k14 ?a15 ?l15 ?c15 ?k15 ?a16 ?l16 ?c16 ?k16 ?a17 ?l17 ?c17 ?k17 ?a18 ?l18 ?c18 ?k18 ?a19 ?l19 ?c19 ?k19 ?a20 ?l20 ?c20 ?k20 ?a21 ?l21 ?c21 ?k21 ?a22 ?l22 ?c22 ?k22 ?a23 ?l23 ?c23 ?k23 ?a24 ?l24 ?c24 ?k24 ?a25 ?l25 ?c25 ?k25 ?a26 ?l26 ?c26 ?k26 ?a27 ?l27 ?c27 ?k27 ?a28 ?l28 ?c28 ?k28 ?a29 ?l29 ?c29 ?k29 ?a30 ?l30 ?c30 ?k30 ?a31 ?l31 ?c31 ?k31 ?a32 ?l32 ?c32 ?k32 ?a33 ?l33 ?c33 ?k33 ?a34 ?l34 ?c34 ?k34 ?z_abs ?z_all ?z_any ?z_bool ?z_divmod ?z_int ?z_isinstance ?z_len ?z_list ?z_max ?z_min ?z_range ?z_repr ?z_sorted ?z_str ?z_tuple ?y_MOST_PLACES
    (case a0 => k_is); (case l0 => k_is); (case t0 => k_is); (case u0 => rfl); (case c0 => k_is); (case k0 => k_is); (case a1 => k_is); (case l1 => k_is); (case c1 => k_is); (case k1 => k_is); (case a2 => k_is); (case l2 => k_is); (case c2 => k_is); (case k2 => k_is); (case a3 => k_is); (case l3 => k_is); (case c3 => k_is); (case k3 => k_is); (case a4 => k_is); (case l4 => k_is); (case c4 => k_is); (case k4 => k_is); (case a5 => k_is); (case l5 => k_is); (case c5 => k_is); (case k5 => k_is); (case a6 => k_is); (case l6 => k_is); (case c6 => k_is); (case k6 => k_is); (case a7 => k_is); (case l7 => k_is); (case c7 => k_is); (case k7 => k_is); (case a8 => k_is); (case l8 => k_is); (case c8 => k_is); (case k8 => k_is); (case a9 => k_is); (case l9 => k_is); (case c9 => k_is); (case k9 => k_is); (case a10 => k_is); (case l10 => k_is); (case c10 => k_is); (case k10 => k_is); (case a11 => k_is); (case l11 => k_is); (case c11 => k_is); (case k11 => k_is); (case a12 => k_is); (case l12 => k_is); (case c12 => k_is); (case k12 => k_is); (case a13 => k_is); (case l13 => k_is); (case c13 => k_is); (case k13 => k_is); (case a14 => k_is); (case l14 => k_is); (case c14 => k_is); (case k14 => k_is); (case a15 => k_is); (case l15 => k_is); (case c15 => k_is); (case k15 => k_is); (case a16 => k_is); (case l16 => k_is); (case c16 => k_is); (case k16 => k_is); (case a17 => k_is); (case l17 => k_is); (case c17 => k_is); (case k17 => k_is); (case a18 => k_is); (case l18 => k_is); (case c18 => k_is); (case k18 => k_is); (case a19 => k_is); (case l19 => k_is); (case c19 => k_is); (case k19 => k_is); (case a20 => k_is); (case l20 => k_is); (case c20 => k_is); (case k20 => k_is); (case a21 => k_is); (case l21 => k_is); (case c21 => k_is); (case k21 => k_is); (case a22 => k_is); (case l22 => k_is); (case c22 => k_is); (case k22 => k_is); (case a23 => k_is); (case l23 => k_is); (case c23 => k_is); (case k23 => k_is); (case a24 => k_is); (case l24 => k_is); (case c24 => k_is); (case k24 => k_is); (case a25 => k_is); (case l25 => k_is); (case c25 => k_is); (case k25 => k_is); (case a26 => k_is); (case l26 => k_is); (case c26 => k_is); (case k26 => k_is); (case a27 => k_is); (case l27 => k_is); (case c27 => k_is); (case k27 => k_is); (case a28 => k_is); (case l28 => k_is); (case c28 => k_is); (case k28 => k_is); (case a29 => k_is); (case l29 => k_is); (case c29 => k_is); (case k29 => k_is); (case a30 => k_is); (case l30 => k_is); (case c30 => k_is); (case k30 => k_is); (case a31 => k_is); (case l31 => k_is); (case c31 => k_is); (case k31 => k_is); (case a32 => k_is); (case l32 => k_is); (case c32 => k_is); (case k32 => k_is); (case a33 => k_is); (case l33 => k_is); (case c33 => k_is); (case k33 => k_is); (case a34 => k_is); (case l34 => k_is); (case c34 => k_is); (case k34 => k_is); (case z_abs => k_is); (case z_all => k_is); (case z_any => k_is); (case z_bool => k_is); (case z_divmod => k_is); (case z_int => k_is); (case z_isinstance => k_is); (case z_len => k_is); (case z_list => k_is); (case z_max => k_is); (case z_min => k_is); (case z_range => k_is); (case z_repr => k_is); (case z_sorted => k_is); (case z_str => k_is); (case z_tuple => k_is); (case y_MOST_PLACES => k_is)
