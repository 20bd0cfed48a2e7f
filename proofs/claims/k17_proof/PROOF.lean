import PyProof.Rows.All
import Wide.All
import OpenK.AllK
import Wide.FinOn
import HandS.ForMost
import HandS.Exc
import HandS.TryOnly
import HandS.ExcOwn
import HandS.WordsExc
import HandS.CallSlots
import HandS.IsInst
import HandS.Flow
import HandS.TupAny
import HandS.TupMul
import HandS.WrittenGet
import HandS.Nested
import HandS.Deep
import HandS.Style
import HandS.Zip
import HandS.SetFor
import KE.GoesEnum
import KE.SortData
import HandS.SortInts
import HandS.Conv
import KE.LtData
import HandS.Strs
import HandS.ExcIs
import HandS.ExcField
import HandS.EndTab
import KE.KDflt
import HandS.ExcInit
import HandS.ExcSuper
import KE.KExcSuper
import PyProof.FString2
import KE.RegKSuper
import HandS.Text
import HandS.StrMore
import HandS.RaiseMore
import HandS.Codes
import PyProof.InstEq
import PyProof.DictMoreH
import KE.DataFind
import HandS.Defaults
import HandS.Head0
import HandS.Head1
import HandS.Head2
import HandS.HeadEnd
import HandS.HeadHook1
import HandS.HeadHook2
import HandS.HeadHook3
import HandS.HeadHook4
import HandS.HeadWalk
import KE.GoesEnumKw
import KE.KUnpackStar
import PySem.Challenge.RW_windowbelt_k17_whole_texts_of_programs
set_option Elab.async false
set_option linter.all false
set_option maxRecDepth 100000
/-! Dx: values as trees, a heap of numbered objects, deterministic steps; and how they lie over the hand layer. -/
namespace Dx
open PySem PySem.Spec L2

inductive D where
  | non
  | bl (b : Bool)
  | int (i : Int)
  | str (s : String)
  | tup (xs : List D)
  | ref (n : Nat)
  | ktup (xs : List D)
  | clist (xs : List D)
  | slist (ns : List Int)
  | cdict (ks : List String) (xs : List D)
  | clo (n : Nat)
  | exv (a : Nat) (d : Option Nat) (ks : List String) (xs : List D)
  deriving Inhabited

/-- an object: a list; a dict with text or int keys; one with tuple keys; an instance -/
inductive O where
  | lst (xs : List D)
  | dct (kvs : List (Key × D))
  | dtt (kvs : List (List Key × D))
  | obj (c : Nat) (fs : List (String × D))

abbrev Sg := List O
abbrev Ev := List (Option D)

inductive R (α : Type) where
  | ok (a : α) (s : Sg)
  | exc (c : Nat) (fs : List (String × D)) (s : Sg)
  | stuck

/-- what is told of an address beside: closures; the fields of errors (number 0) -/
structure Ci where
  n : Nat
  ks : List Str := []
  vs : List V := []
/-- what stands around: the classes' addresses (by number), the closures' meaning -/
structure Gx where
  K : PySem.W.Frag
  w : World
  cls : Nat → Addr
  clo : Ci → Addr → Hp → Prop
  /-- the tables of code objects -/
  T : List NdefX.NTab := []

def KNo (K : PySem.W.Frag) (w : World) (a : Addr) (ks : List String) : Prop := (a == sysModules) = false ∧ ∀ z : Str, (∀ k ∈ ks, z ≠ Str.ofString k) → KMiss K w a z

mutual
inductive Den (G : Gx) (μ : List Addr) (H : Hp) : D → V → Prop
  | non : Den G μ H .non .non
  | bl (b : Bool) : Den G μ H (.bl b) (.bl b)
  | int (i : Int) : Den G μ H (.int i) (.int i)
  | str (s : String) : Den G μ H (.str s) (.str (Str.ofString s))
  | tup {a : Addr} {xs : List D} {vs : List V} : H a = some (.tup vs) → DenA G μ H xs vs → Den G μ H (.tup xs) (.ref a)
  | ktup {a : Addr} {xs : List D} {vs : List V} : (∀ H', SqT G.K H' a vs) → DenA G μ H xs vs → Den G μ H (.ktup xs) (.ref a)
  | ref {n : Nat} {a : Addr} : μ[n]? = some a → Den G μ H (.ref n) (.ref a)
  | clist {a : Addr} {xs : List D} {vs : List V} : (∃ q, H a = some (.frz q (.lst vs))) → DenA G μ H xs vs → Den G μ H (.clist xs) (.ref a)
  | slist {a : Addr} {ns : List Int} : ((∃ q, H a = some (.frz q (.lst (ns.map V.int)))) ∨ ∀ H', SqL G.K H' a (ns.map V.int)) → Den G μ H (.slist ns) (.ref a)
  | cdict {a : Addr} {ks : List String} {xs : List D} {vs : List V} : KNo G.K G.w a ks → (∀ p ∈ ks.zip vs, KDct G.K G.w a (Str.ofString p.1) p.2) → DenA G μ H xs vs → Den G μ H (.cdict ks xs) (.ref a)
  | clo {n : Nat} {a : Addr} : G.clo { n := n + 1 } a H → Den G μ H (.clo n) (.ref a)
  | exv0 {a : Addr} : Den G μ H (.exv a none [] []) (.ref a)
  | exv {a d : Addr} {ks : List String} {xs : List D} {vs : List V} : G.clo ⟨0, ks.map Str.ofString, vs⟩ d H → DenA G μ H xs vs → Den G μ H (.exv a (some d) ks xs) (.ref a)
inductive DenA (G : Gx) (μ : List Addr) (H : Hp) : List D → List V → Prop
  | nil : DenA G μ H [] []
  | cons {d : D} {ds : List D} {v : V} {vs : List V} : Den G μ H d v → DenA G μ H ds vs → DenA G μ H (d :: ds) (v :: vs)
end

/-- fields, pairs -/
def DenF (G : Gx) (μ : List Addr) (H : Hp) (fs : List (String × D)) (gs : List (Str × V)) : Prop :=
  gs.map (·.1) = fs.map (fun p => Str.ofString p.1) ∧ DenA G μ H (fs.map (·.2)) (gs.map (·.2))
def DenK {κ : Type} (G : Gx) (μ : List Addr) (H : Hp) (fs : List (κ × D)) (gs : List (κ × V)) : Prop :=
  gs.map (·.1) = fs.map (·.1) ∧ DenA G μ H (fs.map (·.2)) (gs.map (·.2))

def RepO (G : Gx) (μ : List Addr) (H : Hp) (a : Addr) : O → Prop
  | .lst xs => ∃ vs, H a = some (.lst vs) ∧ DenA G μ H xs vs
  | .dct kvs => ∃ gs, H a = some (.dK gs) ∧ DenK G μ H kvs gs
  | .dtt kvs => ∃ gs, H a = some (.dT gs) ∧ DenK G μ H kvs gs
  | .obj c fs => ∃ dx gs, H a = some (.ins (G.cls c) dx gs) ∧ DenF G μ H fs gs
structure Rep (G : Gx) (μ : List Addr) (S : Sg) (H : Hp) : Prop where
  len : μ.length = S.length
  nd : ∀ (i j : Nat) (a : Addr), μ[i]? = some a → μ[j]? = some a → i = j
  at_ : ∀ (n : Nat) (o : O) (a : Addr), S[n]? = some o → μ[n]? = some a → RepO G μ H a o
  tabs : NdefX.TabsN G.T H

/-- what is told of values stays -/
structure Per (G : Gx) (μ : List Addr) (H : Hp) (μ' : List Addr) (H' : Hp) : Prop where
  ext : ∀ (n : Nat) (a : Addr), μ[n]? = some a → μ'[n]? = some a
  tup : ∀ (a : Addr) (xs : List V), H a = some (.tup xs) → H' a = some (.tup xs)
  frz : ∀ (a : Addr) (q : Obj) (u : HO), H a = some (.frz q u) → H' a = some (.frz q u)
  clo : ∀ (n : Ci) (a : Addr), G.clo n a H → G.clo n a H'
  /-- what is tracked without a number stays so -/
  fr : ∀ (a : Addr) (u : HO), H a = some u → (∀ ps, u ≠ .tbl ps) → (∀ n : Nat, μ[n]? ≠ some a) → H' a = some u ∧ ∀ n : Nat, μ'[n]? ≠ some a

section
variable {G : Gx} {μ μ' μ1 μ2 : List Addr} {H H' H1 H2 : Hp}
theorem Per.refl : Per G μ H μ H := ⟨fun _ _ h => h, fun _ _ h => h, fun _ _ _ h => h, fun _ _ h => h, fun _ _ h _ k => ⟨h, k⟩⟩
theorem Per.trans (p : Per G μ H μ1 H1) (q : Per G μ1 H1 μ2 H2) : Per G μ H μ2 H2 :=
  ⟨fun n a h => q.ext n a (p.ext n a h), fun a xs h => q.tup a xs (p.tup a xs h), fun a o u h => q.frz a o u (p.frz a o u h), fun n a h => q.clo n a (p.clo n a h), fun a u h t k => let ⟨h1, k1⟩ := p.fr a u h t k; q.fr a u h1 t k1⟩
mutual
theorem Den.per (p : Per G μ H μ' H') : ∀ {d : D} {v : V}, Den G μ H d v → Den G μ' H' d v
  | _, _, .non => .non
  | _, _, .bl b => .bl b
  | _, _, .int i => .int i
  | _, _, .str s => .str s
  | _, _, .tup h1 h2 => .tup (p.tup _ _ h1) (DenA.per p h2)
  | _, _, .ktup h1 h2 => .ktup h1 (DenA.per p h2)
  | _, _, .ref h => .ref (p.ext _ _ h)
  | _, _, .clist h1 h2 => .clist (let ⟨q, e⟩ := h1; ⟨q, p.frz _ _ _ e⟩) (DenA.per p h2)
  | _, _, .slist h1 => .slist (h1.imp (fun ⟨q, e⟩ => ⟨q, p.frz _ _ _ e⟩) id)
  | _, _, .cdict h0 h1 h2 => .cdict h0 h1 (DenA.per p h2)
  | _, _, .clo h => .clo (p.clo _ _ h)
  | _, _, .exv0 => .exv0
  | _, _, .exv h1 h2 => .exv (p.clo _ _ h1) (DenA.per p h2)
theorem DenA.per (p : Per G μ H μ' H') : ∀ {ds : List D} {vs : List V}, DenA G μ H ds vs → DenA G μ' H' ds vs
  | _, _, .nil => .nil
  | _, _, .cons h t => .cons (Den.per p h) (DenA.per p t)
end
mutual
theorem Den.up (p : ∀ (n : Nat) (a : Addr), μ[n]? = some a → μ'[n]? = some a) : ∀ {d : D} {v : V}, Den G μ H d v → Den G μ' H d v
  | _, _, .non => .non
  | _, _, .bl b => .bl b
  | _, _, .int i => .int i
  | _, _, .str s => .str s
  | _, _, .tup h1 h2 => .tup h1 (DenA.up p h2)
  | _, _, .ktup h1 h2 => .ktup h1 (DenA.up p h2)
  | _, _, .ref h => .ref (p _ _ h)
  | _, _, .clist h1 h2 => .clist h1 (DenA.up p h2)
  | _, _, .slist h1 => .slist h1
  | _, _, .cdict h0 h1 h2 => .cdict h0 h1 (DenA.up p h2)
  | _, _, .clo h => .clo h
  | _, _, .exv0 => .exv0
  | _, _, .exv h1 h2 => .exv h1 (DenA.up p h2)
theorem DenA.up (p : ∀ (n : Nat) (a : Addr), μ[n]? = some a → μ'[n]? = some a) : ∀ {ds : List D} {vs : List V}, DenA G μ H ds vs → DenA G μ' H ds vs
  | _, _, .nil => .nil
  | _, _, .cons h t => .cons (Den.up p h) (DenA.up p t)
end
mutual
theorem Den.heap (p : ∀ (a : Addr) (xs : List V), H a = some (.tup xs) → H' a = some (.tup xs)) (f : ∀ (a : Addr) (z : Obj) (u : HO), H a = some (.frz z u) → H' a = some (.frz z u)) (q : ∀ (n : Ci) (a : Addr), G.clo n a H → G.clo n a H') : ∀ {d : D} {v : V}, Den G μ H d v → Den G μ H' d v
  | _, _, .non => .non
  | _, _, .bl b => .bl b
  | _, _, .int i => .int i
  | _, _, .str s => .str s
  | _, _, .tup h1 h2 => .tup (p _ _ h1) (DenA.heap p f q h2)
  | _, _, .ktup h1 h2 => .ktup h1 (DenA.heap p f q h2)
  | _, _, .ref h => .ref h
  | _, _, .clist h1 h2 => .clist (let ⟨z, e⟩ := h1; ⟨z, f _ _ _ e⟩) (DenA.heap p f q h2)
  | _, _, .slist h1 => .slist (h1.imp (fun ⟨z, e⟩ => ⟨z, f _ _ _ e⟩) id)
  | _, _, .cdict h0 h1 h2 => .cdict h0 h1 (DenA.heap p f q h2)
  | _, _, .clo h => .clo (q _ _ h)
  | _, _, .exv0 => .exv0
  | _, _, .exv h1 h2 => .exv (q _ _ h1) (DenA.heap p f q h2)
theorem DenA.heap (p : ∀ (a : Addr) (xs : List V), H a = some (.tup xs) → H' a = some (.tup xs)) (f : ∀ (a : Addr) (z : Obj) (u : HO), H a = some (.frz z u) → H' a = some (.frz z u)) (q : ∀ (n : Ci) (a : Addr), G.clo n a H → G.clo n a H') : ∀ {ds : List D} {vs : List V}, DenA G μ H ds vs → DenA G μ H' ds vs
  | _, _, .nil => .nil
  | _, _, .cons h t => .cons (Den.heap p f q h) (DenA.heap p f q t)
end
theorem DenF.per (p : Per G μ H μ' H') {fs : List (String × D)} {gs : List (Str × V)} (h : DenF G μ H fs gs) : DenF G μ' H' fs gs := ⟨h.1, h.2.per p⟩
theorem DenK.per {κ : Type} (p : Per G μ H μ' H') {fs : List (κ × D)} {gs : List (κ × V)} (h : DenK G μ H fs gs) : DenK G μ' H' fs gs := ⟨h.1, h.2.per p⟩
theorem DenA.length : ∀ {ds : List D} {vs : List V}, DenA G μ H ds vs → ds.length = vs.length
  | _, _, .nil => rfl
  | _, _, .cons _ t => congrArg (· + 1) t.length
theorem DenA.get : ∀ {ds : List D} {vs : List V} {i : Nat} {d : D}, DenA G μ H ds vs → ds[i]? = some d → ∃ v, vs[i]? = some v ∧ Den G μ H d v
  | _, _, _, _, .nil, e => by simp at e
  | _, _, 0, _, .cons h _, e => by simp at e; subst e; exact ⟨_, rfl, h⟩
  | _, _, i + 1, _, .cons _ t, e => by
    obtain ⟨v, e1, h1⟩ := t.get (i := i) (by simpa using e)
    exact ⟨v, by simpa using e1, h1⟩
theorem DenA.getV : ∀ {ds : List D} {vs : List V} {i : Nat} {v : V}, DenA G μ H ds vs → vs[i]? = some v → ∃ d, ds[i]? = some d ∧ Den G μ H d v
  | _, _, _, _, .nil, e => by simp at e
  | _, _, 0, _, .cons h _, e => by simp at e; subst e; exact ⟨_, rfl, h⟩
  | _, _, i + 1, _, .cons _ t, e => by
    obtain ⟨v, e1, h1⟩ := t.getV (i := i) (by simpa using e)
    exact ⟨v, by simpa using e1, h1⟩
theorem DenA.append : ∀ {ds es : List D} {vs us : List V}, DenA G μ H ds vs → DenA G μ H es us → DenA G μ H (ds ++ es) (vs ++ us)
  | _, _, _, _, .nil, s => s
  | _, _, _, _, .cons h t, s => .cons h (t.append s)
theorem DenA.take : ∀ {ds : List D} {vs : List V} (n : Nat), DenA G μ H ds vs → DenA G μ H (ds.take n) (vs.take n)
  | _, _, 0, _ => .nil
  | _, _, _ + 1, .nil => .nil
  | _, _, n + 1, .cons h t => .cons h (t.take n)
theorem DenA.drop : ∀ {ds : List D} {vs : List V} (n : Nat), DenA G μ H ds vs → DenA G μ H (ds.drop n) (vs.drop n)
  | _, _, 0, h => h
  | _, _, _ + 1, .nil => .nil
  | _, _, n + 1, .cons _ t => t.drop n
theorem DenA.set {d : D} {v : V} (h : Den G μ H d v) : ∀ {ds : List D} {vs : List V} (n : Nat), DenA G μ H ds vs → DenA G μ H (ds.set n d) (vs.set n v)
  | _, _, _, .nil => .nil
  | _, _, 0, .cons _ t => .cons h t
  | _, _, n + 1, .cons g t => .cons g (DenA.set h n t)
theorem DenA.snoc {ds : List D} {vs : List V} {d : D} {v : V} (h : DenA G μ H ds vs) (g : Den G μ H d v) : DenA G μ H (ds ++ [d]) (vs ++ [v]) := h.append (.cons g .nil)

theorem RepO.per (p : Per G μ H μ' H') {a : Addr} : ∀ {o : O}, H' a = H a → RepO G μ H a o → RepO G μ' H' a o
  | .lst _, same, ⟨vs, h, d⟩ => ⟨vs, same.trans h, d.per p⟩
  | .dct _, same, ⟨gs, h, d⟩ => ⟨gs, same.trans h, d.per p⟩
  | .dtt _, same, ⟨gs, h, d⟩ => ⟨gs, same.trans h, d.per p⟩
  | .obj _ _, same, ⟨dx, gs, h, d⟩ => ⟨dx, gs, same.trans h, d.per p⟩
theorem RepO.up (p : ∀ (n : Nat) (a : Addr), μ[n]? = some a → μ'[n]? = some a) {a : Addr} : ∀ {o : O}, RepO G μ H a o → RepO G μ' H a o
  | .lst _, ⟨vs, h, d⟩ => ⟨vs, h, d.up p⟩
  | .dct _, ⟨gs, h, d⟩ => ⟨gs, h, d.1, d.2.up p⟩
  | .dtt _, ⟨gs, h, d⟩ => ⟨gs, h, d.1, d.2.up p⟩
  | .obj _ _, ⟨dx, gs, h, d⟩ => ⟨dx, gs, h, d.1, d.2.up p⟩
theorem RepO.heap {a : Addr} : ∀ {o : O}, H' a = H a → (∀ (a : Addr) (q : Obj) (u : HO), H a = some (.frz q u) → H' a = some (.frz q u)) → (∀ (a : Addr) (xs : List V), H a = some (.tup xs) → H' a = some (.tup xs)) → (∀ (n : Ci) (a : Addr), G.clo n a H → G.clo n a H') → RepO G μ H a o → RepO G μ H' a o
  | .lst _, same, f, p, q, ⟨vs, h, d⟩ => ⟨vs, same.trans h, d.heap p f q⟩
  | .dct _, same, f, p, q, ⟨gs, h, d⟩ => ⟨gs, same.trans h, d.1, d.2.heap p f q⟩
  | .dtt _, same, f, p, q, ⟨gs, h, d⟩ => ⟨gs, same.trans h, d.1, d.2.heap p f q⟩
  | .obj _ _, same, f, p, q, ⟨dx, gs, h, d⟩ => ⟨dx, gs, same.trans h, d.1, d.2.heap p f q⟩
theorem RepO.some {a : Addr} : ∀ {o : O}, RepO G μ H a o → ∃ u, H a = some u ∧ Mut (some u) ∧ ∀ φ, u ≠ .ext φ
  | .lst _, ⟨vs, h, _⟩ => ⟨_, h, trivial, fun _ z => nomatch z⟩
  | .dct _, ⟨gs, h, _⟩ => ⟨_, h, trivial, fun _ z => nomatch z⟩
  | .dtt _, ⟨gs, h, _⟩ => ⟨_, h, trivial, fun _ z => nomatch z⟩
  | .obj _ _, ⟨dx, gs, h, _⟩ => ⟨_, h, trivial, fun _ z => nomatch z⟩
theorem mut_tbl {ps : Array Value} : ¬ Mut (some (.tbl ps)) := fun z => z
/-- tables stay where something is laid, or an object of ours is changed -/
theorem tabs_new {T : List NdefX.NTab} {p : Addr} {u : HO} (h : NdefX.TabsN T H) (hp : H p = none) : NdefX.TabsN T (upd H p u) := h.ext fun b o e => by rw [upd_ne (ne_of_none e hp)]; exact e
theorem tabs_mut {T : List NdefX.NTab} {p : Addr} {o o' : HO} (h : NdefX.TabsN T H) (hp : H p = some o) (m : Mut (some o)) (ne : ∀ φ, o ≠ .ext φ) : NdefX.TabsN T (upd H p o') := fun q hq => by
  obtain ⟨ps, h1, h2, h3⟩ := h q hq
  refine ⟨ps, ?_, h2, fun pos cv hc => ?_⟩
  · rw [upd_ne fun z => ?_]
    · exact h1
    · rw [z, hp] at h1
      cases h1
      exact mut_tbl m
  · obtain ⟨c, e1, e2⟩ := h3 pos cv hc
    refine ⟨c, e1, ?_⟩
    rw [upd_ne fun z => ?_]
    · exact e2
    · rw [z, hp] at e2
      cases e2
      exact ne _ rfl
theorem Rep.addr {S : Sg} (r : Rep G μ S H) {n : Nat} {o : O} (h : S[n]? = some o) : ∃ a, μ[n]? = some a ∧ RepO G μ H a o := by
  have hl : n < μ.length := by rw [r.len]; exact (List.getElem?_eq_some_iff.mp h).1
  exact ⟨μ[n], by simp [hl], r.at_ n _ _ h (by simp [hl])⟩
theorem Rep.there {S : Sg} (r : Rep G μ S H) {n : Nat} {a : Addr} (h : μ[n]? = some a) : ∃ o, S[n]? = some o ∧ RepO G μ H a o := by
  have hl : n < S.length := by rw [← r.len]; exact (List.getElem?_eq_some_iff.mp h).1
  exact ⟨S[n], by simp [hl], r.at_ n _ a (by simp [hl]) h⟩
/-- the number's object -/
theorem Rep.obj {S : Sg} (r : Rep G μ S H) {n : Nat} {a : Addr} {o : O} (h : μ[n]? = some a) (e : S[n]? = some o) : RepO G μ H a o := r.at_ n o a e h
end
/-- closures' meaning stays when the heap grows by a new object, or an object of ours is changed -/
structure Gx.Ok (G : Gx) : Prop where
  clo_new : ∀ n a H p o, H p = none → G.clo n a H → G.clo n a (upd H p o)
  xd : ∀ ks vs d H, G.clo ⟨0, ks, vs⟩ d H ↔ ∃ gs, H d = some (.xd gs) ∧ gs.map (·.1) = ks ∧ gs.map (·.2) = vs
  clo_mut : ∀ n a H p o o', H p = some o → Mut (some o) → (∀ φ, o ≠ .ext φ) → G.clo n a H → G.clo n a (upd H p o')
section
variable {G : Gx} {μ μ' μ1 μ2 : List Addr} {H H' H1 H2 : Hp} {S : Sg}
theorem per_push (g : G.Ok) {p : Addr} {o : HO} (hp : H p = none) : Per G μ H (μ ++ [p]) (upd H p o) :=
  ⟨fun n a h => by rw [List.getElem?_append_left (List.getElem?_eq_some_iff.mp h).1]; exact h, fun a xs h => by rw [upd_ne (ne_of_none h hp)]; exact h, fun a q u h => by rw [upd_ne (ne_of_none h hp)]; exact h, fun n a h => g.clo_new n a H p o hp h,
    fun a u h _ k => ⟨by rw [upd_ne (ne_of_none h hp)]; exact h, fun n z => by
      by_cases hn : n < μ.length
      · rw [List.getElem?_append_left hn] at z
        exact k n z
      · rw [List.getElem?_append_right (by omega)] at z
        have := List.mem_of_getElem? z
        have e : a = p := by simpa using this
        rw [e, hp] at h
        cases h⟩⟩
theorem per_new (g : G.Ok) {p : Addr} {o : HO} (hp : H p = none) : Per G μ H μ (upd H p o) :=
  ⟨fun n a h => h, fun a xs h => by rw [upd_ne (ne_of_none h hp)]; exact h, fun a q u h => by rw [upd_ne (ne_of_none h hp)]; exact h, fun n a h => g.clo_new n a H p o hp h,
    fun a u h _ k => ⟨by rw [upd_ne (ne_of_none h hp)]; exact h, k⟩⟩
theorem per_mut (g : G.Ok) {n : Nat} {p : Addr} {o o' : HO} (hn : μ[n]? = some p) (hp : H p = some o) (m : Mut (some o)) (ne : ∀ φ, o ≠ .ext φ) : Per G μ H μ (upd H p o') :=
  ⟨fun _ _ h => h, fun a xs h => by rw [upd_ne (ne_of h hp (by rintro rfl; exact m))]; exact h, fun a q u h => by rw [upd_ne (ne_of h hp (by rintro rfl; exact m))]; exact h, fun n a h => g.clo_mut n a H p o o' hp m ne h,
    fun a u h _ k => ⟨by rw [upd_ne (fun e => k n (by rw [hn, e]))]; exact h, k⟩⟩
/-- something is laid that no number bears (a tuple) -/
theorem Rep.new (r : Rep G μ S H) (g : G.Ok) {p : Addr} {u : HO} (hp : H p = none) : Rep G μ S (upd H p u) :=
  ⟨r.len, r.nd, fun n o a h1 h2 => (r.at_ n o a h1 h2).per (per_new g hp) (by
    obtain ⟨w, e, _⟩ := (r.at_ n o a h1 h2).some
    exact upd_ne (ne_of_none e hp)), tabs_new r.tabs hp⟩
theorem snoc_old {α β : Type} {l : List α} {m : List β} {x : α} {y : β} (e : m.length = l.length) {n : Nat} {q : α} {a : β} (h1 : (l ++ [x])[n]? = some q) (h2 : (m ++ [y])[n]? = some a) : (l[n]? = some q ∧ m[n]? = some a) ∨ (n = l.length ∧ q = x ∧ a = y) := by
  by_cases hn : n < l.length
  · rw [List.getElem?_append_left hn] at h1
    rw [List.getElem?_append_left (by omega)] at h2
    exact .inl ⟨h1, h2⟩
  · have hn' : n = l.length := by
      have := (List.getElem?_eq_some_iff.mp h1).1
      simp at this
      omega
    subst hn'
    rw [List.getElem?_append_right (Nat.le_refl _)] at h1
    rw [List.getElem?_append_right (by omega), e] at h2
    simp at h1 h2
    exact .inr ⟨rfl, h1.symm, h2.symm⟩
theorem snoc_old1 {β : Type} {m : List β} {y : β} {n : Nat} {a : β} (h2 : (m ++ [y])[n]? = some a) : m[n]? = some a ∨ (n = m.length ∧ a = y) := by
  by_cases hn : n < m.length
  · rw [List.getElem?_append_left hn] at h2
    exact .inl h2
  · have hn' : n = m.length := by
      have := (List.getElem?_eq_some_iff.mp h2).1
      simp at this
      omega
    subst hn'
    rw [List.getElem?_append_right (Nat.le_refl _)] at h2
    simp at h2
    exact .inr ⟨rfl, h2.symm⟩
/-- an object is laid, and gets the next number -/
theorem Rep.push (r : Rep G μ S H) (g : G.Ok) {p : Addr} {u : HO} {o : O} (hp : H p = none) (new : RepO G (μ ++ [p]) (upd H p u) p o) : Rep G (μ ++ [p]) (S ++ [o]) (upd H p u) := by
  have per : Per G μ H (μ ++ [p]) (upd H p u) := per_push g hp
  have no : ∀ {n : Nat}, μ[n]? ≠ some p := fun {n} h => by
    obtain ⟨q, _, ro⟩ := r.there h
    obtain ⟨w, e, _⟩ := ro.some
    rw [hp] at e; cases e
  refine ⟨by simp [r.len], fun i j a h3 h4 => ?_, fun n q a h1 h2 => ?_, tabs_new r.tabs hp⟩
  · rcases snoc_old1 h3 with a2 | ⟨a1, a3⟩
    · rcases snoc_old1 h4 with b2 | ⟨b1, b3⟩
      · exact r.nd i j a a2 b2
      · exact absurd (b3 ▸ a2) no
    · rcases snoc_old1 h4 with b2 | ⟨b1, b3⟩
      · exact absurd (a3 ▸ b2) no
      · rw [a1, b1]
  · rcases snoc_old r.len h1 h2 with ⟨a1, a2⟩ | ⟨a1, a2, a3⟩
    · obtain ⟨w, e, _⟩ := (r.at_ n q a a1 a2).some
      exact (r.at_ n q a a1 a2).per per (upd_ne (ne_of_none e hp))
    · subst a2 a3; exact new
/-- what is tracked already gets a number -/
theorem Rep.adopt (r : Rep G μ S H) {p : Addr} {o : O} (hf : ∀ n : Nat, μ[n]? ≠ some p) (new : ∀ μ', (∀ (n : Nat) (a : Addr), μ[n]? = some a → μ'[n]? = some a) → RepO G μ' H p o) : Rep G (μ ++ [p]) (S ++ [o]) H := by
  have ex : ∀ (n : Nat) (a : Addr), μ[n]? = some a → (μ ++ [p])[n]? = some a := fun n a h => by rw [List.getElem?_append_left (List.getElem?_eq_some_iff.mp h).1]; exact h
  refine ⟨by simp [r.len], fun i j a h3 h4 => ?_, fun n q a h1 h2 => ?_, r.tabs⟩
  · rcases snoc_old1 h3 with a2 | ⟨a1, a3⟩
    · rcases snoc_old1 h4 with b2 | ⟨b1, b3⟩
      · exact r.nd i j a a2 b2
      · exact absurd (b3 ▸ a2) (hf i)
    · rcases snoc_old1 h4 with b2 | ⟨b1, b3⟩
      · exact absurd (a3 ▸ b2) (hf j)
      · rw [a1, b1]
  · rcases snoc_old r.len h1 h2 with ⟨a1, a2⟩ | ⟨a1, a2, a3⟩
    · exact RepO.up ex (r.at_ n q a a1 a2)
    · subst a2 a3; exact new _ ex
/-- a number's object is changed -/
theorem Rep.write (r : Rep G μ S H) (g : G.Ok) {n : Nat} {p : Addr} {u : HO} {o o' : O} (hn : μ[n]? = some p) (ho : S[n]? = some o) (new : ∀ H', Per G μ H μ H' → H' p = some u → RepO G μ H' p o') :
    Rep G μ (S.set n o') (upd H p u) ∧ Per G μ H μ (upd H p u) := by
  obtain ⟨w, e, m, ne⟩ := (r.at_ n o p ho hn).some
  have per : Per G μ H μ (upd H p u) := per_mut g hn e m ne
  refine ⟨⟨by simp [r.len], r.nd, fun k q a h1 h2 => ?_, tabs_mut r.tabs e m ne⟩, per⟩
  by_cases hk : k = n
  · subst hk
    rw [List.getElem?_set_self (List.getElem?_eq_some_iff.mp ho).1] at h1
    cases h1
    rw [hn] at h2
    cases h2
    exact new _ per upd_same
  · rw [List.getElem?_set_ne (Ne.symm hk)] at h1
    exact (r.at_ k q a h1 h2).per per (upd_ne fun e2 => hk (r.nd k n a h2 (by rw [e2]; exact hn)))
end
end Dx

/-! Dx1: the readings of deterministic steps; expressions. -/
namespace Dx
open PySem PySem.Spec L2

def R.bind {α β : Type} (r : R α) (f : α → Sg → R β) : R β := match r with
  | .ok a s => f a s
  | .exc c fs s => .exc c fs s
  | .stuck => .stuck

structure EnvD (G : Gx) (μ : List Addr) (H : Hp) (ρ : Ev) (σ : St) : Prop where
  len : ρ.length = σ.length
  at_ : ∀ (i : Nat) (d : D), ρ[i]? = some (some d) → ∃ v, σ[i]? = some (some v) ∧ Den G μ H d v
def ExcD (G : Gx) (μ : List Addr) (H : Hp) (c : Nat) (fs : List (String × D)) (cls : Value) (dd : Option Addr) : Prop :=
  cls = .ref (G.cls c) ∧ ((fs = [] ∧ dd = none) ∨ (fs ≠ [] ∧ ∃ d gs, dd = some d ∧ H d = some (.xd gs) ∧ DenF G μ H fs gs))

abbrev Rel (α β : Type) := List Addr → Hp → α → β → Prop
/-- what is wanted behind a step -/
def Post {α β : Type} (rel : Rel α β) (G : Gx) (W : WX) (μ : List Addr) (H : Hp) (σ : St) (r : R α) (Q : β → Hp → Prop) : Prop := match r with
  | .ok a S' => ∀ μ' H' b, Per G μ H μ' H' → Rep G μ' S' H' → rel μ' H' a b → Q b H'
  | .exc c fs S' => ∀ μ' H' cls dd, Per G μ H μ' H' → Rep G μ' S' H' → ExcD G μ' H' c fs cls dd → W cls dd σ H'
  | .stuck => False

section
variable {G : Gx} {W : WX} {μ μ' μ1 : List Addr} {H H' H1 : Hp} {σ : St} {ρ : Ev} {S : Sg} {α β γ δ : Type} {rel : Rel α β} {rel' : Rel γ δ}
theorem EnvD.per (e : EnvD G μ H ρ σ) (p : Per G μ H μ1 H1) : EnvD G μ1 H1 ρ σ := ⟨e.len, fun i d h => let ⟨v, h1, h2⟩ := e.at_ i d h; ⟨v, h1, h2.per p⟩⟩
theorem EnvD.set (e : EnvD G μ H ρ σ) {i : Nat} {d : D} {v : V} (h : Den G μ H d v) : EnvD G μ H (ρ.set i (some d)) (σ.set i (some v)) := by
  refine ⟨by simp [e.len], fun j d' h' => ?_⟩
  by_cases hj : j = i
  · subst hj
    by_cases hl : j < ρ.length
    · rw [List.getElem?_set_self hl] at h'
      cases h'
      exact ⟨v, List.getElem?_set_self (by rw [← e.len]; exact hl), h⟩
    · rw [List.getElem?_eq_none (by simp; omega)] at h'
      cases h'
  · rw [List.getElem?_set_ne (Ne.symm hj)] at h' ⊢
    exact e.at_ j d' h'
theorem ExcD.per {c : Nat} {fs : List (String × D)} {cls : Value} {dd : Option Addr} (e : ExcD G μ H c fs cls dd) (p : Per G μ H μ1 H1) (k : ∀ d gs, H d = some (.xd gs) → H1 d = some (.xd gs)) : ExcD G μ1 H1 c fs cls dd :=
  ⟨e.1, e.2.imp id fun ⟨n, d, gs, a, b, h⟩ => ⟨n, d, gs, a, k _ _ b, h.per p⟩⟩
theorem Post.per {r : R α} {Q : β → Hp → Prop} (h : Post rel G W μ H σ r Q) (p : Per G μ H μ1 H1) : Post rel G W μ1 H1 σ r Q := by
  cases r with
  | ok a S' => exact fun μ' H' b q => h μ' H' b (p.trans q)
  | exc c fs S' => exact fun μ' H' cls dd q => h μ' H' cls dd (p.trans q)
  | stuck => exact h
theorem Post.mono {r : R α} {Q Q' : β → Hp → Prop} (h : Post rel G W μ H σ r Q) (k : ∀ b H', Q b H' → Q' b H') : Post rel G W μ H σ r Q' := by
  cases r with
  | ok a S' => exact fun μ' H' b p q d => k _ _ (h μ' H' b p q d)
  | exc c fs S' => exact h
  | stuck => exact h
/-- the answer at once -/
theorem Post.now {a : α} {b : β} {Q : β → Hp → Prop} (h : Post rel G W μ H σ (.ok a S) Q) {μ' : List Addr} {H' : Hp} (p : Per G μ H μ' H') (r : Rep G μ' S H') (d : rel μ' H' a b) : Q b H' := h _ _ _ p r d
theorem post_bind {r : R α} {f : α → Sg → R γ} {Q : δ → Hp → Prop} (h : Post rel' G W μ H σ (r.bind f) Q) :
    Post rel G W μ H σ r fun b H1 => ∃ μ1 a S1, Per G μ H μ1 H1 ∧ Rep G μ1 S1 H1 ∧ rel μ1 H1 a b ∧ Post rel' G W μ1 H1 σ (f a S1) Q := by
  cases r with
  | ok a S' => exact fun μ' H' b p q d => ⟨μ', a, S', p, q, d, Post.per (r := f a S') h p⟩
  | exc c fs S' => exact h
  | stuck => exact h
end

/-! ### readings -/
abbrev FE := Ev → Sg → R D
abbrev FA := Ev → Sg → R (List D)
abbrev FT := Ev → Sg → R Bool
abbrev FO := Ev → Sg → R (Option Int)
def TDg {α β : Type} (rel : Rel α β) (G : Gx) (W : WX) (f : Ev → Sg → R α) (σ : St) (H : Hp) (Q : β → Hp → Prop) : Prop :=
  ∃ μ ρ S, EnvD G μ H ρ σ ∧ Rep G μ S H ∧ Post rel G W μ H σ (f ρ S) Q
abbrev relB : Rel Bool Bool := fun _ _ a b => a = b
abbrev relO : Rel (Option Int) (Option Int) := fun _ _ a b => a = b
abbrev TD (G : Gx) (W : WX) (f : FE) : TE := TDg (Den G) G W f
abbrev TDA (G : Gx) (W : WX) (f : FA) : TA := TDg (DenA G) G W f
abbrev TDT (G : Gx) (W : WX) (f : FT) : TT := TDg relB G W f
abbrev TDO (G : Gx) (W : WX) (f : FO) : TO := TDg relO G W f

/-- where one stands -/
structure Amb (G : Gx) (X : Cx) (W : WX) : Prop where
  hK : X.K = G.K
  hw : X.w = G.w
  ok : G.Ok
  tk : Takes X W
  hu : X.A.units + 65 < cLine
  po : PassesOwn (model X.prog X.w) X.A X.env X.xe

theorem PE.imp {X : Cx} {e : Expr} {t t' : TE} (h : PE X e t) (k : ∀ σ H Q, t' σ H Q → t σ H Q) : PE X e t' := ⟨fun pins s σ H Q I q => h.run pins s σ H Q I (k _ _ _ q)⟩
theorem PT.imp {X : Cx} {e : Expr} {t t' : TT} (h : PT X e t) (k : ∀ σ H Q, t' σ H Q → t σ H Q) : PT X e t' := ⟨fun pins s σ H Q I q => h.run pins s σ H Q I (k _ _ _ q)⟩
theorem PW.imp {X : Cx} {e : Expr} {t t' : TT} (h : PW X e t) (k : ∀ σ H Q, t' σ H Q → t σ H Q) : PW X e t' := ⟨fun wh pins s σ H Q I q => h.run wh pins s σ H Q I (k _ _ _ q)⟩
theorem PA.imp {X : Cx} {e : List Expr} {t t' : TA} (h : PA X e t) (k : ∀ σ H Q, t' σ H Q → t σ H Q) : PA X e t' := ⟨fun pos pins s σ H Q I q => h.run pos pins s σ H Q I (k _ _ _ q)⟩
theorem PO.imp {X : Cx} {e : Option Expr} {t t' : TO} (h : PO X e t) (k : ∀ σ H Q, t' σ H Q → t σ H Q) : PO X e t' := by
  obtain ⟨r⟩ := h
  exact ⟨by intros; apply r <;> first | assumption | (apply k; assumption)⟩
theorem PS.imp {X : Cx} {e : Stmt} {t t' : TS} (h : PS X e t) (k : ∀ D σ H, t' D σ H → t D σ H) : PS X e t' := ⟨fun pins s σ H D I q => h.run pins s σ H D I (k _ _ _ q)⟩
theorem PSs.imp {X : Cx} {e : List Stmt} {t t' : TS} (h : PSs X e t) (k : ∀ D σ H, t' D σ H → t D σ H) : PSs X e t' := ⟨fun pins s σ H D I q => h.run pins s σ H D I (k _ _ _ q)⟩

section
variable {G : Gx} {W : WX} {α β γ δ ε ζ : Type} {rel : Rel α β} {rel' : Rel γ δ} {rel2 : Rel ε ζ}
/-- the first part, then the rest -/
theorem tdg_bind {f : Ev → Sg → R α} {k : Ev → α → Sg → R γ} {σ : St} {H : Hp} {Q : δ → Hp → Prop} (h : TDg rel' G W (fun ρ S => (f ρ S).bind (k ρ)) σ H Q) :
    TDg rel G W f σ H fun b H1 => ∃ μ ρ a S, EnvD G μ H1 ρ σ ∧ Rep G μ S H1 ∧ rel μ H1 a b ∧ Post rel' G W μ H1 σ (k ρ a S) Q := by
  obtain ⟨μ, ρ, S, en, rp, p⟩ := h
  exact ⟨μ, ρ, S, en, rp, (post_bind p).mono fun b H1 ⟨μ1, a, S1, pe, r1, d, q⟩ => ⟨μ1, ρ, a, S1, en.per pe, r1, d, q⟩⟩
/-- two parts, then the rest -/
theorem tdg_bind2 (pr : ∀ μ H μ' H' a b, Per G μ H μ' H' → rel μ H a b → rel μ' H' a b) {f : Ev → Sg → R α} {g : Ev → Sg → R ε} {k : Ev → α → ε → Sg → R γ} {σ : St} {H : Hp} {Q : δ → Hp → Prop} (h : TDg rel' G W (fun ρ S => (f ρ S).bind fun a S1 => (g ρ S1).bind fun c S2 => k ρ a c S2) σ H Q) :
    TDg rel G W f σ H fun b H1 => TDg rel2 G W g σ H1 fun d H2 => ∃ μ ρ a c S, EnvD G μ H2 ρ σ ∧ Rep G μ S H2 ∧ rel μ H2 a b ∧ rel2 μ H2 c d ∧ Post rel' G W μ H2 σ (k ρ a c S) Q := by
  obtain ⟨μ, ρ, S, en, rp, p⟩ := h
  refine ⟨μ, ρ, S, en, rp, (post_bind p).mono fun b H1 ⟨μ1, a, S1, pe, r1, d, q⟩ => ?_⟩
  exact ⟨μ1, ρ, S1, en.per pe, r1, (post_bind q).mono fun b' H2 ⟨μ2, c, S2, pe2, r2, d2, q2⟩ => ⟨μ2, ρ, a, c, S2, (en.per pe).per pe2, r2, pr _ _ _ _ _ _ pe2 d, d2, q2⟩⟩
theorem den_pr : ∀ μ H μ' H' a b, Per G μ H μ' H' → Den G μ H a b → Den G μ' H' a b := fun _ _ _ _ _ _ p d => d.per p
end

/-! ### names, constants -/
def xVar (i : Nat) : FE := fun ρ S => match ρ[i]? with
  | some (some d) => .ok d S
  | _ => .stuck
def xC (d : D) : FE := fun _ S => .ok d S
section
variable {G : Gx} {X : Cx} {W : WX}
theorem de_var (i : Nat) {x : Str} {pos : Pos} (hN : X.N[i]? = some x := by rfl) (hv : Vis X.env.scope x := by first | exact Or.inl rfl | exact Or.inr (Or.inl rfl) | exact Or.inr (Or.inr rfl)) (hd : (x == ("__debug__" : Str)) = false := by decide)
    (hcd : (x == ("__classdict__" : Str)) = false := by decide) : PE X (.Name x pos) (TD G W (xVar i)) := by
  refine PE.imp (pe_var hN hv hd hcd) fun σ H Q ⟨μ, ρ, S, en, rp, p⟩ => ?_
  unfold xVar at p
  split at p
  · rename_i d e
    obtain ⟨v, h1, h2⟩ := en.at_ i d e
    exact ⟨v, h1, p _ _ _ .refl rp h2⟩
  · exact p.elim
theorem de_tC {e : Expr} {v : V} {d : D} (h : PE X e (tC v)) (k : ∀ μ H, Den G μ H d v) : PE X e (TD G W (xC d)) :=
  PE.imp h fun σ H Q ⟨μ, ρ, S, en, rp, p⟩ => p _ _ _ .refl rp (k _ _)
theorem de_int {i j pos} : PE X (.Constant (.int i) j pos) (TD G W (xC (.int i))) := de_tC pe_int fun _ _ => .int i
theorem de_bl {b j pos} : PE X (.Constant (.bool b) j pos) (TD G W (xC (.bl b))) := de_tC pe_bl fun _ _ => .bl b
theorem de_non {j pos} : PE X (.Constant .none j pos) (TD G W (xC .non)) := de_tC pe_non fun _ _ => .non
theorem de_str {x : String} {j pos} : PE X (.Constant (.str (Str.ofString x)) j pos) (TD G W (xC (.str x))) := de_tC pe_str fun _ _ => .str x
/-- a module's constant -/
theorem de_glob {x : Str} {d : D} {v : V} {u : Value} {pos : Pos} (hm : X.mg x = some u) (r : RelV v u) (k : ∀ μ H, Den G μ H d v) (hg : Gl X x := by rfl) (hd : (x == ("__debug__" : Str)) = false := by decide) : PE X (.Name x pos) (TD G W (xC d)) :=
  de_tC (pe_glob hg hm r hd) k

/-! ### arguments -/
def aNil : FA := fun _ S => .ok [] S
def aCons (f : FE) (g : FA) : FA := fun ρ S => (f ρ S).bind fun d S1 => (g ρ S1).bind fun ds S2 => .ok (d :: ds) S2
theorem da_nil : PA X [] (TDA G W aNil) := PA.imp pa_nil fun σ H Q ⟨μ, ρ, S, en, rp, p⟩ => p _ _ _ .refl rp .nil
theorem da_cons {e : Expr} {es : List Expr} {f : FE} {g : FA} (h : PE X e (TD G W f)) (k : PA X es (TDA G W g)) (hs : starEach (e :: es) X.env = (false, eval e X.env) :: starEach es X.env := by rfl) : PA X (e :: es) (TDA G W (aCons f g)) :=
  PA.imp (pa_cons h k hs) fun σ H Q q => by
    obtain ⟨μ, ρ, S, en, rp, p⟩ := tdg_bind2 (rel := Den G) (rel2 := DenA G) den_pr q
    refine ⟨μ, ρ, S, en, rp, p.mono fun b H1 ⟨μ1, ρ1, S1, en1, rp1, p1⟩ => ⟨μ1, ρ1, S1, en1, rp1, p1.mono fun c H2 ⟨μ2, ρ2, a, c', S2, en2, rp2, d1, d2, q2⟩ => q2 _ _ _ .refl rp2 (.cons d1 d2)⟩⟩

/-! ### tuples, lists -/
def big (n : Nat) : Bool := decide (n ≤ sizeLine)
def xTup (g : FA) : FE := fun ρ S => (g ρ S).bind fun ds S1 => if ds.length ≤ 16777216 then .ok (.tup ds) S1 else .stuck
def newO (o : O) (S : Sg) : R D := .ok (.ref S.length) (S ++ [o])
def xLst (g : FA) : FE := fun ρ S => (g ρ S).bind fun ds S1 => if ds.length ≤ 16777216 then newO (.lst ds) S1 else .stuck
theorem post_ite {α β : Type} {rel : Rel α β} {μ : List Addr} {H : Hp} {σ : St} {c : Prop} [Decidable c] {r : R α} {Q : β → Hp → Prop} (h : Post rel G W μ H σ (if c then r else .stuck) Q) : c ∧ Post rel G W μ H σ r Q := by
  by_cases hc : c
  · rw [if_pos hc] at h; exact ⟨hc, h⟩
  · rw [if_neg hc] at h; exact h.elim
theorem post_tup (g : G.Ok) {μ : List Addr} {H : Hp} {σ : St} {S : Sg} {ds : List D} {vs : List V} {Q : VK} (rp : Rep G μ S H) (d : DenA G μ H ds vs) (h : Post (Den G) G W μ H σ (.ok (.tup ds) S) Q) {p : Addr} (hp : H p = none) : Q (.ref p) (upd H p (.tup vs)) :=
  h _ _ _ (per_new g hp) (rp.new g hp) (.tup upd_same (d.per (per_new g hp)))
theorem post_lst (g : G.Ok) {μ : List Addr} {H : Hp} {σ : St} {S : Sg} {ds : List D} {vs : List V} {Q : VK} (rp : Rep G μ S H) (d : DenA G μ H ds vs) (h : Post (Den G) G W μ H σ (newO (.lst ds) S) Q) {p : Addr} (hp : H p = none) : Q (.ref p) (upd H p (.lst vs)) := by
  refine h (μ ++ [p]) _ _ (per_push g hp) (rp.push g hp ⟨vs, upd_same, d.per (per_push g hp)⟩) (.ref ?_)
  rw [← rp.len, List.getElem?_append_right (Nat.le_refl _), Nat.sub_self]
  rfl
theorem sl_eq : sizeLine = 16777216 := sizeLine_eq
theorem de_tup {es : List Expr} {x1 : Nat} {pos : Pos} {g : FA} (A : Amb G X W) (h : PA X es (TDA G W g)) : PE X (.Tuple es x1 pos) (TD G W (xTup g)) :=
  PE.imp (pe_tup h) fun σ H Q q => by
    obtain ⟨μ, ρ, S, en, rp, p⟩ := tdg_bind (rel := DenA G) (k := fun ρ ds S1 => if ds.length ≤ 16777216 then R.ok (D.tup ds) S1 else .stuck) q
    refine ⟨μ, ρ, S, en, rp, p.mono fun vs H1 ⟨μ1, ρ1, ds, S1, en1, rp1, d, p1⟩ => ?_⟩
    obtain ⟨hl, p2⟩ := post_ite p1
    exact ⟨by rw [sl_eq, ← d.length]; exact hl, fun a ha => post_tup A.ok rp1 d p2 ha⟩
theorem de_lst {es : List Expr} {pos : Pos} {g : FA} (A : Amb G X W) (h : PA X es (TDA G W g)) : PE X (.List es pos) (TD G W (xLst g)) :=
  PE.imp (pe_lst h) fun σ H Q q => by
    obtain ⟨μ, ρ, S, en, rp, p⟩ := tdg_bind (rel := DenA G) (k := fun ρ ds S1 => if ds.length ≤ 16777216 then newO (.lst ds) S1 else .stuck) q
    refine ⟨μ, ρ, S, en, rp, p.mono fun vs H1 ⟨μ1, ρ1, ds, S1, en1, rp1, d, p1⟩ => ?_⟩
    obtain ⟨hl, p2⟩ := post_ite p1
    exact ⟨by rw [sl_eq, ← d.length]; exact hl, fun a ha => post_lst A.ok rp1 d p2 ha⟩

/-! ### operators by values -/
abbrev F2 := D → D → Sg → R D
def OpV (G : Gx) (W : WX) (r : R2) (h : F2) : Prop :=
  ∀ μ S H x y d e σ Q, Rep G μ S H → Den G μ H d x → Den G μ H e y → Post (Den G) G W μ H σ (h d e S) Q → r x y H Q
def x2 (h : F2) (f g : FE) : FE := fun ρ S => (f ρ S).bind fun d S1 => (g ρ S1).bind fun e S2 => h d e S2
theorem td_op {r : R2} {h : F2} {f g : FE} (o : OpV G W r h) {σ : St} {H : Hp} {Q : VK} (q : TD G W (x2 h f g) σ H Q) : tOp r (TD G W f) (TD G W g) σ H Q := by
  obtain ⟨μ, ρ, S, en, rp, p⟩ := tdg_bind2 (rel := Den G) (rel2 := Den G) den_pr q
  exact ⟨μ, ρ, S, en, rp, p.mono fun b H1 ⟨μ1, ρ1, S1, en1, rp1, p1⟩ => ⟨μ1, ρ1, S1, en1, rp1, p1.mono fun c H2 ⟨μ2, ρ2, a, c', S2, en2, rp2, d1, d2, q2⟩ => o _ _ _ _ _ _ _ _ _ rp2 d1 d2 q2⟩⟩
theorem de_op {a b : Expr} {op : Operator} {pos : Pos} {r : R2} {h : F2} {f g : FE} (ho : OpR X (binaryOp op) r) (o : OpV G W r h) (ha : PE X a (TD G W f)) (hb : PE X b (TD G W g)) : PE X (.BinOp a op b pos) (TD G W (x2 h f g)) :=
  PE.imp (pe_op ho ha hb) fun σ H Q q => td_op o q
theorem de_cmp {a b : Expr} {op : CmpOp} {pos : Pos} {r : R2} {h : F2} {f g : FE} (ho : OpR X (compareOp op) r) (o : OpV G W r h) (hm : behindInMarks op b = false) (ha : PE X a (TD G W f)) (hb : PE X b (TD G W g)) : PE X (.Compare a [op] [b] pos) (TD G W (x2 h f g)) :=
  PE.imp (pe_cmpR ho ha hb hm) fun σ H Q q => td_op o q
theorem de_ix {a b : Expr} {pos : Pos} {r : R2} {h : F2} {f g : FE} (ho : IxR X r) (o : OpV G W r h) (ha : PE X a (TD G W f)) (hb : PE X b (TD G W g)) (hs : PlainIx b := by exact fun _ _ => rfl) : PE X (.Subscript a b pos) (TD G W (x2 h f g)) :=
  PE.imp (pe_ix ho ha hb hs) fun σ H Q q => td_op o q
end
end Dx

/-! Dx2: operators by values. -/
namespace Dx
open PySem PySem.Spec L2

theorem ofS_len (s : String) : (Str.ofString s).length = s.length := ofString_length s
theorem ofS_app (s t : String) : Str.ofString (s ++ t) = Str.ofString s ++ Str.ofString t := by
  rw [Str.ofString_eq_toList, Str.ofString_eq_toList, Str.ofString_eq_toList]
  show _ = Str.append _ _
  unfold Str.append
  simp
theorem ofS_inj {s t : String} (h : Str.ofString s = Str.ofString t) : s = t := by
  rw [Str.ofString_eq_toList, Str.ofString_eq_toList] at h
  have h1 := congrArg (fun x => x.cps.toList) h
  simp only at h1
  have h2 : s.toList = t.toList := by
    have inj : ∀ a b : List Char, a.map Char.toNat = b.map Char.toNat → a = b := by
      intro a
      induction a with
      | nil => intro b e; cases b with
        | nil => rfl
        | cons _ _ => simp at e
      | cons x a ih => intro b e; cases b with
        | nil => simp at e
        | cons y b =>
          simp only [List.map_cons, List.cons.injEq] at e
          rw [ih b e.2, Char.ext (UInt32.toNat_inj.mp e.1)]
    exact inj _ _ h1
  exact String.toList_inj.mp h2

/-! ### data -/
def pyOf : Nat → Sg → D → Option PyData
  | _, _, .non => some .none
  | _, _, .bl b => some (.bool b)
  | _, _, .int i => some (.int i)
  | _, _, .str s => some (.str (Str.ofString s))
  | n + 1, S, .tup xs => (xs.mapM (pyOf n S)).map .tuple
  | n + 1, S, .ktup xs => (xs.mapM (pyOf n S)).map .tuple
  | n + 1, S, .clist xs => (xs.mapM (pyOf n S)).map .list
  | n + 1, S, .ref m => match S[m]? with
    | some (.lst xs) => (xs.mapM (pyOf n S)).map .list
    | _ => none
  | _, _, _ => none
section
variable {G : Gx} {μ : List Addr} {H : Hp} {S : Sg}
theorem RepO.sqL {a : Addr} {xs : List D} (h : RepO G μ H a (.lst xs)) : ∃ vs, SqL G.K H a vs ∧ DenA G μ H xs vs := by
  obtain ⟨vs, h, d⟩ := h
  exact ⟨vs, SqL.of h, d⟩
theorem cl_sqL {a : Addr} {vs : List V} (h : ∃ q, H a = some (.frz q (.lst vs))) : SqL G.K H a vs := by
  obtain ⟨q, h⟩ := h
  exact .inl (.inr ⟨q, h⟩)
theorem sl_sqL {a : Addr} {vs : List V} (h : (∃ q, H a = some (.frz q (.lst vs))) ∨ ∀ H', SqL G.K H' a vs) : SqL G.K H a vs := by
  rcases h with ⟨q, h⟩ | h
  · exact .inl (.inr ⟨q, h⟩)
  · exact h H
theorem py_all {n : Nat} (ih : ∀ (d : D) (v : V) (p : PyData), Den G μ H d v → pyOf n S d = some p → Dp G.K H v p) : ∀ (xs : List D) (vs : List V) (ps : List PyData), DenA G μ H xs vs → xs.mapM (pyOf n S) = some ps → DpAll G.K H vs ps
  | [], _, ps, .nil, e => by
    simp at e
    subst e
    exact .nil
  | x :: xs, _, ps, .cons h t, e => by
    rw [List.mapM_cons] at e
    obtain ⟨p, e1, e2⟩ := Option.bind_eq_some_iff.mp e
    obtain ⟨q, e3, e4⟩ := Option.bind_eq_some_iff.mp e2
    cases e4
    exact .cons (ih _ _ _ h e1) (py_all ih xs _ _ t e3)
theorem py_den (r : Rep G μ S H) : ∀ (n : Nat) (d : D) (v : V) (p : PyData), Den G μ H d v → pyOf n S d = some p → Dp G.K H v p := by
  intro n
  induction n with
  | zero => intro d v p h e; cases h <;> simp [pyOf] at e <;> subst e <;> constructor
  | succ n ih =>
    intro d v p h e
    cases h with
    | non => simp [pyOf] at e; subst e; constructor
    | bl b => simp [pyOf] at e; subst e; constructor
    | int i => simp [pyOf] at e; subst e; constructor
    | str s => simp [pyOf] at e; subst e; constructor
    | tup h1 h2 =>
      rw [pyOf] at e
      obtain ⟨ps, e1, e2⟩ := Option.map_eq_some_iff.mp e
      subst e2
      exact .tup (SqT.of h1) (py_all ih _ _ _ h2 e1)
    | ktup h1 h2 =>
      rw [pyOf] at e
      obtain ⟨ps, e1, e2⟩ := Option.map_eq_some_iff.mp e
      subst e2
      exact .tup (h1 _) (py_all ih _ _ _ h2 e1)
    | clist h1 h2 =>
      rw [pyOf] at e
      obtain ⟨ps, e1, e2⟩ := Option.map_eq_some_iff.mp e
      subst e2
      exact .lst (cl_sqL h1) (py_all ih _ _ _ h2 e1)
    | @ref m a h =>
      rw [pyOf] at e
      obtain ⟨o, ho, ro⟩ := r.there h
      rw [ho] at e
      have go : ∀ xs, RepO G μ H a (.lst xs) → (xs.mapM (pyOf n S)).map PyData.list = some p → Dp G.K H (.ref a) p := fun xs q e => by
        obtain ⟨ps, e1, e2⟩ := Option.map_eq_some_iff.mp e
        subst e2
        obtain ⟨vs, h1, h2⟩ := RepO.sqL q
        exact .lst h1 (py_all ih _ _ _ h2 e1)
      cases o with
      | lst xs => exact go xs ro e
      | dct _ => simp at e
      | dtt _ => simp at e
      | obj _ _ => simp at e
    | cdict _ _ _ => simp [pyOf] at e
    | slist _ => simp [pyOf] at e
    | clo _ => simp [pyOf] at e
    | exv0 => simp [pyOf] at e
    | exv _ _ => simp [pyOf] at e
theorem strOk_of (s : String) : PyData.strOk (Str.ofString s) = true := by
  unfold PyData.strOk
  rw [Str.ofString_eq_toList]
  simp only [List.all_toArray, List.all_map, List.all_eq_true, Function.comp, decide_eq_true_eq]
  intro c _
  have h := c.valid
  simp only [UInt32.isValidChar, Nat.isValidChar] at h
  show c.val.toNat < 0x110000
  omega
theorem py_shAll {n : Nat} (ih : ∀ (d : D) (p : PyData), pyOf n S d = some p → p.canLay0 = true ∧ p.depth ≤ n) : ∀ (xs : List D) (ps : List PyData), xs.mapM (pyOf n S) = some ps → PyData.canLayAll0 ps = true ∧ PyData.depthAll ps ≤ n
  | [], ps, e => by
    simp at e
    subst e
    simp [PyData.canLayAll0, PyData.depthAll]
  | x :: xs, ps, e => by
    rw [List.mapM_cons] at e
    obtain ⟨p, e1, e2⟩ := Option.bind_eq_some_iff.mp e
    obtain ⟨q, e3, e4⟩ := Option.bind_eq_some_iff.mp e2
    cases e4
    obtain ⟨a1, a2⟩ := ih _ _ e1
    obtain ⟨b1, b2⟩ := py_shAll ih xs _ e3
    simp only [PyData.canLayAll0, PyData.depthAll, a1, b1, Bool.and_self, true_and]
    omega
theorem py_sh : ∀ (n : Nat) (d : D) (p : PyData), pyOf n S d = some p → p.canLay0 = true ∧ p.depth ≤ n := by
  intro n
  induction n with
  | zero => intro d p e; cases d <;> simp [pyOf] at e <;> subst e <;> simp [PyData.canLay0, PyData.depth, strOk_of]
  | succ n ih =>
    intro d p e
    have go : ∀ (xs : List D) (f : List PyData → PyData), (∀ ps, (f ps).canLay0 = PyData.canLayAll0 ps) → (∀ ps, (f ps).depth = PyData.depthAll ps + 1) → (xs.mapM (pyOf n S)).map f = some p → p.canLay0 = true ∧ p.depth ≤ n + 1 := fun xs f h1 h2 e => by
      obtain ⟨ps, e1, e2⟩ := Option.map_eq_some_iff.mp e
      subst e2
      obtain ⟨a, b⟩ := py_shAll ih xs ps e1
      rw [h1, h2]
      exact ⟨a, by omega⟩
    have lc : ∀ ps, (PyData.list ps).canLay0 = PyData.canLayAll0 ps := fun _ => by rw [PyData.canLay0]
    have ld : ∀ ps, (PyData.list ps).depth = PyData.depthAll ps + 1 := fun _ => by rw [PyData.depth]
    cases d with
    | tup xs => rw [pyOf] at e; exact go xs _ (fun _ => by rw [PyData.canLay0]) (fun _ => by rw [PyData.depth]) e
    | ktup xs => rw [pyOf] at e; exact go xs _ (fun _ => by rw [PyData.canLay0]) (fun _ => by rw [PyData.depth]) e
    | clist xs => rw [pyOf] at e; exact go xs _ lc ld e
    | ref m =>
      rw [pyOf] at e
      split at e
      · exact go _ _ lc ld e
      · cases e
    | non => simp [pyOf] at e; subst e; simp [PyData.canLay0, PyData.depth]
    | bl _ => simp [pyOf] at e; subst e; simp [PyData.canLay0, PyData.depth]
    | int _ => simp [pyOf] at e; subst e; simp [PyData.canLay0, PyData.depth]
    | str _ => simp [pyOf] at e; subst e; simp [PyData.canLay0, PyData.depth, strOk_of]
    | cdict _ _ => simp [pyOf] at e
    | slist _ => simp [pyOf] at e
    | clo _ => simp [pyOf] at e
    | exv _ _ _ _ => simp [pyOf] at e
theorem py_shaped {n : Nat} (hn : n ≤ 64) {d : D} {p : PyData} (e : pyOf n S d = some p) : SeqAt.shaped p = true := by
  obtain ⟨a, b⟩ := py_sh n d p e
  unfold SeqAt.shaped
  rw [a, decide_eq_true (by omega : p.depth ≤ 64)]
  rfl
end

/-! ### == and != -/
def fEq (neg : Bool) : F2 := fun d e S => match pyOf 9 S d, pyOf 9 S e with
  | some a, some b => .ok (.bl (neg != PyData.eqv a b)) S
  | _, _ => .stuck
section
variable {G : Gx} {X : Cx} {W : WX}
theorem post_ok {μ : List Addr} {H : Hp} {σ : St} {S : Sg} {d : D} {v : V} {Q : VK} (rp : Rep G μ S H) (h : Post (Den G) G W μ H σ (.ok d S) Q) (k : Den G μ H d v) : Q v H := h _ _ _ .refl rp k
theorem ov_eq : OpV G W (rEqD G.K) (fEq false) := by
  intro μ S H x y d e σ Q rp hx hy p
  unfold fEq at p
  split at p
  · rename_i a b ea eb
    refine ⟨a, b, py_den rp 9 _ _ _ hx ea, py_den rp 9 _ _ _ hy eb, py_shaped (by decide) ea, py_shaped (by decide) eb, ?_⟩
    have := post_ok rp p (.bl _)
    simpa using this
  · exact p.elim
theorem ov_ne : OpV G W (rNeD G.K) (fEq true) := by
  intro μ S H x y d e σ Q rp hx hy p
  unfold fEq at p
  split at p
  · rename_i a b ea eb
    refine ⟨a, b, py_den rp 9 _ _ _ hx ea, py_den rp 9 _ _ _ hy eb, py_shaped (by decide) ea, py_shaped (by decide) eb, ?_⟩
    have := post_ok rp p (.bl _)
    simpa using this
  · exact p.elim
theorem de_eq {a b : Expr} {pos : Pos} {f g : FE} (A : Amb G X W) (ha : PE X a (TD G W f)) (hb : PE X b (TD G W g)) : PE X (.Compare a [.Eq] [b] pos) (TD G W (x2 (fEq false) f g)) :=
  de_cmp (r := rEqD G.K) (by have := op_eqD (X := X) (by have := A.hu; omega); rw [A.hK] at this; exact this) ov_eq (nomark b) ha hb
theorem de_ne {a b : Expr} {pos : Pos} {f g : FE} (A : Amb G X W) (ha : PE X a (TD G W f)) (hb : PE X b (TD G W g)) : PE X (.Compare a [.NotEq] [b] pos) (TD G W (x2 (fEq true) f g)) :=
  de_cmp (r := rNeD G.K) (by have := op_neD (X := X) (by have := A.hu; omega); rw [A.hK] at this; exact this) ov_ne (nomark b) ha hb

/-! ### ints compared -/
def fI (p : Int → Int → D) : F2 := fun d e S => match d, e with
  | .int i, .int j => .ok (p i j) S
  | _, _ => .stuck
theorem ov_I {p : Int → Int → D} {q : Int → Int → V} (h : ∀ i j μ H, Den G μ H (p i j) (q i j)) : OpV G W (rI0 q) (fI p) := by
  intro μ S H x y d e σ Q rp hx hy po
  unfold fI at po
  split at po
  · cases hx; cases hy
    exact ⟨_, _, rfl, rfl, post_ok rp po (h _ _ _ _)⟩
  · exact po.elim
/-- .. with a condition -/
def fIC (C : Int → Int → Bool) (p : Int → Int → D) : F2 := fun d e S => match d, e with
  | .int i, .int j => if C i j = true then .ok (p i j) S else .stuck
  | _, _ => .stuck
theorem ov_IC {C : Int → Int → Bool} {C' : Int → Int → Prop} {p : Int → Int → D} {q : Int → Int → V} (hc : ∀ i j, C i j = true → C' i j) (h : ∀ i j μ H, Den G μ H (p i j) (q i j)) : OpV G W (rI C' q) (fIC C p) := by
  intro μ S H x y d e σ Q rp hx hy po
  unfold fIC at po
  split at po
  · cases hx; cases hy
    obtain ⟨c, po⟩ := post_ite po
    exact ⟨_, _, rfl, rfl, hc _ _ c, post_ok rp po (h _ _ _ _)⟩
  · exact po.elim
def fLt : F2 := fI fun i j => .bl (decide (i < j))
def fLe : F2 := fI fun i j => .bl (decide (i ≤ j))
def fGt : F2 := fI fun i j => .bl (decide (j < i))
def fGe : F2 := fI fun i j => .bl (decide (j ≤ i))
theorem de_lt {a b : Expr} {pos : Pos} {f g : FE} (ha : PE X a (TD G W f)) (hb : PE X b (TD G W g)) : PE X (.Compare a [.Lt] [b] pos) (TD G W (x2 fLt f g)) := de_cmp op_lt (ov_I fun _ _ _ _ => .bl _) (nomark b) ha hb
theorem de_le {a b : Expr} {pos : Pos} {f g : FE} (ha : PE X a (TD G W f)) (hb : PE X b (TD G W g)) : PE X (.Compare a [.LtE] [b] pos) (TD G W (x2 fLe f g)) := de_cmp op_le (ov_I fun _ _ _ _ => .bl _) (nomark b) ha hb
theorem de_gt {a b : Expr} {pos : Pos} {f g : FE} (ha : PE X a (TD G W f)) (hb : PE X b (TD G W g)) : PE X (.Compare a [.Gt] [b] pos) (TD G W (x2 fGt f g)) := de_cmp op_gt (ov_I fun _ _ _ _ => .bl _) (nomark b) ha hb
theorem de_ge {a b : Expr} {pos : Pos} {f g : FE} (ha : PE X a (TD G W f)) (hb : PE X b (TD G W g)) : PE X (.Compare a [.GtE] [b] pos) (TD G W (x2 fGe f g)) := de_cmp op_ge (ov_I fun _ _ _ _ => .bl _) (nomark b) ha hb
/-! ### arithmetic -/
def fSub : F2 := fI fun i j => .int (i - j)
def fMod : F2 := fIC (fun _ j => decide (0 < j)) fun i j => .int (i % j)
def fDiv : F2 := fIC (fun _ j => decide (0 < j) && decide (j < 1073741824)) fun i j => .int (i / j)
def fPow : F2 := fIC (fun i j => decide (0 ≤ j) && decide (j ≤ 1000000) && decide (i.natAbs < 18446744073709551616)) fun i j => .int (i ^ j.toNat)
theorem de_sub {a b : Expr} {pos : Pos} {f g : FE} (ha : PE X a (TD G W f)) (hb : PE X b (TD G W g)) : PE X (.BinOp a .Sub b pos) (TD G W (x2 fSub f g)) := de_op op_sub (ov_I fun _ _ _ _ => .int _) ha hb
theorem de_mod {a b : Expr} {pos : Pos} {f g : FE} (ha : PE X a (TD G W f)) (hb : PE X b (TD G W g)) : PE X (.BinOp a .Mod b pos) (TD G W (x2 fMod f g)) := de_op op_mod (ov_IC (by simp) fun _ _ _ _ => .int _) ha hb
theorem de_div {a b : Expr} {pos : Pos} {f g : FE} (ha : PE X a (TD G W f)) (hb : PE X b (TD G W g)) : PE X (.BinOp a .FloorDiv b pos) (TD G W (x2 fDiv f g)) := de_op op_fdiv (ov_IC (by simp [CDiv]) fun _ _ _ _ => .int _) ha hb
theorem de_pow {a b : Expr} {pos : Pos} {f g : FE} (ha : PE X a (TD G W f)) (hb : PE X b (TD G W g)) : PE X (.BinOp a .Pow b pos) (TD G W (x2 fPow f g)) := de_op op_pow (ov_IC (by simp only [Bool.and_eq_true, decide_eq_true_eq, CPow]; intro i j h; exact ⟨h.1.1, h.1.2, h.2⟩) fun _ _ _ _ => .int _) ha hb
def tupOf : D → Option (List D)
  | .tup xs => some xs
  | .ktup xs => some xs
  | _ => none
instance : DecidablePred (fun xs : List D => xs = []) := fun xs => match xs with
  | [] => isTrue rfl
  | _ :: _ => isFalse (fun h => nomatch h)
instance (xs : List D) : Decidable (xs = []) := match xs with
  | [] => isTrue rfl
  | _ :: _ => isFalse (fun h => nomatch h)
/-- + : ints, texts, tuples, lists -/
def fAdd : F2 := fun d e S => match d, e with
  | .int i, .int j => .ok (.int (i + j)) S
  | .str s, .str t => if s.length + t.length ≤ 16777216 then .ok (.str (s ++ t)) S else .stuck
  | .tup xs, .tup ys => if xs.length + ys.length ≤ 16777216 then .ok (.tup (xs ++ ys)) S else .stuck
  | .ref n, .ref m => match S[n]?, S[m]? with
    | some (.lst xs), some (.lst ys) => if xs.length + ys.length ≤ 16777216 then newO (.lst (xs ++ ys)) S else .stuck
    | _, _ => .stuck
  | d, e => match tupOf d, tupOf e with
    | some xs, some ys => if xs.length + ys.length ≤ 16777216 then (if xs = [] then .ok e S else if ys = [] then .ok d S else .ok (.tup (xs ++ ys)) S) else .stuck
    | _, _ => .stuck
theorem tup_den {μ : List Addr} {H : Hp} {d : D} {v : V} {xs : List D} (h : Den G μ H d v) (e : tupOf d = some xs) : ∃ a vs, v = .ref a ∧ SqT G.K H a vs ∧ DenA G μ H xs vs := by
  cases h with
  | tup h1 h2 => simp [tupOf] at e; subst e; exact ⟨_, _, rfl, SqT.of h1, h2⟩
  | ktup h1 h2 => simp [tupOf] at e; subst e; exact ⟨_, _, rfl, h1 _, h2⟩
  | _ => simp [tupOf] at e
theorem op_addAll : OpR X (binaryOp .Add) (fun x y H Q => rI0 (fun i j => .int (i + j)) x y H Q ∨ (∃ i j, x = .str i ∧ y = .str j ∧ i.length + j.length ≤ sizeLine ∧ Q (.str (i ++ j)) H) ∨ rCatA X.K x y H Q ∨ rCat x y H Q) :=
  op_add.or (op_add_str.or (op_catA.or op_cat))
theorem ov_add (g : G.Ok) : OpV G W (fun x y H Q => rI0 (fun i j => .int (i + j)) x y H Q ∨ (∃ i j, x = .str i ∧ y = .str j ∧ i.length + j.length ≤ sizeLine ∧ Q (.str (i ++ j)) H) ∨ rCatA G.K x y H Q ∨ rCat x y H Q) fAdd := by
  intro μ S H x y d e σ Q rp hx hy po
  unfold fAdd at po
  split at po
  · cases hx; cases hy
    exact .inl ⟨_, _, rfl, rfl, post_ok rp po (.int _)⟩
  · cases hx; cases hy
    obtain ⟨c, po⟩ := post_ite po
    refine .inr (.inl ⟨_, _, rfl, rfl, by rw [ofS_len, ofS_len, sl_eq]; exact c, ?_⟩)
    rw [← ofS_app]
    exact post_ok rp po (.str _)
  · rename_i xs ys
    obtain ⟨c, po⟩ := post_ite po
    cases hx with
    | tup h1 h2 =>
      cases hy with
      | tup h3 h4 =>
        refine .inr (.inr (.inl ⟨_, _, _, _, rfl, rfl, SqT.of h1, SqT.of h3, by rw [sl_eq, ← h2.length, ← h4.length]; exact c, fun e0 => ?_, fun e1 e0 => ?_, fun _ _ p hp => ?_⟩))
        · subst e0
          cases h2
          exact post_ok rp po (.tup h3 h4)
        · subst e0
          cases h4
          rw [List.append_nil] at po
          exact post_ok rp po (.tup h1 h2)
        · exact post_tup g rp (h2.append h4) po hp
  · rename_i n m
    cases hx with
    | ref h1 =>
      cases hy with
      | ref h3 =>
        split at po
        · rename_i xs ys e1 e2
          obtain ⟨c, po⟩ := post_ite po
          obtain ⟨vs, a1, a2⟩ := rp.obj h1 e1
          obtain ⟨us, b1, b2⟩ := rp.obj h3 e2
          exact .inr (.inr (.inr ⟨_, _, _, _, rfl, rfl, a1, b1, by rw [sl_eq, ← a2.length, ← b2.length]; exact c, fun p hp => post_lst g rp (a2.append b2) po hp⟩))
        · exact po.elim
  · split at po
    · rename_i xs ys e1 e2
      obtain ⟨c, po⟩ := post_ite po
      obtain ⟨a, vs, rfl, h1, h2⟩ := tup_den hx e1
      obtain ⟨b, us, rfl, h3, h4⟩ := tup_den hy e2
      have z1 : vs = [] ↔ xs = [] := by rw [← List.length_eq_zero_iff, ← List.length_eq_zero_iff, h2.length]
      have z2 : us = [] ↔ ys = [] := by rw [← List.length_eq_zero_iff, ← List.length_eq_zero_iff, h4.length]
      refine .inr (.inr (.inl ⟨_, _, _, _, rfl, rfl, h1, h3, by rw [sl_eq, ← h2.length, ← h4.length]; exact c, fun e0 => ?_, fun e1' e0 => ?_, fun e1' e0 p hp => ?_⟩))
      · rw [if_pos (z1.mp e0)] at po
        exact post_ok rp po hy
      · rw [if_neg (fun z => e1' (z1.mpr z)), if_pos (z2.mp e0)] at po
        exact post_ok rp po hx
      · rw [if_neg (fun z => e1' (z1.mpr z)), if_neg (fun z => e0 (z2.mpr z))] at po
        exact post_tup g rp (h2.append h4) po hp
    · exact po.elim
theorem de_add {a b : Expr} {pos : Pos} {f g : FE} (A : Amb G X W) (ha : PE X a (TD G W f)) (hb : PE X b (TD G W g)) : PE X (.BinOp a .Add b pos) (TD G W (x2 fAdd f g)) :=
  de_op (r := fun x y H Q => rI0 (fun i j => .int (i + j)) x y H Q ∨ (∃ i j, x = .str i ∧ y = .str j ∧ i.length + j.length ≤ sizeLine ∧ Q (.str (i ++ j)) H) ∨ rCatA G.K x y H Q ∨ rCat x y H Q) (by have := op_addAll (X := X); rw [A.hK] at this; exact this) (ov_add A.ok) ha hb
/-- * : ints, a list by an int -/
def fMul : F2 := fun d e S => match d, e with
  | .int i, .int j => if (decide (-(18446744073709551616) < i) && decide (i < 18446744073709551616)) || (decide (-(18446744073709551616) < j) && decide (j < 18446744073709551616)) then .ok (.int (i * j)) S else .stuck
  | .ref n, .int k => match S[n]? with
    | some (.lst xs) => if -(9223372036854775808) ≤ k ∧ k < 9223372036854775808 ∧ xs.length * k.toNat ≤ 16777216 then newO (.lst (List.replicate k.toNat xs).flatten) S else .stuck
    | _ => .stuck
  | .tup xs, .int k => if xs ≠ [] ∧ 2 ≤ k ∧ k ≤ 1000 ∧ xs.length ≤ 1000 then .ok (.tup (List.replicate k.toNat xs).flatten) S else .stuck
  | _, _ => .stuck
theorem DenA.rep {μ : List Addr} {H : Hp} {xs : List D} {vs : List V} (h : DenA G μ H xs vs) : ∀ k : Nat, DenA G μ H (List.replicate k xs).flatten (List.replicate k vs).flatten
  | 0 => .nil
  | k + 1 => by
    rw [List.replicate_succ, List.replicate_succ, List.flatten_cons, List.flatten_cons]
    exact h.append (h.rep k)
theorem ov_mul (g : G.Ok) : OpV G W (fun x y H Q => rI CMul (fun i j => .int (i * j)) x y H Q ∨ rRep x y H Q ∨ rRepT G.K x y H Q) fMul := by
  intro μ S H x y d e σ Q rp hx hy po
  unfold fMul at po
  split at po
  · cases hx; cases hy
    obtain ⟨c, po⟩ := post_ite po
    refine .inl ⟨_, _, rfl, rfl, ?_, post_ok rp po (.int _)⟩
    simp only [Bool.or_eq_true, Bool.and_eq_true, decide_eq_true_eq] at c
    exact c
  · rename_i n k
    cases hx with
    | ref h1 =>
      cases hy
      split at po
      · rename_i xs e1
        obtain ⟨⟨c1, c2, c3⟩, po⟩ := post_ite po
        obtain ⟨vs, a1, a2⟩ := rp.obj h1 e1
        exact .inr (.inl ⟨_, _, _, rfl, rfl, a1, c1, c2, by rw [sl_eq, ← a2.length]; exact c3, fun p hp => post_lst g rp (a2.rep _) po hp⟩)
      · exact po.elim
  · rename_i xs k
    cases hx with
    | tup h1 h2 =>
      cases hy
      obtain ⟨⟨c0, c1, c2, c3⟩, po⟩ := post_ite po
      exact .inr (.inr ⟨_, _, _, rfl, rfl, SqT.of h1, fun e => c0 (by subst e; cases h2; rfl), c1, c2, by rw [← h2.length]; exact c3, fun p hp => post_tup g rp (h2.rep _) po hp⟩)
  · exact po.elim
theorem de_mul {a b : Expr} {pos : Pos} {f g : FE} (A : Amb G X W) (ha : PE X a (TD G W f)) (hb : PE X b (TD G W g)) : PE X (.BinOp a .Mult b pos) (TD G W (x2 fMul f g)) :=
  de_op (r := fun x y H Q => rI CMul (fun i j => .int (i * j)) x y H Q ∨ rRep x y H Q ∨ rRepT G.K x y H Q) (by have := (op_mul (X := X)).or (op_rep.or op_repT); rw [A.hK] at this; exact this) (ov_mul A.ok) ha hb
end
end Dx

/-! Dx3: in, is, chains, truth, and / or / not, conditional expressions, subscripts, slices. -/
namespace Dx
open PySem PySem.Spec L2
variable {G : Gx} {X : Cx} {W : WX}

/-! ### in -/
def flatD : D → Bool
  | .non => true
  | .bl _ => true
  | .int _ => true
  | .str _ => true
  | _ => false
def keyD : D → Option Key
  | .int i => some (.inl i)
  | .str s => some (.inr (Str.ofString s))
  | _ => none
def keysD : D → Option (List Key)
  | .tup xs => xs.mapM keyD
  | _ => none
def getK {κ : Type} [DecidableEq κ] (kvs : List (κ × D)) (k : κ) : Option D := (kvs.find? fun kv => decide (kv.1 = k)).map (·.2)
/-- the items' data -/
def seqOf (S : Sg) : D → Option (List D)
  | .ref n => match S[n]? with
    | some (.lst xs) => some xs
    | _ => none
  | .clist xs => some xs
  | _ => none
def getCd (ks : List String) (xs : List D) (s : String) : Option D := ((ks.zip xs).find? fun kv => decide (kv.1 = s)).map (·.2)
def fIn (neg : Bool) : F2 := fun d e S => match e with
  | .tup xs => if flatD d = true ∧ xs.all flatD = true then (match xs.mapM (pyOf 8 S), pyOf 9 S d with
    | some ps, some p => .ok (.bl (neg != ps.any fun z => PyData.eqv z p)) S
    | _, _ => .stuck) else .stuck
  | .cdict ks xs => match d with
    | .str s => if ks.length = xs.length then .ok (.bl (neg != (getCd ks xs s).isSome)) S else .stuck
    | _ => .stuck
  | .ref n => match S[n]? with
    | some (.dct kvs) => match keyD d with
      | some k => .ok (.bl (neg != (getK kvs k).isSome)) S
      | none => .stuck
    | some (.dtt kvs) => match keysD d with
      | some k => .ok (.bl (neg != (getK kvs k).isSome)) S
      | none => .stuck
    | some (.lst xs) => match xs.mapM (pyOf 8 S), pyOf 9 S d with
      | some ps, some p => .ok (.bl (neg != ps.any fun z => PyData.eqv z p)) S
      | _, _ => .stuck
    | _ => .stuck
  | .clist xs => match xs.mapM (pyOf 8 S), pyOf 9 S d with
    | some ps, some p => .ok (.bl (neg != ps.any fun z => PyData.eqv z p)) S
    | _, _ => .stuck
  | _ => .stuck
theorem flat_py {μ : List Addr} {H : Hp} {S : Sg} {d : D} {v : V} {n : Nat} {p : PyData} (f : flatD d = true) (h : Den G μ H d v) (e : pyOf n S d = some p) : flatV v = true ∧ ∀ w q e', flatD e' = true → Den G μ H e' w → pyOf n S e' = some q → eqV w v = PyData.eqv q p := by
  cases h <;> simp [flatD] at f <;> (refine ⟨rfl, fun w q e' f' h' g => ?_⟩; cases h' <;> simp [flatD] at f' <;> simp [pyOf] at e g <;> subst e <;> subst g <;> rfl)
theorem flat_pyn {S : Sg} {d : D} (f : flatD d = true) (n m : Nat) : pyOf n S d = pyOf m S d := by
  cases d <;> simp [flatD] at f <;> simp [pyOf]
theorem flat_all {μ : List Addr} {H : Hp} {S : Sg} {d : D} {v : V} {p : PyData} (f : flatD d = true) (h : Den G μ H d v) (e : pyOf 9 S d = some p) :
    ∀ (xs : List D) (vs : List V) (ps : List PyData), xs.all flatD = true → DenA G μ H xs vs → xs.mapM (pyOf 8 S) = some ps → vs.all flatV = true ∧ inV v vs = ps.any fun z => PyData.eqv z p
  | [], _, ps, _, .nil, g => by simp at g; subst g; exact ⟨rfl, rfl⟩
  | x :: xs, _, ps, fa, .cons h1 t, g => by
    simp only [List.all_cons, Bool.and_eq_true] at fa
    rw [List.mapM_cons] at g
    obtain ⟨q, e1, e2⟩ := Option.bind_eq_some_iff.mp g
    obtain ⟨qs, e3, e4⟩ := Option.bind_eq_some_iff.mp e2
    cases e4
    obtain ⟨a1, a2⟩ := flat_all f h e xs _ _ fa.2 t e3
    have e9 : pyOf 9 S x = some q := by rw [flat_pyn fa.1 9 8]; exact e1
    obtain ⟨b1, _⟩ := flat_py fa.1 h1 e9
    obtain ⟨_, c2⟩ := flat_py f h e
    refine ⟨by simp [b1, a1], ?_⟩
    unfold inV at a2 ⊢
    rw [List.any_cons, List.any_cons, a2, c2 _ _ _ fa.1 h1 e9]
theorem key_den {μ : List Addr} {H : Hp} {d : D} {v : V} {k : Key} (h : Den G μ H d v) (e : keyD d = some k) : v = kV k := by
  cases h <;> simp [keyD] at e <;> subst e <;> rfl
theorem keys_den {μ : List Addr} {H : Hp} : ∀ {xs : List D} {vs : List V} {ks : List Key}, DenA G μ H xs vs → xs.mapM keyD = some ks → vs = ks.map kV
  | [], _, ks, .nil, g => by simp at g; subst g; rfl
  | x :: xs, _, ks, .cons h1 t, g => by
    rw [List.mapM_cons] at g
    obtain ⟨q, e1, e2⟩ := Option.bind_eq_some_iff.mp g
    obtain ⟨qs, e3, e4⟩ := Option.bind_eq_some_iff.mp e2
    cases e4
    rw [List.map_cons, key_den h1 e1, keys_den t e3]
theorem denK_get {κ : Type} [DecidableEq κ] {μ : List Addr} {H : Hp} : ∀ {fs : List (κ × D)} {gs : List (κ × V)} (k : κ), DenK G μ H fs gs → (getK fs k = none ∧ valV gs k = none) ∨ ∃ d v, getK fs k = some d ∧ valV gs k = some v ∧ Den G μ H d v := by
  intro fs
  induction fs with
  | nil =>
    intro gs k h
    have e : gs = [] := List.map_eq_nil_iff.mp h.1
    subst e
    exact .inl ⟨rfl, rfl⟩
  | cons f fs ih =>
    intro gs k h
    obtain ⟨h1, h2⟩ := h
    cases gs with
    | nil => simp at h1
    | cons g gs =>
      simp only [List.map_cons, List.cons.injEq] at h1
      cases h2 with
      | cons a b =>
        by_cases e : f.1 = k
        · refine .inr ⟨f.2, g.2, ?_, ?_, a⟩
          · simp [getK, List.find?_cons, e]
          · simp [valV, List.find?_cons, h1.1, e]
        · have e' : ¬ g.1 = k := by rw [h1.1]; exact e
          have r1 : getK (f :: fs) k = getK fs k := by simp [getK, List.find?_cons, e]
          have r2 : valV (g :: gs) k = valV gs k := by simp [valV, List.find?_cons, e']
          rw [r1, r2]
          exact ih k ⟨h1.2, b⟩
/-- a dict of ours at a key -/
def dgetD (S : Sg) (n : Nat) (d : D) : Option (Option D) := match S[n]? with
  | some (.dct kvs) => (keyD d).map (getK kvs)
  | some (.dtt kvs) => (keysD d).map (getK kvs)
  | _ => none
theorem dget_den {μ : List Addr} {H : Hp} {S : Sg} {n : Nat} {a : Addr} {d : D} {v : V} {o : Option D} (rp : Rep G μ S H) (hn : μ[n]? = some a) (h : Den G μ H d v) (e : dgetD S n d = some o) :
    ∃ r, DGet H a v r ∧ ((o = none ∧ r = none) ∨ ∃ x y, o = some x ∧ r = some y ∧ Den G μ H x y) := by
  unfold dgetD at e
  split at e
  · rename_i kvs hs
    obtain ⟨k, e1, e2⟩ := Option.map_eq_some_iff.mp e
    obtain ⟨gs, h1, h2⟩ := rp.obj hn hs
    rw [key_den h e1]
    refine ⟨valV gs k, DGet.k h1, ?_⟩
    rcases denK_get k h2 with ⟨a1, a2⟩ | ⟨x, y, a1, a2, a3⟩
    · exact .inl ⟨e2.symm.trans a1, a2⟩
    · exact .inr ⟨x, y, e2.symm.trans a1, a2, a3⟩
  · rename_i kvs hs
    obtain ⟨k, e1, e2⟩ := Option.map_eq_some_iff.mp e
    obtain ⟨gs, h1, h2⟩ := rp.obj hn hs
    unfold keysD at e1
    split at e1
    · cases h with
      | tup q2 q3 =>
      have q4 := keys_den q3 e1
      subst q4
      refine ⟨valV gs k, DGet.t h1 q2, ?_⟩
      rcases denK_get k h2 with ⟨a1, a2⟩ | ⟨x, y, a1, a2, a3⟩
      · exact .inl ⟨e2.symm.trans a1, a2⟩
      · exact .inr ⟨x, y, e2.symm.trans a1, a2, a3⟩
    · cases e1
  · cases e
/-- in a dict, by values -/
theorem op_inDct (hu : X.A.units + 1 < cLine) : OpR X (compareOp .In) (fun x y H Q => ∃ a o, y = .ref a ∧ DGet H a x o ∧ Q (.bl o.isSome) H) := by
  intro pins s σ H x y v u Q I rx ry h
  obtain ⟨a, o, rfl, g, q⟩ := h
  obtain rfl : u = Value.ref a := ry
  exact d_in hu I g rx fun s3 I3 => ⟨.bl o.isSome, H, I3, rfl, q⟩
theorem op_ninDct (hu : X.A.units + 1 < cLine) : OpR X (compareOp .NotIn) (fun x y H Q => ∃ a o, y = .ref a ∧ DGet H a x o ∧ Q (.bl (!o.isSome)) H) := by
  intro pins s σ H x y v u Q I rx ry h
  obtain ⟨a, o, rfl, g, q⟩ := h
  obtain rfl : u = Value.ref a := ry
  exact d_notIn hu I g rx fun s3 I3 => ⟨.bl (!o.isSome), H, I3, rfl, q⟩
/-- in a written dict, by values -/
def KLook (K : PySem.W.Frag) (w : World) (a : Addr) (z : Str) (b : Bool) : Prop := (a == sysModules) = false ∧ ((b = true ∧ ∃ v, KDct K w a z v) ∨ (b = false ∧ KMiss K w a z))
theorem op_inK : OpR X (compareOp .In) (fun x y H Q => ∃ a z b, y = .ref a ∧ x = .str z ∧ KLook X.K X.w a z b ∧ Q (.bl b) H) := by
  intro pins s σ H x y v u Q I rx ry h
  obtain ⟨a, z, b, rfl, rfl, ⟨low, k⟩, q⟩ := h
  obtain rfl : u = Value.ref a := ry
  obtain ⟨t, rfl⟩ := rx
  rcases k with ⟨rfl, v, es, n, u, hl, hk, e, _⟩ | ⟨rfl, es, n, hl, hk, _, e⟩
  all_goals
    have hm := PySem.W.mapOf_K (prog := X.prog) (w := X.w) I.kIn hl hk
    refine wpAny_in_of (strKind_is X.prog X.w z t) low hm ?_
    rw [PySem.W.find_K hl e]
    exact ⟨.bl _, H, I.tok _, rfl, q⟩
theorem op_ninK : OpR X (compareOp .NotIn) (fun x y H Q => ∃ a z b, y = .ref a ∧ x = .str z ∧ KLook X.K X.w a z b ∧ Q (.bl (!b)) H) := by
  intro pins s σ H x y v u Q I rx ry h
  obtain ⟨a, z, b, rfl, rfl, ⟨low, k⟩, q⟩ := h
  obtain rfl : u = Value.ref a := ry
  obtain ⟨t, rfl⟩ := rx
  rcases k with ⟨rfl, v, es, n, u, hl, hk, e, _⟩ | ⟨rfl, es, n, hl, hk, _, e⟩
  all_goals
    have hm := PySem.W.mapOf_K (prog := X.prog) (w := X.w) I.kIn hl hk
    refine wpAny_notIn_of (strKind_is X.prog X.w z t) low hm ?_
    rw [PySem.W.find_K hl e]
    exact ⟨.bl _, H, I.tok _, rfl, q⟩
/-- a written dict of ours at a key -/
theorem denA_zip {μ : List Addr} {H : Hp} : ∀ {ks : List String} {xs : List D} {vs : List V} (s : String), DenA G μ H xs vs → ks.length = xs.length →
    (getCd ks xs s = none ∧ s ∉ ks) ∨ ∃ d v, getCd ks xs s = some d ∧ (s, v) ∈ ks.zip vs ∧ Den G μ H d v
  | [], [], _, s, .nil, _ => .inl ⟨rfl, by simp⟩
  | k :: ks, x :: xs, v :: vs, s, .cons h t, hl => by
    by_cases e : k = s
    · exact .inr ⟨x, v, by simp [getCd, e], by simp [e], h⟩
    · have r : getCd (k :: ks) (x :: xs) s = getCd ks xs s := by simp [getCd, e]
      rw [r]
      rcases denA_zip (ks := ks) s t (by simpa using hl) with ⟨a, b⟩ | ⟨d, w, a, b, c⟩
      · exact .inl ⟨a, by simp [b, Ne.symm e]⟩
      · exact .inr ⟨d, w, a, by simp [b], c⟩
theorem cd_look {μ : List Addr} {H : Hp} {a : Addr} {ks : List String} {xs : List D} {vs : List V} (hl : ks.length = xs.length) (h0 : KNo G.K G.w a ks) (h1 : ∀ p ∈ ks.zip vs, KDct G.K G.w a (Str.ofString p.1) p.2) (h2 : DenA G μ H xs vs) (s : String) :
    KLook G.K G.w a (Str.ofString s) (getCd ks xs s).isSome := by
  refine ⟨h0.1, ?_⟩
  rcases denA_zip s h2 hl with ⟨e, n⟩ | ⟨d, v, e, m, _⟩
  · rw [e]
    exact .inr ⟨rfl, h0.2 _ fun k hk z => n (by rw [ofS_inj z]; exact hk)⟩
  · rw [e]
    exact .inl ⟨rfl, v, h1 _ m⟩
def rInAll (K : PySem.W.Frag) (w : World) (neg : Bool) : R2 := fun x y H Q =>
  rIn K neg x y H Q ∨ (∃ d ds, Dp K H x d ∧ Dp K H y (.list ds) ∧ SeqAt.shaped d = true ∧ SeqAt.shaped (.list ds) = true ∧ Q (.bl (neg != ds.any fun z => PyData.eqv z d)) H) ∨
  (∃ a o, y = .ref a ∧ DGet H a x o ∧ Q (.bl (neg != o.isSome)) H) ∨ (∃ a z b, y = .ref a ∧ x = .str z ∧ KLook K w a z b ∧ Q (.bl (neg != b)) H)
theorem op_inAll (hu : X.A.units + 65 < cLine) : OpR X (compareOp .In) (rInAll X.K X.w false) := by
  intro pins s σ H x y v u Q I rx ry h
  rcases h with h | ⟨d, ds, a, b, c, e, q⟩ | ⟨a, o, e, g, q⟩ | ⟨a, z, b, e, e2, k, q⟩
  · exact op_in_seq pins s σ H x y v u Q I rx ry h
  · exact op_inD hu pins s σ H x y v u Q I rx ry ⟨d, ds, a, b, c, e, by simpa using q⟩
  · exact op_inDct (by omega) pins s σ H x y v u Q I rx ry ⟨a, o, e, g, by simpa using q⟩
  · exact op_inK pins s σ H x y v u Q I rx ry ⟨a, z, b, e, e2, k, by simpa using q⟩
theorem op_ninAll (hu : X.A.units + 65 < cLine) : OpR X (compareOp .NotIn) (rInAll X.K X.w true) := by
  intro pins s σ H x y v u Q I rx ry h
  rcases h with h | ⟨d, ds, a, b, c, e, q⟩ | ⟨a, o, e, g, q⟩ | ⟨a, z, b, e, e2, k, q⟩
  · exact op_notIn_seq pins s σ H x y v u Q I rx ry h
  · exact op_notInD hu pins s σ H x y v u Q I rx ry ⟨d, ds, a, b, c, e, by simpa using q⟩
  · exact op_ninDct (by omega) pins s σ H x y v u Q I rx ry ⟨a, o, e, g, by simpa using q⟩
  · exact op_ninK pins s σ H x y v u Q I rx ry ⟨a, z, b, e, e2, k, by simpa using q⟩
theorem ite_bx (neg b : Bool) : (if neg = true then !b else b) = (neg != b) := by cases neg <;> cases b <;> rfl
theorem ov_in {neg : Bool} : OpV G W (rInAll G.K G.w neg) (fIn neg) := by
  intro μ S H x y d e σ Q rp hx hy po
  have deep : ∀ (xs : List D) (a : Addr) (vs : List V), SqL G.K H a vs → DenA G μ H xs vs → Post (Den G) G W μ H σ (match xs.mapM (pyOf 8 S), pyOf 9 S d with
      | some ps, some p => R.ok (.bl (neg != ps.any fun z => PyData.eqv z p)) S
      | _, _ => .stuck) Q → rInAll G.K G.w neg x (.ref a) H Q := fun xs a vs h1 h2 po => by
    split at po
    · rename_i ps p e1 e2
      have sh : SeqAt.shaped (.list ps) = true := by
        obtain ⟨a1, a2⟩ := py_shAll (n := 8) (fun d p h => py_sh 8 d p h) xs ps e1
        unfold SeqAt.shaped
        rw [PyData.canLay0, PyData.depth, a1, decide_eq_true (by omega)]
        rfl
      exact .inr (.inl ⟨p, ps, py_den rp 9 _ _ _ hx e2, .lst h1 (py_all (fun d v p h e => py_den rp 8 d v p h e) xs vs ps h2 e1), py_shaped (by decide) e2, sh, post_ok rp po (.bl _)⟩)
    · exact po.elim
  unfold fIn at po
  cases hy with
  | tup h1 h2 =>
    obtain ⟨⟨c1, c2⟩, po⟩ := post_ite po
    split at po
    · rename_i ps p e1 e2
      obtain ⟨a1, a2⟩ := flat_all c1 hx e2 _ _ _ c2 h2 e1
      obtain ⟨b1, _⟩ := flat_py c1 hx e2
      refine .inl ⟨_, _, rfl, .inr (SqT.of h1), b1, a1, ?_⟩
      rw [a2, ite_bx]
      exact post_ok rp po (.bl _)
    · exact po.elim
  | @cdict a ks xs vs h0 h1 h2 =>
    dsimp only at po
    split at po
    · rename_i s
      cases hx
      obtain ⟨c, po⟩ := post_ite po
      exact .inr (.inr (.inr ⟨a, _, _, rfl, rfl, cd_look c h0 h1 h2 s, post_ok rp po (.bl _)⟩))
    · exact po.elim
  | @ref n a h =>
    dsimp only at po
    split at po
    · rename_i kvs e
      split at po
      · rename_i k ek
        obtain ⟨r, g, q⟩ := dget_den (d := d) (o := getK kvs k) rp h hx (by unfold dgetD; rw [e]; simp [ek])
        refine .inr (.inr (.inl ⟨a, r, rfl, g, ?_⟩))
        have e3 : r.isSome = (getK kvs k).isSome := by
          rcases q with ⟨q1, q2⟩ | ⟨x, y, q1, q2, _⟩ <;> rw [q1, q2] <;> rfl
        rw [e3]
        exact post_ok rp po (.bl _)
      · exact po.elim
    · rename_i kvs e
      split at po
      · rename_i k ek
        obtain ⟨r, g, q⟩ := dget_den (d := d) (o := getK kvs k) rp h hx (by unfold dgetD; rw [e]; simp [ek])
        refine .inr (.inr (.inl ⟨a, r, rfl, g, ?_⟩))
        have e3 : r.isSome = (getK kvs k).isSome := by
          rcases q with ⟨q1, q2⟩ | ⟨x, y, q1, q2, _⟩ <;> rw [q1, q2] <;> rfl
        rw [e3]
        exact post_ok rp po (.bl _)
      · exact po.elim
    · rename_i xs e
      obtain ⟨vs, h1, h2⟩ := RepO.sqL (rp.obj h e)
      exact deep xs a vs h1 h2 po
    · exact po.elim
  | clist h1 h2 => exact deep _ _ _ (cl_sqL h1) h2 po
  | ktup _ _ => exact po.elim
  | non => exact po.elim
  | bl _ => exact po.elim
  | int _ => exact po.elim
  | str _ => exact po.elim
  | slist _ => exact po.elim
  | clo _ => exact po.elim
  | exv0 => exact po.elim
  | exv _ _ => exact po.elim
theorem de_in {a b : Expr} {pos : Pos} {f g : FE} (A : Amb G X W) (ha : PE X a (TD G W f)) (hb : PE X b (TD G W g)) (hm : behindInMarks .In b = false := by rfl) : PE X (.Compare a [.In] [b] pos) (TD G W (x2 (fIn false) f g)) :=
  de_cmp (r := rInAll G.K G.w false) (by have := op_inAll (X := X) A.hu; rw [A.hK, A.hw] at this; exact this) ov_in hm ha hb
theorem de_nin {a b : Expr} {pos : Pos} {f g : FE} (A : Amb G X W) (ha : PE X a (TD G W f)) (hb : PE X b (TD G W g)) (hm : behindInMarks .NotIn b = false := by rfl) : PE X (.Compare a [.NotIn] [b] pos) (TD G W (x2 (fIn true) f g)) :=
  de_cmp (r := rInAll G.K G.w true) (by have := op_ninAll (X := X) A.hu; rw [A.hK, A.hw] at this; exact this) ov_in hm ha hb

/-! ### is -/
def isNonD : D → Bool
  | .non => true
  | _ => false
def fIs (neg : Bool) : F2 := fun d e S => match e with
  | .non => .ok (.bl (neg != isNonD d)) S
  | .bl b => match d with
    | .bl a => .ok (.bl (neg != decide (a = b))) S
    | _ => .stuck
  | _ => .stuck
theorem den_non {μ : List Addr} {H : Hp} {d : D} {v : V} (h : Den G μ H d v) : isNonD d = decide (v = .non) := by
  cases h <;> simp [isNonD]
theorem ov_is {neg : Bool} : OpV G W (fun x y H Q => (y = .non ∧ Q (.bl (neg != decide (x = .non))) H) ∨ ∃ a b : Bool, x = .bl a ∧ y = .bl b ∧ Q (.bl (neg != decide (a = b))) H) (fIs neg) := by
  intro μ S H x y d e σ Q rp hx hy po
  unfold fIs at po
  split at po
  · cases hy
    refine .inl ⟨rfl, ?_⟩
    rw [← den_non hx]
    exact post_ok rp po (.bl _)
  · cases hy
    split at po
    · cases hx
      exact .inr ⟨_, _, rfl, rfl, post_ok rp po (.bl _)⟩
    · exact po.elim
  · exact po.elim
theorem de_is {a b : Expr} {pos : Pos} {f g : FE} (ha : PE X a (TD G W f)) (hb : PE X b (TD G W g)) : PE X (.Compare a [.Is] [b] pos) (TD G W (x2 (fIs false) f g)) :=
  de_cmp (r := fun x y H Q => (y = .non ∧ Q (.bl (false != decide (x = .non))) H) ∨ ∃ a b : Bool, x = .bl a ∧ y = .bl b ∧ Q (.bl (false != decide (a = b))) H) (by
    have := (op_isN (X := X)).or op_isBl
    intro pins s σ H x y v u Q I rx ry h
    exact this pins s σ H x y v u Q I rx ry (h.imp (fun ⟨p, q⟩ => ⟨p, by simpa using q⟩) fun ⟨a, b, p, r, q⟩ => ⟨a, b, p, r, by simpa using q⟩)) ov_is (nomark b) ha hb
theorem de_isnot {a b : Expr} {pos : Pos} {f g : FE} (ha : PE X a (TD G W f)) (hb : PE X b (TD G W g)) : PE X (.Compare a [.IsNot] [b] pos) (TD G W (x2 (fIs true) f g)) :=
  de_cmp (r := fun x y H Q => (y = .non ∧ Q (.bl (true != decide (x = .non))) H) ∨ ∃ a b : Bool, x = .bl a ∧ y = .bl b ∧ Q (.bl (true != decide (a = b))) H) (by
    have := (op_notN (X := X)).or op_notBl
    intro pins s σ H x y v u Q I rx ry h
    exact this pins s σ H x y v u Q I rx ry (h.imp (fun ⟨p, q⟩ => ⟨p, by simpa using q⟩) fun ⟨a, b, p, r, q⟩ => ⟨a, b, p, r, by simpa using q⟩)) ov_is (nomark b) ha hb
end Dx

/-! Dx4: comparisons as values and tests, chains, truth, and / or / not, conditional expressions, subscripts, slices. -/
namespace Dx
open PySem PySem.Spec L2
variable {G : Gx} {X : Cx} {W : WX}

/-- a comparison's rule and its step -/
def CmpD (X : Cx) (G : Gx) (W : WX) (op : CmpOp) (h : F2) : Prop := ∃ r, OpR X (compareOp op) r ∧ OpV G W r h
theorem c_eq (A : Amb G X W) : CmpD X G W .Eq (fEq false) := ⟨rEqD G.K, by have := op_eqD (X := X) (by have := A.hu; omega); rw [A.hK] at this; exact this, ov_eq⟩
theorem c_ne (A : Amb G X W) : CmpD X G W .NotEq (fEq true) := ⟨rNeD G.K, by have := op_neD (X := X) (by have := A.hu; omega); rw [A.hK] at this; exact this, ov_ne⟩
theorem c_lt (A : Amb G X W) : CmpD X G W .Lt fLt := ⟨_, op_lt, ov_I fun _ _ _ _ => .bl _⟩
theorem c_le (A : Amb G X W) : CmpD X G W .LtE fLe := ⟨_, op_le, ov_I fun _ _ _ _ => .bl _⟩
theorem c_gt (A : Amb G X W) : CmpD X G W .Gt fGt := ⟨_, op_gt, ov_I fun _ _ _ _ => .bl _⟩
theorem c_ge (A : Amb G X W) : CmpD X G W .GtE fGe := ⟨_, op_ge, ov_I fun _ _ _ _ => .bl _⟩
theorem c_in (A : Amb G X W) : CmpD X G W .In (fIn false) := ⟨rInAll G.K G.w false, by have := op_inAll (X := X) A.hu; rw [A.hK, A.hw] at this; exact this, ov_in⟩
theorem c_nin (A : Amb G X W) : CmpD X G W .NotIn (fIn true) := ⟨rInAll G.K G.w true, by have := op_ninAll (X := X) A.hu; rw [A.hK, A.hw] at this; exact this, ov_in⟩
theorem c_is (A : Amb G X W) : CmpD X G W .Is (fIs false) := ⟨fun x y H Q => (y = .non ∧ Q (.bl (false != decide (x = .non))) H) ∨ ∃ a b : Bool, x = .bl a ∧ y = .bl b ∧ Q (.bl (false != decide (a = b))) H, by
    have := (op_isN (X := X)).or op_isBl
    intro pins s σ H x y v u Q I rx ry h
    exact this pins s σ H x y v u Q I rx ry (h.imp (fun ⟨p, q⟩ => ⟨p, by simpa using q⟩) fun ⟨a, b, p, r, q⟩ => ⟨a, b, p, r, by simpa using q⟩), ov_is⟩
theorem c_isnot (A : Amb G X W) : CmpD X G W .IsNot (fIs true) := ⟨fun x y H Q => (y = .non ∧ Q (.bl (true != decide (x = .non))) H) ∨ ∃ a b : Bool, x = .bl a ∧ y = .bl b ∧ Q (.bl (true != decide (a = b))) H, by
    have := (op_notN (X := X)).or op_notBl
    intro pins s σ H x y v u Q I rx ry h
    exact this pins s σ H x y v u Q I rx ry (h.imp (fun ⟨p, q⟩ => ⟨p, by simpa using q⟩) fun ⟨a, b, p, r, q⟩ => ⟨a, b, p, r, by simpa using q⟩), ov_is⟩
theorem de_c {a b : Expr} {op : CmpOp} {pos : Pos} {h : F2} {f g : FE} (c : CmpD X G W op h) (ha : PE X a (TD G W f)) (hb : PE X b (TD G W g)) (hm : behindInMarks op b = false := by rfl) : PE X (.Compare a [op] [b] pos) (TD G W (x2 h f g)) := by
  obtain ⟨r, ho, o⟩ := c
  exact de_cmp ho o hm ha hb
/-! ### tests -/
/-- a value that is a bool -/
def tBl (f : FE) : FT := fun ρ S => (f ρ S).bind fun d S1 => match d with
  | .bl b => .ok b S1
  | _ => .stuck
theorem td_bl {f : FE} {σ : L2.St} {H : Hp} {Q : Bool → Hp → Prop} (q : TDT G W (tBl f) σ H Q) : tTest (TD G W f) σ H Q := by
  obtain ⟨μ, ρ, S, en, rp, p⟩ := tdg_bind (rel := Den G) (k := fun ρ d S1 => (match d with
    | D.bl b => R.ok b S1
    | _ => .stuck : R Bool)) q
  refine ⟨μ, ρ, S, en, rp, p.mono fun x H1 ⟨μ1, ρ1, d, S1, en1, rp1, dd, p1⟩ => ?_⟩
  split at p1
  · cases dd
    exact ⟨_, rfl, p1 _ _ _ .refl rp1 rfl⟩
  · exact p1.elim
theorem dt_c {a b : Expr} {op : CmpOp} {pos : Pos} {h : F2} {f g : FE} (c : CmpD X G W op h) (ha : PE X a (TD G W f)) (hb : PE X b (TD G W g)) (hm : behindInMarks op b = false := by rfl) : PT X (.Compare a [op] [b] pos) (TDT G W (tBl (x2 h f g))) := by
  obtain ⟨r, ho, o⟩ := c
  refine PT.imp (pt_cmpR ho ha hb hm) fun σ H Q q => ?_
  obtain ⟨μ, ρ, S, en, rp, p⟩ := td_bl q
  exact td_op o ⟨μ, ρ, S, en, rp, p⟩
/-! ### chains -/
def xChain (h h' : F2) (f g k : FE) : FE := fun ρ S => (f ρ S).bind fun d S1 => (g ρ S1).bind fun e S2 => (h d e S2).bind fun z S3 => match z with
  | .bl true => (k ρ S3).bind fun c S4 => h' e c S4
  | .bl false => .ok (.bl false) S3
  | _ => .stuck
theorem td_chain {r r' : R2} {h h' : F2} {f g k : FE} (o : OpV G W r h) (o' : OpV G W r' h') {σ : L2.St} {H : Hp} {Q : VK} (q : TD G W (xChain h h' f g k) σ H Q) : tChain r r' (TD G W f) (TD G W g) (TD G W k) σ H Q := by
  obtain ⟨μ, ρ, S, en, rp, p⟩ := q
  refine ⟨μ, ρ, S, en, rp, (post_bind p).mono fun x H1 ⟨μ1, d, S1, pe1, rp1, dd, p1⟩ => ?_⟩
  refine ⟨μ1, ρ, S1, en.per pe1, rp1, (post_bind p1).mono fun y H2 ⟨μ2, e, S2, pe2, rp2, de, p2⟩ => ?_⟩
  refine o _ _ _ _ _ _ _ _ _ rp2 (dd.per pe2) de ((post_bind p2).mono fun z H3 ⟨μ3, zd, S3, pe3, rp3, dz, p3⟩ => ?_)
  split at p3
  · cases dz
    refine ⟨true, rfl, ?_⟩
    rw [if_pos rfl]
    exact ⟨μ3, ρ, S3, ((en.per pe1).per pe2).per pe3, rp3, (post_bind p3).mono fun w H4 ⟨μ4, c, S4, pe4, rp4, dc, p4⟩ => o' _ _ _ _ _ _ _ _ _ rp4 ((de.per pe3).per pe4) dc p4⟩
  · cases dz
    refine ⟨false, rfl, ?_⟩
    rw [if_neg Bool.false_ne_true]
    exact post_ok rp3 p3 (.bl _)
  · exact p3.elim
theorem de_chain {a b c : Expr} {op op' : CmpOp} {pos : Pos} {h h' : F2} {f g k : FE} (c1 : CmpD X G W op h) (c2 : CmpD X G W op' h') (ha : PE X a (TD G W f)) (hb : PE X b (TD G W g)) (hc : PE X c (TD G W k))
    (hm : lastMarks [op, op'] [b, c] = false := by with_unfolding_all rfl) : PE X (.Compare a [op, op'] [b, c] pos) (TD G W (xChain h h' f g k)) := by
  obtain ⟨r, ho, o⟩ := c1
  obtain ⟨r', ho', o'⟩ := c2
  exact PE.imp (pe_chain ho ho' ha hb hc hm) fun σ H Q q => td_chain o o' q
theorem dt_chain {a b c : Expr} {op op' : CmpOp} {pos : Pos} {h h' : F2} {f g k : FE} (c1 : CmpD X G W op h) (c2 : CmpD X G W op' h') (ha : PE X a (TD G W f)) (hb : PE X b (TD G W g)) (hc : PE X c (TD G W k))
    (hm : lastMarks [op, op'] [b, c] = false := by with_unfolding_all rfl) : PT X (.Compare a [op, op'] [b, c] pos) (TDT G W (tBl (xChain h h' f g k))) := by
  obtain ⟨r, ho, o⟩ := c1
  obtain ⟨r', ho', o'⟩ := c2
  refine PT.imp (pt_chain ho ho' ha hb hc hm) fun σ H Q q => ?_
  obtain ⟨μ, ρ, S, en, rp, p⟩ := td_bl q
  exact td_chain o o' ⟨μ, ρ, S, en, rp, p⟩
/-! ### truth -/
def truD (S : Sg) : D → Option Bool
  | .non => some false
  | .bl b => some b
  | .int i => some (i != 0)
  | .str s => if s.length ≤ 16777216 then some ((s.length : Int) != 0) else none
  | .tup xs => some (!xs.isEmpty)
  | .ktup xs => some (!xs.isEmpty)
  | .clist xs => some (!xs.isEmpty)
  | .ref n => match S[n]? with
    | some (.lst xs) => some (!xs.isEmpty)
    | some (.dct kvs) => some (!kvs.isEmpty)
    | _ => none
  | _ => none
theorem DenA.isEmpty {μ : List Addr} {H : Hp} {xs : List D} {vs : List V} (h : DenA G μ H xs vs) : xs.isEmpty = vs.isEmpty := by cases h <;> rfl
theorem tru_den {μ : List Addr} {H : Hp} {S : Sg} {d : D} {v : V} {b : Bool} (rp : Rep G μ S H) (h : Den G μ H d v) (e : truD S d = some b) : TruV G.K v H b := by
  cases h with
  | non => simp [truD] at e; exact e
  | bl _ => simp [truD] at e; exact e.symm
  | int _ => simp [truD] at e; exact e.symm
  | str s =>
    simp only [truD] at e
    split at e
    · rename_i c
      refine ⟨by rw [ofS_len, sl_eq]; exact c, ?_⟩
      rw [ofS_len]
      exact (Option.some.inj e).symm
    · cases e
  | tup h1 h2 => simp only [truD] at e; exact .inr (.inl ⟨_, SqT.of h1, by rw [← h2.isEmpty]; exact (Option.some.inj e).symm⟩)
  | ktup h1 h2 => simp only [truD] at e; exact .inr (.inl ⟨_, h1 _, by rw [← h2.isEmpty]; exact (Option.some.inj e).symm⟩)
  | clist h1 h2 => simp only [truD] at e; exact .inl ⟨_, cl_sqL h1, by rw [← h2.isEmpty]; exact (Option.some.inj e).symm⟩
  | ref h =>
    simp only [truD] at e
    split at e
    · rename_i xs eo
      obtain ⟨vs, h1, h2⟩ := RepO.sqL (rp.obj h eo)
      exact .inl ⟨vs, h1, by rw [← h2.isEmpty]; exact (Option.some.inj e).symm⟩
    · rename_i kvs eo
      obtain ⟨gs, h1, h2⟩ := rp.obj h eo
      refine .inr (.inr ⟨gs, h1, ?_⟩)
      have l := congrArg List.isEmpty h2.1
      rw [List.isEmpty_map, List.isEmpty_map] at l
      rw [l]
      exact (Option.some.inj e).symm
    · cases e
  | cdict _ _ _ => simp [truD] at e
  | slist _ => simp [truD] at e
  | clo _ => simp [truD] at e
  | exv0 => simp [truD] at e
  | exv _ _ => simp [truD] at e
def tTru (f : FE) : FT := fun ρ S => (f ρ S).bind fun d S1 => match truD S1 d with
  | some b => .ok b S1
  | none => .stuck
theorem dt_truth {a : Expr} {f : FE} (A : Amb G X W) (ha : PE X a (TD G W f)) (he : ∀ whole, isTrue a X.env whole = (do let v ← whole; standAt a.pos; holding [v] (truthy v)) := by intro _; rfl) : PT X a (TDT G W (tTru f)) := by
  refine PT.imp (pt_truth ha he) fun σ H Q q => ?_
  obtain ⟨μ, ρ, S, en, rp, p⟩ := tdg_bind (rel := Den G) (k := fun ρ d S1 => (match truD S1 d with
    | some b => R.ok b S1
    | none => .stuck : R Bool)) q
  refine ⟨μ, ρ, S, en, rp, p.mono fun x H1 ⟨μ1, ρ1, d, S1, en1, rp1, dd, p1⟩ => ?_⟩
  split at p1
  · rename_i b e
    rw [A.hK]
    exact ⟨b, tru_den rp1 dd e, p1 _ _ _ .refl rp1 rfl⟩
  · exact p1.elim
/-! ### and, or, not, if else -/
def xAnd (f g : FE) : FE := fun ρ S => (f ρ S).bind fun d S1 => match truD S1 d with
  | some true => g ρ S1
  | some false => .ok d S1
  | none => .stuck
def xOr (f g : FE) : FE := fun ρ S => (f ρ S).bind fun d S1 => match truD S1 d with
  | some true => .ok d S1
  | some false => g ρ S1
  | none => .stuck
def xNot (f : FE) : FE := fun ρ S => (f ρ S).bind fun d S1 => match truD S1 d with
  | some b => .ok (.bl (!b)) S1
  | none => .stuck
theorem de_one {op : BoolOp} {a : Expr} {pos : Pos} {f : FE} (ha : PE X a (TD G W f)) : PE X (.BoolOp op [a] pos) (TD G W f) := pe_one ha
theorem de_and {a b : Expr} {rest : List Expr} {pos : Pos} {f g : FE} (A : Amb G X W) (ha : PE X a (TD G W f)) (hb : PE X (.BoolOp .And (b :: rest) pos) (TD G W g)) : PE X (.BoolOp .And (a :: b :: rest) pos) (TD G W (xAnd f g)) := by
  refine PE.imp (pe_andT ha hb) fun σ H Q q => ?_
  obtain ⟨μ, ρ, S, en, rp, p⟩ := q
  refine ⟨μ, ρ, S, en, rp, (post_bind p).mono fun x H1 ⟨μ1, d, S1, pe1, rp1, dd, p1⟩ => ?_⟩
  rw [A.hK]
  split at p1
  · rename_i e
    refine ⟨true, tru_den rp1 dd e, ?_⟩
    rw [if_pos rfl]
    exact ⟨μ1, ρ, S1, en.per pe1, rp1, p1⟩
  · rename_i e
    refine ⟨false, tru_den rp1 dd e, ?_⟩
    rw [if_neg Bool.false_ne_true]
    exact post_ok rp1 p1 dd
  · exact p1.elim
theorem de_or {a b : Expr} {rest : List Expr} {pos : Pos} {f g : FE} (A : Amb G X W) (ha : PE X a (TD G W f)) (hb : PE X (.BoolOp .Or (b :: rest) pos) (TD G W g)) : PE X (.BoolOp .Or (a :: b :: rest) pos) (TD G W (xOr f g)) := by
  refine PE.imp (pe_orT ha hb) fun σ H Q q => ?_
  obtain ⟨μ, ρ, S, en, rp, p⟩ := q
  refine ⟨μ, ρ, S, en, rp, (post_bind p).mono fun x H1 ⟨μ1, d, S1, pe1, rp1, dd, p1⟩ => ?_⟩
  rw [A.hK]
  split at p1
  · rename_i e
    refine ⟨true, tru_den rp1 dd e, ?_⟩
    rw [if_pos rfl]
    exact post_ok rp1 p1 dd
  · rename_i e
    refine ⟨false, tru_den rp1 dd e, ?_⟩
    rw [if_neg Bool.false_ne_true]
    exact ⟨μ1, ρ, S1, en.per pe1, rp1, p1⟩
  · exact p1.elim
theorem de_not {a : Expr} {pos : Pos} {f : FE} (A : Amb G X W) (ha : PE X a (TD G W f)) : PE X (.UnaryOp .Not a pos) (TD G W (xNot f)) := by
  refine PE.imp (pe_notT ha) fun σ H Q q => ?_
  obtain ⟨μ, ρ, S, en, rp, p⟩ := q
  refine ⟨μ, ρ, S, en, rp, (post_bind p).mono fun x H1 ⟨μ1, d, S1, pe1, rp1, dd, p1⟩ => ?_⟩
  rw [A.hK]
  split at p1
  · rename_i b e
    exact ⟨b, tru_den rp1 dd e, post_ok rp1 p1 (.bl _)⟩
  · exact p1.elim
def tAndF (f g : FT) : FT := fun ρ S => (f ρ S).bind fun b S1 => match b with
  | true => g ρ S1
  | false => .ok false S1
def tOrF (f g : FT) : FT := fun ρ S => (f ρ S).bind fun b S1 => match b with
  | true => .ok true S1
  | false => g ρ S1
def tNotF (f : FT) : FT := fun ρ S => (f ρ S).bind fun b S1 => .ok (!b) S1
def xIf (c : FT) (f g : FE) : FE := fun ρ S => (c ρ S).bind fun b S1 => match b with
  | true => f ρ S1
  | false => g ρ S1
theorem dw_and1 {a : Expr} {pos : Pos} {f : FT} (ha : PT X a (TDT G W f)) : PW X (.BoolOp .And [a] pos) (TDT G W f) := pw_and1 ha
theorem dw_or1 {a : Expr} {pos : Pos} {f : FT} (ha : PT X a (TDT G W f)) : PW X (.BoolOp .Or [a] pos) (TDT G W f) := pw_or1 ha
theorem dw_and {a b : Expr} {rest : List Expr} {pos : Pos} {f g : FT} (ha : PT X a (TDT G W f)) (hb : PW X (.BoolOp .And (b :: rest) pos) (TDT G W g)) : PW X (.BoolOp .And (a :: b :: rest) pos) (TDT G W (tAndF f g)) := by
  refine PW.imp (pw_and ha hb) fun σ H Q q => ?_
  obtain ⟨μ, ρ, S, en, rp, p⟩ := q
  refine ⟨μ, ρ, S, en, rp, (post_bind p).mono fun x H1 ⟨μ1, k, S1, pe1, rp1, dd, p1⟩ => ?_⟩
  have ek : k = x := dd
  subst ek
  cases k with
  | true => rw [if_pos rfl]; exact ⟨μ1, ρ, S1, en.per pe1, rp1, p1⟩
  | false => rw [if_neg Bool.false_ne_true]; exact p1 _ _ _ .refl rp1 rfl
theorem dw_or {a b : Expr} {rest : List Expr} {pos : Pos} {f g : FT} (ha : PT X a (TDT G W f)) (hb : PW X (.BoolOp .Or (b :: rest) pos) (TDT G W g)) : PW X (.BoolOp .Or (a :: b :: rest) pos) (TDT G W (tOrF f g)) := by
  refine PW.imp (pw_or ha hb) fun σ H Q q => ?_
  obtain ⟨μ, ρ, S, en, rp, p⟩ := q
  refine ⟨μ, ρ, S, en, rp, (post_bind p).mono fun x H1 ⟨μ1, k, S1, pe1, rp1, dd, p1⟩ => ?_⟩
  have ek : k = x := dd
  subst ek
  cases k with
  | true => rw [if_pos rfl]; exact p1 _ _ _ .refl rp1 rfl
  | false => rw [if_neg Bool.false_ne_true]; exact ⟨μ1, ρ, S1, en.per pe1, rp1, p1⟩
theorem dt_w {e : Expr} {f : FT} (h : PW X e (TDT G W f)) : PT X e (TDT G W f) := h.pt
theorem dt_not {a : Expr} {pos : Pos} {f : FT} (ha : PT X a (TDT G W f)) : PT X (.UnaryOp .Not a pos) (TDT G W (tNotF f)) := by
  refine PT.imp (pt_not ha) fun σ H Q q => ?_
  obtain ⟨μ, ρ, S, en, rp, p⟩ := q
  refine ⟨μ, ρ, S, en, rp, (post_bind p).mono fun x H1 ⟨μ1, k, S1, pe1, rp1, dd, p1⟩ => ?_⟩
  cases dd
  exact p1 _ _ _ .refl rp1 rfl
theorem de_if {c a b : Expr} {pos : Pos} {t : FT} {f g : FE} (hc : PT X c (TDT G W t)) (ha : PE X a (TD G W f)) (hb : PE X b (TD G W g)) : PE X (.IfExp c a b pos) (TD G W (xIf t f g)) := by
  refine PE.imp (pe_ifExp hc ha hb) fun σ H Q q => ?_
  obtain ⟨μ, ρ, S, en, rp, p⟩ := q
  refine ⟨μ, ρ, S, en, rp, (post_bind p).mono fun x H1 ⟨μ1, k, S1, pe1, rp1, dd, p1⟩ => ?_⟩
  have ek : k = x := dd
  subst ek
  cases k with
  | true => rw [if_pos rfl]; exact ⟨μ1, ρ, S1, en.per pe1, rp1, p1⟩
  | false => rw [if_neg Bool.false_ne_true]; exact ⟨μ1, ρ, S1, en.per pe1, rp1, p1⟩

/-! ### subscripts -/
theorem DenA.atI {μ : List Addr} {H : Hp} {xs : List D} {vs : List V} {i : Int} {d : D} (h : DenA G μ H xs vs) (e : atI xs i = some d) : ∃ v, L2.atI vs i = some v ∧ Den G μ H d v := by
  unfold L2.atI at e ⊢
  rw [← h.length]
  obtain ⟨j, h1, h2⟩ := Option.bind_eq_some_iff.mp e
  obtain ⟨v, h3, h4⟩ := h.get h2
  exact ⟨v, by rw [h1]; exact h3, h4⟩
def outD (S : Sg) : Option D → R D
  | some d => .ok d S
  | none => .stuck
def ixSeq (S : Sg) (xs : List D) : D → R D
  | .int i => outD S (atI xs i)
  | _ => .stuck
def fIx : F2 := fun d e S => match d with
  | .tup xs => ixSeq S xs e
  | .ktup xs => ixSeq S xs e
  | .clist xs => ixSeq S xs e
  | .slist ns => ixSeq S (ns.map .int) e
  | .cdict ks xs => match e with
    | .str s => if ks.length = xs.length then outD S (getCd ks xs s) else .stuck
    | _ => .stuck
  | .ref n => match S[n]? with
    | some (.lst xs) => ixSeq S xs e
    | some (.dct kvs) => outD S ((keyD e).bind (getK kvs))
    | some (.dtt kvs) => outD S ((keysD e).bind (getK kvs))
    | _ => .stuck
  | _ => .stuck
def rIxAll (K : PySem.W.Frag) (w : World) : R2 := fun x y H Q => rIx K x y H Q ∨ (∃ a v, x = .ref a ∧ DGet H a y (some v) ∧ Q v H) ∨ rIxD K w x y H Q
theorem ix_all (hu : X.A.units + 1 < cLine) : IxR X (rIxAll X.K X.w) := by
  intro value slice pins s σ H x y v u Q I rx ry h hs
  rcases h with h | ⟨a, r, rfl, g, q⟩ | h
  · exact ix_seq value slice pins s σ H x y v u Q I rx ry h hs
  · obtain rfl : v = Value.ref a := rx
    exact PyProof.Rows.tail_any (dict_typeIs I g) PySem.F.slot_dict_getitem.lookup (d_getItem hu I g ry fun w' s' I' rv => ⟨r, H, I', rv, q⟩) hs
  · exact ix_kdict value slice pins s σ H x y v u Q I rx ry h hs
theorem post_out {μ : List Addr} {H : Hp} {σ : L2.St} {S : Sg} {o : Option D} {Q : VK} (h : Post (Den G) G W μ H σ (outD S o) Q) : ∃ d, o = some d ∧ Post (Den G) G W μ H σ (.ok d S) Q := by
  cases o with
  | none => exact h.elim
  | some d => exact ⟨d, rfl, h⟩
theorem den_ints {μ : List Addr} {H : Hp} : ∀ l : List Int, DenA G μ H (l.map D.int) (l.map V.int)
  | [] => .nil
  | i :: l => .cons (.int i) (den_ints l)
theorem ov_ix : OpV G W (rIxAll G.K G.w) fIx := by
  intro μ S H x y d e σ Q rp hx hy po
  have sq : ∀ (xs : List D) (a : Addr) (vs : List V), (SqL G.K H a vs ∨ SqT G.K H a vs) → DenA G μ H xs vs → Post (Den G) G W μ H σ (ixSeq S xs e) Q → rIxAll G.K G.w (.ref a) y H Q := fun xs a vs h1 h2 po => by
    unfold ixSeq at po
    split at po
    · cases hy
      obtain ⟨r, e1, po⟩ := post_out po
      obtain ⟨v, e2, dv⟩ := h2.atI e1
      rcases h1 with h1 | h1
      · exact .inl (.inl ⟨_, _, _, _, rfl, rfl, h1, e2, post_ok rp po dv⟩)
      · exact .inl (.inr (.inl ⟨_, _, _, _, rfl, rfl, h1, e2, post_ok rp po dv⟩))
    · exact po.elim
  unfold fIx at po
  cases hx with
  | tup h1 h2 => exact sq _ _ _ (.inr (SqT.of h1)) h2 po
  | ktup h1 h2 => exact sq _ _ _ (.inr (h1 _)) h2 po
  | clist h1 h2 => exact sq _ _ _ (.inl (cl_sqL h1)) h2 po
  | slist h1 => exact sq _ _ _ (.inl (sl_sqL h1)) (den_ints _) po
  | @cdict a ks xs vs h0 h1 h2 =>
    dsimp only at po
    split at po
    · rename_i s
      cases hy
      obtain ⟨c, po⟩ := post_ite po
      obtain ⟨r, e1, po⟩ := post_out po
      rcases denA_zip s h2 c with ⟨e, _⟩ | ⟨d, v, e, m, dv⟩
      · rw [e] at e1; cases e1
      · rw [e] at e1; cases e1
        exact .inr (.inr ⟨_, _, v, rfl, rfl, h1 _ m, post_ok rp po dv⟩)
    · exact po.elim
  | @ref n a h =>
    dsimp only at po
    split at po
    · rename_i xs eo
      obtain ⟨vs, h1, h2⟩ := RepO.sqL (rp.obj h eo)
      exact sq _ _ _ (.inl h1) h2 po
    · rename_i kvs eo
      obtain ⟨r, e1, po⟩ := post_out po
      obtain ⟨k, ek, e2⟩ := Option.bind_eq_some_iff.mp e1
      obtain ⟨o, g, q⟩ := dget_den (d := e) (o := getK kvs k) rp h hy (by unfold dgetD; rw [eo]; simp [ek])
      rcases q with ⟨q1, _⟩ | ⟨x', y', q1, q2, q3⟩
      · rw [e2] at q1; cases q1
      · rw [e2] at q1; cases q1
        subst q2
        exact .inr (.inl ⟨a, y', rfl, g, post_ok rp po q3⟩)
    · rename_i kvs eo
      obtain ⟨r, e1, po⟩ := post_out po
      obtain ⟨k, ek, e2⟩ := Option.bind_eq_some_iff.mp e1
      obtain ⟨o, g, q⟩ := dget_den (d := e) (o := getK kvs k) rp h hy (by unfold dgetD; rw [eo]; simp [ek])
      rcases q with ⟨q1, _⟩ | ⟨x', y', q1, q2, q3⟩
      · rw [e2] at q1; cases q1
      · rw [e2] at q1; cases q1
        subst q2
        exact .inr (.inl ⟨a, y', rfl, g, post_ok rp po q3⟩)
    · exact po.elim
  | non => exact po.elim
  | bl _ => exact po.elim
  | int _ => exact po.elim
  | str _ => exact po.elim
  | clo _ => exact po.elim
  | exv0 => exact po.elim
  | exv _ _ => exact po.elim
theorem de_sub' {a b : Expr} {pos : Pos} {f g : FE} (A : Amb G X W) (ha : PE X a (TD G W f)) (hb : PE X b (TD G W g)) (hs : PlainIx b := by exact fun _ _ => rfl) : PE X (.Subscript a b pos) (TD G W (x2 fIx f g)) :=
  de_ix (r := rIxAll G.K G.w) (by have := ix_all (X := X) (by have := A.hu; omega); rw [A.hK, A.hw] at this; exact this) ov_ix ha hb hs

/-! ### slices -/
def cutD (xs : List D) (lo hi : Option Int) : List D := (xs.drop (HT.sIx xs.length 0 lo)).take (HT.sIx xs.length xs.length hi - HT.sIx xs.length 0 lo)
def oNone : FO := fun _ S => .ok none S
def oSome (f : FE) : FO := fun ρ S => (f ρ S).bind fun d S1 => match d with
  | .int i => .ok (some i) S1
  | _ => .stuck
theorem do_none : PO X none (TDO G W oNone) := PO.imp po_none fun σ H Q ⟨μ, ρ, S, en, rp, p⟩ => p _ _ _ .refl rp rfl
theorem do_some {e : Expr} {f : FE} (h : PE X e (TD G W f)) : PO X (some e) (TDO G W (oSome f)) := by
  refine PO.imp (po_some h) fun σ H Q q => ?_
  obtain ⟨μ, ρ, S, en, rp, p⟩ := q
  refine ⟨μ, ρ, S, en, rp, (post_bind p).mono fun x H1 ⟨μ1, d, S1, pe1, rp1, dd, p1⟩ => ?_⟩
  split at p1
  · cases dd
    exact ⟨_, rfl, p1 _ _ _ .refl rp1 rfl⟩
  · exact p1.elim
def fSl (d : D) (lo hi : Option Int) (S : Sg) : R D := match d with
  | .tup xs => if HT.sIx xs.length 0 lo = 0 ∧ HT.sIx xs.length xs.length hi = xs.length then .ok d S else .ok (.tup (cutD xs lo hi)) S
  | .ktup xs => if HT.sIx xs.length 0 lo = 0 ∧ HT.sIx xs.length xs.length hi = xs.length then .ok d S else .ok (.tup (cutD xs lo hi)) S
  | .clist xs => newO (.lst (cutD xs lo hi)) S
  | .ref n => match S[n]? with
    | some (.lst xs) => newO (.lst (cutD xs lo hi)) S
    | _ => .stuck
  | _ => .stuck
def xSl (f : FE) (l h : FO) : FE := fun ρ S => (f ρ S).bind fun d S1 => (l ρ S1).bind fun lo S2 => (h ρ S2).bind fun hi S3 => fSl d lo hi S3
theorem DenA.cut {μ : List Addr} {H : Hp} {xs : List D} {vs : List V} (h : DenA G μ H xs vs) (lo hi : Option Int) : DenA G μ H (cutD xs lo hi) (cutV vs lo hi) := by
  unfold cutD cutV
  rw [h.length]
  exact (h.drop _).take _
theorem ov_sl (g : G.Ok) {μ : List Addr} {S : Sg} {H : Hp} {x : V} {d : D} {lo hi : Option Int} {σ : L2.St} {Q : VK} (rp : Rep G μ S H) (hx : Den G μ H d x) (po : Post (Den G) G W μ H σ (fSl d lo hi S) Q) : rSlL G.K x lo hi H Q ∨ rSlA G.K x lo hi H Q := by
  have tp : ∀ (xs : List D) (a : Addr) (vs : List V), x = .ref a → SqT G.K H a vs → DenA G μ H xs vs → Post (Den G) G W μ H σ (if HT.sIx xs.length 0 lo = 0 ∧ HT.sIx xs.length xs.length hi = xs.length then .ok d S else .ok (.tup (cutD xs lo hi)) S) Q → rSlA G.K x lo hi H Q := fun xs a vs e h1 h2 po => by
    subst e
    refine ⟨a, vs, rfl, h1, fun c => ?_, fun c p hp => ?_⟩
    · rw [← h2.length] at c
      rw [if_pos c] at po
      exact post_ok rp po hx
    · rw [← h2.length] at c
      rw [if_neg c] at po
      exact post_tup g rp (h2.cut lo hi) po hp
  have ls : ∀ (xs : List D) (a : Addr) (vs : List V), x = .ref a → SqL G.K H a vs → DenA G μ H xs vs → Post (Den G) G W μ H σ (newO (.lst (cutD xs lo hi)) S) Q → rSlL G.K x lo hi H Q := fun xs a vs e h1 h2 po =>
    ⟨a, vs, e, h1, fun p hp => post_lst g rp (h2.cut lo hi) po hp⟩
  unfold fSl at po
  cases hx with
  | tup h1 h2 => exact .inr (tp _ _ _ rfl (SqT.of h1) h2 po)
  | ktup h1 h2 => exact .inr (tp _ _ _ rfl (h1 _) h2 po)
  | clist h1 h2 => exact .inl (ls _ _ _ rfl (cl_sqL h1) h2 po)
  | ref h =>
    dsimp only at po
    split at po
    · rename_i xs eo
      obtain ⟨vs, h1, h2⟩ := RepO.sqL (rp.obj h eo)
      exact .inl (ls _ _ _ rfl h1 h2 po)
    · exact po.elim
  | non => exact po.elim
  | bl _ => exact po.elim
  | int _ => exact po.elim
  | str _ => exact po.elim
  | clo _ => exact po.elim
  | exv0 => exact po.elim
  | exv _ _ => exact po.elim
  | slist _ => exact po.elim
  | cdict _ _ _ => exact po.elim
theorem de_slice {e : Expr} {lo hi : Option Expr} {p2 pos : Pos} {f : FE} {l h : FO} (A : Amb G X W) (he : PE X e (TD G W f)) (hl : PO X lo (TDO G W l)) (hh : PO X hi (TDO G W h)) : PE X (.Subscript e (.Slice lo hi none p2) pos) (TD G W (xSl f l h)) := by
  have hr : SlR X (fun x lo hi H Q => rSlL G.K x lo hi H Q ∨ rSlA G.K x lo hi H Q) := by
    have := (sl_list (X := X)).or sl_tupA
    rw [A.hK] at this
    exact this
  refine PE.imp (pe_slice hr he hl hh) fun σ H Q q => ?_
  obtain ⟨μ, ρ, S, en, rp, p⟩ := q
  refine ⟨μ, ρ, S, en, rp, (post_bind p).mono fun x H1 ⟨μ1, d, S1, pe1, rp1, dd, p1⟩ => ?_⟩
  refine ⟨μ1, ρ, S1, en.per pe1, rp1, (post_bind p1).mono fun lo' H2 ⟨μ2, lo, S2, pe2, rp2, el, p2⟩ => ?_⟩
  refine ⟨μ2, ρ, S2, (en.per pe1).per pe2, rp2, (post_bind p2).mono fun hi' H3 ⟨μ3, hi, S3, pe3, rp3, eh, p3⟩ => ?_⟩
  cases el
  cases eh
  exact ov_sl A.ok rp3 ((dd.per pe2).per pe3) p3
end Dx

/-! Dx5: statements, targets, defs and calls. -/
namespace Dx
open PySem PySem.Spec L2
variable {G : Gx} {X : Cx} {W : WX}

inductive Fl where
  | nx (ρ : Ev) (S : Sg)
  | rt (d : D) (S : Sg)
  | bk (ρ : Ev) (S : Sg)
  | ct (ρ : Ev) (S : Sg)
  | exc (c : Nat) (fs : List (String × D)) (ρ : Ev) (S : Sg)
  | stuck
abbrev FS := Ev → Sg → Fl
def R.go {α : Type} (r : R α) (ρ : Ev) (k : α → Sg → Fl) : Fl := match r with
  | .ok a s => k a s
  | .exc c fs s => .exc c fs ρ s
  | .stuck => .stuck
def PostS (G : Gx) (W : WX) (μ : List Addr) (H : Hp) (Z : Ends) (f : Fl) : Prop := match f with
  | .nx ρ S => ∀ μ' H' σ', Per G μ H μ' H' → Rep G μ' S H' → EnvD G μ' H' ρ σ' → Z.nx σ' H'
  | .rt d S => ∀ μ' H' v, Per G μ H μ' H' → Rep G μ' S H' → Den G μ' H' d v → Z.rt v H'
  | .bk ρ S => ∀ μ' H' σ', Per G μ H μ' H' → Rep G μ' S H' → EnvD G μ' H' ρ σ' → Z.bk σ' H'
  | .ct ρ S => ∀ μ' H' σ', Per G μ H μ' H' → Rep G μ' S H' → EnvD G μ' H' ρ σ' → Z.ct σ' H'
  | .exc c fs ρ S => ∀ μ' H' σ' cls dd, Per G μ H μ' H' → Rep G μ' S H' → EnvD G μ' H' ρ σ' → ExcD G μ' H' c fs cls dd → W cls dd σ' H'
  | .stuck => False
def TDS (G : Gx) (W : WX) (g : FS) : TS := fun Z σ H => ∃ μ ρ S, EnvD G μ H ρ σ ∧ Rep G μ S H ∧ PostS G W μ H Z (g ρ S)
section
variable {μ μ1 : List Addr} {H H1 : Hp} {σ : L2.St} {ρ : Ev} {S : Sg} {Z Z' : Ends} {α β : Type} {rel : Rel α β}
theorem PostS.per {f : Fl} (h : PostS G W μ H Z f) (p : Per G μ H μ1 H1) : PostS G W μ1 H1 Z f := by
  cases f with
  | nx ρ S => exact fun μ' H' σ' q => h μ' H' σ' (p.trans q)
  | rt d S => exact fun μ' H' v q => h μ' H' v (p.trans q)
  | bk ρ S => exact fun μ' H' σ' q => h μ' H' σ' (p.trans q)
  | ct ρ S => exact fun μ' H' σ' q => h μ' H' σ' (p.trans q)
  | exc c fs ρ S => exact fun μ' H' σ' cls dd q => h μ' H' σ' cls dd (p.trans q)
  | stuck => exact h
theorem PostS.now {ρ' : Ev} {σ' : L2.St} (h : PostS G W μ H Z (.nx ρ' S)) (r : Rep G μ S H) (e : EnvD G μ H ρ' σ') : Z.nx σ' H := h _ _ _ .refl r e
theorem posts_go {r : R α} {k : α → Sg → Fl} (en : EnvD G μ H ρ σ) (h : PostS G W μ H Z (r.go ρ k)) :
    Post rel G W μ H σ r fun b H1 => ∃ μ1 a S1, Per G μ H μ1 H1 ∧ Rep G μ1 S1 H1 ∧ rel μ1 H1 a b ∧ PostS G W μ1 H1 Z (k a S1) := by
  cases r with
  | ok a S' => exact fun μ' H' b p q d => ⟨μ', a, S', p, q, d, PostS.per (f := k a S') h p⟩
  | exc c fs S' => exact fun μ' H' cls dd p q e => h μ' H' σ cls dd p q (en.per p) e
  | stuck => exact h
end

/-! ### blocks -/
def sNil : FS := fun ρ S => .nx ρ S
def sSeq (g h : FS) : FS := fun ρ S => match g ρ S with
  | .nx ρ1 S1 => h ρ1 S1
  | o => o
theorem ds_nil : PSs X [] (TDS G W sNil) := PSs.imp pss_nil fun Z σ H ⟨μ, ρ, S, en, rp, p⟩ => PostS.now p rp en
theorem posts_seq {μ : List Addr} {H : Hp} {Z : Ends} {f : Fl} {h : FS} (p : PostS G W μ H Z (match f with
    | .nx ρ1 S1 => h ρ1 S1
    | o => o)) : PostS G W μ H { Z with nx := TDS G W h Z } f := by
  cases f with
  | nx ρ1 S1 => exact fun μ' H' σ' q r e => ⟨μ', ρ1, S1, e, r, PostS.per (f := h ρ1 S1) p q⟩
  | rt d S => exact p
  | bk ρ S => exact p
  | ct ρ S => exact p
  | exc c fs ρ S => exact p
  | stuck => exact p
theorem ds_cons {st : Stmt} {rest : List Stmt} {g h : FS} (h1 : PS X st (TDS G W g)) (h2 : PSs X rest (TDS G W h)) : PSs X (st :: rest) (TDS G W (sSeq g h)) :=
  PSs.imp (pss_cons h1 h2) fun Z σ H ⟨μ, ρ, S, en, rp, p⟩ => ⟨μ, ρ, S, en, rp, posts_seq p⟩
theorem ds_one {st : Stmt} {g : FS} (h1 : PS X st (TDS G W g)) : PSs X [st] (TDS G W g) := pss_one h1

/-! ### small statements -/
def sExpr (f : FE) : FS := fun ρ S => (f ρ S).go ρ fun _ S1 => .nx ρ S1
def sRet (f : FE) : FS := fun ρ S => (f ρ S).go ρ fun d S1 => .rt d S1
def sRetN : FS := fun ρ S => .rt .non S
def sBrk : FS := fun ρ S => .bk ρ S
def sCnt : FS := fun ρ S => .ct ρ S
def sIf (c : FT) (g h : FS) : FS := fun ρ S => (c ρ S).go ρ fun b S1 => match b with
  | true => g ρ S1
  | false => h ρ S1
def sSet (i : Nat) (f : FE) : FS := fun ρ S => (f ρ S).go ρ fun d S1 => .nx (ρ.set i (some d)) S1
def sStuck : FS := fun _ _ => .stuck
theorem ds_expr {e : Expr} {pos : Pos} {f : FE} (he : PE X e (TD G W f)) (hs : swapsWith e none pos.line X.env = pure false := by rfl) : PS X (.Expr e pos) (TDS G W (sExpr f)) :=
  PS.imp (ps_expr he hs) fun Z σ H ⟨μ, ρ, S, en, rp, p⟩ => ⟨μ, ρ, S, en, rp, (posts_go en p).mono fun v H1 ⟨μ1, d, S1, pe, rp1, dd, p1⟩ => PostS.now p1 rp1 (en.per pe)⟩
theorem ds_ret {e : Expr} {pos : Pos} {f : FE} (he : PE X e (TD G W f)) : PS X (.Return (some e) pos) (TDS G W (sRet f)) :=
  PS.imp (ps_ret he) fun Z σ H ⟨μ, ρ, S, en, rp, p⟩ => ⟨μ, ρ, S, en, rp, (posts_go en p).mono fun v H1 ⟨μ1, d, S1, pe, rp1, dd, p1⟩ => p1 _ _ _ .refl rp1 dd⟩
theorem ds_retN {pos : Pos} : PS X (.Return none pos) (TDS G W sRetN) := PS.imp ps_retN fun Z σ H ⟨μ, ρ, S, en, rp, p⟩ => p _ _ _ .refl rp .non
theorem ds_pass {pos : Pos} : PS X (.Pass pos) (TDS G W sNil) := PS.imp ps_pass fun Z σ H ⟨μ, ρ, S, en, rp, p⟩ => PostS.now p rp en
theorem ds_brk {pos : Pos} : PS X (.Break pos) (TDS G W sBrk) := PS.imp ps_break fun Z σ H ⟨μ, ρ, S, en, rp, p⟩ => p _ _ _ .refl rp en
theorem ds_cnt {pos : Pos} : PS X (.Continue pos) (TDS G W sCnt) := PS.imp ps_continue fun Z σ H ⟨μ, ρ, S, en, rp, p⟩ => p _ _ _ .refl rp en
theorem ds_stuck {st : Stmt} : PS X st (TDS G W sStuck) := PS.imp ps_never fun Z σ H ⟨μ, ρ, S, en, rp, p⟩ => p.elim
theorem ds_if {c : Expr} {a b : List Stmt} {pos : Pos} {t : FT} {g h : FS} (hc : PT X c (TDT G W t)) (ha : PSs X a (TDS G W g)) (hb : PSs X b (TDS G W h)) : PS X (.If c a b pos) (TDS G W (sIf t g h)) :=
  PS.imp (ps_if hc ha hb) fun Z σ H ⟨μ, ρ, S, en, rp, p⟩ => ⟨μ, ρ, S, en, rp, (posts_go en p).mono fun x H1 ⟨μ1, k, S1, pe, rp1, dd, p1⟩ => by
    have ek : k = x := dd
    subst ek
    cases k with
    | true => rw [if_pos rfl]; exact ⟨μ1, ρ, S1, en.per pe, rp1, p1⟩
    | false => rw [if_neg Bool.false_ne_true]; exact ⟨μ1, ρ, S1, en.per pe, rp1, p1⟩⟩
theorem ds_set {i : Nat} {x : Str} {e : Expr} {pos' pos : Pos} {f : FE} (he : PE X e (TD G W f)) (hN : X.N.Nodup) (hi : X.N[i]? = some x := by rfl) (hx : Loc X.env.scope x := by first | exact Or.inl rfl | exact Or.inr rfl) (hs : swapsWith e (some (.Name x pos')) pos.line X.env = pure false := by rfl)
    (hf : X.fn x = true ∨ X.env.scope.names.lookup x = some .local := by first | exact .inl rfl | exact .inr rfl) : PS X (.Assign [.Name x pos'] e pos) (TDS G W (sSet i f)) :=
  PS.imp (ps_set hN hi hx he hs hf) fun Z σ H ⟨μ, ρ, S, en, rp, p⟩ => ⟨μ, ρ, S, en, rp, (posts_go en p).mono fun v H1 ⟨μ1, d, S1, pe, rp1, dd, p1⟩ => PostS.now p1 rp1 ((en.per pe).set dd)⟩

/-! ### targets -/
abbrev FG := D → Ev → Option Ev
abbrev FGs := List D → Ev → Option Ev
def GT (G : Gx) (vs : List Nat) (fg : FG) (t : TG) : Prop :=
  ∀ μ H ρ σ S d v ρ' Q, EnvD G μ H ρ σ → Rep G μ S H → Den G μ H d v → fg d ρ = some ρ' → (∀ σ', EnvD G μ H ρ' σ' → wipe σ' vs = wipe σ vs → Q σ' H) → t v σ H Q
def GTs (G : Gx) (vs : List Nat) (fg : FGs) (t : TGs) : Prop :=
  ∀ μ H ρ σ S ds us ρ' Q, EnvD G μ H ρ σ → Rep G μ S H → DenA G μ H ds us → fg ds ρ = some ρ' → (∀ σ', EnvD G μ H ρ' σ' → wipe σ' vs = wipe σ vs → Q σ' H) → t us σ H Q
def DG (X : Cx) (G : Gx) (vs : List Nat) (e : Expr) (fg : FG) : Prop := ∃ t, PG X e t ∧ GT G vs fg t
def DGs (X : Cx) (G : Gx) (vs : List Nat) (es : List Expr) (fg : FGs) : Prop := ∃ t, PGs X es t ∧ GTs G vs fg t
def gNm (i : Nat) : FG := fun d ρ => some (ρ.set i (some d))
def gTp (n : Nat) (fg : FGs) : FG := fun d ρ => match tupOf d with
  | some xs => if xs.length = n then fg xs ρ else none
  | none => none
def gsN : FGs := fun ds ρ => match ds with
  | [] => some ρ
  | _ => none
def gsC (g : FG) (gs : FGs) : FGs := fun ds ρ => match ds with
  | d :: r => (g d ρ).bind (gs r)
  | [] => none
theorem wipe_set {σ : L2.St} {v : Option V} : ∀ {vs : List Nat} {i : Nat}, i ∈ vs → wipe (σ.set i v) vs = wipe σ vs
  | [], _, h => nomatch h
  | j :: vs, i, h => by
    unfold wipe
    by_cases hm : i ∈ vs
    · rw [wipe_set hm]
    · have e : i = j := by simpa [hm] using h
      subst e
      have go : ∀ (us : List Nat), i ∉ us → wipe (σ.set i v) us = (wipe σ us).set i v := by
        intro us
        induction us with
        | nil => intro _; rfl
        | cons u us ih =>
          intro hu
          unfold wipe
          rw [ih (fun z => hu (by simp [z])), List.set_comm _ _ (fun z => hu (by simp [z]))]
      rw [go vs hm, List.set_set]
theorem dg_name {vs : List Nat} (i : Nat) {x : Str} {pos : Pos} (hN : X.N.Nodup) (hv : i ∈ vs := by decide) (hi : X.N[i]? = some x := by rfl) (hx : Loc X.env.scope x := by first | exact Or.inl rfl | exact Or.inr rfl)
    (hf : X.fn x = true ∨ X.env.scope.names.lookup x = some .local := by first | exact .inl rfl | exact .inr rfl) : DG X G vs (.Name x pos) (gNm i) :=
  ⟨_, pg_name hN hi hx hf, fun μ H ρ σ S d v ρ' Q en rp dd e k => by cases e; exact k _ (en.set dd) (wipe_set hv)⟩
theorem dgs_nil {vs : List Nat} : DGs X G vs [] gsN := ⟨_, pgs_nil, fun μ H ρ σ S ds us ρ' Q en rp dd e k => by
  cases dd with
  | nil => cases e; exact ⟨rfl, k _ en rfl⟩
  | cons _ _ => cases e⟩
theorem dgs_cons {vs : List Nat} {e : Expr} {es : List Expr} {g : FG} {gs : FGs} (h1 : DG X G vs e g) (h2 : DGs X G vs es gs) (hs : (assignEach (e :: es) X.env).map (·.2) = assign e X.env :: (assignEach es X.env).map (·.2) := by rfl) : DGs X G vs (e :: es) (gsC g gs) := by
  obtain ⟨t, p, q⟩ := h1
  obtain ⟨u, p', q'⟩ := h2
  refine ⟨_, pgs_cons p p' hs, fun μ H ρ σ S ds us ρ' Q en rp dd e k => ?_⟩
  cases dd with
  | nil => cases e
  | cons a b =>
    obtain ⟨ρ1, e1, e2⟩ := Option.bind_eq_some_iff.mp e
    exact ⟨_, _, rfl, q μ H ρ σ S _ _ ρ1 _ en rp a e1 fun σ' en' w => q' μ H ρ1 σ' S _ _ ρ' _ en' rp b e2 fun σ2 en2 w2 => k σ2 en2 (w2.trans w)⟩
theorem dg_tup {vs : List Nat} {es : List Expr} {k n : Nat} {pos : Pos} {fg : FGs} (hc : X.calm = true) (A : Amb G X W) (h : DGs X G vs es fg) (hn : (assignEach es X.env).length = n := by rfl) (hst : (assignEach es X.env).findIdx? (·.1) = none := by rfl) : DG X G vs (.Tuple es k pos) (gTp n fg) := by
  obtain ⟨t, p, q⟩ := h
  refine ⟨gTup G.K n t, by have := pg_tup (k := k) (pos := pos) hc p hn hst; rw [A.hK] at this; exact this, fun μ H ρ σ S d v ρ' Q en rp dd e k => ?_⟩
  unfold gTp at e
  split at e
  · rename_i xs e1
    split at e
    · rename_i hl
      obtain ⟨a, us, e2, h1, h2⟩ := tup_den dd e1
      exact ⟨a, us, e2, h1, by rw [← h2.length]; exact hl, q μ H ρ σ S xs us ρ' Q en rp h2 e k⟩
    · cases e
  · cases e
def sAsg (fg : FG) (f : FE) : FS := fun ρ S => (f ρ S).go ρ fun d S1 => match fg d ρ with
  | some ρ' => .nx ρ' S1
  | none => .stuck
theorem ds_asg {vs : List Nat} {tg e : Expr} {pos : Pos} {fg : FG} {f : FE} (hg : DG X G vs tg fg) (he : PE X e (TD G W f)) (hs : swapsWithSole [tg] e pos.line X.env = pure false := by rfl) (hw : swappedStores [tg] e X.env = pure none := by rfl)
    (h1 : (assignEach [tg] X.env).map (·.2) = [assign tg X.env] := by rfl) : PS X (.Assign [tg] e pos) (TDS G W (sAsg fg f)) := by
  obtain ⟨t, p, q⟩ := hg
  refine PS.imp (ps_asg he p hs hw h1) fun Z σ H ⟨μ, ρ, S, en, rp, po⟩ => ⟨μ, ρ, S, en, rp, (posts_go en po).mono fun v H1 ⟨μ1, d, S1, pe, rp1, dd, p1⟩ => ?_⟩
  split at p1
  · rename_i ρ' e
    exact q μ1 H1 ρ σ S1 d v ρ' _ (en.per pe) rp1 dd e fun σ' en' _ => PostS.now p1 rp1 en'
  · exact p1.elim
/-- a, b = x, y; a, b, c = x, y, z -/
def sPar2 (i j : Nat) (g : FA) : FS := fun ρ S => (g ρ S).go ρ fun ds S1 => match ds with
  | [a, b] => .nx ((ρ.set i (some a)).set j (some b)) S1
  | _ => .stuck
theorem ds_par2 {i j : Nat} {x y : Str} {a b : Expr} {px py pt pos : Pos} {kt k2 pt2} {g : FA} (hc : X.calm = true) (hN : X.N.Nodup) (ha : PA X [a, b] (TDA G W g)) (hi : X.N[i]? = some x := by rfl) (hj : X.N[j]? = some y := by rfl) (hij : i ≠ j := by decide)
    (hx : X.env.scope.names.lookup x = some .local := by rfl) (hy : X.env.scope.names.lookup y = some .local := by rfl)
    (hw : swappedStores [.Tuple [.Name x px, .Name y py] kt pt] (.Tuple [a, b] k2 pt2) X.env = pure (some [x, y]) := by rfl)
    (hs : swapsWithSole [.Tuple [.Name x px, .Name y py] kt pt] (.Tuple [a, b] k2 pt2) pos.line X.env = pure false := by rfl) :
    PS X (.Assign [.Tuple [.Name x px, .Name y py] kt pt] (.Tuple [a, b] k2 pt2) pos) (TDS G W (sPar2 i j g)) := by
  refine PS.imp (ps_par hc hN hi hj hij hx hy ha hw hs) fun Z σ H ⟨μ, ρ, S, en, rp, po⟩ => ⟨μ, ρ, S, en, rp, (posts_go en po).mono fun v H1 ⟨μ1, ds, S1, pe, rp1, dd, p1⟩ => ?_⟩
  split at p1
  · cases dd with
    | cons d1 t1 =>
      cases t1 with
      | cons d2 t2 =>
        cases t2
        exact ⟨_, _, rfl, PostS.now p1 rp1 (((en.per pe).set d1).set d2)⟩
  · exact p1.elim
def sPar3 (i j l : Nat) (g : FA) : FS := fun ρ S => (g ρ S).go ρ fun ds S1 => match ds with
  | [a, b, c] => .nx (((ρ.set i (some a)).set j (some b)).set l (some c)) S1
  | _ => .stuck
theorem ds_par3 {i j l : Nat} {x y z : Str} {a b c : Expr} {px py pz pt pos : Pos} {kt k2 pt2} {g : FA} (hc : X.calm = true) (hN : X.N.Nodup) (ha : PA X [a, b, c] (TDA G W g)) (hi : X.N[i]? = some x := by rfl) (hj : X.N[j]? = some y := by rfl) (hl : X.N[l]? = some z := by rfl)
    (hij : i ≠ j := by decide) (hil : i ≠ l := by decide) (hjl : j ≠ l := by decide)
    (hx : X.env.scope.names.lookup x = some .local := by rfl) (hy : X.env.scope.names.lookup y = some .local := by rfl) (hz : X.env.scope.names.lookup z = some .local := by rfl)
    (hw : swappedStores [.Tuple [.Name x px, .Name y py, .Name z pz] kt pt] (.Tuple [a, b, c] k2 pt2) X.env = pure (some [x, y, z]) := by rfl)
    (hs : swapsWithSole [.Tuple [.Name x px, .Name y py, .Name z pz] kt pt] (.Tuple [a, b, c] k2 pt2) pos.line X.env = pure false := by rfl) :
    PS X (.Assign [.Tuple [.Name x px, .Name y py, .Name z pz] kt pt] (.Tuple [a, b, c] k2 pt2) pos) (TDS G W (sPar3 i j l g)) := by
  refine PS.imp (ps_par3 hc hN hi hj hl hij hil hjl hx hy hz ha hw hs) fun Z σ H ⟨μ, ρ, S, en, rp, po⟩ => ⟨μ, ρ, S, en, rp, (posts_go en po).mono fun v H1 ⟨μ1, ds, S1, pe, rp1, dd, p1⟩ => ?_⟩
  split at p1
  · cases dd with
    | cons d1 t1 =>
      cases t1 with
      | cons d2 t2 =>
        cases t2 with
        | cons d3 t3 =>
          cases t3
          exact ⟨_, _, _, rfl, PostS.now p1 rp1 ((((en.per pe).set d1).set d2).set d3)⟩
  · exact p1.elim

/-! ### stores to items -/
def putD {κ : Type} [DecidableEq κ] (kvs : List (κ × D)) (k : κ) (v : D) : List (κ × D) :=
  if (kvs.any fun kv => decide (kv.1 = k)) = true then kvs.map (fun kv => if kv.1 = k then (kv.1, v) else kv) else kvs ++ [(k, v)]
theorem denK_put {κ : Type} [DecidableEq κ] {μ : List Addr} {H : Hp} {fs : List (κ × D)} {gs : List (κ × V)} {k : κ} {d : D} {v : V} (h : DenK G μ H fs gs) (hd : Den G μ H d v) : DenK G μ H (putD fs k d) (putK gs k v) := by
  obtain ⟨h1, h2⟩ := h
  have ea : (gs.any fun kv => decide (kv.1 = k)) = (fs.any fun kv => decide (kv.1 = k)) := by
    have : ∀ {β : Type} (l : List (κ × β)), (l.any fun kv => decide (kv.1 = k)) = (l.map (·.1)).any fun x => decide (x = k) := fun l => by rw [List.any_map]; rfl
    rw [this, this, h1]
  unfold putD putK
  rw [ea]
  split
  · have go : ∀ (fs : List (κ × D)) (gs : List (κ × V)), gs.map (·.1) = fs.map (·.1) → DenA G μ H (fs.map (·.2)) (gs.map (·.2)) → DenK G μ H (fs.map (fun kv => if kv.1 = k then (kv.1, d) else kv)) (gs.map (fun kv => if kv.1 = k then (kv.1, v) else kv)) := by
      intro fs
      induction fs with
      | nil => intro gs a b; cases gs with
        | nil => exact ⟨rfl, .nil⟩
        | cons _ _ => simp at a
      | cons f fs ih => intro gs a b; cases gs with
        | nil => simp at a
        | cons g gs =>
          simp only [List.map_cons, List.cons.injEq] at a
          cases b with
          | cons b1 b2 =>
            obtain ⟨c1, c2⟩ := ih gs a.2 b2
            by_cases e : f.1 = k
            · have e' : g.1 = k := a.1.trans e
              simp only [List.map_cons, e, e', if_true]
              exact ⟨by simp only [List.map_cons, c1], .cons hd c2⟩
            · have e' : ¬ g.1 = k := fun z => e (a.1.symm.trans z)
              simp only [List.map_cons, e, e', if_false]
              exact ⟨by simp only [List.map_cons, c1, a.1], .cons b1 c2⟩
    exact go fs gs h1 h2
  · refine ⟨by simp [h1], ?_⟩
    rw [List.map_append, List.map_append]
    exact h2.append (.cons hd .nil)
def storeD (o i d : D) (S : Sg) : Option Sg := match o with
  | .ref n => match S[n]? with
    | some (.lst xs) => match i with
      | .int k => (ixN xs.length k).map fun j => S.set n (.lst (xs.set j d))
      | _ => none
    | some (.dct kvs) => match keyD i with
      | some k => if kvs.length < 16777216 then some (S.set n (.dct (putD kvs k d))) else none
      | none => none
    | some (.dtt kvs) => match keysD i with
      | some k => if kvs.length < 16777216 then some (S.set n (.dtt (putD kvs k d))) else none
      | none => none
    | _ => none
  | _ => none
def rStore : TSet := fun o i v H Q => rSetL o i v H Q ∨ ∃ a H4, o = .ref a ∧ DPut H a i v H4 ∧ Q H4
theorem set_all (hu : X.A.units + 1 < cLine) : PSet X rStore := by
  intro pins s σ H o i v ov iv u Q I r1 r2 r3 h
  rcases h with h | ⟨a, H4, rfl, g, q⟩
  · exact set_list pins s σ H o i v ov iv u Q I r1 r2 r3 h
  · obtain rfl : ov = Value.ref a := r1
    exact d_setItem hu I g r2 r3 fun s' I' => ⟨H4, I', q⟩
theorem DenK.length {κ : Type} {μ : List Addr} {H : Hp} {fs : List (κ × D)} {gs : List (κ × V)} (h : DenK G μ H fs gs) : fs.length = gs.length := by
  have := congrArg List.length h.1
  simpa using this.symm
theorem store_den (g : G.Ok) {μ : List Addr} {S S' : Sg} {H : Hp} {o i d : D} {ov iv v : V} {Q : Hp → Prop} (rp : Rep G μ S H) (ho : Den G μ H o ov) (hi : Den G μ H i iv) (hd : Den G μ H d v) (e : storeD o i d S = some S') (q : ∀ H', Per G μ H μ H' → Rep G μ S' H' → Q H') : rStore ov iv v H Q := by
  unfold storeD at e
  cases ho with
  | @ref n a hn =>
    dsimp only at e
    split at e
    · rename_i xs eo
      split at e
      · cases hi
        obtain ⟨j, e1, e2⟩ := Option.map_eq_some_iff.mp e
        subst e2
        obtain ⟨vs, h1, h2⟩ := rp.obj hn eo
        obtain ⟨r, p⟩ := rp.write g (u := .lst (vs.set j v)) (o' := .lst (xs.set j d)) hn eo fun H' p h => ⟨_, h, (h2.set hd j).per p⟩
        exact .inl ⟨a, vs, _, j, rfl, rfl, h1, by rw [← h2.length]; exact e1, q _ p r⟩
      · cases e
    · rename_i kvs eo
      split at e
      · rename_i k ek
        split at e
        · rename_i hl
          cases e
          obtain ⟨gs, h1, h2⟩ := rp.obj hn eo
          obtain ⟨r, p⟩ := rp.write g (u := .dK (putK gs k v)) (o' := .dct (putD kvs k d)) hn eo fun H' p h => ⟨_, h, (denK_put h2 hd).per p⟩
          rw [key_den hi ek]
          exact .inr ⟨a, _, rfl, DPut.k h1 (by rw [sl_eq, ← h2.length]; exact hl), q _ p r⟩
        · cases e
      · cases e
    · rename_i kvs eo
      split at e
      · rename_i k ek
        split at e
        · rename_i hl
          cases e
          obtain ⟨gs, h1, h2⟩ := rp.obj hn eo
          obtain ⟨r, p⟩ := rp.write g (u := .dT (putK gs k v)) (o' := .dtt (putD kvs k d)) hn eo fun H' p h => ⟨_, h, (denK_put h2 hd).per p⟩
          unfold keysD at ek
          split at ek
          · cases hi with
            | tup q2 q3 =>
              have q4 := keys_den q3 ek
              subst q4
              exact .inr ⟨a, _, rfl, DPut.t h1 q2 (by rw [sl_eq, ← h2.length]; exact hl), q _ p r⟩
          · cases ek
        · cases e
      · cases e
    · cases e
  | _ => cases e
/-- o[i] = e : e, then o, then i -/
def sSto (f fo fi : FE) : FS := fun ρ S => (f ρ S).go ρ fun d S1 => (fo ρ S1).go ρ fun o S2 => (fi ρ S2).go ρ fun i S3 => match storeD o i d S3 with
  | some S4 => .nx ρ S4
  | none => .stuck
theorem ds_sto {e o i : Expr} {tpos pos : Pos} {f fo fi : FE} (A : Amb G X W) (he : PE X e (TD G W f)) (ho : PE X o (TD G W fo)) (hi : PE X i (TD G W fi))
    (ha : ∀ v, assign (.Subscript o i tpos) X.env v = (do
      let ov ← holding [v] (eval o X.env)
      let iv ← holding [v, ov] (eval i X.env)
      standAt tpos
      holding [v, ov, iv] (setItem ov iv v)
      release [v, ov, iv] []) := by intro _; rfl)
    (hs : swapsWithSole [.Subscript o i tpos] e pos.line X.env = pure false := by rfl) (hw : swappedStores [.Subscript o i tpos] e X.env = pure none := by rfl)
    (h1 : (assignEach [.Subscript o i tpos] X.env).map (·.2) = [assign (.Subscript o i tpos) X.env] := by rfl) : PS X (.Assign [.Subscript o i tpos] e pos) (TDS G W (sSto f fo fi)) := by
  refine PS.imp (ps_asg he (pg_sub ho hi (set_all (by have := A.hu; omega)) ha) hs hw h1) fun Z σ H ⟨μ, ρ, S, en, rp, po⟩ => ⟨μ, ρ, S, en, rp, (posts_go en po).mono fun v H1 ⟨μ1, d, S1, pe, rp1, dd, p1⟩ => ?_⟩
  refine ⟨μ1, ρ, S1, en.per pe, rp1, (posts_go (en.per pe) p1).mono fun ov H2 ⟨μ2, od, S2, pe2, rp2, do_, p2⟩ => ?_⟩
  refine ⟨μ2, ρ, S2, (en.per pe).per pe2, rp2, (posts_go ((en.per pe).per pe2) p2).mono fun iv H3 ⟨μ3, id, S3, pe3, rp3, di, p3⟩ => ?_⟩
  split at p3
  · rename_i S4 e4
    exact store_den A.ok rp3 (do_.per pe3) di ((dd.per pe2).per pe3) e4 fun H' p r => p3 _ _ _ p r ((((en.per pe).per pe2).per pe3).per p)
  · exact p3.elim

/-! ### attributes -/
def getF (fs : List (String × D)) (f : String) : Option D := (fs.find? fun p => decide (p.1 = f)).map (·.2)
def putFD (f : String) (d : D) : List (String × D) → List (String × D)
  | [] => [(f, d)]
  | (g, x) :: r => if g = f then (g, d) :: r else (g, x) :: putFD f d r
theorem denF_get {μ : List Addr} {H : Hp} : ∀ {fs : List (String × D)} {gs : List (Str × V)} {f : String} {d : D}, DenF G μ H fs gs → getF fs f = some d → ∃ v, gs.lookup (Str.ofString f) = some v ∧ Den G μ H d v
  | [], _, _, _, _, e => nomatch e
  | p :: fs, gs, f, d, ⟨h1, h2⟩, e => by
    cases gs with
    | nil => simp at h1
    | cons g gs =>
      simp only [List.map_cons, List.cons.injEq] at h1
      cases h2 with
      | cons a b =>
        by_cases hp : p.1 = f
        · have e' : p.2 = d := by simpa [getF, hp] using e
          subst e'
          refine ⟨g.2, ?_, a⟩
          obtain ⟨g1, g2⟩ := g
          simp only at h1
          rw [h1.1, hp]
          simp [List.lookup]
        · have r : getF (p :: fs) f = getF fs f := by simp [getF, hp]
          rw [r] at e
          obtain ⟨v, c1, c2⟩ := denF_get (gs := gs) ⟨h1.2, b⟩ e
          refine ⟨v, ?_, c2⟩
          obtain ⟨g1, g2⟩ := g
          have ne : (Str.ofString f == g1) = false := by
            rw [beq_eq_false_iff_ne]
            intro z
            exact hp (ofS_inj (h1.1.symm.trans z.symm))
          rw [List.lookup, ne]
          exact c1
theorem denF_put {μ : List Addr} {H : Hp} {f : String} {d : D} {v : V} (hd : Den G μ H d v) : ∀ {fs : List (String × D)} {gs : List (Str × V)}, DenF G μ H fs gs → DenF G μ H (putFD f d fs) (putF (Str.ofString f) v gs)
  | [], gs, ⟨h1, h2⟩ => by
    have : gs = [] := List.map_eq_nil_iff.mp h1
    subst this
    exact ⟨rfl, .cons hd .nil⟩
  | p :: fs, gs, ⟨h1, h2⟩ => by
    cases gs with
    | nil => simp at h1
    | cons g gs =>
      simp only [List.map_cons, List.cons.injEq] at h1
      obtain ⟨p1, p2⟩ := p
      obtain ⟨g1, g2⟩ := g
      simp only at h1
      cases h2 with
      | cons a b =>
        by_cases hp : p1 = f
        · have hg : g1 = Str.ofString f := by rw [h1.1, hp]
          simp only [putFD, putF, hp, hg, if_true]
          exact ⟨by simp [h1.2], .cons hd b⟩
        · have hg : ¬ g1 = Str.ofString f := fun z => hp (ofS_inj (h1.1.symm.trans z))
          simp only [putFD, putF, hp, hg, if_false]
          obtain ⟨c1, c2⟩ := denF_put hd (fs := fs) (gs := gs) ⟨h1.2, b⟩
          exact ⟨by simp [c1, h1.1], .cons a c2⟩
def xFld (c : Nat) (f : FE) (n : String) : FE := fun ρ S => (f ρ S).bind fun d S1 => match d with
  | .ref m => match S1[m]? with
    | some (.obj c' fs) => if c' = c then outD S1 (getF fs n) else .stuck
    | _ => .stuck
  | _ => .stuck
theorem de_fld (c : Nat) {e : Expr} {n : String} {pos : Pos} {f : FE} (A : Amb G X W) (cl : Cls X.K (G.cls c)) (na : NoAttr X.K (G.cls c) (Str.ofString n)) (he : PE X e (TD G W f)) (hb : attributeBase e (Str.ofString n) X.env (eval e X.env) = eval e X.env := by rfl) : PE X (.Attribute e (Str.ofString n) pos) (TD G W (xFld c f n)) := by
  refine PE.imp (pe_fld he hb) fun σ H Q ⟨μ, ρ, S, en, rp, po⟩ => ⟨μ, ρ, S, en, rp, (post_bind po).mono fun x H1 ⟨μ1, d, S1, pe, rp1, dd, p1⟩ => ?_⟩
  split at p1
  · rename_i m
    split at p1
    · rename_i c' fs eo
      obtain ⟨hc, p2⟩ := post_ite p1
      subst hc
      obtain ⟨r, er, p3⟩ := post_out p2
      cases dd with
      | ref hm =>
        obtain ⟨dx, gs, h1, h2⟩ := rp1.obj hm eo
        obtain ⟨v, l, dv⟩ := denF_get h2 er
        exact ⟨_, _, dx, gs, v, rfl, h1, cl, na, l, post_ok rp1 p3 dv⟩
    · exact p1.elim
  · exact p1.elim
/-- o.n = e : e, then o -/
def sFldS (c : Nat) (f fo : FE) (n : String) : FS := fun ρ S => (f ρ S).go ρ fun d S1 => (fo ρ S1).go ρ fun o S2 => match o with
  | .ref m => match S2[m]? with
    | some (.obj c' fs) => if c' = c ∧ fs.length < 1000 then .nx ρ (S2.set m (.obj c' (putFD n d fs))) else .stuck
    | _ => .stuck
  | _ => .stuck
theorem ds_fld (c : Nat) {e o : Expr} {n : String} {tpos pos : Pos} {f fo : FE} (A : Amb G X W) (cl : Cls X.K (G.cls c)) (na : NoAttr X.K (G.cls c) (Str.ofString n)) (he : PE X e (TD G W f)) (ho : PE X o (TD G W fo)) (hs : swapsWith e (some (.Attribute o (Str.ofString n) tpos)) pos.line X.env = pure false := by rfl) :
    PS X (.Assign [.Attribute o (Str.ofString n) tpos] e pos) (TDS G W (sFldS c f fo n)) := by
  refine PS.imp (ps_fld ho he hs) fun Z σ H ⟨μ, ρ, S, en, rp, po⟩ => ⟨μ, ρ, S, en, rp, (posts_go en po).mono fun v H1 ⟨μ1, d, S1, pe, rp1, dd, p1⟩ => ?_⟩
  refine ⟨μ1, ρ, S1, en.per pe, rp1, (posts_go (en.per pe) p1).mono fun ov H2 ⟨μ2, od, S2, pe2, rp2, do_, p2⟩ => ?_⟩
  split at p2
  · rename_i m
    split at p2
    · rename_i c' fs eo
      split at p2
      · rename_i hc
        obtain ⟨rfl, hl⟩ := hc
        cases do_ with
        | @ref _ a hm =>
          obtain ⟨dx, gs, h1, h2⟩ := rp2.obj hm eo
          obtain ⟨r, p⟩ := rp2.write A.ok (u := .ins (G.cls c') dx (putF (Str.ofString n) v gs)) (o' := .obj c' (putFD n d fs)) hm eo fun H' p h => ⟨dx, _, h, (denF_put (dd.per pe2) h2).per p⟩
          have el : gs.length = fs.length := by have := congrArg List.length h2.1; simpa using this
          exact ⟨a, _, dx, gs, rfl, h1, cl, na, by omega, p2 _ _ _ p r (((en.per pe).per pe2).per p)⟩
      · exact p2.elim
    · exact p2.elim
  · exact p2.elim
/-- x op= e -/
def sAug (i : Nat) (h : F2) (f : FE) : FS := fun ρ S => match ρ[i]? with
  | some (some d) => (f ρ S).go ρ fun e S1 => (h d e S1).go ρ fun z S2 => .nx (ρ.set i (some z)) S2
  | _ => .stuck
theorem ds_aug {i : Nat} {x : Str} {e : Expr} {op : Operator} {pos' pos : Pos} {f : FE} {h : F2} {r : R2} (ho : OpR X (inplaceOp op) r) (o : OpV G W r h) (he : PE X e (TD G W f)) (hN : X.N.Nodup) (hi : X.N[i]? = some x := by rfl) (hx : Loc X.env.scope x := by first | exact Or.inl rfl | exact Or.inr rfl)
    (hf : X.fn x = true ∨ X.env.scope.names.lookup x = some .local := by first | exact .inl rfl | exact .inr rfl) : PS X (.AugAssign (.Name x pos') op e pos) (TDS G W (sAug i h f)) := by
  have hp : PIp X op r := fun pins s σ H x y v u Q I r1 r2 h => ho pins s σ H x y v u Q I r1 r2 h
  refine PS.imp (ps_aug hN hi hx he hp hf) fun Z σ H ⟨μ, ρ, S, en, rp, po⟩ => ?_
  unfold sAug at po
  split at po
  · rename_i d ed
    obtain ⟨v, ev, dv⟩ := en.at_ i d ed
    refine ⟨v, ev, μ, ρ, S, en, rp, (posts_go en po).mono fun w H1 ⟨μ1, e', S1, pe, rp1, dd, p1⟩ => ?_⟩
    refine o _ _ _ _ _ _ _ _ _ rp1 (dv.per pe) dd ((posts_go (en.per pe) p1).mono fun z H2 ⟨μ2, zd, S2, pe2, rp2, dz, p2⟩ => ?_)
    exact PostS.now p2 rp2 (((en.per pe).per pe2).set dz)
  · exact po.elim
theorem ds_augI {i : Nat} {x : Str} {e : Expr} {pos' pos : Pos} {f : FE} (he : PE X e (TD G W f)) (hN : X.N.Nodup) (hi : X.N[i]? = some x := by rfl) (hx : Loc X.env.scope x := by first | exact Or.inl rfl | exact Or.inr rfl)
    (hf : X.fn x = true ∨ X.env.scope.names.lookup x = some .local := by first | exact .inl rfl | exact .inr rfl) : PS X (.AugAssign (.Name x pos') .Add e pos) (TDS G W (sAug i (fI fun i j => .int (i + j)) f)) :=
  ds_aug iop_add (ov_I fun _ _ _ _ => .int _) he hN hi hx hf
end Dx

/-! Dx6: what is walked, for, while, comprehensions, defs and their calls. -/
namespace Dx
open PySem PySem.Spec L2
variable {G : Gx} {X : Cx} {W : WX}

inductive Src where
  | live (n : Nat)
  | its (ds : List D)
def srcAt (S : Sg) : Src → Nat → Option (Option D)
  | .live n, i => match S[n]? with
    | some (.lst xs) => some xs[i]?
    | _ => none
  | .its ds, i => some ds[i]?
def srcLen (S : Sg) : Src → Nat
  | .live n => match S[n]? with
    | some (.lst xs) => xs.length
    | _ => 0
  | .its ds => ds.length
/-- J walks src -/
def SrcOk (G : Gx) (μ : List Addr) (H : Hp) (src : Src) (J : It) : Prop :=
  ∀ μ' H' S' i, Per G μ H μ' H' → Rep G μ' S' H' → (srcAt S' src i = some none → J.stop i H') ∧
    ∀ d, srcAt S' src i = some (some d) → J.go i H' ∧ ∀ x H2, J.yld i H' x H2 → Per G μ' H' μ' H2 ∧ Rep G μ' S' H2 ∧ Den G μ' H2 d x
theorem SrcOk.per {μ μ1 : List Addr} {H H1 : Hp} {src : Src} {J : It} (s : SrcOk G μ H src J) (p : Per G μ H μ1 H1) : SrcOk G μ1 H1 src J := fun μ' H' S' i q r => s μ' H' S' i (p.trans q) r
abbrev FI := Ev → Sg → R Src
def DI (X : Cx) (G : Gx) (W : WX) (tg iter : Expr) (fs : FI) : Prop := ∃ wi, PI X tg iter wi ∧ ∀ σ H R, TDg (SrcOk G) G W fs σ H R → wi σ H R

/-! ### a list or a tuple -/
def iSeq (K : PySem.W.Frag) (tl : TE) : TI := fun σ H R => tl σ H fun x H1 => (∃ a, x = .ref a ∧ (∃ xs, SqL K H1 a xs) ∧ R (Itl K a) H1) ∨ ∃ a, x = .ref a ∧ (∃ xs, SqT K H1 a xs) ∧ R (Itt K a) H1
theorem pi_seq {tg l : Expr} {tl : TE} (hl : PE X l tl) : PI X tg l (iSeq X.K tl) := by
  refine ⟨fun pins s σ H R I h => ?_⟩
  refine thn (hl.run pins s σ H _ I h) fun v s1 ⟨x, H1, I1, r1, q1⟩ => ?_
  rcases q1 with ⟨a, e, ⟨xs, hq⟩, q⟩ | ⟨a, e, ⟨xs, hq⟩, q⟩
  · subst e
    cases r1
    obtain ⟨its, rv, p, hz⟩ := I1.list hq
    refine wpAny_pyIter_list p.isList ?_
    refine ⟨s1.heap.objs.size, [s1.heap.objs.size], _, _, H1, rfl, I1.kept (t' := s1.toks) fun b o e => Heap.get?_push_of_some _ e, turn_list a _, ⟨_, Heap.get?_push_size _ rfl, rfl, rfl⟩, fun b hb => ?_, q⟩
    have e : b = s1.heap.objs.size := by simpa using hb
    subst e
    exact I1.fpOk (Nat.le_refl _) (I1.hok.fresh (Nat.le_refl _))
  · subst e
    cases r1
    obtain ⟨its, rv, p, hz⟩ := I1.tuple hq
    refine wpAny_pyIter_tuple (show s1.heap.IsTuple a its.toArray from p) ?_
    refine ⟨s1.heap.objs.size, [s1.heap.objs.size], _, _, H1, rfl, I1.kept (t' := s1.toks) fun b o e => Heap.get?_push_of_some _ e, turn_tuple a _, ⟨_, Heap.get?_push_size _ rfl, rfl, rfl⟩, fun b hb => ?_, q⟩
    have e : b = s1.heap.objs.size := by simpa using hb
    subst e
    exact I1.fpOk (Nat.le_refl _) (I1.hok.fresh (Nat.le_refl _))
def srcOf (S : Sg) (d : D) : R Src := match d with
  | .tup xs => .ok (.its xs) S
  | .ktup xs => .ok (.its xs) S
  | .clist xs => .ok (.its xs) S
  | .ref n => match S[n]? with
    | some (.lst _) => .ok (.live n) S
    | _ => .stuck
  | _ => .stuck
def iSrc (f : FE) : FI := fun ρ S => (f ρ S).bind fun d S1 => srcOf S1 d
theorem sqL_uniq {μ : List Addr} {H : Hp} {a : Addr} {K : PySem.W.Frag} {xs ys : List V} (h : ∀ H', SqL K H' a xs) : SqL K H a xs := h H
theorem srcOk_tup {μ : List Addr} {H : Hp} {a : Addr} {xs : List D} {vs : List V} (h : ∀ μ' H', Per G μ H μ' H' → SqT G.K H' a vs) (d : DenA G μ H xs vs) : SrcOk G μ H (.its xs) (Itt G.K a) := by
  intro μ' H' S' i p r
  have h' := h μ' H' p
  refine ⟨fun e => ?_, fun dd e => ?_⟩
  · have e2 : xs[i]? = none := Option.some.inj e
    exact ⟨vs, h', by rw [← d.length]; exact List.getElem?_eq_none_iff.mp e2⟩
  · have e2 : xs[i]? = some dd := Option.some.inj e
    obtain ⟨v, h1, h2⟩ := (d.per p).get e2
    refine ⟨⟨vs, v, h', h1⟩, fun x H2 y => ?_⟩
    obtain ⟨y1, y2⟩ := y
    subst y1
    have := y2 vs h'
    rw [h1] at this
    cases this
    exact ⟨.refl, r, h2⟩
theorem srcOk_clist {μ : List Addr} {H : Hp} {a : Addr} {xs : List D} {vs : List V} (h0 : ∃ q, H a = some (.frz q (.lst vs))) (d : DenA G μ H xs vs) : SrcOk G μ H (.its xs) (Itl G.K a) := by
  intro μ' H' S' i p r
  have h : SqL G.K H' a vs := cl_sqL (let ⟨q, e⟩ := h0; ⟨q, p.frz _ _ _ e⟩)
  refine ⟨fun e => ?_, fun dd e => ?_⟩
  · have e2 : xs[i]? = none := Option.some.inj e
    exact ⟨vs, h, by rw [← d.length]; exact List.getElem?_eq_none_iff.mp e2⟩
  · have e2 : xs[i]? = some dd := Option.some.inj e
    obtain ⟨v, h1, h2⟩ := (d.per p).get e2
    refine ⟨⟨vs, v, h, h1⟩, fun x H2 y => ?_⟩
    obtain ⟨y1, y2⟩ := y
    subst y1
    have := y2 vs h
    rw [h1] at this
    cases this
    exact ⟨.refl, r, h2⟩
theorem srcOk_live {μ : List Addr} {H : Hp} {n : Nat} {a : Addr} (hn : μ[n]? = some a) : SrcOk G μ H (.live n) (Itl G.K a) := by
  intro μ' H' S' i p r
  have hn' := p.ext n a hn
  obtain ⟨o, eo, ro⟩ := r.there hn'
  cases o with
  | lst xs =>
    simp only [srcAt, eo]
    obtain ⟨vs, h1, h2⟩ := RepO.sqL ro
    refine ⟨fun e => ⟨vs, h1, by rw [← h2.length]; exact List.getElem?_eq_none_iff.mp (Option.some.inj e)⟩, fun d e => ?_⟩
    obtain ⟨v, h3, h4⟩ := h2.get (Option.some.inj e)
    refine ⟨⟨vs, v, h1, h3⟩, fun x H2 y => ?_⟩
    obtain ⟨y1, y2⟩ := y
    subst y1
    have := y2 vs h1
    rw [h3] at this
    cases this
    exact ⟨.refl, r, h4⟩
  | dct _ => simp only [srcAt, eo]; exact ⟨fun e => (by cases e), fun d e => (by cases e)⟩
  | dtt _ => simp only [srcAt, eo]; exact ⟨fun e => (by cases e), fun d e => (by cases e)⟩
  | obj _ _ => simp only [srcAt, eo]; exact ⟨fun e => (by cases e), fun d e => (by cases e)⟩
theorem di_seq {tg l : Expr} {f : FE} (A : Amb G X W) (hl : PE X l (TD G W f)) : DI X G W tg l (iSrc f) := by
  refine ⟨iSeq G.K (TD G W f), by have := pi_seq (tg := tg) hl; rw [A.hK] at this; exact this, fun σ H R ⟨μ, ρ, S, en, rp, po⟩ => ⟨μ, ρ, S, en, rp, (post_bind po).mono fun x H1 ⟨μ1, d, S1, pe, rp1, dd, p1⟩ => ?_⟩⟩
  unfold srcOf at p1
  cases dd with
  | @tup a xs vs h1 h2 => exact .inr ⟨a, rfl, ⟨vs, SqT.of h1⟩, p1 _ _ _ .refl rp1 (srcOk_tup (fun μ' H' p => SqT.of (p.tup _ _ h1)) h2)⟩
  | @ktup a xs vs h1 h2 => exact .inr ⟨a, rfl, ⟨vs, h1 _⟩, p1 _ _ _ .refl rp1 (srcOk_tup (fun μ' H' p => h1 H') h2)⟩
  | @clist a xs vs h1 h2 => exact .inl ⟨a, rfl, ⟨vs, cl_sqL h1⟩, p1 _ _ _ .refl rp1 (srcOk_clist h1 h2)⟩
  | @ref n a hn =>
    dsimp only at p1
    split at p1
    · rename_i xs eo
      obtain ⟨vs, h1, h2⟩ := RepO.sqL (rp1.obj hn eo)
      exact .inl ⟨a, rfl, ⟨vs, h1⟩, p1 _ _ _ .refl rp1 (srcOk_live hn)⟩
    · exact p1.elim
  | non => exact p1.elim
  | bl _ => exact p1.elim
  | int _ => exact p1.elim
  | str _ => exact p1.elim
  | clo _ => exact p1.elim
  | exv0 => exact p1.elim
  | exv _ _ => exact p1.elim
  | slist _ => exact p1.elim
  | cdict _ _ _ => exact p1.elim
/-! ### ranges -/
def intsD (lo : Int) (n : Nat) : List D := (List.range n).map fun i => .int (lo + (i : Nat))
theorem srcOk_rng {μ : List Addr} {H : Hp} (lo : Int) (n : Nat) : SrcOk G μ H (.its (intsD lo n)) (Itr lo n) := by
  intro μ' H' S' i p r
  refine ⟨fun e => ?_, fun d e => ?_⟩
  · have e2 : (intsD lo n)[i]? = none := Option.some.inj e
    have := List.getElem?_eq_none_iff.mp e2
    simp [intsD] at this
    exact this
  · have e2 : (intsD lo n)[i]? = some d := Option.some.inj e
    have hi : i < n := by have := (List.getElem?_eq_some_iff.mp e2).1; simpa [intsD] using this
    refine ⟨hi, fun x H2 y => ?_⟩
    obtain ⟨y1, y2⟩ := y
    subst y1
    subst y2
    have : d = .int (lo + (i : Nat)) := by
      unfold intsD at e2
      rw [List.getElem?_map, List.getElem?_range hi] at e2
      exact (Option.some.inj e2).symm
    rw [this]
    exact ⟨.refl, r, .int _⟩
def iR1 (g : FA) : FI := fun ρ S => (g ρ S).bind fun ds S1 => match ds with
  | [.int j] => if -(4611686018427387904) ≤ j ∧ j < 4611686018427387904 then .ok (.its (intsD 0 j.toNat)) S1 else .stuck
  | _ => .stuck
def iR2 (g : FA) : FI := fun ρ S => (g ρ S).bind fun ds S1 => match ds with
  | [.int i, .int j] => if -(4611686018427387904) ≤ i ∧ i < 4611686018427387904 ∧ -(4611686018427387904) ≤ j ∧ j < 4611686018427387904 then .ok (.its (intsD i (j - i).toNat)) S1 else .stuck
  | _ => .stuck
theorem di_range1 {tg a : Expr} {p pos : Pos} {g : FA} (hm : X.mg "range" = none) (ha : PA X [a] (TDA G W g)) (hg : Gl X "range" := by rfl) (hs : starEach [a] X.env = [(false, eval a X.env)] := by rfl) : DI X G W tg (.Call (.Name "range" p) [a] [] pos) (iR1 g) := by
  refine ⟨_, pi_range1 hg hm ha hs, fun σ H R ⟨μ, ρ, S, en, rp, po⟩ => ⟨μ, ρ, S, en, rp, (post_bind po).mono fun vs H1 ⟨μ1, ds, S1, pe, rp1, dd, p1⟩ => ?_⟩⟩
  split at p1
  · cases dd with
    | cons d1 t =>
      cases t
      cases d1
      obtain ⟨c, p2⟩ := post_ite p1
      exact ⟨_, rfl, by omega, by omega, p2 _ _ _ .refl rp1 (srcOk_rng _ _)⟩
  · exact p1.elim
theorem di_range2 {tg a b : Expr} {p pos : Pos} {g : FA} (hm : X.mg "range" = none) (ha : PA X [a, b] (TDA G W g)) (hg : Gl X "range" := by rfl) (hs : starEach [a, b] X.env = [(false, eval a X.env), (false, eval b X.env)] := by rfl) (hs2 : starEach [b] X.env = [(false, eval b X.env)] := by rfl) : DI X G W tg (.Call (.Name "range" p) [a, b] [] pos) (iR2 g) := by
  refine ⟨_, pi_range2 hg hm ha hs hs2, fun σ H R ⟨μ, ρ, S, en, rp, po⟩ => ⟨μ, ρ, S, en, rp, (post_bind po).mono fun vs H1 ⟨μ1, ds, S1, pe, rp1, dd, p1⟩ => ?_⟩⟩
  split at p1
  · cases dd with
    | cons d1 t =>
      cases t with
      | cons d2 t =>
        cases t
        cases d1
        cases d2
        obtain ⟨c, p2⟩ := post_ite p1
        exact ⟨_, _, rfl, by omega, p2 _ _ _ .refl rp1 (srcOk_rng _ _)⟩
  · exact p1.elim

/-! ### for -/
def forGo (src : Src) (tg : FG) (g : FS) : Nat → Nat → FS
  | 0, i => fun ρ S => match srcAt S src i with
    | some none => .nx ρ S
    | _ => .stuck
  | k + 1, i => fun ρ S => match srcAt S src i with
    | some (some d) => match tg d ρ with
      | some ρ1 => match g ρ1 S with
        | .nx ρ2 S2 => forGo src tg g k (i + 1) ρ2 S2
        | .ct ρ2 S2 => forGo src tg g k (i + 1) ρ2 S2
        | .bk ρ2 S2 => .nx ρ2 S2
        | o => o
      | none => .stuck
    | some none => .nx ρ S
    | none => .stuck
def sFor (fs : FI) (tg : FG) (g : FS) : FS := fun ρ S => (fs ρ S).go ρ fun src S1 => forGo src tg g (srcLen S1 src) 0 ρ S1
theorem ds_for {vs : List Nat} {tg iter : Expr} {body : List Stmt} {pos : Pos} {fs : FI} {fg : FG} {g : FS} (hc : X.calm = true) (A : Amb G X W) (hi : DI X G W tg iter fs) (hg : DG X G vs tg fg) (hb : PSs X body (TDS G W g))
    (hs : ∀ x, foldedSetIterable iter X.env x = pure x := by intro _; rfl) : PS X (.For tg iter body [] pos) (TDS G W (sFor fs fg g)) := by
  obtain ⟨wi, pi, wi'⟩ := hi
  obtain ⟨t, pg, gt⟩ := hg
  refine PS.imp (ps_for A.po hc pi pg hb hs) fun Z σ H ⟨μ, ρ, S, en, rp, po⟩ => ?_
  refine wi' σ H _ ⟨μ, ρ, S, en, rp, (posts_go (rel := SrcOk G) en po).mono fun J H1 ⟨μ1, src, S1, pe, rp1, so, p1⟩ => ?_⟩
  refine ⟨fun i m σ H => ∃ μ ρ S, EnvD G μ H ρ σ ∧ Rep G μ S H ∧ SrcOk G μ H src J ∧ PostS G W μ H Z (forGo src fg g m i ρ S), ⟨_, μ1, ρ, S1, en.per pe, rp1, so, p1⟩, ?_⟩
  rintro i m σ2 H2 ⟨μ2, ρ2, S2, en2, rp2, so2, p2⟩
  have so3 := so2 μ2 H2 S2 i .refl rp2
  have stop : srcAt S2 src i = some none → PostS G W μ2 H2 Z (.nx ρ2 S2) → (J.stop i H2 ∧ Z.nx σ2 H2) := fun e p => ⟨so3.1 e, PostS.now p rp2 en2⟩
  cases m with
  | zero =>
    simp only [forGo] at p2
    split at p2
    · rename_i e
      exact .inl (stop e p2)
    · exact p2.elim
  | succ k =>
    simp only [forGo] at p2
    split at p2
    · rename_i d e
      split at p2
      · rename_i ρ3 e3
        obtain ⟨go, yl⟩ := so3.2 d e
        refine .inr ⟨go, fun σ' H' => ∃ μ ρ S, EnvD G μ H' ρ σ' ∧ Rep G μ S H' ∧ SrcOk G μ H' src J ∧ PostS G W μ H' Z (forGo src fg g k (i + 1) ρ S), fun σ' H' q => ⟨k, Nat.lt_succ_self k, q⟩, fun x H' y => ?_⟩
        obtain ⟨pe', rp', dx⟩ := yl x H' y
        refine gt μ2 H' ρ2 σ2 S2 d x ρ3 _ (en2.per pe') rp' dx e3 fun σ' en' _ => ⟨μ2, ρ3, S2, en', rp', ?_⟩
        have p3 := PostS.per p2 pe'
        have so' := so2.per pe'
        revert p3
        generalize g ρ3 S2 = fl
        intro p3
        cases fl with
        | nx ρ4 S4 => exact fun μ' H'' σ'' q r e => ⟨μ', ρ4, S4, e, r, so'.per q, PostS.per (f := forGo src fg g k (i + 1) ρ4 S4) p3 q⟩
        | ct ρ4 S4 => exact fun μ' H'' σ'' q r e => ⟨μ', ρ4, S4, e, r, so'.per q, PostS.per (f := forGo src fg g k (i + 1) ρ4 S4) p3 q⟩
        | bk ρ4 S4 => exact p3
        | rt d S => exact p3
        | exc c fs ρ S => exact p3
        | stuck => exact p3
      · exact p2.elim
    · rename_i e
      exact .inl (stop e p2)
    · exact p2.elim

/-! ### while -/
def whGo (c : FT) (g : FS) : Nat → FS
  | 0 => fun _ _ => .stuck
  | k + 1 => fun ρ S => (c ρ S).go ρ fun b S1 => match b with
    | true => match g ρ S1 with
      | .nx ρ2 S2 => whGo c g k ρ2 S2
      | .ct ρ2 S2 => whGo c g k ρ2 S2
      | .bk ρ2 S2 => .nx ρ2 S2
      | o => o
    | false => .nx ρ S1
theorem ds_while (n : Nat) {c : Expr} {body : List Stmt} {pos : Pos} {t : FT} {g : FS} (A : Amb G X W) (hc : PT X c (TDT G W t)) (hb : PSs X body (TDS G W g)) : PS X (.While c body [] pos) (TDS G W (whGo t g n)) := by
  refine PS.imp (ps_while A.po hc hb) fun Z σ H ⟨μ, ρ, S, en, rp, po⟩ => ?_
  refine ⟨fun m σ H => ∃ μ ρ S, EnvD G μ H ρ σ ∧ Rep G μ S H ∧ PostS G W μ H Z (whGo t g m ρ S), ⟨n, μ, ρ, S, en, rp, po⟩, ?_⟩
  rintro m σ2 H2 ⟨μ2, ρ2, S2, en2, rp2, p2⟩
  cases m with
  | zero => exact p2.elim
  | succ k =>
    refine ⟨μ2, ρ2, S2, en2, rp2, (posts_go en2 (show PostS G W μ2 H2 Z ((t ρ2 S2).go ρ2 _) from p2)).mono fun x H3 ⟨μ3, b, S3, pe3, rp3, eb, p3⟩ => ?_⟩
    have ek : b = x := eb
    subst ek
    cases b with
    | false => rw [if_neg Bool.false_ne_true]; exact PostS.now p3 rp3 (en2.per pe3)
    | true =>
      rw [if_pos rfl]
      refine ⟨fun σ' H' => ∃ μ ρ S, EnvD G μ H' ρ σ' ∧ Rep G μ S H' ∧ PostS G W μ H' Z (whGo t g k ρ S), fun σ' H' q => ⟨k, Nat.lt_succ_self k, q⟩, μ3, ρ2, S3, en2.per pe3, rp3, ?_⟩
      revert p3
      show PostS G W μ3 H3 Z (match g ρ2 S3 with
        | .nx ρ2 S2 => whGo t g k ρ2 S2
        | .ct ρ2 S2 => whGo t g k ρ2 S2
        | .bk ρ2 S2 => .nx ρ2 S2
        | o => o) → _
      generalize g ρ2 S3 = fl
      intro p3
      cases fl with
      | nx ρ4 S4 => exact fun μ' H'' σ'' q r e => ⟨μ', ρ4, S4, e, r, PostS.per (f := whGo t g k ρ4 S4) p3 q⟩
      | ct ρ4 S4 => exact fun μ' H'' σ'' q r e => ⟨μ', ρ4, S4, e, r, PostS.per (f := whGo t g k ρ4 S4) p3 q⟩
      | bk ρ4 S4 => exact p3
      | rt d S => exact p3
      | exc c fs ρ S => exact p3
      | stuck => exact p3

/-! ### comprehensions -/
abbrev W0 : WX := fun _ _ _ _ => False
def R.nox {α : Type} : R α → R α
  | .exc _ _ _ => .stuck
  | r => r
def wipeD (ρ : Ev) : List Nat → Ev
  | [] => ρ
  | v :: vs => (wipeD ρ vs).set v none
theorem EnvD.wipe {μ : List Addr} {H : Hp} {ρ : Ev} {σ : L2.St} (e : EnvD G μ H ρ σ) : ∀ vs : List Nat, EnvD G μ H (wipeD ρ vs) (L2.wipe σ vs)
  | [] => e
  | v :: vs => by
    have ih := e.wipe vs
    refine ⟨by simp [wipeD, L2.wipe, ih.len], fun j d h => ?_⟩
    unfold wipeD at h
    unfold L2.wipe
    by_cases hj : j = v
    · subst hj
      by_cases hl : j < (wipeD ρ vs).length
      · rw [List.getElem?_set_self hl] at h; cases h
      · rw [List.getElem?_eq_none (by simp; omega)] at h; cases h
    · rw [List.getElem?_set_ne (Ne.symm hj)] at h ⊢
      exact ih.at_ j d h
def tYesF : FT := fun _ S => .ok true S
def lcGo (src : Src) (tg : FG) (t : FT) (e : FE) (ρ : Ev) : Nat → Nat → List D → Sg → R D
  | 0, i, acc, S => match srcAt S src i with
    | some none => newO (.lst acc) S
    | _ => .stuck
  | k + 1, i, acc, S => match srcAt S src i with
    | some (some d) => match tg d ρ with
      | some ρ1 => (t ρ1 S).nox.bind fun b S2 => match b with
        | true => (e ρ1 S2).nox.bind fun y S3 => if acc.length < 16777216 then lcGo src tg t e ρ k (i + 1) (acc ++ [y]) S3 else .stuck
        | false => lcGo src tg t e ρ k (i + 1) acc S2
      | none => .stuck
    | some none => newO (.lst acc) S
    | none => .stuck
def xLc (vs : List Nat) (fs : FI) (tg : FG) (t : FT) (e : FE) : FE := fun ρ S => (fs ρ S).bind fun src S1 => lcGo src tg t e (wipeD ρ vs) (srcLen S1 src) 0 [] S1
theorem post_base {α β γ δ : Type} {rel : Rel α β} {rel' : Rel γ δ} {μ1 μ : List Addr} {H1 H : Hp} {σ σ' : L2.St} {r : R α} {f : α → Sg → R γ} {Q : δ → Hp → Prop} (h : Post rel' G W μ1 H1 σ (r.nox.bind f) Q) :
    Post rel G W0 μ H σ' r fun b H3 => ∃ μ3 a S3, Per G μ H μ3 H3 ∧ Rep G μ3 S3 H3 ∧ rel μ3 H3 a b ∧ Post rel' G W μ1 H1 σ (f a S3) Q := by
  cases r with
  | ok a S' => exact fun μ' H' b p q d => ⟨μ', a, S', p, q, d, h⟩
  | exc c fs S' => exact h.elim
  | stuck => exact h
theorem per_adopt {μ μ1 : List Addr} {H H1 : Hp} {p : Addr} (pe : Per G μ H μ1 H1) (hp : H p = none) : Per G μ H (μ1 ++ [p]) H1 :=
  ⟨fun n a h => by
    have h1 := pe.ext n a h
    rw [List.getElem?_append_left (List.getElem?_eq_some_iff.mp h1).1]
    exact h1, pe.tup, pe.frz, pe.clo, fun a u h t k => by
    obtain ⟨h1, k1⟩ := pe.fr a u h t k
    refine ⟨h1, fun n z => ?_⟩
    by_cases hn : n < μ1.length
    · rw [List.getElem?_append_left hn] at z
      exact k1 n z
    · rw [List.getElem?_append_right (by omega)] at z
      have := List.mem_of_getElem? z
      have e : a = p := by simpa using this
      rw [e, hp] at h
      cases h⟩
theorem Amb.blk (A : Amb G X W) {s : Shared} {H : Hp} {scope : Scope} {cenv : Env} {fp : List Addr} : Amb G (X.blk s H scope cenv fp) W0 :=
  ⟨A.hK, A.hw, A.ok, takes0, A.hu, PassesOwn.never⟩
structure PTD (X : Cx) (G : Gx) (W : WX) (ifs : List Expr) (t : FT) : Prop where
  p : PTs X ifs (TDT G W t)
theorem dts_nil : PTs X [] (TDT G W tYesF) := ⟨fun pins s σ H Q I h => by
  refine pts_nil.run pins s σ H Q I ?_
  obtain ⟨μ, ρ, S, en, rp, p⟩ := h
  exact p _ _ _ .refl rp rfl⟩
theorem dts_one {c : Expr} {t : FT} (h : PT X c (TDT G W t)) : PTs X [c] (TDT G W t) := pts_one h
/-- the reading of a comprehension -/
theorem lc_read {vs : List Nat} {wi : TI} {fs : FI} {fg : FG} {tgr : TG} {t : FT} {e : FE} {σ : L2.St} {H : Hp} {Q : VK} (ok : G.Ok) (wi' : ∀ σ H R, TDg (SrcOk G) G W fs σ H R → wi σ H R) (gt : GT G vs fg tgr) (q : TD G W (xLc vs fs fg t e) σ H Q) :
    tLc wi tgr (TDT G W0 t) (TD G W0 e) vs σ H Q := by
  obtain ⟨μ, ρ, S, en, rp, po⟩ := q
  refine wi' σ H _ ⟨μ, ρ, S, en, rp, (post_bind (rel := SrcOk G) po).mono fun J H1 ⟨μ1, src, S1, pe, rp1, so, p1⟩ => fun D hD => ?_⟩
  refine ⟨fun i m H => ∃ μ S acc us, Rep G μ S H ∧ Per G μ1 H1 μ H ∧ EnvD G μ H (wipeD ρ vs) (wipe σ vs) ∧ SrcOk G μ H src J ∧ H D = some (.lst us) ∧ (∀ n : Nat, μ[n]? ≠ some D) ∧ DenA G μ H acc us ∧ Post (Den G) G W μ1 H1 σ (lcGo src fg t e (wipeD ρ vs) m i acc S) Q, ⟨srcLen S1 src, μ1, S1, [], [], ?_⟩, ?_⟩
  · have pn : Per G μ1 H1 μ1 (upd H1 D (.lst [])) := per_new ok hD
    refine ⟨rp1.new ok hD, pn, ((en.per pe).per pn).wipe vs, so.per pn, upd_same, fun n z => ?_, .nil, p1⟩
    obtain ⟨o, eo, ro⟩ := rp1.there z
    obtain ⟨w, e, _⟩ := ro.some
    rw [hD] at e; cases e
  · rintro i m H2 ⟨μ2, S2, acc, us, rp2, pe2, en2, so2, hD2, nD2, da2, p2⟩
    have so3 := so2 μ2 H2 S2 i .refl rp2
    have stop : srcAt S2 src i = some none → Post (Den G) G W μ1 H1 σ (newO (.lst acc) S2) Q → (J.stop i H2 ∧ Q (.ref D) H2) := fun e p => by
      refine ⟨so3.1 e, ?_⟩
      refine p (μ2 ++ [D]) H2 _ (per_adopt pe2 hD) (rp2.adopt nD2 fun μ' ex => ⟨us, hD2, da2.up ex⟩) (.ref ?_)
      rw [← rp2.len, List.getElem?_append_right (Nat.le_refl _), Nat.sub_self]
      rfl
    cases m with
    | zero =>
      simp only [lcGo] at p2
      split at p2
      · rename_i e
        exact .inl (stop e p2)
      · exact p2.elim
    | succ k =>
      simp only [lcGo] at p2
      split at p2
      · rename_i d ed
        split at p2
        · rename_i ρ3 e3
          obtain ⟨go, yl⟩ := so3.2 d ed
          refine .inr ⟨go, fun H => ∃ μ S acc us, Rep G μ S H ∧ Per G μ1 H1 μ H ∧ EnvD G μ H (wipeD ρ vs) (wipe σ vs) ∧ SrcOk G μ H src J ∧ H D = some (.lst us) ∧ (∀ n : Nat, μ[n]? ≠ some D) ∧ DenA G μ H acc us ∧ Post (Den G) G W μ1 H1 σ (lcGo src fg t e (wipeD ρ vs) k (i + 1) acc S) Q, fun H' q => ⟨k, Nat.lt_succ_self k, q⟩, fun x H' y => ?_⟩
          obtain ⟨pe', rp', dx⟩ := yl x H' y
          refine gt μ2 H' (wipeD ρ vs) (wipe σ vs) S2 d x ρ3 _ (en2.per pe') rp' dx e3 fun σ' en' hw => ⟨?_, ?_⟩
          · rw [hw]
            have : ∀ (l : List Nat) (τ : L2.St), wipe (wipe τ l) l = wipe τ l := by
              intro l
              have key : ∀ (l : List Nat) (τ : L2.St), (∀ j ∈ l, ∀ o, τ[j]? = some o → o = none) → wipe τ l = τ := by
                intro l
                induction l with
                | nil => intro τ _; rfl
                | cons v l ih =>
                  intro τ h
                  unfold wipe
                  rw [ih τ fun j hj => h j (by simp [hj])]
                  refine List.ext_getElem? fun j => ?_
                  by_cases hj : j = v
                  · subst hj
                    by_cases hl : j < τ.length
                    · rw [List.getElem?_set_self hl]
                      have := h j (by simp) τ[j] (by simp [hl])
                      simp [hl, this]
                    · rw [List.getElem?_eq_none (by simp; omega), List.getElem?_eq_none (by omega)]
                  · rw [List.getElem?_set_ne (Ne.symm hj)]
              intro τ
              refine key l _ fun j hj o ho => ?_
              cases o with
              | none => rfl
              | some x => exact absurd hj (wipe_some ho).2
            exact this vs σ
          · refine ⟨μ2, ρ3, S2, en', rp', (post_base p2).mono fun b H3 ⟨μ3, b', S3, pe3, rp3, eb, p3⟩ => ?_⟩
            have ek : b' = b := eb
            subst ek
            obtain ⟨hD', nD'⟩ := pe'.fr D _ hD2 (fun _ z => nomatch z) nD2
            obtain ⟨hD3, nD3⟩ := pe3.fr D _ hD' (fun _ z => nomatch z) nD'
            have pe13 := (pe2.trans pe').trans pe3
            cases b' with
            | false =>
              rw [if_neg Bool.false_ne_true]
              exact ⟨μ3, S3, acc, us, rp3, pe13, (en2.per pe').per pe3, (so2.per pe').per pe3, hD3, nD3, (da2.per pe').per pe3, p3⟩
            | true =>
              rw [if_pos rfl]
              refine ⟨μ3, ρ3, S3, en'.per pe3, rp3, (post_base p3).mono fun yv H4 ⟨μ4, yd, S4, pe4, rp4, dy, p4⟩ => ?_⟩
              obtain ⟨hl, p5⟩ := post_ite p4
              obtain ⟨hD4, nD4⟩ := pe4.fr D _ hD3 (fun _ z => nomatch z) nD3
              have da4 := ((da2.per pe').per pe3).per pe4
              refine ⟨us, hD4, by rw [sl_eq, ← da2.length]; exact hl, ?_⟩
              have pw : Per G μ4 H4 μ4 (upd H4 D (.lst (us ++ [yv]))) → True := fun _ => trivial
              have ne : ∀ (n : Nat) (a : Addr), μ4[n]? = some a → a ≠ D := fun n a h z => nD4 n (by rw [h, z])
              have stay : ∀ (b : Addr) (u : HO), b ≠ D → H4 b = some u → (upd H4 D (.lst (us ++ [yv]))) b = some u := fun b u hb h => by rw [upd_ne hb]; exact h
              -- the list itself grows: nothing else is touched
              have pe5 : ∀ {μ0 H0}, Per G μ0 H0 μ4 H4 → H0 D = none → Per G μ0 H0 μ4 (upd H4 D (.lst (us ++ [yv]))) := fun {μ0 H0} p h0 =>
                ⟨p.ext, fun a xs h => stay a _ (ne_of_none h h0) (p.tup a xs h), fun a q u h => stay a _ (ne_of_none h h0) (p.frz a q u h), fun n a h => ok.clo_mut n a H4 D _ _ hD4 trivial (fun _ z => nomatch z) (p.clo n a h),
                  fun a u h t k => ⟨stay a _ (ne_of_none h h0) (p.fr a u h t k).1, (p.fr a u h t k).2⟩⟩
              -- what was told at μ4, H4 stands
              have up5 : ∀ {d : Dx.D} {v : V}, Den G μ4 H4 d v → Den G μ4 (upd H4 D (.lst (us ++ [yv]))) d v := fun h => h.heap (fun a xs h => stay a _ (fun z => by rw [z, hD4] at h; cases h) h) (fun a q u h => stay a _ (fun z => by rw [z, hD4] at h; cases h) h) fun n a h => ok.clo_mut n a H4 D _ _ hD4 trivial (fun _ z => nomatch z) h
              have up5A : ∀ {ds : List Dx.D} {vs : List V}, DenA G μ4 H4 ds vs → DenA G μ4 (upd H4 D (.lst (us ++ [yv]))) ds vs := fun h => h.heap (fun a xs h => stay a _ (fun z => by rw [z, hD4] at h; cases h) h) (fun a q u h => stay a _ (fun z => by rw [z, hD4] at h; cases h) h) fun n a h => ok.clo_mut n a H4 D _ _ hD4 trivial (fun _ z => nomatch z) h
              have rp5 : Rep G μ4 S4 (upd H4 D (.lst (us ++ [yv]))) := ⟨rp4.len, rp4.nd, fun n o a h1 h2 => (rp4.at_ n o a h1 h2).heap (upd_ne (ne n a h2)) (fun a q u h => stay a _ (fun z => by rw [z, hD4] at h; cases h) h) (fun a xs h => stay a _ (fun z => by rw [z, hD4] at h; cases h) h) fun n a h => ok.clo_mut n a H4 D _ _ hD4 trivial (fun _ z => nomatch z) h, tabs_mut rp4.tabs hD4 trivial (fun _ z => nomatch z)⟩
              have so5 : SrcOk G μ4 (upd H4 D (.lst (us ++ [yv]))) src J := so.per (pe5 (pe13.trans pe4) hD)
              exact ⟨μ4, S4, acc ++ [yd], us ++ [yv], rp5, pe5 (pe13.trans pe4) hD, ⟨((en2.per pe').per pe3).len, fun j d h => let ⟨v, h1, h2⟩ := (((en2.per pe').per pe3).per pe4).at_ j d h; ⟨v, h1, up5 h2⟩⟩, so5, upd_same, nD4, up5A (da4.snoc dy), p5⟩
        · exact p2.elim
      · rename_i e
        exact .inl (stop e p2)
      · exact p2.elim
end Dx

/-! Dx7: comprehensions as expressions, defs and calls, built-ins. -/
namespace Dx
open PySem PySem.Spec L2
variable {G : Gx} {X : Cx} {W : WX}

theorem de_lc {elt tg iter : Expr} {ifs : List Expr} {scope : Scope} {own : List (Str × Nat)} {pos : Pos} {fs : FI} {fg : FG} {t : FT} {e : FE} (hc : X.calm = true) (hN : X.N.Nodup) (A : Amb G X W) (hi : DI X G W tg iter fs) (ok : BlkOk X.N X.env.scope scope own)
    (gt : ∀ (s : Shared) (H : Hp) (C : Addr) (cl : List (Str × Addr)) (fp : List Addr), DG (X.blk s H scope (compEnvC scope cl C X.env) fp) G (own.map (·.2)) tg fg)
    (ht : ∀ (s : Shared) (H : Hp) (C : Addr) (cl : List (Str × Addr)) (fp : List Addr), PTs (X.blk s H scope (compEnvC scope cl C X.env) fp) ifs (TDT G W0 t))
    (he : ∀ (s : Shared) (H : Hp) (C : Addr) (cl : List (Str × Addr)) (fp : List Addr), PE (X.blk s H scope (compEnvC scope cl C X.env) fp) elt (TD G W0 e)) (hs : ∀ x, foldedSetIterable iter X.env x = pure x := by intro _; rfl) :
    PE X (.ListComp elt [⟨tg, iter, ifs, 0⟩] scope pos) (TD G W (xLc (own.map (·.2)) fs fg t e)) := by
  obtain ⟨wi, pi, wi'⟩ := hi
  have key : ∃ tgr : TG, (∀ (s : Shared) (H : Hp) (C : Addr) (cl : List (Str × Addr)) (fp : List Addr), PG (X.blk s H scope (compEnvC scope cl C X.env) fp) tg tgr) ∧ GT G (own.map (·.2)) fg tgr := by
    refine ⟨fun v σ H Q => ∃ μ ρ S d ρ', EnvD G μ H ρ σ ∧ Rep G μ S H ∧ Den G μ H d v ∧ fg d ρ = some ρ' ∧ ∀ σ', EnvD G μ H ρ' σ' → wipe σ' (own.map (·.2)) = wipe σ (own.map (·.2)) → Q σ' H, fun s H C cl fp => ?_, fun μ H ρ σ S d v ρ' Q en rp dd e1 k => ⟨μ, ρ, S, d, ρ', en, rp, dd, e1, k⟩⟩
    obtain ⟨t0, p0, g0⟩ := gt s H C cl fp
    exact ⟨fun pins s σ H v u Q I r ⟨μ, ρ, S, d, ρ', en, rp, dd, e1, k⟩ => p0.run pins s σ H v u Q I r (g0 μ H ρ σ S d v ρ' Q en rp dd e1 k)⟩
  obtain ⟨tgr, pg, gt'⟩ := key
  exact PE.imp (pe_lc hc hN pi ok pg ht he hs) fun σ H Q q => lc_read A.ok wi' gt' q
/-- y = [.. for ..] on one line, y a local -/
theorem ds_setLc {i : Nat} {y : Str} {py : Pos} {elt tg iter : Expr} {ifs : List Expr} {scope : Scope} {own : List (Str × Nat)} {pos spos : Pos} {fs : FI} {fg : FG} {t : FT} {e : FE} (hc : X.calm = true) (hN : X.N.Nodup) (A : Amb G X W)
    (hsw : swapsWith (.ListComp elt [⟨tg, iter, ifs, 0⟩] scope pos) (some (.Name y py)) spos.line X.env = pure true) (hi : DI X G W tg iter fs) (ok : BlkOk X.N X.env.scope scope own)
    (gt : ∀ (s : Shared) (H : Hp) (C : Addr) (cl : List (Str × Addr)) (fp : List Addr), DG (X.blk s H scope (compEnvC scope cl C X.env) fp) G (own.map (·.2)) tg fg)
    (ht : ∀ (s : Shared) (H : Hp) (C : Addr) (cl : List (Str × Addr)) (fp : List Addr), PTs (X.blk s H scope (compEnvC scope cl C X.env) fp) ifs (TDT G W0 t))
    (he : ∀ (s : Shared) (H : Hp) (C : Addr) (cl : List (Str × Addr)) (fp : List Addr), PE (X.blk s H scope (compEnvC scope cl C X.env) fp) elt (TD G W0 e)) (hs : ∀ x, foldedSetIterable iter X.env x = pure x := by intro _; rfl)
    (hy : X.N[i]? = some y := by rfl) (hyl : X.env.scope.names.lookup y = some .local := by rfl) :
    PS X (.Assign [.Name y py] (.ListComp elt [⟨tg, iter, ifs, 0⟩] scope pos) spos) (TDS G W (sSet i (xLc (own.map (·.2)) fs fg t e))) := by
  obtain ⟨wi, pi, wi'⟩ := hi
  have key : ∃ tgr : TG, (∀ (s : Shared) (H : Hp) (C : Addr) (cl : List (Str × Addr)) (fp : List Addr), PG (X.blk s H scope (compEnvC scope cl C X.env) fp) tg tgr) ∧ GT G (own.map (·.2)) fg tgr := by
    refine ⟨fun v σ H Q => ∃ μ ρ S d ρ', EnvD G μ H ρ σ ∧ Rep G μ S H ∧ Den G μ H d v ∧ fg d ρ = some ρ' ∧ ∀ σ', EnvD G μ H ρ' σ' → wipe σ' (own.map (·.2)) = wipe σ (own.map (·.2)) → Q σ' H, fun s H C cl fp => ?_, fun μ H ρ σ S d v ρ' Q en rp dd e1 k => ⟨μ, ρ, S, d, ρ', en, rp, dd, e1, k⟩⟩
    obtain ⟨t0, p0, g0⟩ := gt s H C cl fp
    exact ⟨fun pins s σ H v u Q I r ⟨μ, ρ, S, d, ρ', en, rp, dd, e1, k⟩ => p0.run pins s σ H v u Q I r (g0 μ H ρ σ S d v ρ' Q en rp dd e1 k)⟩
  obtain ⟨tgr, pg, gt'⟩ := key
  refine PS.imp (ps_setLc hc hN hy hyl hsw pi ok pg ht he hs) fun Z σ H ⟨μ, ρ, S, en, rp, po⟩ => ?_
  exact lc_read A.ok wi' gt' ⟨μ, ρ, S, en, rp, (posts_go en po).mono fun v H1 ⟨μ1, d, S1, pe, rp1, dd, p1⟩ => PostS.now p1 rp1 ((en.per pe).set dd)⟩

/-! ### defs -/
abbrev FF := List D → Sg → R D
def dFun (N n : Nat) (g : FS) : FF := fun ds S => if ds.length = n then (match g (ds.map some ++ List.replicate (N - ds.length) none) S with
  | .nx _ S1 => .ok .non S1
  | .rt d S1 => .ok d S1
  | .exc c fs _ S1 => .exc c fs S1
  | _ => .stuck) else .stuck
def spD (G : Gx) (n : Nat) (F : FF) : Sp := fun vs H Q E => vs.length = n ∧ ∃ μ S ds, Rep G μ S H ∧ DenA G μ H ds vs ∧ Post (Den G) G (fun c d _ H => E c d H) μ H [] (F ds S) Q
theorem start_env {μ : List Addr} {H : Hp} {N : List Str} {ds : List D} {vs : List V} (h : DenA G μ H ds vs) (hl : ds.length ≤ N.length) : EnvD G μ H (ds.map some ++ List.replicate (N.length - ds.length) none) (L2.start N vs) := by
  unfold L2.start
  refine ⟨by simp [h.length], fun i d e => ?_⟩
  by_cases hi : i < ds.length
  · rw [List.getElem?_append_left (by simpa using hi), List.getElem?_map] at e
    obtain ⟨x, e1, e2⟩ := Option.map_eq_some_iff.mp e
    cases e2
    obtain ⟨v, h1, h2⟩ := h.get e1
    refine ⟨v, ?_, h2⟩
    rw [List.getElem?_append_left (by simpa [h.length] using (List.getElem?_eq_some_iff.mp h1).1), List.getElem?_map, h1]
    rfl
  · rw [List.getElem?_append_right (by simpa using hi)] at e
    have := List.mem_of_getElem? e
    have := List.eq_of_mem_replicate this
    cases this
theorem fn_ok {P : Program} {w : World} {K : PySem.W.Frag} {mg : Str → Option Value} {base : Heap} {x qual : Str} {st : Stmt} {f : Addr} {fd : FuncData} {N ps : List Str} {k : Nat} {g : FS} (F : Fun K x qual st f fd) (Sc : FnScope N ps (defScope st)) (hl : ps.length ≤ N.length)
    (hbody : ∀ (cdv : Value) (A : Around) (outer : List Env) (s : Shared) (H : Hp) (E : XK), Room k (A.deeper (PyProof.Rows.envOfC qual (defScope st) s.heap.objs.size f cdv)) →
      PSs (cxOf (L2.CX P w) P w K mg base N qual (defScope st) f cdv A outer s H E) (defBody st) (TDS G (fun c d _ H' => E c d H') g)) :
    FnOk P w K mg base (L2.CX P w) (k + 1) f fd ps (spD G ps.length (dFun N.length ps.length g)) := by
  refine F.okX Sc (fun vs H Q E h => h.1) (fun cdv A outer s H vs Q E hr h => ⟨_, hbody cdv A outer s H E hr, ?_⟩)
  obtain ⟨hv, μ, S, ds, rp, dd, po⟩ := h
  refine ⟨μ, _, S, start_env dd (by rw [dd.length, hv]; exact hl), rp, ?_⟩
  unfold dFun at po
  obtain ⟨c, po⟩ := post_ite po
  revert po
  generalize g (ds.map some ++ List.replicate (N.length - ds.length) none) S = fl
  intro po
  cases fl with
  | nx ρ' S' => exact fun μ' H' σ' p r e => po μ' H' _ p r .non
  | rt d S' => exact po
  | bk ρ' S' => exact po.elim
  | ct ρ' S' => exact po.elim
  | exc c fs ρ' S' => exact fun μ' H' σ' cls dd p r e x => po μ' H' cls dd p r x
  | stuck => exact po.elim
/-- the context of a def's body -/
theorem amb_fn {P : Program} {K : PySem.W.Frag} {mg : Str → Option Value} {base : Heap} {N : List Str} {qual : Str} {scope : Scope} {f : Addr} {cdv : Value} {A : Around} {outer : List Env} {s : Shared} {H : Hp} {E : XK} {k : Nat} {w : World} (hK : K = G.K) (hw : w = G.w) (ok : G.Ok) (hr : Room (k + 1) (A.deeper (PyProof.Rows.envOfC qual scope s.heap.objs.size f cdv))) :
    Amb G (cxOf (L2.CX P w) P w K mg base N qual scope f cdv A outer s H E) (fun c d _ H' => E c d H') :=
  ⟨hK, hw, ok, takes_of rfl rfl rfl rfl, by have h1 := hr.un; show (A.deeper (PyProof.Rows.envOfC qual scope s.heap.objs.size f cdv)).units + 65 < cLine; omega, passes_of rfl⟩
/-- a def as callers know it -/
structure DefD (P : Program) (w : World) (K : PySem.W.Frag) (mg : Str → Option Value) (base : Heap) (G : Gx) (k : Nat) (x : Str) (n : Nat) (F : FF) : Prop where
  ex : ∃ f fd ps, FnOk P w K mg base (L2.CX P w) k f fd ps (spD G n F) ∧ mg x = some (.ref f) ∧ PySem.W.keepIn K (.ref f) = true ∧ Binds K fd ps []
theorem DefD.mono {P : Program} {w : World} {K : PySem.W.Frag} {mg : Str → Option Value} {base : Heap} {j k n : Nat} {x : Str} {F : FF} (d : DefD P w K mg base G j x n F) (h : j ≤ k) : DefD P w K mg base G k x n F := by
  obtain ⟨f, fd, ps, a, b, c, e⟩ := d.ex
  exact ⟨f, fd, ps, a.mono h, b, c, e⟩
def xCall (F : FF) (n : Nat) (g : FA) : FE := fun ρ S => (g ρ S).bind fun ds S1 => if ds.length = n then F ds S1 else .stuck
theorem de_call {x : Str} {p pos : Pos} {e : Expr} {es : List Expr} {g : FA} {F : FF} {k j n : Nat} (A : Amb G X W) (d : DefD X.prog X.w X.K X.mg X.base G j x n F) (hr : Room k X.A) (hk : j ≤ k) (ha : PA X (e :: es) (TDA G W g)) (hg : Gl X x := by rfl)
    (hdb : (x == ("__debug__" : Str)) = false := by decide) (he : starEach (e :: es) X.env = (false, eval e X.env) :: starEach es X.env := by rfl) (hpl : (backTo pos (starEach es X.env)).any (·.1) = false := by rfl) :
    PE X (.Call (.Name x p) (e :: es) [] pos) (TD G W (xCall F n g)) := by
  obtain ⟨f, fd, ps, Fo, hm, hkp, hb⟩ := d.ex
  refine PE.imp (pe_callS Fo (hr.mono hk) hg hm hkp hb (fun σ => passAt A.tk σ) ha hdb he hpl) fun σ H Q ⟨μ, ρ, S, en, rp, po⟩ => ⟨μ, ρ, S, en, rp, (post_bind po).mono fun vs H1 ⟨μ1, ds, S1, pe, rp1, dd, p1⟩ => ?_⟩
  obtain ⟨c, p2⟩ := post_ite p1
  refine ⟨by rw [← dd.length]; exact c, μ1, S1, ds, rp1, dd, ?_⟩
  revert p2
  generalize F ds S1 = r
  intro p2
  cases r with
  | ok a S' => exact p2
  | exc c fs S' => exact p2
  | stuck => exact p2

/-! ### built-ins by values -/
abbrev CV := List D → Sg → R D
def CallV (G : Gx) (W : WX) (r : List V → Hp → VK → Prop) (h : CV) : Prop := ∀ μ S H xs ds σ Q, Rep G μ S H → DenA G μ H ds xs → Post (Den G) G W μ H σ (h ds S) Q → r xs H Q
def xB (h : CV) (g : FA) : FE := fun ρ S => (g ρ S).bind fun ds S1 => h ds S1
theorem td_cb {r : List V → Hp → VK → Prop} {h : CV} {g : FA} (o : CallV G W r h) {σ : L2.St} {H : Hp} {Q : VK} (q : TD G W (xB h g) σ H Q) : tCB r (TDA G W g) σ H Q := by
  obtain ⟨μ, ρ, S, en, rp, po⟩ := q
  exact ⟨μ, ρ, S, en, rp, (post_bind po).mono fun vs H1 ⟨μ1, ds, S1, pe, rp1, dd, p1⟩ => o _ _ _ _ _ _ _ rp1 dd p1⟩
theorem de_callB {x : Str} {id : String} {p pos : Pos} {e : Expr} {es : List Expr} {g : FA} {r : List V → Hp → VK → Prop} {h : CV} (hc : CallR X (.builtin id) r) (o : CallV G W r h) (hm : X.mg x = none) (hv : bootBuiltins x = some (.builtin id)) (ha : PA X (e :: es) (TDA G W g)) (hg : Gl X x := by rfl)
    (hn : x ≠ "__name__" := by decide) (hdb : (x == ("__debug__" : Str)) = false := by decide) (he : starEach (e :: es) X.env = (false, eval e X.env) :: starEach es X.env := by rfl) (hpl : (backTo pos (starEach es X.env)).any (·.1) = false := by rfl) :
    PE X (.Call (.Name x p) (e :: es) [] pos) (TD G W (xB h g)) := PE.imp (pe_callB hc hg hm hv ha hn hdb he hpl) fun σ H Q q => td_cb o q
theorem de_callTy {x : Str} {T : String} {p pos : Pos} {e : Expr} {es : List Expr} {g : FA} {r : List V → Hp → VK → Prop} {h : CV} (hc : CallR X (.type T) r) (o : CallV G W r h) (hm : X.mg x = none) (hv : bootBuiltins x = some (.type T)) (ha : PA X (e :: es) (TDA G W g)) (hg : Gl X x := by rfl)
    (hn : x ≠ "__name__" := by decide) (hdb : (x == ("__debug__" : Str)) = false := by decide) (he : starEach (e :: es) X.env = (false, eval e X.env) :: starEach es X.env := by rfl) (hpl : (backTo pos (starEach es X.env)).any (·.1) = false := by rfl) :
    PE X (.Call (.Name x p) (e :: es) [] pos) (TD G W (xB h g)) := PE.imp (pe_callTy hc hg hm hv ha hn hdb he hpl) fun σ H Q q => td_cb o q
/-- the items of a list or tuple -/
def itemsD (S : Sg) : D → Option (List D)
  | .tup xs => some xs
  | .ktup xs => some xs
  | .slist ns => some (ns.map .int)
  | d => seqOf S d
theorem items_den {μ : List Addr} {H : Hp} {S : Sg} {d : D} {v : V} {xs : List D} (rp : Rep G μ S H) (h : Den G μ H d v) (e : itemsD S d = some xs) : ∃ a vs, v = .ref a ∧ (SqL G.K H a vs ∨ SqT G.K H a vs) ∧ DenA G μ H xs vs := by
  cases h with
  | tup h1 h2 => simp [itemsD] at e; subst e; exact ⟨_, _, rfl, .inr (SqT.of h1), h2⟩
  | ktup h1 h2 => simp [itemsD] at e; subst e; exact ⟨_, _, rfl, .inr (h1 _), h2⟩
  | clist h1 h2 => simp [itemsD, seqOf] at e; subst e; exact ⟨_, _, rfl, .inl (cl_sqL h1), h2⟩
  | slist h1 => simp [itemsD] at e; subst e; exact ⟨_, _, rfl, .inl (sl_sqL h1), den_ints _⟩
  | ref h =>
    simp only [itemsD, seqOf] at e
    split at e
    · rename_i ys eo
      cases e
      obtain ⟨vs, h1, h2⟩ := RepO.sqL (rp.obj h eo)
      exact ⟨_, vs, rfl, .inl h1, h2⟩
    · cases e
  | _ => simp [itemsD, seqOf] at e
theorem seq_den {μ : List Addr} {H : Hp} {S : Sg} {d : D} {v : V} {xs : List D} (rp : Rep G μ S H) (h : Den G μ H d v) (e : seqOf S d = some xs) : ∃ a vs, v = .ref a ∧ SqL G.K H a vs ∧ DenA G μ H xs vs := by
  cases h with
  | clist h1 h2 => simp [seqOf] at e; subst e; exact ⟨_, _, rfl, cl_sqL h1, h2⟩
  | ref h =>
    simp only [seqOf] at e
    split at e
    · rename_i ys eo
      cases e
      obtain ⟨vs, h1, h2⟩ := RepO.sqL (rp.obj h eo)
      exact ⟨_, vs, rfl, h1, h2⟩
    · cases e
  | _ => simp [seqOf] at e
/-- len -/
def cLen : CV := fun ds S => match ds with
  | [.str s] => if s.length ≤ 16777216 then .ok (.int s.length) S else .stuck
  | [d] => match itemsD S d with
    | some xs => .ok (.int xs.length) S
    | none => match d with
      | .ref n => match S[n]? with
        | some (.dct kvs) => .ok (.int kvs.length) S
        | _ => .stuck
      | _ => .stuck
  | _ => .stuck
theorem cv_len : CallV G W (fun xs H Q => (∃ x n, xs = [x] ∧ LenV G.K x H n ∧ Q (.int n) H) ∨ ∃ a kvs, xs = [V.ref a] ∧ H a = some (.dK kvs) ∧ Q (.int kvs.length) H) cLen := by
  intro μ S H xs ds σ Q rp dd po
  unfold cLen at po
  split at po
  · cases dd with
    | cons d1 t =>
      cases t
      cases d1
      obtain ⟨c, p⟩ := post_ite po
      exact .inl ⟨_, _, rfl, ⟨by rw [ofS_len, sl_eq]; exact c, rfl⟩, by rw [ofS_len]; exact post_ok rp p (.int _)⟩
  · cases dd with
    | cons d1 t =>
      cases t
      split at po
      · rename_i ys e
        obtain ⟨a, vs, rfl, h1, h2⟩ := items_den rp d1 e
        refine .inl ⟨_, vs.length, rfl, h1.elim (fun h => .inl ⟨vs, h, rfl⟩) (fun h => .inr ⟨vs, h, rfl⟩), ?_⟩
        rw [← h2.length]
        exact post_ok rp po (.int _)
      · split at po
        · split at po
          · rename_i kvs eo
            cases d1 with
            | ref h =>
              obtain ⟨gs, h1, h2⟩ := rp.obj h eo
              refine .inr ⟨_, gs, rfl, h1, ?_⟩
              rw [← h2.length]
              exact post_ok rp po (.int _)
          · exact po.elim
        · exact po.elim
  · exact po.elim
theorem de_len {e : Expr} {p pos : Pos} {g : FA} (A : Amb G X W) (hm : X.mg "len" = none) (ha : PA X [e] (TDA G W g)) (hg : Gl X "len" := by rfl) (he : starEach [e] X.env = (false, eval e X.env) :: starEach [] X.env := by rfl) (hpl : (backTo pos (starEach [] X.env)).any (·.1) = false := by rfl) : PE X (.Call (.Name "len" p) [e] [] pos) (TD G W (xB cLen g)) :=
  de_callB (r := fun xs H Q => (∃ x n, xs = [x] ∧ LenV G.K x H n ∧ Q (.int n) H) ∨ ∃ a kvs, xs = [V.ref a] ∧ H a = some (.dK kvs) ∧ Q (.int kvs.length) H) (by have := (call_len (X := X)).or call_lenD; rw [A.hK] at this; exact this) cv_len hm PySem.boot_len ha hg (by decide) (by decide) he hpl
/-- int of an int or a bool -/
def cInt : CV := fun ds S => match ds with
  | [.int i] => .ok (.int i) S
  | [.bl b] => .ok (.int (if b then 1 else 0)) S
  | _ => .stuck
theorem cv_int : CallV G W (fun xs H Q => (∃ i, xs = [.int i] ∧ Q (.int i) H) ∨ ∃ k, xs = [.bl k] ∧ Q (.int (if k then 1 else 0)) H) cInt := by
  intro μ S H xs ds σ Q rp dd po
  unfold cInt at po
  split at po
  · cases dd with
    | cons d1 t => cases t; cases d1; exact .inl ⟨_, rfl, post_ok rp po (.int _)⟩
  · cases dd with
    | cons d1 t => cases t; cases d1; exact .inr ⟨_, rfl, post_ok rp po (.int _)⟩
  · exact po.elim
theorem de_int1 {e : Expr} {p pos : Pos} {g : FA} (hm : X.mg "int" = none) (ha : PA X [e] (TDA G W g)) (hg : Gl X "int" := by rfl) (he : starEach [e] X.env = (false, eval e X.env) :: starEach [] X.env := by rfl) (hpl : (backTo pos (starEach [] X.env)).any (·.1) = false := by rfl) : PE X (.Call (.Name "int" p) [e] [] pos) (TD G W (xB cInt g)) :=
  de_callTy call_int1 cv_int hm PyProof.Rows.boot_int ha hg (by decide) (by decide) he hpl
/-- list, tuple of a list or tuple -/
def cList1 : CV := fun ds S => match ds with
  | [d] => match itemsD S d with
    | some xs => newO (.lst xs) S
    | none => .stuck
  | _ => .stuck
def cTuple : CV := fun ds S => match ds with
  | [d] => match tupOf d with
    | some _ => .ok d S
    | none => match seqOf S d with
      | some xs => .ok (.tup xs) S
      | none => .stuck
  | _ => .stuck
theorem cv_list (g : G.Ok) : CallV G W (fun xs H Q => ∃ p ys, xs = [.ref p] ∧ (SqL G.K H p ys ∨ SqT G.K H p ys) ∧ ∀ l, H l = none → Q (.ref l) (upd H l (.lst ys))) cList1 := by
  intro μ S H xs ds σ Q rp dd po
  unfold cList1 at po
  split at po
  · cases dd with
    | cons d1 t =>
      cases t
      split at po
      · rename_i ys e
        obtain ⟨a, vs, rfl, h1, h2⟩ := items_den rp d1 e
        exact ⟨a, vs, rfl, h1, fun l hl => post_lst g rp h2 po hl⟩
      · exact po.elim
  · exact po.elim
theorem cv_tuple (g : G.Ok) : CallV G W (fun xs H Q => ∃ p ys, xs = [.ref p] ∧ ((SqL G.K H p ys ∧ ∀ l, H l = none → Q (.ref l) (upd H l (.tup ys))) ∨ (SqT G.K H p ys ∧ Q (.ref p) H))) cTuple := by
  intro μ S H xs ds σ Q rp dd po
  unfold cTuple at po
  split at po
  · cases dd with
    | cons d1 t =>
      cases t
      split at po
      · rename_i ys e
        obtain ⟨a, vs, rfl, h1, h2⟩ := tup_den d1 e
        exact ⟨a, vs, rfl, .inr ⟨h1, post_ok rp po d1⟩⟩
      · split at po
        · rename_i ys e
          obtain ⟨a, vs, rfl, h1, h2⟩ := seq_den rp d1 e
          exact ⟨a, vs, rfl, .inl ⟨h1, fun l hl => post_tup g rp h2 po hl⟩⟩
        · exact po.elim
  · exact po.elim
theorem de_list {e : Expr} {p pos : Pos} {g : FA} (A : Amb G X W) (hm : X.mg "list" = none) (ha : PA X [e] (TDA G W g)) (hg : Gl X "list" := by rfl) (he : starEach [e] X.env = (false, eval e X.env) :: starEach [] X.env := by rfl) (hpl : (backTo pos (starEach [] X.env)).any (·.1) = false := by rfl) : PE X (.Call (.Name "list" p) [e] [] pos) (TD G W (xB cList1 g)) :=
  de_callTy (r := fun xs H Q => ∃ p ys, xs = [.ref p] ∧ (SqL G.K H p ys ∨ SqT G.K H p ys) ∧ ∀ l, H l = none → Q (.ref l) (upd H l (.lst ys))) (by have := call_list_of (X := X); rw [A.hK] at this; exact this) (cv_list A.ok) hm PyProof.Rows.boot_list ha hg (by decide) (by decide) he hpl
theorem de_tuple {e : Expr} {p pos : Pos} {g : FA} (A : Amb G X W) (hm : X.mg "tuple" = none) (ha : PA X [e] (TDA G W g)) (hg : Gl X "tuple" := by rfl) (he : starEach [e] X.env = (false, eval e X.env) :: starEach [] X.env := by rfl) (hpl : (backTo pos (starEach [] X.env)).any (·.1) = false := by rfl) : PE X (.Call (.Name "tuple" p) [e] [] pos) (TD G W (xB cTuple g)) :=
  de_callTy (r := fun xs H Q => ∃ p ys, xs = [.ref p] ∧ ((SqL G.K H p ys ∧ ∀ l, H l = none → Q (.ref l) (upd H l (.tup ys))) ∨ (SqT G.K H p ys ∧ Q (.ref p) H))) (by have := call_tuple_of (X := X); rw [A.hK] at this; exact this) (cv_tuple A.ok) hm PyProof.Rows.boot_tuple ha hg (by decide) (by decide) he hpl
/-- ints, bools of a list -/
def intsOf : List D → Option (List Int)
  | [] => some []
  | .int i :: r => (intsOf r).map (i :: ·)
  | _ => none
def blsOf : List D → Option (List Bool)
  | [] => some []
  | .bl i :: r => (blsOf r).map (i :: ·)
  | _ => none
theorem ints_den {μ : List Addr} {H : Hp} : ∀ {ds : List D} {vs : List V} {ns : List Int}, DenA G μ H ds vs → intsOf ds = some ns → vs = ns.map V.int
  | [], _, _, .nil, e => by cases e; rfl
  | d :: ds, _, ns, .cons h t, e => by
    cases h <;> simp only [intsOf] at e
    all_goals first
      | (obtain ⟨m, e1, e2⟩ := Option.map_eq_some_iff.mp e; subst e2; rw [List.map_cons, ints_den t e1])
      | cases e
theorem bls_den {μ : List Addr} {H : Hp} : ∀ {ds : List D} {vs : List V} {ns : List Bool}, DenA G μ H ds vs → blsOf ds = some ns → vs = ns.map V.bl
  | [], _, _, .nil, e => by cases e; rfl
  | d :: ds, _, ns, .cons h t, e => by
    cases h <;> simp only [blsOf] at e
    all_goals first
      | (obtain ⟨m, e1, e2⟩ := Option.map_eq_some_iff.mp e; subst e2; rw [List.map_cons, bls_den t e1])
      | cases e
def cSum : CV := fun ds S => match ds with
  | [d] => match (seqOf S d).bind intsOf with
    | some ns => .ok (.int ns.sum) S
    | none => .stuck
  | _ => .stuck
def cAll : CV := fun ds S => match ds with
  | [d] => match (seqOf S d).bind blsOf with
    | some ns => .ok (.bl (ns.all id)) S
    | none => .stuck
  | _ => .stuck
def cAny : CV := fun ds S => match ds with
  | [d] => match (seqOf S d).bind blsOf with
    | some ns => .ok (.bl (ns.any id)) S
    | none => .stuck
  | _ => .stuck
theorem cv_sum : CallV G W (rSum G.K) cSum := by
  intro μ S H xs ds σ Q rp dd po
  unfold cSum at po
  split at po
  · cases dd with
    | cons d1 t =>
      cases t
      split at po
      · rename_i ns e
        obtain ⟨ys, e1, e2⟩ := Option.bind_eq_some_iff.mp e
        obtain ⟨a, vs, rfl, h1, h2⟩ := seq_den rp d1 e1
        have := ints_den h2 e2
        subst this
        exact ⟨a, ns, rfl, h1, post_ok rp po (.int _)⟩
      · exact po.elim
  · exact po.elim
theorem cv_all : CallV G W (rAll G.K) cAll := by
  intro μ S H xs ds σ Q rp dd po
  unfold cAll at po
  split at po
  · cases dd with
    | cons d1 t =>
      cases t
      split at po
      · rename_i ns e
        obtain ⟨ys, e1, e2⟩ := Option.bind_eq_some_iff.mp e
        obtain ⟨a, vs, rfl, h1, h2⟩ := seq_den rp d1 e1
        have := bls_den h2 e2
        subst this
        exact ⟨a, ns, rfl, h1, post_ok rp po (.bl _)⟩
      · exact po.elim
  · exact po.elim
theorem cv_any : CallV G W (rAny G.K) cAny := by
  intro μ S H xs ds σ Q rp dd po
  unfold cAny at po
  split at po
  · cases dd with
    | cons d1 t =>
      cases t
      split at po
      · rename_i ns e
        obtain ⟨ys, e1, e2⟩ := Option.bind_eq_some_iff.mp e
        obtain ⟨a, vs, rfl, h1, h2⟩ := seq_den rp d1 e1
        have := bls_den h2 e2
        subst this
        exact ⟨a, ns, rfl, h1, post_ok rp po (.bl _)⟩
      · exact po.elim
  · exact po.elim
theorem de_sum {e : Expr} {p pos : Pos} {g : FA} (A : Amb G X W) (hc : X.calm = true) (hm : X.mg "sum" = none) (ha : PA X [e] (TDA G W g)) (hg : Gl X "sum" := by rfl) (he : starEach [e] X.env = (false, eval e X.env) :: starEach [] X.env := by rfl) (hpl : (backTo pos (starEach [] X.env)).any (·.1) = false := by rfl) : PE X (.Call (.Name "sum" p) [e] [] pos) (TD G W (xB cSum g)) :=
  de_callB (r := rSum G.K) (by have := cr_sum hc; rw [A.hK] at this; exact this) cv_sum hm PyProof.Rows.boot_sum ha hg (by decide) (by decide) he hpl
theorem de_all {e : Expr} {p pos : Pos} {g : FA} (A : Amb G X W) (hc : X.calm = true) (hm : X.mg "all" = none) (ha : PA X [e] (TDA G W g)) (hg : Gl X "all" := by rfl) (he : starEach [e] X.env = (false, eval e X.env) :: starEach [] X.env := by rfl) (hpl : (backTo pos (starEach [] X.env)).any (·.1) = false := by rfl) : PE X (.Call (.Name "all" p) [e] [] pos) (TD G W (xB cAll g)) :=
  de_callB (r := rAll G.K) (by have := cr_all hc; rw [A.hK] at this; exact this) cv_all hm (by decide +kernel) ha hg (by decide) (by decide) he hpl
theorem de_any {e : Expr} {p pos : Pos} {g : FA} (A : Amb G X W) (hc : X.calm = true) (hm : X.mg "any" = none) (ha : PA X [e] (TDA G W g)) (hg : Gl X "any" := by rfl) (he : starEach [e] X.env = (false, eval e X.env) :: starEach [] X.env := by rfl) (hpl : (backTo pos (starEach [] X.env)).any (·.1) = false := by rfl) : PE X (.Call (.Name "any" p) [e] [] pos) (TD G W (xB cAny g)) :=
  de_callB (r := rAny G.K) (by have := cr_any hc; rw [A.hK] at this; exact this) cv_any hm (by decide +kernel) ha hg (by decide) (by decide) he hpl

/-! ### isinstance with a built-in class, with a tuple of two -/
def tyD (S : Sg) : D → Option String
  | .non => some "NoneType"
  | .bl _ => some "bool"
  | .int _ => some "int"
  | .str _ => some "str"
  | .tup _ => some "tuple"
  | .ktup _ => some "tuple"
  | .clist _ => some "list"
  | .ref n => match S[n]? with
    | some (.lst _) => some "list"
    | some (.dct _) => some "dict"
    | some (.dtt _) => some "dict"
    | _ => none
  | _ => none
def tyNames : List String := ["NoneType", "bool", "int", "str", "tuple", "list", "dict"]
def clNames : List String := ["bool", "int", "str", "tuple", "list", "dict"]
def isaT (t u : String) : Bool := decide (t = u) || (decide (t = "bool") && decide (u = "int"))
theorem isa_all : ∀ t ∈ tyNames, ∀ u ∈ clNames, kitB t u = some (isaT t u) := by decide +kernel
theorem kK {a : Addr} {K : PySem.W.Frag} {vs : List V} (h : ∀ H', SqT K H' a vs) : ∃ o, K.lookup a = some o ∧ o.cls = .type "tuple" := by
  rcases h (fun _ => none) with (z | ⟨q, z⟩) | ⟨o, its, n, h1, h2, _⟩
  · cases z
  · cases z
  · exact ⟨o, h1, h2⟩
theorem kL {a : Addr} {K : PySem.W.Frag} {vs : List V} (h : ∀ H', SqL K H' a vs) : ∃ o, K.lookup a = some o ∧ o.cls = .type "list" := by
  rcases h (fun _ => none) with (z | ⟨q, z⟩) | ⟨o, its, n, h1, h2, _⟩
  · cases z
  · cases z
  · exact ⟨o, h1, h2⟩
theorem ty_den {μ : List Addr} {H : Hp} {S : Sg} {d : D} {v : V} {t : String} (rp : Rep G μ S H) (h : Den G μ H d v) (e : tyD S d = some t) : TyX G.K H v (.type t) ∧ t ∈ tyNames := by
  cases h with
  | non => cases e; exact ⟨.base .non, by decide⟩
  | bl b => cases e; exact ⟨.base (.bl b), by decide⟩
  | int i => cases e; exact ⟨.base (.int i), by decide⟩
  | str s => cases e; exact ⟨.base (.str _), by decide⟩
  | tup h1 h2 => cases e; exact ⟨.base (.tup h1), by decide⟩
  | ktup h1 h2 => cases e; obtain ⟨o, a, b⟩ := kK h1; exact ⟨.kTuple a b, by decide⟩
  | clist h1 h2 =>
    cases e
    obtain ⟨q, h1⟩ := h1
    exact ⟨.base (.frz h1), by decide⟩
  | slist _ => cases e
  | cdict _ _ _ => cases e
  | clo _ => cases e
  | exv0 => cases e
  | exv _ _ => cases e
  | ref h =>
    simp only [tyD] at e
    split at e
    · rename_i xs eo
      cases e
      obtain ⟨vs, h1, _⟩ := rp.obj h eo
      exact ⟨.base (.lst h1), by decide⟩
    · rename_i xs eo
      cases e
      obtain ⟨vs, h1, _⟩ := rp.obj h eo
      exact ⟨.base (.dK h1), by decide⟩
    · rename_i xs eo
      cases e
      obtain ⟨vs, h1, _⟩ := rp.obj h eo
      exact ⟨.base (.dT h1), by decide⟩
    · cases e
def xIsi (f : FE) (us : List String) : FE := fun ρ S => (f ρ S).bind fun d S1 => match tyD S1 d with
  | some t => .ok (.bl (us.any (isaT t))) S1
  | none => .stuck
theorem de_isi {x : Str} {e : Expr} {p q pos : Pos} {f : FE} {u : String} (A : Amb G X W) (hm : X.mg "isinstance" = none) (he : PE X e (TD G W f)) (hx : X.mg x = none) (hv : bootBuiltins x = some (.type u)) (hu : u ∈ clNames := by decide) (hg : Gl X "isinstance" := by rfl) (hg2 : Gl X x := by rfl) (hn : x ≠ "__name__" := by decide) (hdb : (x == ("__debug__" : Str)) = false := by decide)
    (hs : starEach [e, .Name x q] X.env = (false, eval e X.env) :: starEach [.Name x q] X.env := by rfl) (hs2 : starEach [.Name x q] X.env = (false, eval (.Name x q) X.env) :: starEach [] X.env := by rfl) (hpl : (backTo pos (starEach [.Name x q] X.env)).any (·.1) = false := by rfl) :
    PE X (.Call (.Name "isinstance" p) [e, .Name x q] [] pos) (TD G W (xIsi f [u])) := by
  have hc := call_isi (X := X)
  rw [A.hK] at hc
  refine PE.imp (pe_callB hc hg hm PyProof.Rows.boot_isinstance (pa_cons he (pa_cons (pe_bltn (v := .ty u) hg2 hx hv rfl hn hdb) pa_nil hs2) hs) (by decide) (by decide) hs hpl) fun σ H Q ⟨μ, ρ, S, en, rp, po⟩ => ⟨μ, ρ, S, en, rp, (post_bind po).mono fun v H1 ⟨μ1, d, S1, pe, rp1, dd, p1⟩ => ?_⟩
  split at p1
  · rename_i t et
    obtain ⟨h1, h2⟩ := ty_den rp1 dd et
    refine ⟨_, _, _, _, isaT t u, rfl, .ty u, h1, kit_ty (isa_all t h2 u hu), ?_⟩
    have := post_ok rp1 p1 (.bl _)
    simpa using this
  · exact p1.elim
/-! ### methods of lists and dicts -/
def isL (S : Sg) : D → Bool
  | .clist _ => true
  | .ref n => match S[n]? with
    | some (.lst _) => true
    | _ => false
  | _ => false
theorem isL_den {μ : List Addr} {H : Hp} {S : Sg} {d : D} {v : V} (rp : Rep G μ S H) (h : Den G μ H d v) (e : isL S d = true) : tyV G.K "list" v H := by
  cases h with
  | clist h1 h2 => exact .inl ⟨rfl, _, cl_sqL h1⟩
  | ref h =>
    simp only [isL] at e
    split at e
    · rename_i xs eo
      obtain ⟨vs, h1, _⟩ := RepO.sqL (rp.obj h eo)
      exact .inl ⟨rfl, _, h1⟩
    · cases e
  | _ => cases e
abbrev MV := D → List D → Sg → R D
def MtV (G : Gx) (W : WX) (r : V → List V → Hp → VK → Prop) (h : MV) : Prop := ∀ μ S H x d xs ds σ Q, Rep G μ S H → Den G μ H d x → DenA G μ H ds xs → Post (Den G) G W μ H σ (h d ds S) Q → r x xs H Q
def xM (h : MV) (f : FE) (g : FA) : FE := fun ρ S => (f ρ S).bind fun d S1 => if isL S1 d = true then (g ρ S1).bind fun ds S2 => h d ds S2 else .stuck
theorem de_lm {o e : Expr} {es : List Expr} {name : Str} {id : String} {apos cpos : Pos} {r : V → List V → Hp → VK → Prop} {h : MV} {f : FE} {g : FA} (A : Amb G X W) (slot : Slot "list" name id) (hty : typeOf (.builtin id) = pure (.type "method_descriptor")) (hm : MtR X id r) (hv : MtV G W r h) (ho : PE X o (TD G W f)) (ha : PA X (e :: es) (TDA G W g))
    (hbase : attributeBase o name X.env (eval o X.env) = eval o X.env := by rfl)
    (hfew : ((backTo cpos (starEach (e :: es) X.env)).all (fun x => !x.1) && (backToKw cpos (keywordEach [] X.env)).all (fun x => x.1.isSome)
      && decide ((e :: es).length + ([] : List Keyword).length + (if ([] : List Keyword).isEmpty then 0 else 1) < 30)) = true := by rfl)
    (hline : (apos.endLine == cpos.line) = true := by rfl) (hs : starEach (e :: es) X.env = (false, eval e X.env) :: starEach es X.env := by rfl) (hplain : (backTo cpos (starEach es X.env)).any (·.1) = false := by rfl) :
    PE X (.Call (.Attribute o name apos) (e :: es) [] cpos) (TD G W (xM h f g)) := by
  refine PE.imp (pe_bm PySem.F.plainAttrs_list slot hty hm ho ha hbase hfew hline hs hplain) fun σ H Q ⟨μ, ρ, S, en, rp, po⟩ => ⟨μ, ρ, S, en, rp, (post_bind po).mono fun v H1 ⟨μ1, d, S1, pe, rp1, dd, p1⟩ => ?_⟩
  obtain ⟨c, p2⟩ := post_ite p1
  refine ⟨by rw [A.hK]; exact isL_den rp1 dd c, μ1, ρ, S1, en.per pe, rp1, (post_bind p2).mono fun xs H2 ⟨μ2, ds, S2, pe2, rp2, d2, p3⟩ => hv _ _ _ _ _ _ _ _ _ rp2 (dd.per pe2) d2 p3⟩
def mApp : MV := fun d ds S => match d, ds with
  | .ref n, [y] => match S[n]? with
    | some (.lst xs) => if xs.length < 16777216 then .ok .non (S.set n (.lst (xs ++ [y]))) else .stuck
    | _ => .stuck
  | _, _ => .stuck
theorem mv_app (g : G.Ok) : MtV G W rAppend mApp := by
  intro μ S H x d xs ds σ Q rp hx hxs po
  unfold mApp at po
  split at po
  · rename_i n y
    split at po
    · rename_i ys eo
      obtain ⟨c, p⟩ := post_ite po
      cases hx with
      | ref hn =>
        cases hxs with
        | cons d1 t =>
          cases t
          obtain ⟨vs, h1, h2⟩ := rp.obj hn eo
          rename_i a v
          obtain ⟨r, pe⟩ := rp.write g (u := .lst (vs ++ [v])) (o' := .lst (ys ++ [y])) hn eo fun H' p h => ⟨_, h, (h2.snoc d1).per p⟩
          exact ⟨a, vs, v, rfl, rfl, h1, by rw [sl_eq, ← h2.length]; exact c, p _ _ _ pe r .non⟩
    · exact po.elim
  · exact po.elim
theorem de_append {o e : Expr} {apos cpos : Pos} {f : FE} {g : FA} (A : Amb G X W) (ho : PE X o (TD G W f)) (ha : PA X [e] (TDA G W g)) (hbase : attributeBase o "append" X.env (eval o X.env) = eval o X.env := by rfl)
    (hfew : ((backTo cpos (starEach [e] X.env)).all (fun x => !x.1) && (backToKw cpos (keywordEach [] X.env)).all (fun x => x.1.isSome) && decide (([e] : List Expr).length + ([] : List Keyword).length + (if ([] : List Keyword).isEmpty then 0 else 1) < 30)) = true := by rfl)
    (hline : (apos.endLine == cpos.line) = true := by rfl) (hs : starEach [e] X.env = (false, eval e X.env) :: starEach [] X.env := by rfl) (hplain : (backTo cpos (starEach [] X.env)).any (·.1) = false := by rfl) : PE X (.Call (.Attribute o "append" apos) [e] [] cpos) (TD G W (xM mApp f g)) :=
  de_lm A PySem.F.slot_list_append PySem.F.type_list_append mt_append (mv_app A.ok) ho ha hbase hfew hline hs hplain
/-- xs.index(y), flat -/
def mIdx : MV := fun d ds S => match ds with
  | [y] => match seqOf S d with
    | some ys => if flatD y = true ∧ ys.all flatD = true then (match ys.mapM (pyOf 8 S), pyOf 9 S y with
      | some ps, some p => match ps.findIdx? fun z => PyData.eqv z p with
        | some j => .ok (.int (j : Nat)) S
        | none => .stuck
      | _, _ => .stuck) else .stuck
    | none => .stuck
  | _ => .stuck
theorem flat_each {μ : List Addr} {H : Hp} {S : Sg} {d : D} {v : V} {p : PyData} (f : flatD d = true) (h : Den G μ H d v) (e : pyOf 9 S d = some p) :
    ∀ (xs : List D) (vs : List V) (ps : List PyData), xs.all flatD = true → DenA G μ H xs vs → xs.mapM (pyOf 8 S) = some ps → vs.length = ps.length ∧ ∀ (j : Nat) (z : V) (q : PyData), vs[j]? = some z → ps[j]? = some q → eqV z v = PyData.eqv q p
  | [], _, ps, _, .nil, g => by simp at g; subst g; exact ⟨rfl, fun j z q e => by simp at e⟩
  | x :: xs, _, ps, fa, .cons h1 t, g => by
    simp only [List.all_cons, Bool.and_eq_true] at fa
    rw [List.mapM_cons] at g
    obtain ⟨q, e1, e2⟩ := Option.bind_eq_some_iff.mp g
    obtain ⟨qs, e3, e4⟩ := Option.bind_eq_some_iff.mp e2
    cases e4
    obtain ⟨l, a⟩ := flat_each f h e xs _ _ fa.2 t e3
    have e9 : pyOf 9 S x = some q := by rw [flat_pyn fa.1 9 8]; exact e1
    obtain ⟨_, c2⟩ := flat_py f h e
    refine ⟨by simp [l], fun j z r h3 h4 => ?_⟩
    cases j with
    | zero => simp at h3 h4; subst h3; subst h4; exact c2 _ _ _ fa.1 h1 e9
    | succ j => exact a j z r (by simpa using h3) (by simpa using h4)
theorem mv_idx : MtV G W (rIndex G.K) mIdx := by
  intro μ S H x d xs ds σ Q rp hx hxs po
  unfold mIdx at po
  split at po
  · rename_i y
    split at po
    · rename_i ys es
      obtain ⟨⟨c1, c2⟩, p⟩ := post_ite po
      cases hxs with
      | cons d1 t =>
        cases t
        obtain ⟨a, vs, rfl, h1, h2⟩ := seq_den rp hx es
        split at p
        · rename_i ps q e1 e2
          obtain ⟨f1, f2⟩ := flat_all c1 d1 e2 _ _ _ c2 h2 e1
          obtain ⟨l, f3⟩ := flat_each c1 d1 e2 _ _ _ c2 h2 e1
          obtain ⟨b1, _⟩ := flat_py c1 d1 e2
          split at p
          · rename_i j ej
            obtain ⟨hj, g1, g2⟩ := List.findIdx?_eq_some_iff_getElem.mp ej
            have hjv : j < vs.length := by omega
            refine ⟨a, vs, _, j, vs[j], rfl, rfl, h1, b1, f1, by simp [hjv], ?_, fun m z' hm hz => ?_, post_ok rp p (.int _)⟩
            · rw [f3 j vs[j] ps[j] (by simp [hjv]) (by simp [hj])]
              exact g1
            · have hmp : m < ps.length := by omega
              rw [f3 m z' ps[m] hz (by simp [hmp])]
              have := g2 m hm
              simpa using this
          · exact p.elim
        · exact p.elim
    · exact po.elim
  · exact po.elim
theorem de_index {o e : Expr} {apos cpos : Pos} {f : FE} {g : FA} (A : Amb G X W) (ho : PE X o (TD G W f)) (ha : PA X [e] (TDA G W g)) (hbase : attributeBase o "index" X.env (eval o X.env) = eval o X.env := by rfl)
    (hfew : ((backTo cpos (starEach [e] X.env)).all (fun x => !x.1) && (backToKw cpos (keywordEach [] X.env)).all (fun x => x.1.isSome) && decide (([e] : List Expr).length + ([] : List Keyword).length + (if ([] : List Keyword).isEmpty then 0 else 1) < 30)) = true := by rfl)
    (hline : (apos.endLine == cpos.line) = true := by rfl) (hs : starEach [e] X.env = (false, eval e X.env) :: starEach [] X.env := by rfl) (hplain : (backTo cpos (starEach [] X.env)).any (·.1) = false := by rfl) : PE X (.Call (.Attribute o "index" apos) [e] [] cpos) (TD G W (xM mIdx f g)) :=
  de_lm A PySem.F.slot_list_index PySem.F.type_list_index (r := rIndex G.K) (by have := mt_index (X := X); rw [A.hK] at this; exact this) mv_idx ho ha hbase hfew hline hs hplain
end Dx

/-! Dx8: constants of the top, dict displays, get, zip, minus, defs by name. -/
namespace Dx
open PySem PySem.Spec L2
variable {G : Gx} {X : Cx} {W : WX}

/-- a module's constant holds d -/
def GlobD (K : PySem.W.Frag) (mg : Str → Option Value) (G : Gx) (x : Str) (d : D) : Prop := ∃ v u, mg x = some u ∧ RelV v u ∧ ∀ μ H, Den G μ H d v
theorem de_gl {x : Str} {d : D} {pos : Pos} (h : GlobD X.K X.mg G x d) (hg : Gl X x := by rfl) (hd : (x == ("__debug__" : Str)) = false := by decide) : PE X (.Name x pos) (TD G W (xC d)) := by
  obtain ⟨v, u, hm, r, k⟩ := h
  exact de_glob hm r k hg hd
/-! ### minus -/
def xNeg (f : FE) : FE := fun ρ S => (f ρ S).bind fun d S1 => match d with
  | .int i => .ok (.int (-i)) S1
  | _ => .stuck
theorem de_neg {a : Expr} {pos : Pos} {f : FE} (ha : PE X a (TD G W f)) : PE X (.UnaryOp .USub a pos) (TD G W (xNeg f)) := by
  refine PE.imp (pe_un un_neg ha) fun σ H Q ⟨μ, ρ, S, en, rp, po⟩ => ⟨μ, ρ, S, en, rp, (post_bind po).mono fun v H1 ⟨μ1, d, S1, pe, rp1, dd, p1⟩ => ?_⟩
  split at p1
  · cases dd
    exact ⟨_, rfl, post_ok rp1 p1 (.int _)⟩
  · exact p1.elim
/-! ### {..} -/
def kD : Key → D → Key × D := fun k d => (k, d)
def dpGo : List (Key × FE) → Ev → Sg → R (List (Key × D))
  | [], _, S => .ok [] S
  | (k, f) :: r, ρ, S => (f ρ S).bind fun d S1 => (dpGo r ρ S1).bind fun ps S2 => .ok ((k, d) :: ps) S2
def mergeD (kvs : List (Key × D)) : List (Key × D) := kvs.foldl (fun acc kv => putD acc kv.1 kv.2) []
def xDct (fs : List (Key × FE)) : FE := fun ρ S => (dpGo fs ρ S).bind fun ps S1 => newO (.dct (mergeD ps)) S1
def keyE : Key → Const
  | .inl i => .int i
  | .inr s => .str s
/-- the parts of a display: keys written, values by their steps -/
def DPs (X : Cx) (G : Gx) (W : WX) (pos : Pos) (keys : List (Option Expr)) (values : List Expr) (fs : List (Key × FE)) : Prop :=
  PPs X pos keys values (fs.map fun p => (tC (kV p.1), TD G W p.2)) ∧ keys.all (·.isSome) = true ∧ keys.length = values.length ∧ fs.length = keys.length
theorem dps_nil {pos : Pos} : DPs X G W pos [] [] [] := ⟨pps_nil, rfl, rfl, rfl⟩
theorem dps_str {pos : Pos} {k : String} {j : Nat} {p2 : Pos} {v : Expr} {ks : List (Option Expr)} {vs : List Expr} {f : FE} {fs : List (Key × FE)} (hv : PE X v (TD G W f)) (h : DPs X G W pos ks vs fs) :
    DPs X G W pos (some (.Constant (.str (Str.ofString k)) j p2) :: ks) (v :: vs) ((.inr (Str.ofString k), f) :: fs) := ⟨pps_cons pe_str hv h.1, by simp [h.2.1], by simp [h.2.2.1], by simp [h.2.2.2]⟩
theorem dps_int {pos : Pos} {k : Int} {j : Nat} {p2 : Pos} {v : Expr} {ks : List (Option Expr)} {vs : List Expr} {f : FE} {fs : List (Key × FE)} (hv : PE X v (TD G W f)) (h : DPs X G W pos ks vs fs) :
    DPs X G W pos (some (.Constant (.int k) j p2) :: ks) (v :: vs) ((.inl k, f) :: fs) := ⟨pps_cons pe_int hv h.1, by simp [h.2.1], by simp [h.2.2.1], by simp [h.2.2.2]⟩
theorem denK_merge {μ : List Addr} {H : Hp} : ∀ {ps : List (Key × D)} {qs : List (Key × V)} {fs : List (Key × D)} {gs : List (Key × V)}, DenK G μ H ps qs → DenK G μ H fs gs → DenK G μ H (ps.foldl (fun acc kv => putD acc kv.1 kv.2) fs) (qs.foldl (fun acc kv => putK acc kv.1 kv.2) gs)
  | [], qs, _, _, h, k => by
    have : qs = [] := List.map_eq_nil_iff.mp h.1
    subst this
    exact k
  | p :: ps, [], _, _, h, k => by have := h.1; simp at this
  | p :: ps, q :: qs, fs, gs, h, k => by
    obtain ⟨h1, h2⟩ := h
    simp only [List.map_cons, List.cons.injEq] at h1
    cases h2 with
    | cons a b =>
      rw [List.foldl_cons, List.foldl_cons]
      refine denK_merge (ps := ps) (qs := qs) ⟨h1.2, b⟩ ?_
      rw [h1.1]
      exact denK_put k a
/-- the pairs are evaluated beside a tracked thing without a number -/
theorem dp_read {D0 : Addr} {u : HO} {μ0 : List Addr} {H0 : Hp} {σ : L2.St} {Q : VK} {ρ : Ev} (hT : ∀ ps, u ≠ .tbl ps) :
    ∀ (fs : List (Key × FE)) {μ : List Addr} {H : Hp} {S : Sg} (acc : List (Key × D)) (as : List (Key × V)) (RR : List (V × V) → Hp → Prop), Rep G μ S H → EnvD G μ H ρ σ → H D0 = some u → (∀ n : Nat, μ[n]? ≠ some D0) →
      Post (fun μ H ps (_ : Unit) => True) G W μ H σ (dpGo fs ρ S) (fun _ _ => True) → 
      (∀ μ' H' S' ps qs, Per G μ H μ' H' → Rep G μ' S' H' → DenK G μ' H' ps qs → dpGo fs ρ S = .ok ps S' → RR (qs.map fun kv => (kV kv.1, kv.2)) H') →
      tPairs (fs.map fun p => (tC (kV p.1), TD G W p.2)) σ H RR := by
  intro fs
  induction fs with
  | nil => intro μ H S acc as RR rp en hD nD po k; exact k μ H S [] [] .refl rp ⟨rfl, .nil⟩ rfl
  | cons p fs ih =>
    intro μ H S acc as RR rp en hD nD po k
    obtain ⟨key, f⟩ := p
    show TD G W f σ H fun y H2 => tPairs _ σ H2 fun ps H3 => RR ((kV key, y) :: ps) H3
    refine ⟨μ, ρ, S, en, rp, ?_⟩
    unfold dpGo at po k
    revert po k
    generalize f ρ S = r
    intro po k
    cases r with
    | exc c gs S' => exact po
    | stuck => exact po.elim
    | ok d S1 =>
      intro μ1 H1 v pe rp1 dd
      have po' : Post (fun μ H ps (_ : Unit) => True) G W μ H σ ((dpGo fs ρ S1).bind fun ps S2 => R.ok ((key, d) :: ps) S2) (fun _ _ => True) := po
      obtain ⟨hD1, nD1⟩ := pe.fr D0 u hD hT nD
      refine ih acc as _ rp1 (en.per pe) hD1 nD1 ?_ fun μ' H' S' ps qs pe' rp' dk e => ?_
      · have := Post.per po' pe
        revert this
        generalize dpGo fs ρ S1 = r2
        intro this
        cases r2 with
        | ok ps S2 => exact fun _ _ _ _ _ _ => trivial
        | exc c gs S' => exact this
        | stuck => exact this
      · refine k μ' H' S' ((key, d) :: ps) ((key, v) :: qs) (pe.trans pe') rp' ⟨by simp [dk.1], .cons (dd.per pe') dk.2⟩ ?_
        show ((dpGo fs ρ S1).bind fun ps S2 => R.ok ((key, d) :: ps) S2) = _
        rw [e]
        rfl
theorem de_dct {keys : List (Option Expr)} {values : List Expr} {pos : Pos} {fs : List (Key × FE)} (A : Amb G X W) (h : DPs X G W pos keys values fs) (h0 : keys ≠ [] := by intro z; cases z) (h15 : keys.length ≤ 15 := by decide) : PE X (.Dict keys values pos) (TD G W (xDct fs)) := by
  obtain ⟨pp, ha, hl, hf⟩ := h
  refine PE.imp (pe_disp pp ha hl h0 h15) fun σ H Q ⟨μ, ρ, S, en, rp, po⟩ => fun p hp => ?_
  have pn : Per G μ H μ (upd H p (.dK [])) := per_new A.ok hp
  have np : ∀ n : Nat, μ[n]? ≠ some p := fun n z => by
    obtain ⟨o, eo, ro⟩ := rp.there z
    obtain ⟨w, e, _⟩ := ro.some
    rw [hp] at e; cases e
  refine dp_read (D0 := p) (u := .dK []) (μ0 := μ) (H0 := H) (Q := Q) (fun _ z => nomatch z) fs [] [] _ (rp.new A.ok hp) (en.per pn) upd_same np ?_ fun μ' H' S' ps qs pe rp' dk e => ?_
  · have := Post.per po pn
    unfold xDct at this
    revert this
    generalize dpGo fs ρ S = r2
    intro this
    cases r2 with
    | ok ps S2 => exact fun _ _ _ _ _ _ => trivial
    | exc c gs S' => exact this
    | stuck => exact this
  · obtain ⟨hp', np'⟩ := pe.fr p _ upd_same (fun _ z => nomatch z) np
    refine ⟨hp', qs, rfl, ?_, ?_⟩
    · have l1 : ∀ (fs : List (Key × FE)) (S : Sg) (ps : List (Key × D)) (S' : Sg), dpGo fs ρ S = .ok ps S' → ps.length = fs.length := by
        intro fs
        induction fs with
        | nil => intro S ps S' e; cases e; rfl
        | cons q fs ih =>
          intro S ps S' e
          obtain ⟨key, f⟩ := q
          unfold dpGo at e
          cases hr : f ρ S with
          | ok d S1 =>
            rw [hr] at e
            simp only [R.bind] at e
            cases hr2 : dpGo fs ρ S1 with
            | ok ps2 S2 => rw [hr2] at e; cases e; simp [ih S1 ps2 _ hr2]
            | exc c gs S' => rw [hr2] at e; cases e
            | stuck => rw [hr2] at e; cases e
          | exc c gs S' => rw [hr] at e; cases e
          | stuck => rw [hr] at e; cases e
      have := l1 fs S ps S' e
      have := dk.length
      omega
    · unfold xDct at po
      rw [e] at po
      have pw : Per G μ H μ' H' := pn.trans pe
      have dk2 := denK_merge dk (fs := []) (gs := []) ⟨rfl, .nil⟩
      have ne : ∀ (n : Nat) (a : Addr), μ'[n]? = some a → a ≠ p := fun n a h z => np' n (by rw [h, z])
      have stay : ∀ (b : Addr) (u : HO), b ≠ p → H' b = some u → (upd H' p (.dK (mergeK [] qs))) b = some u := fun b u hb h => by rw [upd_ne hb]; exact h
      have up5A : ∀ {ds : List Dx.D} {vs : List V}, DenA G μ' H' ds vs → DenA G μ' (upd H' p (.dK (mergeK [] qs))) ds vs := fun h => h.heap (fun a xs h => stay a _ (fun z => by rw [z, hp'] at h; cases h) h) (fun a q u h => stay a _ (fun z => by rw [z, hp'] at h; cases h) h) fun n a h => A.ok.clo_mut n a H' p _ _ hp' trivial (fun _ z => nomatch z) h
      have rp5 : Rep G μ' S' (upd H' p (.dK (mergeK [] qs))) := ⟨rp'.len, rp'.nd, fun n o a h1 h2 => (rp'.at_ n o a h1 h2).heap (upd_ne (ne n a h2)) (fun a q u h => stay a _ (fun z => by rw [z, hp'] at h; cases h) h) (fun a xs h => stay a _ (fun z => by rw [z, hp'] at h; cases h) h) fun n a h => A.ok.clo_mut n a H' p _ _ hp' trivial (fun _ z => nomatch z) h, tabs_mut rp'.tabs hp' trivial (fun _ z => nomatch z)⟩
      have pe5 : Per G μ H μ' (upd H' p (.dK (mergeK [] qs))) :=
        ⟨pw.ext, fun a xs h => stay a _ (ne_of_none h hp) (pw.tup a xs h), fun a q u h => stay a _ (ne_of_none h hp) (pw.frz a q u h), fun n a h => A.ok.clo_mut n a H' p _ _ hp' trivial (fun _ z => nomatch z) (pw.clo n a h),
          fun a u h t k => ⟨stay a _ (ne_of_none h hp) (pw.fr a u h t k).1, (pw.fr a u h t k).2⟩⟩
      refine po (μ' ++ [p]) _ _ (per_adopt pe5 hp) (rp5.adopt np' fun μ2 ex => ⟨_, upd_same, dk2.1, (up5A dk2.2).up ex⟩) (.ref ?_)
      rw [← rp'.len, List.getElem?_append_right (Nat.le_refl _), Nat.sub_self]
      rfl
/-! ### d.get(k, x) -/
def xGet2 (f g h : FE) : FE := fun ρ S => (f ρ S).bind fun o S1 => (if isDc S1 o = true then (g ρ S1).bind fun k S2 => (h ρ S2).bind fun x S3 => match o with
  | .ref n => match dgetD S3 n k with
    | some (some d) => .ok d S3
    | some none => .ok x S3
    | none => .stuck
  | _ => .stuck else .stuck)
where isDc (S : Sg) : D → Bool
  | .ref n => match S[n]? with
    | some (.dct _) => true
    | some (.dtt _) => true
    | _ => false
  | _ => false
theorem de_get2 {o e f : Expr} {apos cpos : Pos} {fo fe ff : FE} (A : Amb G X W) (ho : PE X o (TD G W fo)) (he : PE X e (TD G W fe)) (hf : PE X f (TD G W ff))
    (m : M2 X o "get" apos e f cpos := by exact ⟨rfl, rfl, rfl, rfl⟩) : PE X (.Call (.Attribute o "get" apos) [e, f] [] cpos) (TD G W (xGet2 fo fe ff)) := by
  refine PE.imp (pe_dget2 (by have := A.hu; omega) ho he hf m) fun σ H Q ⟨μ, ρ, S, en, rp, po⟩ => ⟨μ, ρ, S, en, rp, (post_bind po).mono fun v H1 ⟨μ1, od, S1, pe, rp1, dd, p1⟩ => ?_⟩
  obtain ⟨c, p2⟩ := post_ite p1
  cases dd with
  | @ref n a hn =>
    have isd : IsD H1 a := by
      simp only [xGet2.isDc] at c
      split at c
      · rename_i kvs eo
        obtain ⟨gs, h1, _⟩ := rp1.obj hn eo
        exact .inl ⟨gs, .inl h1⟩
      · rename_i kvs eo
        obtain ⟨gs, h1, _⟩ := rp1.obj hn eo
        exact .inr ⟨gs, .inl h1⟩
      · cases c
    refine ⟨a, rfl, isd, μ1, ρ, S1, en.per pe, rp1, (post_bind p2).mono fun kv H2 ⟨μ2, kd, S2, pe2, rp2, dk, p3⟩ => ?_⟩
    refine ⟨μ2, ρ, S2, (en.per pe).per pe2, rp2, (post_bind p3).mono fun xv H3 ⟨μ3, xd, S3, pe3, rp3, dx, p4⟩ => ?_⟩
    have hn3 := pe3.ext _ _ (pe2.ext _ _ hn)
    dsimp only at p4
    split at p4
    · rename_i d eg
      obtain ⟨r, g, q⟩ := dget_den rp3 hn3 (dk.per pe3) eg
      rcases q with ⟨q1, _⟩ | ⟨x', y', q1, q2, q3⟩
      · cases q1
      · cases q1
        subst q2
        exact ⟨_, g, post_ok rp3 p4 q3⟩
    · rename_i eg
      obtain ⟨r, g, q⟩ := dget_den rp3 hn3 (dk.per pe3) eg
      rcases q with ⟨_, q2⟩ | ⟨x', y', q1, _, _⟩
      · subst q2
        exact ⟨_, g, post_ok rp3 p4 dx⟩
      · cases q1
    · exact p4.elim
  | _ => simp [xGet2.isDc] at c
/-! ### zip -/
def iZp (g : FA) : FI := fun ρ S => (g ρ S).bind fun ds S1 => match ds with
  | [a, b] => match tupOf a, tupOf b with
    | some xs, some ys => .ok (.its ((xs.zip ys).map fun p => .tup [p.1, p.2])) S1
    | _, _ => .stuck
  | _ => .stuck
theorem srcOk_zip (ok : G.Ok) {μ : List Addr} {H : Hp} {a b : Addr} {xs ys : List D} {vs us : List V} (h1 : ∀ μ' H', Per G μ H μ' H' → SqT G.K H' a vs) (h2 : ∀ μ' H', Per G μ H μ' H' → SqT G.K H' b us) (d1 : DenA G μ H xs vs) (d2 : DenA G μ H ys us) :
    SrcOk G μ H (.its ((xs.zip ys).map fun p => .tup [p.1, p.2])) (RZ.ItzT G.K a b) := by
  intro μ' H' S' i p r
  have q1 := h1 μ' H' p
  have q2 := h2 μ' H' p
  refine ⟨fun e => ?_, fun dd e => ?_⟩
  · have e2 := List.getElem?_eq_none_iff.mp (Option.some.inj e)
    simp at e2
    refine ⟨vs, us, q1, q2, ?_⟩
    rw [← d1.length, ← d2.length]
    omega
  · have e2 := Option.some.inj e
    rw [List.getElem?_map] at e2
    obtain ⟨⟨x, y⟩, e3, e4⟩ := Option.map_eq_some_iff.mp e2
    subst e4
    obtain ⟨ex, ey⟩ := List.getElem?_zip_eq_some.mp e3
    obtain ⟨v, g1, g2⟩ := (d1.per p).get ex
    obtain ⟨u, g3, g4⟩ := (d2.per p).get ey
    refine ⟨⟨vs, us, v, u, q1, q2, g1, g3⟩, fun z H2 w => ?_⟩
    obtain ⟨T, v', u', w1, w2, w3, w4, w5⟩ := w
    subst w1
    subst w3
    have a1 := w4 vs q1
    have a2 := w5 us q2
    rw [g1] at a1
    rw [g3] at a2
    cases a1
    cases a2
    have pn : Per G μ' H' μ' (upd H' T (.tup [v, u])) := per_new ok w2
    exact ⟨pn, r.new ok w2, .tup upd_same (.cons (g2.per pn) (.cons (g4.per pn) .nil))⟩
theorem di_zip {e e2 : Expr} {p pos tpos : Pos} {elts : List Expr} {kk : Nat} {g : FA} (A : Amb G X W) (hm : X.mg "zip" = none) (ha : PA X [e, e2] (TDA G W g)) (hg : Gl X "zip" := by rfl)
    (hs : starEach [e, e2] X.env = (false, eval e X.env) :: starEach [e2] X.env := by rfl) (hpl : (backTo pos (starEach [e2] X.env)).any (·.1) = false := by rfl) : DI X G W (.Tuple elts kk tpos) (.Call (.Name "zip" p) [e, e2] [] pos) (iZp g) := by
  refine ⟨RZ.iZipA G.K (TDA G W g), by have := RZ.pi_zipA (p := p) (tpos := tpos) (elts := elts) (kk := kk) hg hm ha hs hpl; rw [A.hK] at this; exact this, fun σ H R ⟨μ, ρ, S, en, rp, po⟩ => ⟨μ, ρ, S, en, rp, (post_bind po).mono fun vs H1 ⟨μ1, ds, S1, pe, rp1, dd, p1⟩ => ?_⟩⟩
  split at p1
  · rename_i x y
    split at p1
    · rename_i xs ys e1 e2
      cases dd with
      | cons a t =>
        cases t with
        | cons b t =>
          cases t
          have tp : ∀ {d : D} {v : V} {zs : List D}, Den G μ1 H1 d v → tupOf d = some zs → ∃ a us, v = .ref a ∧ (∀ μ' H', Per G μ1 H1 μ' H' → SqT G.K H' a us) ∧ DenA G μ1 H1 zs us := fun {d v zs} h e => by
            cases h with
            | tup h1 h2 => simp [tupOf] at e; subst e; exact ⟨_, _, rfl, fun μ' H' p => SqT.of (p.tup _ _ h1), h2⟩
            | ktup h1 h2 => simp [tupOf] at e; subst e; exact ⟨_, _, rfl, fun μ' H' p => h1 H', h2⟩
            | _ => simp [tupOf] at e
          obtain ⟨aa, us, rfl, h1, h2⟩ := tp a e1
          obtain ⟨bb, ws, rfl, h3, h4⟩ := tp b e2
          exact ⟨aa, bb, us, ws, rfl, .inr ⟨h1 _ _ .refl, h3 _ _ .refl, p1 _ _ _ .refl rp1 (srcOk_zip A.ok h1 h3 h2 h4)⟩⟩
    · exact p1.elim
  · exact p1.elim
/-! ### isinstance with two classes -/
theorem de_isi2 {x y : Str} {e : Expr} {p q1 q2 tp pos : Pos} {kt : Nat} {f : FE} {u u2 : String} (A : Amb G X W) (hm : X.mg "isinstance" = none) (he : PE X e (TD G W f)) (hx : X.mg x = none) (hv : bootBuiltins x = some (.type u)) (hy : X.mg y = none) (hv2 : bootBuiltins y = some (.type u2))
    (hu : u ∈ clNames := by decide) (hu2 : u2 ∈ clNames := by decide) (hg : Gl X "isinstance" := by rfl) (hg2 : Gl X x := by rfl) (hg3 : Gl X y := by rfl) (hn : x ≠ "__name__" := by decide) (hdb : (x == ("__debug__" : Str)) = false := by decide) (hn2 : y ≠ "__name__" := by decide) (hdb2 : (y == ("__debug__" : Str)) = false := by decide)
    (hs : starEach [e, .Tuple [.Name x q1, .Name y q2] kt tp] X.env = (false, eval e X.env) :: starEach [.Tuple [.Name x q1, .Name y q2] kt tp] X.env := by rfl) (hs2 : starEach [.Tuple [.Name x q1, .Name y q2] kt tp] X.env = (false, eval (.Tuple [.Name x q1, .Name y q2] kt tp) X.env) :: starEach [] X.env := by rfl)
    (hs3 : starEach [.Name x q1, .Name y q2] X.env = (false, eval (.Name x q1) X.env) :: starEach [.Name y q2] X.env := by rfl) (hs4 : starEach [.Name y q2] X.env = (false, eval (.Name y q2) X.env) :: starEach [] X.env := by rfl)
    (hpl : (backTo pos (starEach [.Tuple [.Name x q1, .Name y q2] kt tp] X.env)).any (·.1) = false := by rfl) :
    PE X (.Call (.Name "isinstance" p) [e, .Tuple [.Name x q1, .Name y q2] kt tp] [] pos) (TD G W (xIsi f [u, u2])) := by
  have hc := call_isiT (X := X)
  rw [A.hK] at hc
  refine PE.imp (pe_callB hc hg hm PyProof.Rows.boot_isinstance (pa_cons he (pa_cons (pe_tup (pa_cons (pe_bltn (v := .ty u) hg2 hx hv rfl hn hdb) (pa_cons (pe_bltn (v := .ty u2) hg3 hy hv2 rfl hn2 hdb2) pa_nil hs4) hs3)) pa_nil hs2) hs) (by decide) (by decide) hs hpl) fun σ H Q ⟨μ, ρ, S, en, rp, po⟩ => ⟨μ, ρ, S, en, rp, (post_bind po).mono fun v H1 ⟨μ1, d, S1, pe, rp1, dd, p1⟩ => ?_⟩
  refine ⟨by show 2 ≤ sizeLine; rw [sl_eq]; decide, fun a ha => ?_⟩
  split at p1
  · rename_i t et
    have pn : Per G μ1 H1 μ1 (upd H1 a (.tup [.ty u, .ty u2])) := per_new A.ok ha
    have rp2 := rp1.new A.ok (u := .tup [.ty u, .ty u2]) ha
    obtain ⟨h1, h2⟩ := ty_den rp2 (dd.per pn) et
    refine ⟨_, a, _, _, [.type u, .type u2], [u, u2].any (isaT t), rfl, upd_same, .cons (.ty u) (.cons (.ty u2) .nil), h1, ?_, post_ok rp2 (Post.per p1 pn) (.bl _)⟩
    refine kitAny_cons (kit_ty (isa_all t h2 u hu)) (fun e1 => kitAny_cons (r := isaT t u2) (kit_ty (isa_all t h2 u2 hu2)) (fun e2 => by rw [e2]; exact kitAny_nil) (fun e2 => e2) |>.trans ?_) (fun e1 => by simp [e1])
    simp [e1]
  · exact p1.elim
/-! ### a def that is never done -/
theorem fn_stuck {P : Program} {w : World} {K : PySem.W.Frag} {mg : Str → Option Value} {base : Heap} {k n : Nat} {f : Addr} {fd : FuncData} {ps : List Str} (h : ps.length = n) : FnOk P w K mg base (L2.CX P w) k f fd ps (spD G n fun _ _ => .stuck) :=
  ⟨fun vs H Q E q => by rw [h]; exact q.1, fun A outer s H args us vs Q E hr e0 hb r q => by obtain ⟨_, μ, S, ds, _, _, p⟩ := q; exact p.elim⟩
structure FunAt (K : PySem.W.Frag) (mg : Str → Option Value) (x : Str) (st : Stmt) (ps : List Str) : Prop where
  ex : ∃ f fd, Fun K x x st f fd ∧ mg x = some (.ref f) ∧ Binds K fd ps []
end Dx

/-! Dx9: enumerate over a tuple. -/
namespace Dx
open PySem PySem.Spec L2
/-- the tuple at a, each item in a new pair with its number -/
def IteT (K : PySem.W.Frag) (a : Addr) : It :=
  ⟨fun i H => ∃ (xs : List V) (x : V), SqT K H a xs ∧ xs[i]? = some x, fun i H v H' => ∃ T x, v = .ref T ∧ H T = none ∧ H' = upd H T (.tup [.int (i : Nat), x]) ∧ ∀ xs, SqT K H a xs → xs[i]? = some x, fun i H => ∃ xs : List V, SqT K H a xs ∧ xs.length ≤ i⟩
theorem turn_enumT {P : Program} {w : World} {K : PySem.W.Frag} {elts : List Expr} {kk : Nat} {tpos : Pos} (a e it : Addr) :
    Turn P w K (.Tuple elts kk tpos) (IteT K a) [e, it] e (fun i h => (∃ old, IsEnum h e it ((i : Nat) : Int) old) ∧ h.IsTupleIter it a i ∧ e ≠ it ∧ e ≠ a ∧ a ≠ it) where
  mem := by simp
  obj := fun i h st b hb => by
    obtain ⟨⟨old, he⟩, ⟨o, ho, hc, hd⟩, _⟩ := st
    have e' : b = e ∨ b = it := by simpa using hb
    rcases e' with z | z
    · rw [z]; exact ⟨_, he, fun v q => nomatch q⟩
    · rw [z]; exact ⟨o, ho, fun v q => by rw [hd] at q; cases q⟩
  keep := fun i h h' st k => let ⟨⟨old, he⟩, hi, hne⟩ := st; ⟨⟨old, k e (by simp) _ he⟩, hi.at fun o q => k it (by simp) o q, hne⟩
  item := by
    intro X hP hw hK hc i pins s σ H E I hf st hg
    subst hP hw hK
    obtain ⟨⟨old, he⟩, hit, hne, hea, hai⟩ := st
    obtain ⟨xs, x, hq, hx⟩ := hg
    obtain ⟨its, rv, p, hz⟩ := I.tuple hq
    obtain ⟨u, hu, ru⟩ := rv.get hx
    have hel : e < s.heap.objs.size := Heap.lt_size he
    have hil : it < s.heap.objs.size := by obtain ⟨_, q, _⟩ := hit; exact Heap.lt_size q
    have hi : i < its.toArray.size := by
      have := (List.getElem?_eq_some_iff.mp hu).1
      simpa using this
    refine wpAny_pyNext_enum_itemD (PySem.Draws.tuple (prog := X.prog) (w := X.w) (A := X.A.in1) (show X.A.handled = none from I.ok.hd hc) it a hai its.toArray) he ⟨hit, p⟩ hi hne (by simp [hne, hea]) fun y h' tk hy ho hst hT hsz hk => ?_
    have ey : y = u := by
      have : its[i]? = some y := by simpa using hy
      rw [hu] at this
      exact (Option.some.inj this).symm
    subst ey
    refine ⟨_, rfl, wpAny_letOwnedTupleGo_enum (s := { s with heap := h', toks := tk + 1 }) ho fun h'' he' sb => ?_⟩
    have hT2 : h''.get? s.heap.objs.size = some { cls := .type "tuple", data := .seq #[.int i tk, y] } := (sb.2 _ (Nat.ne_of_gt hel)).trans hT
    have new : ObjOk X.prog X.w (upd H s.heap.objs.size (.tup [.int (i : Nat), x])) h'' s.heap.objs.size (.tup [.int (i : Nat), x]) :=
      ⟨by show 2 ≤ sizeLine; decide, [.int i tk, y], .cons ⟨_, rfl⟩ (.cons ru .nil), ⟨_, hT2, rfl, _, rfl⟩⟩
    have I1 : Inv X pins σ (upd H s.heap.objs.size (.tup [.int (i : Nat), x])) { s with heap := h'', toks := tk + 1 } :=
      I.turnedNew (ch := [e, it]) (fun b ob hb q => (sb.2 b (fun z => hb (by simp [z]))).trans (hk b ob (fun z => hb (by simp [z])) (fun z => hb (by simp [z])) q)) hf (Nat.le_refl _) new
    refine ⟨.ref s.heap.objs.size, _, I1, rfl, ⟨_, x, rfl, I.hok.fresh (Nat.le_refl _), rfl, fun ys hy => by rw [I.tuple_inj hy hq]; exact hx⟩, ⟨⟨y, ?_⟩, hst.1.at fun o q => (sb.2 it (Ne.symm hne)).trans q, hne, hea, hai⟩, fun b hb => ?_⟩
    · have e1 : ((i + 1 : Nat) : Int) = (i : Int) + 1 := by omega
      rw [e1]; exact he'
    · have hb' : b < s.heap.objs.size := by
        have e' : b = e ∨ b = it := by simpa using hb
        rcases e' with z | z
        · rw [z]; exact hel
        · rw [z]; exact hil
      rw [upd_ne (Nat.ne_of_lt hb')]
      exact (hf b hb).1
  done := by
    intro X hP hw hK hc i pins s σ H E I hf st hg
    subst hP hw hK
    obtain ⟨⟨old, he⟩, hit, hne, hea, hai⟩ := st
    obtain ⟨xs, hq, hx⟩ := hg
    obtain ⟨its, rv, p, hz⟩ := I.tuple hq
    obtain ⟨f0, f1, f2, f3, f4, f5⟩ := hf it (by simp)
    have hl := rv.length
    have D := PySem.Draws.tuple (prog := X.prog) (w := X.w) (A := X.A.in1) (show X.A.handled = none from I.ok.hd hc) it a hai its.toArray
    have nx : its.toArray[i]? = none := by simp; omega
    have hT : s.TypeIs (.ref e) "enumerate" := ⟨_, he, rfl⟩
    unfold pyNext
    refine wpAny_bind (wpAny_attempt (wpAny_callSpecial?_slot (name := Str.ofString "__next__") hT F.slot_enumerate_next
      (wpAny_call_entry F.slot_enumerate_next hT F.entry_enumerate_next ?_ (F.args_enumerate_next_1 _))))
    show wpAny _ _ (field (.ref e) 2 >>= _) _ _ _
    refine wpAny_bind (wpAny_field he rfl (x := .ref it) rfl ?_)
    refine wpAny_bind (RZ.nextOf_tuple_end (A := X.A.in1) (show X.A.handled = none from I.ok.hd hc) hit p nx fun h' x he' hx' => ?_)
    obtain ⟨o, ho, hc'⟩ := hx'
    refine wpAny_bind (wpAny_isInstance (T := "StopIteration") (b := true) ⟨o, ho, hc'⟩ isSubtype_stop ?_)
    exact wpAny_pure ⟨rfl, I.turned (t' := s.toks) (fun b o hb q => he' b o hb q) f0 f1 f3 f4 f5⟩
  self := fun A i s Q E st h => let ⟨⟨_, he⟩, _⟩ := st; wpAny_pyIter_enum he h
theorem meets_enumerate_newT (l : Addr) (items : Array Value) :
    Meets (Builtin.«enumerate.__new__» ⟨[.type "enumerate", .ref l], []⟩) (fun _ R s => s.heap.IsTuple l items ∧
      R (.ok (.ret (.ref (s.heap.push { cls := .type "tuple_iterator", data := .fields #[.ref l, .int 0 0] }).objs.size)))
        { s with heap := (s.heap.push { cls := .type "tuple_iterator", data := .fields #[.ref l, .int 0 0] }).push { cls := .type "enumerate", data := .fields #[.none, .bool false, .ref s.heap.objs.size, rawInt 0, .none, .none] } }) :=
  .of_wp fun prog w A R s h => by
    obtain ⟨hp, g, d, tk, os⟩ := s; obtain ⟨h1, h⟩ := h
    have hsub := sub_enumerate
    have q1 : ∀ {A' : Around} {E : Value → Shared → Prop} {Q : Value → Shared → Prop}, Q (.ref hp.objs.size) ⟨hp.push { cls := .type "tuple_iterator", data := .fields #[.ref l, .int 0 0] }, g, d, tk, os⟩ → wpAny (model prog w) A' (pyIter (.ref l)) Q E ⟨hp, g, d, tk, os⟩ :=
      fun q => (begins_tuple l items).iter prog w _ _ ⟨hp, g, d, tk, os⟩ _ h1 q
    wp_walk using q1
    refine wpAny_stack_any fun st => wpAny_pure ?_
    split
    · rename_i c _ _ _ _ _
      cases (c == Value.type "enumerate")
      · wp_walk using q1
        exact ⟨_, rfl, h⟩
      · wp_walk using q1
        exact ⟨_, rfl, h⟩
    · wp_walk using q1
      exact ⟨_, rfl, h⟩
theorem call_enumerate_tuple {prog : Program} {w : World} {A : Around} {E : Value → Shared → Prop} {s : Shared} {l : Addr} {items : Array Value} {Q : Value → Shared → Prop} (hL : s.heap.IsTuple l items)
    (h : ∀ h', IsEnum h' (s.heap.objs.size + 1) s.heap.objs.size 0 .none → h'.IsTupleIter s.heap.objs.size l 0 → h'.objs.size = s.heap.objs.size + 2 →
      (∀ b o, s.heap.get? b = some o → h'.get? b = some o) → Q (.ref (s.heap.objs.size + 1)) { s with heap := h' }) :
    wpAny (model prog w) A (call (.type "enumerate") [.ref l]) Q E s := by
  refine callType_new F.called_enumerate (by decide) (F.typeCall_enumerate_1 _) (F.newCall_enumerate_1 _) (fun obj => F.args_object_init_2 obj _) F.entry_enumerate_new
    (meets_enumerate_newT l items) ⟨hL, ?_⟩
  have hz : (s.heap.push { cls := .type "tuple_iterator", data := .fields #[.ref l, .int 0 0] }).objs.size = s.heap.objs.size + 1 := Heap.size_push ..
  show _ ∧ _
  rw [hz]
  have he : IsEnum ((s.heap.push { cls := .type "tuple_iterator", data := .fields #[.ref l, .int 0 0] }).push
      { cls := .type "enumerate", data := .fields #[.none, .bool false, .ref s.heap.objs.size, rawInt 0, .none, .none] }) (s.heap.objs.size + 1) s.heap.objs.size 0 .none := by
    have := Heap.get?_push_size (s.heap.push { cls := .type "tuple_iterator", data := .fields #[.ref l, .int 0 0] })
      (o := { cls := .type "enumerate", data := .fields #[.none, .bool false, .ref s.heap.objs.size, rawInt 0, .none, .none] }) rfl
    rw [hz] at this; exact this
  refine ⟨⟨_, he, rfl⟩, h _ he ⟨_, Heap.get?_push_of_some _ (Heap.get?_push_size _ rfl), rfl, rfl⟩ (by rw [Heap.size_push, hz]) fun b o x => Heap.get?_push_of_some _ (Heap.get?_push_of_some _ x)⟩
def iEnumT (K : PySem.W.Frag) (ta : TA) : TI := fun σ H R => ta σ H fun vs H1 => ∃ a xs, vs = [.ref a] ∧ SqT K H1 a xs ∧ R (IteT K a) H1
theorem pi_enumT {X : Cx} {e : Expr} {ta : TA} {p pos tpos : Pos} {elts : List Expr} {kk : Nat} (hg : Gl X "enumerate") (hm : X.mg "enumerate" = none) (ha : PA X [e] ta) (hs : starEach [e] X.env = [(false, eval e X.env)] := by rfl) :
    PI X (.Tuple elts kk tpos) (.Call (.Name "enumerate" p) [e] [] pos) (iEnumT X.K ta) := by
  refine ⟨fun pins s σ H R I h => ?_⟩
  refine PyProof.Rows.Call_ (ld_blt I hg hm PyProof.Rows.boot_enumerate (PyProof.Rows.callWith_type1 (thn (ha.run pos pins s σ H _ I h) fun us s1 ⟨vs, H1, I1, r1, q1⟩ => ?_) hs rfl))
  obtain ⟨a, xs, ex, hq, q⟩ := q1
  subst ex
  cases r1 with
  | cons r rr =>
    cases rr
    cases r
    obtain ⟨its, rv, p', hz⟩ := I1.tuple hq
    have hal : a < s1.heap.objs.size := by obtain ⟨_, q, _⟩ := id p'; exact Heap.lt_size q
    refine call_enumerate_tuple p' fun h' he hit hsz hk => wpAny_pyIter_enum he ?_
    have I2 : Inv X pins σ H1 { s1 with heap := h' } := I1.kept (t' := s1.toks) hk
    refine ⟨s1.heap.objs.size + 1, [s1.heap.objs.size + 1, s1.heap.objs.size], _, _, H1, rfl, I2, turn_enumT a (s1.heap.objs.size + 1) s1.heap.objs.size, ⟨⟨.none, he⟩, hit, Nat.succ_ne_self _, Nat.ne_of_gt (Nat.lt_succ_of_lt hal), Nat.ne_of_lt hal⟩, fun b hb => ?_, q⟩
    have e' : b = s1.heap.objs.size + 1 ∨ b = s1.heap.objs.size := by simpa using hb
    have hle : s1.heap.objs.size ≤ b := by
      rcases e' with z | z
      · rw [z]; exact Nat.le_add_right _ _
      · rw [z]; exact Nat.le_refl _
    exact I1.fpOk hle (I1.hok.fresh hle)
section
variable {G : Gx} {X : Cx} {W : WX}
def enumD (k : Nat) : List D → List D
  | [] => []
  | x :: xs => .tup [.int k, x] :: enumD (k + 1) xs
theorem enumD_get : ∀ {xs : List D} {k i : Nat}, (enumD k xs)[i]? = xs[i]?.map fun x => .tup [.int (k + i : Nat), x]
  | [], _, _ => rfl
  | x :: xs, k, 0 => rfl
  | x :: xs, k, i + 1 => by
    show (enumD (k + 1) xs)[i]? = xs[i]?.map _
    rw [enumD_get, show k + 1 + i = k + (i + 1) by omega]
def iEn (g : FA) : FI := fun ρ S => (g ρ S).bind fun ds S1 => match ds with
  | [a] => match tupOf a with
    | some xs => .ok (.its (enumD 0 xs)) S1
    | _ => .stuck
  | _ => .stuck
theorem srcOk_enum (ok : G.Ok) {μ : List Addr} {H : Hp} {a : Addr} {xs : List D} {vs : List V} (h1 : ∀ μ' H', Per G μ H μ' H' → SqT G.K H' a vs) (d1 : DenA G μ H xs vs) : SrcOk G μ H (.its (enumD 0 xs)) (IteT G.K a) := by
  intro μ' H' S' i p r
  have q1 := h1 μ' H' p
  refine ⟨fun e => ?_, fun dd e => ?_⟩
  · have e2 := Option.some.inj e
    rw [enumD_get, Option.map_eq_none_iff] at e2
    have e3 := List.getElem?_eq_none_iff.mp e2
    exact ⟨vs, q1, by rw [← d1.length]; exact e3⟩
  · have e2 := Option.some.inj e
    rw [enumD_get] at e2
    obtain ⟨x, e3, e4⟩ := Option.map_eq_some_iff.mp e2
    subst e4
    obtain ⟨v, g1, g2⟩ := (d1.per p).get e3
    refine ⟨⟨vs, v, q1, g1⟩, fun z H2 w => ?_⟩
    obtain ⟨T, v', w1, w2, w3, w4⟩ := w
    subst w1
    subst w3
    have a1 := w4 vs q1
    rw [g1] at a1
    cases a1
    have pn : Per G μ' H' μ' (upd H' T (.tup [.int (i : Nat), v])) := per_new ok w2
    refine ⟨pn, r.new ok w2, .tup upd_same (.cons ?_ (.cons (g2.per pn) .nil))⟩
    rw [Nat.zero_add]
    exact .int _
theorem di_enum {e : Expr} {p pos tpos : Pos} {elts : List Expr} {kk : Nat} {g : FA} (A : Amb G X W) (hm : X.mg "enumerate" = none) (ha : PA X [e] (TDA G W g)) (hg : Gl X "enumerate" := by rfl)
    (hs : starEach [e] X.env = [(false, eval e X.env)] := by rfl) : DI X G W (.Tuple elts kk tpos) (.Call (.Name "enumerate" p) [e] [] pos) (iEn g) := by
  refine ⟨iEnumT G.K (TDA G W g), by have := pi_enumT (p := p) (pos := pos) (tpos := tpos) (elts := elts) (kk := kk) hg hm ha hs; rw [A.hK] at this; exact this, fun σ H R ⟨μ, ρ, S, en, rp, po⟩ => ⟨μ, ρ, S, en, rp, (post_bind po).mono fun vs H1 ⟨μ1, ds, S1, pe, rp1, dd, p1⟩ => ?_⟩⟩
  split at p1
  · rename_i x
    split at p1
    · rename_i xs e1
      cases dd with
      | cons a t =>
        cases t
        cases a with
        | tup h1 h2 => simp [tupOf] at e1; subst e1; exact ⟨_, _, rfl, SqT.of h1, p1 _ _ _ .refl rp1 (srcOk_enum A.ok (fun μ' H' p => SqT.of (p.tup _ _ h1)) h2)⟩
        | ktup h1 h2 => simp [tupOf] at e1; subst e1; exact ⟨_, _, rfl, h1 _, p1 _ _ _ .refl rp1 (srcOk_enum A.ok (fun μ' H' p => h1 H') h2)⟩
        | _ => simp [tupOf] at e1
    · exact p1.elim
  · exact p1.elim
end
end Dx

/-! Dx10: sorted. -/
namespace Dx
open PySem PySem.Spec L2 PySem.W
/-! ### insertion -/
section
variable {α β : Type}
def ins (le : α → α → Bool) (x : α) : List α → List α
  | [] => [x]
  | y :: l => if le x y = true then x :: y :: l else y :: ins le x l
def insSort (le : α → α → Bool) : List α → List α
  | [] => []
  | x :: l => ins le x (insSort le l)
theorem ins_perm (le : α → α → Bool) (x : α) : ∀ l, (ins le x l).Perm (x :: l)
  | [] => .refl _
  | y :: l => by
    unfold ins
    split
    · exact .refl _
    · exact ((ins_perm le x l).cons y).trans (.swap x y l)
theorem insSort_perm (le : α → α → Bool) : ∀ l, (insSort le l).Perm l
  | [] => .refl _
  | x :: l => (ins_perm le x _).trans ((insSort_perm le l).cons x)
theorem ins_pair {le : α → α → Bool} (h : TotalLe le) (x : α) : ∀ {l : List α}, l.Pairwise (fun a b => le a b = true) → (ins le x l).Pairwise (fun a b => le a b = true)
  | [], _ => List.pairwise_singleton _ _
  | y :: l, p => by
    obtain ⟨p1, p2⟩ := List.pairwise_cons.mp p
    unfold ins
    split
    · rename_i hxy
      refine List.pairwise_cons.mpr ⟨fun z hz => ?_, p⟩
      rcases List.mem_cons.mp hz with rfl | hz
      · exact hxy
      · exact h.trans _ _ _ hxy (p1 z hz)
    · rename_i hxy
      refine List.pairwise_cons.mpr ⟨fun z hz => ?_, ins_pair h x p2⟩
      rcases List.mem_cons.mp ((ins_perm le x l).mem_iff.mp hz) with rfl | hz
      · exact (h.total _ _).resolve_left hxy
      · exact p1 z hz
theorem insSort_pair {le : α → α → Bool} (h : TotalLe le) : ∀ l : List α, (insSort le l).Pairwise (fun a b => le a b = true)
  | [] => .nil
  | x :: l => ins_pair h x (insSort_pair h l)
theorem ins_filter {le : α → α → Bool} (h : TotalLe le) (c x : α) : ∀ l : List α, (ins le x l).filter (sameRank le c) = (x :: l).filter (sameRank le c)
  | [] => rfl
  | y :: l => by
    unfold ins
    split
    · rfl
    · rename_i hxy
      rw [List.filter_cons, ins_filter h c x l]
      cases hx : sameRank le c x with
      | false => rw [List.filter_cons_of_neg (by rw [hx]; simp), List.filter_cons_of_neg (a := x) (by rw [hx]; simp), List.filter_cons]
      | true =>
        cases hy : sameRank le c y with
        | false => rw [List.filter_cons_of_pos hx, List.filter_cons_of_pos hx, List.filter_cons_of_neg (by rw [hy]; simp)]; simp
        | true =>
          refine absurd ?_ hxy
          unfold sameRank at hx hy
          rw [Bool.and_eq_true] at hx hy
          exact h.trans _ _ _ hx.2 hy.1
theorem insSort_filter {le : α → α → Bool} (h : TotalLe le) (c : α) : ∀ l : List α, (insSort le l).filter (sameRank le c) = l.filter (sameRank le c)
  | [] => rfl
  | x :: l => by
    show (ins le x (insSort le l)).filter _ = _
    rw [ins_filter h, List.filter_cons, insSort_filter h c l, ← List.filter_cons]
theorem insSort_merge {le : α → α → Bool} (h : TotalLe le) (l : List α) : insSort le l = l.mergeSort le := sort_unique h (insSort_pair h l) fun c => insSort_filter h c l
theorem ins_map {le : α → α → Bool} {le' : β → β → Bool} (f : α → β) (x : α) : ∀ l : List α, (∀ y ∈ l, le x y = le' (f x) (f y)) → (ins le x l).map f = ins le' (f x) (l.map f)
  | [], _ => rfl
  | y :: l, h => by
    have e := h y (by simp)
    rw [List.map_cons]
    unfold ins
    rw [e]
    split
    · rfl
    · rw [List.map_cons, ins_map f x l fun z hz => h z (by simp [hz])]
theorem insSort_map {le : α → α → Bool} {le' : β → β → Bool} (f : α → β) : ∀ l : List α, (∀ x ∈ l, ∀ y ∈ l, le x y = le' (f x) (f y)) → (insSort le l).map f = insSort le' (l.map f)
  | [], _ => rfl
  | x :: l, h => by
    show (ins le x (insSort le l)).map f = ins le' (f x) (insSort le' (l.map f))
    rw [ins_map (le' := le') f x _ fun y hy => h x (by simp) y (by simp [(insSort_perm le l).mem_iff.mp hy]), insSort_map f l fun a ha b hb => h a (by simp [ha]) b (by simp [hb])]
end
/-! ### the rule -/
theorem dataLe_total {β : Type} (k : β → PyData) : TotalLe (dataLe false k) := sortLe_total (PyProof.Rows.listOrd PyProof.Rows.itemOrd) false fun b => keyToks (k b)
def rSortedG {κ : Type} (enc : κ → PyData) (le : κ → κ → Bool) (K : PySem.W.Frag) : List V → Hp → VK → Prop := fun vs H Q => ∃ (a : Addr) (bs : List (κ × V)), vs = [V.ref a] ∧ SqL K H a (bs.map (·.2)) ∧ (∀ b ∈ bs, Dp K H b.2 (enc b.1)) ∧
  (∀ x ∈ bs, ∀ y ∈ bs, (!dataLt (enc y.1) (enc x.1)) = le x.1 y.1) ∧ AllAlike (bs.map fun b => enc b.1) ∧ Sortable (bs.map fun b => enc b.1) ∧ (∀ b ∈ bs, (enc b.1).depth ≤ 8) ∧
  ∀ p, H p = none → Q (.ref p) (upd H p (.lst ((insSort (fun x y => le x.1 y.1) bs).map (·.2))))
theorem each_of {κ : Type} {X : Cx} {pins : List (Addr × Obj)} {σ : L2.St} {H : Hp} {s : Shared} {enc : κ → PyData} (I : Inv X pins σ H s) : ∀ {bs : List (κ × V)} {us : List Value}, Vals (bs.map (·.2)) us → (∀ b ∈ bs, Dp X.K H b.2 (enc b.1)) →
    EachIs (fun v (b : κ × V) => RelV b.2 v) us bs ∧ EachIs (fun v (b : κ × V) => ∃ as, Reads s.heap v (enc b.1) as) us bs
  | [], us, r, _ => by cases r; exact ⟨.nil, .nil⟩
  | b :: bs, us, r, h => by
    cases r with
    | cons r1 r2 =>
      obtain ⟨e1, e2⟩ := each_of I r2 fun c hc => h c (by simp [hc])
      exact ⟨.cons r1 e1, .cons (Dp.reads I _ _ _ (h b (by simp)) r1) e2⟩
theorem vals_of {κ : Type} : ∀ {us : List Value} {bs : List (κ × V)}, EachIs (fun v (b : κ × V) => RelV b.2 v) us bs → Vals (bs.map (·.2)) us
  | _, _, .nil => .nil
  | _, _, .cons h t => .cons h (vals_of t)
theorem cr_sortedG {κ : Type} {X : Cx} {enc : κ → PyData} {le : κ → κ → Bool} (hu : X.A.units + 65 < cLine) : CallR X (.builtin "sorted") (rSortedG enc le X.K) := by
  intro pins s σ H vs us Q I r h
  obtain ⟨a, bs, rfl, hs, hd, hle, hal, hso, hdp, q⟩ := h
  obtain ⟨its, rv, hl, hz⟩ := I.list hs
  obtain ⟨u, rfl, ru⟩ := vals1 r
  obtain rfl : u = Value.ref a := ru
  obtain ⟨e1, e2⟩ := each_of I rv hd
  refine sorted_data (R := fun v (b : κ × V) => RelV b.2 v) (enc := fun b : κ × V => enc b.1) hl.isList e1 e2 hal hso (by rw [List.length_map] at hz; exact hz) (fun b hb => by have := hdp b hb; omega) fun out ho eo => ?_
  have em : bs.mergeSort (dataLe false fun b : κ × V => enc b.1) = insSort (fun x y => le x.1 y.1) bs := by
    rw [← insSort_merge (dataLe_total _)]
    have := insSort_map (le := dataLe false fun b : κ × V => enc b.1) (le' := fun x y : κ × V => le x.1 y.1) id bs fun x hx y hy => hle x hx y hy
    simpa using this
  rw [em] at eo
  have hn : ∃ n, (PyProof.Rows.sortedAll s.heap its out.toArray).get? (s.heap.objs.size + 1) = some (PyProof.Rows.seqObj "list" out.toArray n) := PyProof.Rows.sortedAll_at s.heap its out.toArray
  obtain ⟨n, hn⟩ := hn
  refine ⟨.ref (s.heap.objs.size + 1), upd H (s.heap.objs.size + 1) (.lst ((insSort (fun x y => le x.1 y.1) bs).map (·.2))), I.laid (t' := s.toks) (fun b o e => PyProof.Rows.sortedAll_old e) (Nat.le_succ _) ⟨?_, out, n, vals_of eo, hn⟩, rfl, q _ (I.hok.fresh (Nat.le_succ _))⟩
  rw [List.length_map, (insSort_perm _ _).length_eq]
  rw [List.length_map] at hz
  exact hz
/-! ### keys -/
def ltStr (x y : String) : Bool := decide (x.toList.map Char.toNat < y.toList.map Char.toNat)
def ltKs : List String → List String → Bool
  | [], [] => false
  | [], _ :: _ => true
  | _ :: _, [] => false
  | x :: xs, y :: ys => if x = y then ltKs xs ys else ltStr x y
theorem ltStr_ok (x y : String) : dataLt (.str (Str.ofString x)) (.str (Str.ofString y)) = ltStr x y := by
  rw [dataLt_str]
  unfold ltStr
  rw [Str.ofString_eq_toList, Str.ofString_eq_toList]
def encS (s : String) : PyData := .str (Str.ofString s)
def encK (ks : List String) : PyData := .tuple (ks.map encS)
theorem eqv_str (x y : String) : PyData.eqv (encS x) (encS y) = decide (x = y) := by
  by_cases h : x = y
  · subst h
    simp [encS, PyData.eqv]
  · have : Str.ofString x ≠ Str.ofString y := fun z => h (ofS_inj z)
    simp [encS, PyData.eqv, h, this]
theorem ltKs_ok : ∀ xs ys : List String, PyProof.Rows.lexLt PyProof.Rows.itemOrd (keyToksAll (xs.map encS)) (keyToksAll (ys.map encS)) = ltKs xs ys
  | [], [] => by decide +kernel
  | [], y :: ys => by
    simp only [List.map_nil, List.map_cons, ltKs]
    rw [show keyToksAll [] = [Sum.inl 0] by simp [keyToksAll], toks_all_cons]
    exact (PyProof.Rows.lex_diff (O := PyProof.Rows.itemOrd) (x := (Sum.inl 0 : Int ⊕ List Nat)) (y := (Sum.inl 1 : Int ⊕ List Nat)) (by simp)).trans (by decide +kernel)
  | x :: xs, [] => by
    simp only [List.map_nil, List.map_cons, ltKs]
    rw [show keyToksAll [] = [Sum.inl 0] by simp [keyToksAll], toks_all_cons]
    exact (PyProof.Rows.lex_diff (O := PyProof.Rows.itemOrd) (x := (Sum.inl 1 : Int ⊕ List Nat)) (y := (Sum.inl 0 : Int ⊕ List Nat)) (by simp)).trans (by decide +kernel)
  | x :: xs, y :: ys => by
    simp only [List.map_cons, ltKs]
    by_cases h : x = y
    · rw [if_pos h, dataLt_all_yes (by simp [encS, alike]) (by rw [eqv_str]; simp [h]), ltKs_ok xs ys]
    · rw [if_neg h, dataLt_all_no (by simp [encS, alike]) (by rw [eqv_str]; simp [h])]
      exact ltStr_ok x y
theorem encK_lt (xs ys : List String) : dataLt (encK xs) (encK ys) = ltKs xs ys := by
  unfold encK
  rw [dataLt_tuple]
  exact ltKs_ok xs ys
theorem alike_strs : ∀ xs ys : List String, alikeAll (xs.map encS) (ys.map encS) = true
  | [], _ => by simp [alikeAll]
  | _ :: _, [] => by simp [alikeAll]
  | x :: xs, y :: ys => by
    rw [List.map_cons, List.map_cons, alikeAll, alike_strs xs ys]
    simp [encS, alike]
theorem depth_strs : ∀ xs : List String, PyData.depthAll (xs.map encS) = 0
  | [] => by simp [PyData.depthAll]
  | x :: xs => by
    rw [List.map_cons, PyData.depthAll, depth_strs xs]
    simp [encS, PyData.depth]
def strOf : D → Option String
  | .str s => some s
  | _ => none
def keyT : D → Option (List String)
  | .tup xs => xs.mapM strOf
  | .ktup xs => xs.mapM strOf
  | _ => none
def leT (x y : D) : Bool := !ltKs ((keyT y).getD []) ((keyT x).getD [])
def cSorted : CV := fun ds S => match ds with
  | [d] => match seqOf S d with
    | some xs => if xs.all (fun x => match keyT x with
        | some (_ :: _) => true
        | _ => false) = true then newO (.lst (insSort leT xs)) S
      else match intsOf xs with
        | some ns => newO (.lst ((insSort (fun i j => decide (i ≤ j)) ns).map .int)) S
        | none => .stuck
    | none => .stuck
  | _ => .stuck
section
variable {G : Gx} {X : Cx} {W : WX}
theorem str_all {μ : List Addr} {H : Hp} : ∀ {xs : List D} {vs : List V} {ks : List String}, DenA G μ H xs vs → xs.mapM strOf = some ks → DpAll G.K H vs (ks.map encS)
  | [], _, ks, .nil, e => by simp at e; subst e; exact .nil
  | x :: xs, _, ks, .cons h t, e => by
    rw [List.mapM_cons] at e
    obtain ⟨p, e1, e2⟩ := Option.bind_eq_some_iff.mp e
    obtain ⟨q, e3, e4⟩ := Option.bind_eq_some_iff.mp e2
    cases e4
    cases h <;> simp [strOf] at e1
    subst e1
    exact .cons (.str _) (str_all t e3)
theorem keyT_den {μ : List Addr} {H : Hp} {d : D} {v : V} {ks : List String} (h : Den G μ H d v) (e : keyT d = some ks) : Dp G.K H v (encK ks) := by
  cases h with
  | tup h1 h2 => exact .tup (SqT.of h1) (str_all h2 e)
  | ktup h1 h2 => exact .tup (h1 _) (str_all h2 e)
  | _ => cases e
theorem den_zip {μ : List Addr} {H : Hp} : ∀ {xs : List D} {vs : List V}, DenA G μ H xs vs → ∀ p ∈ xs.zip vs, Den G μ H p.1 p.2
  | _, _, .nil, p, hp => by simp at hp
  | _, _, .cons h t, p, hp => by
    rcases List.mem_cons.mp hp with rfl | hp
    · exact h
    · exact den_zip t p hp
theorem zip_den {μ : List Addr} {H : Hp} : ∀ {ps : List (D × V)}, (∀ p ∈ ps, Den G μ H p.1 p.2) → DenA G μ H (ps.map (·.1)) (ps.map (·.2))
  | [], _ => .nil
  | p :: ps, h => .cons (h p (by simp)) (zip_den fun q hq => h q (by simp [hq]))
theorem zip_fst {μ : List Addr} {H : Hp} : ∀ {xs : List D} {vs : List V}, DenA G μ H xs vs → (xs.zip vs).map (·.1) = xs ∧ (xs.zip vs).map (·.2) = vs
  | _, _, .nil => ⟨rfl, rfl⟩
  | _, _, .cons _ t => by obtain ⟨a, b⟩ := zip_fst t; exact ⟨by simp [a], by simp [b]⟩
theorem cv_sorted (g : G.Ok) : CallV G W (fun vs H Q => rSortedG encK (fun x y => !ltKs y x) G.K vs H Q ∨ rSortedG PyData.int (fun x y => decide (x ≤ y)) G.K vs H Q) cSorted := by
  intro μ S H xs ds σ Q rp dd po
  unfold cSorted at po
  split at po
  · cases dd with
    | cons d1 t =>
      cases t
      split at po
      · rename_i ys e
        obtain ⟨a, vs, rfl, h1, h2⟩ := seq_den rp d1 e
        obtain ⟨z1, z2⟩ := zip_fst h2
        split at po
        · rename_i hk
          have hk' : ∀ p ∈ ys.zip vs, ∃ k r, keyT p.1 = some (k :: r) := fun p hp => by
            have hm : p.1 ∈ ys := by rw [← z1]; exact List.mem_map_of_mem hp
            have := List.all_eq_true.mp hk _ hm
            split at this
            · rename_i k r e2; exact ⟨k, r, e2⟩
            · cases this
          let bs : List (List String × V) := (ys.zip vs).map fun p => ((keyT p.1).getD [], p.2)
          have eb2 : bs.map (·.2) = vs := by rw [List.map_map]; exact z2
          refine .inl ⟨a, bs, rfl, by rw [eb2]; exact h1, fun b hb => ?_, fun x _ y _ => by rw [encK_lt], fun d hd d' hd' => ?_, .inl fun d hd => ?_, fun b hb => ?_, fun p hp => ?_⟩
          · obtain ⟨q, hq, rfl⟩ := List.mem_map.mp hb
            obtain ⟨k, r, ek⟩ := hk' q hq
            show Dp G.K H q.2 (encK ((keyT q.1).getD []))
            rw [ek]
            exact keyT_den (den_zip h2 q hq) ek
          · obtain ⟨b, _, rfl⟩ := List.mem_map.mp hd
            obtain ⟨b', _, rfl⟩ := List.mem_map.mp hd'
            show alike (.tuple _) (.tuple _) = true
            rw [alike]
            exact alike_strs _ _
          · obtain ⟨b, hb, rfl⟩ := List.mem_map.mp hd
            obtain ⟨q, hq, rfl⟩ := List.mem_map.mp hb
            obtain ⟨k, r, ek⟩ := hk' q hq
            refine ⟨encS k, r.map encS, ?_⟩
            show encK ((keyT q.1).getD []) = _
            rw [ek]
            rfl
          · show (PyData.tuple _).depth ≤ 8
            rw [PyData.depth, depth_strs]
            decide
          · have em : (insSort (fun x y : List String × V => !ltKs y.1 x.1) bs).map (·.2) = (insSort (fun x y : D × V => leT x.1 y.1) (ys.zip vs)).map (·.2) := by
              rw [← insSort_map (le := fun x y : D × V => leT x.1 y.1) (fun p : D × V => ((keyT p.1).getD [], p.2)) _ fun x _ y _ => rfl, List.map_map]
              rfl
            have ed : insSort leT ys = (insSort (fun x y : D × V => leT x.1 y.1) (ys.zip vs)).map (·.1) := by
              rw [insSort_map (le' := leT) (fun p : D × V => p.1) _ fun x _ y _ => rfl, z1]
            rw [em]
            rw [ed] at po
            exact post_lst g rp (zip_den fun p hp => den_zip h2 p ((insSort_perm _ _).mem_iff.mp hp)) po hp
        · split at po
          · rename_i ns en
            have ev := ints_den h2 en
            refine .inr ⟨a, ns.map fun i => (i, V.int i), rfl, by rw [List.map_map]; rw [ev] at h1; exact h1, fun b hb => ?_, fun x _ y _ => ?_, fun d hd d' hd' => ?_, .inr fun d hd => ?_, fun b hb => ?_, fun p hp => ?_⟩
            · obtain ⟨i, _, rfl⟩ := List.mem_map.mp hb
              exact .int i
            · show (!dataLt (.int y.1) (.int x.1)) = decide (x.1 ≤ y.1)
              rw [dataLt_int, not_lt_int]
            · obtain ⟨b, _, rfl⟩ := List.mem_map.mp hd
              obtain ⟨b', _, rfl⟩ := List.mem_map.mp hd'
              rfl
            · obtain ⟨b, _, rfl⟩ := List.mem_map.mp hd
              exact ⟨fun z => (nomatch z), fun _ z => (nomatch z)⟩
            · show (PyData.int _).depth ≤ 8
              rw [PyData.depth]
              decide
            · have em : (insSort (fun x y : Int × V => decide (x.1 ≤ y.1)) (ns.map fun i => (i, V.int i))).map (·.2) = (insSort (fun i j => decide (i ≤ j)) ns).map V.int := by
                rw [← insSort_map (le := fun i j : Int => decide (i ≤ j)) (fun i : Int => (i, V.int i)) _ fun x _ y _ => rfl, List.map_map]
                rfl
              rw [em]
              refine post_lst g rp ?_ po hp
              have : ∀ l : List Int, DenA G μ H (l.map D.int) (l.map V.int) := fun l => by
                induction l with
                | nil => exact .nil
                | cons i l ih => exact .cons (.int i) ih
              exact this _
          · exact po.elim
      · exact po.elim
  · exact po.elim
theorem de_sorted {e : Expr} {p pos : Pos} {g : FA} (A : Amb G X W) (hm : X.mg "sorted" = none) (ha : PA X [e] (TDA G W g)) (hg : Gl X "sorted" := by rfl) (he : starEach [e] X.env = (false, eval e X.env) :: starEach [] X.env := by rfl) (hpl : (backTo pos (starEach [] X.env)).any (·.1) = false := by rfl) : PE X (.Call (.Name "sorted" p) [e] [] pos) (TD G W (xB cSorted g)) :=
  de_callB (r := fun vs H Q => rSortedG encK (fun x y => !ltKs y x) G.K vs H Q ∨ rSortedG PyData.int (fun x y => decide (x ≤ y)) G.K vs H Q) (by have := (cr_sortedG (X := X) (enc := encK) (le := fun x y => !ltKs y x) A.hu).or (cr_sortedG (enc := PyData.int) (le := fun x y => decide (x ≤ y)) A.hu); rw [A.hK] at this; exact this) (cv_sorted A.ok) hm PyProof.Rows.boot_sorted ha hg (by decide) (by decide) he hpl
end
end Dx

/-! Dx11: dict(pairs) with tuple keys, list(dict). -/
namespace Dx
open PySem PySem.Spec L2 PyProof.Rows
section
variable {prog : Program} {w : World}
theorem dictH_keep {K : Type} [DecidableEq K] {knd : HeapKind prog w K} {h h' : Heap} {d : Addr} {xs : List (K × Addr × Value)} (m : h.DictOfH knd d xs) (kd : ∀ o, h.get? d = some o → h'.get? d = some o) (kk : ∀ x ∈ xs, knd.is h' x.1 x.2.1) : h'.DictOfH knd d xs := by
  obtain ⟨o, es, ep, ho, hc, hd, he, his, hn⟩ := m
  exact ⟨o, es, ep, kd _ ho, hc, hd, he, kk, hn⟩
abbrev TK (prog : Program) (w : World) := tupleKind (mixKind prog w)
theorem tk_keep {h h' : Heap} {k : List Key} {a : Addr} (x : (TK prog w).is h k a) (kp : ∀ o, h.get? a = some o → h'.get? a = some o) : (TK prog w).is h' k a := by
  obtain ⟨o, its, n, h1, h2, h3, h4⟩ := x
  exact ⟨o, its, n, kp _ h1, h2, h3, h4⟩
def mergedH (acc : List (List Key × Addr × Value)) (ps : List (List Key × Addr × Value)) : List (List Key × Addr × Value) := ps.foldl (fun acc q => storedH acc q.1 q.2.1 q.2.2) acc
theorem storedH_len (xs : List (List Key × Addr × Value)) (k : List Key) (a : Addr) (v : Value) : (storedH xs k a v).length ≤ xs.length + 1 := by
  unfold storedH
  split <;> simp
theorem storedH_mem {xs : List (List Key × Addr × Value)} {k : List Key} {a : Addr} {v : Value} {x : List Key × Addr × Value} (h : x ∈ storedH xs k a v) : (x.1, x.2.1) = (k, a) ∨ ∃ y ∈ xs, (x.1, x.2.1) = (y.1, y.2.1) := by
  unfold storedH at h
  split at h
  · obtain ⟨y, hy, e⟩ := List.mem_map.mp h
    refine .inr ⟨y, hy, ?_⟩
    rw [← e]
    unfold putAt
    split <;> rfl
  · rcases List.mem_append.mp h with h | h
    · exact .inr ⟨x, h, rfl⟩
    · rw [List.mem_singleton.mp h]; exact .inl rfl
theorem upd_loopT {A : Around} {R : Result → Shared → Prop} {S I l : Addr} {items : Array Value} {res : Value} (hu : A.units + 1 < cLine) (hh : A.handled = none) (hlI : l ≠ I) (hSI : S ≠ I) (hSl : S ≠ l) :
    ∀ (rest : List (List Key × Addr × Value)) (i : Nat) (acc : List (List Key × Addr × Value)) (ix : Int) (t : Tok) (s : Shared), items.size = i + rest.length → acc.length + rest.length ≤ sizeLine →
      (∀ (j : Nat) (q : List Key × Addr × Value), rest[j]? = some q → ∃ b : Addr, items[i + j]? = some (.ref b) ∧ b ≠ S ∧ b ≠ I ∧ IsTup s.heap b #[.ref q.2.1, q.2.2] ∧ q.2.1 ≠ S ∧ q.2.1 ≠ I ∧ (TK prog w).is s.heap q.1 q.2.1) →
      (∀ x ∈ acc, x.2.1 ≠ S ∧ x.2.1 ≠ I) →
      s.heap.IsListIter I l i → s.heap.IsList l items → s.heap.DictOfH (TK prog w) S acc →
      (∀ h' tk, h'.DictOfH (TK prog w) S (mergedH acc rest) → (∀ b o, b ≠ S → b ≠ I → s.heap.get? b = some o → h'.get? b = some o) → R (.ok (.ret res)) { s with heap := h', toks := tk }) →
      codeAny (model prog w) A (.builtin "dict.update.loop" ⟨[.ref S, .ref I, .int ix t, res], []⟩) R s
  | [], i, acc, ix, t, s, hsz, hln, ht, hac, hit, hl, hm, hR => by
    refine codeAny_builtin ud_entry ?_
    rw [Around.under_plainId ud_plain _]
    show wpAny _ A.in1 (pyNext (.ref I) >>= _) _ _ s
    refine wpAny_bind (wpAny_pyNext_list_end (A := A.in1) hh hit hl (by first | exact Array.getElem?_eq_none (Nat.le_of_eq hsz) | (simp at hsz; simp; omega)) fun h' he => ?_)
    show wpAny _ A.in1 (Builtin.Dict.addKeywords S [] >>= _) _ _ _
    refine wpAny_bind (wpAny_pure (wpAny_pure ?_))
    refine hR h' s.toks (dictH_keep hm (fun o e => he S o hSI e) fun x hx => ?_) fun b o _ hb e => he b o hb e
    obtain ⟨_, _, _, _, _, _, _, his, _⟩ := hm
    exact tk_keep (his x hx) fun o e => he _ o (hac x hx).2 e
  | q :: rest, i, acc, ix, t, s, hsz, hln, ht, hac, hit, hl, hm, hR => by
    obtain ⟨b, hb, hbS, hbI, htup, hkS, hkI, hk⟩ := ht 0 q rfl
    rw [List.length_cons] at hsz hln
    refine codeAny_builtin ud_entry ?_
    rw [Around.under_plainId ud_plain _]
    show wpAny _ A.in1 (pyNext (.ref I) >>= _) _ _ s
    refine wpAny_bind (wpAny_pyNext_list_item (x := .ref b) hit hl (by simpa using hb) fun h1 hit1 hs1 => ?_)
    have ht1 : IsTup h1 b #[.ref q.2.1, q.2.2] := htup.extBut hs1.extBut hbI
    have hl1 : h1.IsList l items := hl.extBut hs1.extBut hlI
    have hm1 : h1.DictOfH (TK prog w) S acc := by
      refine dictH_keep hm (fun o e => hs1.extBut S o hSI e) fun x hx => ?_
      obtain ⟨_, _, _, _, _, _, _, his, _⟩ := hm
      exact tk_keep (his x hx) fun o e => hs1.extBut _ o (hac x hx).2 e
    have hk1 : (TK prog w).is h1 q.1 q.2.1 := tk_keep hk fun o e => hs1.extBut _ o hkI e
    obtain ⟨o, ho, hc, n, hd⟩ := id ht1
    show wpAny _ A.in1 (holding [Value.ref b] _ >>= _) _ _ _
    refine wpAny_bind (wpAny_holding ?_)
    refine wpAny_bind (wpAny_tryCatch ?_)
    unfold Builtin.Dict.pairItems
    refine wpAny_bind (wpAny_typeOf (T := "tuple") ⟨o, ho, hc⟩ ?_)
    rw [if_pos (by first | decide | rfl | simp)]
    refine wpAny_bind (wpAny_seqItems ho hd (wpAny_pure ?_))
    show wpAny _ A.in1 (holding [.ref q.2.1, q.2.2] (dictSet S (.ref q.2.1) q.2.2)) _ _ _
    refine wpAny_holding (wpAny_dictSet_heap (knd := TK prog w) (k := q.1) (tupleKind_room_in1 hu) hk1 hm1 (fun h2 hm2 hs2 => ?_) (by omega))
    refine wpAny_pure ⟨plainId_quiet ud_plain _, upd_loopT (items := items) hu hh hlI hSI hSl rest (i + 1) (storedH acc q.1 q.2.1 q.2.2) (ix + 1) 0 _ (show items.size = i + 1 + rest.length by omega) ?_ (fun j q' e => ?_) (fun x hx => ?_) ?_ ?_ hm2 fun h' tk hd' k => ?_⟩
    · have z := storedH_len acc q.1 q.2.1 q.2.2
      omega
    · obtain ⟨b', hb', hbS', hbI', htup', g1, g2, g3⟩ := ht (j + 1) q' (by simpa using e)
      refine ⟨b', ?_, hbS', hbI', (htup'.extBut hs1.extBut hbI').extBut hs2.extBut hbS', g1, g2, tk_keep g3 fun o e => hs2.extBut _ o g1 (hs1.extBut _ o g2 e)⟩
      rw [show i + 1 + j = i + (j + 1) by omega]
      exact hb'
    · rcases storedH_mem hx with e | ⟨y, hy, e⟩
      · have e2 : x.2.1 = q.2.1 := congrArg Prod.snd e
        rw [e2]; exact ⟨hkS, hkI⟩
      · have e2 : x.2.1 = y.2.1 := congrArg Prod.snd e
        rw [e2]; exact hac y hy
    · exact hit1.at fun o' e => hs2.extBut I o' (Ne.symm hSI) e
    · exact hl1.extBut hs2.extBut (Ne.symm hSl)
    · exact hR h' tk hd' fun c oc h3 h4 e => k c oc h3 h4 (hs2.extBut c oc h3 (hs1.extBut c oc h4 e))
theorem call_dict_pairsT {A : Around} {E : Value → Shared → Prop} {s : Shared} {l : Addr} {ol : Obj} {items : Array Value} {n : Nat} {prs : List (List Key × Addr × Value)} {Q : Value → Shared → Prop} (hu : A.units + 65 < cLine) (hh : A.handled = none) (hl : s.heap.get? l = some ol) (hc : ol.cls = .type "list") (hd : ol.dict = none)
    (hdat : ol.data = .seq items n) (hsz : items.size = prs.length) (hln : prs.length ≤ sizeLine)
    (ht : ∀ (j : Nat) (q : List Key × Addr × Value), prs[j]? = some q → ∃ b : Addr, items[j]? = some (.ref b) ∧ IsTup s.heap b #[.ref q.2.1, q.2.2] ∧ (TK prog w).is s.heap q.1 q.2.1)
    (h : ∀ h' tk, h'.DictOfH (TK prog w) s.heap.objs.size (mergedH [] prs) → (∀ b o, s.heap.get? b = some o → h'.get? b = some o) → Q (.ref s.heap.objs.size) { s with heap := h', toks := tk }) :
    wpAny (model prog w) A (call (.type "dict") [.ref l]) Q E s := by
  refine callType_codes (Q₁ := fun obj s₁ => obj = .ref s.heap.objs.size ∧ s₁ = { s with heap := s.heap.push { cls := .type "dict", data := .dict #[] } }) PySem.F.kt_called_dict (PySem.F.kt_typeCall_dict_1 _) PySem.F.entry_dict_init (kt_code_dict_new _ ⟨rfl, rfl⟩) ?_
  rintro obj s₁ ⟨rfl, rfl⟩
  have hnew : (s.heap.push { cls := .type "dict", data := .dict #[] }).DictOfH (TK prog w) s.heap.objs.size [] := Heap.DictOfH.new s.heap
  have k0 : ∀ b o, s.heap.get? b = some o → (s.heap.push { cls := .type "dict", data := .dict #[] }).get? b = some o := fun b o e => Heap.get?_push_of_some _ e
  refine ⟨hnew.typeIs, PySem.F.args_dict_init_2 _ _, ?_⟩
  unfold Builtin.«dict.__init__»
  refine wpAny_bind ?_
  unfold Builtin.Dict.selfAndRest
  refine wpAny_bind (wpAny_notOrdered_dict hnew.typeIs ?_)
  show wpAny _ _ (pure (s.heap.objs.size, [Value.ref l])) _ _ _
  refine wpAny_pure ?_
  show wpAny _ _ (Builtin.Dict.updateFrom "dict.__init__" s.heap.objs.size (.ref l) [] .none) _ _ _
  unfold Builtin.Dict.updateFrom
  refine wpAny_bind (wpAny_typeOf (T := "list") ⟨ol, k0 _ _ hl, hc⟩ ?_)
  rw [if_pos (by first | decide | rfl | simp)]
  refine wpAny_bind (miss_list (k0 _ _ hl) hc hdat hd hh fun h1 tk1 hk1 => ?_)
  rw [if_pos (show (none : Option Value).isNone = true from rfl)]
  refine wpAny_bind (wpAny_rule ?_)
  have hl1 : h1.IsList l items := ⟨ol, hk1 _ _ (k0 _ _ hl), hc, n, hdat⟩
  have hS1 : s.heap.objs.size < h1.objs.size := by
    have e : (s.heap.push { cls := .type "dict", data := .dict #[] }).get? s.heap.objs.size = some { cls := .type "dict", data := .dict #[] } := Heap.get?_push_size _ rfl
    exact Heap.lt_size (hk1 _ _ e)
  refine wpAny_bind (wpAny_pyIter_list hl1 ?_)
  have k2 : ∀ b o, h1.get? b = some o → (h1.push { cls := .type "list_iterator", data := .fields #[.ref l, .int 0 0] }).get? b = some o := fun b o e => Heap.get?_push_of_some _ e
  have hlt : l < s.heap.objs.size := Heap.lt_size hl
  have key := upd_loopT (prog := prog) (w := w) (A := A.in1) (R := wants (fun r s₂ => r = .none ∧ Q (.ref s.heap.objs.size) s₂) E) (S := s.heap.objs.size) (I := h1.objs.size) (l := l) (items := items) (res := Value.none) (by simp only [Around.in1]; omega) hh
    (Nat.ne_of_lt (Nat.lt_trans hlt hS1)) (Nat.ne_of_lt hS1) (Nat.ne_of_gt hlt) prs 0 [] 0 0
    { s with heap := h1.push { cls := .type "list_iterator", data := .fields #[.ref l, .int 0 0] }, toks := tk1 } (by rw [hsz, Nat.zero_add]) (by rw [List.length_nil, Nat.zero_add]; exact hln)
    (fun j q e => by
      obtain ⟨b, e1, e2, e3⟩ := ht j q e
      have hb : b < s.heap.objs.size := e2.lt
      have hk : q.2.1 < s.heap.objs.size := by obtain ⟨o, _, _, ho, _⟩ := id e3; exact Heap.lt_size ho
      exact ⟨b, by rw [Nat.zero_add]; exact e1, Nat.ne_of_lt hb, Nat.ne_of_lt (Nat.lt_trans hb hS1), e2.keeps fun c o z => k2 _ _ (hk1 _ _ (k0 _ _ z)), Nat.ne_of_lt hk, Nat.ne_of_lt (Nat.lt_trans hk hS1), tk_keep e3 fun o z => k2 _ _ (hk1 _ _ (k0 _ _ z))⟩)
    (fun x hx => by simp at hx)
    ⟨_, Heap.get?_push_size _ rfl, rfl, rfl⟩ (hl1.at fun o e => k2 _ _ e) (dictH_keep (dictH_keep hnew (fun o e => hk1 _ _ e) fun x hx => by simp at hx) (fun o e => k2 _ _ e) fun x hx => by simp at hx)
    (fun h' tk hd' k => ⟨rfl, h h' tk hd' fun b o e => k b o (Nat.ne_of_lt (Heap.lt_size e)) (Nat.ne_of_lt (Nat.lt_trans (Heap.lt_size e) hS1)) (k2 _ _ (hk1 _ _ (k0 _ _ e)))⟩)
  first
    | exact wpAny_pure ⟨plainId_quiet ud_plain _, key⟩
    | exact wpAny_bind (wpAny_pure (wpAny_pure ⟨plainId_quiet ud_plain _, key⟩))
end
section
variable {X : Cx}
def mergeT (ps : List (List Key × V)) : List (List Key × V) := ps.foldl (fun acc kv => putK acc kv.1 kv.2) []
/-- dict(xs) of a list of pairs (tuple, value) -/
def rDictT (K : PySem.W.Frag) : List V → Hp → VK → Prop := fun xs H Q => ∃ (a : Addr) (ps : List (Addr × Addr × List Key × V)), xs = [.ref a] ∧ SqL K H a (ps.map fun p => V.ref p.1) ∧ (∀ p ∈ ps, SqT K H p.1 [.ref p.2.1, p.2.2.2] ∧ H p.2.1 = some (.tup (p.2.2.1.map kV))) ∧
    ∀ p, H p = none → Q (.ref p) (upd H p (.dT (mergeT (ps.map fun p => (p.2.2.1, p.2.2.2)))))
theorem pairsT_of {pins : List (Addr × Obj)} {σ : L2.St} {H : Hp} {s : Shared} (I : Inv X pins σ H s) : ∀ {ps : List (Addr × Addr × List Key × V)}, (∀ p ∈ ps, SqT X.K H p.1 [.ref p.2.1, p.2.2.2] ∧ H p.2.1 = some (.tup (p.2.2.1.map kV))) →
    ∃ prs : List (List Key × Addr × Value), prs.length = ps.length ∧ KT H (ps.map fun p => (p.2.2.1, p.2.2.2)) prs ∧ ∀ (j : Nat) (q : List Key × Addr × Value), prs[j]? = some q → ∃ p, ps[j]? = some p ∧ IsTup s.heap p.1 #[.ref q.2.1, q.2.2] ∧ (TK X.prog X.w).is s.heap q.1 q.2.1
  | [], _ => ⟨[], rfl, .nil, fun j q e => by simp at e⟩
  | p :: ps, h => by
    obtain ⟨prs, hl, r, hp⟩ := pairsT_of I fun q hq => h q (List.mem_cons_of_mem _ hq)
    obtain ⟨h1, h2⟩ := h p (List.mem_cons_self ..)
    obtain ⟨its, rv, ht, _⟩ := I.tuple h1
    obtain ⟨u, y, ei, ru, ry⟩ := vals2 rv
    subst ei
    cases (show u = Value.ref p.2.1 from ru)
    refine ⟨(p.2.2.1, p.2.1, y) :: prs, by simp [hl], .cons ⟨rfl, h2, ry⟩ r, fun j q e => ?_⟩
    cases j with
    | zero =>
      have e' := Option.some.inj e
      subst e'
      exact ⟨p, rfl, ht, key_of I.hok h2⟩
    | succ j =>
      obtain ⟨p', e1, e2⟩ := hp j q (by simpa using e)
      exact ⟨p', by simpa using e1, e2⟩
theorem KT.merge {H : Hp} : ∀ {ps : List (List Key × V)} {prs : List (List Key × Addr × Value)} {acc : List (List Key × V)} {ac2 : List (List Key × Addr × Value)}, KT H ps prs → KT H acc ac2 → KT H (ps.foldl (fun acc kv => putK acc kv.1 kv.2) acc) (mergedH ac2 prs)
  | _, _, _, _, .nil, k => k
  | p :: ps, q :: prs, acc, ac2, .cons h t, k => by
    obtain ⟨h1, h2, h3⟩ := h
    show KT H (ps.foldl _ (putK acc p.1 p.2)) (mergedH (storedH ac2 q.1 q.2.1 q.2.2) prs)
    refine KT.merge t ?_
    rw [← h1]
    exact KT.put k p.1 h2 h3
theorem mergeT_len (ps : List (List Key × V)) : ∀ acc : List (List Key × V), (ps.foldl (fun acc kv => putK acc kv.1 kv.2) acc).length ≤ acc.length + ps.length := by
  induction ps with
  | nil => intro acc; simp
  | cons p ps ih =>
    intro acc
    have h1 := ih (putK acc p.1 p.2)
    have h2 := length_putK acc p.1 p.2
    rw [List.foldl_cons, List.length_cons]
    omega
theorem call_dictT (hcalm : X.calm = true) (hu : X.A.units + 65 < cLine) : CallR X (.type "dict") (rDictT X.K) := by
  intro pins s σ H xs us Q I r q
  obtain ⟨a, ps, ex, hq, hp, q⟩ := q
  subst ex
  obtain ⟨u, eu, rx⟩ := vals1 r
  subst eu
  cases rx
  obtain ⟨its, rv, pl, hz⟩ := I.list hq
  have ei : its = (ps.map fun p => Value.ref p.1) := by
    have := refs_at (ps := ps.map fun p => p.1) (us := its) (by rw [List.map_map]; exact rv)
    rw [this, List.map_map]
    rfl
  subst ei
  rw [List.length_map] at hz
  obtain ⟨prs, hl, rel, hpr⟩ := pairsT_of I hp
  obtain ⟨o, n, ho, hc, hd, hdat⟩ := pl
  refine call_dict_pairsT (prs := prs) hu (I.ok.hd hcalm) ho hc hd hdat (by simp [hl]) (by rw [hl]; exact hz) (fun j q' e => ?_) fun h' tk hd' k => ?_
  · obtain ⟨p, e1, e2, e3⟩ := hpr j q' e
    exact ⟨p.1, by simp [e1], e2, e3⟩
  · have hm : (s.heap.objs.size == sysModules) = false := beq_eq_false_iff_ne.mpr (Nat.ne_of_gt I.big)
    have hlen : (mergeT (ps.map fun p => (p.2.2.1, p.2.2.2))).length ≤ sizeLine := by
      have := mergeT_len (ps.map fun p => (p.2.2.1, p.2.2.2)) []
      rw [List.length_map, List.length_nil] at this
      unfold mergeT
      omega
    have hf := I.hok.fresh (Nat.le_refl s.heap.objs.size)
    obtain ⟨o', es, ep, h1, h2, h3, h4, h5, h6⟩ := hd'
    refine ⟨.ref s.heap.objs.size, upd H s.heap.objs.size (.dT (mergeT (ps.map fun p => (p.2.2.1, p.2.2.2)))), I.laid (t' := tk) k (Nat.le_refl _) ⟨hlen, hm, mergedH [] prs, (KT.merge rel .nil).keeps fun c ys ec => ?_, o', es, ep, h1, h2, h3, h4, h6⟩, rfl, q _ hf⟩
    rw [upd_ne (ne_of_none ec hf)]
    exact ec
end
end Dx

/-! Dx12: dict(pairs), list(dict), min and max of two. -/
namespace Dx
open PySem PySem.Spec L2
variable {G : Gx} {X : Cx} {W : WX}
def mergeDg {κ : Type} [DecidableEq κ] (kvs : List (κ × D)) : List (κ × D) := kvs.foldl (fun acc kv => putD acc kv.1 kv.2) []
theorem denK_mergeG {κ : Type} [DecidableEq κ] {μ : List Addr} {H : Hp} : ∀ {ps : List (κ × D)} {qs : List (κ × V)} {fs : List (κ × D)} {gs : List (κ × V)}, DenK G μ H ps qs → DenK G μ H fs gs → DenK G μ H (ps.foldl (fun acc kv => putD acc kv.1 kv.2) fs) (qs.foldl (fun acc kv => putK acc kv.1 kv.2) gs)
  | [], qs, _, _, h, k => by
    have : qs = [] := List.map_eq_nil_iff.mp h.1
    subst this
    exact k
  | p :: ps, [], _, _, h, k => by have := h.1; simp at this
  | p :: ps, q :: qs, fs, gs, h, k => by
    obtain ⟨h1, h2⟩ := h
    simp only [List.map_cons, List.cons.injEq] at h1
    cases h2 with
    | cons a b =>
      rw [List.foldl_cons, List.foldl_cons]
      refine denK_mergeG (ps := ps) (qs := qs) ⟨h1.2, b⟩ ?_
      rw [h1.1]
      exact denK_put k a
def pairT : D → Option (List Key × D)
  | .tup [.tup ks, v] => (ks.mapM keyD).map fun k => (k, v)
  | _ => none
def pairK : D → Option (Key × D)
  | .tup [k, v] => (keyD k).map fun k => (k, v)
  | _ => none
def cDict : CV := fun ds S => match ds with
  | [d] => match seqOf S d with
    | some xs => match xs.mapM pairT with
      | some ps => newO (.dtt (mergeDg ps)) S
      | none => match xs.mapM pairK with
        | some ps => newO (.dct (mergeDg ps)) S
        | none => .stuck
    | none => .stuck
  | _ => .stuck
theorem pairsT_den {μ : List Addr} {H : Hp} : ∀ {xs : List D} {vs : List V} {ps : List (List Key × D)}, DenA G μ H xs vs → xs.mapM pairT = some ps →
    ∃ qs : List (Addr × Addr × List Key × V), vs = qs.map (fun p => V.ref p.1) ∧ (∀ p ∈ qs, SqT G.K H p.1 [.ref p.2.1, p.2.2.2] ∧ H p.2.1 = some (.tup (p.2.2.1.map kV))) ∧ DenK G μ H ps (qs.map fun p => (p.2.2.1, p.2.2.2))
  | [], _, ps, .nil, e => by simp at e; subst e; exact ⟨[], rfl, fun p hp => by simp at hp, rfl, .nil⟩
  | x :: xs, _, ps, .cons h t, e => by
    rw [List.mapM_cons] at e
    obtain ⟨p, e1, e2⟩ := Option.bind_eq_some_iff.mp e
    obtain ⟨q, e3, e4⟩ := Option.bind_eq_some_iff.mp e2
    cases e4
    obtain ⟨qs, f1, f2, f3⟩ := pairsT_den t e3
    unfold pairT at e1
    split at e1
    · rename_i ks v
      obtain ⟨k, e5, e6⟩ := Option.map_eq_some_iff.mp e1
      subst e6
      cases h with
      | @tup a _ _ h1 h2 =>
        cases h2 with
        | cons d1 d2 =>
          cases d2 with
          | cons d3 d4 =>
            cases d4
            cases d1 with
            | @tup b _ _ g1 g2 =>
              have := keys_den g2 e5
              subst this
              rename_i vv
              refine ⟨(a, b, k, vv) :: qs, by simp [f1], fun p hp => ?_, by simp [f3.1], .cons d3 f3.2⟩
              rcases List.mem_cons.mp hp with rfl | hp
              · exact ⟨SqT.of h1, g1⟩
              · exact f2 p hp
    · cases e1
theorem pairsK_den {μ : List Addr} {H : Hp} : ∀ {xs : List D} {vs : List V} {ps : List (Key × D)}, DenA G μ H xs vs → xs.mapM pairK = some ps →
    ∃ (as : List Addr) (qs : List (Key × V)), vs = as.map V.ref ∧ Paired (fun p kv => SqT G.K H p [kV kv.1, kv.2]) as qs ∧ DenK G μ H ps qs
  | [], _, ps, .nil, e => by simp at e; subst e; exact ⟨[], [], rfl, .nil, rfl, .nil⟩
  | x :: xs, _, ps, .cons h t, e => by
    rw [List.mapM_cons] at e
    obtain ⟨p, e1, e2⟩ := Option.bind_eq_some_iff.mp e
    obtain ⟨q, e3, e4⟩ := Option.bind_eq_some_iff.mp e2
    cases e4
    obtain ⟨as, qs, f1, f2, f3⟩ := pairsK_den t e3
    unfold pairK at e1
    split at e1
    · rename_i kd v
      obtain ⟨k, e5, e6⟩ := Option.map_eq_some_iff.mp e1
      subst e6
      cases h with
      | @tup a _ _ h1 h2 =>
        cases h2 with
        | cons d1 d2 =>
          cases d2 with
          | cons d3 d4 =>
            cases d4
            have := key_den d1 e5
            subst this
            rename_i vv
            exact ⟨a :: as, (k, vv) :: qs, by simp [f1], .cons (SqT.of h1) f2, by simp [f3.1], .cons d3 f3.2⟩
    · cases e1
theorem post_dtt (g : G.Ok) {μ : List Addr} {H : Hp} {σ : L2.St} {S : Sg} {kvs : List (List Key × D)} {gs : List (List Key × V)} {Q : VK} (rp : Rep G μ S H) (d : DenK G μ H kvs gs) (h : Post (Den G) G W μ H σ (newO (.dtt kvs) S) Q) {p : Addr} (hp : H p = none) : Q (.ref p) (upd H p (.dT gs)) := by
  refine h (μ ++ [p]) _ _ (per_push g hp) (rp.push g hp ⟨gs, upd_same, d.per (per_push g hp)⟩) (.ref ?_)
  rw [← rp.len, List.getElem?_append_right (Nat.le_refl _), Nat.sub_self]
  rfl
theorem post_dct (g : G.Ok) {μ : List Addr} {H : Hp} {σ : L2.St} {S : Sg} {kvs : List (Key × D)} {gs : List (Key × V)} {Q : VK} (rp : Rep G μ S H) (d : DenK G μ H kvs gs) (h : Post (Den G) G W μ H σ (newO (.dct kvs) S) Q) {p : Addr} (hp : H p = none) : Q (.ref p) (upd H p (.dK gs)) := by
  refine h (μ ++ [p]) _ _ (per_push g hp) (rp.push g hp ⟨gs, upd_same, d.per (per_push g hp)⟩) (.ref ?_)
  rw [← rp.len, List.getElem?_append_right (Nat.le_refl _), Nat.sub_self]
  rfl
abbrev rDictP (K : PySem.W.Frag) : List V → Hp → VK → Prop := fun xs H Q => ∃ (a : Addr) (ps : List Addr) (kvs : List (Key × V)), xs = [.ref a] ∧ SqL K H a (ps.map V.ref) ∧ Paired (fun p kv => SqT K H p [kV kv.1, kv.2]) ps kvs ∧ ∀ p, H p = none → Q (.ref p) (upd H p (.dK (mergeK [] kvs)))
theorem mergeK_fold (kvs : List (Key × V)) : mergeK [] kvs = kvs.foldl (fun acc kv => putK acc kv.1 kv.2) [] := rfl
theorem cv_dict (g : G.Ok) : CallV G W (fun xs H Q => rDictT G.K xs H Q ∨ rDictP G.K xs H Q) cDict := by
  intro μ S H xs ds σ Q rp dd po
  unfold cDict at po
  split at po
  · cases dd with
    | cons d1 t =>
      cases t
      split at po
      · rename_i ys e
        obtain ⟨a, vs, rfl, h1, h2⟩ := seq_den rp d1 e
        split at po
        · rename_i ps ep
          obtain ⟨qs, f1, f2, f3⟩ := pairsT_den h2 ep
          subst f1
          exact .inl ⟨a, qs, rfl, h1, f2, fun p hp => post_dtt g rp (denK_mergeG f3 ⟨rfl, .nil⟩) po hp⟩
        · split at po
          · rename_i ps ep
            obtain ⟨as, qs, f1, f2, f3⟩ := pairsK_den h2 ep
            subst f1
            exact .inr ⟨a, as, qs, rfl, h1, f2, fun p hp => post_dct g rp (denK_mergeG f3 ⟨rfl, .nil⟩) po hp⟩
          · exact po.elim
      · exact po.elim
  · exact po.elim
theorem de_dict1 {e : Expr} {p pos : Pos} {g : FA} (A : Amb G X W) (hc : X.calm = true) (hm : X.mg "dict" = none) (ha : PA X [e] (TDA G W g)) (hg : Gl X "dict" := by rfl) (he : starEach [e] X.env = (false, eval e X.env) :: starEach [] X.env := by rfl) (hpl : (backTo pos (starEach [] X.env)).any (·.1) = false := by rfl) : PE X (.Call (.Name "dict" p) [e] [] pos) (TD G W (xB cDict g)) :=
  de_callTy (r := fun xs H Q => rDictT G.K xs H Q ∨ rDictP G.K xs H Q) (by have := (call_dictT (X := X) hc A.hu).or (call_dictP hc); rw [A.hK] at this; exact this) (cv_dict A.ok) hm PyProof.Rows.boot_dict ha hg (by decide) (by decide) he hpl
/-! ### list(d) -/
def ofKey : Key → D
  | .inl i => .int i
  | .inr s => .str (String.ofList (s.cps.toList.map Char.ofNat))
def keyOk : Key → Bool
  | .inl _ => true
  | .inr s => decide (Str.ofString (String.ofList (s.cps.toList.map Char.ofNat)) = s)
theorem ofKey_den {μ : List Addr} {H : Hp} {k : Key} (h : keyOk k = true) : Den G μ H (ofKey k) (kV k) := by
  cases k with
  | inl i => exact .int i
  | inr s =>
    have e : Str.ofString (String.ofList (s.cps.toList.map Char.ofNat)) = s := of_decide_eq_true h
    show Den G μ H (.str _) (.str s)
    have := Den.str (G := G) (μ := μ) (H := H) (String.ofList (s.cps.toList.map Char.ofNat))
    rw [e] at this
    exact this
theorem ofKeys_den {μ : List Addr} {H : Hp} : ∀ {ks : List Key}, ks.all keyOk = true → DenA G μ H (ks.map ofKey) (ks.map kV)
  | [], _ => .nil
  | k :: ks, h => by
    rw [List.all_cons, Bool.and_eq_true] at h
    exact .cons (ofKey_den h.1) (ofKeys_den h.2)
def cListD : CV := fun ds S => match ds with
  | [d] => match itemsD S d with
    | some xs => newO (.lst xs) S
    | none => match d with
      | .ref n => match S[n]? with
        | some (.dtt kvs) => if (kvs.all fun kv => kv.1.all keyOk) = true then newO (.lst (kvs.map fun kv => .tup (kv.1.map ofKey))) S else .stuck
        | some (.dct kvs) => if (kvs.all fun kv => keyOk kv.1) = true then newO (.lst (kvs.map fun kv => ofKey kv.1)) S else .stuck
        | _ => .stuck
      | _ => .stuck
  | _ => .stuck
abbrev rListAny (K : PySem.W.Frag) : List V → Hp → VK → Prop := fun xs H Q => (∃ p ys, xs = [.ref p] ∧ (SqL K H p ys ∨ SqT K H p ys) ∧ ∀ l, H l = none → Q (.ref l) (upd H l (.lst ys))) ∨
  (∃ d kvs, xs = [V.ref d] ∧ Rd H d (.dT kvs) ∧ ∀ p bs, H p = none → IsKeys H kvs bs → Q (.ref p) (upd H p (.lst (bs.map V.ref)))) ∨ rListD xs H Q
theorem keysT_den {μ : List Addr} {H : Hp} : ∀ {gs : List (List Key × V)} {bs : List Addr} {kvs : List (List Key × D)}, gs.map (·.1) = kvs.map (·.1) → (kvs.all fun kv => kv.1.all keyOk) = true → IsKeys H gs bs → DenA G μ H (kvs.map fun kv => .tup (kv.1.map ofKey)) (bs.map V.ref)
  | [], _, kvs, e, _, h => by
    have : kvs = [] := List.map_eq_nil_iff.mp e.symm
    subst this
    cases h
    exact .nil
  | g :: gs, bs, [], e, _, h => by simp at e
  | g :: gs, bs, kv :: kvs, e, k, h => by
    cases h with
    | cons h1 h2 =>
      simp only [List.map_cons, List.cons.injEq] at e
      rw [List.all_cons, Bool.and_eq_true] at k
      refine .cons (.tup h1 ?_) (keysT_den e.2 k.2 h2)
      rw [e.1]
      exact ofKeys_den k.1
theorem cv_listD (g : G.Ok) : CallV G W (rListAny G.K) cListD := by
  intro μ S H xs ds σ Q rp dd po
  unfold cListD at po
  split at po
  · cases dd with
    | cons d1 t =>
      cases t
      split at po
      · rename_i ys e
        obtain ⟨a, vs, rfl, h1, h2⟩ := items_den rp d1 e
        exact .inl ⟨a, vs, rfl, h1, fun l hl => post_lst g rp h2 po hl⟩
      · split at po
        · cases d1 with
          | ref hn =>
            split at po
            · rename_i kvs eo
              obtain ⟨c, po⟩ := post_ite po
              obtain ⟨gs, h1, h2, h3⟩ := rp.obj hn eo
              exact .inr (.inl ⟨_, gs, rfl, .inl h1, fun p bs hp ik => post_lst g rp (keysT_den h2 c ik) po hp⟩)
            · rename_i kvs eo
              obtain ⟨c, po⟩ := post_ite po
              obtain ⟨gs, h1, h2, h3⟩ := rp.obj hn eo
              refine .inr (.inr ⟨_, gs, rfl, h1, fun p hp => post_lst g rp ?_ po hp⟩)
              have e1 : gs.map (fun kv => kV kv.1) = (kvs.map (·.1)).map kV := by rw [← h2, List.map_map]; rfl
              have e2 : kvs.map (fun kv => ofKey kv.1) = (kvs.map (·.1)).map ofKey := by rw [List.map_map]; rfl
              rw [e1, e2]
              refine ofKeys_den ?_
              rw [List.all_map]
              exact c
            · exact po.elim
        · exact po.elim
  · exact po.elim
theorem de_listC {e : Expr} {p pos : Pos} {g : FA} (A : Amb G X W) (hc : X.calm = true) (hm : X.mg "list" = none) (ha : PA X [e] (TDA G W g)) (hg : Gl X "list" := by rfl) (he : starEach [e] X.env = (false, eval e X.env) :: starEach [] X.env := by rfl) (hpl : (backTo pos (starEach [] X.env)).any (·.1) = false := by rfl) : PE X (.Call (.Name "list" p) [e] [] pos) (TD G W (xB cListD g)) :=
  de_callTy (r := rListAny G.K) (by have := (call_list_of (X := X)).or ((call_list_dT hc).or (call_list_dK hc)); rw [A.hK] at this; exact this) (cv_listD A.ok) hm PyProof.Rows.boot_list ha hg (by decide) (by decide) he hpl
/-! ### min, max of two ints -/
def cMin2 : CV := fun ds S => match ds with
  | [.int i, .int j] => .ok (.int (if j < i then j else i)) S
  | _ => .stuck
def cMax2 : CV := fun ds S => match ds with
  | [.int i, .int j] => .ok (.int (if j > i then j else i)) S
  | _ => .stuck
theorem cv_min2 : CallV G W (fun xs H Q => ∃ i j, xs = [.int i, .int j] ∧ Q (.int (if j < i then j else i)) H) cMin2 := by
  intro μ S H xs ds σ Q rp dd po
  unfold cMin2 at po
  split at po
  · cases dd with
    | cons a t =>
      cases t with
      | cons b t =>
        cases t
        cases a
        cases b
        exact ⟨_, _, rfl, post_ok rp po (.int _)⟩
  · exact po.elim
theorem cv_max2 : CallV G W (fun xs H Q => ∃ i j, xs = [.int i, .int j] ∧ Q (.int (if j > i then j else i)) H) cMax2 := by
  intro μ S H xs ds σ Q rp dd po
  unfold cMax2 at po
  split at po
  · cases dd with
    | cons a t =>
      cases t with
      | cons b t =>
        cases t
        cases a
        cases b
        exact ⟨_, _, rfl, post_ok rp po (.int _)⟩
  · exact po.elim
theorem de_min2 {e e2 : Expr} {p pos : Pos} {g : FA} (A : Amb G X W) (hc : X.calm = true) (hm : X.mg "min" = none) (ha : PA X [e, e2] (TDA G W g)) (hg : Gl X "min" := by rfl) (he : starEach [e, e2] X.env = (false, eval e X.env) :: starEach [e2] X.env := by rfl) (hpl : (backTo pos (starEach [e2] X.env)).any (·.1) = false := by rfl) : PE X (.Call (.Name "min" p) [e, e2] [] pos) (TD G W (xB cMin2 g)) :=
  de_callB (call_min2 hc) cv_min2 hm PyProof.Rows.boot_min ha hg (by decide) (by decide) he hpl
theorem de_max2 {e e2 : Expr} {p pos : Pos} {g : FA} (A : Amb G X W) (hc : X.calm = true) (hm : X.mg "max" = none) (ha : PA X [e, e2] (TDA G W g)) (hg : Gl X "max" := by rfl) (he : starEach [e, e2] X.env = (false, eval e X.env) :: starEach [e2] X.env := by rfl) (hpl : (backTo pos (starEach [e2] X.env)).any (·.1) = false := by rfl) : PE X (.Call (.Name "max" p) [e, e2] [] pos) (TD G W (xB cMax2 g)) :=
  de_callB (call_max2 hc) cv_max2 hm PyProof.Rows.boot_max ha hg (by decide) (by decide) he hpl
end Dx

/-! Dx13: own classes: made, methods; what the top has written; the law's end. -/
namespace Dx
open PySem PySem.Spec L2
variable {G : Gx} {X : Cx} {W : WX}
/-! ### made -/
theorem run_makeS {CX : CXT} {k : Nat} {f C : Addr} {fd : FuncData} {ps : List Str} {sp : Sp} {E : XK} {pins : List (Addr × Obj)} {σ : L2.St} {H : Hp} {s : Shared} {Q : VK} {us : List Value} {vs : List V} (M : Mk X.K C f) (F : FnOk X.prog X.w X.K X.mg X.base CX k f fd ps sp) (hr : Room (k + 1) X.A) (hb : Binds X.K fd ps [])
    (hx : PassesAt CX X σ E) (I : Inv X pins σ H s) (r : Vals vs us)
    (h : ∀ x dx, H x = none → H dx = none → dx ≠ x → sp (.ref x :: vs) (upd (upd H dx (.own x)) x (.ins C dx [])) (fun v H2 => v = .non ∧ Q (.ref x) H2) E) :
    wpAny (model X.prog X.w) X.A (call (.ref C) us) (EP X pins σ Q) X.xe s := by
  have hq := h (s.heap.objs.size + 1) s.heap.objs.size (I.hok.fresh (Nat.le_succ _)) (I.hok.fresh (Nat.le_refl _)) (Nat.ne_of_lt (Nat.lt_succ_self _))
  have I2 := Inv.made (C := C) I
  have r2 : Vals (V.ref (s.heap.objs.size + 1) :: vs) (Value.ref (s.heap.objs.size + 1) :: us) := .cons rfl r
  have hl : (Value.ref (s.heap.objs.size + 1) :: us).length = ps.length := by
    have e := r2.length
    rw [F.len _ _ _ _ hq] at e
    exact e.symm
  have b := hb ⟨(s.heap.push PySem.W.emptyDict).push (PySem.W.instObj C s.heap.objs.size), s.gens, s.drawn, s.toks, s.os⟩ (Value.ref (s.heap.objs.size + 1) :: us) I2.kIn (by rw [List.append_nil]; exact hl)
  rw [List.append_nil] at b
  refine wpAny_call (make_map (f := f) I.kIn M.makes M.init (beq_iff_eq.mp M.fn) (codeAny_mono (F.run _ X.stack _ _ ⟨Value.ref (s.heap.objs.size + 1) :: us, []⟩ (Value.ref (s.heap.objs.size + 1) :: us) _ _ E (hr.make C us [])
    (I2.env0.make C us []) b r2 hq) fun r s' hq' => ?_))
  cases r with
  | error e => exact hx pins _ _ e s' I2 hq'
  | ok fl =>
    cases fl with
    | ret u =>
      obtain ⟨v, H', I3, rv, ev, q3⟩ := I2.after hq'
      subst ev
      exact ⟨rv, ⟨V.ref (s.heap.objs.size + 1), H', I3, rfl, q3⟩⟩
    | next => exact False.elim hq'
    | brk => exact False.elim hq'
    | cont => exact False.elim hq'
def tMakeS (C : Addr) (sp : Sp) (E : L2.St → XK) (t : TA) : TE := fun σ H Q => t σ H fun vs H1 => ∀ x dx, H1 x = none → H1 dx = none → dx ≠ x →
  sp (.ref x :: vs) (upd (upd H1 dx (.own x)) x (.ins C dx [])) (fun v H2 => v = .non ∧ Q (.ref x) H2) (E σ)
theorem pe_makeS {CX : CXT} {k : Nat} {f C : Addr} {fd : FuncData} {ps : List Str} {sp : Sp} {E : L2.St → XK} {x : Str} {p pos : Pos} {e : Expr} {es : List Expr} {t : TA} (M : Mk X.K C f) (F : FnOk X.prog X.w X.K X.mg X.base CX k f fd ps sp) (hr : Room (k + 1) X.A) (hg : Gl X x) (hm : X.mg x = some (.ref C)) (hb : Binds X.K fd ps []) (hx : ∀ σ, PassesAt CX X σ (E σ))
    (ha : PA X (e :: es) t) (hdb : (x == ("__debug__" : Str)) = false := by decide) (he : starEach (e :: es) X.env = (false, eval e X.env) :: starEach es X.env := by rfl) (hpl : (backTo pos (starEach es X.env)).any (·.1) = false := by rfl) :
    PE X (.Call (.Name x p) (e :: es) [] pos) (tMakeS C sp E t) := by
  refine ⟨fun pins s σ H Q I h => ?_⟩
  refine wpAny_Call_Name_kw (ld_glob I hg hm ?_ hdb)
  refine PySem.W.callWith_K (h₀ := X.base) I.ok.mod.kin M.kp (thn (ha.run pos pins s σ H _ I h) fun us s1 ⟨vs, H1, I1, r, q⟩ => ⟨I1.kIn, ?_⟩) he hpl
  exact run_makeS M F hr hb (hx σ) I1 r q
structure MakD (P : Program) (w : World) (K : PySem.W.Frag) (mg : Str → Option Value) (base : Heap) (G : Gx) (k : Nat) (x : Str) (c n : Nat) (F : FF) : Prop where
  ex : ∃ f fd ps, FnOk P w K mg base (L2.CX P w) k f fd ps (spD G (n + 1) F) ∧ mg x = some (.ref (G.cls c)) ∧ Mk K (G.cls c) f ∧ Binds K fd ps []
def xMake (c n : Nat) (F : FF) (g : FA) : FE := fun ρ S => (g ρ S).bind fun ds S1 => if ds.length = n then
  (match F (.ref S1.length :: ds) (S1 ++ [.obj c []]) with
  | .ok .non S2 => .ok (.ref S1.length) S2
  | .exc c fs S2 => .exc c fs S2
  | _ => .stuck) else .stuck
theorem de_make {x : Str} {p pos : Pos} {e : Expr} {es : List Expr} {g : FA} {F : FF} {k j n c : Nat} (A : Amb G X W) (d : MakD X.prog X.w X.K X.mg X.base G j x c n F) (hr : Room k X.A) (hk : j + 1 ≤ k) (ha : PA X (e :: es) (TDA G W g)) (hg : Gl X x := by rfl)
    (hdb : (x == ("__debug__" : Str)) = false := by decide) (he : starEach (e :: es) X.env = (false, eval e X.env) :: starEach es X.env := by rfl) (hpl : (backTo pos (starEach es X.env)).any (·.1) = false := by rfl) :
    PE X (.Call (.Name x p) (e :: es) [] pos) (TD G W (xMake c n F g)) := by
  obtain ⟨f, fd, ps, Fo, hm, M, hb⟩ := d.ex
  refine PE.imp (pe_makeS M Fo (hr.mono hk) hg hm hb (fun σ => passAt A.tk σ) ha hdb he hpl) fun σ H Q ⟨μ, ρ, S, en, rp, po⟩ => ⟨μ, ρ, S, en, rp, (post_bind po).mono fun vs H1 ⟨μ1, ds, S1, pe, rp1, dd, p1⟩ => ?_⟩
  obtain ⟨c1, p2⟩ := post_ite p1
  intro a dx hx hdx hne
  have p01 : Per G μ1 H1 μ1 (upd H1 dx (.own a)) := per_new A.ok hdx
  have rp2 := rp1.new A.ok (u := .own a) hdx
  have hx2 : upd H1 dx (.own a) a = none := by rw [upd_ne (Ne.symm hne)]; exact hx
  have p02 : Per G μ1 (upd H1 dx (.own a)) (μ1 ++ [a]) (upd (upd H1 dx (.own a)) a (.ins (G.cls c) dx [])) := per_push A.ok hx2
  have rp3 : Rep G (μ1 ++ [a]) (S1 ++ [.obj c []]) (upd (upd H1 dx (.own a)) a (.ins (G.cls c) dx [])) := rp2.push A.ok hx2 ⟨dx, [], upd_same, rfl, .nil⟩
  have per := p01.trans p02
  have hn : (μ1 ++ [a])[S1.length]? = some a := by
    rw [← rp1.len, List.getElem?_append_right (Nat.le_refl _), Nat.sub_self]
    rfl
  refine ⟨by show vs.length + 1 = n + 1; rw [← dd.length, c1], μ1 ++ [a], S1 ++ [.obj c []], .ref S1.length :: ds, rp3, .cons (.ref hn) (dd.per per), ?_⟩
  have p3 := Post.per p2 per
  revert p3
  generalize F (.ref S1.length :: ds) (S1 ++ [.obj c []]) = r
  intro p3
  cases r with
  | exc c fs S' => exact p3
  | stuck => exact p3
  | ok dd' S' =>
    cases dd' with
    | non =>
      intro μ' H' b pe' rp' db
      cases db
      exact ⟨rfl, p3 _ _ _ pe' rp' (.ref (pe'.ext _ _ hn))⟩
    | _ => exact p3.elim
/-! ### methods -/
def tMethS' (C : Addr) (m : Str) (sp : Sp) (E : L2.St → XK) (ta : TE) (t : TA) : TE := fun σ H Q => ta σ H fun x H1 => ∃ a dx fs, x = .ref a ∧ H1 a = some (.ins C dx fs) ∧ fs.lookup m = none ∧
  t σ H1 fun vs H2 => sp (x :: vs) H2 Q (E σ)
theorem pe_methS' {CX : CXT} {k : Nat} {f C : Addr} {fd : FuncData} {ps : List Str} {sp : Sp} {E : L2.St → XK} {m : Str} {pos apos : Pos} {o e : Expr} {es : List Expr} {ta : TE} {t : TA} {pl : Sem Bool} (he : PE X o ta) (c : Cls X.K C) (hm : Meth X.K C m f) (F : FnOk X.prog X.w X.K X.mg X.base CX k f fd ps sp) (hr : Room k X.A) (hb : Binds X.K fd ps []) (hx : ∀ σ, PassesAt CX X σ (E σ)) (ha : PA X (e :: es) t)
    (hst : starEach (e :: es) X.env = (false, eval e X.env) :: starEach es X.env := by rfl) (hpl : (backTo pos (starEach es X.env)).any (·.1) = false := by rfl)
    (ht : eval (.Call (.Attribute o m apos) (e :: es) [] pos) X.env = (do
      let ov ← eval o X.env
      standAt apos.atName
      let (f, first) ← holding [ov] (getMethod ov m pl)
      callWith pos f first (backTo pos (starEach (e :: es) X.env)) (backToKw pos (keywordEach [] X.env))) := by rfl) :
    PE X (.Call (.Attribute o m apos) (e :: es) [] pos) (tMethS' C m sp E ta t) := by
  refine ⟨fun pins s σ H Q I h => ?_⟩
  refine PySem.W.methodCall_KW (pl := pl) (thn (he.run pins s σ H _ I h) fun u s1 ⟨x, H1, I1, rx, a, dx, fs, ex, ea, l, q⟩ => ?_) ht
  subst ex
  obtain rfl : u = Value.ref a := rx
  refine getmeth_ok I1 ea c hm l ?_
  refine PySem.W.callWith_K (first := [.ref a]) (h₀ := X.base) I.ok.mod.kin hm.kp (thn (ha.run pos pins s1 σ H1 _ I1 q) fun us s2 ⟨vs, H2, I2, r, q2⟩ => ⟨I2.kIn, ?_⟩) hst hpl
  exact run_fnS (us := .ref a :: us) (vs := .ref a :: vs) F hr hb (hx σ) I2 (.cons rfl r) q2
theorem pe_methS0 {CX : CXT} {k : Nat} {f C : Addr} {fd : FuncData} {ps : List Str} {sp : Sp} {E : L2.St → XK} {m : Str} {pos apos : Pos} {o : Expr} {ta : TE} {pl : Sem Bool} (he : PE X o ta) (c : Cls X.K C) (hm : Meth X.K C m f) (F : FnOk X.prog X.w X.K X.mg X.base CX k f fd ps sp) (hr : Room k X.A) (hb : Binds X.K fd ps []) (hx : ∀ σ, PassesAt CX X σ (E σ))
    (ht : eval (.Call (.Attribute o m apos) [] [] pos) X.env = (do
      let ov ← eval o X.env
      standAt apos.atName
      let (f, first) ← holding [ov] (getMethod ov m pl)
      callWith pos f first (backTo pos (starEach [] X.env)) (backToKw pos (keywordEach [] X.env))) := by rfl) :
    PE X (.Call (.Attribute o m apos) [] [] pos) (tMethS' C m sp E ta tNil) := by
  refine ⟨fun pins s σ H Q I h => ?_⟩
  refine PySem.W.methodCall_KW (pl := pl) (thn (he.run pins s σ H _ I h) fun u s1 ⟨x, H1, I1, rx, a, dx, fs, ex, ea, l, q⟩ => ?_) ht
  subst ex
  obtain rfl : u = Value.ref a := rx
  refine getmeth_ok I1 ea c hm l ?_
  exact PySem.W.callWith_K0 (first := [.ref a]) I1.kIn hm.kp (run_fnS (us := [.ref a]) (vs := [.ref a]) F hr hb (hx σ) I1 (.cons rfl .nil) q)
structure MetD (P : Program) (w : World) (K : PySem.W.Frag) (mg : Str → Option Value) (base : Heap) (G : Gx) (k c : Nat) (m : Str) (n : Nat) (F : FF) : Prop where
  ex : ∃ f fd ps, FnOk P w K mg base (L2.CX P w) k f fd ps (spD G (n + 1) F) ∧ Meth K (G.cls c) m f ∧ Binds K fd ps []
/-- the instance, none of whose fields has the method's name -/
def insD (S : Sg) (c : Nat) (m : String) : D → Bool
  | .ref n => match S[n]? with
    | some (.obj k fs) => decide (k = c) && fs.all fun p => decide (p.1 ≠ m)
    | _ => false
  | _ => false
theorem denF_none {μ : List Addr} {H : Hp} {m : String} : ∀ {fs : List (String × D)} {gs : List (Str × V)}, gs.map (·.1) = fs.map (fun p => Str.ofString p.1) → (fs.all fun p => decide (p.1 ≠ m)) = true → gs.lookup (Str.ofString m) = none
  | [], gs, e, _ => by
    have : gs = [] := List.map_eq_nil_iff.mp e
    subst this
    rfl
  | p :: fs, [], e, _ => by simp at e
  | p :: fs, g :: gs, e, h => by
    simp only [List.map_cons, List.cons.injEq] at e
    rw [List.all_cons, Bool.and_eq_true] at h
    obtain ⟨g1, g2⟩ := g
    have hne : ¬ Str.ofString m = g1 := fun z => (of_decide_eq_true h.1) (ofS_inj (z.trans e.1).symm)
    have hb : (Str.ofString m == g1) = false := by simpa using hne
    rw [List.lookup_cons, hb]
    exact denF_none (μ := μ) (H := H) e.2 h.2
theorem ins_den {μ : List Addr} {H : Hp} {S : Sg} {c : Nat} {m : String} {d : D} {v : V} (rp : Rep G μ S H) (h : Den G μ H d v) (e : insD S c m d = true) : ∃ a dx fs, v = .ref a ∧ H a = some (.ins (G.cls c) dx fs) ∧ fs.lookup (Str.ofString m) = none := by
  cases h with
  | ref hn =>
    simp only [insD] at e
    split at e
    · rename_i k fs eo
      rw [Bool.and_eq_true] at e
      have ek := of_decide_eq_true e.1
      subst ek
      obtain ⟨dx, gs, h1, h2, h3⟩ := rp.obj hn eo
      exact ⟨_, dx, gs, rfl, h1, denF_none (μ := μ) (H := H) h2 e.2⟩
    · cases e
  | _ => simp [insD] at e
def xMeth (c : Nat) (m : String) (n : Nat) (F : FF) (f : FE) (g : FA) : FE := fun ρ S => (f ρ S).bind fun o S1 => if insD S1 c m o = true then
  (g ρ S1).bind fun ds S2 => if ds.length = n then F (o :: ds) S2 else .stuck else .stuck
theorem meth_read {c n : Nat} {m : String} {F : FF} {f : FE} {g : FA} {σ : L2.St} {H : Hp} {Q : VK} (q : TD G W (xMeth c m n F f g) σ H Q) : tMethS' (G.cls c) (Str.ofString m) (spD G (n + 1) F) (WE W) (TD G W f) (TDA G W g) σ H Q := by
  obtain ⟨μ, ρ, S, en, rp, po⟩ := q
  refine ⟨μ, ρ, S, en, rp, (post_bind po).mono fun x H1 ⟨μ1, o, S1, pe, rp1, dd, p1⟩ => ?_⟩
  obtain ⟨c1, p2⟩ := post_ite p1
  obtain ⟨a, dx, fs, rfl, h1, h2⟩ := ins_den rp1 dd c1
  refine ⟨a, dx, fs, rfl, h1, h2, μ1, ρ, S1, en.per pe, rp1, (post_bind p2).mono fun vs H2 ⟨μ2, ds, S2, pe2, rp2, dv, p3⟩ => ?_⟩
  obtain ⟨c2, p4⟩ := post_ite p3
  refine ⟨by show vs.length + 1 = n + 1; rw [← dv.length, c2], μ2, S2, o :: ds, rp2, .cons (dd.per pe2) dv, ?_⟩
  revert p4
  generalize F (o :: ds) S2 = r
  intro p4
  cases r with
  | ok a S' => exact p4
  | exc c fs S' => exact p4
  | stuck => exact p4
theorem de_meth {m : String} {pos apos : Pos} {o e : Expr} {es : List Expr} {f : FE} {g : FA} {F : FF} {k j n c : Nat} (A : Amb G X W) (cl : Cls X.K (G.cls c)) (d : MetD X.prog X.w X.K X.mg X.base G j c (Str.ofString m) n F) (hr : Room k X.A) (hk : j ≤ k) (ho : PE X o (TD G W f)) (ha : PA X (e :: es) (TDA G W g)) (pl : Sem Bool)
    (hst : starEach (e :: es) X.env = (false, eval e X.env) :: starEach es X.env := by rfl) (hpl : (backTo pos (starEach es X.env)).any (·.1) = false := by rfl)
    (ht : eval (.Call (.Attribute o (Str.ofString m) apos) (e :: es) [] pos) X.env = (do
      let ov ← eval o X.env
      standAt apos.atName
      let (f, first) ← holding [ov] (getMethod ov (Str.ofString m) pl)
      callWith pos f first (backTo pos (starEach (e :: es) X.env)) (backToKw pos (keywordEach [] X.env))) := by rfl) :
    PE X (.Call (.Attribute o (Str.ofString m) apos) (e :: es) [] pos) (TD G W (xMeth c m n F f g)) := by
  obtain ⟨fa, fd, ps, Fo, hm, hb⟩ := d.ex
  exact PE.imp (pe_methS' (pl := pl) ho cl hm Fo (hr.mono hk) hb (fun σ => passAt A.tk σ) ha hst hpl ht) fun σ H Q q => meth_read q
theorem de_meth0 {m : String} {pos apos : Pos} {o : Expr} {f : FE} {F : FF} {k j c : Nat} (A : Amb G X W) (cl : Cls X.K (G.cls c)) (d : MetD X.prog X.w X.K X.mg X.base G j c (Str.ofString m) 0 F) (hr : Room k X.A) (hk : j ≤ k) (ho : PE X o (TD G W f)) (pl : Sem Bool)
    (ht : eval (.Call (.Attribute o (Str.ofString m) apos) [] [] pos) X.env = (do
      let ov ← eval o X.env
      standAt apos.atName
      let (f, first) ← holding [ov] (getMethod ov (Str.ofString m) pl)
      callWith pos f first (backTo pos (starEach [] X.env)) (backToKw pos (keywordEach [] X.env))) := by rfl) :
    PE X (.Call (.Attribute o (Str.ofString m) apos) [] [] pos) (TD G W (xMeth c m 0 F f aNil)) := by
  obtain ⟨fa, fd, ps, Fo, hm, hb⟩ := d.ex
  refine PE.imp (pe_methS0 (pl := pl) ho cl hm Fo (hr.mono hk) hb (fun σ => passAt A.tk σ) ht) fun σ H Q q => ?_
  obtain ⟨μ, ρ, S, en, rp, po⟩ := meth_read q
  exact ⟨μ, ρ, S, en, rp, po.mono fun x H1 ⟨a, dx, fs, e1, e2, e3, q2⟩ => ⟨a, dx, fs, e1, e2, e3, by
    obtain ⟨μ2, ρ2, S2, en2, rp2, p2⟩ := q2
    exact p2 _ _ _ .refl rp2 .nil⟩⟩
/-! ### what the top has written -/
theorem funAt_of {K : PySem.W.Frag} {h : Heap} {mg : Str → Option Value} {x : Str} {st : Stmt} {ps : List Str} {f : Addr} {oc : Value} {od an : Option Addr} {osl : Array (Option Value)} {kV doc pm cdv ct : Value} (X : K.In h) (Gn : h.Ns mainGlobals mg)
    (a : PySem.W.nsIn K mainGlobals x = some (some (.ref f))) (l : K.lookup f = some ⟨oc, od, .func (PySem.W.fnOf x x (defArgs st) (defBody st) (defScope st) .none kV doc pm an cdv ct), osl⟩) (c : PySem.W.codeIn K cdv x = true) (k : PySem.W.keepIn K (.ref f) = true)
    (hb : ∀ (kV doc pm : Value) (an : Option Addr) (cdv ct : Value) (us : List Value), us.length = ps.length → bindArgs (PySem.W.fnOf x x (defArgs st) (defBody st) (defScope st) .none kV doc pm an cdv ct) ⟨us, []⟩ = pure (ps.zip us)) : FunAt K mg x st ps :=
  ⟨f, _, fun_mk l c k, PySem.W.mg_of X Gn a, (fun_mk l c k).binds hb⟩
structure FunOf (K : PySem.W.Frag) (C : Addr) (m qual : Str) (st : Stmt) (ps : List Str) : Prop where
  ex : ∃ f fd, Fun K m qual st f fd ∧ PySem.W.findIn K (.ref C) m = some (some (.ref f)) ∧ PySem.W.isFn K (.ref f) = true ∧ PySem.W.keepIn K (.ref f) = true ∧ Binds K fd ps []
theorem funOf_of {K : PySem.W.Frag} {C : Addr} {y x qual : Str} {st : Stmt} {ps : List Str} {f : Addr} {oc : Value} {od an : Option Addr} {osl : Array (Option Value)} {kV doc pm cdv ct : Value}
    (aC : PySem.W.nsIn K mainGlobals y = some (some (.ref C))) (a : PySem.W.findIn K (.ref C) x = some (some (.ref f))) (i : PySem.W.isFn K (.ref f) = true) (l : K.lookup f = some ⟨oc, od, .func (PySem.W.fnOf x qual (defArgs st) (defBody st) (defScope st) .none kV doc pm an cdv ct), osl⟩) (c : PySem.W.codeIn K cdv qual = true) (k : PySem.W.keepIn K (.ref f) = true)
    (hb : ∀ (kV doc pm : Value) (an : Option Addr) (cdv ct : Value) (us : List Value), us.length = ps.length → bindArgs (PySem.W.fnOf x qual (defArgs st) (defBody st) (defScope st) .none kV doc pm an cdv ct) ⟨us, []⟩ = pure (ps.zip us)) : FunOf K C x qual st ps :=
  ⟨f, _, fun_mk l c k, a, i, k, (fun_mk l c k).binds hb⟩
/-! ### the law's end -/
def baseClo (i : Ci) (a : Addr) (H : Hp) : Prop := i.n = 0 ∧ ∃ gs, H a = some (.xd gs) ∧ gs.map (·.1) = i.ks ∧ gs.map (·.2) = i.vs
def mkG (K : PySem.W.Frag) (w : World) (cs : List Addr) : Gx := ⟨K, w, fun i => cs.getD i 0, baseClo, []⟩
theorem mkG_ok (K : PySem.W.Frag) (w : World) (cs : List Addr) : (mkG K w cs).Ok := by
  refine ⟨fun n a H p o hp ⟨h1, gs, h2, h3⟩ => ⟨h1, gs, ?_, h3⟩, fun ks vs d H => ⟨fun ⟨_, h⟩ => h, fun h => ⟨rfl, h⟩⟩, fun n a H p o o' hp m ne ⟨h1, gs, h2, h3⟩ => ⟨h1, gs, ?_, h3⟩⟩
  · rw [upd_ne (ne_of_none h2 hp)]; exact h2
  · rw [upd_ne fun z => ?_]
    · exact h2
    · rw [z, hp] at h2
      cases h2
      exact m
def spLawD (n : Nat) (K : PySem.W.Frag) : Sp := fun vs H Q E => ∃ (a : Addr) (ns : List Int), vs = [.ref a] ∧ ns.length ≤ n ∧ Only H ∧ SqL K H a (ns.map V.int) ∧ ∀ H', Q (.bl true) H'
theorem law_imp {n : Nat} {F : FF} (hT : ∀ H, NdefX.TabsN G.T H) (hl : ∀ ns : List Int, ns.length ≤ n → ∃ S, F [.slist ns] [] = .ok (.bl true) S) {vs : List V} {H : Hp} {Q : VK} {E : XK} (h : spLawD n G.K vs H Q E) : spD G 1 F vs H Q E := by
  obtain ⟨a, ns, rfl, hn, ho, hs, q⟩ := h
  refine ⟨rfl, [], [], [.slist ns], ⟨rfl, fun i j a z => by simp at z, fun n o a z => by simp at z, hT _⟩, .cons (.slist ?_) .nil, ?_⟩
  · rcases hs with (h | h) | h
    · rcases ho a with e | ⟨o, xs, e⟩
      · rw [h] at e; cases e
      · rw [h] at e; cases e
    · exact .inl h
    · exact .inr fun H' => .inr h
  · obtain ⟨S, e⟩ := hl ns hn
    rw [e]
    intro μ' H' b p r d
    cases d
    exact q H'
theorem law_fn {P : Program} {w : World} {K : PySem.W.Frag} {mg : Str → Option Value} {base : Heap} {k n : Nat} {F : FF} {f : Addr} {fd : FuncData} (hK : G.K = K) (hT : ∀ H, NdefX.TabsN G.T H) (hl : ∀ ns : List Int, ns.length ≤ n → ∃ S, F [.slist ns] [] = .ok (.bl true) S)
    (o : FnOk P w K mg base (L2.CX P w) k f fd ["script"] (spD G 1 F)) : FnOk P w K mg base (L2.CX P w) k f fd ["script"] (spLawD n K) := o.imp fun vs H Q E h => law_imp (G := G) hT hl (by rw [hK]; exact h)
theorem walkD {l : PySem.W.OpenLaw} {q : Program} {loose : List Str} {XP : (Str → Option Value) → Heap → Prop} {YP : World → Heap → Prop} {d : DefRec} {K : Params → PySem.W.Frag} (k : Nat) (hk : Room k callerA) (hn : l.most = some 63) (hdf : d.params.defaults = [])
    (hY : ∀ (w : World) (h : Heap), YP w h → (K w.params).In h)
    (F : ∀ (w : World) (mg : Str → Option Value) (fa : Addr) (h : Heap), (K w.params).In h → h.Ns mainGlobals mg → mg d.name = some (.ref fa) →
      ∃ fd : FuncData, (∀ (s : Shared) (u : Value), BindsTo s fd ⟨[u], []⟩ [("script", u)]) ∧ ∀ base : Heap, (K w.params).In base → base.Ns mainGlobals mg → FnOk l.prog w (K w.params) mg base (L2.CX l.prog w) k fa fd ["script"] (spLawD 63 (K w.params))) :
    PySem.W.WalkO q loose XP YP l.row.toRowW d [] (fun f vs => PySem.call f vs) :=
  L2.walk_of (n := 63) (k := k) (x := "script") (CX := fun w => L2.CX l.prog w) (sp := fun w => spLawD 63 (K w.params)) hn (by decide) hdf hk hY F (fun _ _ a ns hl ho hS => ⟨a, ns, rfl, hl, ho, hS, fun _ => rfl⟩) fun _ _ _ _ _ ⟨_, _, _, _, _, _, _, _, _, _, _, _, z⟩ => z
end Dx

/-! Dx14: what is written at the top. -/
namespace Dx
open PySem PySem.Spec L2
def KDen (G : Gx) (d : D) (u : Value) : Prop := ∃ v, RelV v u ∧ ∀ μ H, Den G μ H d v
def KDenA (G : Gx) (ds : List D) (us : List Value) : Prop := ∃ vs, Vals vs us ∧ ∀ μ H, DenA G μ H ds vs
section
variable {G : Gx}
theorem kden_int {i : Int} {t : Tok} : KDen G (.int i) (.int i t) := ⟨.int i, ⟨t, rfl⟩, fun _ _ => .int i⟩
theorem kden_str {s : String} {t : Tok} : KDen G (.str s) (.str (Str.ofString s) t) := ⟨.str (Str.ofString s), ⟨t, rfl⟩, fun _ _ => .str s⟩
theorem kden_non : KDen G .non .none := ⟨.non, rfl, fun _ _ => .non⟩
theorem kden_bl {b : Bool} : KDen G (.bl b) (.bool b) := ⟨.bl b, rfl, fun _ _ => .bl b⟩
theorem kdena_nil : KDenA G [] [] := ⟨[], .nil, fun _ _ => .nil⟩
theorem kdena_cons {d : D} {ds : List D} {u : Value} {us : List Value} (h : KDen G d u) (t : KDenA G ds us) : KDenA G (d :: ds) (u :: us) := by
  obtain ⟨v, r, k⟩ := h
  obtain ⟨vs, rs, ks⟩ := t
  exact ⟨v :: vs, .cons r rs, fun μ H => .cons (k μ H) (ks μ H)⟩
theorem kdena_len {ds : List D} {us : List Value} (h : KDenA G ds us) : ds.length = us.length := by
  obtain ⟨vs, r, k⟩ := h
  rw [(k [] (fun _ => none)).length, r.length]
theorem kden_tup {a : Addr} {o : Obj} {its : Array Value} {n : Nat} {ds : List D} {K : PySem.W.Frag} {h0 : Heap} (KX : K.In h0) (hK : K = G.K) (l : K.lookup a = some o) (hc : o.cls = .type "tuple") (hd : o.data = .seq its n) (h : KDenA G ds its.toList) (hz : ds.length ≤ 1000000 := by decide) : KDen G (.ktup ds) (.ref a) := by
  subst hK
  have hl : its.size ≤ 1000000 := by rw [← Array.length_toList, ← kdena_len h]; exact hz
  obtain ⟨vs, r, k⟩ := h
  exact ⟨.ref a, rfl, fun μ H => .ktup (fun H' => .inr ⟨o, its, n, l, hc, hd, by rw [sl_eq]; exact Nat.le_trans hl (by decide), r⟩) (k μ H)⟩
def ent (P : Params) (e : String × Tok × Value) : DictEntry := ⟨PyData.keyHash P (Str.ofString e.1), .str (Str.ofString e.1) e.2.1, e.2.2⟩
theorem ent_lit {P : Params} : ∀ El : List (String × Tok × Value), PySem.W.KeysLit P (El.map (ent P))
  | [] => True.intro
  | e :: El => ⟨⟨_, _, rfl, rfl⟩, ent_lit El⟩
theorem ent_key {P : Params} {e : String × Tok × Value} {z : Str} : (ent P e).key.isStr z = decide (Str.ofString e.1 = z) := by
  by_cases h : Str.ofString e.1 = z
  · subst h; simp [ent, Value.isStr]
  · simp [ent, Value.isStr, h]
theorem ent_find {P : Params} : ∀ {El : List (String × Tok × Value)} {e : String × Tok × Value}, (El.map (·.1)).Nodup → e ∈ El → (El.map (ent P)).find? (·.key.isStr (Str.ofString e.1)) = some (ent P e)
  | [], _, _, h => nomatch h
  | f :: El, e, nd, h => by
    rw [List.map_cons, List.nodup_cons] at nd
    rw [List.map_cons, List.find?_cons, ent_key]
    rcases List.mem_cons.mp h with rfl | h
    · simp
    · have hne : f.1 ≠ e.1 := fun z => nd.1 (by rw [z]; exact List.mem_map_of_mem h)
      have : ¬ Str.ofString f.1 = Str.ofString e.1 := fun z => hne (ofS_inj z)
      simp only [this, decide_false]
      exact ent_find nd.2 h
theorem ent_none {P : Params} {z : Str} : ∀ {El : List (String × Tok × Value)}, (∀ e ∈ El, z ≠ Str.ofString e.1) → (El.map (ent P)).find? (·.key.isStr z) = none ∧ (El.map (ent P)).any (·.refKey) = false
  | [], _ => ⟨rfl, rfl⟩
  | e :: El, h => by
    obtain ⟨a, b⟩ := ent_none (P := P) (El := El) fun f hf => h f (by simp [hf])
    have : ¬ Str.ofString e.1 = z := fun q => h e (by simp) q.symm
    refine ⟨?_, ?_⟩
    · rw [List.map_cons, List.find?_cons, ent_key]
      simp only [this, decide_false]
      exact a
    · rw [List.map_cons, List.any_cons, b]
      rfl
theorem kden_dict {a : Addr} {es : Array DictEntry} {n : Nat} {ks : List String} {ds : List D} {K : PySem.W.Frag} {h0 : Heap} (El : List (String × Tok × Value)) (KX : K.In h0) (hK : K = G.K) (l : K.lookup a = some ⟨.type "dict", none, .dict es n, #[]⟩) (he : es.toList = El.map (ent G.w.params)) (hk : El.map (·.1) = ks) (nd : ks.Nodup) (low : (a == sysModules) = false) (h : KDenA G ds (El.map (·.2.2))) : KDen G (.cdict ks ds) (.ref a) := by
  subst hK
  subst hk
  have lit : PySem.W.KeysLit G.w.params es.toList := by rw [he]; exact ent_lit El
  obtain ⟨vs, r, k⟩ := h
  refine ⟨.ref a, rfl, fun μ H => .cdict ⟨low, fun z hz => ⟨es, n, l, lit, low, ?_⟩⟩ (fun p hp => ?_) (k μ H)⟩
  · obtain ⟨f1, f2⟩ := ent_none (P := G.w.params) (El := El) fun e he' => hz _ (List.mem_map_of_mem he')
    unfold PySem.W.nsIn
    rw [l]
    simp only [he, f1, f2]
    rfl
  · have key : ∀ {El : List (String × Tok × Value)} {vs : List V}, Vals vs (El.map (·.2.2)) → ∀ p ∈ (El.map (·.1)).zip vs, ∃ e ∈ El, e.1 = p.1 ∧ RelV p.2 e.2.2 := by
      intro El
      induction El with
      | nil => intro vs _ p hp; simp at hp
      | cons e El ih =>
        intro vs r p hp
        rw [List.map_cons] at r
        cases r with
        | cons r1 r2 =>
          rw [List.map_cons, List.zip_cons_cons] at hp
          rcases List.mem_cons.mp hp with rfl | hp
          · exact ⟨e, by simp, rfl, r1⟩
          · obtain ⟨f, hf, q1, q2⟩ := ih r2 p hp
            exact ⟨f, by simp [hf], q1, q2⟩
    obtain ⟨e, he', e1, e2⟩ := key r p hp
    refine ⟨es, n, e.2.2, l, lit, ?_, e2⟩
    unfold PySem.W.nsIn
    rw [l]
    simp only [he]
    rw [← e1, ent_find nd he']
    rfl
theorem bltn_of {K : PySem.W.Frag} {h : Heap} {mg : Str → Option Value} {x : Str} (X : K.In h) (Gn : h.Ns mainGlobals mg) (a : PySem.W.nsIn K mainGlobals x = some none) : mg x = none := PySem.W.mg_none_of X Gn a
theorem globD_of {K : PySem.W.Frag} {h : Heap} {mg : Str → Option Value} {x : Str} {d : D} {u : Value} (X : K.In h) (Gn : h.Ns mainGlobals mg) (a : PySem.W.nsIn K mainGlobals x = some (some u)) (k : KDen G d u) : GlobD K mg G x d := by
  obtain ⟨v, r, q⟩ := k
  exact ⟨v, u, PySem.W.mg_of X Gn a, r, q⟩
end
abbrev mkGx {K : PySem.W.Frag} {h : Heap} (_ : K.In h) (w : World) (cs : List Addr) : Gx := mkG K w cs
abbrev cAt {K : PySem.W.Frag} {x : Str} {C : Addr} (_ : PySem.W.nsIn K mainGlobals x = some (some (.ref C))) : Addr := C
theorem cls_at {K : PySem.W.Frag} {h : Heap} {x : Str} {C : Addr} (_ : K.In h) (a : PySem.W.nsIn K mainGlobals x = some (some (.ref C))) : PySem.W.nsIn K mainGlobals x = some (some (.ref C)) := a
section
variable {K : PySem.W.Frag} {h : Heap} {x : Str} {C : Addr}
theorem cl_of (aC : PySem.W.nsIn K mainGlobals x = some (some (.ref C))) (a : PySem.W.plainGet K C Str.empty = true) (b : PySem.W.hasDictIn K C = true) (c : PySem.W.plainOver K C = true) (d : PySem.W.findIn K (.ref C) "__setattr__" = some (some (.builtin "object.__setattr__"))) : Cls K C := ⟨a, b, c, d⟩
theorem na_of {f : Str} (aC : PySem.W.nsIn K mainGlobals x = some (some (.ref C))) (a : PySem.W.findIn K (.ref C) f = some none) : NoAttr K C f := a
theorem hm_of (aC : PySem.W.nsIn K mainGlobals x = some (some (.ref C))) (a : PySem.W.makesIn K C = true) : PySem.W.makesIn K C = true := a
theorem hk_of (aC : PySem.W.nsIn K mainGlobals x = some (some (.ref C))) (a : PySem.W.keepIn K (.ref C) = true) : PySem.W.keepIn K (.ref C) = true := a
end
end Dx

/-! Dx15: equality and membership that compute fast; membership in tuples of any kind. -/
namespace Dx
open PySem PySem.Spec L2
inductive Sh where
  | non | bl (b : Bool) | int (i : Int) | str (s : String) | lst (xs : List D) | tup (xs : List D) | bad
def shD (S : Sg) : D → Sh
  | .non => .non
  | .bl b => .bl b
  | .int i => .int i
  | .str s => .str s
  | .tup xs => .tup xs
  | .ktup xs => .tup xs
  | .clist xs => .lst xs
  | .ref n => match S[n]? with
    | some (.lst xs) => .lst xs
    | _ => .bad
  | _ => .bad
def okD : Nat → Sg → D → Bool
  | 0, S, d => match shD S d with
    | .bad => false
    | .lst _ => false
    | .tup _ => false
    | _ => true
  | n + 1, S, d => match shD S d with
    | .bad => false
    | .lst xs => xs.all (okD n S)
    | .tup xs => xs.all (okD n S)
    | _ => true
def eqL (f : D → D → Bool) : List D → List D → Bool
  | [], [] => true
  | x :: xs, y :: ys => f x y && eqL f xs ys
  | _, _ => false
def eqFlat : Sh → Sh → Bool
  | .non, .non => true
  | .bl a, .bl b => a == b
  | .bl a, .int j => decide ((if a = true then (1 : Int) else 0) = j)
  | .int i, .bl b => decide (i = (if b = true then (1 : Int) else 0))
  | .int i, .int j => decide (i = j)
  | .str s, .str t => decide (s = t)
  | _, _ => false
def eqB : Nat → Sg → D → D → Bool
  | 0, S, d, e => eqFlat (shD S d) (shD S e)
  | n + 1, S, d, e => match shD S d, shD S e with
    | .lst xs, .lst ys => eqL (eqB n S) xs ys
    | .tup xs, .tup ys => eqL (eqB n S) xs ys
    | a, b => eqFlat a b
section
variable {S : Sg}
/-- a datum by its shape -/
theorem py_shd (n : Nat) (d : D) : pyOf n S d = match n, shD S d with
    | _, .non => some .none
    | _, .bl b => some (.bool b)
    | _, .int i => some (.int i)
    | _, .str s => some (.str (Str.ofString s))
    | n + 1, .lst xs => (xs.mapM (pyOf n S)).map .list
    | n + 1, .tup xs => (xs.mapM (pyOf n S)).map .tuple
    | _, _ => none := by
  cases n with
  | zero =>
    cases d with
    | ref m =>
      simp only [pyOf, shD]
      cases h : S[m]? with
      | none => rfl
      | some o => cases o <;> rfl
    | _ => simp [pyOf, shD]
  | succ n =>
    cases d with
    | ref m =>
      simp only [pyOf, shD]
      cases h : S[m]? with
      | none => rfl
      | some o => cases o <;> rfl
    | _ => simp [pyOf, shD]
theorem mapM_some {f : D → Option PyData} : ∀ {xs : List D}, (∀ x ∈ xs, ∃ p, f x = some p) → ∃ ps, xs.mapM f = some ps
  | [], _ => ⟨[], rfl⟩
  | x :: xs, h => by
    obtain ⟨p, e⟩ := h x (by simp)
    obtain ⟨ps, es⟩ := mapM_some (xs := xs) fun y hy => h y (by simp [hy])
    exact ⟨p :: ps, by rw [List.mapM_cons, e, es]; rfl⟩
theorem ok_py : ∀ (n : Nat) (d : D), okD n S d = true → ∃ p, pyOf n S d = some p
  | 0, d, h => by
    unfold okD at h
    rw [py_shd]
    cases hs : shD S d <;> simp [hs] at h ⊢
  | n + 1, d, h => by
    unfold okD at h
    rw [py_shd]
    cases hs : shD S d with
    | bad => rw [hs] at h; cases h
    | lst xs =>
      rw [hs] at h
      obtain ⟨ps, e⟩ := mapM_some (f := pyOf n S) (xs := xs) fun x hx => ok_py n x (List.all_eq_true.mp h x hx)
      exact ⟨.list ps, by simp [e]⟩
    | tup xs =>
      rw [hs] at h
      obtain ⟨ps, e⟩ := mapM_some (f := pyOf n S) (xs := xs) fun x hx => ok_py n x (List.all_eq_true.mp h x hx)
      exact ⟨.tuple ps, by simp [e]⟩
    | _ => exact ⟨_, rfl⟩
theorem eqL_ok {n : Nat} (ih : ∀ (d e : D) (a b : PyData), pyOf n S d = some a → pyOf n S e = some b → PyData.eqv a b = eqB n S d e) : ∀ (xs ys : List D) (as bs : List PyData), xs.mapM (pyOf n S) = some as → ys.mapM (pyOf n S) = some bs → PyData.eqvAll as bs = eqL (eqB n S) xs ys
  | [], [], as, bs, e1, e2 => by simp at e1 e2; subst e1; subst e2; simp [PyData.eqvAll, eqL]
  | [], y :: ys, as, bs, e1, e2 => by
    rw [List.mapM_cons] at e2
    obtain ⟨p, f1, f2⟩ := Option.bind_eq_some_iff.mp e2
    obtain ⟨q, f3, f4⟩ := Option.bind_eq_some_iff.mp f2
    cases f4
    simp at e1
    subst e1
    simp [PyData.eqvAll, eqL]
  | x :: xs, [], as, bs, e1, e2 => by
    rw [List.mapM_cons] at e1
    obtain ⟨p, f1, f2⟩ := Option.bind_eq_some_iff.mp e1
    obtain ⟨q, f3, f4⟩ := Option.bind_eq_some_iff.mp f2
    cases f4
    simp at e2
    subst e2
    simp [PyData.eqvAll, eqL]
  | x :: xs, y :: ys, as, bs, e1, e2 => by
    rw [List.mapM_cons] at e1 e2
    obtain ⟨p, f1, f2⟩ := Option.bind_eq_some_iff.mp e1
    obtain ⟨q, f3, f4⟩ := Option.bind_eq_some_iff.mp f2
    cases f4
    obtain ⟨p', g1, g2⟩ := Option.bind_eq_some_iff.mp e2
    obtain ⟨q', g3, g4⟩ := Option.bind_eq_some_iff.mp g2
    cases g4
    rw [PyData.eqvAll, ih x y p p' f1 g1, eqL_ok ih xs ys q q' f3 g3]
    rfl
def ShIs (a : PyData) : Sh → Prop
  | .non => a = .none
  | .bl b => a = .bool b
  | .int i => a = .int i
  | .str s => a = .str (Str.ofString s)
  | .lst _ => ∃ ps, a = .list ps
  | .tup _ => ∃ ps, a = .tuple ps
  | .bad => False
theorem py_flat {n : Nat} {d : D} {a : PyData} (h : pyOf n S d = some a) : ShIs a (shD S d) := by
  rw [py_shd] at h
  cases n with
  | zero => cases hd : shD S d <;> simp [hd] at h <;> subst h <;> rfl
  | succ n =>
    cases hd : shD S d with
    | lst xs =>
      rw [hd] at h
      obtain ⟨p, _, e⟩ := Option.map_eq_some_iff.mp h
      exact ⟨p, e.symm⟩
    | tup xs =>
      rw [hd] at h
      obtain ⟨p, _, e⟩ := Option.map_eq_some_iff.mp h
      exact ⟨p, e.symm⟩
    | _ => simp [hd] at h <;> subst h <;> rfl
theorem eqFlat_ok {n : Nat} {d e : D} {a b : PyData} (h1 : pyOf n S d = some a) (h2 : pyOf n S e = some b) (no : ∀ xs ys, ¬ (shD S d = .lst xs ∧ shD S e = .lst ys) ∧ ¬ (shD S d = .tup xs ∧ shD S e = .tup ys)) : PyData.eqv a b = eqFlat (shD S d) (shD S e) := by
  have p1 := py_flat h1
  have p2 := py_flat h2
  have str : ∀ s t : String, (Str.ofString s == Str.ofString t) = decide (s = t) := fun s t => by
    by_cases h : s = t
    · subst h; simp
    · have : Str.ofString s ≠ Str.ofString t := fun z => h (ofS_inj z)
      simp [h, this]
  generalize shD S d = u at p1 no
  generalize shD S e = v at p2 no
  cases u <;> cases v <;> simp only [ShIs] at p1 p2
  all_goals first
    | exact p1.elim
    | exact p2.elim
    | exact absurd ⟨rfl, rfl⟩ (no _ _).1
    | exact absurd ⟨rfl, rfl⟩ (no _ _).2
    | (subst p1; subst p2; simp only [PyData.eqv, eqFlat, str]; done)
    | (subst p1; subst p2; simp [PyData.eqv, eqFlat, str]; done)
    | (subst p1; obtain ⟨q, rfl⟩ := p2; simp [PyData.eqv, eqFlat]; done)
    | (obtain ⟨q, rfl⟩ := p1; subst p2; simp [PyData.eqv, eqFlat]; done)
    | (obtain ⟨q, rfl⟩ := p1; obtain ⟨q', rfl⟩ := p2; simp [PyData.eqv, eqFlat]; done)
    | (subst p1; subst p2; simp [PyData.eqv, eqFlat]; rfl)
theorem eqB_ok : ∀ (n : Nat) (d e : D) (a b : PyData), pyOf n S d = some a → pyOf n S e = some b → PyData.eqv a b = eqB n S d e
  | 0, d, e, a, b, h1, h2 => by
    unfold eqB
    refine eqFlat_ok h1 h2 fun xs ys => ⟨fun ⟨q1, _⟩ => ?_, fun ⟨q1, _⟩ => ?_⟩
    · rw [py_shd, q1] at h1; cases h1
    · rw [py_shd, q1] at h1; cases h1
  | n + 1, d, e, a, b, h1, h2 => by
    unfold eqB
    split
    · rename_i xs ys q1 q2
      rw [py_shd, q1] at h1
      rw [py_shd, q2] at h2
      obtain ⟨p, e1, e2⟩ := Option.map_eq_some_iff.mp h1
      obtain ⟨p', e3, e4⟩ := Option.map_eq_some_iff.mp h2
      subst e2; subst e4
      rw [PyData.eqv]
      exact eqL_ok (eqB_ok n) _ _ _ _ e1 e3
    · rename_i xs ys q1 q2
      rw [py_shd, q1] at h1
      rw [py_shd, q2] at h2
      obtain ⟨p, e1, e2⟩ := Option.map_eq_some_iff.mp h1
      obtain ⟨p', e3, e4⟩ := Option.map_eq_some_iff.mp h2
      subst e2; subst e4
      rw [PyData.eqv]
      exact eqL_ok (eqB_ok n) _ _ _ _ e1 e3
    · rename_i n1 n2
      exact eqFlat_ok h1 h2 fun xs ys => ⟨fun ⟨q1, q2⟩ => n1 _ _ q1 q2, fun ⟨q1, q2⟩ => n2 _ _ q1 q2⟩
end
def fEqF (neg : Bool) : F2 := fun d e S => if (okD 9 S d && okD 9 S e) = true then .ok (.bl (neg != eqB 9 S d e)) S else .stuck
theorem fEqF_eq {neg : Bool} {d e : D} {S : Sg} (h : (okD 9 S d && okD 9 S e) = true) : fEq neg d e S = .ok (.bl (neg != eqB 9 S d e)) S := by
  rw [Bool.and_eq_true] at h
  obtain ⟨a, ea⟩ := ok_py 9 d h.1
  obtain ⟨b, eb⟩ := ok_py 9 e h.2
  unfold fEq
  rw [ea, eb]
  simp only [eqB_ok 9 d e a b ea eb]
section
variable {G : Gx} {X : Cx} {W : WX}
theorem ov_fast {r : R2} {h h' : F2} (o : OpV G W r h) (k : ∀ d e S, h' d e S = .stuck ∨ h d e S = h' d e S) : OpV G W r h' := by
  intro μ S H x y d e σ Q rp hx hy po
  rcases k d e S with q | q
  · rw [q] at po; exact po.elim
  · rw [← q] at po; exact o _ _ _ _ _ _ _ _ _ rp hx hy po
theorem fEqF_le (neg : Bool) (d e : D) (S : Sg) : fEqF neg d e S = .stuck ∨ fEq neg d e S = fEqF neg d e S := by
  unfold fEqF
  by_cases h : (okD 9 S d && okD 9 S e) = true
  · right; rw [if_pos h, fEqF_eq h]
  · left; rw [if_neg h]
theorem c_eqF (A : Amb G X W) : CmpD X G W .Eq (fEqF false) := by
  obtain ⟨r, h, o⟩ := c_eq (G := G) (X := X) (W := W) A
  exact ⟨r, h, ov_fast o (fEqF_le false)⟩
theorem c_neF (A : Amb G X W) : CmpD X G W .NotEq (fEqF true) := by
  obtain ⟨r, h, o⟩ := c_ne (G := G) (X := X) (W := W) A
  exact ⟨r, h, ov_fast o (fEqF_le true)⟩
/-! ### in -/
def rInDA (K : PySem.W.Frag) (neg : Bool) : R2 := fun x y H Q => ∃ d c ds, Dp K H x d ∧ (c = .list ds ∨ c = .tuple ds) ∧ Dp K H y c ∧ SeqAt.shaped d = true ∧ SeqAt.shaped c = true ∧ Q (.bl (neg != ds.any fun z => PyData.eqv z d)) H
theorem room_inT {X : Cx} {d : PyData} {n : Nat} (sd : SeqAt.shaped d = true) (hu : X.A.units + 65 < cLine) : X.A.units + 1 + min n d.depth < cLine := by
  unfold SeqAt.shaped at sd
  rw [Bool.and_eq_true] at sd
  have := of_decide_eq_true sd.2
  have := Nat.min_le_right n d.depth
  omega
theorem op_inDA (hu : X.A.units + 65 < cLine) : OpR X (compareOp .In) (rInDA X.K false) := by
  intro pins s σ H x y v u Q I rx ry h
  obtain ⟨d, c, ds, hd, hc, he, sd, se, q⟩ := h
  obtain ⟨as, r1⟩ := Dp.reads I d x v hd rx
  obtain ⟨bs, r2⟩ := Dp.reads I c y u he ry
  rw [Bool.false_bne] at q
  rcases hc with rfl | rfl
  · exact SeqAt.in_list_reads r2 r1 (SeqAt.canLay_of_shaped se) (SeqAt.canLay_of_shaped sd) (room_inT sd hu) ⟨.bl _, H, I, rfl, q⟩
  · exact SeqAt.in_tuple_reads r2 r1 (SeqAt.canLay_of_shaped se) (SeqAt.canLay_of_shaped sd) (room_inT sd hu) ⟨.bl _, H, I, rfl, q⟩
theorem op_ninDA (hu : X.A.units + 65 < cLine) : OpR X (compareOp .NotIn) (rInDA X.K true) := by
  intro pins s σ H x y v u Q I rx ry h
  obtain ⟨d, c, ds, hd, hc, he, sd, se, q⟩ := h
  obtain ⟨as, r1⟩ := Dp.reads I d x v hd rx
  obtain ⟨bs, r2⟩ := Dp.reads I c y u he ry
  rw [Bool.true_bne] at q
  rcases hc with rfl | rfl
  · exact SeqAt.notIn_list_reads r2 r1 (SeqAt.canLay_of_shaped se) (SeqAt.canLay_of_shaped sd) (room_inT sd hu) ⟨.bl _, H, I, rfl, q⟩
  · exact SeqAt.notIn_tuple_reads r2 r1 (SeqAt.canLay_of_shaped se) (SeqAt.canLay_of_shaped sd) (room_inT sd hu) ⟨.bl _, H, I, rfl, q⟩
def fInF (neg : Bool) : F2 := fun d e S => match shD S e with
  | .lst xs => if (okD 8 S d && xs.all (okD 8 S)) = true then .ok (.bl (neg != xs.any fun z => eqB 8 S z d)) S else .stuck
  | .tup xs => if (okD 8 S d && xs.all (okD 8 S)) = true then .ok (.bl (neg != xs.any fun z => eqB 8 S z d)) S else .stuck
  | _ => fIn neg d e S
theorem any_eqB {S : Sg} {d : D} {p : PyData} (e : pyOf 8 S d = some p) : ∀ {xs : List D} {ps : List PyData}, xs.mapM (pyOf 8 S) = some ps → (ps.any fun z => PyData.eqv z p) = xs.any fun z => eqB 8 S z d
  | [], ps, h => by simp at h; subst h; rfl
  | x :: xs, ps, h => by
    rw [List.mapM_cons] at h
    obtain ⟨q, f1, f2⟩ := Option.bind_eq_some_iff.mp h
    obtain ⟨qs, f3, f4⟩ := Option.bind_eq_some_iff.mp f2
    cases f4
    rw [List.any_cons, List.any_cons, any_eqB e f3, eqB_ok 8 x d q p f1 e]
theorem ov_inF {neg : Bool} : OpV G W (fun x y H Q => rInAll G.K G.w neg x y H Q ∨ rInDA G.K neg x y H Q) (fInF neg) := by
  intro μ S H x y d e σ Q rp hx hy po
  unfold fInF at po
  have deep : ∀ (xs : List D) (c : List PyData → PyData), (c = .list ∨ c = .tuple) → (∀ ps, xs.mapM (pyOf 8 S) = some ps → pyOf 9 S e = some (c ps)) → Post (Den G) G W μ H σ (if (okD 8 S d && xs.all (okD 8 S)) = true then R.ok (.bl (neg != xs.any fun z => eqB 8 S z d)) S else .stuck) Q → rInDA G.K neg x y H Q := fun xs c hc hs po => by
    obtain ⟨c1, p⟩ := post_ite po
    rw [Bool.and_eq_true] at c1
    obtain ⟨p1, e1⟩ := ok_py 8 d c1.1
    obtain ⟨ps, e2⟩ := mapM_some (f := pyOf 8 S) (xs := xs) fun x hx => ok_py 8 x (List.all_eq_true.mp c1.2 x hx)
    have e3 := hs ps e2
    refine ⟨p1, c ps, ps, py_den rp 8 _ _ _ hx e1, by rcases hc with rfl | rfl <;> simp, py_den rp 9 _ _ _ hy e3, py_shaped (by decide) e1, py_shaped (by decide) e3, ?_⟩
    rw [any_eqB e1 e2]
    exact post_ok rp p (.bl _)
  split at po
  · rename_i xs hs
    exact .inr (deep xs .list (.inl rfl) (fun ps h => by rw [py_shd, hs]; simp [h]) po)
  · rename_i xs hs
    exact .inr (deep xs .tuple (.inr rfl) (fun ps h => by rw [py_shd, hs]; simp [h]) po)
  · exact .inl (ov_in _ _ _ _ _ _ _ _ _ rp hx hy po)
theorem c_inF (A : Amb G X W) : CmpD X G W .In (fInF false) := ⟨_, by
  have h1 := op_inAll (X := X) A.hu
  have h2 := op_inDA (X := X) A.hu
  rw [A.hK, A.hw] at h1
  rw [A.hK] at h2
  exact h1.or h2, ov_inF⟩
theorem c_ninF (A : Amb G X W) : CmpD X G W .NotIn (fInF true) := ⟨_, by
  have h1 := op_ninAll (X := X) A.hu
  have h2 := op_ninDA (X := X) A.hu
  rw [A.hK, A.hw] at h1
  rw [A.hK] at h2
  exact h1.or h2, ov_inF⟩
end
end Dx

/-! Dx16: tuple targets of names and subscripts. -/
namespace Dx
open PySem PySem.Spec L2
variable {G : Gx} {X : Cx} {W : WX}
abbrev FGx := D → Ev → Sg → R Ev
abbrev FGxs := List D → Ev → Sg → R Ev
def PostT (G : Gx) (μ : List Addr) (H : Hp) (r : R Ev) (Q : L2.St → Hp → Prop) : Prop := match r with
  | .ok ρ' S' => ∀ μ' H' σ', Per G μ H μ' H' → Rep G μ' S' H' → EnvD G μ' H' ρ' σ' → Q σ' H'
  | _ => False
theorem PostT.per {μ μ1 : List Addr} {H H1 : Hp} {r : R Ev} {Q : L2.St → Hp → Prop} (h : PostT G μ H r Q) (p : Per G μ H μ1 H1) : PostT G μ1 H1 r Q := by
  cases r with
  | ok ρ S => exact fun μ' H' σ' q => h μ' H' σ' (p.trans q)
  | exc c fs S => exact h
  | stuck => exact h
def GTx (G : Gx) (fg : FGx) (t : TG) : Prop := ∀ μ H ρ σ S d v Q, EnvD G μ H ρ σ → Rep G μ S H → Den G μ H d v → PostT G μ H (fg d ρ S) Q → t v σ H Q
def GTxs (G : Gx) (fg : FGxs) (t : TGs) : Prop := ∀ μ H ρ σ S ds us Q, EnvD G μ H ρ σ → Rep G μ S H → DenA G μ H ds us → PostT G μ H (fg ds ρ S) Q → t us σ H Q
def DGx (X : Cx) (G : Gx) (e : Expr) (fg : FGx) : Prop := ∃ t, PG X e t ∧ GTx G fg t
def DGxs (X : Cx) (G : Gx) (es : List Expr) (fg : FGxs) : Prop := ∃ t, PGs X es t ∧ GTxs G fg t
def gxNm (i : Nat) : FGx := fun d ρ S => .ok (ρ.set i (some d)) S
def gxSub (fo fi : FE) : FGx := fun d ρ S => (fo ρ S).nox.bind fun o S1 => (fi ρ S1).nox.bind fun i S2 => match storeD o i d S2 with
  | some S3 => .ok ρ S3
  | none => .stuck
def gxTp (n : Nat) (fg : FGxs) : FGx := fun d ρ S => match tupOf d with
  | some xs => if xs.length = n then fg xs ρ S else .stuck
  | none => .stuck
def gxsN : FGxs := fun ds ρ S => match ds with
  | [] => .ok ρ S
  | _ => .stuck
def gxsC (g : FGx) (gs : FGxs) : FGxs := fun ds ρ S => match ds with
  | d :: r => (g d ρ S).bind fun ρ1 S1 => gs r ρ1 S1
  | [] => .stuck
theorem dgx_name (i : Nat) {x : Str} {pos : Pos} (hN : X.N.Nodup) (hi : X.N[i]? = some x := by rfl) (hx : Loc X.env.scope x := by first | exact Or.inl rfl | exact Or.inr rfl)
    (hf : X.fn x = true ∨ X.env.scope.names.lookup x = some .local := by first | exact .inl rfl | exact .inr rfl) : DGx X G (.Name x pos) (gxNm i) :=
  ⟨_, pg_name hN hi hx hf, fun μ H ρ σ S d v Q en rp dd p => p _ _ _ .refl rp (en.set dd)⟩
theorem post_nox {α β : Type} {rel : Rel α β} {μ : List Addr} {H : Hp} {σ : L2.St} {r : R α} {Q : β → Hp → Prop} {k : α → Sg → R Ev} {Q' : L2.St → Hp → Prop} (h : PostT G μ H (r.nox.bind k) Q') (q : ∀ a S' μ' H' b, Per G μ H μ' H' → Rep G μ' S' H' → rel μ' H' a b → PostT G μ' H' (k a S') Q' → Q b H') : Post rel G W μ H σ r Q := by
  cases r with
  | ok a S' => exact fun μ' H' b p r d => q a S' μ' H' b p r d (PostT.per (r := k a S') h p)
  | exc c fs S' => exact h.elim
  | stuck => exact h.elim
theorem dgx_sub {o i : Expr} {pos : Pos} {fo fi : FE} (A : Amb G X W) (ho : PE X o (TD G W fo)) (hi : PE X i (TD G W fi))
    (ha : ∀ v, assign (.Subscript o i pos) X.env v = (do
      let ov ← holding [v] (eval o X.env)
      let iv ← holding [v, ov] (eval i X.env)
      standAt pos
      holding [v, ov, iv] (setItem ov iv v)
      release [v, ov, iv] []) := by intro _; rfl) : DGx X G (.Subscript o i pos) (gxSub fo fi) := by
  refine ⟨_, pg_sub ho hi (set_all (by have := A.hu; omega)) ha, fun μ H ρ σ S d v Q en rp dd p => ?_⟩
  refine ⟨μ, ρ, S, en, rp, post_nox (rel := Den G) p fun od S1 μ1 H1 ov pe rp1 do_ p1 => ?_⟩
  refine ⟨μ1, ρ, S1, en.per pe, rp1, post_nox (rel := Den G) p1 fun id S2 μ2 H2 iv pe2 rp2 di p2 => ?_⟩
  split at p2
  · rename_i S3 e3
    exact store_den A.ok rp2 (do_.per pe2) di ((dd.per pe).per pe2) e3 fun H' p r => p2 _ _ _ p r (((en.per pe).per pe2).per p)
  · exact p2.elim
theorem dgxs_nil : DGxs X G [] gxsN := ⟨_, pgs_nil, fun μ H ρ σ S ds us Q en rp dd p => by
  cases dd with
  | nil => exact ⟨rfl, p _ _ _ .refl rp en⟩
  | cons _ _ => exact p.elim⟩
theorem dgxs_cons {e : Expr} {es : List Expr} {g : FGx} {gs : FGxs} (h1 : DGx X G e g) (h2 : DGxs X G es gs) (hs : (assignEach (e :: es) X.env).map (·.2) = assign e X.env :: (assignEach es X.env).map (·.2) := by rfl) : DGxs X G (e :: es) (gxsC g gs) := by
  obtain ⟨t, p, q⟩ := h1
  obtain ⟨u, p', q'⟩ := h2
  refine ⟨_, pgs_cons p p' hs, fun μ H ρ σ S ds us Q en rp dd po => ?_⟩
  cases dd with
  | nil => exact po.elim
  | @cons d ds' v vs' a b =>
    refine ⟨_, _, rfl, q μ H ρ σ S d v _ en rp a ?_⟩
    have po' : PostT G μ H ((g d ρ S).bind fun ρ1 S1 => gs ds' ρ1 S1) Q := po
    revert po'
    generalize g d ρ S = r
    intro po'
    cases r with
    | ok ρ1 S1 => exact fun μ' H' σ' pe rp' en' => q' μ' H' ρ1 σ' S1 ds' vs' Q en' rp' (b.per pe) (PostT.per (r := gs ds' ρ1 S1) po' pe)
    | exc c fs S' => exact po'.elim
    | stuck => exact po'.elim
theorem dgx_tup {es : List Expr} {k n : Nat} {pos : Pos} {fg : FGxs} (hc : X.calm = true) (A : Amb G X W) (h : DGxs X G es fg) (hn : (assignEach es X.env).length = n := by rfl) (hst : (assignEach es X.env).findIdx? (·.1) = none := by rfl) : DGx X G (.Tuple es k pos) (gxTp n fg) := by
  obtain ⟨t, p, q⟩ := h
  refine ⟨gTup G.K n t, by have := pg_tup (k := k) (pos := pos) hc p hn hst; rw [A.hK] at this; exact this, fun μ H ρ σ S d v Q en rp dd po => ?_⟩
  unfold gxTp at po
  split at po
  · rename_i xs e1
    split at po
    · rename_i hl
      obtain ⟨a, us, e2, h1, h2⟩ := tup_den dd e1
      exact ⟨a, us, e2, h1, by rw [← h2.length]; exact hl, q μ H ρ σ S xs us Q en rp h2 po⟩
    · exact po.elim
  · exact po.elim
def sAsgX (fg : FGx) (f : FE) : FS := fun ρ S => (f ρ S).go ρ fun d S1 => match fg d ρ S1 with
  | .ok ρ' S2 => .nx ρ' S2
  | _ => .stuck
theorem ds_asgX {tg e : Expr} {pos : Pos} {fg : FGx} {f : FE} (hg : DGx X G tg fg) (he : PE X e (TD G W f)) (hs : swapsWithSole [tg] e pos.line X.env = pure false := by rfl) (hw : swappedStores [tg] e X.env = pure none := by rfl)
    (h1 : (assignEach [tg] X.env).map (·.2) = [assign tg X.env] := by rfl) : PS X (.Assign [tg] e pos) (TDS G W (sAsgX fg f)) := by
  obtain ⟨t, p, q⟩ := hg
  refine PS.imp (ps_asg he p hs hw h1) fun Z σ H ⟨μ, ρ, S, en, rp, po⟩ => ⟨μ, ρ, S, en, rp, (posts_go en po).mono fun v H1 ⟨μ1, d, S1, pe, rp1, dd, p1⟩ => ?_⟩
  refine q μ1 H1 ρ σ S1 d v _ (en.per pe) rp1 dd ?_
  revert p1
  generalize fg d ρ S1 = r
  intro p1
  cases r with
  | ok ρ' S2 => exact fun μ' H' σ' pe' rp' en' => p1 μ' H' σ' pe' rp' en'
  | exc c fs S' => exact p1.elim
  | stuck => exact p1.elim
/-! ### an empty dict with tuple keys -/
def xDnT : FE := fun _ S => newO (.dtt []) S
theorem de_dnT {pos : Pos} (A : Amb G X W) : PE X (.Dict [] [] pos) (TD G W xDnT) :=
  PE.imp pe_dnewT fun σ H Q ⟨μ, ρ, S, en, rp, po⟩ => fun p hp => post_dtt A.ok rp ⟨rfl, .nil⟩ po hp
/-! ### a call without arguments -/
theorem pe_callS0 {CX : CXT} {k : Nat} {f : Addr} {fd : FuncData} {ps : List Str} {sp : Sp} {E : L2.St → XK} {x : Str} {p pos : Pos} (F : FnOk X.prog X.w X.K X.mg X.base CX k f fd ps sp) (hr : Room k X.A) (hg : Gl X x) (hm : X.mg x = some (.ref f)) (hk : PySem.W.keepIn X.K (.ref f) = true) (hb : Binds X.K fd ps []) (hx : ∀ σ, PassesAt CX X σ (E σ))
    (hdb : (x == ("__debug__" : Str)) = false := by decide) : PE X (.Call (.Name x p) [] [] pos) (tCallS sp E tNil) := by
  refine ⟨fun pins s σ H Q I h => ?_⟩
  refine wpAny_Call_Name_kw (ld_glob I hg hm ?_ hdb)
  exact PySem.W.callWith_K0 I.kIn hk (run_fnS (us := []) F hr hb (hx σ) I .nil h)
theorem de_call0 {x : Str} {p pos : Pos} {F : FF} {k j : Nat} (A : Amb G X W) (d : DefD X.prog X.w X.K X.mg X.base G j x 0 F) (hr : Room k X.A) (hk : j ≤ k) (hg : Gl X x := by rfl)
    (hdb : (x == ("__debug__" : Str)) = false := by decide) : PE X (.Call (.Name x p) [] [] pos) (TD G W (xCall F 0 aNil)) := by
  obtain ⟨f, fd, ps, Fo, hm, hkp, hb⟩ := d.ex
  refine PE.imp (pe_callS0 Fo (hr.mono hk) hg hm hkp hb (fun σ => passAt A.tk σ) hdb) fun σ H Q ⟨μ, ρ, S, en, rp, po⟩ => ?_
  refine ⟨rfl, μ, S, [], rp, .nil, ?_⟩
  have p2 : Post (Den G) G W μ H σ (F [] S) Q := po
  revert p2
  generalize F [] S = r
  intro p2
  cases r with
  | ok a S' => exact p2
  | exc c fs S' => exact p2
  | stuck => exact p2
end Dx

/-! Dx17: a tuple times 0 or 1. -/
namespace Dx
open PySem PySem.Spec L2 PyProof.Rows
theorem tuple_mul1 (l : Addr) (items : Array Value) (n : Nat) (sl : Array (Option Value)) (dd : Option Addr) (u : Tok) :
    Meets (Builtin.«tuple.__mul__» ⟨[.ref l, .int 1 u], []⟩) (fun _ R s => s.heap.get? l = some { cls := .type "tuple", dict := dd, data := .seq items n, slots := sl } ∧ R (.ok (.ret (Value.ref l))) s) :=
  .of_wp fun prog w A R s h => by
    obtain ⟨hp, g, d, tk, os⟩ := s
    obtain ⟨hl, h⟩ := h
    have f1 := AutoSeq1.idx_int
    have c1 : (items.isEmpty || (1 : Int) == 1) = true := by simp
    wp_walk using wpAny_loadPart' hl
    repeat (first
      | (refine wpAny_ite_true (decide_eq_true (by rw [c1])) ?_; wp_walk using wpAny_loadPart' hl)
      | (rw [if_pos c1]; wp_walk using wpAny_loadPart' hl))
    exact ⟨_, rfl, h⟩
theorem tuple_mul0 (l : Addr) (items : Array Value) (n : Nat) (sl : Array (Option Value)) (dd : Option Addr) (u : Tok) (ne : items.isEmpty = false) :
    Meets (Builtin.«tuple.__mul__» ⟨[.ref l, .int 0 u], []⟩) (fun _ R s => s.heap.get? l = some { cls := .type "tuple", dict := dd, data := .seq items n, slots := sl } ∧
      R (.ok (.ret (Value.ref s.heap.objs.size))) { s with heap := s.heap.push { cls := Value.type "tuple", data := Data.seq #[] } }) :=
  .of_wp fun prog w A R s h => by
    obtain ⟨hp, g, d, tk, os⟩ := s
    obtain ⟨hl, h⟩ := h
    have f1 := AutoSeq1.idx_int
    have c1 : (items.isEmpty || (0 : Int) == 1) = false := by rw [ne]; rfl
    have c2 : (decide ((0 : Int) ≤ 0) || items.isEmpty) = true := by simp
    wp_walk using wpAny_loadPart' hl
    repeat (first
      | (refine wpAny_ite_false (decide_eq_false (by rw [c1]; exact Bool.false_ne_true)) ?_; wp_walk using wpAny_loadPart' hl)
      | (refine wpAny_ite_true (decide_eq_true (by rw [c2])) ?_; wp_walk using wpAny_loadPart' hl)
      | (rw [if_neg (by rw [c1]; exact Bool.false_ne_true)]; wp_walk using wpAny_loadPart' hl))
    exact ⟨_, rfl, h⟩
def rRep01 (K : PySem.W.Frag) : R2 := fun x y H Q => ∃ l k xs, x = .ref l ∧ y = .int k ∧ SqT K H l xs ∧ ((k = 1 ∧ Q (.ref l) H) ∨ (k = 0 ∧ xs ≠ [] ∧ ∀ p, H p = none → Q (.ref p) (upd H p (.tup []))))
theorem op_rep01 {X : Cx} : OpR X (binaryOp .Mult) (rRep01 X.K) := by
  intro pins s σ H x y v u Q I rx ry h
  obtain ⟨l, k, xs, rfl, rfl, hT, q⟩ := h
  cases rx
  obtain ⟨t, rfl⟩ := ry
  obtain ⟨its, r, ⟨⟨cls, dd, data, sl⟩, ho, hc, n, hd⟩, hs⟩ := I.tuple hT
  simp only at hc hd
  subst hc hd
  rcases q with ⟨rfl, q⟩ | ⟨rfl, hne, q⟩
  · refine wpAny_binaryOp_repeat_ref (T := "tuple") (U := "int") (by decide) ⟨_, ho, rfl⟩ (fun s' => typeIs_int s' 1 t) noFill_tuple_mul F.fills_int_mul F.slot_int_rmul repeat_tuple F.slot_int_index.lookup
      (call_meets F.slot_int_rmul (typeIs_int s 1 t) F.entry_int_rmul (F.args_int_rmul_2 _ _) (int_rmul_tuple 1 t l its.toArray n dd sl)
        ⟨ho, rfl, ⟨_, ho, rfl⟩, call_meets F.slot_tuple_mul ⟨_, ho, rfl⟩ F.entry_tuple_mul (F.args_tuple_mul_2 _ _) (tuple_mul1 l its.toArray n sl dd t) ⟨ho, ?_⟩⟩)
    exact ⟨.ref l, H, I, rfl, q⟩
  · have hn : its ≠ [] := fun e => hne (by
      have := r.length
      rw [e] at this
      exact List.eq_nil_of_length_eq_zero this)
    have hi : its.toArray.isEmpty = false := by
      cases its with
      | nil => exact absurd rfl hn
      | cons a b => rfl
    refine wpAny_binaryOp_repeat_ref (T := "tuple") (U := "int") (by decide) ⟨_, ho, rfl⟩ (fun s' => typeIs_int s' 0 t) noFill_tuple_mul F.fills_int_mul F.slot_int_rmul repeat_tuple F.slot_int_index.lookup
      (call_meets F.slot_int_rmul (typeIs_int s 0 t) F.entry_int_rmul (F.args_int_rmul_2 _ _) (int_rmul_tuple 0 t l its.toArray n dd sl)
        ⟨ho, rfl, ⟨_, ho, rfl⟩, call_meets F.slot_tuple_mul ⟨_, ho, rfl⟩ F.entry_tuple_mul (F.args_tuple_mul_2 _ _) (tuple_mul0 l its.toArray n sl dd t hi) ⟨ho, ?_⟩⟩)
    refine ⟨.ref s.heap.objs.size, _, I.laid (t' := s.toks) (o := .tup []) (fun b ob q => Heap.get?_push_of_some _ q) (Nat.le_refl _) ?_, rfl, q _ (I.hok.fresh (Nat.le_refl _))⟩
    exact ⟨by rw [sizeLine_eq]; decide, [], .nil, IsTup.new _ _⟩
def fMulF : F2 := fun d e S => match tupOf d, e with
  | some xs, .int k => if k = 1 then .ok d S else if k = 0 ∧ xs ≠ [] then .ok (.tup []) S else fMul d e S
  | _, _ => fMul d e S
section
variable {G : Gx} {X : Cx} {W : WX}
theorem ov_mulF (g : G.Ok) : OpV G W (fun x y H Q => (rI CMul (fun i j => .int (i * j)) x y H Q ∨ rRep x y H Q ∨ rRepT G.K x y H Q) ∨ rRep01 G.K x y H Q) fMulF := by
  intro μ S H x y d e σ Q rp hx hy po
  unfold fMulF at po
  split at po
  · rename_i xs k e1
    cases hy
    obtain ⟨a, us, rfl, h1, h2⟩ := tup_den hx e1
    by_cases h1k : k = 1
    · subst h1k
      rw [if_pos rfl] at po
      exact .inr ⟨a, 1, us, rfl, rfl, h1, .inl ⟨rfl, post_ok rp po hx⟩⟩
    · rw [if_neg h1k] at po
      by_cases h0 : k = 0 ∧ xs ≠ []
      · rw [if_pos h0] at po
        obtain ⟨rfl, hne⟩ := h0
        refine .inr ⟨a, 0, us, rfl, rfl, h1, .inr ⟨rfl, fun z => hne ?_, fun p hp => post_tup g rp .nil po hp⟩⟩
        have := h2.length
        rw [z] at this
        exact List.eq_nil_of_length_eq_zero this
      · rw [if_neg h0] at po
        exact .inl (ov_mul g _ _ _ _ _ _ _ _ _ rp hx (.int k) po)
  · exact .inl (ov_mul g _ _ _ _ _ _ _ _ _ rp hx hy po)
theorem de_mulF {a b : Expr} {pos : Pos} {f g : FE} (A : Amb G X W) (ha : PE X a (TD G W f)) (hb : PE X b (TD G W g)) : PE X (.BinOp a .Mult b pos) (TD G W (x2 fMulF f g)) :=
  de_op (r := fun x y H Q => (rI CMul (fun i j => .int (i * j)) x y H Q ∨ rRep x y H Q ∨ rRepT G.K x y H Q) ∨ rRep01 G.K x y H Q) (by have := ((op_mul (X := X)).or (op_rep.or op_repT)).or op_rep01; rw [A.hK] at this; exact this) (ov_mulF A.ok) ha hb
end
end Dx

/-! Dx18: tuples of texts compared. -/
namespace Dx
open PySem PySem.Spec L2 PySem.W
def rLtK (K : PySem.W.Frag) : R2 := fun x y H Q => ∃ ks ls : List String, Dp K H x (encK ks) ∧ Dp K H y (encK ls) ∧ Q (.bl (ltKs ks ls)) H
theorem op_ltK {X : Cx} (hu : X.A.units + 65 < cLine) : OpR X (compareOp .Lt) (rLtK X.K) := by
  intro pins s σ H x y v u Q I rx ry h
  obtain ⟨ks, ls, hd, he, q⟩ := h
  obtain ⟨as, r1⟩ := Dp.reads I _ x v hd rx
  obtain ⟨bs, r2⟩ := Dp.reads I _ y u he ry
  have hal : alike (encK ks) (encK ls) = true := by
    show alike (.tuple _) (.tuple _) = true
    rw [alike]
    exact alike_strs _ _
  have hdep : ∀ zs : List String, (encK zs).depth = 1 := fun zs => by
    show (PyData.tuple _).depth = 1
    rw [PyData.depth, depth_strs]
  refine rcLt_alike (encK ks) (encK ls) X.A s v u as bs r1 r2 hal (fun z => nomatch z) (by rw [hdep, hdep]; simp; omega) _ _ _ _ ?_
  rw [encK_lt]
  exact ⟨.bl _, H, I, rfl, q⟩
def fLtF : F2 := fun d e S => match keyT d, keyT e with
  | some ks, some ls => .ok (.bl (ltKs ks ls)) S
  | _, _ => fLt d e S
section
variable {G : Gx} {X : Cx} {W : WX}
theorem ov_ltF : OpV G W (fun x y H Q => rI0 (fun i j => V.bl (decide (i < j))) x y H Q ∨ rLtK G.K x y H Q) fLtF := by
  intro μ S H x y d e σ Q rp hx hy po
  unfold fLtF at po
  split at po
  · rename_i ks ls e1 e2
    exact .inr ⟨ks, ls, keyT_den hx e1, keyT_den hy e2, post_ok rp po (.bl _)⟩
  · exact .inl (ov_I (fun _ _ _ _ => .bl _) _ _ _ _ _ _ _ _ _ rp hx hy po)
theorem c_ltF (A : Amb G X W) : CmpD X G W .Lt fLtF := ⟨_, by
  have h1 := op_ltK (X := X) A.hu
  rw [A.hK] at h1
  exact op_lt.or h1, ov_ltF⟩
end
end Dx

/-! Dx19: lists that are locked as soon as they are made: values, no numbered objects. -/
namespace Dx
open PySem PySem.Spec L2 PyProof.Rows PySem.W
variable {G : Gx} {X : Cx} {W : WX}
def FQ (Q : VK) : VK := fun v H => Q v H ∨ ∃ a u, v = .ref a ∧ H a = some u ∧ Mut (some u) ∧ ∀ od, Q v (upd H a (.frz od u))
theorem pe_frz {e : Expr} {t : TE} (h : PE X e t) : PE X e (fun σ H Q => t σ H (FQ Q)) := by
  refine ⟨fun pins s σ H Q I q => ?_⟩
  refine thn (h.run pins s σ H _ I q) fun v s1 ⟨x, H1, I1, r, q1⟩ => ?_
  rcases q1 with q1 | ⟨a, u, rfl, hu, mu, q1⟩
  · exact ⟨x, H1, I1, r, q1⟩
  · obtain ⟨od, I2⟩ := I1.lock hu mu
    exact ⟨_, _, I2, r, q1 od⟩
def FN (N : L2.St → Hp → Prop) : L2.St → Hp → Prop := fun σ H => N σ H ∨ ∃ a u, H a = some u ∧ Mut (some u) ∧ ∀ od, N σ (upd H a (.frz od u))
theorem ps_frz {st : Stmt} {t : TS} (h : PS X st t) : PS X st (fun Z σ H => t { Z with nx := FN Z.nx } σ H) := by
  refine ⟨fun pins s σ H D I q => ?_⟩
  refine thn (h.run pins s σ H _ I q) fun f s1 q1 => ?_
  cases f with
  | next =>
    obtain ⟨σ', H', I1, q1⟩ := q1
    rcases q1 with q1 | ⟨a, u, hu, mu, q1⟩
    · exact ⟨σ', H', I1, q1⟩
    · obtain ⟨od, I2⟩ := I1.lock hu mu
      exact ⟨σ', _, I2, q1 od⟩
  | brk => exact q1
  | cont => exact q1
  | ret v => exact q1
theorem upd_upd {H : Hp} {p : Addr} {u w : HO} : upd (upd H p u) p w = upd H p w := by
  funext a
  by_cases h : a = p
  · subst h; rw [upd_same, upd_same]
  · rw [upd_ne h, upd_ne h, upd_ne h]
theorem post_lstF (g : G.Ok) {μ : List Addr} {H : Hp} {σ : L2.St} {S : Sg} {ds : List D} {vs : List V} {Q : VK} (rp : Rep G μ S H) (d : DenA G μ H ds vs) (h : Post (Den G) G W μ H σ (.ok (.clist ds) S) Q) {p : Addr} (hp : H p = none) : FQ Q (.ref p) (upd H p (.lst vs)) := by
  refine .inr ⟨p, .lst vs, rfl, upd_same, trivial, fun od => ?_⟩
  rw [upd_upd]
  exact h _ _ _ (per_new g hp) (rp.new g hp) (.clist ⟨od, upd_same⟩ (d.per (per_new g hp)))
/-! ### [..] -/
def xLstF (g : FA) : FE := fun ρ S => (g ρ S).bind fun ds S1 => if ds.length ≤ 16777216 then .ok (.clist ds) S1 else .stuck
theorem de_lstF {es : List Expr} {pos : Pos} {g : FA} (A : Amb G X W) (h : PA X es (TDA G W g)) : PE X (.List es pos) (TD G W (xLstF g)) :=
  PE.imp (pe_frz (pe_lst h)) fun σ H Q q => by
    obtain ⟨μ, ρ, S, en, rp, p⟩ := tdg_bind (rel := DenA G) (k := fun ρ ds S1 => if ds.length ≤ 16777216 then R.ok (D.clist ds) S1 else .stuck) q
    refine ⟨μ, ρ, S, en, rp, p.mono fun vs H1 ⟨μ1, ρ1, ds, S1, en1, rp1, d, p1⟩ => ?_⟩
    obtain ⟨hl, p2⟩ := post_ite p1
    exact ⟨by rw [sl_eq, ← d.length]; exact hl, fun a ha => post_lstF A.ok rp1 d p2 ha⟩
/-! ### operators -/
def OpVF (G : Gx) (W : WX) (r : R2) (h : F2) : Prop :=
  ∀ μ S H x y d e σ Q, Rep G μ S H → Den G μ H d x → Den G μ H e y → Post (Den G) G W μ H σ (h d e S) Q → r x y H (FQ Q)
theorem de_opF {a b : Expr} {op : Operator} {pos : Pos} {r : R2} {h : F2} {f g : FE} (ho : OpR X (binaryOp op) r) (o : OpVF G W r h) (ha : PE X a (TD G W f)) (hb : PE X b (TD G W g)) : PE X (.BinOp a op b pos) (TD G W (x2 h f g)) :=
  PE.imp (pe_frz (pe_op ho ha hb)) fun σ H Q q => by
    obtain ⟨μ, ρ, S, en, rp, p⟩ := tdg_bind2 (rel := Den G) (rel2 := Den G) den_pr q
    exact ⟨μ, ρ, S, en, rp, p.mono fun b H1 ⟨μ1, ρ1, S1, en1, rp1, p1⟩ => ⟨μ1, ρ1, S1, en1, rp1, p1.mono fun c H2 ⟨μ2, ρ2, a, c', S2, en2, rp2, d1, d2, q2⟩ => o _ _ _ _ _ _ _ _ _ rp2 d1 d2 q2⟩⟩
theorem post_fq {μ : List Addr} {H : Hp} {σ : L2.St} {r : R D} {Q : VK} (h : Post (Den G) G W μ H σ r Q) : Post (Den G) G W μ H σ r (FQ Q) := h.mono fun _ _ q => .inl q
/-- a list that may be read -/
def rCatR : R2 := fun x y H Q => ∃ l b xs zs, x = .ref l ∧ y = .ref b ∧ Rd H l (.lst xs) ∧ Rd H b (.lst zs) ∧ xs.length + zs.length ≤ sizeLine ∧ ∀ p, H p = none → Q (.ref p) (upd H p (.lst (xs ++ zs)))
theorem op_catR : OpR X (binaryOp .Add) rCatR := by
  intro pins s σ H x y v u Q I rx ry h
  obtain ⟨l, b, xs, zs, rfl, rfl, hH, hB, hz, q⟩ := h
  cases rx
  cases ry
  obtain ⟨z, its, n, r, e⟩ := hH.ok I.hok
  obtain ⟨z2, its2, n2, r2, e2⟩ := hB.ok I.hok
  have hl := r.length
  have hl2 := r2.length
  refine PySem.P.add_list e e2 ?_ (by rw [List.size_toArray, List.size_toArray]; omega)
  have ea : its.toArray ++ its2.toArray = (its ++ its2).toArray := by simp
  rw [ea]
  exact ⟨.ref _, _, I.lnew (t' := s.toks) (r.append r2) (by rw [List.length_append]; omega), rfl, q _ I.fresh⟩
theorem rd_den {μ : List Addr} {H : Hp} {S : Sg} {d : D} {v : V} {xs : List D} (rp : Rep G μ S H) (h : Den G μ H d v) (e : seqOf S d = some xs) : ∃ a vs, v = .ref a ∧ Rd H a (.lst vs) ∧ DenA G μ H xs vs := by
  cases h with
  | clist h1 h2 => simp [seqOf] at e; subst e; exact ⟨_, _, rfl, .inr h1, h2⟩
  | ref h =>
    simp only [seqOf] at e
    split at e
    · rename_i ys eo
      cases e
      obtain ⟨vs, h1, h2⟩ := rp.obj h eo
      exact ⟨_, vs, rfl, .inl h1, h2⟩
    · cases e
  | _ => simp [seqOf] at e
def fAddF : F2 := fun d e S => match seqOf S d, seqOf S e with
  | some xs, some ys => if xs.length + ys.length ≤ 16777216 then .ok (.clist (xs ++ ys)) S else .stuck
  | _, _ => fAdd d e S
theorem ov_addF (g : G.Ok) : OpVF G W (fun x y H Q => (rI0 (fun i j => .int (i + j)) x y H Q ∨ (∃ i j, x = .str i ∧ y = .str j ∧ i.length + j.length ≤ sizeLine ∧ Q (.str (i ++ j)) H) ∨ rCatA G.K x y H Q ∨ rCat x y H Q) ∨ rCatR x y H Q) fAddF := by
  intro μ S H x y d e σ Q rp hx hy po
  unfold fAddF at po
  split at po
  · rename_i xs ys e1 e2
    obtain ⟨c, po⟩ := post_ite po
    obtain ⟨a, vs, rfl, h1, h2⟩ := rd_den rp hx e1
    obtain ⟨b, us, rfl, h3, h4⟩ := rd_den rp hy e2
    exact .inr ⟨a, b, vs, us, rfl, rfl, h1, h3, by rw [sl_eq, ← h2.length, ← h4.length]; exact c, fun p hp => post_lstF g rp (h2.append h4) po hp⟩
  · exact .inl (ov_add g _ _ _ _ _ _ _ _ _ rp hx hy (post_fq po))
theorem de_addF {a b : Expr} {pos : Pos} {f g : FE} (A : Amb G X W) (ha : PE X a (TD G W f)) (hb : PE X b (TD G W g)) : PE X (.BinOp a .Add b pos) (TD G W (x2 fAddF f g)) :=
  de_opF (r := fun x y H Q => (rI0 (fun i j => .int (i + j)) x y H Q ∨ (∃ i j, x = .str i ∧ y = .str j ∧ i.length + j.length ≤ sizeLine ∧ Q (.str (i ++ j)) H) ∨ rCatA G.K x y H Q ∨ rCat x y H Q) ∨ rCatR x y H Q) (by have := (op_addAll (X := X)).or op_catR; rw [A.hK] at this; exact this) (ov_addF A.ok) ha hb
def rRepR : R2 := fun x y H Q => ∃ l k xs, x = .ref l ∧ y = .int k ∧ Rd H l (.lst xs) ∧ -(2 ^ 63) ≤ k ∧ k < 2 ^ 63 ∧ xs.length * k.toNat ≤ sizeLine ∧
  ∀ p, H p = none → Q (.ref p) (upd H p (.lst (List.replicate k.toNat xs).flatten))
theorem op_repR : OpR X (binaryOp .Mult) rRepR := by
  intro pins s σ H x y v u Q I rx ry h
  obtain ⟨l, k, xs, rfl, rfl, hH, h1, h2, hz, q⟩ := h
  cases rx
  obtain ⟨t, rfl⟩ := ry
  obtain ⟨z, its, n, r, e⟩ := hH.ok I.hok
  have hl := r.length
  have hlen : its.toArray.size * k.toNat ≤ sizeLine := by rw [List.size_toArray, ← hl]; exact hz
  have hcap : ¬ its.toArray.size * k.toNat > (2 ^ 63 - 1) / 8 := by
    have : (sizeLine : Nat) ≤ (2 ^ 63 - 1) / 8 := by decide
    omega
  have hfit : ¬ (!Builtin.List.listFitsIndex k) = true := by
    rw [fitsIndex_both h1 h2]
    exact Bool.false_ne_true
  have hlong : ¬ Builtin.List.listTooLong (its.toArray.size * k.toNat) = true := by
    rw [notLongL hlen]
    exact Bool.false_ne_true
  have hnew : List.foldl (fun x1 x2 => x1 ++ x2) #[] (List.replicate (if its.toArray.isEmpty = true then 0 else k.toNat) its.toArray) = (List.replicate k.toNat its).flatten.toArray := by
    have f0 : ∀ m : Nat, List.foldl (fun x1 x2 => x1 ++ x2) #[] (List.replicate m its.toArray) = (List.replicate m its).flatten.toArray := fun m => by
      have := foldl_rep its m []
      rw [List.nil_append] at this
      exact this
    rw [f0]
    cases its with
    | nil => simp
    | cons a r' => rw [if_neg (by simp)]
  refine wpAny_binaryOp_repeat_ref (T := "list") (U := "int") (by decide) ⟨_, e, rfl⟩ (fun s' => typeIs_int s' k t) noFill_list_mul F.fills_int_mul F.slot_int_rmul repeat_list F.slot_int_index.lookup
    (call_meets F.slot_int_rmul (typeIs_int s k t) F.entry_int_rmul (F.args_int_rmul_2 _ _) (int___rmul___int_list k t l its.toArray n)
      ⟨e, rfl, ⟨_, e, rfl⟩, call_meets F.slot_list_mul ⟨_, e, rfl⟩ F.entry_list_mul (F.args_list_mul_2 _ _) (AutoListH.list___mul___list_int_3 l its.toArray n k t hfit hcap hlong) ⟨e, ?_⟩⟩)
  rw [hnew]
  exact ⟨.ref _, _, I.lnew (t' := s.toks) (r.rep k.toNat) (by rw [PyProof.Rows.lm_len_rep_flat, Nat.mul_comm]; exact hz), rfl, q _ I.fresh⟩
def fMulFF : F2 := fun d e S => match seqOf S d, e with
  | some xs, .int k => if -(9223372036854775808) ≤ k ∧ k < 9223372036854775808 ∧ xs.length * k.toNat ≤ 16777216 then .ok (.clist (List.replicate k.toNat xs).flatten) S else .stuck
  | _, _ => fMulF d e S
theorem ov_mulFF (g : G.Ok) : OpVF G W (fun x y H Q => ((rI CMul (fun i j => .int (i * j)) x y H Q ∨ rRep x y H Q ∨ rRepT G.K x y H Q) ∨ rRep01 G.K x y H Q) ∨ rRepR x y H Q) fMulFF := by
  intro μ S H x y d e σ Q rp hx hy po
  unfold fMulFF at po
  split at po
  · rename_i xs k e1
    obtain ⟨⟨c1, c2, c3⟩, po⟩ := post_ite po
    obtain ⟨a, vs, rfl, h1, h2⟩ := rd_den rp hx e1
    cases hy
    exact .inr ⟨a, _, vs, rfl, rfl, h1, c1, c2, by rw [sl_eq, ← h2.length]; exact c3, fun p hp => post_lstF g rp (h2.rep _) po hp⟩
  · exact .inl (ov_mulF g _ _ _ _ _ _ _ _ _ rp hx hy (post_fq po))
theorem de_mulFF {a b : Expr} {pos : Pos} {f g : FE} (A : Amb G X W) (ha : PE X a (TD G W f)) (hb : PE X b (TD G W g)) : PE X (.BinOp a .Mult b pos) (TD G W (x2 fMulFF f g)) :=
  de_opF (r := fun x y H Q => ((rI CMul (fun i j => .int (i * j)) x y H Q ∨ rRep x y H Q ∨ rRepT G.K x y H Q) ∨ rRep01 G.K x y H Q) ∨ rRepR x y H Q) (by have := (((op_mul (X := X)).or (op_rep.or op_repT)).or op_rep01).or op_repR; rw [A.hK] at this; exact this) (ov_mulFF A.ok) ha hb
/-- + that lays a new list -/
def fAddN : F2 := fun d e S => match seqOf S d, seqOf S e with
  | some xs, some ys => if xs.length + ys.length ≤ 16777216 then newO (.lst (xs ++ ys)) S else .stuck
  | _, _ => .stuck
theorem ov_addN (g : G.Ok) : OpV G W rCatR fAddN := by
  intro μ S H x y d e σ Q rp hx hy po
  unfold fAddN at po
  split at po
  · rename_i xs ys e1 e2
    obtain ⟨c, po⟩ := post_ite po
    obtain ⟨a, vs, rfl, h1, h2⟩ := rd_den rp hx e1
    obtain ⟨b, us, rfl, h3, h4⟩ := rd_den rp hy e2
    exact ⟨a, b, vs, us, rfl, rfl, h1, h3, by rw [sl_eq, ← h2.length, ← h4.length]; exact c, fun p hp => post_lst g rp (h2.append h4) po hp⟩
  · exact po.elim
theorem de_addN {a b : Expr} {pos : Pos} {f g : FE} (A : Amb G X W) (ha : PE X a (TD G W f)) (hb : PE X b (TD G W g)) : PE X (.BinOp a .Add b pos) (TD G W (x2 fAddN f g)) := de_op op_catR (ov_addN A.ok) ha hb
/-! ### slices -/
def fSlF (d : D) (lo hi : Option Int) (S : Sg) : R D := match seqOf S d with
  | some xs => .ok (.clist (cutD xs lo hi)) S
  | none => fSl d lo hi S
def xSlF (f : FE) (l h : FO) : FE := fun ρ S => (f ρ S).bind fun d S1 => (l ρ S1).bind fun lo S2 => (h ρ S2).bind fun hi S3 => fSlF d lo hi S3
theorem ov_slF (g : G.Ok) {μ : List Addr} {S : Sg} {H : Hp} {x : V} {d : D} {lo hi : Option Int} {σ : L2.St} {Q : VK} (rp : Rep G μ S H) (hx : Den G μ H d x) (po : Post (Den G) G W μ H σ (fSlF d lo hi S) Q) : rSlL G.K x lo hi H (FQ Q) ∨ rSlA G.K x lo hi H (FQ Q) := by
  unfold fSlF at po
  split at po
  · rename_i xs e1
    obtain ⟨a, vs, rfl, h1, h2⟩ := rd_den rp hx e1
    exact .inl ⟨a, vs, rfl, .inl h1, fun p hp => post_lstF g rp (h2.cut lo hi) po hp⟩
  · exact ov_sl g rp hx (post_fq po)
theorem de_sliceF {e : Expr} {lo hi : Option Expr} {p2 pos : Pos} {f : FE} {l h : FO} (A : Amb G X W) (he : PE X e (TD G W f)) (hl : PO X lo (TDO G W l)) (hh : PO X hi (TDO G W h)) : PE X (.Subscript e (.Slice lo hi none p2) pos) (TD G W (xSlF f l h)) := by
  have hr : SlR X (fun x lo hi H Q => rSlL G.K x lo hi H Q ∨ rSlA G.K x lo hi H Q) := by
    have := (sl_list (X := X)).or sl_tupA
    rw [A.hK] at this
    exact this
  refine PE.imp (pe_frz (pe_slice hr he hl hh)) fun σ H Q q => ?_
  obtain ⟨μ, ρ, S, en, rp, p⟩ := q
  refine ⟨μ, ρ, S, en, rp, (post_bind p).mono fun x H1 ⟨μ1, d, S1, pe1, rp1, dd, p1⟩ => ?_⟩
  refine ⟨μ1, ρ, S1, en.per pe1, rp1, (post_bind p1).mono fun lo' H2 ⟨μ2, lo, S2, pe2, rp2, el, p2⟩ => ?_⟩
  refine ⟨μ2, ρ, S2, (en.per pe1).per pe2, rp2, (post_bind p2).mono fun hi' H3 ⟨μ3, hi, S3, pe3, rp3, eh, p3⟩ => ?_⟩
  cases el
  cases eh
  exact ov_slF A.ok rp3 ((dd.per pe2).per pe3) p3
/-! ### built-ins -/
def CallVF (G : Gx) (W : WX) (r : List V → Hp → VK → Prop) (h : CV) : Prop := ∀ μ S H xs ds σ Q, Rep G μ S H → DenA G μ H ds xs → Post (Den G) G W μ H σ (h ds S) Q → r xs H (FQ Q)
theorem td_cbF {r : List V → Hp → VK → Prop} {h : CV} {g : FA} (o : CallVF G W r h) {σ : L2.St} {H : Hp} {Q : VK} (q : TD G W (xB h g) σ H Q) : tCB r (TDA G W g) σ H (FQ Q) := by
  obtain ⟨μ, ρ, S, en, rp, po⟩ := q
  exact ⟨μ, ρ, S, en, rp, (post_bind po).mono fun vs H1 ⟨μ1, ds, S1, pe, rp1, dd, p1⟩ => o _ _ _ _ _ _ _ rp1 dd p1⟩
theorem de_callBF {x : Str} {id : String} {p pos : Pos} {e : Expr} {es : List Expr} {g : FA} {r : List V → Hp → VK → Prop} {h : CV} (hc : CallR X (.builtin id) r) (o : CallVF G W r h) (hm : X.mg x = none) (hv : bootBuiltins x = some (.builtin id)) (ha : PA X (e :: es) (TDA G W g)) (hg : Gl X x := by rfl)
    (hn : x ≠ "__name__" := by decide) (hdb : (x == ("__debug__" : Str)) = false := by decide) (he : starEach (e :: es) X.env = (false, eval e X.env) :: starEach es X.env := by rfl) (hpl : (backTo pos (starEach es X.env)).any (·.1) = false := by rfl) :
    PE X (.Call (.Name x p) (e :: es) [] pos) (TD G W (xB h g)) := PE.imp (pe_frz (pe_callB hc hg hm hv ha hn hdb he hpl)) fun σ H Q q => td_cbF o q
theorem de_callTyF {x : Str} {T : String} {p pos : Pos} {e : Expr} {es : List Expr} {g : FA} {r : List V → Hp → VK → Prop} {h : CV} (hc : CallR X (.type T) r) (o : CallVF G W r h) (hm : X.mg x = none) (hv : bootBuiltins x = some (.type T)) (ha : PA X (e :: es) (TDA G W g)) (hg : Gl X x := by rfl)
    (hn : x ≠ "__name__" := by decide) (hdb : (x == ("__debug__" : Str)) = false := by decide) (he : starEach (e :: es) X.env = (false, eval e X.env) :: starEach es X.env := by rfl) (hpl : (backTo pos (starEach es X.env)).any (·.1) = false := by rfl) :
    PE X (.Call (.Name x p) (e :: es) [] pos) (TD G W (xB h g)) := PE.imp (pe_frz (pe_callTy hc hg hm hv ha hn hdb he hpl)) fun σ H Q q => td_cbF o q
/-- a new list is locked -/
def frzR (S : Sg) : R D → R D
  | .ok (.ref n) S1 => match S1[n]? with
    | some (.lst xs) => .ok (.clist xs) S
    | _ => .stuck
  | _ => .stuck
def cListF : CV := fun ds S => match ds with
  | [d] => match itemsD S d with
    | some xs => .ok (.clist xs) S
    | none => match d with
      | .ref n => match S[n]? with
        | some (.dtt kvs) => if (kvs.all fun kv => kv.1.all keyOk) = true then .ok (.clist (kvs.map fun kv => .tup (kv.1.map ofKey))) S else .stuck
        | some (.dct kvs) => if (kvs.all fun kv => keyOk kv.1) = true then .ok (.clist (kvs.map fun kv => ofKey kv.1)) S else .stuck
        | _ => .stuck
      | _ => .stuck
  | _ => .stuck
theorem cv_listF (g : G.Ok) : CallVF G W (rListAny G.K) cListF := by
  intro μ S H xs ds σ Q rp dd po
  unfold cListF at po
  split at po
  · cases dd with
    | cons d1 t =>
      cases t
      split at po
      · rename_i ys e
        obtain ⟨a, vs, rfl, h1, h2⟩ := items_den rp d1 e
        exact .inl ⟨a, vs, rfl, h1, fun l hl => post_lstF g rp h2 po hl⟩
      · split at po
        · cases d1 with
          | ref hn =>
            split at po
            · rename_i kvs eo
              obtain ⟨c, po⟩ := post_ite po
              obtain ⟨gs, h1, h2, h3⟩ := rp.obj hn eo
              exact .inr (.inl ⟨_, gs, rfl, .inl h1, fun p bs hp ik => post_lstF g rp (keysT_den h2 c ik) po hp⟩)
            · rename_i kvs eo
              obtain ⟨c, po⟩ := post_ite po
              obtain ⟨gs, h1, h2, h3⟩ := rp.obj hn eo
              refine .inr (.inr ⟨_, gs, rfl, h1, fun p hp => post_lstF g rp ?_ po hp⟩)
              have e1 : gs.map (fun kv => kV kv.1) = (kvs.map (·.1)).map kV := by rw [← h2, List.map_map]; rfl
              have e2 : kvs.map (fun kv => ofKey kv.1) = (kvs.map (·.1)).map ofKey := by rw [List.map_map]; rfl
              rw [e1, e2]
              refine ofKeys_den ?_
              rw [List.all_map]
              exact c
            · exact po.elim
        · exact po.elim
  · exact po.elim
theorem de_listF {e : Expr} {p pos : Pos} {g : FA} (A : Amb G X W) (hc : X.calm = true) (hm : X.mg "list" = none) (ha : PA X [e] (TDA G W g)) (hg : Gl X "list" := by rfl) (he : starEach [e] X.env = (false, eval e X.env) :: starEach [] X.env := by rfl) (hpl : (backTo pos (starEach [] X.env)).any (·.1) = false := by rfl) : PE X (.Call (.Name "list" p) [e] [] pos) (TD G W (xB cListF g)) :=
  de_callTyF (r := rListAny G.K) (by have := (call_list_of (X := X)).or ((call_list_dT hc).or (call_list_dK hc)); rw [A.hK] at this; exact this) (cv_listF A.ok) hm PyProof.Rows.boot_list ha hg (by decide) (by decide) he hpl
def cSortedF : CV := fun ds S => match ds with
  | [d] => match seqOf S d with
    | some xs => if xs.all (fun x => match keyT x with
        | some (_ :: _) => true
        | _ => false) = true then .ok (.clist (insSort leT xs)) S
      else match intsOf xs with
        | some ns => .ok (.clist ((insSort (fun i j => decide (i ≤ j)) ns).map .int)) S
        | none => .stuck
    | none => .stuck
  | _ => .stuck
theorem cv_sortedF (g : G.Ok) : CallVF G W (fun vs H Q => rSortedG encK (fun x y => !ltKs y x) G.K vs H Q ∨ rSortedG PyData.int (fun x y => decide (x ≤ y)) G.K vs H Q) cSortedF := by
  intro μ S H xs ds σ Q rp dd po
  unfold cSortedF at po
  split at po
  · cases dd with
    | cons d1 t =>
      cases t
      split at po
      · rename_i ys e
        obtain ⟨a, vs, rfl, h1, h2⟩ := seq_den rp d1 e
        obtain ⟨z1, z2⟩ := zip_fst h2
        split at po
        · rename_i hk
          have hk' : ∀ p ∈ ys.zip vs, ∃ k r, keyT p.1 = some (k :: r) := fun p hp => by
            have hm : p.1 ∈ ys := by rw [← z1]; exact List.mem_map_of_mem hp
            have := List.all_eq_true.mp hk _ hm
            split at this
            · rename_i k r e2; exact ⟨k, r, e2⟩
            · cases this
          let bs : List (List String × V) := (ys.zip vs).map fun p => ((keyT p.1).getD [], p.2)
          have eb2 : bs.map (·.2) = vs := by rw [List.map_map]; exact z2
          refine .inl ⟨a, bs, rfl, by rw [eb2]; exact h1, fun b hb => ?_, fun x _ y _ => by rw [encK_lt], fun d hd d' hd' => ?_, .inl fun d hd => ?_, fun b hb => ?_, fun p hp => ?_⟩
          · obtain ⟨q, hq, rfl⟩ := List.mem_map.mp hb
            obtain ⟨k, r, ek⟩ := hk' q hq
            show Dp G.K H q.2 (encK ((keyT q.1).getD []))
            rw [ek]
            exact keyT_den (den_zip h2 q hq) ek
          · obtain ⟨b, _, rfl⟩ := List.mem_map.mp hd
            obtain ⟨b', _, rfl⟩ := List.mem_map.mp hd'
            show alike (.tuple _) (.tuple _) = true
            rw [alike]
            exact alike_strs _ _
          · obtain ⟨b, hb, rfl⟩ := List.mem_map.mp hd
            obtain ⟨q, hq, rfl⟩ := List.mem_map.mp hb
            obtain ⟨k, r, ek⟩ := hk' q hq
            refine ⟨encS k, r.map encS, ?_⟩
            show encK ((keyT q.1).getD []) = _
            rw [ek]
            rfl
          · show (PyData.tuple _).depth ≤ 8
            rw [PyData.depth, depth_strs]
            decide
          · have em : (insSort (fun x y : List String × V => !ltKs y.1 x.1) bs).map (·.2) = (insSort (fun x y : D × V => leT x.1 y.1) (ys.zip vs)).map (·.2) := by
              rw [← insSort_map (le := fun x y : D × V => leT x.1 y.1) (fun p : D × V => ((keyT p.1).getD [], p.2)) _ fun x _ y _ => rfl, List.map_map]
              rfl
            have ed : insSort leT ys = (insSort (fun x y : D × V => leT x.1 y.1) (ys.zip vs)).map (·.1) := by
              rw [insSort_map (le' := leT) (fun p : D × V => p.1) _ fun x _ y _ => rfl, z1]
            rw [em]
            rw [ed] at po
            exact post_lstF g rp (zip_den fun p hp => den_zip h2 p ((insSort_perm _ _).mem_iff.mp hp)) po hp
        · split at po
          · rename_i ns en
            have ev := ints_den h2 en
            refine .inr ⟨a, ns.map fun i => (i, V.int i), rfl, by rw [List.map_map]; rw [ev] at h1; exact h1, fun b hb => ?_, fun x _ y _ => ?_, fun d hd d' hd' => ?_, .inr fun d hd => ?_, fun b hb => ?_, fun p hp => ?_⟩
            · obtain ⟨i, _, rfl⟩ := List.mem_map.mp hb
              exact .int i
            · show (!dataLt (.int y.1) (.int x.1)) = decide (x.1 ≤ y.1)
              rw [dataLt_int, not_lt_int]
            · obtain ⟨b, _, rfl⟩ := List.mem_map.mp hd
              obtain ⟨b', _, rfl⟩ := List.mem_map.mp hd'
              rfl
            · obtain ⟨b, _, rfl⟩ := List.mem_map.mp hd
              exact ⟨fun z => (nomatch z), fun _ z => (nomatch z)⟩
            · show (PyData.int _).depth ≤ 8
              rw [PyData.depth]
              decide
            · have em : (insSort (fun x y : Int × V => decide (x.1 ≤ y.1)) (ns.map fun i => (i, V.int i))).map (·.2) = (insSort (fun i j => decide (i ≤ j)) ns).map V.int := by
                rw [← insSort_map (le := fun i j : Int => decide (i ≤ j)) (fun i : Int => (i, V.int i)) _ fun x _ y _ => rfl, List.map_map]
                rfl
              rw [em]
              refine post_lstF g rp ?_ po hp
              have : ∀ l : List Int, DenA G μ H (l.map D.int) (l.map V.int) := fun l => by
                induction l with
                | nil => exact .nil
                | cons i l ih => exact .cons (.int i) ih
              exact this _
          · exact po.elim
      · exact po.elim
  · exact po.elim
theorem de_sortedF {e : Expr} {p pos : Pos} {g : FA} (A : Amb G X W) (hm : X.mg "sorted" = none) (ha : PA X [e] (TDA G W g)) (hg : Gl X "sorted" := by rfl) (he : starEach [e] X.env = (false, eval e X.env) :: starEach [] X.env := by rfl) (hpl : (backTo pos (starEach [] X.env)).any (·.1) = false := by rfl) : PE X (.Call (.Name "sorted" p) [e] [] pos) (TD G W (xB cSortedF g)) :=
  de_callBF (r := fun vs H Q => rSortedG encK (fun x y => !ltKs y x) G.K vs H Q ∨ rSortedG PyData.int (fun x y => decide (x ≤ y)) G.K vs H Q) (by have := (cr_sortedG (X := X) (enc := encK) (le := fun x y => !ltKs y x) A.hu).or (cr_sortedG (enc := PyData.int) (le := fun x y => decide (x ≤ y)) A.hu); rw [A.hK] at this; exact this) (cv_sortedF A.ok) hm PyProof.Rows.boot_sorted ha hg (by decide) (by decide) he hpl
end Dx

/-! Dx20: comprehensions whose list is locked. -/
namespace Dx
open PySem PySem.Spec L2
variable {G : Gx} {X : Cx} {W : WX}
def lcGoF (src : Src) (tg : FG) (t : FT) (e : FE) (ρ : Ev) : Nat → Nat → List D → Sg → R D
  | 0, i, acc, S => match srcAt S src i with
    | some none => .ok (.clist acc) S
    | _ => .stuck
  | k + 1, i, acc, S => match srcAt S src i with
    | some (some d) => match tg d ρ with
      | some ρ1 => (t ρ1 S).nox.bind fun b S2 => match b with
        | true => (e ρ1 S2).nox.bind fun y S3 => if acc.length < 16777216 then lcGoF src tg t e ρ k (i + 1) (acc ++ [y]) S3 else .stuck
        | false => lcGoF src tg t e ρ k (i + 1) acc S2
      | none => .stuck
    | some none => .ok (.clist acc) S
    | none => .stuck
def xLcF (vs : List Nat) (fs : FI) (tg : FG) (t : FT) (e : FE) : FE := fun ρ S => (fs ρ S).bind fun src S1 => lcGoF src tg t e (wipeD ρ vs) (srcLen S1 src) 0 [] S1
/-- the reading of a comprehension -/
theorem lc_readF {vs : List Nat} {wi : TI} {fs : FI} {fg : FG} {tgr : TG} {t : FT} {e : FE} {σ : L2.St} {H : Hp} {Q Q' : VK} (hq : ∀ v H', FQ Q v H' → Q' v H') (ok : G.Ok) (wi' : ∀ σ H R, TDg (SrcOk G) G W fs σ H R → wi σ H R) (gt : GT G vs fg tgr) (q : TD G W (xLcF vs fs fg t e) σ H Q) :
    tLc wi tgr (TDT G W0 t) (TD G W0 e) vs σ H Q' := by
  obtain ⟨μ, ρ, S, en, rp, po⟩ := q
  refine wi' σ H _ ⟨μ, ρ, S, en, rp, (post_bind (rel := SrcOk G) po).mono fun J H1 ⟨μ1, src, S1, pe, rp1, so, p1⟩ => fun D hD => ?_⟩
  refine ⟨fun i m H => ∃ μ S acc us, Rep G μ S H ∧ Per G μ1 H1 μ H ∧ EnvD G μ H (wipeD ρ vs) (wipe σ vs) ∧ SrcOk G μ H src J ∧ H D = some (.lst us) ∧ (∀ n : Nat, μ[n]? ≠ some D) ∧ DenA G μ H acc us ∧ Post (Den G) G W μ1 H1 σ (lcGoF src fg t e (wipeD ρ vs) m i acc S) Q, ⟨srcLen S1 src, μ1, S1, [], [], ?_⟩, ?_⟩
  · have pn : Per G μ1 H1 μ1 (upd H1 D (.lst [])) := per_new ok hD
    refine ⟨rp1.new ok hD, pn, ((en.per pe).per pn).wipe vs, so.per pn, upd_same, fun n z => ?_, .nil, p1⟩
    obtain ⟨o, eo, ro⟩ := rp1.there z
    obtain ⟨w, e, _⟩ := ro.some
    rw [hD] at e; cases e
  · rintro i m H2 ⟨μ2, S2, acc, us, rp2, pe2, en2, so2, hD2, nD2, da2, p2⟩
    have so3 := so2 μ2 H2 S2 i .refl rp2
    have stop : srcAt S2 src i = some none → Post (Den G) G W μ1 H1 σ (.ok (.clist acc) S2) Q → (J.stop i H2 ∧ Q' (.ref D) H2) := fun e p => by
      refine ⟨so3.1 e, hq _ _ (.inr ⟨D, .lst us, rfl, hD2, trivial, fun od => ?_⟩)⟩
      have ne : ∀ (n : Nat) (a : Addr), μ2[n]? = some a → a ≠ D := fun n a h z => nD2 n (by rw [h, z])
      have stay : ∀ (b : Addr) (u : HO), b ≠ D → H2 b = some u → (upd H2 D (.frz od (.lst us))) b = some u := fun b u hb h => by rw [upd_ne hb]; exact h
      have neT : ∀ (a : Addr) (xs : List V), H2 a = some (.tup xs) → (upd H2 D (.frz od (.lst us))) a = some (.tup xs) := fun a xs h => stay a _ (fun z => by rw [z, hD2] at h; cases h) h
      have neF : ∀ (a : Addr) (q : Obj) (u : HO), H2 a = some (.frz q u) → (upd H2 D (.frz od (.lst us))) a = some (.frz q u) := fun a q u h => stay a _ (fun z => by rw [z, hD2] at h; cases h) h
      have neC : ∀ (n : Ci) (a : Addr), G.clo n a H2 → G.clo n a (upd H2 D (.frz od (.lst us))) := fun n a h => ok.clo_mut n a H2 D _ _ hD2 trivial (fun _ z => nomatch z) h
      have pe5 : Per G μ1 H1 μ2 (upd H2 D (.frz od (.lst us))) :=
        ⟨pe2.ext, fun a xs h => stay a _ (ne_of_none h hD) (pe2.tup a xs h), fun a q u h => stay a _ (ne_of_none h hD) (pe2.frz a q u h), fun n a h => neC n a (pe2.clo n a h),
          fun a u h t k => ⟨stay a _ (ne_of_none h hD) (pe2.fr a u h t k).1, (pe2.fr a u h t k).2⟩⟩
      exact p μ2 _ _ pe5 ⟨rp2.len, rp2.nd, fun n o a h1 h2 => (rp2.at_ n o a h1 h2).heap (upd_ne (ne n a h2)) neF neT neC, tabs_mut rp2.tabs hD2 trivial (fun _ z => nomatch z)⟩ (.clist ⟨od, upd_same⟩ (da2.heap neT neF neC))
    cases m with
    | zero =>
      simp only [lcGoF] at p2
      split at p2
      · rename_i e
        exact .inl (stop e p2)
      · exact p2.elim
    | succ k =>
      simp only [lcGoF] at p2
      split at p2
      · rename_i d ed
        split at p2
        · rename_i ρ3 e3
          obtain ⟨go, yl⟩ := so3.2 d ed
          refine .inr ⟨go, fun H => ∃ μ S acc us, Rep G μ S H ∧ Per G μ1 H1 μ H ∧ EnvD G μ H (wipeD ρ vs) (wipe σ vs) ∧ SrcOk G μ H src J ∧ H D = some (.lst us) ∧ (∀ n : Nat, μ[n]? ≠ some D) ∧ DenA G μ H acc us ∧ Post (Den G) G W μ1 H1 σ (lcGoF src fg t e (wipeD ρ vs) k (i + 1) acc S) Q, fun H' q => ⟨k, Nat.lt_succ_self k, q⟩, fun x H' y => ?_⟩
          obtain ⟨pe', rp', dx⟩ := yl x H' y
          refine gt μ2 H' (wipeD ρ vs) (wipe σ vs) S2 d x ρ3 _ (en2.per pe') rp' dx e3 fun σ' en' hw => ⟨?_, ?_⟩
          · rw [hw]
            have : ∀ (l : List Nat) (τ : L2.St), wipe (wipe τ l) l = wipe τ l := by
              intro l
              have key : ∀ (l : List Nat) (τ : L2.St), (∀ j ∈ l, ∀ o, τ[j]? = some o → o = none) → wipe τ l = τ := by
                intro l
                induction l with
                | nil => intro τ _; rfl
                | cons v l ih =>
                  intro τ h
                  unfold wipe
                  rw [ih τ fun j hj => h j (by simp [hj])]
                  refine List.ext_getElem? fun j => ?_
                  by_cases hj : j = v
                  · subst hj
                    by_cases hl : j < τ.length
                    · rw [List.getElem?_set_self hl]
                      have := h j (by simp) τ[j] (by simp [hl])
                      simp [hl, this]
                    · rw [List.getElem?_eq_none (by simp; omega), List.getElem?_eq_none (by omega)]
                  · rw [List.getElem?_set_ne (Ne.symm hj)]
              intro τ
              refine key l _ fun j hj o ho => ?_
              cases o with
              | none => rfl
              | some x => exact absurd hj (wipe_some ho).2
            exact this vs σ
          · refine ⟨μ2, ρ3, S2, en', rp', (post_base p2).mono fun b H3 ⟨μ3, b', S3, pe3, rp3, eb, p3⟩ => ?_⟩
            have ek : b' = b := eb
            subst ek
            obtain ⟨hD', nD'⟩ := pe'.fr D _ hD2 (fun _ z => nomatch z) nD2
            obtain ⟨hD3, nD3⟩ := pe3.fr D _ hD' (fun _ z => nomatch z) nD'
            have pe13 := (pe2.trans pe').trans pe3
            cases b' with
            | false =>
              rw [if_neg Bool.false_ne_true]
              exact ⟨μ3, S3, acc, us, rp3, pe13, (en2.per pe').per pe3, (so2.per pe').per pe3, hD3, nD3, (da2.per pe').per pe3, p3⟩
            | true =>
              rw [if_pos rfl]
              refine ⟨μ3, ρ3, S3, en'.per pe3, rp3, (post_base p3).mono fun yv H4 ⟨μ4, yd, S4, pe4, rp4, dy, p4⟩ => ?_⟩
              obtain ⟨hl, p5⟩ := post_ite p4
              obtain ⟨hD4, nD4⟩ := pe4.fr D _ hD3 (fun _ z => nomatch z) nD3
              have da4 := ((da2.per pe').per pe3).per pe4
              refine ⟨us, hD4, by rw [sl_eq, ← da2.length]; exact hl, ?_⟩
              have pw : Per G μ4 H4 μ4 (upd H4 D (.lst (us ++ [yv]))) → True := fun _ => trivial
              have ne : ∀ (n : Nat) (a : Addr), μ4[n]? = some a → a ≠ D := fun n a h z => nD4 n (by rw [h, z])
              have stay : ∀ (b : Addr) (u : HO), b ≠ D → H4 b = some u → (upd H4 D (.lst (us ++ [yv]))) b = some u := fun b u hb h => by rw [upd_ne hb]; exact h
              -- the list itself grows: nothing else is touched
              have pe5 : ∀ {μ0 H0}, Per G μ0 H0 μ4 H4 → H0 D = none → Per G μ0 H0 μ4 (upd H4 D (.lst (us ++ [yv]))) := fun {μ0 H0} p h0 =>
                ⟨p.ext, fun a xs h => stay a _ (ne_of_none h h0) (p.tup a xs h), fun a q u h => stay a _ (ne_of_none h h0) (p.frz a q u h), fun n a h => ok.clo_mut n a H4 D _ _ hD4 trivial (fun _ z => nomatch z) (p.clo n a h),
                  fun a u h t k => ⟨stay a _ (ne_of_none h h0) (p.fr a u h t k).1, (p.fr a u h t k).2⟩⟩
              -- what was told at μ4, H4 stands
              have up5 : ∀ {d : Dx.D} {v : V}, Den G μ4 H4 d v → Den G μ4 (upd H4 D (.lst (us ++ [yv]))) d v := fun h => h.heap (fun a xs h => stay a _ (fun z => by rw [z, hD4] at h; cases h) h) (fun a q u h => stay a _ (fun z => by rw [z, hD4] at h; cases h) h) fun n a h => ok.clo_mut n a H4 D _ _ hD4 trivial (fun _ z => nomatch z) h
              have up5A : ∀ {ds : List Dx.D} {vs : List V}, DenA G μ4 H4 ds vs → DenA G μ4 (upd H4 D (.lst (us ++ [yv]))) ds vs := fun h => h.heap (fun a xs h => stay a _ (fun z => by rw [z, hD4] at h; cases h) h) (fun a q u h => stay a _ (fun z => by rw [z, hD4] at h; cases h) h) fun n a h => ok.clo_mut n a H4 D _ _ hD4 trivial (fun _ z => nomatch z) h
              have rp5 : Rep G μ4 S4 (upd H4 D (.lst (us ++ [yv]))) := ⟨rp4.len, rp4.nd, fun n o a h1 h2 => (rp4.at_ n o a h1 h2).heap (upd_ne (ne n a h2)) (fun a q u h => stay a _ (fun z => by rw [z, hD4] at h; cases h) h) (fun a xs h => stay a _ (fun z => by rw [z, hD4] at h; cases h) h) fun n a h => ok.clo_mut n a H4 D _ _ hD4 trivial (fun _ z => nomatch z) h, tabs_mut rp4.tabs hD4 trivial (fun _ z => nomatch z)⟩
              have so5 : SrcOk G μ4 (upd H4 D (.lst (us ++ [yv]))) src J := so.per (pe5 (pe13.trans pe4) hD)
              exact ⟨μ4, S4, acc ++ [yd], us ++ [yv], rp5, pe5 (pe13.trans pe4) hD, ⟨((en2.per pe').per pe3).len, fun j d h => let ⟨v, h1, h2⟩ := (((en2.per pe').per pe3).per pe4).at_ j d h; ⟨v, h1, up5 h2⟩⟩, so5, upd_same, nD4, up5A (da4.snoc dy), p5⟩
        · exact p2.elim
      · rename_i e
        exact .inl (stop e p2)
      · exact p2.elim

theorem de_lcF {elt tg iter : Expr} {ifs : List Expr} {scope : Scope} {own : List (Str × Nat)} {pos : Pos} {fs : FI} {fg : FG} {t : FT} {e : FE} (hc : X.calm = true) (hN : X.N.Nodup) (A : Amb G X W) (hi : DI X G W tg iter fs) (ok : BlkOk X.N X.env.scope scope own)
    (gt : ∀ (s : Shared) (H : Hp) (C : Addr) (cl : List (Str × Addr)) (fp : List Addr), DG (X.blk s H scope (compEnvC scope cl C X.env) fp) G (own.map (·.2)) tg fg)
    (ht : ∀ (s : Shared) (H : Hp) (C : Addr) (cl : List (Str × Addr)) (fp : List Addr), PTs (X.blk s H scope (compEnvC scope cl C X.env) fp) ifs (TDT G W0 t))
    (he : ∀ (s : Shared) (H : Hp) (C : Addr) (cl : List (Str × Addr)) (fp : List Addr), PE (X.blk s H scope (compEnvC scope cl C X.env) fp) elt (TD G W0 e)) (hs : ∀ x, foldedSetIterable iter X.env x = pure x := by intro _; rfl) :
    PE X (.ListComp elt [⟨tg, iter, ifs, 0⟩] scope pos) (TD G W (xLcF (own.map (·.2)) fs fg t e)) := by
  obtain ⟨wi, pi, wi'⟩ := hi
  have key : ∃ tgr : TG, (∀ (s : Shared) (H : Hp) (C : Addr) (cl : List (Str × Addr)) (fp : List Addr), PG (X.blk s H scope (compEnvC scope cl C X.env) fp) tg tgr) ∧ GT G (own.map (·.2)) fg tgr := by
    refine ⟨fun v σ H Q => ∃ μ ρ S d ρ', EnvD G μ H ρ σ ∧ Rep G μ S H ∧ Den G μ H d v ∧ fg d ρ = some ρ' ∧ ∀ σ', EnvD G μ H ρ' σ' → wipe σ' (own.map (·.2)) = wipe σ (own.map (·.2)) → Q σ' H, fun s H C cl fp => ?_, fun μ H ρ σ S d v ρ' Q en rp dd e1 k => ⟨μ, ρ, S, d, ρ', en, rp, dd, e1, k⟩⟩
    obtain ⟨t0, p0, g0⟩ := gt s H C cl fp
    exact ⟨fun pins s σ H v u Q I r ⟨μ, ρ, S, d, ρ', en, rp, dd, e1, k⟩ => p0.run pins s σ H v u Q I r (g0 μ H ρ σ S d v ρ' Q en rp dd e1 k)⟩
  obtain ⟨tgr, pg, gt'⟩ := key
  exact PE.imp (pe_frz (pe_lc hc hN pi ok pg ht he hs)) fun σ H Q q => lc_readF (fun _ _ h => h) A.ok wi' gt' q
/-- y = [.. for ..] on one line, y a local -/
theorem ds_setLcF {i : Nat} {y : Str} {py : Pos} {elt tg iter : Expr} {ifs : List Expr} {scope : Scope} {own : List (Str × Nat)} {pos spos : Pos} {fs : FI} {fg : FG} {t : FT} {e : FE} (hc : X.calm = true) (hN : X.N.Nodup) (A : Amb G X W)
    (hsw : swapsWith (.ListComp elt [⟨tg, iter, ifs, 0⟩] scope pos) (some (.Name y py)) spos.line X.env = pure true) (hi : DI X G W tg iter fs) (ok : BlkOk X.N X.env.scope scope own)
    (gt : ∀ (s : Shared) (H : Hp) (C : Addr) (cl : List (Str × Addr)) (fp : List Addr), DG (X.blk s H scope (compEnvC scope cl C X.env) fp) G (own.map (·.2)) tg fg)
    (ht : ∀ (s : Shared) (H : Hp) (C : Addr) (cl : List (Str × Addr)) (fp : List Addr), PTs (X.blk s H scope (compEnvC scope cl C X.env) fp) ifs (TDT G W0 t))
    (he : ∀ (s : Shared) (H : Hp) (C : Addr) (cl : List (Str × Addr)) (fp : List Addr), PE (X.blk s H scope (compEnvC scope cl C X.env) fp) elt (TD G W0 e)) (hs : ∀ x, foldedSetIterable iter X.env x = pure x := by intro _; rfl)
    (hy : X.N[i]? = some y := by rfl) (hyl : X.env.scope.names.lookup y = some .local := by rfl) :
    PS X (.Assign [.Name y py] (.ListComp elt [⟨tg, iter, ifs, 0⟩] scope pos) spos) (TDS G W (sSet i (xLcF (own.map (·.2)) fs fg t e))) := by
  obtain ⟨wi, pi, wi'⟩ := hi
  have key : ∃ tgr : TG, (∀ (s : Shared) (H : Hp) (C : Addr) (cl : List (Str × Addr)) (fp : List Addr), PG (X.blk s H scope (compEnvC scope cl C X.env) fp) tg tgr) ∧ GT G (own.map (·.2)) fg tgr := by
    refine ⟨fun v σ H Q => ∃ μ ρ S d ρ', EnvD G μ H ρ σ ∧ Rep G μ S H ∧ Den G μ H d v ∧ fg d ρ = some ρ' ∧ ∀ σ', EnvD G μ H ρ' σ' → wipe σ' (own.map (·.2)) = wipe σ (own.map (·.2)) → Q σ' H, fun s H C cl fp => ?_, fun μ H ρ σ S d v ρ' Q en rp dd e1 k => ⟨μ, ρ, S, d, ρ', en, rp, dd, e1, k⟩⟩
    obtain ⟨t0, p0, g0⟩ := gt s H C cl fp
    exact ⟨fun pins s σ H v u Q I r ⟨μ, ρ, S, d, ρ', en, rp, dd, e1, k⟩ => p0.run pins s σ H v u Q I r (g0 μ H ρ σ S d v ρ' Q en rp dd e1 k)⟩
  obtain ⟨tgr, pg, gt'⟩ := key
  refine PS.imp (ps_frz (ps_setLc hc hN hy hyl hsw pi ok pg ht he hs)) fun Z σ H ⟨μ, ρ, S, en, rp, po⟩ => ?_
  exact lc_readF (Q := fun v H' => Z.nx (σ.set i (some v)) H') (fun v H' q => q.imp id fun ⟨a, u, _, h1, h2, h3⟩ => ⟨a, u, h1, h2, h3⟩) A.ok wi' gt' ⟨μ, ρ, S, en, rp, (posts_go en po).mono fun v H1 ⟨μ1, d, S1, pe, rp1, dd, p1⟩ => PostS.now p1 rp1 ((en.per pe).set dd)⟩

end Dx

/-! Dx21: what a call has laid and nobody keeps is forgotten; dict displays that are used at once. -/
namespace Dx
open PySem PySem.Spec L2
variable {G : Gx} {X : Cx} {W : WX}
mutual
def bel (n : Nat) : D → Bool
  | .ref m => decide (m < n)
  | .tup xs => belA n xs
  | .ktup xs => belA n xs
  | .clist xs => belA n xs
  | .cdict _ xs => belA n xs
  | .non => true
  | .bl _ => true
  | .int _ => true
  | .str _ => true
  | .slist _ => true
  | .clo _ => true
  | .exv _ _ _ xs => belA n xs
def belA (n : Nat) : List D → Bool
  | [] => true
  | x :: xs => bel n x && belA n xs
end
def belO (n : Nat) : O → Bool
  | .lst xs => belA n xs
  | .dct kvs => belA n (kvs.map (·.2))
  | .dtt kvs => belA n (kvs.map (·.2))
  | .obj _ fs => belA n (fs.map (·.2))
section
variable {μ μ' : List Addr} {H H' : Hp}
mutual
theorem Den.bel : ∀ {d : D} {v : V}, Den G μ H d v → bel μ.length d = true
  | _, _, .non => by simp [Dx.bel]
  | _, _, .bl b => by simp [Dx.bel]
  | _, _, .int i => by simp [Dx.bel]
  | _, _, .str s => by simp [Dx.bel]
  | _, _, .tup h1 h2 => by simp only [Dx.bel]; exact DenA.bel h2
  | _, _, .ktup h1 h2 => by simp only [Dx.bel]; exact DenA.bel h2
  | _, _, .ref h => by simp only [Dx.bel]; exact decide_eq_true (List.getElem?_eq_some_iff.mp h).1
  | _, _, .clist h1 h2 => by simp only [Dx.bel]; exact DenA.bel h2
  | _, _, .slist h1 => by simp [Dx.bel]
  | _, _, .cdict h0 h1 h2 => by simp only [Dx.bel]; exact DenA.bel h2
  | _, _, .clo h => by simp [Dx.bel]
  | _, _, .exv0 => by simp [Dx.bel, belA]
  | _, _, .exv h1 h2 => by simp only [Dx.bel]; exact DenA.bel h2
theorem DenA.bel : ∀ {ds : List D} {vs : List V}, DenA G μ H ds vs → belA μ.length ds = true
  | _, _, .nil => by simp [belA]
  | _, _, .cons h t => by simp [belA, Den.bel h, DenA.bel t]
end
mutual
theorem Den.cut {n : Nat} : ∀ {d : D} {v : V}, Den G μ H d v → Dx.bel n d = true → Den G (μ.take n) H d v
  | _, _, .non, _ => .non
  | _, _, .bl b, _ => .bl b
  | _, _, .int i, _ => .int i
  | _, _, .str s, _ => .str s
  | _, _, .tup h1 h2, e => .tup h1 (DenA.cutN h2 (by simpa only [Dx.bel] using e))
  | _, _, .ktup h1 h2, e => .ktup h1 (DenA.cutN h2 (by simpa only [Dx.bel] using e))
  | _, _, .ref h, e => .ref (by rw [List.getElem?_take_of_lt (by simpa only [Dx.bel, decide_eq_true_eq] using e)]; exact h)
  | _, _, .clist h1 h2, e => .clist h1 (DenA.cutN h2 (by simpa only [Dx.bel] using e))
  | _, _, .slist h1, _ => .slist h1
  | _, _, .cdict h0 h1 h2, e => .cdict h0 h1 (DenA.cutN h2 (by simpa only [Dx.bel] using e))
  | _, _, .clo h, _ => .clo h
  | _, _, .exv0, _ => .exv0
  | _, _, .exv h1 h2, e => .exv h1 (DenA.cutN h2 (by simpa only [Dx.bel] using e))
theorem DenA.cutN {n : Nat} : ∀ {ds : List D} {vs : List V}, DenA G μ H ds vs → belA n ds = true → DenA G (μ.take n) H ds vs
  | _, _, .nil, _ => .nil
  | _, _, .cons h t, e => by
    simp only [belA, Bool.and_eq_true] at e
    exact .cons (Den.cut h e.1) (DenA.cutN t e.2)
end
theorem RepO.bel {a : Addr} : ∀ {o : O}, RepO G μ H a o → belO μ.length o = true
  | .lst _, ⟨vs, h, d⟩ => d.bel
  | .dct _, ⟨gs, h, d⟩ => d.2.bel
  | .dtt _, ⟨gs, h, d⟩ => d.2.bel
  | .obj _ _, ⟨dx, gs, h, d⟩ => d.2.bel
theorem RepO.cut {a : Addr} {n : Nat} : ∀ {o : O}, RepO G μ H a o → belO n o = true → RepO G (μ.take n) H a o
  | .lst _, ⟨vs, h, d⟩, e => ⟨vs, h, d.cutN e⟩
  | .dct _, ⟨gs, h, d⟩, e => ⟨gs, h, d.1, d.2.cutN e⟩
  | .dtt _, ⟨gs, h, d⟩, e => ⟨gs, h, d.1, d.2.cutN e⟩
  | .obj _ _, ⟨dx, gs, h, d⟩, e => ⟨dx, gs, h, d.1, d.2.cutN e⟩
end
/-- the older objects are what they were, or tell of older ones alone -/
def Keeps (S S1 : Sg) : Prop := ∀ (i : Nat) (o : O), S[i]? = some o → ∃ o', S1[i]? = some o' ∧ (o' = o ∨ belO S.length o' = true)
def frzN (n : Nat) (S1 : Sg) : D → R D
  | .ref k => match S1[k]? with
    | some (.lst xs) => if n ≤ k ∧ belA n xs = true then .ok (.clist xs) (S1.take n) else .stuck
    | _ => .stuck
  | _ => .stuck
open Classical in
noncomputable def gcR (S : Sg) : R D → R D
  | .ok d S1 => if S1.length = S.length then .ok d S1 else if Keeps S S1 then (if bel S.length d = true then .ok d (S1.take S.length) else frzN S.length S1 d) else .stuck
  | .exc c fs S1 => if S1.length = S.length then .exc c fs S1 else if Keeps S S1 ∧ belA S.length (fs.map (·.2)) = true then .exc c fs (S1.take S.length) else .stuck
  | .stuck => .stuck
noncomputable def gcF (F : FF) : FF := fun ds S => gcR S (F ds S)
section
variable {μ μ' : List Addr} {H H' : Hp} {S S1 : Sg} {σ : L2.St}
theorem per_cut (rp : Rep G μ S H) (pe : Per G μ H μ' H') : Per G μ H (μ'.take S.length) H' :=
  ⟨fun n a h => by rw [List.getElem?_take_of_lt (by rw [← rp.len]; exact (List.getElem?_eq_some_iff.mp h).1)]; exact pe.ext n a h, pe.tup, pe.frz, pe.clo, fun a u h t k => ⟨(pe.fr a u h t k).1, fun n z => by
    by_cases hn : n < S.length
    · rw [List.getElem?_take_of_lt hn] at z; exact (pe.fr a u h t k).2 n z
    · rw [List.getElem?_eq_none (by simp; omega)] at z; cases z⟩⟩
theorem rep_cut (rp : Rep G μ S H) (rp' : Rep G μ' S1 H') (k : Keeps S S1) (hl : S.length ≤ S1.length) : Rep G (μ'.take S.length) (S1.take S.length) H' := by
  have lt : ∀ {n : Nat} {α : Type} {l : List α} {x : α}, (l.take S.length)[n]? = some x → n < S.length ∧ l[n]? = some x := fun {n α l x} h => by
    by_cases hn : n < S.length
    · rw [List.getElem?_take_of_lt hn] at h; exact ⟨hn, h⟩
    · rw [List.getElem?_eq_none (by simp; omega)] at h; cases h
  refine ⟨by simp [rp'.len], fun i j a h1 h2 => rp'.nd i j a (lt h1).2 (lt h2).2, fun n o a h1 h2 => ?_, rp'.tabs⟩
  obtain ⟨hn, e1⟩ := lt h1
  obtain ⟨_, e2⟩ := lt h2
  have ro := rp'.at_ n o a e1 e2
  obtain ⟨o', e3, e4⟩ := k n S[n] (by simp [hn])
  rw [e1] at e3
  cases e3
  refine ro.cut ?_
  rcases e4 with e4 | e4
  · subst e4
    obtain ⟨b, _, rb⟩ := rp.addr (show S[n]? = some S[n] by simp [hn])
    have := rb.bel
    rw [rp.len] at this
    exact this
  · exact e4
theorem keeps_len (k : Keeps S S1) : S.length ≤ S1.length := by
  by_cases h : S.length = 0
  · omega
  · obtain ⟨o, e, _⟩ := k (S.length - 1) S[S.length - 1] (by simp)
    have := (List.getElem?_eq_some_iff.mp e).1
    omega
theorem gc_post {r : R D} {Q : VK} (rp : Rep G μ S H) (ok : G.Ok) (h : Post (Den G) G W μ H σ (gcR S r) Q) : Post (Den G) G W μ H σ r (FQ Q) := by
  cases r with
  | stuck => exact h
  | ok d S1 =>
    simp only [gcR] at h
    split at h
    · exact post_fq (r := .ok d S1) h
    · obtain ⟨k, h⟩ : Keeps S S1 ∧ Post (Den G) G W μ H σ (if bel S.length d = true then .ok d (S1.take S.length) else frzN S.length S1 d) Q := by
        by_cases hc : Keeps S S1
        · rw [if_pos hc] at h; exact ⟨hc, h⟩
        · rw [if_neg hc] at h; exact h.elim
      intro μ' H' b pe rp' db
      have pe2 := per_cut rp pe
      have rp2 := rep_cut rp rp' k (keeps_len k)
      split at h
      · rename_i hb
        exact .inl (h _ _ _ pe2 rp2 (db.cut hb))
      · unfold frzN at h
        split at h
        · rename_i m _ _
          split at h
          · rename_i xs e
            obtain ⟨⟨hk, hx⟩, h⟩ := post_ite h
            cases db with
            | @ref _ a hm =>
              obtain ⟨vs, h1, h2⟩ := rp'.obj hm e
              refine .inr ⟨a, .lst vs, rfl, h1, trivial, fun od => ?_⟩
              have nD : ∀ n : Nat, (μ'.take S.length)[n]? ≠ some a := fun n z => by
                by_cases hn : n < S.length
                · rw [List.getElem?_take_of_lt hn] at z
                  have := rp'.nd n m a z hm
                  omega
                · rw [List.getElem?_eq_none (by simp; omega)] at z; cases z
              have stay : ∀ (b : Addr) (u : HO), b ≠ a → H' b = some u → (upd H' a (.frz od (.lst vs))) b = some u := fun b u hb h => by rw [upd_ne hb]; exact h
              have neT : ∀ (b : Addr) (xs : List V), H' b = some (.tup xs) → (upd H' a (.frz od (.lst vs))) b = some (.tup xs) := fun b xs h => stay b _ (fun z => by rw [z, h1] at h; cases h) h
              have neF : ∀ (b : Addr) (q : Obj) (u : HO), H' b = some (.frz q u) → (upd H' a (.frz od (.lst vs))) b = some (.frz q u) := fun b q u h => stay b _ (fun z => by rw [z, h1] at h; cases h) h
              have neC : ∀ (n : Ci) (b : Addr), G.clo n b H' → G.clo n b (upd H' a (.frz od (.lst vs))) := fun n b h => ok.clo_mut n b H' a _ _ h1 trivial (fun _ z => nomatch z) h
              refine h (μ'.take S.length) _ _ ⟨pe2.ext, fun b xs h => neT b xs (pe2.tup b xs h), fun b q u h => neF b q u (pe2.frz b q u h), fun n b h => neC n b (pe2.clo n b h), fun b u h t k => ?_⟩ ⟨rp2.len, rp2.nd, fun n o b e1 e2 => (rp2.at_ n o b e1 e2).heap (upd_ne (fun z => nD n (by rw [e2, z]))) neF neT neC, tabs_mut rp2.tabs h1 trivial (fun _ z => nomatch z)⟩ (.clist ⟨od, upd_same⟩ ((h2.cutN hx).heap neT neF neC))
              obtain ⟨f1, f2⟩ := pe.fr b u h t k
              exact ⟨stay b u (fun z => f2 m (by rw [z]; exact hm)) f1, (pe2.fr b u h t k).2⟩
          · exact h.elim
        · exact h.elim
  | exc c fs S1 =>
    simp only [gcR] at h
    split at h
    · exact h
    · obtain ⟨⟨k, hb⟩, h⟩ : (Keeps S S1 ∧ belA S.length (fs.map (·.2)) = true) ∧ Post (Den G) G W μ H σ (.exc c fs (S1.take S.length)) Q := by
        by_cases hc : Keeps S S1 ∧ belA S.length (fs.map (·.2)) = true
        · rw [if_pos hc] at h; exact ⟨hc, h⟩
        · rw [if_neg hc] at h; exact h.elim
      intro μ' H' cls dd pe rp' ed
      refine h _ _ _ _ (per_cut rp pe) (rep_cut rp rp' k (keeps_len k)) ⟨ed.1, ed.2.imp id fun ⟨n, d, gs, e1, e2, e3⟩ => ⟨n, d, gs, e1, e2, e3.1, e3.2.cutN hb⟩⟩
end
theorem de_callG {x : Str} {p pos : Pos} {e : Expr} {es : List Expr} {g : FA} {F : FF} {k j n : Nat} (A : Amb G X W) (d : DefD X.prog X.w X.K X.mg X.base G j x n F) (hr : Room k X.A) (hk : j ≤ k) (ha : PA X (e :: es) (TDA G W g)) (hg : Gl X x := by rfl)
    (hdb : (x == ("__debug__" : Str)) = false := by decide) (he : starEach (e :: es) X.env = (false, eval e X.env) :: starEach es X.env := by rfl) (hpl : (backTo pos (starEach es X.env)).any (·.1) = false := by rfl) :
    PE X (.Call (.Name x p) (e :: es) [] pos) (TD G W (xCall (gcF F) n g)) := by
  obtain ⟨f, fd, ps, Fo, hm, hkp, hb⟩ := d.ex
  refine PE.imp (pe_frz (pe_callS Fo (hr.mono hk) hg hm hkp hb (fun σ => passAt A.tk σ) ha hdb he hpl)) fun σ H Q ⟨μ, ρ, S, en, rp, po⟩ => ⟨μ, ρ, S, en, rp, (post_bind po).mono fun vs H1 ⟨μ1, ds, S1, pe, rp1, dd, p1⟩ => ?_⟩
  obtain ⟨c, p2⟩ := post_ite p1
  refine ⟨by rw [← dd.length]; exact c, μ1, S1, ds, rp1, dd, ?_⟩
  have p3 := gc_post rp1 A.ok p2
  revert p3
  generalize F ds S1 = r
  intro p3
  cases r with
  | ok a S' => exact p3
  | exc c fs S' => exact p3
  | stuck => exact p3
theorem meth_readG {c n : Nat} {m : String} {F : FF} {f : FE} {g : FA} {σ : L2.St} {H : Hp} {Q : VK} (ok : G.Ok) (q : TD G W (xMeth c m n (gcF F) f g) σ H Q) : tMethS' (G.cls c) (Str.ofString m) (spD G (n + 1) F) (WE W) (TD G W f) (TDA G W g) σ H (FQ Q) := by
  obtain ⟨μ, ρ, S, en, rp, po⟩ := q
  refine ⟨μ, ρ, S, en, rp, (post_bind po).mono fun x H1 ⟨μ1, o, S1, pe, rp1, dd, p1⟩ => ?_⟩
  obtain ⟨c1, p2⟩ := post_ite p1
  obtain ⟨a, dx, fs, rfl, h1, h2⟩ := ins_den rp1 dd c1
  refine ⟨a, dx, fs, rfl, h1, h2, μ1, ρ, S1, en.per pe, rp1, (post_bind p2).mono fun vs H2 ⟨μ2, ds, S2, pe2, rp2, dv, p3⟩ => ?_⟩
  obtain ⟨c2, p4⟩ := post_ite p3
  refine ⟨by show vs.length + 1 = n + 1; rw [← dv.length, c2], μ2, S2, o :: ds, rp2, .cons (dd.per pe2) dv, ?_⟩
  have p5 := gc_post rp2 ok p4
  revert p5
  generalize F (o :: ds) S2 = r
  intro p5
  cases r with
  | ok a S' => exact p5
  | exc c fs S' => exact p5
  | stuck => exact p5
theorem de_methG {m : String} {pos apos : Pos} {o e : Expr} {es : List Expr} {f : FE} {g : FA} {F : FF} {k j n c : Nat} (A : Amb G X W) (cl : Cls X.K (G.cls c)) (d : MetD X.prog X.w X.K X.mg X.base G j c (Str.ofString m) n F) (hr : Room k X.A) (hk : j ≤ k) (ho : PE X o (TD G W f)) (ha : PA X (e :: es) (TDA G W g)) (pl : Sem Bool)
    (hst : starEach (e :: es) X.env = (false, eval e X.env) :: starEach es X.env := by rfl) (hpl : (backTo pos (starEach es X.env)).any (·.1) = false := by rfl)
    (ht : eval (.Call (.Attribute o (Str.ofString m) apos) (e :: es) [] pos) X.env = (do
      let ov ← eval o X.env
      standAt apos.atName
      let (f, first) ← holding [ov] (getMethod ov (Str.ofString m) pl)
      callWith pos f first (backTo pos (starEach (e :: es) X.env)) (backToKw pos (keywordEach [] X.env))) := by rfl) :
    PE X (.Call (.Attribute o (Str.ofString m) apos) (e :: es) [] pos) (TD G W (xMeth c m n (gcF F) f g)) := by
  obtain ⟨fa, fd, ps, Fo, hm, hb⟩ := d.ex
  exact PE.imp (pe_frz (pe_methS' (pl := pl) ho cl hm Fo (hr.mono hk) hb (fun σ => passAt A.tk σ) ha hst hpl ht)) fun σ H Q q => meth_readG A.ok q
theorem de_methG0 {m : String} {pos apos : Pos} {o : Expr} {f : FE} {F : FF} {k j c : Nat} (A : Amb G X W) (cl : Cls X.K (G.cls c)) (d : MetD X.prog X.w X.K X.mg X.base G j c (Str.ofString m) 0 F) (hr : Room k X.A) (hk : j ≤ k) (ho : PE X o (TD G W f)) (pl : Sem Bool)
    (ht : eval (.Call (.Attribute o (Str.ofString m) apos) [] [] pos) X.env = (do
      let ov ← eval o X.env
      standAt apos.atName
      let (f, first) ← holding [ov] (getMethod ov (Str.ofString m) pl)
      callWith pos f first (backTo pos (starEach [] X.env)) (backToKw pos (keywordEach [] X.env))) := by rfl) :
    PE X (.Call (.Attribute o (Str.ofString m) apos) [] [] pos) (TD G W (xMeth c m 0 (gcF F) f aNil)) := by
  obtain ⟨fa, fd, ps, Fo, hm, hb⟩ := d.ex
  refine PE.imp (pe_frz (pe_methS0 (pl := pl) ho cl hm Fo (hr.mono hk) hb (fun σ => passAt A.tk σ) ht)) fun σ H Q q => ?_
  obtain ⟨μ, ρ, S, en, rp, po⟩ := meth_readG A.ok q
  exact ⟨μ, ρ, S, en, rp, po.mono fun x H1 ⟨a, dx, fs, e1, e2, e3, q2⟩ => ⟨a, dx, fs, e1, e2, e3, by
    obtain ⟨μ2, ρ2, S2, en2, rp2, p2⟩ := q2
    exact p2 _ _ _ .refl rp2 .nil⟩⟩
/-! ### {..}[k], {..}.get(k, x) -/
def DcR (G : Gx) : Rel (List (Key × D)) V := fun μ H ps v => ∃ p gs, v = .ref p ∧ (∀ n : Nat, μ[n]? ≠ some p) ∧ H p = some (.dK gs) ∧ DenK G μ H (mergeD ps) gs
theorem de_dctR {keys : List (Option Expr)} {values : List Expr} {pos : Pos} {fs : List (Key × FE)} (A : Amb G X W) (h : DPs X G W pos keys values fs) (h0 : keys ≠ [] := by intro z; cases z) (h15 : keys.length ≤ 15 := by decide) : PE X (.Dict keys values pos) (TDg (DcR G) G W (dpGo fs)) := by
  obtain ⟨pp, ha, hl, hf⟩ := h
  refine PE.imp (pe_disp pp ha hl h0 h15) fun σ H Q ⟨μ, ρ, S, en, rp, po⟩ => fun p hp => ?_
  have pn : Per G μ H μ (upd H p (.dK [])) := per_new A.ok hp
  have np : ∀ n : Nat, μ[n]? ≠ some p := fun n z => by
    obtain ⟨o, eo, ro⟩ := rp.there z
    obtain ⟨w, e, _⟩ := ro.some
    rw [hp] at e; cases e
  refine dp_read (D0 := p) (u := .dK []) (μ0 := μ) (H0 := H) (Q := Q) (fun _ z => nomatch z) fs [] [] _ (rp.new A.ok hp) (en.per pn) upd_same np ?_ fun μ' H' S' ps qs pe rp' dk e => ?_
  · have := Post.per po pn
    revert this
    generalize dpGo fs ρ S = r2
    intro this
    cases r2 with
    | ok ps S2 => exact fun _ _ _ _ _ _ => trivial
    | exc c gs S' => exact this
    | stuck => exact this
  · obtain ⟨hp', np'⟩ := pe.fr p _ upd_same (fun _ z => nomatch z) np
    refine ⟨hp', qs, rfl, ?_, ?_⟩
    · have l1 : ∀ (fs : List (Key × FE)) (S : Sg) (ps : List (Key × D)) (S' : Sg), dpGo fs ρ S = .ok ps S' → ps.length = fs.length := by
        intro fs
        induction fs with
        | nil => intro S ps S' e; cases e; rfl
        | cons q fs ih =>
          intro S ps S' e
          obtain ⟨key, f⟩ := q
          unfold dpGo at e
          cases hr : f ρ S with
          | ok d S1 =>
            rw [hr] at e
            simp only [R.bind] at e
            cases hr2 : dpGo fs ρ S1 with
            | ok ps2 S2 => rw [hr2] at e; cases e; simp [ih S1 ps2 _ hr2]
            | exc c gs S' => rw [hr2] at e; cases e
            | stuck => rw [hr2] at e; cases e
          | exc c gs S' => rw [hr] at e; cases e
          | stuck => rw [hr] at e; cases e
      have := l1 fs S ps S' e
      have := dk.length
      omega
    · rw [e] at po
      have pw : Per G μ H μ' H' := pn.trans pe
      have dk2 := denK_merge dk (fs := []) (gs := []) ⟨rfl, .nil⟩
      have ne : ∀ (n : Nat) (a : Addr), μ'[n]? = some a → a ≠ p := fun n a h z => np' n (by rw [h, z])
      have stay : ∀ (b : Addr) (u : HO), b ≠ p → H' b = some u → (upd H' p (.dK (mergeK [] qs))) b = some u := fun b u hb h => by rw [upd_ne hb]; exact h
      have up5A : ∀ {ds : List Dx.D} {vs : List V}, DenA G μ' H' ds vs → DenA G μ' (upd H' p (.dK (mergeK [] qs))) ds vs := fun h => h.heap (fun a xs h => stay a _ (fun z => by rw [z, hp'] at h; cases h) h) (fun a q u h => stay a _ (fun z => by rw [z, hp'] at h; cases h) h) fun n a h => A.ok.clo_mut n a H' p _ _ hp' trivial (fun _ z => nomatch z) h
      have rp5 : Rep G μ' S' (upd H' p (.dK (mergeK [] qs))) := ⟨rp'.len, rp'.nd, fun n o a h1 h2 => (rp'.at_ n o a h1 h2).heap (upd_ne (ne n a h2)) (fun a q u h => stay a _ (fun z => by rw [z, hp'] at h; cases h) h) (fun a xs h => stay a _ (fun z => by rw [z, hp'] at h; cases h) h) fun n a h => A.ok.clo_mut n a H' p _ _ hp' trivial (fun _ z => nomatch z) h, tabs_mut rp'.tabs hp' trivial (fun _ z => nomatch z)⟩
      have pe5 : Per G μ H μ' (upd H' p (.dK (mergeK [] qs))) :=
        ⟨pw.ext, fun a xs h => stay a _ (ne_of_none h hp) (pw.tup a xs h), fun a q u h => stay a _ (ne_of_none h hp) (pw.frz a q u h), fun n a h => A.ok.clo_mut n a H' p _ _ hp' trivial (fun _ z => nomatch z) (pw.clo n a h),
          fun a u h t k => ⟨stay a _ (ne_of_none h hp) (pw.fr a u h t k).1, (pw.fr a u h t k).2⟩⟩
      exact po μ' _ _ pe5 rp5 ⟨p, _, rfl, np', upd_same, dk2.1, up5A dk2.2⟩
def xDcIx (fs : List (Key × FE)) (g : FE) : FE := fun ρ S => (dpGo fs ρ S).bind fun ps S1 => (g ρ S1).bind fun k S2 => outD S2 ((keyD k).bind (getK (mergeD ps)))
theorem de_dcIx {keys : List (Option Expr)} {values : List Expr} {b : Expr} {pos pos2 : Pos} {fs : List (Key × FE)} {g : FE} (A : Amb G X W) (h : DPs X G W pos keys values fs) (hb : PE X b (TD G W g)) (h0 : keys ≠ [] := by intro z; cases z) (h15 : keys.length ≤ 15 := by decide) (hs : PlainIx b := by exact fun _ _ => rfl) :
    PE X (.Subscript (.Dict keys values pos) b pos2) (TD G W (xDcIx fs g)) := by
  have hix : IxR X (rIxAll G.K G.w) := by have := ix_all (X := X) (by have := A.hu; omega); rw [A.hK, A.hw] at this; exact this
  refine PE.imp (pe_ix hix (de_dctR A h h0 h15) hb hs) fun σ H Q ⟨μ, ρ, S, en, rp, po⟩ => ⟨μ, ρ, S, en, rp, (post_bind po).mono fun v H1 ⟨μ1, ps, S1, pe, rp1, dc, p1⟩ => ?_⟩
  refine ⟨μ1, ρ, S1, en.per pe, rp1, (post_bind p1).mono fun y H2 ⟨μ2, k, S2, pe2, rp2, dk, p2⟩ => ?_⟩
  obtain ⟨p, gs, rfl, np, hp, dK⟩ := dc
  obtain ⟨hp2, np2⟩ := pe2.fr p _ hp (fun _ z => nomatch z) np
  obtain ⟨r, e1, p3⟩ := post_out p2
  obtain ⟨kk, e2, e3⟩ := Option.bind_eq_some_iff.mp e1
  have ek := key_den dk e2
  subst ek
  rcases denK_get kk (dK.per pe2) with ⟨a1, _⟩ | ⟨x, y, a1, a2, a3⟩
  · rw [e3] at a1; cases a1
  · rw [e3] at a1; cases a1
    exact .inr (.inl ⟨p, y, rfl, by rw [← a2]; exact DGet.k hp2, post_ok rp2 p3 a3⟩)
def xDcGet (fs : List (Key × FE)) (g h : FE) : FE := fun ρ S => (dpGo fs ρ S).bind fun ps S1 => (g ρ S1).bind fun k S2 => (h ρ S2).bind fun x S3 => match keyD k with
  | some kk => .ok ((getK (mergeD ps) kk).getD x) S3
  | none => .stuck
theorem de_dcGet {keys : List (Option Expr)} {values : List Expr} {e f : Expr} {pos apos cpos : Pos} {fs : List (Key × FE)} {fe ff : FE} (A : Amb G X W) (h : DPs X G W pos keys values fs) (he : PE X e (TD G W fe)) (hf : PE X f (TD G W ff)) (h0 : keys ≠ [] := by intro z; cases z) (h15 : keys.length ≤ 15 := by decide)
    (m : M2 X (.Dict keys values pos) "get" apos e f cpos := by exact ⟨rfl, rfl, rfl, rfl⟩) : PE X (.Call (.Attribute (.Dict keys values pos) "get" apos) [e, f] [] cpos) (TD G W (xDcGet fs fe ff)) := by
  refine PE.imp (pe_dget2 (by have := A.hu; omega) (de_dctR A h h0 h15) he hf m) fun σ H Q ⟨μ, ρ, S, en, rp, po⟩ => ⟨μ, ρ, S, en, rp, (post_bind po).mono fun v H1 ⟨μ1, ps, S1, pe, rp1, dc, p1⟩ => ?_⟩
  obtain ⟨p, gs, rfl, np, hp, dK⟩ := dc
  refine ⟨p, rfl, .inl ⟨gs, .inl hp⟩, μ1, ρ, S1, en.per pe, rp1, (post_bind p1).mono fun kv H2 ⟨μ2, kd, S2, pe2, rp2, dk, p3⟩ => ?_⟩
  refine ⟨μ2, ρ, S2, (en.per pe).per pe2, rp2, (post_bind p3).mono fun xv H3 ⟨μ3, xd, S3, pe3, rp3, dx, p4⟩ => ?_⟩
  obtain ⟨hp2, np2⟩ := pe2.fr p _ hp (fun _ z => nomatch z) np
  obtain ⟨hp3, np3⟩ := pe3.fr p _ hp2 (fun _ z => nomatch z) np2
  split at p4
  · rename_i kk e2
    have ek := key_den dk e2
    subst ek
    refine ⟨_, DGet.k hp3, ?_⟩
    rcases denK_get kk ((dK.per pe2).per pe3) with ⟨a1, a2⟩ | ⟨x, y, a1, a2, a3⟩
    · rw [a1] at p4; rw [a2]; exact post_ok rp3 p4 dx
    · rw [a1] at p4; rw [a2]; exact post_ok rp3 p4 a3
  · exact p4.elim
end Dx

/-! Dx22: T.index(x), T a tuple of texts that is written at the top. -/
namespace Dx
open PySem PySem.Spec L2
variable {G : Gx} {X : Cx} {W : WX}
def strV (s : String) : V := .str (Str.ofString s)
structure TupG (K : PySem.W.Frag) (mg : Str → Option Value) (x : Str) (ss : List String) : Prop where
  ex : ∃ (a : Addr) (o : Obj) (its : Array Value) (n : Nat), mg x = some (.ref a) ∧ K.lookup a = some o ∧ o.cls = .type "tuple" ∧ o.dict = none ∧ o.data = .seq its n ∧ its.size ≤ sizeLine ∧ Vals (ss.map strV) its.toList
def KStrs (ss : List String) (us : List Value) : Prop := Vals (ss.map strV) us
theorem kstrs_nil : KStrs [] [] := .nil
theorem kstrs_cons {s : String} {ss : List String} {t : Tok} {us : List Value} (h : KStrs ss us) : KStrs (s :: ss) (.str (Str.ofString s) t :: us) := .cons ⟨t, rfl⟩ h
theorem tupG_of {K : PySem.W.Frag} {h : Heap} {mg : Str → Option Value} {x : Str} {ss : List String} {a : Addr} {o : Obj} {its : Array Value} {n : Nat} (KX : K.In h) (Gn : h.Ns mainGlobals mg) (e : PySem.W.nsIn K mainGlobals x = some (some (.ref a))) (l : K.lookup a = some o) (hc : o.cls = .type "tuple") (hn : o.dict = none) (hd : o.data = .seq its n) (k : KStrs ss its.toList) (hz : ss.length ≤ 1000000 := by decide) : TupG K mg x ss :=
  ⟨a, o, its, n, PySem.W.mg_of KX Gn e, l, hc, hn, hd, by
    rw [sl_eq, ← Array.length_toList, ← Vals.length k, List.length_map]
    exact Nat.le_trans hz (by decide), k⟩
def idxAt (S : Sg) : Option Nat → R D
  | some j => .ok (.int j) S
  | none => .stuck
def kIdxG (ss : List String) : D → Sg → R D
  | .str s, S => idxAt S (ss.findIdx? fun t => decide (t = s))
  | _, _ => .stuck
def xIdxG (ss : List String) (f : FE) : FE := fun ρ S => (f ρ S).bind (kIdxG ss)
@[simp] theorem xIdxG_at {ss : List String} {f : FE} {ρ : Ev} {S : Sg} : xIdxG ss f ρ S = (f ρ S).bind (kIdxG ss) := rfl
@[simp] theorem kIdxG_str {ss : List String} {s : String} {S : Sg} : kIdxG ss (.str s) S = idxAt S (ss.findIdx? fun t => decide (t = s)) := rfl
@[simp] theorem idxAt_some {j : Nat} {S : Sg} : idxAt S (some j) = .ok (.int j) S := rfl
theorem de_idxG {x : Str} {ss : List String} {e : Expr} {p apos cpos : Pos} {f : FE} (h : TupG X.K X.mg x ss) (he : PE X e (TD G W f)) (hg : Gl X x := by rfl) (hd : (x == ("__debug__" : Str)) = false := by decide)
    (hbase : attributeBase (.Name x p) "index" X.env (eval (.Name x p) X.env) = eval (.Name x p) X.env := by rfl)
    (hfew : ((backTo cpos (starEach [e] X.env)).all (fun x => !x.1) && (backToKw cpos (keywordEach [] X.env)).all (fun x => x.1.isSome) && decide (([e] : List Expr).length + ([] : List Keyword).length + (if ([] : List Keyword).isEmpty then 0 else 1) < 30)) = true := by rfl)
    (hline : (apos.endLine == cpos.line) = true := by rfl) (hs : starEach [e] X.env = (false, eval e X.env) :: starEach [] X.env := by rfl) (hplain : (backTo cpos (starEach [] X.env)).any (·.1) = false := by rfl) :
    PE X (.Call (.Attribute (.Name x p) "index" apos) [e] [] cpos) (TD G W (xIdxG ss f)) := by
  obtain ⟨a, o, its, n, hm, l, hc, hn, hdt, hz, hv⟩ := h.ex
  refine PE.imp (pe_bm PySem.F.plainAttrs_tuple PySem.F.slot_tuple_index PySem.F.type_tuple_index mt_tup_index (pe_glob hg hm (v := .ref a) rfl hd) (pa_cons he pa_nil hs) hbase hfew hline hs hplain) fun σ H Q ⟨μ, ρ, S, en, rp, po⟩ => ?_
  refine ⟨.inr (.inl ⟨rfl, o, l, hc, hn⟩), ⟨μ, ρ, S, en, rp, (post_bind po).mono fun v H1 ⟨μ1, d, S1, pe, rp1, dd, p1⟩ => ?_⟩⟩
  cases dd with
  | str s =>
    simp only [kIdxG_str] at p1
    cases hj : ss.findIdx? fun t => decide (t = s) with
    | none => rw [hj] at p1; exact p1.elim
    | some j =>
      rw [hj] at p1
      obtain ⟨hl, g1, g2⟩ := List.findIdx?_eq_some_iff_getElem.mp hj
      refine ⟨a, ss.map Str.ofString, Str.ofString s, j, rfl, rfl, .inr ⟨o, its, n, l, hc, hdt, hz, ?_⟩, ?_, fun m hm e => ?_, p1 _ _ _ .refl rp1 (.int _)⟩
      · rw [List.map_map]; exact hv
      · have : ss[j] = s := by simpa using g1
        simp [hl, this]
      · have hml : m < ss.length := by omega
        have := g2 m hm
        simp [hml] at e
        exact this (by simpa using ofS_inj e)
  | _ => exact p1.elim
end Dx

/-! Dx23: own errors raised; try .. except X as e. -/
namespace Dx
open PySem PySem.Spec L2
variable {G : Gx} {X : Cx} {W : WX}
abbrev bmVE : List Value := [.type "ValueError", .type "Exception", .type "BaseException", .type "object"]
/-- what is written of an own error that is made as it comes -/
structure ErrG (K : PySem.W.Frag) (mg : Str → Option Value) (C : Addr) (x : Str) : Prop where
  q : PySem.W.excIn K C bmVE "ValueError.__new__" = true
  gC : mg x = some (.ref C)
  kC : PySem.W.keepIn K (.ref C) = true
  sb : PySem.W.subIn K (.ref C) (.type "BaseException") = some true
  ty : PySem.W.typeIn K (.ref C) = some (.type "type")
theorem dss_stuck {sts : List Stmt} : PSs X sts (TDS G W sStuck) := PSs.imp pss_never fun Z σ H ⟨μ, ρ, S, en, rp, p⟩ => p.elim
def sRaise (c : Nat) : FS := fun ρ S => .exc c [] ρ S
@[simp] theorem sRaise_at {c : Nat} {ρ : Ev} {S : Sg} : sRaise c ρ S = .exc c [] ρ S := rfl
theorem ds_raise {c : Nat} {x m : Str} {j : Nat} {p p2 pos pos' : Pos} (hc : X.calm = true) (A : Amb G X W) (E : ErrG X.K X.mg (G.cls c) x) (hg : Gl X x := by rfl) (hdb : (x == ("__debug__" : Str)) = false := by decide) :
    PS X (.Raise (some (.Call (.Name x p) [.Constant (.str m) j p2] [] pos)) none pos') (TDS G W (sRaise c)) :=
  PS.imp (ps_raise hc A.tk (pmk_own F.excBase_ValueError E.q E.gC E.kC (raises_own E.sb E.ty) hg hdb)) fun Z σ H ⟨μ, ρ, S, en, rp, p⟩ => p _ _ _ _ _ .refl rp en ⟨rfl, .inl ⟨rfl, rfl⟩⟩
/-! ### try: .. except X as e: .. -/
def Fl.dropE (i : Nat) : Fl → Fl
  | .nx ρ S => .nx (ρ.set i none) S
  | .rt d S => .rt d S
  | .bk ρ S => .bk (ρ.set i none) S
  | .ct ρ S => .ct (ρ.set i none) S
  | _ => .stuck
@[simp] theorem dropE_nx {i : Nat} {ρ : Ev} {S : Sg} : (Fl.nx ρ S).dropE i = .nx (ρ.set i none) S := rfl
@[simp] theorem dropE_rt {i : Nat} {d : D} {S : Sg} : (Fl.rt d S).dropE i = .rt d S := rfl
/-- an outcome that is the same wherever the error lies -/
def AllE (has : Bool) (f : Nat → Option Nat → Fl) (r : Fl) : Prop := ∀ (a : Nat) (d : Option Nat), d.isSome = has → f a d = r
noncomputable def anyE (has : Bool) (f : Nat → Option Nat → Fl) : Fl := by
  classical
  exact if h : ∃ r, AllE has f r then Classical.choose h else .stuck
theorem anyE_eq {has : Bool} {f : Nat → Option Nat → Fl} {r : Fl} (h : AllE has f r) : anyE has f = r := by
  have hx : ∃ r, AllE has f r := ⟨r, h⟩
  unfold anyE
  rw [dif_pos hx]
  have h2 := Classical.choose_spec hx
  cases has with
  | true => rw [← h2 0 (some 0) rfl, h 0 (some 0) rfl]
  | false => rw [← h2 0 none rfl, h 0 none rfl]
noncomputable def tryH (i : Nat) (suite : Nat → Nat → Option Nat → FS) (c : Nat) (fs : List (String × D)) (ρ : Ev) (S : Sg) : Option Bool → Fl
  | some true => anyE (!fs.isEmpty) fun a d => (suite c a d (ρ.set i (some (.exv a d (fs.map (·.1)) (fs.map (·.2))))) S).dropE i
  | some false => .exc c fs ρ S
  | none => .stuck
noncomputable def tryAt (i : Nat) (sup : Nat → Option Bool) (suite : Nat → Nat → Option Nat → FS) : Fl → Fl
  | .exc c fs ρ S => tryH i suite c fs ρ S (sup c)
  | o => o
noncomputable def sTry (body : FS) (i : Nat) (sup : Nat → Option Bool) (suite : Nat → Nat → Option Nat → FS) : FS := fun ρ S => tryAt i sup suite (body ρ S)
@[simp] theorem sTry_at {body : FS} {i : Nat} {sup : Nat → Option Bool} {suite : Nat → Nat → Option Nat → FS} {ρ : Ev} {S : Sg} : sTry body i sup suite ρ S = tryAt i sup suite (body ρ S) := rfl
@[simp] theorem tryAt_nx {i : Nat} {sup : Nat → Option Bool} {suite : Nat → Nat → Option Nat → FS} {ρ : Ev} {S : Sg} : tryAt i sup suite (.nx ρ S) = .nx ρ S := rfl
@[simp] theorem tryAt_rt {i : Nat} {sup : Nat → Option Bool} {suite : Nat → Nat → Option Nat → FS} {d : D} {S : Sg} : tryAt i sup suite (.rt d S) = .rt d S := rfl
@[simp] theorem tryAt_exc {i : Nat} {sup : Nat → Option Bool} {suite : Nat → Nat → Option Nat → FS} {c : Nat} {fs : List (String × D)} {ρ : Ev} {S : Sg} : tryAt i sup suite (.exc c fs ρ S) = tryH i suite c fs ρ S (sup c) := rfl
@[simp] theorem tryH_f {i : Nat} {suite : Nat → Nat → Option Nat → FS} {c : Nat} {fs : List (String × D)} {ρ : Ev} {S : Sg} : tryH i suite c fs ρ S (some false) = .exc c fs ρ S := rfl
theorem tryH_t {i : Nat} {suite : Nat → Nat → Option Nat → FS} {c : Nat} {fs : List (String × D)} {ρ : Ev} {S : Sg} {r : Fl} (h : ∀ (a : Nat) (d : Option Nat), d.isSome = !fs.isEmpty → (suite c a d (ρ.set i (some (.exv a d (fs.map (·.1)) (fs.map (·.2))))) S).dropE i = r) : tryH i suite c fs ρ S (some true) = r := anyE_eq h
theorem EnvD.setN {μ : List Addr} {H : Hp} {ρ : Ev} {σ : L2.St} (e : EnvD G μ H ρ σ) {i : Nat} {v : Option V} : EnvD G μ H (ρ.set i none) (σ.set i v) := by
  refine ⟨by simp [e.len], fun j d' h' => ?_⟩
  by_cases hj : j = i
  · subst hj
    by_cases hl : j < ρ.length
    · rw [List.getElem?_set_self hl] at h'
      cases h'
    · rw [List.getElem?_eq_none (by simp; omega)] at h'
      cases h'
  · rw [List.getElem?_set_ne (Ne.symm hj)] at h' ⊢
    exact e.at_ j d' h'
theorem post_drop {i : Nat} {μ : List Addr} {H : Hp} {Z : Ends} {f : Fl} (h : PostS G W μ H Z (f.dropE i)) :
    PostS G W0 μ H { nx := fun σ' H' => Z.nx (σ'.set i none) H', rt := Z.rt, bk := fun σ' H' => Z.bk (σ'.set i none) H', ct := fun σ' H' => Z.ct (σ'.set i none) H' } f := by
  cases f with
  | nx ρ S => exact fun μ' H' σ' p r e => h μ' H' _ p r e.setN
  | rt d S => exact h
  | bk ρ S => exact fun μ' H' σ' p r e => h μ' H' _ p r e.setN
  | ct ρ S => exact fun μ' H' σ' p r e => h μ' H' _ p r e.setN
  | exc c fs ρ S => exact h.elim
  | stuck => exact h
theorem Amb.tr (A : Amb G X W) {W' : WX} {pn : List (Addr × Obj)} {xe : Value → Shared → Prop} (tk : Takes (X.tr pn xe) W') (po : PassesOwn (model X.prog X.w) X.A X.env xe) : Amb G (X.tr pn xe) W' := ⟨A.hK, A.hw, A.ok, tk, A.hu, po⟩
theorem Amb.suite (A : Amb G X W) {a : Addr} {pn : List (Addr × Obj)} : Amb G (X.suite a pn) W0 := ⟨A.hK, A.hw, A.ok, takes0, A.hu, PassesOwn.never⟩
theorem try_post {μ : List Addr} {H : Hp} {Z : Ends} {i k : Nat} {sup : Nat → Option Bool} {gs : Nat → Nat → Option Nat → FS} {fl : Fl} (A : Amb G X W) (hsup : ∀ c b, sup c = some b → PySem.W.exmOne X.K (.ref (G.cls c)) (.ref (G.cls k)) = some b) (p : PostS G W μ H Z (tryAt i sup gs fl)) :
    PostS G (wAs X.K (.ref (G.cls k)) i (fun a cls d => fun Z σ H => ∃ c, cls = .ref (G.cls c) ∧ sup c = some true ∧ TDS G W0 (gs c a d) Z σ H) W Z) μ H Z fl := by
  cases fl with
  | nx ρ S => exact p
  | rt d S => exact p
  | bk ρ S => exact p
  | ct ρ S => exact p
  | stuck => exact p
  | exc c fs ρ1 S1 =>
    intro μ' H' σ' cls dd pe rp' en' ex
    obtain ⟨ec, hd⟩ := ex
    subst ec
    simp only [tryAt_exc] at p
    cases hc : sup c with
    | none => rw [hc] at p; exact p.elim
    | some b =>
      rw [hc] at p
      refine ⟨b, hsup c b hc, fun hb a ha => ?_, fun hb => ?_⟩
      · subst hb
        have hex : ∃ r, AllE (!fs.isEmpty) (fun a d => (gs c a d (ρ1.set i (some (.exv a d (fs.map (·.1)) (fs.map (·.2))))) S1).dropE i) r := by
          by_cases q : ∃ r, AllE (!fs.isEmpty) (fun a d => (gs c a d (ρ1.set i (some (.exv a d (fs.map (·.1)) (fs.map (·.2))))) S1).dropE i) r
          · exact q
          · have z : tryH i gs c fs ρ1 S1 (some true) = .stuck := by
              show anyE _ _ = _
              unfold anyE
              rw [dif_neg q]
            rw [z] at p
            exact p.elim
        obtain ⟨r, hr⟩ := hex
        rw [tryH_t hr] at p
        have hdd : dd.isSome = !fs.isEmpty ∧ Den G μ' H' (.exv a dd (fs.map (·.1)) (fs.map (·.2))) (.ref a) := by
          rcases hd with ⟨e1, e2⟩ | ⟨ne, d, gs', e1, e2, e3⟩
          · subst e1 e2
            exact ⟨rfl, .exv0⟩
          · subst e1
            cases fs with
            | nil => exact absurd rfl ne
            | cons f fs =>
              refine ⟨rfl, .exv ((A.ok.xd _ _ _ _).mpr ⟨gs', e2, ?_, rfl⟩) e3.2⟩
              rw [e3.1, List.map_map]
              rfl
        refine ⟨c, rfl, hc, μ', _, S1, en'.set hdd.2, rp', post_drop (W := W) ?_⟩
        have e := hr a dd hdd.1
        dsimp only at e
        rw [e]
        exact PostS.per p pe
      · subst hb
        exact p μ' H' σ' _ dd pe rp' en' ⟨rfl, hd⟩
theorem ds_tryAs {i k : Nat} {sup : Nat → Option Bool} {x n : Str} {body suite : List Stmt} {b₀ : Stmt} {np pos pos' : Pos} {gb : FS} {gs : Nat → Nat → Option Nat → FS} (A : Amb G X W) (hN : X.N.Nodup) (hx : X.mg x = some (.ref (G.cls k))) (hsup : ∀ c b, sup c = some b → PySem.W.exmOne X.K (.ref (G.cls c)) (.ref (G.cls k)) = some b)
    (hb : ∀ (W' : WX) (pn : List (Addr × Obj)) (xe : Value → Shared → Prop), Amb G (X.tr pn xe) W' → PSs (X.tr pn xe) body (TDS G W' gb))
    (hsu : ∀ (a : Addr) (oe : Obj) (c : Nat) (d : Option Addr) (pn : List (Addr × Obj)), Zc (.ref (G.cls c)) d oe → (∃ vs, oe.data = .fields vs) → sup c = some true → Amb G (X.suite a ((a, oe) :: pn)) W0 → PSs (X.suite a ((a, oe) :: pn)) (b₀ :: suite) (TDS G W0 (gs c a d)))
    (hi : X.N[i]? = some n := by rfl) (hln : X.env.kindOf n = some .local := by rfl) (hg : Gl X x := by rfl) (hdb : (x == ("__debug__" : Str)) = false := by decide) (hs : X.stack = X.env :: X.outer := by rfl) (hf : X.env.frame = some X.env.locals := by rfl) :
    PS X (.Try body [.ExceptHandler (some (.Name x np)) (some n) (b₀ :: suite) pos'] [] [] pos) (TDS G W (sTry gb i sup gs)) := by
  refine PS.imp (ps_try_as hs hf hN hi hln ⟨hg, hdb, .inl hx⟩ A.tk (tb := fun W' => TDS G W' gb)
    (ts := fun a cls d => fun Z σ H => ∃ c, cls = .ref (G.cls c) ∧ sup c = some true ∧ TDS G W0 (gs c a d) Z σ H) (fun W' pn xe tk po => hb W' pn xe (A.tr tk po)) (fun a oe cls d pn hz hf => ?_)) fun Z σ H ⟨μ, ρ, S, en, rp, p⟩ => ⟨μ, ρ, S, en, rp, ?_⟩
  · refine ⟨fun pins s σ H D I ⟨c, e, h1, h2⟩ => ?_⟩
    subst e
    exact (hsu a oe c d pn hz hf h1 A.suite).run pins s σ H D I h2
  · exact try_post A hsup p
/-- isinstance(e, X), e the error that the suite holds -/
def kIsE (i a : Nat) (b : Bool) (S : Sg) : Option (Option D) → R D
  | some (some (.exv a' _ _ _)) => if a' = a then .ok (.bl b) S else .stuck
  | _ => .stuck
def xIsE (i a : Nat) (b : Bool) : FE := fun ρ S => kIsE i a b S ρ[i]?
@[simp] theorem xIsE_at {i a : Nat} {b : Bool} {ρ : Ev} {S : Sg} : xIsE i a b ρ S = kIsE i a b S ρ[i]? := rfl
@[simp] theorem kIsE_at {i a a' : Nat} {b : Bool} {d : Option Nat} {ks : List String} {xs : List D} {S : Sg} : kIsE i a b S (some (some (.exv a' d ks xs))) = if a' = a then .ok (.bl b) S else .stuck := rfl
theorem de_isE {i a c k : Nat} {oe : Obj} {pn : List (Addr × Obj)} {b : Bool} {e x : Str} {p q1 q2 pos : Pos} (A : Amb G (X.suite a ((a, oe) :: pn)) W) (C : ExcC X.K (G.cls c)) (hz : Zc (.ref (G.cls c)) none oe) (hf : ∃ vs, oe.data = .fields vs) (hx : X.mg x = some (.ref (G.cls k))) (hk : PySem.W.kitOne X.K (.ref (G.cls c)) (.ref (G.cls k)) = some b) (hm : X.mg "isinstance" = none)
    (hN : X.N[i]? = some e := by rfl) (hv : Vis X.env.scope e := by first | exact Or.inl rfl | exact Or.inr (Or.inl rfl) | exact Or.inr (Or.inr rfl)) (hd : (e == ("__debug__" : Str)) = false := by decide) (hcd : (e == ("__classdict__" : Str)) = false := by decide)
    (hg : Gl X "isinstance" := by rfl) (hg2 : Gl X x := by rfl) (hdx : (x == ("__debug__" : Str)) = false := by decide)
    (hs : starEach [.Name e q1, .Name x q2] X.env = (false, eval (.Name e q1) X.env) :: starEach [.Name x q2] X.env := by rfl) (hs2 : starEach [.Name x q2] X.env = (false, eval (.Name x q2) X.env) :: starEach [] X.env := by rfl)
    (hpl : (backTo pos (starEach [.Name x q2] X.env)).any (·.1) = false := by rfl) :
    PE (X.suite a ((a, oe) :: pn)) (.Call (.Name "isinstance" p) [.Name e q1, .Name x q2] [] pos) (TD G W (xIsE i a b)) := by
  have hc := call_isE (X := X) (a := a) (pn := pn) C hz hf
  refine PE.imp (pe_callB (X := X.suite a ((a, oe) :: pn)) hc hg hm PyProof.Rows.boot_isinstance (pa_cons (pe_var (i := i) hN hv hd hcd) (pa_cons (pe_glob hg2 hx (v := .ref (G.cls k)) rfl hdx) pa_nil hs2) hs) (by decide) (by decide) hs hpl) fun σ H Q ⟨μ, ρ, S, en, rp, po⟩ => ?_
  unfold xIsE at po
  cases hr : ρ[i]? with
  | none => rw [hr] at po; exact po.elim
  | some o =>
    rw [hr] at po
    cases o with
    | none => exact po.elim
    | some d =>
      obtain ⟨v, h1, h2⟩ := en.at_ i d hr
      cases d with
      | exv a' d ks xs =>
        simp only [kIsE_at] at po
        obtain ⟨ha, po2⟩ := post_ite po
        subst ha
        have hv : v = .ref a' := by cases h2 <;> rfl
        subst hv
        exact ⟨_, h1, .ref (G.cls k), .ref (G.cls k), b, rfl, fun u hu => hu, hk, po2 _ _ _ .refl rp (.bl b)⟩
      | _ => exact po.elim
end Dx

set_option maxHeartbeats 2000000
/-! Dx24: lambdas made in a def, handed to a def that calls them. -/
namespace Dx
open PySem PySem.Spec L2 LamX NdefX PyProof.Rows
structure LSpec where
  params : Arguments
  body : Expr
  scope : Scope
abbrev lamFd (q : Str) (L : LSpec) (cl : List (Str × Addr)) (c' : Addr) (dV doc pm ctv : Value) : FuncData := PySem.W.kdv_fn "<lambda>" q L.params (.expr L.body) L.scope cl dV doc pm (.ref c') ctv
/-- the object at f is the lambda L -/
def LamO (f : Addr) (q : Str) (L : LSpec) (cl : List (Str × Addr)) (c' : Addr) (dV : Value) : HO :=
  .ext fun h => ∃ (od : Option Addr) (sl : Array (Option Value)) (doc pm ctv : Value), h.get? f = some (⟨.type "function", od, .func (lamFd q L cl c' dV doc pm ctv), sl⟩ : Obj)
theorem lamO_ne {f : Addr} {q : Str} {L : LSpec} {cl : List (Str × Addr)} {c' : Addr} {dV : Value} (ps : Array Value) : LamO f q L cl c' dV ≠ .tbl ps := fun z => by
  unfold LamO at z
  cases z
theorem lamO_at {P : Program} {w : World} {H : Hp} {h : Heap} {f : Addr} {q : Str} {L : LSpec} {cl : List (Str × Addr)} {c' : Addr} {dV : Value} (hok : HOk P w H h) (e : H f = some (LamO f q L cl c' dV)) :
    ∃ (od : Option Addr) (sl : Array (Option Value)) (doc pm ctv : Value), h.get? f = some (⟨.type "function", od, .func (lamFd q L cl c' dV doc pm ctv), sl⟩ : Obj) := by
  obtain ⟨z, _, _⟩ := hok f _ e
  exact z
section
variable {X : Cx} {pins : List (Addr × Obj)} {σ : L2.St} {H : Hp} {s : Shared}
theorem inv_lam {q : Str} {L : LSpec} {cl : List (Str × Addr)} {c' : Addr} {dV doc pm ctv : Value} {o : Obj} {t' : Nat} (I : Inv X pins σ H s) (ho : o = { cls := .type "function", data := .func (lamFd q L cl c' dV doc pm ctv) }) :
    Inv X pins σ (upd H s.heap.objs.size (LamO s.heap.objs.size q L cl c' dV)) { s with heap := s.heap.push o, toks := t' } := by
  subst ho
  refine I.laid (a := s.heap.objs.size) (fun b u e => Heap.get?_push_of_some _ e) (Nat.le_refl _) ?_
  have e : (s.heap.push ({ cls := .type "function", data := .func (lamFd q L cl c' dV doc pm ctv) } : Obj)).get? s.heap.objs.size = some ({ cls := .type "function", data := .func (lamFd q L cl c' dV doc pm ctv) } : Obj) := Heap.get?_push_size _ rfl
  exact ⟨⟨_, _, doc, pm, ctv, e⟩, ⟨_, e⟩, fun h1 h2 ⟨od, sl, d, p, t, z⟩ st => ⟨od, sl, d, p, t, st _ z⟩⟩
/-- the lambda's object is made, its defaults being dV -/
theorem lam_make3 {T : List NTab} {q : Str} {L : LSpec} {c P : Addr} {dV : Value} {pos : Pos} {E : Value → Shared → Prop} {Q : Value → Shared → Prop} (I : Inv X pins σ H s) (TB : TabB X.base X.mg c P) (hcode : X.env.code = .ref c)
    (hm : (P, fun _ _ => q) ∈ T) (hu : ∀ p ∈ T, p.1 = P → p.2 = fun _ _ => q) (hT : TabsN T H) (hfree : ∀ y ∈ L.scope.names, y.2 = .free → ∃ c, X.env.cells.lookup y.1 = some c)
    (h : ∀ (f c' : Addr) (H1 : Hp) (s' : Shared), Inv X pins σ H1 s' → ExtN H H1 → TabsN T H1 → H f = none → H1 f = some (LamO f q L (cloFrom X.env.cells L.scope.names []) c' dV) → H1 c' = some (CodeO c' q) → Q (.ref f) s') :
    wpAny (model X.prog X.w) X.A (PySem.makeTail "<lambda>" q L.params (.expr L.body) L.scope X.env dV .none none pos pos.line) Q E s := by
  obtain ⟨ps, hP, ht, ha⟩ := (show TabN H P (fun _ _ => q) from hT _ hm)
  have bP : s.heap.BuiltinsAt X.mg P := TB.bm.keeps I.bk
  have hP' : s.heap.get? P = some { cls := .none, data := .fields ps } := I.hok P _ hP
  cases hc : codeAmong pos ps.toList with
  | none =>
    refine PySem.W.kdv_makeTail (mg := X.mg) (c := c) (P := P) (ps := ps) (closure_ok hfree) I.ok.glob (I.mod.glob.keeps I.bk) hcode (TB.code.keeps I.bk) hP' ht hc TB.gP bP fun c' ctv doc h' tk hx hge hlt hrec htb => ?_
    obtain ⟨c2, oc, vs, t, e2, hoc, hd, hv⟩ := hrec
    cases e2
    have nC : H c' = none := I.hok.fresh hge
    have I1 := inv_table (t' := tk) (more := #[rawInt pos.line, rawInt pos.col, .ref c']) (h' := h') I hP (fun b o hb e => hx b o hb e) htb hge ⟨oc, vs, t, hoc, hd, hv⟩
    have hE : ExtN H (upd (upd H P (.tbl (ps ++ #[rawInt pos.line, rawInt pos.col, .ref c']))) c' (CodeO c' q)) := fun b o e n => by
      rw [upd_ne (ne_of_none e nC), upd_ne (fun z => n ps (Option.some.inj (e.symm.trans (by rw [z]; exact hP))))]
      exact e
    have eL : (ps ++ #[rawInt pos.line, rawInt pos.col, .ref c']).toList = ps.toList ++ [rawInt pos.line, rawInt pos.col, .ref c'] := by simp
    have T1 : TabsN T (upd (upd H P (.tbl (ps ++ #[rawInt pos.line, rawInt pos.col, .ref c']))) c' (CodeO c' q)) := fun p hp => by
      by_cases hb : p.1 = P
      · rw [hu p hp hb, hb]
        refine ⟨_, by rw [upd_ne (ne_of_none hP nC), upd_same], by rw [eL]; exact PySem.TriplesOk_snoc _ _ _ _ ht, fun p' cv hcv => ?_⟩
        rw [eL] at hcv
        rcases among_app2 _ ht hcv with z | ⟨z, z1, z2⟩
        · obtain ⟨c0, e1, e2⟩ := ha p' cv z
          exact ⟨c0, e1, hE _ _ e2 codeO_ne⟩
        · exact ⟨c', z, upd_same⟩
      · obtain ⟨ps', a1, a2, a3⟩ := hT p hp
        refine ⟨ps', by rw [upd_ne (ne_of_none a1 nC), upd_ne hb]; exact a1, a2, fun p' cv hcv => ?_⟩
        obtain ⟨c0, e1, e2⟩ := a3 p' cv hcv
        exact ⟨c0, e1, hE _ _ e2 codeO_ne⟩
    have nF := I1.hok.fresh (Nat.le_refl _)
    have I2 := inv_lam (q := q) (L := L) (cl := cloFrom X.env.cells L.scope.names []) (c' := c') (dV := dV) (t' := tk) (doc := doc) (pm := (X.mg "__name__").getD .none) (ctv := ctv) I1 rfl
    refine h h'.objs.size c' _ _ I2 (fun b o e n => ?_) (T1.ext fun b o e => ?_) (I.hok.fresh (Nat.le_trans hge (Nat.le_of_lt hlt))) upd_same ?_
    · have e1 := hE b o e n
      exact (upd_ne (ne_of_none e1 nF)).trans e1
    · exact (upd_ne (ne_of_none e nF)).trans e
    · exact (upd_ne (Nat.ne_of_lt hlt)).trans upd_same
  | some cv =>
    obtain ⟨c', e, hco⟩ := ha pos cv hc
    subst e
    refine PySem.W.kdv_makeTailHit (mg := X.mg) (c := c) (P := P) (ps := ps) (closure_ok hfree) I.ok.glob (I.mod.glob.keeps I.bk) hcode (TB.code.keeps I.bk) hP' ht hc bP fun ctv doc h' tk hx hsz => ?_
    have I1 : Inv X pins σ H { s with heap := h', toks := tk } := I.kept hx
    have nF : H h'.objs.size = none := I1.hok.fresh (Nat.le_refl _)
    have I2 := inv_lam (q := q) (L := L) (cl := cloFrom X.env.cells L.scope.names []) (c' := c') (dV := dV) (t' := tk) (doc := doc) (pm := (X.mg "__name__").getD .none) (ctv := ctv) I1 rfl
    refine h h'.objs.size c' _ _ I2 (fun b o e n => ?_) (hT.ext fun b o e => ?_) nF upd_same ?_
    · exact (upd_ne (ne_of_none e nF)).trans e
    · exact (upd_ne (ne_of_none e nF)).trans e
    · exact (upd_ne (ne_of_none hco nF)).trans hco
end
/-! ### what is known of a made lambda -/
/-- the defaults: none, or a tuple of one 0 -/
def DfT (L : LSpec) (dV : Value) (H : Hp) : Prop := (L.params.defaults = [] ∧ dV = .none) ∨ (L.params.defaults ≠ [] ∧ ∃ t : Addr, dV = .ref t ∧ H t = some (.tup [V.int 0]))
theorem DfT.ext {L : LSpec} {dV : Value} {H H' : Hp} (h : DfT L dV H) (e : ExtN H H') : DfT L dV H' := h.imp id fun ⟨n, t, a, b⟩ => ⟨n, t, a, e _ _ b fun _ z => nomatch z⟩
def LamAt (q : Str) (cells : List (Str × Addr)) (L : LSpec) (f : Addr) (H : Hp) : Prop := ∃ (c' : Addr) (dV : Value), H f = some (LamO f q L (cloFrom cells L.scope.names []) c' dV) ∧ H c' = some (CodeO c' q) ∧ DfT L dV H
theorem LamAt.ext {q : Str} {cells : List (Str × Addr)} {L : LSpec} {f : Addr} {H H' : Hp} (h : LamAt q cells L f H) (e : ExtN H H') : LamAt q cells L f H' := by
  obtain ⟨c', dV, h1, h2, h3⟩ := h
  exact ⟨c', dV, e _ _ h1 lamO_ne, e _ _ h2 codeO_ne, h3.ext e⟩
def lamClo (q : Str) (cells : List (Str × Addr)) (spec : List LSpec) (i : Ci) (a : Addr) (H : Hp) : Prop := baseClo i a H ∨ ∃ m L, i.n = m + 1 ∧ spec[m]? = some L ∧ LamAt q cells L a H
/-- what stands around, lambdas known -/
def lamG (K : PySem.W.Frag) (w : World) (cls : Nat → Addr) (q : Str) (P : Addr) (cells : List (Str × Addr)) (spec : List LSpec) : Gx := ⟨K, w, cls, lamClo q cells spec, [(P, fun _ _ => q)]⟩
theorem ext_new {H : Hp} {p : Addr} {o : HO} (hp : H p = none) : ExtN H (upd H p o) := fun b u e _ => by rw [upd_ne (ne_of_none e hp)]; exact e
theorem lamAt_mut {q : Str} {cells : List (Str × Addr)} {L : LSpec} {f p : Addr} {H : Hp} {o o' : HO} (h : LamAt q cells L f H) (hp : H p = some o) (m : Mut (some o)) (ne : ∀ φ, o ≠ .ext φ) : LamAt q cells L f (upd H p o') := by
  obtain ⟨c', dV, h1, h2, h3⟩ := h
  have n1 : f ≠ p := fun z => by rw [z, hp] at h1; cases h1; exact ne _ rfl
  have n2 : c' ≠ p := fun z => by rw [z, hp] at h2; cases h2; exact ne _ rfl
  refine ⟨c', dV, by rw [upd_ne n1]; exact h1, by rw [upd_ne n2]; exact h2, h3.imp id fun ⟨n, t, a, b⟩ => ⟨n, t, a, ?_⟩⟩
  rw [upd_ne fun z => ?_]
  · exact b
  · rw [z, hp] at b; cases b; exact m
theorem lamG_ok (K : PySem.W.Frag) (w : World) (cls : Nat → Addr) (q : Str) (P : Addr) (cells : List (Str × Addr)) (spec : List LSpec) : (lamG K w cls q P cells spec).Ok := by
  refine ⟨fun n a H p o hp h => ?_, fun ks vs d H => ⟨fun h => ?_, fun h => .inl ⟨rfl, h⟩⟩, fun n a H p o o' hp m ne h => ?_⟩
  · rcases h with ⟨h1, gs, h2, h3⟩ | ⟨m, L, h1, h2, h3⟩
    · exact .inl ⟨h1, gs, by rw [upd_ne (ne_of_none h2 hp)]; exact h2, h3⟩
    · exact .inr ⟨m, L, h1, h2, h3.ext (ext_new hp)⟩
  · rcases h with ⟨_, h⟩ | ⟨m, L, h1, _⟩
    · exact h
    · cases h1
  · rcases h with ⟨h1, gs, h2, h3⟩ | ⟨k, L, h1, h2, h3⟩
    · refine .inl ⟨h1, gs, ?_, h3⟩
      rw [upd_ne fun z => ?_]
      · exact h2
      · rw [z, hp] at h2
        cases h2
        exact m
    · exact .inr ⟨k, L, h1, h2, lamAt_mut h3 hp m ne⟩
/-- a step that leaves all but tables as it is -/
theorem per_ext {K : PySem.W.Frag} {w : World} {cls : Nat → Addr} {q : Str} {P : Addr} {cells : List (Str × Addr)} {spec : List LSpec} {μ : List Addr} {H H' : Hp} (e : ExtN H H') : Per (lamG K w cls q P cells spec) μ H μ H' := by
  refine ⟨fun _ _ h => h, fun a xs h => e _ _ h fun _ z => (nomatch z), fun a q u h => e _ _ h fun _ z => (nomatch z), fun n a h => ?_, fun a u h t k => ⟨e _ _ h t, k⟩⟩
  rcases h with ⟨h1, gs, h2, h3⟩ | ⟨m, L, h1, h2, h3⟩
  · exact .inl ⟨h1, gs, e _ _ h2 fun _ z => (nomatch z), h3⟩
  · exact .inr ⟨m, L, h1, h2, h3.ext e⟩
theorem rep_ext {K : PySem.W.Frag} {w : World} {cls : Nat → Addr} {q : Str} {P : Addr} {cells : List (Str × Addr)} {spec : List LSpec} {μ : List Addr} {S : Sg} {H H' : Hp} (r : Rep (lamG K w cls q P cells spec) μ S H) (e : ExtN H H') (t : TabsN [(P, fun _ _ => q)] H') : Rep (lamG K w cls q P cells spec) μ S H' := by
  refine ⟨r.len, r.nd, fun n o a h1 h2 => ?_, t⟩
  obtain ⟨u, hu, m, _⟩ := (r.at_ n o a h1 h2).some
  exact (r.at_ n o a h1 h2).per (per_ext e) (by rw [hu]; exact e _ _ hu fun ps z => by subst z; exact m)
/-- names of a lambda: its own ones are none of the maker's -/
structure LamP (N : List Str) (sc scope : Scope) : Prop where
  kind : scope.kind = .function
  co : scope.isCoroutine = false
  gen : scope.isGenerator = false
  own : ∀ y ∈ scope.names, y.2 ≠ .cell ∧ (y.2 = .local → y.1 ∉ N)
  free : ∀ y ∈ scope.names, y.2 = .free → sc.names.lookup y.1 = some .cell ∨ sc.names.lookup y.1 = some .free
def lamPB (N : List Str) (sc scope : Scope) : Bool :=
  decide (scope.kind = .function) && !scope.isCoroutine && !scope.isGenerator && scope.names.all fun y => !decide (y.2 = .cell) && (!decide (y.2 = .local) || !decide (y.1 ∈ N)) && (!decide (y.2 = .free) || decide (sc.names.lookup y.1 = some .cell) || decide (sc.names.lookup y.1 = some .free))
theorem lamP_by {N : List Str} {sc scope : Scope} (h : lamPB N sc scope = true) : LamP N sc scope := by
  unfold lamPB at h
  simp only [Bool.and_eq_true, Bool.or_eq_true, Bool.not_eq_true', decide_eq_true_eq, decide_eq_false_iff_not, List.all_eq_true] at h
  obtain ⟨⟨⟨h1, h2⟩, h3⟩, h4⟩ := h
  refine ⟨h1, h2, h3, fun y hy => ⟨(h4 y hy).1.1, fun e => ?_⟩, fun y hy e => ?_⟩
  · exact (h4 y hy).1.2.elim (fun z => absurd e z) id
  · rcases (h4 y hy).2 with (z | z) | z
    · exact absurd e z
    · exact .inl z
    · exact .inr z
theorem LamP.has {X : Cx} {N : List Str} {scope : Scope} (L : LamP N X.env.scope scope) (ok : X.Ok) : ∀ y ∈ scope.names, y.2 = .free → ∃ c, X.env.cells.lookup y.1 = some c := fun y hy e => by
  rcases L.free y hy e with k | k
  · exact ok.has _ (.inl k)
  · exact ok.has _ (.inr k)
/-- a lambda of the list, without defaults or with one 0 -/
structure LamW (L : LSpec) : Prop where
  kw : L.params.kw_defaults = []
  df : L.params.defaults = [] ∨ ∃ (j : Nat) (p : Pos), L.params.defaults = [.Constant (.int 0) j p]
theorem de_lam {X : Cx} {W : WX} {K : PySem.W.Frag} {w : World} {cls : Nat → Addr} {q : Str} {P c : Addr} {cells : List (Str × Addr)} {spec : List LSpec} {L : LSpec} {m : Nat} {params : Arguments} {body : Expr} {scope : Scope} {pos : Pos} (hL : spec[m]? = some L) (e1 : L = ⟨params, body, scope⟩) (LW : LamW L) (LP : LamP X.N X.env.scope L.scope)
    (TB : TabB X.base X.mg c P) (hcode : X.env.code = .ref c) (hq : q = X.env.qual ++ "<lambda>") (hcl : cells = X.env.cells) :
    PE X (.Lambda params body scope pos) (TD (lamG K w cls q P cells spec) W (xC (.clo m))) := by
  subst hcl
  subst e1
  refine ⟨fun pins s σ H Q I ⟨μ, ρ, S, en, rp, po⟩ => ?_⟩
  have fin : ∀ (dV : Value) (H0 : Hp) (s0 : Shared), Inv X pins σ H0 s0 → ExtN H H0 → TabsN [(P, fun _ _ => q)] H0 → DfT ⟨params, body, scope⟩ dV H0 →
      wpAny (model X.prog X.w) X.A (PySem.makeTail "<lambda>" q params (.expr body) scope X.env dV .none none pos pos.line) (EP X pins σ Q) X.xe s0 := fun dV H0 s0 I0 e0 t0 d0 => by
    refine lam_make3 (L := ⟨params, body, scope⟩) (T := [(P, fun _ _ => q)]) I0 TB hcode (by simp) (fun p hp _ => by simp at hp; rw [hp]) t0 (LP.has I.ok) fun f c' H1 s' I1 eN T1 hf h1 h2 => ?_
    have e2 : ExtN H H1 := e0.trans eN
    exact ⟨.ref f, H1, I1, rfl, po μ H1 _ (per_ext e2) (rep_ext rp e2 T1) (.clo (.inr ⟨m, _, rfl, hL, c', dV, h1, h2, d0.ext eN⟩))⟩
  rcases LW.df with hd | ⟨j, p, hd⟩
  · refine PySem.W.kla_eval ?_ ?_
    · rw [PySem.defaultsOf_eq, show params.kw_defaults = [] from LW.kw, show params.defaults = [] from hd]
      rfl
    · rw [makeFunction_eq, ← hq]
      simp only [List.zip_nil_right, List.filterMap_nil, List.isEmpty_nil, if_true, pure_bind]
      exact fin .none H s I (.refl H) rp.tabs (.inl ⟨hd, rfl⟩)
  · refine PySem.W.kdv_lam (by rw [show params.defaults = _ from hd]; rfl) LW.kw ?_
    rw [show params.defaults = _ from hd]
    refine PySem.W.kdv_all1 (thn ((pe_int (X := X)).run pins s σ H (fun v H1 => v = V.int 0 ∧ H1 = H) I ⟨rfl, rfl⟩) fun u s1 ⟨v, H1, I1, r1, ev, eH⟩ => PySem.W.kdv_all0 ?_)
    subst ev
    rw [eH] at I1
    rw [makeFunction_eq, ← hq]
    simp only [List.zip_nil_right, List.filterMap_nil, List.isEmpty_nil, List.isEmpty_cons, if_true, pure_bind, Bool.false_eq_true, if_false]
    refine wpAny_bind (wpAny_newTextTuple ?_)
    have hf : H s1.heap.objs.size = none := I1.hok.fresh (Nat.le_refl _)
    have I2 : Inv X pins σ (upd H s1.heap.objs.size (.tup [V.int 0])) { s1 with heap := s1.heap.push { cls := .type "tuple", data := .seq #[u] }, toks := s1.toks } :=
      I1.laid (t' := s1.toks) (fun b u e => Heap.get?_push_of_some _ e) (Nat.le_refl _) ⟨by show 1 ≤ sizeLine; rw [sl_eq]; decide, [u], .cons r1 .nil, ⟨_, Heap.get?_push_size _ rfl, rfl, _, rfl⟩⟩
    exact fin (.ref s1.heap.objs.size) _ _ I2 (ext_new hf) (tabs_new rp.tabs hf) (.inr ⟨by rw [show params.defaults = _ from hd]; simp, _, rfl, upd_same⟩)
/-! ### the lambda is called, in the def that got it -/
theorem lam_start3 {X : Cx} {pins : List (Addr × Obj)} {σ : L2.St} {H HZ : Hp} {s s1 : Shared} {A : Around} {outer : List Env} {E : XK} {scope : Scope} {f c' : Addr} {h₁ : Heap} {tk : Nat} {binds : List (Str × Value)} (I : Inv X pins σ H s) (L : LamP X.N X.env.scope scope) (e0 : Env0 X.prog X.w X.K X.mg X.base A outer s1 HZ) (hd : A.handled = none)
    (un : Un (frs X.stack) [] H HZ s.heap s1.heap) (hns : h₁.Ns s1.heap.objs.size fun y => binds.reverse.lookup y) (kp : ∀ b o, s1.heap.get? b = some o → h₁.get? b = some o) :
    Inv (lamCx X A outer s1 HZ E scope f c') [] σ HZ { s1 with heap := h₁, toks := tk } := by
  have hfree := L.has I.ok
  have cm : ∀ {y c}, (cloFrom X.env.cells scope.names []).lookup y = some c → X.env.cells.lookup y = some c := fun {y c} e => by
    rcases cloFrom_mem (PySem.mem_of_lookup e) with hm | ⟨h1, h2⟩
    · cases hm
    · obtain ⟨c1, hc⟩ := hfree _ h1 rfl
      have hc : X.env.cells.lookup y = some c1 := hc
      have e2 : c = c1 := by
        rw [h2, hc] <;> rfl
      rw [e2]
      exact hc
  have look : ∀ {y}, scope.names.lookup y = some .free → ∃ c, (cloFrom X.env.cells scope.names []).lookup y = some c := fun {y} hl => by
    have hy : (y, NameKind.free) ∈ scope.names := PySem.mem_of_lookup hl
    exact mem_lookup (cloFrom_has (cells := X.env.cells) (acc := []) hy)
  have cellK : ∀ {c : Addr} {v : Option Value}, H c = none → s.heap.IsCell c v → h₁.IsCell c v := fun {c v} n ⟨o, ho, hd⟩ => by
    obtain ⟨sl, q⟩ := un.any ho n (by simp)
    exact ⟨_, kp _ _ q, hd⟩
  have noA : ∀ b : Addr, b ∉ (lamCx X A outer s1 HZ E scope f c').ex := fun b z => absurd (show b ∈ ([] : List Addr) from z) (by simp)
  refine ⟨⟨e0.mod, L.kind, rfl, rfl, Nat.le_refl _, fun y z c e1 e2 => I.ok.inj y z c (cm e1) (cm e2), fun y hy => ?_, fun y c z _ => ?_, fun _ => hd, Around.frames_deeper e0.frames, .inr ⟨rfl, rfl⟩, fun b z => absurd z (noA b), e0.bs, e0.bsz, fun b _ _ => noA b,
      fun b z => absurd z (noA b), e0.funs, e0.frf⟩,
    rfl, e0.bare, Un.kept kp, ⟨_, hns, fun i y v e1 e2 e3 => ?_⟩, fun y c e => ?_, e0.hok.fresh (Nat.le_refl _), fun y c e => ?_, fun q hq => absurd (show q ∈ ([] : List (Addr × Obj)) ++ [] from hq) (by simp), e0.hok.kept kp, I.len⟩
  · have hy : scope.names.lookup y = some .cell ∨ scope.names.lookup y = some .free := hy
    rcases hy with hy | hy
    · exact absurd rfl (L.own _ (PySem.mem_of_lookup hy)).1
    · exact look hy
  · have z : false = true := z
    cases z
  · have e3 : Vis scope y := e3
    rcases e3 with k | k | k
    · exact absurd (List.mem_of_getElem? (show X.N[i]? = some y from e1)) ((L.own _ (PySem.mem_of_lookup k)).2 rfl)
    · exact absurd rfl (L.own _ (PySem.mem_of_lookup k)).1
    · obtain ⟨m, hn, hl⟩ := I.loc
      have hvis : Vis X.env.scope y := (L.free _ (PySem.mem_of_lookup k) rfl).elim (fun k => .inr (.inl k)) (fun k => .inr (.inr k))
      obtain ⟨w', r, q⟩ := hl i y v e1 e2 hvis
      obtain ⟨c2, h2⟩ := look k
      refine ⟨w', r, .inr ⟨.inr k, c2, h2, ?_⟩⟩
      have c1 := cm h2
      rcases q with ⟨k', _⟩ | ⟨_, c3, e', z⟩
      · have k' : X.env.scope.names.lookup y = some .local := k'
        rcases L.free _ (PySem.mem_of_lookup k) rfl with k2 | k2 <;> rw [show X.env.scope.names.lookup y = _ from k2] at k' <;> cases k'
      · rw [c1] at e'
        cases e'
        exact cellK (I.freeC y _ c1) z
  · obtain ⟨w', z⟩ := I.cell y c (cm e)
    exact ⟨w', cellK (I.freeC y c (cm e)) z⟩
  · obtain ⟨v, o, ho, hd⟩ := I.cell y c (cm e)
    exact un.free c o ho (I.freeC y c (cm e)) (by simp)
/-- a reading beside which another frame's slots are told -/
def TDx (G : Gx) (W : WX) (ρX : Ev) (σX : L2.St) (f : FE) : TE := fun σ H Q => ∃ μ ρ S, EnvD G μ H ρ σ ∧ EnvD G μ H ρX σX ∧ Rep G μ S H ∧ Post (Den G) G W μ H σ (f ρ S) Q
def TDSx (G : Gx) (W : WX) (ρX : Ev) (σX : L2.St) (g : FS) : TS := fun Z σ H => ∃ μ ρ S, EnvD G μ H ρ σ ∧ EnvD G μ H ρX σX ∧ Rep G μ S H ∧ PostS G W μ H Z (g ρ S)
/-- work(): the lambda that a slot holds -/
def kAct (act : Nat → Sg → R D) (S : Sg) : Option (Option D) → R D
  | some (some (.clo n)) => act n S
  | _ => .stuck
def xAct (i : Nat) (act : Nat → Sg → R D) : FE := fun ρ S => kAct act S ρ[i]?
@[simp] theorem xAct_at {i : Nat} {act : Nat → Sg → R D} {ρ : Ev} {S : Sg} : xAct i act ρ S = kAct act S ρ[i]? := rfl
@[simp] theorem kAct_clo {act : Nat → Sg → R D} {n : Nat} {S : Sg} : kAct act S (some (some (.clo n))) = act n S := rfl
/-- what binding asks of a lambda called without arguments -/
structure LamB (q : Str) (L : LSpec) : Prop where
  b0 : L.params.defaults = [] → ∀ (cl : List (Str × Addr)) (c' : Addr) (doc pm ctv : Value), bindArgs (lamFd q L cl c' .none doc pm ctv) ⟨[], []⟩ = pure []
  b1 : L.params.defaults ≠ [] → ∀ (cl : List (Str × Addr)) (c' t : Addr) (doc pm ctv v : Value), ∃ (y : Str) (k : Option (Array Value) → Sem (List (Str × Value))), bindArgs (lamFd q L cl c' (.ref t) doc pm ctv) ⟨[], []⟩ = seqItems? (.ref t) >>= k ∧ k (some #[v]) = pure [(y, v)] ∧ L.scope.names.lookup y = some .local
theorem pe_act3 {X : Cx} {pins : List (Addr × Obj)} {σX : L2.St} {H : Hp} {s : Shared} {K : PySem.W.Frag} {w : World} {cls : Nat → Addr} {q : Str} {P : Addr} {cells : List (Str × Addr)} {spec : List LSpec} {CXg : CXT} {Eg : XK} {Ng : List Str} {qg : Str} {sg : Scope} {g : Addr} {cdg : Value} {k i : Nat} {a : Str} {pn : List (Addr × Obj)} {xe : Value → Shared → Prop} {W : WX} {ρX : Ev} {bodies : Nat → FE} {p1 p2 : Pos}
    (I : Inv X pins σX H s) (hcl : cells = X.env.cells) (hq : q = X.env.qual ++ "<lambda>") (hL : ∀ (n : Nat) (L : LSpec), spec[n]? = some L → LamP X.N X.env.scope L.scope ∧ LamB q L)
    (tk : Takes ((cxOf CXg X.prog X.w X.K X.mg X.base Ng qg sg g cdg X.A X.stack s H Eg).tr pn xe) W) (hr : Room (k + 1) (X.A.deeper (envOfC qg sg s.heap.objs.size g cdg)))
    (hbody : ∀ (n : Nat) (L : LSpec), spec[n]? = some L → ∀ (A : Around) (outer : List Env) (s : Shared) (H : Hp) (E : XK) (f c' : Addr), Room k (A.deeper (lamEnv X L.scope s.heap.objs.size f c')) → PE (lamCx X A outer s H E L.scope f c') L.body (TD (lamG K w cls q P cells spec) (fun c d _ H' => E c d H') (bodies n)))
    (hN : Ng[i]? = some a) (hv : Vis sg a) (hd : (a == ("__debug__" : Str)) = false := by decide) (hcd : (a == ("__classdict__" : Str)) = false := by decide) :
    PE ((cxOf CXg X.prog X.w X.K X.mg X.base Ng qg sg g cdg X.A X.stack s H Eg).tr pn xe) (.Call (.Name a p1) [] [] p2) (TDx (lamG K w cls q P cells spec) W ρX σX (xAct i fun n S => bodies n ρX S)) := by
  refine ⟨fun pinsZ sZ σZ HZ Q IZ ⟨μ, ρ, S, en, enX, rp, po⟩ => ?_⟩
  unfold xAct at po
  cases hρ : ρ[i]? with
  | none => rw [hρ] at po; exact po.elim
  | some o =>
    rw [hρ] at po
    cases o with
    | none => exact po.elim
    | some d =>
      obtain ⟨v, hs, dv⟩ := en.at_ i d hρ
      cases d with
      | clo n =>
        simp only [kAct_clo] at po
        cases dv with
        | clo hc =>
          rename_i f
          rcases hc with ⟨z, _⟩ | ⟨m, L, e1, e2, c', dV, h1, h2, h3⟩
          · cases z
          · obtain rfl : n = m := Nat.succ.inj e1
            obtain ⟨LP, LB⟩ := hL n L e2
            refine wpAny_Call_Name_kw (thn ((pe_var (pos := p1) (i := i) hN hv hd hcd).run pinsZ sZ σZ HZ (fun v H1 => v = .ref f ∧ H1 = HZ) IZ ⟨.ref f, hs, rfl, rfl⟩) fun u s1 ⟨v, H1, I1, r1, q1⟩ => ?_)
            obtain ⟨ev, eH⟩ := q1
            subst ev
            rw [eH] at I1
            obtain rfl : u = Value.ref f := r1
            obtain ⟨od, sl, doc, pm, ctv, of1⟩ := lamO_at I1.hok h1
            refine PySem.W.callWith_F0 ⟨_, _, _, _, of1⟩ ?_
            have un : Un (frs X.stack) [] H HZ s.heap s1.heap := I1.base
            obtain ⟨⟨oc, vs, t, hoc, hdc, hvc⟩, _, _⟩ := I1.hok c' _ h2
            obtain ⟨binds, hb, hbl⟩ : ∃ binds : List (Str × Value), BindsTo s1 (lamFd q L (cloFrom cells L.scope.names []) c' dV doc pm ctv) ⟨[], []⟩ binds ∧ ∀ y ∈ binds, L.scope.names.lookup y.1 = some .local := by
              rcases h3 with ⟨d0, e3⟩ | ⟨d0, tt, e3, e4⟩
              · subst e3
                exact ⟨[], .of_eq (LB.b0 d0 _ _ _ _ _), by simp⟩
              · subst e3
                obtain ⟨hz, its, rv, ⟨ot, ho, hct, nn, hdt⟩⟩ := I1.hok tt _ e4
                cases rv with
                | cons rx rt =>
                  cases rt
                  rename_i uu
                  obtain ⟨y, kk, b1, b2, b3⟩ := LB.b1 d0 (cloFrom cells L.scope.names []) c' tt doc pm ctv uu
                  refine ⟨[(y, uu)], BindsTo.of_defaults rfl ho hdt b1 b2, fun z hz => ?_⟩
                  simp at hz
                  rw [hz]
                  exact b3
            have rc : codeAny (model X.prog X.w) (X.A.deeper (envOfC qg sg s.heap.objs.size g cdg)) (.call (.ref f) ⟨[], []⟩) (CR (L2.CX X.prog X.w) (envOfC qg sg s.heap.objs.size g cdg :: X.stack) X.prog X.w HZ s1 Q (WE W σZ)) s1 := by
              refine PySem.W.kla_callFunE hr.depth of1 rfl LP.co LP.gen rfl ⟨c', oc, vs, t, rfl, hoc, hdc, hvc⟩ (hb _ _ _ _ ?_)
              refine wpAny_newFunctionEnv (fun y hy => (LP.own y hy).1) hbl (fun h₁ hns hsb => ⟨I1.nolimit.fresh _ hsb, ?_⟩) LP.kind
              subst hcl
              show codeAny _ _ (.expr L.body (PySem.W.envX q L.scope s1.heap.objs.size f (.ref c') (cloFrom X.env.cells L.scope.names []))) _ _
              rw [hq]
              show codeAny _ _ (.expr L.body (lamEnv X L.scope s1.heap.objs.size f c')) _ _
              have kp : ∀ b o, s1.heap.get? b = some o → h₁.get? b = some o := fun b o e => hsb.extBut b o (Nat.ne_of_lt (Heap.lt_size e)) (Heap.get?_push_of_some _ e)
              have J : Inv (lamCx X (X.A.deeper (envOfC qg sg s.heap.objs.size g cdg)) (envOfC qg sg s.heap.objs.size g cdg :: X.stack) s1 HZ (WE W σZ) L.scope f c') [] σX HZ { s1 with heap := h₁, toks := s1.toks + binds.length } :=
                lam_start3 I LP I1.env0 hr.hd un hns kp
              refine PySem.W.kla_codeExpr (wpAny_mono ((hbody n L e2 _ _ s1 HZ (WE W σZ) f c' (hr.deeper _)).run [] _ _ HZ Q J ⟨μ, ρX, S, enX, rp, ?_⟩) (fun v s' hq => ?_) fun e s' hq => hq)
              · revert po
                generalize bodies n ρX S = r
                intro po
                cases r with
                | ok a S' => exact po
                | exc c fs S' => exact po
                | stuck => exact po
              · obtain ⟨w', H', J', rv, q⟩ := hq
                exact ⟨w', H', J'.os, J'.bare, J'.base, J'.hok, rv, q⟩
            refine wpAny_call (codeAny_mono rc fun r s' hq => ?_)
            cases r with
            | error e => exact passAt tk σZ pinsZ HZ s1 e s' I1 hq
            | ok fl =>
              cases fl with
              | ret u => exact I1.after hq
              | next => exact False.elim hq
              | brk => exact False.elim hq
              | cont => exact False.elim hq
      | _ => exact po.elim
end Dx

set_option maxHeartbeats 2000000
/-! Dx25: defs that call what they got; their calls. -/
namespace Dx
open PySem PySem.Spec L2 LamX NdefX PyProof.Rows
section
variable {G : Gx} {X : Cx} {W : WX} {ρX : Ev} {σX : L2.St}
theorem dsx_expr {e : Expr} {pos : Pos} {f : FE} (he : PE X e (TDx G W ρX σX f)) (hs : swapsWith e none pos.line X.env = pure false := by rfl) : PS X (.Expr e pos) (TDSx G W ρX σX (sExpr f)) :=
  PS.imp (ps_expr he hs) fun Z σ H ⟨μ, ρ, S, en, enX, rp, p⟩ => ⟨μ, ρ, S, en, enX, rp, (posts_go en p).mono fun v H1 ⟨μ1, d, S1, pe, rp1, dd, p1⟩ => PostS.now p1 rp1 (en.per pe)⟩
theorem dsx_ret {e : Expr} {pos : Pos} {f : FE} (he : PE X e (TDx G W ρX σX f)) : PS X (.Return (some e) pos) (TDSx G W ρX σX (sRet f)) :=
  PS.imp (ps_ret he) fun Z σ H ⟨μ, ρ, S, en, enX, rp, p⟩ => ⟨μ, ρ, S, en, enX, rp, (posts_go en p).mono fun v H1 ⟨μ1, d, S1, pe, rp1, dd, p1⟩ => p1 _ _ _ .refl rp1 dd⟩
theorem dsx_one {st : Stmt} {g : FS} (h1 : PS X st (TDSx G W ρX σX g)) : PSs X [st] (TDSx G W ρX σX g) := pss_one h1
theorem dsx_cons {st : Stmt} {rest : List Stmt} {g h : FS} (h1 : PS X st (TDSx G W ρX σX g)) (h2 : PSs X rest (TDS G W h)) : PSs X (st :: rest) (TDSx G W ρX σX (sSeq g h)) :=
  PSs.imp (pss_cons h1 h2) fun Z σ H ⟨μ, ρ, S, en, enX, rp, p⟩ => ⟨μ, ρ, S, en, enX, rp, posts_seq p⟩
/-- the handler's part, shared by both forms of clauses -/
theorem dsx_tryAs {i k : Nat} {sup : Nat → Option Bool} {x n : Str} {body suite : List Stmt} {b₀ : Stmt} {np pos pos' : Pos} {gb : FS} {gs : Nat → Nat → Option Nat → FS} (A : Amb G X W) (hN : X.N.Nodup) (hx : X.mg x = some (.ref (G.cls k))) (hsup : ∀ c b, sup c = some b → PySem.W.exmOne X.K (.ref (G.cls c)) (.ref (G.cls k)) = some b)
    (hb : ∀ (W' : WX) (pn : List (Addr × Obj)) (xe : Value → Shared → Prop), Amb G (X.tr pn xe) W' → PSs (X.tr pn xe) body (TDSx G W' ρX σX gb))
    (hsu : ∀ (a : Addr) (oe : Obj) (c : Nat) (d : Option Addr) (pn : List (Addr × Obj)), Zc (.ref (G.cls c)) d oe → (∃ vs, oe.data = .fields vs) → sup c = some true → Amb G (X.suite a ((a, oe) :: pn)) W0 → PSs (X.suite a ((a, oe) :: pn)) (b₀ :: suite) (TDS G W0 (gs c a d)))
    (hi : X.N[i]? = some n := by rfl) (hln : X.env.kindOf n = some .local := by rfl) (hg : Gl X x := by rfl) (hdb : (x == ("__debug__" : Str)) = false := by decide) (hs : X.stack = X.env :: X.outer := by rfl) (hf : X.env.frame = some X.env.locals := by rfl) :
    PS X (.Try body [.ExceptHandler (some (.Name x np)) (some n) (b₀ :: suite) pos'] [] [] pos) (TDSx G W ρX σX (sTry gb i sup gs)) := by
  refine PS.imp (ps_try_as hs hf hN hi hln ⟨hg, hdb, .inl hx⟩ A.tk (tb := fun W' => TDSx G W' ρX σX gb)
    (ts := fun a cls d => fun Z σ H => ∃ c, cls = .ref (G.cls c) ∧ sup c = some true ∧ TDS G W0 (gs c a d) Z σ H) (fun W' pn xe tk po => hb W' pn xe (A.tr tk po)) (fun a oe cls d pn hz hf => ?_)) fun Z σ H ⟨μ, ρ, S, en, enX, rp, p⟩ => ⟨μ, ρ, S, en, enX, rp, ?_⟩
  · refine ⟨fun pins s σ H D I ⟨c, e, h1, h2⟩ => ?_⟩
    subst e
    exact (hsu a oe c d pn hz hf h1 A.suite).run pins s σ H D I h2
  · exact try_post A hsup p
/-- try: .. except X: .., nothing being kept -/
noncomputable def tryO (suite : FS) (c : Nat) (fs : List (String × D)) (ρ : Ev) (S : Sg) : Option Bool → Fl
  | some true => match suite ρ S with
    | .exc _ _ _ _ => .stuck
    | o => o
  | some false => .exc c fs ρ S
  | none => .stuck
noncomputable def tryOAt (sup : Nat → Option Bool) (suite : FS) : Fl → Fl
  | .exc c fs ρ S => tryO suite c fs ρ S (sup c)
  | o => o
noncomputable def sTryO (body : FS) (sup : Nat → Option Bool) (suite : FS) : FS := fun ρ S => tryOAt sup suite (body ρ S)
@[simp] theorem sTryO_at {body suite : FS} {sup : Nat → Option Bool} {ρ : Ev} {S : Sg} : sTryO body sup suite ρ S = tryOAt sup suite (body ρ S) := rfl
@[simp] theorem tryOAt_nx {suite : FS} {sup : Nat → Option Bool} {ρ : Ev} {S : Sg} : tryOAt sup suite (.nx ρ S) = .nx ρ S := rfl
@[simp] theorem tryOAt_rt {suite : FS} {sup : Nat → Option Bool} {d : D} {S : Sg} : tryOAt sup suite (.rt d S) = .rt d S := rfl
@[simp] theorem tryOAt_exc {suite : FS} {sup : Nat → Option Bool} {c : Nat} {fs : List (String × D)} {ρ : Ev} {S : Sg} : tryOAt sup suite (.exc c fs ρ S) = tryO suite c fs ρ S (sup c) := rfl
@[simp] theorem tryO_f {suite : FS} {c : Nat} {fs : List (String × D)} {ρ : Ev} {S : Sg} : tryO suite c fs ρ S (some false) = .exc c fs ρ S := rfl
theorem tryO_rt {suite : FS} {c : Nat} {fs : List (String × D)} {ρ : Ev} {S S1 : Sg} {d : D} (h : suite ρ S = .rt d S1) : tryO suite c fs ρ S (some true) = .rt d S1 := by
  simp [tryO, h]
theorem tryO_post {μ : List Addr} {H : Hp} {Z : Ends} {suite : FS} {sup : Nat → Option Bool} {k : Nat} {f : Fl} (hsup : ∀ c b, sup c = some b → PySem.W.exmOne X.K (.ref (G.cls c)) (.ref (G.cls k)) = some b) (p : PostS G W μ H Z (tryOAt sup suite f)) :
    PostS G (wOnly X.K (.ref (G.cls k)) (fun _ _ _ => TDS G W0 suite) W Z) μ H Z f := by
  cases f with
  | nx ρ S => exact p
  | rt d S => exact p
  | bk ρ S => exact p
  | ct ρ S => exact p
  | stuck => exact p
  | exc c fs ρ1 S1 =>
    intro μ' H' σ' cls dd pe rp' en' ex
    obtain ⟨ec, hd⟩ := ex
    subst ec
    simp only [tryOAt_exc] at p
    cases hc : sup c with
    | none => rw [hc] at p; exact p.elim
    | some b =>
      rw [hc] at p
      refine ⟨b, hsup c b hc, fun hb a ha => ?_, fun hb => ?_⟩
      · subst hb
        refine ⟨μ', ρ1, S1, en', rp', PostS.per (H := H) (μ := μ) ?_ pe⟩
        unfold tryO at p
        dsimp only at p
        revert p
        generalize suite ρ1 S1 = fl
        intro p
        cases fl with
        | exc c fs ρ S => exact p.elim
        | nx ρ S => exact p
        | rt d S => exact p
        | bk ρ S => exact p
        | ct ρ S => exact p
        | stuck => exact p
      · subst hb
        exact p μ' H' σ' _ dd pe rp' en' ⟨rfl, hd⟩
theorem dsx_tryO {k : Nat} {sup : Nat → Option Bool} {x : Str} {body suite : List Stmt} {b₀ : Stmt} {np pos pos' : Pos} {gb gs : FS} (A : Amb G X W) (hx : X.mg x = some (.ref (G.cls k))) (hsup : ∀ c b, sup c = some b → PySem.W.exmOne X.K (.ref (G.cls c)) (.ref (G.cls k)) = some b)
    (hb : ∀ (W' : WX) (pn : List (Addr × Obj)) (xe : Value → Shared → Prop), Amb G (X.tr pn xe) W' → PSs (X.tr pn xe) body (TDSx G W' ρX σX gb))
    (hsu : ∀ (a : Addr) (oe : Obj) (pn : List (Addr × Obj)), Amb G (X.suite a ((a, oe) :: pn)) W0 → PSs (X.suite a ((a, oe) :: pn)) (b₀ :: suite) (TDS G W0 gs))
    (hg : Gl X x := by rfl) (hdb : (x == ("__debug__" : Str)) = false := by decide) (hs : X.stack = X.env :: X.outer := by rfl) (hf : X.env.frame = some X.env.locals := by rfl) :
    PS X (.Try body [.ExceptHandler (some (.Name x np)) none (b₀ :: suite) pos'] [] [] pos) (TDSx G W ρX σX (sTryO gb sup gs)) :=
  PS.imp (ps_try_only hs hf ⟨hg, hdb, .inl hx⟩ A.tk (tb := fun W' => TDSx G W' ρX σX gb) (ts := fun _ _ _ => TDS G W0 gs) (fun W' pn xe tk po => hb W' pn xe (A.tr tk po)) (fun a oe cls d pn hz hf => hsu a oe pn A.suite))
    fun Z σ H ⟨μ, ρ, S, en, enX, rp, p⟩ => ⟨μ, ρ, S, en, enX, rp, tryO_post hsup p⟩
end
/-! ### a def that calls its parameter -/
structure ActD (P : Program) (w : World) (K : PySem.W.Frag) (mg : Str → Option Value) (base : Heap) (G : Gx) (k : Nat) (x : Str) (F : (Nat → Sg → R D) → FF) : Prop where
  ex : ∃ (g : Addr) (pg : Arguments) (bg : List Stmt) (sg : Scope) (dV kV doc pm cdv ct oc : Value) (an od : Option Addr) (osl : Array (Option Value)) (Ng : List Str) (a : Str) (Sf : (Nat → Sg → R D) → FS),
    K.lookup g = some ⟨oc, od, .func (PySem.W.fnOf x x pg bg sg dV kV doc pm an cdv ct), osl⟩ ∧ PySem.W.codeIn K cdv x = true ∧ mg x = some (.ref g) ∧ PySem.W.keepIn K (.ref g) = true ∧ L2.Binds K (PySem.W.fnOf x x pg bg sg dV kV doc pm an cdv ct) [a] [] ∧ FnScope Ng [a] sg ∧
    Ng[0]? = some a ∧ Vis sg a ∧ (a == ("__debug__" : Str)) = false ∧ (a == ("__classdict__" : Str)) = false ∧ (∀ act, F act = dFun Ng.length 1 (Sf act)) ∧
    ∀ (A : Around) (outer : List Env) (s : Shared) (H : Hp) (E : XK) (ρX : Ev) (σX : L2.St) (act : Nat → Sg → R D), Room k (A.deeper (envOfC x sg s.heap.objs.size g cdv)) →
      (∀ (W : WX) (pn : List (Addr × Obj)) (xe : Value → Shared → Prop) (p1 p2 : Pos), Takes ((cxOf (L2.CX P w) P w K mg base Ng x sg g cdv A outer s H E).tr pn xe) W →
        PE ((cxOf (L2.CX P w) P w K mg base Ng x sg g cdv A outer s H E).tr pn xe) (.Call (.Name a p1) [] [] p2) (TDx G W ρX σX (xAct 0 act))) →
      PSs (cxOf (L2.CX P w) P w K mg base Ng x sg g cdv A outer s H E) bg (TDSx G (fun c d _ H' => E c d H') ρX σX (Sf act))
def xCallA (F : (Nat → Sg → R D) → FF) (bodies : Nat → FE) (g : FA) : FE := fun ρ S => (g ρ S).bind fun ds S1 => if ds.length = 1 then F (fun n S => bodies n ρ S) ds S1 else .stuck
theorem de_callAct {X : Cx} {W : WX} {K : PySem.W.Frag} {w : World} {cls : Nat → Addr} {q : Str} {P : Addr} {cells : List (Str × Addr)} {spec : List LSpec} {x : Str} {F : (Nat → Sg → R D) → FF} {bodies : Nat → FE} {k : Nat} {e : Expr} {g : FA} {p pos : Pos} (A : Amb (lamG K w cls q P cells spec) X W)
    (d : ActD X.prog X.w X.K X.mg X.base (lamG K w cls q P cells spec) (k + 1) x F) (hr : Room (k + 2) X.A) (hcl : cells = X.env.cells) (hq : q = X.env.qual ++ "<lambda>") (hL : ∀ (n : Nat) (L : LSpec), spec[n]? = some L → LamP X.N X.env.scope L.scope ∧ LamB q L)
    (hbody : ∀ (n : Nat) (L : LSpec), spec[n]? = some L → ∀ (A : Around) (outer : List Env) (s : Shared) (H : Hp) (E : XK) (f c' : Addr), Room k (A.deeper (lamEnv X L.scope s.heap.objs.size f c')) → PE (lamCx X A outer s H E L.scope f c') L.body (TD (lamG K w cls q P cells spec) (fun c d _ H' => E c d H') (bodies n)))
    (ha : PA X [e] (TDA (lamG K w cls q P cells spec) W g)) (hg : Gl X x := by rfl) (hdb : (x == ("__debug__" : Str)) = false := by decide) (he : starEach [e] X.env = (false, eval e X.env) :: starEach [] X.env := by rfl) (hpl : (backTo pos (starEach [] X.env)).any (·.1) = false := by rfl) :
    PE X (.Call (.Name x p) [e] [] pos) (TD (lamG K w cls q P cells spec) W (xCallA F bodies g)) := by
  obtain ⟨ga, pg, bg, sg, dV, kV, doc, pm, cdv, ct, oc, an, od, osl, Ng, a, Sf, lk, hcg, hm, hk, hb, Sc, hN, hv, hd, hcd, hF, body⟩ := d.ex
  refine ⟨fun pins s σ H Q I ⟨μ, ρ, S, en, rp, po⟩ => ?_⟩
  refine wpAny_Call_Name_kw (ld_glob I hg hm ?_ hdb)
  refine PySem.W.callWith_K (h₀ := X.base) I.ok.mod.kin hk (thn (ha.run pos pins s σ H _ I ⟨μ, ρ, S, en, rp, post_bind po⟩) fun us s1 ⟨vs, H1, I1, r1, μ1, ds, S1, pe, rp1, dd, p1⟩ => ⟨I1.kIn, ?_⟩) he hpl
  obtain ⟨hl, p2⟩ := post_ite p1
  have hvl : vs.length = 1 := by rw [← dd.length]; exact hl
  have hul : us.length = 1 := by rw [← r1.length]; exact hvl
  have rc : codeAny (model X.prog X.w) X.A (.call (.ref ga) ⟨us, []⟩) (CR (L2.CX X.prog X.w) X.stack X.prog X.w H1 s1 Q (WE W σ)) s1 := by
    have hb1 := hb s1 us I1.kIn (by simpa using hul)
    rw [List.append_nil] at hb1
    refine run_ofS (N := Ng) (ps := [a]) (us := us) (vs := vs) lk hcg Sc hr I1.env0 hb1 r1 (by simpa using hvl) fun hr' => ?_
    refine ⟨_, body X.A X.stack s1 H1 (WE W σ) ρ σ (fun n S => bodies n ρ S) hr' fun W' pn xe p1 p2 tk => pe_act3 I1 hcl hq hL tk hr' hbody hN hv hd hcd, ?_⟩
    refine ⟨μ1, _, S1, start_env dd (by rw [hl]; exact Nat.succ_le_of_lt (List.getElem?_eq_some_iff.mp hN).1), en.per pe, rp1, ?_⟩
    rw [hF] at p2
    unfold dFun at p2
    rw [if_pos hl] at p2
    revert p2
    generalize Sf (fun n S => bodies n ρ S) (ds.map some ++ List.replicate (Ng.length - ds.length) none) S1 = fl
    intro p2
    cases fl with
    | nx ρ' S' => exact fun μ' H' σ' p r e => p2 μ' H' _ p r .non
    | rt d S' => exact p2
    | bk ρ' S' => exact p2.elim
    | ct ρ' S' => exact p2.elim
    | exc c fs ρ' S' => exact fun μ' H' σ' cls dd p r e x => p2 μ' H' cls dd p r x
    | stuck => exact p2.elim
  refine wpAny_call (codeAny_mono rc fun r s' hq => ?_)
  cases r with
  | error e => exact passAt A.tk σ pins H1 s1 e s' I1 hq
  | ok fl =>
    cases fl with
    | ret u => exact I1.after hq
    | next => exact False.elim hq
    | brk => exact False.elim hq
    | cont => exact False.elim hq
end Dx

set_option maxHeartbeats 2000000
/-! Dx26: a law that makes lambdas: its entry, its end; defs that call their parameter. -/
namespace Dx
open PySem PySem.Spec L2 LamX NdefX PyProof.Rows
theorem pss_frz {X : Cx} {body : List Stmt} {t : TS} (h : PSs X body t) : PSs X body (fun Z σ H => t Z σ H ∨ ∃ a u, H a = some u ∧ Mut (some u) ∧ ∀ od, t Z σ (upd H a (.frz od u))) := by
  refine ⟨fun pins s σ H D I q => ?_⟩
  rcases q with q | ⟨a, u, hu, mu, q⟩
  · exact h.run pins s σ H D I q
  · obtain ⟨od, I2⟩ := I.lock hu mu
    exact h.run pins s σ _ D I2 (q od)
/-- the script, and an empty table of code objects -/
def spLawT (n : Nat) (K : PySem.W.Frag) (P : Addr) : Sp := fun vs H Q E => ∃ (a : Addr) (ns : List Int), vs = [.ref a] ∧ ns.length ≤ n ∧ H P = some (.tbl #[]) ∧ SqL K H a (ns.map V.int) ∧ ∀ H', Q (.bl true) H'
theorem law_fnL {P : Program} {w : World} {K : PySem.W.Frag} {mg : Str → Option Value} {base : Heap} {k n : Nat} {x : Str} {st : Stmt} {f c Pt : Addr} {fd : FuncData} {N : List Str} {g : FS} {cls : Nat → Addr} {q : Str} {spec : List LSpec} (F : Fun K x x st f fd) (Sc : FnScope N ["script"] (defScope st)) (hcode : fd.code = .ref c)
    (hN : 1 ≤ N.length) (hl : ∀ ns : List Int, ns.length ≤ n → ∃ S, dFun N.length 1 g [.slist ns] [] = .ok (.bl true) S)
    (hbody : ∀ (A : Around) (outer : List Env) (s : Shared) (H : Hp) (E : XK), Room k (A.deeper (envOfC x (defScope st) s.heap.objs.size f (.ref c))) →
      PSs (cxOf (L2.CX P w) P w K mg base N x (defScope st) f (.ref c) A outer s H E) (defBody st) (TDS (lamG K w cls q Pt (cxOf (L2.CX P w) P w K mg base N x (defScope st) f (.ref c) A outer s H E).env.cells spec) (fun c d _ H' => E c d H') g)) :
    FnOk P w K mg base (L2.CX P w) (k + 1) f fd ["script"] (spLawT n K Pt) := by
  obtain ⟨oc, od, kV, doc, pm, an, cdv, ct, osl, rfl, lk, hcd⟩ := F.ex
  have hcdv : cdv = .ref c := hcode
  subst hcdv
  refine fn_of lk hcd Sc (fun vs H Q E h => by obtain ⟨a, ns, rfl, _⟩ := h; rfl) fun A outer s H vs Q E hr h => ⟨_, pss_frz (hbody A outer s H E hr), ?_⟩
  obtain ⟨a, ns, rfl, hn, hP, hs, hQ⟩ := h
  obtain ⟨S1, e⟩ := hl ns hn
  have key : ∀ H0 : Hp, H0 Pt = some (.tbl #[]) → ((∃ z, H0 a = some (.frz z (.lst (ns.map V.int)))) ∨ ∀ H', SqL K H' a (ns.map V.int)) →
      TDS (lamG K w cls q Pt (cxOf (L2.CX P w) P w K mg base N x (defScope st) f (.ref c) A outer s H E).env.cells spec) (fun c d _ H' => E c d H') g { nx := fun _ H' => Q .non H', rt := Q } (L2.start N [.ref a]) H0 := by
    intro H0 h1 h2
    refine ⟨[], _, [], start_env (ds := [.slist ns]) (.cons (.slist h2) .nil) (by simpa using hN), ⟨rfl, fun i j a z => by simp at z, fun n o a z => by simp at z, fun p hp => ?_⟩, ?_⟩
    · simp [lamG] at hp
      subst hp
      exact TabN.of (TabS.nil h1)
    · unfold dFun at e
      rw [if_pos (show [D.slist ns].length = 1 from rfl)] at e
      revert e
      generalize g ([D.slist ns].map some ++ List.replicate (N.length - [D.slist ns].length) none) [] = fl
      intro e
      cases fl with
      | nx ρ' S' => simp at e
      | rt d S' =>
        simp only [R.ok.injEq] at e
        obtain ⟨e1, e2⟩ := e
        subst e1
        intro μ' H' v p r dv
        cases dv
        exact hQ H'
      | bk ρ' S' => simp at e
      | ct ρ' S' => simp at e
      | exc c fs ρ' S' => simp at e
      | stuck => simp at e
  rcases hs with (hs | ⟨z, hs⟩) | hs
  · refine .inr ⟨a, .lst (ns.map V.int), hs, trivial, fun od => key _ ?_ (.inl ⟨od, upd_same⟩)⟩
    rw [upd_ne fun z => by rw [z, hs] at hP; cases hP]
    exact hP
  · exact .inl (key H hP (.inl ⟨z, hs⟩))
  · exact .inl (key H hP (.inr fun H' => .inr hs))
theorem walkL {l : PySem.W.OpenLaw} {q : Program} {loose : List Str} {XP : (Str → Option Value) → Heap → Prop} {YP : World → Heap → Prop} {d : DefRec} {K : Params → PySem.W.Frag} (k : Nat) (hk : Room k callerA) (hn : l.most = some 63) (hdf : d.params.defaults = [])
    (hY : ∀ (w : World) (h : Heap), YP w h → (K w.params).In h)
    (F : ∀ (w : World) (mg : Str → Option Value) (fa : Addr) (h : Heap), YP w h → (K w.params).In h → h.Ns mainGlobals mg → mg d.name = some (.ref fa) →
      ∃ (fd : FuncData) (c Pt : Addr), h.get? Pt = some { cls := .none, data := .fields #[] } ∧ (K w.params).lookup Pt = none ∧ PySem.W.CodeHd h c Pt ∧ (∀ (s : Shared) (u : Value), BindsTo s fd ⟨[u], []⟩ [("script", u)]) ∧
        ∀ base : Heap, (K w.params).In base → base.Ns mainGlobals mg → TabB base mg c Pt → FnOk l.prog w (K w.params) mg base (L2.CX l.prog w) k fa fd ["script"] (spLawT 63 (K w.params) Pt)) :
    PySem.W.WalkO q loose XP YP l.row.toRowW d [] (fun f vs => PySem.call f vs) := by
  refine walk_ofTs (n := 63) (k := k) (x := "script") (CX := fun w => L2.CX l.prog w) hn (by decide) hdf hk hY (fun w mg fa h Y KX Gn hm => ?_) fun _ _ _ _ _ ⟨_, _, _, _, _, _, _, _, _, _, _, _, z⟩ => z
  obtain ⟨fd, c, Pt, h1, h2, h3, h4, h5⟩ := F w mg fa h Y KX Gn hm
  refine ⟨fd, [(c, Pt)], spLawT 63 (K w.params) Pt, ?_, ?_, ?_, h4, ?_, fun base b1 b2 b3 => h5 base b1 b2 (b3 (c, Pt) (by simp))⟩
  · intro p hp; simp at hp; subst hp; exact h1
  · intro p hp; simp at hp; subst hp; exact h2
  · intro p hp; simp at hp; subst hp; exact h3
  · exact fun H a ns hl _ hT hS => ⟨a, ns, rfl, hl, hT _ (List.mem_singleton.mpr rfl), hS, fun _ => rfl⟩
/-- a def of one parameter that calls it -/
theorem act_of {P : Program} {w : World} {K : PySem.W.Frag} {mg : Str → Option Value} {base : Heap} {G : Gx} {k : Nat} {x a : Str} {st : Stmt} {Ng : List Str} {Sf : (Nat → Sg → R D) → FS} (h : FunAt K mg x st [a]) (Sc : FnScope Ng [a] (defScope st)) (hN : Ng[0]? = some a)
    (hv : Vis (defScope st) a) (hd : (a == ("__debug__" : Str)) = false) (hcd : (a == ("__classdict__" : Str)) = false)
    (body : ∀ (g : Addr) (cdg : Value) (A : Around) (outer : List Env) (s : Shared) (H : Hp) (E : XK) (ρX : Ev) (σX : L2.St) (act : Nat → Sg → R D), Room k (A.deeper (envOfC x (defScope st) s.heap.objs.size g cdg)) →
      (∀ (W : WX) (pn : List (Addr × Obj)) (xe : Value → Shared → Prop) (p1 p2 : Pos), Takes ((cxOf (L2.CX P w) P w K mg base Ng x (defScope st) g cdg A outer s H E).tr pn xe) W →
        PE ((cxOf (L2.CX P w) P w K mg base Ng x (defScope st) g cdg A outer s H E).tr pn xe) (.Call (.Name a p1) [] [] p2) (TDx G W ρX σX (xAct 0 act))) →
      PSs (cxOf (L2.CX P w) P w K mg base Ng x (defScope st) g cdg A outer s H E) (defBody st) (TDSx G (fun c d _ H' => E c d H') ρX σX (Sf act))) :
    ActD P w K mg base G k x (fun act => dFun Ng.length 1 (Sf act)) := by
  obtain ⟨f, fd, F, hm, hb⟩ := h.ex
  obtain ⟨oc, od, kV, doc, pm, an, cdv, ct, osl, rfl, lk, hcd'⟩ := F.ex
  exact ⟨f, _, _, _, _, _, _, _, _, _, _, _, _, _, Ng, a, Sf, lk, hcd', hm, F.kp, hb, Sc, hN, hv, hd, hcd, fun _ => rfl, fun A outer s H E ρX σX act hr hact => body f cdv A outer s H E ρX σX act hr hact⟩
end Dx

/-! Dx27: where a lambda stands in a text; classes of errors; the context of a lambda's body. -/
namespace Dx
open PySem PySem.Spec L2 LamX NdefX PyProof.Rows
/-! ### ways through a text -/
def xNone : Expr := .Constant .none 0 ⟨0, 0, 0, 0⟩
def stNone : Stmt := .Pass ⟨0, 0, 0, 0⟩
def wS (b : List Stmt) (i : Nat) : Stmt := b.getD i stNone
def wE (b : List Expr) (i : Nat) : Expr := b.getD i xNone
def wBody : Stmt → List Stmt
  | .If _ b _ _ => b
  | .For _ _ b _ _ => b
  | .While _ b _ _ => b
  | _ => []
def wAsg : Stmt → Expr
  | .Assign _ e _ => e
  | _ => xNone
def wTest : Stmt → Expr
  | .If e _ _ _ => e
  | _ => xNone
def wRet : Stmt → Expr
  | .Return (some e) _ => e
  | _ => xNone
def wBool : Expr → List Expr
  | .BoolOp _ es _ => es
  | _ => []
def wCmpL : Expr → Expr
  | .Compare e _ _ _ => e
  | _ => xNone
def wArgs : Expr → List Expr
  | .Call _ es _ _ => es
  | _ => []
def wElts : Expr → List Expr
  | .List es _ => es
  | .Tuple es _ _ => es
  | _ => []
def wBinL : Expr → Expr
  | .BinOp a _ _ _ => a
  | _ => xNone
def wBinR : Expr → Expr
  | .BinOp _ _ b _ => b
  | _ => xNone
def wNot : Expr → Expr
  | .UnaryOp _ e _ => e
  | _ => xNone
def wLam : Expr → LSpec
  | .Lambda p b s _ => ⟨p, b, s⟩
  | _ => ⟨default, xNone, default⟩
/-! ### a lambda's body -/
theorem amb_lam {G : Gx} {X : Cx} {A : Around} {outer : List Env} {s : Shared} {H : Hp} {E : XK} {scope : Scope} {f c' : Addr} {k : Nat} (hK : X.K = G.K) (hw : X.w = G.w) (ok : G.Ok) (hr : Room (k + 1) (A.deeper (lamEnv X scope s.heap.objs.size f c'))) :
    Amb G (lamCx X A outer s H E scope f c') (fun c d _ H' => E c d H') :=
  ⟨hK, hw, ok, takes_of rfl rfl rfl rfl, by have h1 := hr.un; show (A.deeper (lamEnv X scope s.heap.objs.size f c')).units + 65 < cLine; omega, passes_of rfl⟩
/-! ### classes of errors -/
theorem kit_sub {K : PySem.W.Frag} {C D : Addr} {b : Bool} (hd : PySem.W.hasDictIn K D = true) (ht : PySem.W.typeIn K (.ref D) = some (.type "type")) (hs : PySem.W.subIn K (.ref C) (.ref D) = some b) (hb : C = D → b = true) : PySem.W.kitOne K (.ref C) (.ref D) = some b := by
  unfold PySem.W.kitOne
  by_cases h : C = D
  · subst h
    rw [if_pos (by simp), hb rfl]
  · rw [if_neg (by simpa using h)]
    obtain ⟨cd, hc, _⟩ := PySem.W.any_some hd
    unfold PySem.W.kitCls
    dsimp only
    rw [if_pos (by rw [hc, ht]; rfl)]
    exact hs
theorem em_base {K : PySem.W.Frag} {x : Str} {C : Addr} (_ : PySem.W.nsIn K mainGlobals x = some (some (.ref C))) (a : PySem.W.subIn K (.ref C) (.type "BaseException") = some true) (b : PySem.W.hasDictIn K C = true) (c : PySem.W.typeIn K (.ref C) = some (.type "type")) : PySem.W.subIn K (.ref C) (.type "BaseException") = some true ∧ PySem.W.hasDictIn K C = true ∧ PySem.W.typeIn K (.ref C) = some (.type "type") := ⟨a, b, c⟩
theorem em_of {K : PySem.W.Frag} {x y : Str} {C D : Addr} {b : Bool} (_ : PySem.W.nsIn K mainGlobals x = some (some (.ref C))) (_ : PySem.W.nsIn K mainGlobals y = some (some (.ref D))) (t : PySem.W.subIn K (.ref D) (.type "BaseException") = some true ∧ PySem.W.hasDictIn K D = true ∧ PySem.W.typeIn K (.ref D) = some (.type "type")) (h : PySem.W.subIn K (.ref C) (.ref D) = some b) : PySem.W.exmOne K (.ref C) (.ref D) = some b := PySem.W.exm_ref t.1 t.2.1 t.2.2 h
theorem ty_base {K : PySem.W.Frag} {x : Str} {C : Addr} (_ : PySem.W.nsIn K mainGlobals x = some (some (.ref C))) (b : PySem.W.hasDictIn K C = true) (c : PySem.W.typeIn K (.ref C) = some (.type "type")) : PySem.W.hasDictIn K C = true ∧ PySem.W.typeIn K (.ref C) = some (.type "type") := ⟨b, c⟩
theorem kit_of {K : PySem.W.Frag} {x y : Str} {C D : Addr} {b : Bool} (_ : PySem.W.nsIn K mainGlobals x = some (some (.ref C))) (_ : PySem.W.nsIn K mainGlobals y = some (some (.ref D))) (t : PySem.W.hasDictIn K D = true ∧ PySem.W.typeIn K (.ref D) = some (.type "type")) (h : PySem.W.subIn K (.ref C) (.ref D) = some b) (hb : C = D → b = true) : PySem.W.kitOne K (.ref C) (.ref D) = some b := kit_sub t.1 t.2 h hb
theorem errG_of {K : PySem.W.Frag} {h : Heap} {mg : Str → Option Value} {C : Addr} {x : Str} (X : K.In h) (Gn : h.Ns mainGlobals mg) (aC : PySem.W.nsIn K mainGlobals x = some (some (.ref C))) (a : PySem.W.excIn K C bmVE "ValueError.__new__" = true) (b : PySem.W.keepIn K (.ref C) = true)
    (c : PySem.W.subIn K (.ref C) (.type "BaseException") = some true) (d : PySem.W.typeIn K (.ref C) = some (.type "type")) : ErrG K mg C x := ⟨a, PySem.W.mg_of X Gn aC, b, c, d⟩
theorem excC_of {K : PySem.W.Frag} {C : Addr} {x : Str} (aC : PySem.W.nsIn K mainGlobals x = some (some (.ref C))) (a : PySem.W.findIn K (.ref C) "__getattribute__" = some (some (.builtin "BaseException.__getattribute__"))) (b : PySem.W.findIn K (.ref C) "__getattr__" = some none) (c : PySem.W.subIn K (.ref C) (.type "BaseException") = some true)
    (d : PySem.W.hasDictIn K C = true) (e : PySem.W.findIn K (.ref C) "__class__" = some (some (.builtin "object.__class__"))) (f : PySem.W.specialIn K (.builtin "object.__class__") "__get__" = some (some (.builtin "getset_descriptor.__get__"))) (g : PySem.W.takesIn K (.builtin "object.__class__") = some true) (h : PySem.W.mroIn K C (.type "object") = some true) : ExcC K C := ⟨a, b, c, d, e, f, g, h⟩
theorem lawFun_of {K : PySem.W.Frag} {h : Heap} {x : Str} {st : Stmt} {f c : Addr} {oc : Value} {od an : Option Addr} {osl : Array (Option Value)} {kV doc pm ct : Value} (_ : K.In h) (_ : PySem.W.nsIn K mainGlobals x = some (some (.ref f)))
    (l : K.lookup f = some ⟨oc, od, .func (PySem.W.fnOf x x (defArgs st) (defBody st) (defScope st) .none kV doc pm an (.ref c) ct), osl⟩) (e : PySem.W.codeIn K (.ref c) x = true) (k : PySem.W.keepIn K (.ref f) = true) : ∃ fd : FuncData, Fun K x x st f fd ∧ fd.code = .ref c := ⟨_, fun_mk l e k, rfl⟩
/-! ### what stands around a law that makes lambdas -/
abbrev mkGL {K : PySem.W.Frag} {h : Heap} (_ : K.In h) (w : World) (cs : List Addr) (q : Str) (P : Addr) (cells : List (Str × Addr)) (spec : List LSpec) : Gx := lamG K w (fun i => cs.getD i 0) q P cells spec
abbrev tAt {h : Heap} {P : Addr} (_ : h.get? P = some { cls := .none, data := .fields #[] }) : Addr := P
theorem fn_at {K : PySem.W.Frag} {h : Heap} {x : Str} {f : Addr} (_ : K.In h) (a : PySem.W.nsIn K mainGlobals x = some (some (.ref f))) : PySem.W.nsIn K mainGlobals x = some (some (.ref f)) := a
abbrev fAt {K : PySem.W.Frag} {x : Str} {f : Addr} (_ : PySem.W.nsIn K mainGlobals x = some (some (.ref f))) : Addr := f
/-! ### list.count of bools -/
theorem bl_countP {b : Bool} : ∀ {bs : List Bool} {us : List Value}, Vals (bs.map V.bl) us → us.countP (eqU (V.bl b)) = bs.count b
  | [], _, .nil => rfl
  | c :: bs, _, .cons r t => by
    cases r
    rw [List.countP_cons, List.count_cons, bl_countP t]
    rfl
theorem mt_countB {X : Cx} : MtR X "list.count" (fun x xs H Q => ∃ (p : Addr) (bs : List Bool) (b : Bool), x = .ref p ∧ xs = [.bl b] ∧ SqL X.K H p (bs.map V.bl) ∧ Q (.int (bs.count b : Nat)) H) := by
  intro pins s σ H x xs v us Q I rx rv ⟨p, bs, b, hx, hxs, hs, q⟩
  subst hx hxs
  cases rx
  cases rv with
  | cons ru rt =>
    cases rt
    cases ru
    obtain ⟨its, rits, pl, _⟩ := I.list hs
    obtain ⟨ob, n, ho, hc, hdn, hdt⟩ := pl
    obtain ⟨cl, dd, dt, sl⟩ := ob
    cases hc
    cases hdt
    refine call_meets PySem.F.slot_list_count ⟨_, ho, rfl⟩ PySem.F.entry_list_count (PySem.F.args_list_count_2 _ _) (SeqAt.list_countAt p its.toArray n dd sl (.bool b) (eqU (V.bl b)))
      ⟨ho, fun y hy => mem_eqAt (x := V.bl b) rfl rfl rits (by rw [List.all_map]; exact List.all_eq_true.mpr fun _ _ => rfl) y (by simpa using hy), .int (bs.count b : Nat), H, I.tok _, ⟨s.toks, ?_⟩, q⟩
    show Value.int ((its.countP (eqU (V.bl b)) : Nat) : Int) s.toks = _
    rw [bl_countP rits]
def cntAt (S : Sg) (b : Bool) : Option (List Bool) → R D
  | some bs => .ok (.int (bs.count b : Nat)) S
  | none => .stuck
def mCnt : MV := fun d ds S => match ds with
  | [.bl b] => cntAt S b ((seqOf S d).bind blsOf)
  | _ => .stuck
theorem mv_cnt {G : Gx} {W : WX} : MtV G W (fun x xs H Q => ∃ (p : Addr) (bs : List Bool) (b : Bool), x = .ref p ∧ xs = [.bl b] ∧ SqL G.K H p (bs.map V.bl) ∧ Q (.int (bs.count b : Nat)) H) mCnt := by
  intro μ S H x d xs ds σ Q rp hx hxs po
  unfold mCnt at po
  split at po
  · rename_i b
    cases hxs with
    | cons d1 t =>
      cases t
      cases d1
      cases hb : (seqOf S d).bind blsOf with
      | none => rw [hb] at po; exact po.elim
      | some bs =>
        rw [hb] at po
        obtain ⟨ys, e1, e2⟩ := Option.bind_eq_some_iff.mp hb
        obtain ⟨p, vs, rfl, h1, h2⟩ := seq_den rp hx e1
        have := bls_den h2 e2
        subst this
        exact ⟨p, bs, b, rfl, rfl, h1, post_ok rp po (.int _)⟩
  · exact po.elim
theorem de_count {G : Gx} {X : Cx} {W : WX} {o e : Expr} {apos cpos : Pos} {f : FE} {g : FA} (A : Amb G X W) (ho : PE X o (TD G W f)) (ha : PA X [e] (TDA G W g)) (hbase : attributeBase o "count" X.env (eval o X.env) = eval o X.env := by rfl)
    (hfew : ((backTo cpos (starEach [e] X.env)).all (fun x => !x.1) && (backToKw cpos (keywordEach [] X.env)).all (fun x => x.1.isSome) && decide (([e] : List Expr).length + ([] : List Keyword).length + (if ([] : List Keyword).isEmpty then 0 else 1) < 30)) = true := by rfl)
    (hline : (apos.endLine == cpos.line) = true := by rfl) (hs : starEach [e] X.env = (false, eval e X.env) :: starEach [] X.env := by rfl) (hplain : (backTo cpos (starEach [] X.env)).any (·.1) = false := by rfl) : PE X (.Call (.Attribute o "count" apos) [e] [] cpos) (TD G W (xM mCnt f g)) :=
  de_lm A PySem.F.slot_list_count PySem.F.type_list_count (r := fun x xs H Q => ∃ (p : Addr) (bs : List Bool) (b : Bool), x = .ref p ∧ xs = [.bl b] ∧ SqL G.K H p (bs.map V.bl) ∧ Q (.int (bs.count b : Nat)) H) (by have := mt_countB (X := X); rw [A.hK] at this; exact this) mv_cnt ho ha hbase hfew hline hs hplain
/-! ### rows for errors -/
section
variable {α β : Type} {c : Nat} {fs : List (String × D)} {ρ : Ev} {S : Sg}
@[simp] theorem exc_bind {k : α → Sg → R β} : (R.exc c fs S : R α).bind k = .exc c fs S := rfl
end
end Dx

/-! Dx28: own errors whose __init__ says super().__init__(f'..') and keeps one value. -/
namespace Dx
open PySem PySem.Spec L2
/-- the parts of the text that is told: written ones, and the value -/
inductive Tells (y : Str) : List Expr → Nat → Prop
  | nil : Tells y [] 0
  | word {m : Str} {j : Nat} {p : Pos} {r : List Expr} {n : Nat} (h : Tells y r n) : Tells y (.Constant (.str m) j p :: r) (m.length + n)
  | value {p q : Pos} {r : List Expr} {n : Nat} (h : Tells y r n) : Tells y (.FormattedValue (.Name y p) (-1) none q :: r) (2000 + n)
/-- None or a number that is no giant -/
def Small (v : V) : Prop := v = .non ∨ ∃ i : Int, v = .int i ∧ i.natAbs.log2 < 1920
section
variable {P : Program} {w : World} {A : Around} {E : Value → Shared → Prop}
theorem tells_join {env : Env} {m : Str → Option Value} {y : Str} {u : Value} {v : V} {R : Value → Shared → Prop} (hk : env.scope.kind = .function) (hl : env.kindOf y = some .local) (hd : (y == ("__debug__" : Str)) = false) (hm : m y = some u) (rv : RelV v u) (sm : Small v) :
    ∀ {es : List Expr} {n : Nat}, Tells y es n → ∀ (out : Str) (s : Shared), s.heap.Ns env.locals m → out.length + n ≤ sizeLine → (∀ z t tk, R (.str z t) { s with toks := tk }) → wpAny (model P w) A (joinParts out (evalEach es env)) R E s := by
  intro es n T
  induction T with
  | nil =>
    intro out s _ hz q
    exact PyProof.Rows.joinParts_nil (q _ _ _) (by omega)
  | @word t j p r n T ih =>
    intro out s hn hz q
    refine PyProof.Rows.joinParts_cons (PySem.Calls.Constant_str ?_)
    have e : (out ++ t).length = out.length + t.length := by rw [PySem.strLen_append]
    exact ⟨by rw [e]; omega, ih _ _ hn (by rw [e]; omega) fun z t' tk' => q z t' tk'⟩
  | @value p p' r n T ih =>
    intro out s hn hz q
    refine PyProof.Rows.joinParts_cons (wpAny_FormattedValue_plain (PySem.ESX.ldL hn hm ?_ hk hl hd))
    rcases sm with rfl | ⟨i, rfl, hi⟩
    · cases rv
      refine wpAny_formatField_none ?_
      have e : (out ++ ("None" : Str)).length = out.length + 4 := by rw [PySem.strLen_append]; rfl
      exact ⟨by rw [e]; omega, ih _ _ hn (by rw [e]; omega) fun z t' tk' => q z t' tk'⟩
    · obtain ⟨k, rfl⟩ := rv
      refine wpAny_formatField_int hi ?_
      have e : (out ++ (toString i : Str)).length = out.length + (toString i : Str).length := by rw [PySem.strLen_append]
      have hs : (toString i : Str).length ≤ 2000 := by
        have := int_text_length_le (k := 1920) (by decide) hi
        rw [show (toString i : Str) = Str.ofString (toString i) from rfl, ofString_length]
        omega
      exact ⟨by rw [e]; omega, ih _ _ hn (by rw [e]; omega) fun z t' tk' => q z t' tk'⟩

/-- super() in a def of a class, self an instance -/
theorem at_super {K : PySem.W.Frag} {mg : Str → Option Value} {base h₀ : Heap} {s : Shared} {L x C D f cc cda : Addr} {m : Str → Option Value} {news : List (Addr × Obj)} {ox : Obj} {odx : Option Obj} {body : List Stmt} {q slf : Str} {scope : Scope} {p0 p1 : Pos} {attr : Str} {whole : Sem Value} {fd : FuncData} {ar : Arg}
    {vs : Array Value} {file : Str} {tf : Tok} {oc ccl cl : Value} {od cdd cld : Option Addr} {osl ccs csl : Array (Option Value)} {cdD : ClassData} {Q : Value → Shared → Prop} (F : PyProof.Rows.Fr h₀ L s.heap m) (X₀ : K.In h₀) (N : PyProof.Rows.News h₀ L s.heap news) (M : L2.Mod K mg base) (bk : ∀ b o, base.get? b = some o → h₀.get? b = some o)
    (hf : K.lookup f = some ⟨oc, od, .func fd, osl⟩) (hp : (fd.params.posonlyargs ++ fd.params.args).head? = some ar) (hs : ar.arg = slf) (hv : m slf = some (.ref x)) (I : PySem.W.InstAt s.heap x ox C odx) (hc : K.lookup cda = some ⟨ccl, cdd, .fields vs, ccs⟩) (hvs : vs[2]? = some (.str file tf)) (hfile : ((P.main.file : Str) == file) = true)
    (hcell : K.lookup cc = some ⟨cl, cld, .cell (some (.ref D)), csl⟩) (hD : PySem.W.clsIn K D = some cdD) (hsub : PySem.W.mroIn K C (.ref D) = some true) (hg : mg "super" = none) (hat : (attr == ("__class__" : Str)) = false) (hks : scope.names.lookup ("super" : Str) = some .globalImplicit) (hkc : scope.names.lookup ("__class__" : Str) = some .free)
    (hka : scope.names.lookup slf = some .local) (hk : scope.kind = .function) (htop : (P.main.scope.names.lookup ("super" : Str)).isSome = false)
    (h : ∀ so h', PyProof.Rows.Fr h₀ L h' m → PyProof.Rows.News h₀ L h' ((so, PySem.W.ks_superObj D x C) :: news) → (∀ p ∈ news, p.1 < so) → Q (.ref so) { s with heap := h' }) :
    _root_.PySem.wpAt (model P w) A (.func body (PySem.W.ksEnv q scope L f (.ref cda) cc)) (attributeBase (.Call (.Name "super" p0) [] [] p1) attr (PySem.W.ksEnv q scope L f (.ref cda) cc) whole) Q E s := by
  have XK : K.In s.heap := X₀.keeps F.keep
  have up : ∀ b o, base.get? b = some o → s.heap.get? b = some o := fun b o e => F.keep b o (bk b o e)
  obtain ⟨mb, hb, hbb⟩ := M.blt
  have hsup : mb "super" = some (.type "super") := (hbb _ (by decide +kernel)).trans (by decide +kernel)
  obtain ⟨oD, hD1, hD2⟩ : ∃ oD, s.heap.get? D = some oD ∧ oD.data = .cls cdD := by
    revert hD
    unfold PySem.W.clsIn
    intro hD
    split at hD
    · next hl => exact ⟨_, XK _ _ hl, by cases hD; rfl⟩
    · cases hD
  refine PySem.ks_wpAt_super_base (env := PySem.W.ksEnv q scope L f (.ref cda) cc) hks hkc hat rfl (XK _ _ hf) rfl hp rfl (XK _ _ hc) rfl hvs hfile htop ?_
  rw [hs]
  refine PySem.W.ks_loadName_global hk hks (PySem.Calls.loadGlobal_builtin (env := PySem.W.ksEnv q scope L f (.ref cda) cc) (M.glob.keeps up) hg (hb.keeps up) hsup ⟨rfl, ?_⟩)
  refine wpAny_loadName_free hk hkc rfl ⟨_, XK _ _ hcell, rfl⟩ (wpAny_loadName_local hk hka F.ns hv ?_)
  obtain ⟨hh, gs, dr, tk, os⟩ := s
  refine PySem.ks_wpAny_isType_cls hD1 hD2 ⟨rfl, PySem.ks_wpAny_call_super hD1 hD2 I.at_ I.cls (fun c z => ?_) (PySem.W.looks_mroIn XK hsub) fun h' e k => ?_⟩
  · have n := I.no
    unfold PySem.W.notCls at n
    rw [z] at n
    cases n
  · exact (fun ⟨F', N', l'⟩ => h _ _ F' N' l') (PySem.W.ks_newsPush (s := ⟨hh, gs, dr, tk, os⟩) F N rfl e k)

/-- what is written of a class's own __init__ -/
structure IniC (P : Program) (K : PySem.W.Frag) (C fI cc cda : Addr) (fld slf y : Str) (params : Arguments) (scope : Scope) (qual : Str) : Prop where
  T : L2.OexC K C
  fd : ∃ (nm : Str) (dV kV doc pm ct oc : Value) (an od : Option Addr) (osl : Array (Option Value)) (v1 v2 : Expr) (rest : List Expr) (n : Nat) (p0 p1 p2 p3 p4 p5 p6 p7 p8 p9 : Pos),
    K.lookup fI = some ⟨oc, od, .func (PySem.W.ksFn nm qual params [.Expr (.Call (.Attribute (.Call (.Name "super" p0) [] [] p1) "__init__" p2) [.JoinedStr (v1 :: v2 :: rest) p3] [] p4) p5, .Assign [.Attribute (.Name slf p6) fld p7] (.Name y p8) p9] scope dV kV doc pm an (.ref cda) ct cc), osl⟩ ∧
    Tells y (v1 :: v2 :: rest) n ∧ n ≤ 100000 ∧ (∃ pl : Sem Bool, ∀ env : Env, eval (.Call (.Attribute (.Call (.Name "super" p0) [] [] p1) "__init__" p2) [.JoinedStr (v1 :: v2 :: rest) p3] [] p4) env = (do
      let ov ← attributeBase (.Call (.Name "super" p0) [] [] p1) "__init__" env (eval (.Call (.Name "super" p0) [] [] p1) env)
      standAt p2.atName
      let (f, first) ← holding [ov] (getMethod ov "__init__" pl)
      callWith p4 f first (backTo p4 (starEach [.JoinedStr (v1 :: v2 :: rest) p3] env)) [])) ∧
    (∀ env : Env, swapsWith (.Call (.Attribute (.Call (.Name "super" p0) [] [] p1) "__init__" p2) [.JoinedStr (v1 :: v2 :: rest) p3] [] p4) none p5.line env = pure false) ∧ (∀ env : Env, swapsWith (.Name y p8) (some (.Attribute (.Name slf p6) fld p7)) p9.line env = pure false) ∧ L2.Binds K (PySem.W.ksFn nm qual params [.Expr (.Call (.Attribute (.Call (.Name "super" p0) [] [] p1) "__init__" p2) [.JoinedStr (v1 :: v2 :: rest) p3] [] p4) p5, .Assign [.Attribute (.Name slf p6) fld p7] (.Name y p8) p9] scope dV kV doc pm an (.ref cda) ct cc) [slf, y] []
  code : PySem.W.codeIn K (.ref cda) qual = true
  head : ∃ ar, (params.posonlyargs ++ params.args).head? = some ar ∧ ar.arg = slf
  file : ∃ ccl cdd vs ccs file tf, K.lookup cda = some ⟨ccl, cdd, .fields vs, ccs⟩ ∧ vs[2]? = some (.str file tf) ∧ ((P.main.file : Str) == file) = true
  cell : ∃ cl cld csl, K.lookup cc = some ⟨cl, cld, .cell (some (.ref C)), csl⟩
  mro : PySem.W.mroIn K C (.ref C) = some true
  up : PySem.W.ks_superIn K C C "__init__" = some (some (.builtin "ValueError.__init__"))
  sub : PySem.W.subIn K (.ref C) (.type "ValueError") = some true
  ini : PySem.W.excInitIn K C bmVE "ValueError.__new__" = true
  op : PySem.W.nsIn K cStatics "thirdparty.any" = some none
  nofld : PySem.W.findIn K (.ref C) fld = some none
  sup : scope.names.lookup ("super" : Str) = some .globalImplicit
  lcls : scope.names.lookup ("__class__" : Str) = some .free
  lslf : scope.names.lookup slf = some .local
  lval : scope.names.lookup y = some .local
  kind : scope.kind = .function
  co : scope.isCoroutine = false
  gen : scope.isGenerator = false
  nocell : ∀ x ∈ scope.names, x.2 ≠ .cell
  ne : y ≠ slf
  dbs : (slf == ("__debug__" : Str)) = false
  dbv : (y == ("__debug__" : Str)) = false
  top : (P.main.scope.names.lookup ("super" : Str)).isSome = false
theorem init_call {K : PySem.W.Frag} {mg : Str → Option Value} {base h₀ : Heap} {s : Shared} {C fI cc cda a t0 : Addr} {fld slf y qual : Str} {params : Arguments} {scope : Scope} {u : Value} {v : V} {R : Result → Shared → Prop} (J : IniC P K C fI cc cda fld slf y params scope qual) (M : L2.Mod K mg base) (hg : mg "super" = none) (bk : ∀ b o, base.get? b = some o → h₀.get? b = some o)
    (kp : ∀ b o, h₀.get? b = some o → s.heap.get? b = some o) (hz : h₀.objs.size ≤ s.heap.objs.size) (ha : h₀.get? a = none) (hs : s.heap.get? a = some (PySem.HandSPX.excO C t0)) (hr : A.depth < recursionLimit) (rv : RelV v u) (sm : Small v)
    (h : ∀ dx h' tk, (∀ b o, h₀.get? b = some o → h'.get? b = some o) → h₀.objs.size ≤ dx → dx ≠ a → (∃ t1 : Addr, h'.get? a = some ({ cls := .ref C, dict := some dx, data := .fields #[.ref t1, .none, .none, .none, .bool false, .none] } : Obj)) → h'.Ns1 dx (fun z => if z = fld then some u else none) → R (.ok (.ret .none)) { s with heap := h', toks := tk }) :
    codeAny (model P w) A (.call (.ref fI) ⟨[.ref a, u], []⟩) R s := by
  obtain ⟨nm, dV, kV, doc, pm, ct, oc, an, od, osl, v1, v2, rest, n, p0, p1, p2, p3, p4, p5, p6, p7, p8, p9, lk, tl, hn, ⟨pl, hev⟩, hs1, hs2, hb⟩ := J.fd
  obtain ⟨ar, hh, har⟩ := J.head
  obtain ⟨ccl, cdd, vs, ccs, file, tf, hc, hvs, hfile⟩ := J.file
  obtain ⟨cl, cld, csl, hcell⟩ := J.cell
  obtain ⟨nmC, qC, NC, bs, bm, sn, sub, ab, col, dd, k0, k1, k2, k3, k5, hC, hbm⟩ := J.T.cls
  have hD : PySem.W.clsIn K C = some { name := nmC, bases := bs, mro := .ref C :: bm, ns := NC, qualname := qC, hasDict := true, slotNames := sn, subclasses := sub, abstract := ab, collection := col, hasDel := false } := by
    unfold PySem.W.clsIn
    rw [hC] <;> rfl
  have X₀ : K.In h₀ := M.kin.keeps bk
  have XK : K.In s.heap := X₀.keeps kp
  have bks : ∀ b o, base.get? b = some o → s.heap.get? b = some o := fun b o e => kp b o (bk b o e)
  have hbn := hb s [.ref a, u] XK rfl
  rw [List.append_nil] at hbn
  refine PySem.ks_codeAny_call_defAt (binds := [(slf, .ref a), (y, u)]) hr (XK _ _ lk) rfl (M.nolimit.keeps bks) (PySem.W.codeRec_of XK J.code) rfl hbn J.nocell (fun z hz => ?_) (fun h₁ hns hk₁ => ?_) J.co J.gen J.kind
  · simp only [List.mem_cons, List.not_mem_nil, or_false] at hz
    rcases hz with rfl | rfl
    · exact J.lslf
    · exact J.lval
  have la : a < s.heap.objs.size := Heap.lt_size hs
  have F1 : PyProof.Rows.Fr h₀ s.heap.objs.size h₁ (fun z => ([(slf, .ref a), (y, u)] : List (Str × Value)).reverse.lookup z) := ⟨hns, fun b o e => hk₁ b o (kp b o e), hz⟩
  have N1 : PyProof.Rows.News h₀ s.heap.objs.size h₁ [(a, PySem.W.excObj C t0 none .none)] := fun p hp => by
    obtain rfl := List.mem_singleton.mp hp
    exact ⟨hk₁ _ _ hs, Nat.ne_of_lt la, ha⟩
  have I1 : PySem.W.InstAt h₁ a (PySem.W.excObj C t0 none .none) C none := ⟨hk₁ _ _ hs, rfl, rfl, trivial⟩
  have m1 : ([(slf, .ref a), (y, u)] : List (Str × Value)).reverse.lookup slf = some (.ref a) := by
    have : (slf == y) = false := by simpa using fun z => J.ne z.symm
    simp [List.lookup, this]
  have m2 : ([(slf, .ref a), (y, u)] : List (Str × Value)).reverse.lookup y = some u := by simp [List.lookup]
  refine PySem.ks_wpAt_execs_cons (PySem.ks_wpAt_Expr_any (PySem.ks_wpAt_MethodCall (pl := pl) ?_ (hev _)) (by unfold interactive; simp [callEnv, newEnv, J.kind]) (hs1 _))
  refine at_super (s := ⟨h₁, s.gens, s.drawn, _, s.os⟩) F1 X₀ N1 M bk lk hh har m1 I1 hc hvs hfile hcell hD J.mro hg rfl J.sup J.lcls J.lslf J.kind J.top fun so h2 F2 N2 l2 => ?_
  have I2 : PySem.W.InstAt h2 a (PySem.W.excObj C t0 none .none) C none := ⟨(N2 (a, PySem.W.excObj C t0 none .none) (by simp)).1, rfl, rfl, trivial⟩
  refine PySem.W.kxs_method PySem.W.kxs_ValueError F2 X₀ N2 (by simp) I2 J.op J.up J.sub (by decide) fun q h3 F3 N3 l3 => ?_
  have ma : (a, PySem.W.excObj C t0 none .none) ∈ (q, PySem.W.kxs_mw "ValueError.__init__" a) :: (so, PySem.W.ks_superObj C a C) :: [(a, PySem.W.excObj C t0 none .none)] := by simp
  have qa : q ≠ a := Nat.ne_of_gt (l3 (a, PySem.W.excObj C t0 none .none) (by simp))
  have sa : so ≠ a := Nat.ne_of_gt (l2 (a, PySem.W.excObj C t0 none .none) (by simp))
  refine PySem.W.kxs_callWith1 (i := "ValueError.__init__") (x := a) N3 (by simp) (PyProof.Rows.spliced_more (PyProof.Rows.JoinedStr_many ?_))
  refine tells_join (env := PySem.W.ksEnv qual scope s.heap.objs.size fI (.ref cda) cc) (m := fun z => ([(slf, .ref a), (y, u)] : List (Str × Value)).reverse.lookup z) J.kind J.lval J.dbv m2 rv sm tl Str.empty _ F3.ns (by show 0 + n ≤ sizeLine; rw [sizeLine_eq]; omega) fun z t tk => PyProof.Rows.spliced_none ⟨PySem.W.kxs_at N3 (by simp), ?_⟩
  refine PySem.W.kxs_call F3 X₀ N3 F.excBase_ValueError J.ini (by simp) (.tail qa (.tail sa (.head (fun p hp => nomatch hp)))) (by show 1 ≤ sizeLine; rw [sizeLine_eq]; omega) fun t' h4 F4 N4 l4 => ?_
  have hx4 : h4.get? a = some (PySem.W.excObj C t' none .none) := (N4 (a, PySem.W.excObj C t' none .none) (by simp)).1
  have X4 : K.In h4 := X₀.keeps F4.keep
  refine PySem.ks_wpAt_execs_cons (PySem.ks_wpAt_Assign_Attr ?_ (hs2 _))
  refine wpAt_of_wpAny (PySem.ESX.ldL F4.ns m2 (PySem.ESX.ldL F4.ns m1 ?_ J.kind J.lslf J.dbs) J.kind J.lval J.dbv)
  refine PySem.W.set_plain (od := none) X4 (show PySem.W.InstAt h4 a (PySem.W.excObj C t' none .none) C none from ⟨hx4, rfl, rfl, trivial⟩) J.T.sa ?_
  refine PySem.HandSPX.exc_osa X4 hx4 hD (show PySem.HandSPX.refsVE (.ref C :: bm) = true from hbm) rfl J.nofld fun h' tk' dx k dn dne hx hn => ?_
  have hL : s.heap.objs.size ≤ h4.objs.size := by
    obtain ⟨o, es, ep, e, _⟩ := F4.ns
    exact Nat.le_of_lt (Heap.lt_size e)
  refine wpAt_of_wpAny ?_
  simp only [execs]
  refine wpAny_pure ?_
  exact h dx h' tk' (fun b o e => k b o (fun z => by rw [z, ha] at e; cases e) (F4.keep b o e)) (Nat.le_trans hz (Nat.le_trans hL dn)) dne ⟨_, hx⟩ hn
end
/-- X(e), the error made, its value kept -/
def tIni (C : Addr) (fld : Str) (te : TE) : L2.St → Hp → XK → Prop := fun σ H Q => te σ H fun v H1 => Small v ∧ ∀ d, H1 d = none → Q (.ref C) (some d) (upd H1 d (.xd [(fld, v)]))
theorem pmk_init {X : Cx} {C fI cc cda : Addr} {x fld slf y qual : Str} {params : Arguments} {scope : Scope} {k : Nat} {e : Expr} {te : TE} {p pos : Pos} (J : IniC X.prog X.K C fI cc cda fld slf y params scope qual) (iC : PySem.W.findIn X.K (.ref C) "__init__" = some (some (.ref fI))) (tI : PySem.W.typeIn X.K (.ref fI) = some (.type "function"))
    (hsu : X.mg "super" = none) (hr : Room (k + 1) X.A) (hg : Gl X x) (hm : X.mg x = some (.ref C)) (ha : PE X e te) (hdb : (x == ("__debug__" : Str)) = false := by decide)
    (he : starEach [e] X.env = (false, eval e X.env) :: starEach [] X.env := by rfl) (hpl : (backTo pos (starEach [] X.env)).any (·.1) = false := by rfl) : PMk X (.Call (.Name x p) [e] [] pos) (tIni C fld te) := by
  intro pins s σ H Q I h
  obtain ⟨nm, q, N, bs, bm, sn, sub, ab, col, dd, k0, k1, k2, k3, k5, hC, hbm⟩ := J.T.cls
  have hP : PA X [e] (fun σ H Q => te σ H fun v H1 => Q [v] H1) := PA.imp (pa_cons ha pa_nil he) fun σ H Q z => z
  refine wpAny_Call_Name_kw (ld_glob I hg hm ?_ hdb)
  let Q' : List V → Hp → Prop := fun vs H1 => match vs with
    | [v] => Small v ∧ ∀ d, H1 d = none → Q (.ref C) (some d) (upd H1 d (.xd [(fld, v)]))
    | _ => False
  refine PySem.W.callWith_K (h₀ := X.base) I.ok.mod.kin J.T.kC (thn (hP.run pos pins s σ H Q' I h) ?_) he hpl
  rintro us s1 ⟨vs, H1, I1, r1, hq⟩
  obtain ⟨v, rfl, sm, hq⟩ : ∃ v, vs = [v] ∧ Small v ∧ ∀ d, H1 d = none → Q (.ref C) (some d) (upd H1 d (.xd [(fld, v)])) := by
    match vs, hq with
    | [v], hq => exact ⟨v, rfl, hq.1, hq.2⟩
  obtain ⟨u, rfl, rv⟩ : ∃ u, us = [u] ∧ RelV v u := by
    cases r1 with
    | cons a b => cases b; exact ⟨_, rfl, a⟩
  refine ⟨I1.kIn, ?_⟩
  obtain ⟨hp, gs, dr, tk, os⟩ := s1
  have ha0 : hp.get? (hp.objs.size + 1) = none := by
    cases z : hp.get? (hp.objs.size + 1) with
    | none => rfl
    | some o => exact absurd (Heap.lt_size z) (Nat.not_lt.mpr (Nat.le_succ _))
  have hget : ((hp.push (PySem.W.kdv_tup [u])).push (PySem.HandSPX.excO C hp.objs.size)).get? (hp.objs.size + 1) = some (PySem.HandSPX.excO C hp.objs.size) := by heap_get
  have up : ∀ b o, hp.get? b = some o → ((hp.push (PySem.W.kdv_tup [u])).push (PySem.HandSPX.excO C hp.objs.size)).get? b = some o := fun b o z => Heap.get?_push_of_some _ (Heap.get?_push_of_some _ z)
  have hsz : hp.objs.size ≤ ((hp.push (PySem.W.kdv_tup [u])).push (PySem.HandSPX.excO C hp.objs.size)).objs.size :=
    Nat.le_of_lt (Nat.lt_trans (Nat.lt_succ_self _) (Heap.lt_size hget))
  refine wpAny_call (PySem.HandSPX.call_own F.excBase_ValueError (fun Y => PySem.HandSPX.refsVE_contains Y bm hbm) (I1.kIn _ _ hC) (PySem.W.looks_findIn I1.kIn iC) (fun self => PySem.W.bind_fn I1.kIn self tI) (by show 1 ≤ sizeLine; rw [sizeLine_eq]; omega) ?_)
  refine init_call (h₀ := hp) J I1.ok.mod hsu I1.bk up hsz ha0 hget (by rw [L2.make_depth]; have := hr.dp; omega) rv sm fun dx h' tk' kp hz ne hx hn => ⟨rfl, ?_⟩
  obtain ⟨t1, hx⟩ := hx
  obtain ⟨GH, g1, g2⟩ := restrict h' fun b => decide (b ≠ hp.objs.size + 1)
  have gk : ∀ b, b ≠ hp.objs.size + 1 → GH.get? b = h'.get? b := fun b z => g1 b (decide_eq_true z)
  have ge : GH.get? (hp.objs.size + 1) = none := g2 _ (by simp)
  have nd : H1 dx = none := I1.hok.fresh hz
  have na : H1 (hp.objs.size + 1) = none := I1.hok.fresh (Nat.le_succ _)
  have J1 : Inv X pins σ (upd H1 dx (.xd [(fld, v)])) ⟨GH, gs, dr, tk', os⟩ := I1.laid (t' := tk') (h' := GH) (fun b o z => by rw [gk b (fun y => by rw [y, ha0] at z; cases z)]; exact kp b o z) hz
    ⟨_, hn.at fun o z => (gk dx ne).trans z, L2.relO_put (fs := []) rv fun _ => True.intro⟩
  refine ⟨hp.objs.size + 1, _, _, ⟨GH, gs, dr, tk', os⟩, _, .ref C, some dx, rfl, J1, fun b o z => ?_, ge, hx, ⟨rfl, rfl⟩, rfl, rfl, ?_, rfl, I1.bare, raises_own J.T.exC J.T.tyC, hq dx nd⟩
  · by_cases y : b = hp.objs.size + 1
    · rw [y, ge] at z; cases z
    · exact (gk b y).symm.trans z
  · rw [upd_ne (fun z => ne z.symm)]
    exact na
end Dx

/-! Dx29: raise X(e), the value kept; what a suite asks of such an error. -/
namespace Dx
open PySem PySem.Spec L2
variable {G : Gx} {X : Cx} {W : WX}
def kRaiseI (c : Nat) (fld : String) (ρ : Ev) : D → Sg → Fl
  | .non, S => .exc c [(fld, .non)] ρ S
  | .int i, S => if -4611686018427387904 < i ∧ i < 4611686018427387904 then .exc c [(fld, .int i)] ρ S else .stuck
  | _, _ => .stuck
def sRaiseI (c : Nat) (fld : String) (f : FE) : FS := fun ρ S => (f ρ S).go ρ (kRaiseI c fld ρ)
@[simp] theorem sRaiseI_at {c : Nat} {fld : String} {f : FE} {ρ : Ev} {S : Sg} : sRaiseI c fld f ρ S = (f ρ S).go ρ (kRaiseI c fld ρ) := rfl
@[simp] theorem kRaiseI_non {c : Nat} {fld : String} {ρ : Ev} {S : Sg} : kRaiseI c fld ρ .non S = .exc c [(fld, .non)] ρ S := rfl
@[simp] theorem kRaiseI_int {c : Nat} {fld : String} {ρ : Ev} {S : Sg} {i : Int} : kRaiseI c fld ρ (.int i) S = if -4611686018427387904 < i ∧ i < 4611686018427387904 then .exc c [(fld, .int i)] ρ S else .stuck := rfl
theorem small_int {i : Int} (h : -4611686018427387904 < i ∧ i < 4611686018427387904) : i.natAbs.log2 < 1920 := by
  have h1 : i.natAbs < 2 ^ 1920 := Nat.lt_of_lt_of_le (show i.natAbs < 4611686018427387904 by omega) (by decide +kernel)
  by_cases z : i.natAbs = 0
  · rw [z]; decide
  · exact (Nat.log2_lt z).mpr h1
theorem ds_raiseI {c : Nat} {fI cc cda : Addr} {x fld0 slf y qual : Str} {fld : String} {params : Arguments} {scope : Scope} {k : Nat} {e : Expr} {f : FE} {p pos pos' : Pos} (hc : X.calm = true) (A : Amb G X W) (J : IniC X.prog X.K (G.cls c) fI cc cda fld0 slf y params scope qual) (ef : fld0 = Str.ofString fld)
    (iC : PySem.W.findIn X.K (.ref (G.cls c)) "__init__" = some (some (.ref fI))) (tI : PySem.W.typeIn X.K (.ref fI) = some (.type "function")) (hsu : X.mg "super" = none) (hm : X.mg x = some (.ref (G.cls c))) (hr : Room (k + 1) X.A) (he : PE X e (TD G W f)) (hg : Gl X x := by rfl) (hdb : (x == ("__debug__" : Str)) = false := by decide)
    (hst : starEach [e] X.env = (false, eval e X.env) :: starEach [] X.env := by rfl) (hpl : (backTo pos (starEach [] X.env)).any (·.1) = false := by rfl) : PS X (.Raise (some (.Call (.Name x p) [e] [] pos)) none pos') (TDS G W (sRaiseI c fld f)) := by
  refine PS.imp (ps_raise hc A.tk (pmk_init J iC tI hsu hr hg hm he hdb hst hpl)) fun Z σ H ⟨μ, ρ, S, en, rp, po⟩ => ?_
  refine ⟨μ, ρ, S, en, rp, (posts_go en po).mono fun v H1 ⟨μ1, d, S1, pe, rp1, dd, p1⟩ => ?_⟩
  subst ef
  have fin : ∀ (d : D) (v : V) (ρ : Ev), Den G μ1 H1 d v → EnvD G μ1 H1 ρ σ → PostS G W μ1 H1 Z (.exc c [(fld, d)] ρ S1) → ∀ dx, H1 dx = none → W (.ref (G.cls c)) (some dx) σ (upd H1 dx (.xd [(Str.ofString fld, v)])) := fun d v ρ dv e1 q dx hn => by
    have pn := per_new (μ := μ1) A.ok (o := .xd [(Str.ofString fld, v)]) hn
    exact q μ1 _ σ _ _ pn (rp1.new A.ok hn) (e1.per pn) ⟨rfl, .inr ⟨by simp, dx, _, rfl, upd_same, rfl, .cons (dv.per pn) .nil⟩⟩
  have e1 := en.per pe
  cases d with
  | non =>
    cases dd
    exact ⟨.inl rfl, fin .non _ ρ .non e1 p1⟩
  | int i =>
    cases dd
    rw [kRaiseI_int] at p1
    split at p1
    · next h => exact ⟨.inr ⟨i, rfl, small_int h⟩, fin (.int i) _ ρ (.int i) e1 p1⟩
    · exact p1.elim
  | _ => exact p1.elim
/-! ### isinstance of a caught error that has a dict -/
section
open PySem.W
variable {K : PySem.W.Frag} {P : Program} {w : World} {A : Around} {E : Value → Shared → Prop} {x D : Addr} {ox od : Obj}
set_option maxHeartbeats 2000000 in
theorem ask_classD {s : Shared} {Q : Option Value → Shared → Prop} (C : L2.ExcC K D) (X : K.In s.heap) (I : InstAt s.heap x ox D (some od)) (h : Q (some (.ref D)) { s with toks := s.toks + 1 }) : wpAny (model P w) A (getAttr? (.ref x) "__class__") Q E s := by
  obtain ⟨cd, hcd, _⟩ := any_some C.hd
  have found : findObj K D (some od) "__class__" = some (.bind (.builtin "getset_descriptor.__get__") (.builtin "object.__class__")) :=
    findObj_data (by rw [hcd]; rfl) C.ha C.hn C.ht
  obtain ⟨hp, g, d, t, os⟩ := s
  have ty := I.type (M := model P w)
  have ga := looks_findIn (M := model P w) X C.hg
  have gg := looks_findIn (M := model P w) X C.hk
  have fo := looks_find (M := model P w) X I found
  have isE : Looks (model P w) hp (isInstance (.ref x) (.type "BaseException")) true := ty.andThen (looks_subIn X C.hs)
  have no1 : (Value.builtin "BaseException.__getattribute__" == Value.builtin "object.__getattribute__") = false := by decide +kernel
  have no2 : (onTheHeap (Value.ref D) && Value.builtin "BaseException.__getattribute__" == Value.builtin "object.__getattribute__") = false := by
    rw [no1]; rfl
  unfold getAttr? getAttrBy? getAttrBy
  refine wpAny_bind (wpAny_mkText (wpAny_bind (wpAny_attempt (wpAny_holding ?_))))
  refine wpAny_bind (ty.at (wpAny_bind (ga.at ?_)))
  show wpAny _ _ (if (onTheHeap (Value.ref D) && (Value.builtin "BaseException.__getattribute__" == Value.builtin "object.__getattribute__")) = true then _ else _) _ _ _
  rw [no2, if_neg Bool.false_ne_true]
  unfold getAttrByItsOwn hookBefore
  refine wpAny_bind ?_
  rw [if_pos (show onTheHeap (Value.ref D) = true by rfl)]
  refine gg.at (wpAny_bind (wpAny_attempt (wpAny_holding ?_)))
  unfold callGetattribute
  rw [show (false && onTheHeap (Value.builtin "BaseException.__getattribute__")) = false by rfl, if_neg Bool.false_ne_true]
  unfold boundAndCalled
  rw [PySem.F.excAttr_ValueError.ga.bind (.ref x)]
  refine wpAny_bind (wpAny_pure ?_)
  show wpAny _ _ (call (.builtin "BaseException.__getattribute__") [Value.ref x, Value.str "__class__" t]) _ _ _
  refine wpAny_call ?_
  refine codeAny_call_builtin PySem.F.excAttr_ValueError.ga.plain PySem.F.entry_bexc_ga ?_
  have args := PySem.F.args_bexc_ga (.ref x) (.str "__class__" t)
  refine @check_slot (model P w) _ _ ⟨hp, g, d, t + 1, os⟩ "BaseException.__getattribute__"
    "BaseException" "__getattribute__" (.ref x) [.str "__class__" t] [] _
    (by decide +kernel) (by decide +kernel) isE args ?_
  unfold Builtin.«object.__getattribute__»
  refine wpAny_bind (wpAny_of_eq (a := ((Value.ref x : Value), [Value.str "__class__" t])) (by first | (simp only [slotArgs]; rfl) | rfl) ?_)
  refine wpAny_bind (wpAny_pure (wpAny_bind (ty.at (wpAny_bind (fo.at ?_)))))
  show wpAny _ _ (holding [Value.builtin "object.__class__"] (call (.builtin "getset_descriptor.__get__") [Value.builtin "object.__class__", Value.ref x, Value.ref D]) >>= ret) _ _ _
  refine wpAny_bind (wpAny_holding (wpAny_call (class_get (s := ⟨hp, g, d, t + 1, os⟩) (ox := ox) (od := some od) X I C.hm (wpAny_pure ?_))))
  show wpAny _ _ (handedOut (.ref D)) _ _ _
  rw [handedOut_of (v := .ref D) rfl]
  first
    | exact wpAny_pure h
    | exact wpAny_pure (wpAny_pure h)
    | exact wpAny_pure (wpAny_bind (wpAny_pure (wpAny_pure h)))
theorem kit_excD (C : L2.ExcC K D) : KitX K (.ref x) (.ref D) (fun h => InstAt h x ox D (some od)) where
  ty _ _ _ I := I.type
  it M h X _ := by
    obtain ⟨cd, hcd, _⟩ := any_some C.hd
    revert hcd
    unfold clsIn
    intro hcd
    split at hcd
    · next hl =>
      intro A' Q' E' s' k q
      unfold isType loadHead
      refine wpAny_bind ?_
      refine wpAny_loadPart (k _ _ (X _ _ hl)) ?_
      exact wpAny_pure q
    · cases hcd
  ne h tp dd its n sl X htp := by
    obtain ⟨cd, hcd, _⟩ := any_some C.hd
    revert hcd
    unfold clsIn
    intro hcd
    split at hcd
    · next hl =>
      by_cases e : D = tp
      · subst e
        have z := X _ _ hl
        rw [htp] at z
        cases z
      · simpa using e
    · cases hcd
  ca X I k := ask_classD C X I k
end
theorem ns1_get {h : Heap} {d : Addr} {m : Str → Option Value} (n : h.Ns1 d m) : ∃ o, h.get? d = some o := by
  obtain ⟨o, _, _, e, _⟩ := n
  exact ⟨o, e⟩
def rIsD (K : PySem.W.Frag) (D a dd : Addr) : List V → Hp → VK → Prop := fun xs H Q => ∃ (C : Addr) (b : Bool) (gs : List (Str × V)), xs = [.ref a, .ref C] ∧ H dd = some (.xd gs) ∧ PySem.W.kitOne K (.ref D) (.ref C) = some b ∧ Q (.bl b) H
theorem call_isD {a D dd : Addr} {oe : Obj} {pn : List (Addr × Obj)} (C : ExcC X.K D) (hz : Zc (.ref D) (some dd) oe) (hf : ∃ vs, oe.data = .fields vs) : CallR (X.suite a ((a, oe) :: pn)) (.builtin "isinstance") (rIsD X.K D a dd) := by
  rintro pins s σ H xs us Q I r ⟨c, b, gs, rfl, hd, hk, q⟩
  match us, r with
  | [_, _], .cons r1 (.cons r2 .nil) =>
    cases r1
    cases r2
    have at_ := (I.pin (a, oe) (List.mem_append.mpr (.inl List.mem_cons_self))).1
    obtain ⟨vs, hv⟩ := hf
    have hx : ObjOk X.prog X.w H s.heap dd (.xd gs) := I.hok dd _ hd
    obtain ⟨mA, hns, _⟩ := hx
    obtain ⟨o, ho⟩ := ns1_get hns
    have J : PySem.W.InstAt s.heap a oe D (some o) := ⟨at_, hz.1, by unfold PySem.W.notCls; rw [hv], by rw [hz.2]; exact ho⟩
    exact PySem.W.kia_one (kit_excD C) I.kIn J hk (fun z => nomatch z) fun tk => ⟨.bl b, H, I.kept (t' := tk) fun _ _ z => z, rfl, q⟩
theorem exv_den {μ : List Addr} {H : Hp} {a dd : Nat} {ks : List String} {xs : List D} {v : V} (g : G.Ok) (h : Den G μ H (.exv a (some dd) ks xs) v) : v = .ref a ∧ ∃ gs, H dd = some (.xd gs) ∧ gs.map (·.1) = ks.map Str.ofString ∧ DenA G μ H xs (gs.map (·.2)) := by
  cases h with
  | exv h1 h2 =>
    obtain ⟨gs, e1, e2, e3⟩ := (g.xd _ _ _ _).mp h1
    exact ⟨rfl, gs, e1, e2, by rw [e3]; exact h2⟩
/-- a suite for errors with a dict, one for those without -/
def byDict (d : Option Nat) (g : Nat → FS) (h : FS) : FS := match d with
  | some dd => g dd
  | none => h
@[simp] theorem byDict_some {dd : Nat} {g : Nat → FS} {h : FS} : byDict (some dd) g h = g dd := rfl
@[simp] theorem byDict_none {g : Nat → FS} {h : FS} : byDict none g h = h := rfl
def kIsD (a dd : Nat) (b : Bool) (S : Sg) : Option (Option D) → R D
  | some (some (.exv a' (some d') _ _)) => if a' = a ∧ d' = dd then .ok (.bl b) S else .stuck
  | _ => .stuck
def xIsD (i a dd : Nat) (b : Bool) : FE := fun ρ S => kIsD a dd b S ρ[i]?
@[simp] theorem xIsD_at {i a dd : Nat} {b : Bool} {ρ : Ev} {S : Sg} : xIsD i a dd b ρ S = kIsD a dd b S ρ[i]? := rfl
@[simp] theorem kIsD_at {a dd a' d' : Nat} {b : Bool} {ks : List String} {xs : List D} {S : Sg} : kIsD a dd b S (some (some (.exv a' (some d') ks xs))) = if a' = a ∧ d' = dd then .ok (.bl b) S else .stuck := rfl
theorem de_isD {i a c k dd : Nat} {oe : Obj} {pn : List (Addr × Obj)} {b : Bool} {e x : Str} {p q1 q2 pos : Pos} (A : Amb G (X.suite a ((a, oe) :: pn)) W) (C : ExcC X.K (G.cls c)) (hz : Zc (.ref (G.cls c)) (some dd) oe) (hf : ∃ vs, oe.data = .fields vs) (hx : X.mg x = some (.ref (G.cls k))) (hk : PySem.W.kitOne X.K (.ref (G.cls c)) (.ref (G.cls k)) = some b)
    (hm : X.mg "isinstance" = none) (hN : X.N[i]? = some e := by rfl) (hv : Vis X.env.scope e := by first | exact Or.inl rfl | exact Or.inr (Or.inl rfl) | exact Or.inr (Or.inr rfl)) (hd : (e == ("__debug__" : Str)) = false := by decide) (hcd : (e == ("__classdict__" : Str)) = false := by decide) (hg : Gl X "isinstance" := by rfl) (hg2 : Gl X x := by rfl)
    (hdx : (x == ("__debug__" : Str)) = false := by decide) (hs : starEach [.Name e q1, .Name x q2] X.env = (false, eval (.Name e q1) X.env) :: starEach [.Name x q2] X.env := by rfl) (hs2 : starEach [.Name x q2] X.env = (false, eval (.Name x q2) X.env) :: starEach [] X.env := by rfl) (hpl : (backTo pos (starEach [.Name x q2] X.env)).any (·.1) = false := by rfl) :
    PE (X.suite a ((a, oe) :: pn)) (.Call (.Name "isinstance" p) [.Name e q1, .Name x q2] [] pos) (TD G W (xIsD i a dd b)) := by
  have ve := pe_var (X := X.suite a ((a, oe) :: pn)) (i := i) hN hv hd hcd (pos := q1)
  have vx := pe_glob (X := X.suite a ((a, oe) :: pn)) hg2 hx (v := .ref (G.cls k)) rfl hdx (pos := q2)
  refine PE.imp (pe_callB (X := X.suite a ((a, oe) :: pn)) (call_isD C hz hf) hg hm PyProof.Rows.boot_isinstance (pa_cons ve (pa_cons vx pa_nil hs2) hs) (by decide) (by decide) hs hpl) ?_
  rintro σ H Q ⟨μ, ρ, S, en, rp, po⟩
  rw [xIsD_at] at po
  cases hr : ρ[i]? with
  | none => rw [hr] at po; exact po.elim
  | some o =>
    rw [hr] at po
    match o, hr, po with
    | some (.exv a' (some d') ks xs), hr, po =>
      obtain ⟨v, h1, h2⟩ := en.at_ i _ hr
      rw [kIsD_at] at po
      obtain ⟨⟨ea, ed⟩, p2⟩ := post_ite po
      subst ea
      subst ed
      obtain ⟨rfl, gs, e1, _, _⟩ := exv_den A.ok h2
      exact ⟨_, h1, G.cls k, b, gs, rfl, e1, hk, p2 _ _ _ .refl rp (.bl b)⟩
def kEf (a dd : Nat) (f : String) (S : Sg) : Option (Option D) → R D
  | some (some (.exv a' (some d') ks xs)) => if a' = a ∧ d' = dd then (match getCd ks xs f with
    | some x => .ok x S
    | none => .stuck) else .stuck
  | _ => .stuck
def xEf (i a dd : Nat) (f : String) : FE := fun ρ S => kEf a dd f S ρ[i]?
@[simp] theorem xEf_at {i a dd : Nat} {f : String} {ρ : Ev} {S : Sg} : xEf i a dd f ρ S = kEf a dd f S ρ[i]? := rfl
theorem kEf_at {a dd a' d' : Nat} {f : String} {ks : List String} {xs : List D} {S : Sg} : kEf a dd f S (some (some (.exv a' (some d') ks xs))) = if a' = a ∧ d' = dd then (match getCd ks xs f with
    | some x => .ok x S
    | none => .stuck) else .stuck := rfl
@[simp] theorem kEf_one {a dd : Nat} {f : String} {x : D} {S : Sg} : kEf a dd f S (some (some (.exv a (some dd) [f] [x]))) = .ok x S := by
  rw [kEf_at, if_pos ⟨rfl, rfl⟩]
  have : getCd [f] [x] f = some x := by simp [getCd]
  rw [this]
theorem lookup_getCd {μ : List Addr} {H : Hp} {f : String} {x : D} : ∀ {ks : List String} {xs : List D} {gs : List (Str × V)}, gs.map (·.1) = ks.map Str.ofString → DenA G μ H xs (gs.map (·.2)) → getCd ks xs f = some x → ∃ v, gs.lookup (Str.ofString f) = some v ∧ Den G μ H x v := by
  intro ks
  induction ks with
  | nil => intro xs gs h1 h2 h3; simp [getCd] at h3
  | cons k ks ih =>
    intro xs gs h1 h2 h3
    match gs, h1, xs, h2, h3 with
    | (k', v) :: gs, h1, y :: xs, .cons d1 d2, h3 =>
      simp only [List.map_cons, List.cons.injEq] at h1
      obtain ⟨rfl, h1⟩ := h1
      by_cases e : k = f
      · subst e
        have : y = x := by simpa [getCd] using h3
        subst this
        exact ⟨v, by simp [List.lookup], d1⟩
      · have h4 : getCd ks xs f = some x := by
          simpa [getCd, e] using h3
        obtain ⟨w, e1, e2⟩ := ih h1 d2 h4
        have ne : (Str.ofString f == Str.ofString k) = false := by
          simpa using fun z => e (ofS_inj z).symm
        exact ⟨w, by rw [List.lookup, ne]; exact e1, e2⟩
theorem de_ef {i a c dd : Nat} {oe : Obj} {pn : List (Addr × Obj)} {f : String} {e fs : Str} {q1 pos : Pos} (A : Amb G (X.suite a ((a, oe) :: pn)) W) (T : XfC X.K (G.cls c)) (hno : PySem.W.findIn X.K (.ref (G.cls c)) fs = some none) (hz : Zc (.ref (G.cls c)) (some dd) oe) (hf : ∃ vs, oe.data = .fields vs) (ef : fs = Str.ofString f := by rfl)
    (hN : X.N[i]? = some e := by rfl) (hv : Vis X.env.scope e := by first | exact Or.inl rfl | exact Or.inr (Or.inl rfl) | exact Or.inr (Or.inr rfl)) (hd : (e == ("__debug__" : Str)) = false := by decide) (hcd : (e == ("__classdict__" : Str)) = false := by decide)
    (hb : attributeBase (.Name e q1) fs X.env (eval (.Name e q1) X.env) = eval (.Name e q1) X.env := by rfl) : PE (X.suite a ((a, oe) :: pn)) (.Attribute (.Name e q1) fs pos) (TD G W (xEf i a dd f)) := by
  have ve := pe_var (X := X.suite a ((a, oe) :: pn)) (i := i) hN hv hd hcd (pos := q1)
  refine PE.imp (pe_xf T hno hz hf ve hb) ?_
  rintro σ H Q ⟨μ, ρ, S, en, rp, po⟩
  rw [xEf_at] at po
  subst ef
  cases hr : ρ[i]? with
  | none => rw [hr] at po; exact po.elim
  | some o =>
    rw [hr] at po
    match o, hr, po with
    | some (.exv a' (some d') ks xs), hr, po =>
      obtain ⟨v, h1, h2⟩ := en.at_ i _ hr
      rw [kEf_at] at po
      obtain ⟨⟨ea, ed⟩, p2⟩ := post_ite po
      subst ea
      subst ed
      obtain ⟨rfl, gs, e1, e2, e3⟩ := exv_den A.ok h2
      cases hx : getCd ks xs f with
      | none => rw [hx] at p2; exact p2.elim
      | some x =>
        rw [hx] at p2
        obtain ⟨v, l1, l2⟩ := lookup_getCd e2 e3 hx
        exact ⟨_, h1, rfl, rfl, d', gs, v, rfl, e1, l1, p2 _ _ _ .refl rp l2⟩
end Dx

/-! Dx30: such a class, as its written part tells it. -/
namespace Dx
open PySem PySem.Spec L2
structure IniX (P : Program) (K : PySem.W.Frag) (mg : Str → Option Value) (C : Addr) (x : Str) (fld : String) : Prop where
  ex : ∃ (fI cc cda : Addr) (fld0 slf y : Str) (params : Arguments) (scope : Scope) (qual : Str), IniC P K C fI cc cda fld0 slf y params scope qual ∧ fld0 = Str.ofString fld ∧ PySem.W.findIn K (.ref C) "__init__" = some (some (.ref fI)) ∧ PySem.W.typeIn K (.ref fI) = some (.type "function")
  gC : mg x = some (.ref C)
  su : mg "super" = none
theorem ds_raiseX {G : Gx} {X : Cx} {W : WX} {c : Nat} {x : Str} {fld : String} {e : Expr} {f : FE} {p pos pos' : Pos} (hc : X.calm = true) (A : Amb G X W) (J : IniX X.prog X.K X.mg (G.cls c) x fld) (hr : Room 1 X.A) (he : PE X e (TD G W f)) (hg : Gl X x := by rfl) (hdb : (x == ("__debug__" : Str)) = false := by decide)
    (hst : starEach [e] X.env = (false, eval e X.env) :: starEach [] X.env := by rfl) (hpl : (backTo pos (starEach [] X.env)).any (·.1) = false := by rfl) : PS X (.Raise (some (.Call (.Name x p) [e] [] pos)) none pos') (TDS G W (sRaiseI c fld f)) := by
  obtain ⟨fI, cc, cda, fld0, slf, y, params, scope, qual, I, ef, iC, tI⟩ := J.ex
  exact ds_raiseI (k := 0) hc A I ef iC tI J.su J.gC hr he hg hdb hst hpl
def xStk : FE := fun _ _ => .stuck
theorem de_stk {G : Gx} {X : Cx} {W : WX} {e : Expr} : PE X e (TD G W xStk) := ⟨fun pins s σ H Q I ⟨μ, ρ, S, en, rp, po⟩ => po.elim⟩
theorem xfOf {K : PySem.W.Frag} {C : Addr} (h : ExcC K C) : XfC K C := ⟨h.hg, h.hk, h.hs, h.hd⟩
theorem oexC_of {K : PySem.W.Frag} {C : Addr} {y : Str} {nm q : Str} {N : Addr} {bs bm : List Value} {sn : List Str} {sub : List Value} {ab : Bool} {col : Option Bool} {dd : Option Addr} {k0 k1 k2 k3 k5 : Option Value} (_ : PySem.W.nsIn K mainGlobals y = some (some (.ref C)))
    (l : K.lookup C = some (excClassObj nm q C N bs bm true sn sub ab col dd k0 k1 k2 k3 k5 "ValueError.__new__")) (r : PySem.HandSPX.refsVE bm = true) (a : PySem.W.findIn K (.ref C) "__setattr__" = some (some (.builtin "object.__setattr__"))) (b : PySem.W.subIn K (.ref C) (.type "BaseException") = some true) (c : PySem.W.typeIn K (.ref C) = some (.type "type")) (d : PySem.W.keepIn K (.ref C) = true) : OexC K C :=
  ⟨⟨_, _, _, _, _, _, _, _, _, _, _, _, _, _, _, l, r⟩, a, b, c, d⟩
theorem iniX_of {P : Program} {K : PySem.W.Frag} {h : Heap} {mg : Str → Option Value} {st : Stmt} {x fld0 slf y nm qual : Str} {fld : String} {C fI cc cda : Addr} {dV kV doc pm ct oc ccl cl : Value} {an od cdd cld : Option Addr} {osl ccs csl : Array (Option Value)} {vs : Array Value} {file : Str} {tf : Tok} {v1 v2 : Expr} {rest : List Expr} {n : Nat} {p0 p1 p2 p3 p4 p5 p6 p7 p8 p9 : Pos} {ar : Arg} {pl : Sem Bool}
    (X : K.In h) (Gn : h.Ns mainGlobals mg) (aC : PySem.W.nsIn K mainGlobals x = some (some (.ref C))) (T : OexC K C) (iC : PySem.W.findIn K (.ref C) "__init__" = some (some (.ref fI))) (tI : PySem.W.typeIn K (.ref fI) = some (.type "function"))
    (lk : K.lookup fI = some ⟨oc, od, .func (PySem.W.ksFn nm qual (defArgs st) (defBody st) (defScope st) dV kV doc pm an (.ref cda) ct cc), osl⟩)
    (hbody : defBody st = [.Expr (.Call (.Attribute (.Call (.Name "super" p0) [] [] p1) "__init__" p2) [.JoinedStr (v1 :: v2 :: rest) p3] [] p4) p5, .Assign [.Attribute (.Name slf p6) fld0 p7] (.Name y p8) p9])
    (tl : Tells y (v1 :: v2 :: rest) n) (hn : n ≤ 100000) (hev : ∀ env : Env, eval (.Call (.Attribute (.Call (.Name "super" p0) [] [] p1) "__init__" p2) [.JoinedStr (v1 :: v2 :: rest) p3] [] p4) env = (do
      let ov ← attributeBase (.Call (.Name "super" p0) [] [] p1) "__init__" env (eval (.Call (.Name "super" p0) [] [] p1) env)
      standAt p2.atName
      let (f, first) ← holding [ov] (getMethod ov "__init__" pl)
      callWith p4 f first (backTo p4 (starEach [.JoinedStr (v1 :: v2 :: rest) p3] env)) []))
    (hs1 : ∀ env : Env, swapsWith (.Call (.Attribute (.Call (.Name "super" p0) [] [] p1) "__init__" p2) [.JoinedStr (v1 :: v2 :: rest) p3] [] p4) none p5.line env = pure false) (hs2 : ∀ env : Env, swapsWith (.Name y p8) (some (.Attribute (.Name slf p6) fld0 p7)) p9.line env = pure false)
    (hb : ∀ us : List Value, us.length = [slf, y].length → bindArgs (PySem.W.ksFn nm qual (defArgs st) (defBody st) (defScope st) dV kV doc pm an (.ref cda) ct cc) ⟨us, []⟩ = pure ([slf, y].zip us))
    (code : PySem.W.codeIn K (.ref cda) qual = true) (hd1 : ((defArgs st).posonlyargs ++ (defArgs st).args).head? = some ar) (hd2 : ar.arg = slf) (lc : K.lookup cda = some ⟨ccl, cdd, .fields vs, ccs⟩) (hvs : vs[2]? = some (.str file tf)) (hfile : ((P.main.file : Str) == file) = true) (lcc : K.lookup cc = some ⟨cl, cld, .cell (some (.ref C)), csl⟩)
    (mro : PySem.W.mroIn K C (.ref C) = some true) (up : PySem.W.ks_superIn K C C "__init__" = some (some (.builtin "ValueError.__init__"))) (sub : PySem.W.subIn K (.ref C) (.type "ValueError") = some true) (ini : PySem.W.excInitIn K C bmVE "ValueError.__new__" = true) (op : PySem.W.nsIn K cStatics "thirdparty.any" = some none) (nofld : PySem.W.findIn K (.ref C) fld0 = some none) (su : PySem.W.nsIn K mainGlobals "super" = some none)
    (ef : fld0 = Str.ofString fld) (c1 : (defScope st).names.lookup ("super" : Str) = some .globalImplicit) (c2 : (defScope st).names.lookup ("__class__" : Str) = some .free) (c3 : (defScope st).names.lookup slf = some .local) (c4 : (defScope st).names.lookup y = some .local) (c5 : (defScope st).kind = .function) (c6 : (defScope st).isCoroutine = false) (c7 : (defScope st).isGenerator = false)
    (c8 : ((defScope st).names.all fun x => decide (x.2 ≠ .cell)) = true) (c9 : y ≠ slf) (ca : (slf == ("__debug__" : Str)) = false) (cb : (y == ("__debug__" : Str)) = false) (top : (P.main.scope.names.lookup ("super" : Str)).isSome = false) : IniX P K mg C x fld := by
  refine ⟨⟨fI, cc, cda, fld0, slf, y, defArgs st, defScope st, qual, ?_, ef, iC, tI⟩, PySem.W.mg_of X Gn aC, PySem.W.mg_none_of X Gn su⟩
  have c8' : ∀ z ∈ (defScope st).names, z.2 ≠ .cell := fun z hz => of_decide_eq_true (List.all_eq_true.mp c8 z hz)
  rw [hbody] at lk hb
  exact ⟨T, ⟨nm, dV, kV, doc, pm, ct, oc, an, od, osl, v1, v2, rest, n, p0, p1, p2, p3, p4, p5, p6, p7, p8, p9, lk, tl, hn, ⟨pl, hev⟩, hs1, hs2, L2.Binds.all hb⟩, code, ⟨ar, hd1, hd2⟩, ⟨_, _, _, _, _, _, lc, hvs, hfile⟩, ⟨_, _, _, lcc⟩, mro, up, sub, ini, op, nofld, c1, c2, c3, c4, c5, c6, c7, c8', c9, ca, cb, top⟩
end Dx

/-! Dx31: work on texts. -/
namespace Dx
open PySem PySem.Spec L2
variable {G : Gx} {X : Cx} {W : WX}
def strD : D → Option String
  | .str s => some s
  | _ => none
def strsD : List D → Option (List String)
  | [] => some []
  | d :: r => match strD d, strsD r with
    | some s, some ss => some (s :: ss)
    | _, _ => none
theorem strs_den {μ : List Addr} {H : Hp} : ∀ {xs : List D} {vs : List V} {ss : List String}, DenA G μ H xs vs → strsD xs = some ss → vs = (ss.map Str.ofString).map V.str
  | [], _, ss, .nil, e => by cases e; rfl
  | x :: xs, v :: vs, ss, .cons d1 d2, e => by
    cases x with
    | str s =>
      cases d1
      unfold strsD at e
      cases h : strsD xs with
      | none => rw [h] at e; cases e
      | some r =>
        rw [h] at e
        cases e
        rw [strs_den d2 h]
        rfl
    | _ => simp [strsD, strD] at e
/-- a text that a text operation gave -/
def outT (t : Str) (S : Sg) : R D := if keyOk (.inr t) = true then .ok (ofKey (.inr t)) S else .stuck
theorem of_cps (s : String) : String.ofList ((Str.ofString s).cps.toList.map Char.ofNat) = s := by
  rw [Str.ofString_eq_toList]
  have h : (s.toList.map Char.toNat).map Char.ofNat = s.toList := by
    rw [List.map_map]
    have : (Char.ofNat ∘ Char.toNat) = id := funext fun c => Char.ofNat_toNat c
    rw [this, List.map_id]
  show String.ofList (((s.toList.map Char.toNat).toArray).toList.map Char.ofNat) = s
  rw [List.toList_toArray, h]
  exact String.ofList_toList
theorem outT_of {t : Str} {s : String} {S : Sg} (h : Str.ofString s = t) : outT t S = .ok (.str s) S := by
  subst h
  unfold outT
  rw [if_pos]
  · show R.ok (D.str _) S = _
    rw [of_cps]
  · show decide _ = true
    rw [of_cps]
    simp
theorem post_outT {μ : List Addr} {H : Hp} {S : Sg} {σ : L2.St} {t : Str} {Q : V → Hp → Prop} (rp : Rep G μ S H) (po : Post (Den G) G W μ H σ (outT t S) Q) : Q (.str t) H := by
  unfold outT at po
  split at po
  · next h => exact post_ok rp po (ofKey_den (k := .inr t) h)
  · exact po.elim
def joinS (a : String) : List String → String
  | [] => ""
  | [x] => x
  | x :: r => x ++ a ++ joinS a r
theorem ofS_join (a : String) : ∀ l : List String, Str.ofString (joinS a l) = Str.join (Str.ofString a) (l.map Str.ofString)
  | [] => rfl
  | [x] => rfl
  | x :: y :: r => by
    show Str.ofString (x ++ a ++ joinS a (y :: r)) = Str.ofString x ++ Str.ofString a ++ Str.join (Str.ofString a) ((y :: r).map Str.ofString)
    rw [ofS_app, ofS_app, ofS_join a (y :: r)]
def joinAt (a : String) (S : Sg) : Option (List String) → R D
  | some ss => if ((ss.map Str.ofString).map (·.length)).sum + ss.length * (Str.ofString a).length ≤ 16777216 then .ok (.str (joinS a ss)) S else .stuck
  | none => .stuck
def kJoin1 (g : FE) (ρ : Ev) : D → Sg → R D
  | .str a, S => (g ρ S).bind fun e S2 => joinAt a S2 (((seqOf S2 e).or (tupOf e)).bind strsD)
  | _, _ => .stuck
def xJoin (f g : FE) : FE := fun ρ S => (f ρ S).bind (kJoin1 g ρ)
@[simp] theorem xJoin_at {f g : FE} {ρ : Ev} {S : Sg} : xJoin f g ρ S = (f ρ S).bind (kJoin1 g ρ) := rfl
@[simp] theorem kJoin1_str {g : FE} {ρ : Ev} {a : String} {S : Sg} : kJoin1 g ρ (.str a) S = (g ρ S).bind fun e S2 => joinAt a S2 (((seqOf S2 e).or (tupOf e)).bind strsD) := rfl
theorem de_join {o e : Expr} {apos pos : Pos} {f g : FE} (A : Amb G X W) (ho : PE X o (TD G W f)) (he : PE X e (TD G W g)) (hs : starEach [e] X.env = [(false, eval e X.env)] := by rfl) (hbase : attributeBase o "join" X.env (eval o X.env) = eval o X.env := by rfl) (hline : (apos.endLine == pos.line) = true := by rfl) :
    PE X (.Call (.Attribute o "join" apos) [e] [] pos) (TD G W (xJoin f g)) := by
  refine PE.imp (pe_join ho he hs hbase hline) fun σ H Q ⟨μ, ρ, S, en, rp, po⟩ => ⟨μ, ρ, S, en, rp, (post_bind po).mono fun x H1 ⟨μ1, d, S1, pe, rp1, dd, p1⟩ => ?_⟩
  cases d with
  | str a =>
    cases dd
    refine ⟨⟨_, rfl⟩, μ1, ρ, S1, en.per pe, rp1, (post_bind p1).mono fun y H2 ⟨μ2, e2, S2, pe2, rp2, de, p2⟩ => ?_⟩
    have p2 : Post (Den G) G W μ2 H2 σ (joinAt a S2 (((seqOf S2 e2).or (tupOf e2)).bind strsD)) Q := p2
    cases hq : ((seqOf S2 e2).or (tupOf e2)).bind strsD with
    | none => rw [hq] at p2; exact p2.elim
    | some ss =>
      rw [hq] at p2
      obtain ⟨c, p3⟩ := post_ite p2
      obtain ⟨xs, h1, h2⟩ := Option.bind_eq_some_iff.mp hq
      have key : ∃ p, y = .ref p ∧ (SqL X.K H2 p ((ss.map Str.ofString).map V.str) ∨ SqT X.K H2 p ((ss.map Str.ofString).map V.str)) := by
        rw [A.hK]
        cases hsq : seqOf S2 e2 with
        | some zs =>
          rw [hsq] at h1
          cases h1
          obtain ⟨p, vs, rfl, k1, k2⟩ := seq_den rp2 de hsq
          have := strs_den k2 h2
          subst this
          exact ⟨p, rfl, .inl k1⟩
        | none =>
          rw [hsq] at h1
          obtain ⟨p, vs, rfl, k1, k2⟩ := tup_den de h1
          have := strs_den k2 h2
          subst this
          exact ⟨p, rfl, .inr k1⟩
      obtain ⟨p, rfl, k⟩ := key
      refine ⟨_, p, ss.map Str.ofString, rfl, rfl, k, by rw [List.length_map]; exact c, ?_⟩
      have := post_ok rp2 p3 (.str (joinS a ss))
      rw [ofS_join, ← TL.join_eq] at this
      exact this
  | _ => exact p1.elim
/-! ### split -/
def splitAt2 (a b : Str) (S : Sg) : R D := if (b.length == 0) = false ∧ a.length + 2 ≤ 16777216 ∧ ((Txt.split a b).all fun t => keyOk (.inr t)) = true then .ok (.clist ((Txt.split a b).map fun t => ofKey (.inr t))) S else .stuck
def kSplit2 (a : String) : D → Sg → R D
  | .str b, S => splitAt2 (Str.ofString a) (Str.ofString b) S
  | _, _ => .stuck
def kSplit1 (g : FE) (ρ : Ev) : D → Sg → R D
  | .str a, S => (g ρ S).bind (kSplit2 a)
  | _, _ => .stuck
def xSplit (f g : FE) : FE := fun ρ S => (f ρ S).bind (kSplit1 g ρ)
@[simp] theorem xSplit_at {f g : FE} {ρ : Ev} {S : Sg} : xSplit f g ρ S = (f ρ S).bind (kSplit1 g ρ) := rfl
@[simp] theorem kSplit1_str {g : FE} {ρ : Ev} {a : String} {S : Sg} : kSplit1 g ρ (.str a) S = (g ρ S).bind (kSplit2 a) := rfl
@[simp] theorem kSplit2_str {a b : String} {S : Sg} : kSplit2 a (.str b) S = splitAt2 (Str.ofString a) (Str.ofString b) S := rfl
theorem keyOk_of (s : String) : keyOk (.inr (Str.ofString s)) = true := by
  show decide _ = true
  rw [of_cps]
  simp
theorem ofKey_of (s : String) : ofKey (.inr (Str.ofString s)) = .str s := by
  show D.str _ = _
  rw [of_cps]
theorem splitAt2_of {a b : String} {l : List String} {S : Sg} (h : Txt.split (Str.ofString a) (Str.ofString b) = l.map Str.ofString) (hb : ((Str.ofString b).length == 0) = false) (ha : (Str.ofString a).length + 2 ≤ 16777216) : splitAt2 (Str.ofString a) (Str.ofString b) S = .ok (.clist (l.map .str)) S := by
  unfold splitAt2
  rw [h, if_pos]
  · rw [List.map_map]
    congr 2
    exact List.map_congr_left fun s _ => ofKey_of s
  · refine ⟨hb, ha, ?_⟩
    rw [List.all_map, List.all_eq_true]
    exact fun s _ => keyOk_of s
theorem strs_den2 {μ : List Addr} {H : Hp} : ∀ {l : List Str}, (l.all fun t => keyOk (.inr t)) = true → DenA G μ H (l.map fun t => ofKey (.inr t)) (l.map V.str)
  | [], _ => .nil
  | t :: l, h => by
    rw [List.all_cons, Bool.and_eq_true] at h
    exact .cons (ofKey_den (k := .inr t) h.1) (strs_den2 h.2)
theorem de_split {o e : Expr} {apos pos : Pos} {f g : FE} (A : Amb G X W) (ho : PE X o (TD G W f)) (he : PE X e (TD G W g)) (hs : starEach [e] X.env = [(false, eval e X.env)] := by rfl) (hbase : attributeBase o "split" X.env (eval o X.env) = eval o X.env := by rfl) (hline : (apos.endLine == pos.line) = true := by rfl) :
    PE X (.Call (.Attribute o "split" apos) [e] [] pos) (TD G W (xSplit f g)) := by
  refine PE.imp (pe_frz (pe_split ho he hs hbase hline)) fun σ H Q ⟨μ, ρ, S, en, rp, po⟩ => ⟨μ, ρ, S, en, rp, (post_bind po).mono fun x H1 ⟨μ1, d, S1, pe, rp1, dd, p1⟩ => ?_⟩
  cases d with
  | str a =>
    cases dd
    refine ⟨⟨_, rfl⟩, μ1, ρ, S1, en.per pe, rp1, (post_bind p1).mono fun y H2 ⟨μ2, e2, S2, pe2, rp2, de, p2⟩ => ?_⟩
    cases e2 with
    | str b =>
      cases de
      have p2 : Post (Den G) G W μ2 H2 σ (splitAt2 (Str.ofString a) (Str.ofString b) S2) Q := p2
      obtain ⟨⟨c1, c2, c3⟩, p3⟩ := post_ite p2
      exact ⟨_, _, rfl, rfl, c1, by rw [sl_eq]; exact c2, fun p hp => post_lstF A.ok rp2 (strs_den2 c3) p3 hp⟩
    | _ => exact p2.elim
  | _ => exact p1.elim
/-! ### isascii, isdigit, startswith -/
def kT0 (h : Str → Bool) : D → Sg → R D
  | .str a, S => .ok (.bl (h (Str.ofString a))) S
  | _, _ => .stuck
def xT0 (h : Str → Bool) (f : FE) : FE := fun ρ S => (f ρ S).bind (kT0 h)
@[simp] theorem xT0_at {h : Str → Bool} {f : FE} {ρ : Ev} {S : Sg} : xT0 h f ρ S = (f ρ S).bind (kT0 h) := rfl
@[simp] theorem kT0_str {h : Str → Bool} {a : String} {S : Sg} : kT0 h (.str a) S = .ok (.bl (h (Str.ofString a))) S := rfl
theorem de_t0 {h : Str → Bool} {id : String} {name : Str} {o : Expr} {apos pos : Pos} {f : FE} (slot : Slot "str" name id) (ty : typeOf (.builtin id) = pure (.type "method_descriptor")) (rule : MtR X id (fun x xs H Q => ∃ a, x = .str a ∧ xs = [] ∧ True ∧ Q (.bl (h a)) H)) (ho : PE X o (TD G W f))
    (hbase : attributeBase o name X.env (eval o X.env) = eval o X.env := by rfl) (hline : (apos.endLine == pos.line) = true := by rfl) : PE X (.Call (.Attribute o name apos) [] [] pos) (TD G W (xT0 h f)) := by
  refine PE.imp (pe_m0 slot ty rule ho hbase hline) fun σ H Q ⟨μ, ρ, S, en, rp, po⟩ => ⟨μ, ρ, S, en, rp, (post_bind po).mono fun x H1 ⟨μ1, d, S1, pe, rp1, dd, p1⟩ => ?_⟩
  cases d with
  | str a =>
    cases dd
    exact ⟨⟨_, rfl⟩, _, rfl, rfl, trivial, post_ok rp1 p1 (.bl _)⟩
  | _ => exact p1.elim
/-! ### str(e), int(text) -/
def cStr : CV := fun ds S => match ds with
  | [.int i] => if i.natAbs.log2 < 1920 then .ok (.str (toString i)) S else .stuck
  | [.str a] => .ok (.str a) S
  | _ => .stuck
@[simp] theorem cStr_str {a : String} {S : Sg} : cStr [.str a] S = .ok (.str a) S := rfl
theorem cStr_int {i : Int} {S : Sg} (h : i.natAbs.log2 < 1920) : cStr [.int i] S = .ok (.str (toString i)) S := by
  show (if _ then _ else _) = _
  rw [if_pos h]
theorem cv_str : CallV G W (fun xs H Q => (∃ i, xs = [.int i] ∧ i.natAbs.log2 < 1920 ∧ Q (.str (toString i)) H) ∨ ∃ a, xs = [.str a] ∧ Q (.str a) H) cStr := by
  intro μ S H xs ds σ Q rp dd po
  unfold cStr at po
  split at po
  · cases dd with
    | cons d1 t =>
      cases t
      cases d1
      obtain ⟨c, p⟩ := post_ite po
      exact .inl ⟨_, rfl, c, post_ok rp p (.str _)⟩
  · cases dd with
    | cons d1 t => cases t; cases d1; exact .inr ⟨_, rfl, post_ok rp po (.str _)⟩
  · exact po.elim
theorem de_str1 {e : Expr} {p pos : Pos} {g : FA} (hm : X.mg "str" = none) (ha : PA X [e] (TDA G W g)) (hg : Gl X "str" := by rfl) (he : starEach [e] X.env = (false, eval e X.env) :: starEach [] X.env := by rfl) (hpl : (backTo pos (starEach [] X.env)).any (·.1) = false := by rfl) : PE X (.Call (.Name "str" p) [e] [] pos) (TD G W (xB cStr g)) :=
  de_callTy ((call_str_int (X := X)).or SkE.call_str_str) cv_str hm PyProof.Rows.boot_str ha hg (by decide) (by decide) he hpl
/-! ### startswith, a piece of a text -/
def kSw2 (a : String) : D → Sg → R D
  | .str b, S => .ok (.bl (Txt.startswith (Str.ofString a) (Str.ofString b))) S
  | _, _ => .stuck
def kSw1 (g : FE) (ρ : Ev) : D → Sg → R D
  | .str a, S => (g ρ S).bind (kSw2 a)
  | _, _ => .stuck
def xSw (f g : FE) : FE := fun ρ S => (f ρ S).bind (kSw1 g ρ)
@[simp] theorem xSw_at {f g : FE} {ρ : Ev} {S : Sg} : xSw f g ρ S = (f ρ S).bind (kSw1 g ρ) := rfl
@[simp] theorem kSw1_str {g : FE} {ρ : Ev} {a : String} {S : Sg} : kSw1 g ρ (.str a) S = (g ρ S).bind (kSw2 a) := rfl
@[simp] theorem kSw2_str {a b : String} {S : Sg} : kSw2 a (.str b) S = .ok (.bl (Txt.startswith (Str.ofString a) (Str.ofString b))) S := rfl
theorem de_startswith {o e : Expr} {apos pos : Pos} {f g : FE} (ho : PE X o (TD G W f)) (he : PE X e (TD G W g)) (hs : starEach [e] X.env = [(false, eval e X.env)] := by rfl) (hbase : attributeBase o "startswith" X.env (eval o X.env) = eval o X.env := by rfl) (hline : (apos.endLine == pos.line) = true := by rfl) :
    PE X (.Call (.Attribute o "startswith" apos) [e] [] pos) (TD G W (xSw f g)) := by
  refine PE.imp (pe_m1 F.slot_str_startswith F.type_str_startswith mt_startswith ho he hs hbase hline) fun σ H Q ⟨μ, ρ, S, en, rp, po⟩ => ⟨μ, ρ, S, en, rp, (post_bind po).mono fun x H1 ⟨μ1, d, S1, pe, rp1, dd, p1⟩ => ?_⟩
  cases d with
  | str a =>
    cases dd
    refine ⟨⟨_, rfl⟩, μ1, ρ, S1, en.per pe, rp1, (post_bind p1).mono fun y H2 ⟨μ2, e2, S2, pe2, rp2, de, p2⟩ => ?_⟩
    cases e2 with
    | str b =>
      cases de
      exact ⟨_, _, rfl, rfl, post_ok rp2 p2 (.bl _)⟩
    | _ => exact p2.elim
  | _ => exact p1.elim
def isTxt : D → Bool
  | .str _ => true
  | _ => false
def fSlT (d : D) (lo hi : Option Int) (S : Sg) : R D := match d with
  | .str a => if (Str.ofString a).length ≤ 16777216 then outT (Txt.slice (Str.ofString a) lo hi) S else .stuck
  | _ => .stuck
def xSlT (f : FE) (l h : FO) : FE := fun ρ S => (f ρ S).bind fun d S1 => (l ρ S1).bind fun lo S2 => (h ρ S2).bind fun hi S3 => fSlT d lo hi S3
theorem de_sliceT {e : Expr} {lo hi : Option Expr} {p2 pos : Pos} {f : FE} {l h : FO} (he : PE X e (TD G W f)) (hl : PO X lo (TDO G W l)) (hh : PO X hi (TDO G W h)) : PE X (.Subscript e (.Slice lo hi none p2) pos) (TD G W (xSlT f l h)) := by
  refine PE.imp (pe_slice (C8.sl_txt (X := X)) he hl hh) fun σ H Q ⟨μ, ρ, S, en, rp, p⟩ => ?_
  refine ⟨μ, ρ, S, en, rp, (post_bind p).mono fun x H1 ⟨μ1, d, S1, pe1, rp1, dd, p1⟩ => ⟨μ1, ρ, S1, en.per pe1, rp1, (post_bind p1).mono fun lo' H2 ⟨μ2, lo, S2, pe2, rp2, el, p2⟩ => ⟨μ2, ρ, S2, (en.per pe1).per pe2, rp2, (post_bind p2).mono fun hi' H3 ⟨μ3, hi, S3, pe3, rp3, eh, p3⟩ => ?_⟩⟩⟩
  cases el
  cases eh
  unfold fSlT at p3
  cases d with
  | str a =>
    cases dd
    obtain ⟨c, p4⟩ := post_ite p3
    exact ⟨_, rfl, by rw [sl_eq]; exact c, post_outT rp3 p4⟩
  | _ => exact p3.elim
end Dx

/-! Dx32: o.n += e, x -= e, a list by an int that is laid, own objects made with defaults, list.remove of own objects, d.setdefault(k, []).append(e). -/
namespace Dx
open PySem PySem.Spec L2
section
variable {G : Gx} {X : Cx} {W : WX}
/-- o.n += e, ints -/
def fldAug (c : Nat) (n : String) (m : Nat) (i j : Int) (ρ : Ev) (S : Sg) : Option O → Fl
  | some (.obj c' fs) => if c' = c ∧ fs.length < 1000 then .nx ρ (S.set m (.obj c' (putFD n (.int (i + j)) fs))) else .stuck
  | _ => .stuck
def kFa2 (c : Nat) (n : String) (m : Nat) (i : Int) (ρ : Ev) : D → Sg → Fl
  | .int j, S => fldAug c n m i j ρ S S[m]?
  | _, _ => .stuck
def kFa1 (c : Nat) (n : String) (m : Nat) (f : FE) (ρ : Ev) (S : Sg) : Option D → Fl
  | some (.int i) => (f ρ S).go ρ (kFa2 c n m i ρ)
  | _ => .stuck
def kFaO (c : Nat) (n : String) (m : Nat) (f : FE) (ρ : Ev) (S : Sg) : Option O → Fl
  | some (.obj c' fs) => if c' = c then kFa1 c n m f ρ S (getF fs n) else .stuck
  | _ => .stuck
def kFa0 (c : Nat) (n : String) (f : FE) (ρ : Ev) : D → Sg → Fl
  | .ref m, S => kFaO c n m f ρ S S[m]?
  | _, _ => .stuck
def sFldA (c : Nat) (fo f : FE) (n : String) : FS := fun ρ S => (fo ρ S).go ρ (kFa0 c n f ρ)
theorem ds_fldA (c : Nat) {e o : Expr} {n : String} {tpos pos : Pos} {f fo : FE} (A : Amb G X W) (cl : Cls X.K (G.cls c)) (na : NoAttr X.K (G.cls c) (Str.ofString n)) (ho : PE X o (TD G W fo)) (he : PE X e (TD G W f)) :
    PS X (.AugAssign (.Attribute o (Str.ofString n) tpos) .Add e pos) (TDS G W (sFldA c fo f n)) := by
  refine PS.imp (ps_fldaug ho he in_add) fun Z σ H ⟨μ, ρ, S, en, rp, po⟩ => ⟨μ, ρ, S, en, rp, (posts_go en po).mono fun ov H1 ⟨μ1, od, S1, pe, rp1, do_, p1⟩ => ?_⟩
  unfold kFa0 at p1
  split at p1
  · rename_i m
    unfold kFaO at p1
    split at p1
    · rename_i c' fs eo
      split at p1
      · rename_i hc
        subst hc
        unfold kFa1 at p1
        split at p1
        · rename_i i eg
          cases do_ with
          | @ref _ a hm =>
            obtain ⟨dx, gs, h1, h2⟩ := rp1.obj hm eo
            obtain ⟨v, l, dv⟩ := denF_get h2 eg
            cases dv
            refine ⟨a, _, dx, gs, _, rfl, h1, cl, na, l, μ1, ρ, S1, en.per pe, rp1, (posts_go (en.per pe) p1).mono fun ev H2 ⟨μ2, ed, S2, pe2, rp2, de, p2⟩ => ?_⟩
            unfold kFa2 at p2
            split at p2
            · rename_i j
              cases de
              unfold fldAug at p2
              split at p2
              · rename_i c2 fs2 eo2
                split at p2
                · rename_i hc2
                  obtain ⟨rfl, hl⟩ := hc2
                  have hm2 := pe2.ext _ _ hm
                  obtain ⟨dx2, gs2, h3, h4⟩ := rp2.obj hm2 eo2
                  obtain ⟨r, p⟩ := rp2.write A.ok (u := .ins (G.cls c2) dx2 (putF (Str.ofString n) (.int (i + j)) gs2)) (o' := .obj c2 (putFD n (.int (i + j)) fs2)) hm2 eo2 fun H' p h => ⟨dx2, _, h, (denF_put (.int (i + j)) h4).per p⟩
                  have el : gs2.length = fs2.length := by have := congrArg List.length h4.1; simpa using this
                  exact ⟨i, j, rfl, rfl, dx2, gs2, h3, by omega, p2 _ _ _ p r ((en.per pe).per pe2 |>.per p)⟩
                · exact p2.elim
              · exact p2.elim
            · exact p2.elim
        · exact p1.elim
      · exact p1.elim
    · exact p1.elim
  · exact p1.elim
/-- x -= e -/
theorem ds_augS {i : Nat} {x : Str} {e : Expr} {pos' pos : Pos} {f : FE} (he : PE X e (TD G W f)) (hN : X.N.Nodup) (hi : X.N[i]? = some x := by rfl) (hx : Loc X.env.scope x := by first | exact Or.inl rfl | exact Or.inr rfl)
    (hf : X.fn x = true ∨ X.env.scope.names.lookup x = some .local := by first | exact .inl rfl | exact .inr rfl) : PS X (.AugAssign (.Name x pos') .Sub e pos) (TDS G W (sAug i (fI fun i j => .int (i - j)) f)) :=
  ds_aug iop_sub (ov_I fun _ _ _ _ => .int _) he hN hi hx hf
/-- a list by an int, laid -/
def fMulN : F2 := fun d e S => match seqOf S d, e with
  | some xs, .int k => if -(9223372036854775808) ≤ k ∧ k < 9223372036854775808 ∧ xs.length * k.toNat ≤ 16777216 then newO (.lst (List.replicate k.toNat xs).flatten) S else .stuck
  | _, _ => .stuck
theorem ov_mulN (g : G.Ok) : OpV G W rRepR fMulN := by
  intro μ S H x y d e σ Q rp hx hy po
  unfold fMulN at po
  split at po
  · rename_i xs k e1
    obtain ⟨⟨c1, c2, c3⟩, po⟩ := post_ite po
    obtain ⟨a, vs, rfl, h1, h2⟩ := rd_den rp hx e1
    cases hy
    exact ⟨a, _, vs, rfl, rfl, h1, c1, c2, by rw [sl_eq, ← h2.length]; exact c3, fun p hp => post_lst g rp (h2.rep _) po hp⟩
  · exact po.elim
theorem de_mulN {a b : Expr} {pos : Pos} {f g : FE} (A : Amb G X W) (ha : PE X a (TD G W f)) (hb : PE X b (TD G W g)) : PE X (.BinOp a .Mult b pos) (TD G W (x2 fMulN f g)) := de_op op_repR (ov_mulN A.ok) ha hb
end
/-! ### made with defaults -/
section
variable {G : Gx} {X : Cx} {W : WX}
theorem run_makeSD {CX : CXT} {k : Nat} {f C : Addr} {fd : FuncData} {ps : List Str} {sp : Sp} {E : XK} {pins : List (Addr × Obj)} {σ : L2.St} {H : Hp} {s : Shared} {Q : VK} {us its : List Value} {vs dvs : List V} (M : Mk X.K C f) (F : FnOk X.prog X.w X.K X.mg X.base CX k f fd ps sp) (hr : Room (k + 1) X.A) (hb : Binds X.K fd ps its) (hd : Vals dvs its)
    (hx : PassesAt CX X σ E) (I : Inv X pins σ H s) (r : Vals vs us)
    (h : ∀ x dx, H x = none → H dx = none → dx ≠ x → sp (.ref x :: vs ++ dvs) (upd (upd H dx (.own x)) x (.ins C dx [])) (fun v H2 => v = .non ∧ Q (.ref x) H2) E) :
    wpAny (model X.prog X.w) X.A (call (.ref C) us) (EP X pins σ Q) X.xe s := by
  have hq := h (s.heap.objs.size + 1) s.heap.objs.size (I.hok.fresh (Nat.le_succ _)) (I.hok.fresh (Nat.le_refl _)) (Nat.ne_of_lt (Nat.lt_succ_self _))
  have I2 := Inv.made (C := C) I
  have r2 : Vals (V.ref (s.heap.objs.size + 1) :: vs ++ dvs) (Value.ref (s.heap.objs.size + 1) :: us ++ its) := .cons rfl (r.append hd)
  have hl : (Value.ref (s.heap.objs.size + 1) :: us ++ its).length = ps.length := by
    have e := r2.length
    rw [F.len _ _ _ _ hq] at e
    exact e.symm
  have b := hb ⟨(s.heap.push PySem.W.emptyDict).push (PySem.W.instObj C s.heap.objs.size), s.gens, s.drawn, s.toks, s.os⟩ (Value.ref (s.heap.objs.size + 1) :: us) I2.kIn hl
  refine wpAny_call (make_map (f := f) I.kIn M.makes M.init (beq_iff_eq.mp M.fn) (codeAny_mono (F.run _ X.stack _ _ ⟨Value.ref (s.heap.objs.size + 1) :: us, []⟩ (Value.ref (s.heap.objs.size + 1) :: us ++ its) _ _ E (hr.make C us [])
    (I2.env0.make C us []) b r2 hq) fun r s' hq' => ?_))
  cases r with
  | error e => exact hx pins _ _ e s' I2 hq'
  | ok fl =>
    cases fl with
    | ret u =>
      obtain ⟨v, H', I3, rv, ev, q3⟩ := I2.after hq'
      subst ev
      exact ⟨rv, ⟨V.ref (s.heap.objs.size + 1), H', I3, rfl, q3⟩⟩
    | next => exact False.elim hq'
    | brk => exact False.elim hq'
    | cont => exact False.elim hq'
def tMakeSD (C : Addr) (sp : Sp) (dvs : List V) (E : L2.St → XK) (t : TA) : TE := fun σ H Q => t σ H fun vs H1 => ∀ x dx, H1 x = none → H1 dx = none → dx ≠ x →
  sp (.ref x :: vs ++ dvs) (upd (upd H1 dx (.own x)) x (.ins C dx [])) (fun v H2 => v = .non ∧ Q (.ref x) H2) (E σ)
theorem pe_makeSD {CX : CXT} {k : Nat} {f C : Addr} {fd : FuncData} {ps : List Str} {sp : Sp} {E : L2.St → XK} {x : Str} {p pos : Pos} {e : Expr} {es : List Expr} {t : TA} {its : List Value} {dvs : List V} (M : Mk X.K C f) (F : FnOk X.prog X.w X.K X.mg X.base CX k f fd ps sp) (hr : Room (k + 1) X.A) (hg : Gl X x) (hm : X.mg x = some (.ref C)) (hb : Binds X.K fd ps its) (hd : Vals dvs its) (hx : ∀ σ, PassesAt CX X σ (E σ))
    (ha : PA X (e :: es) t) (hdb : (x == ("__debug__" : Str)) = false := by decide) (he : starEach (e :: es) X.env = (false, eval e X.env) :: starEach es X.env := by rfl) (hpl : (backTo pos (starEach es X.env)).any (·.1) = false := by rfl) :
    PE X (.Call (.Name x p) (e :: es) [] pos) (tMakeSD C sp dvs E t) := by
  refine ⟨fun pins s σ H Q I h => ?_⟩
  refine wpAny_Call_Name_kw (ld_glob I hg hm ?_ hdb)
  refine PySem.W.callWith_K (h₀ := X.base) I.ok.mod.kin M.kp (thn (ha.run pos pins s σ H _ I h) fun us s1 ⟨vs, H1, I1, r, q⟩ => ⟨I1.kIn, ?_⟩) he hpl
  exact run_makeSD M F hr hb hd (hx σ) I1 r q
/-- a class whose __init__ has defaults; dfl: the last ones of them, which are not written -/
structure MakDf (P : Program) (w : World) (K : PySem.W.Frag) (mg : Str → Option Value) (base : Heap) (G : Gx) (k : Nat) (x : Str) (c n : Nat) (dfl : List D) (F : FF) : Prop where
  ex : ∃ f fd ps its dvs, FnOk P w K mg base (L2.CX P w) k f fd ps (spD G (n + 1) F) ∧ mg x = some (.ref (G.cls c)) ∧ Mk K (G.cls c) f ∧ Binds K fd ps its ∧ Vals dvs its ∧ ∀ μ H, DenA G μ H dfl dvs
def mkRn (m : Nat) : R D → R D
  | .ok .non S => .ok (.ref m) S
  | .exc c fs S => .exc c fs S
  | _ => .stuck
def kMkD (c n : Nat) (dfl : List D) (F : FF) (ds : List D) (S : Sg) : R D := if ds.length + dfl.length = n then mkRn S.length (F (.ref S.length :: ds ++ dfl) (S ++ [.obj c []])) else .stuck
def xMakeD (c n : Nat) (dfl : List D) (F : FF) (g : FA) : FE := fun ρ S => (g ρ S).bind (kMkD c n dfl F)
theorem de_makeD {x : Str} {p pos : Pos} {e : Expr} {es : List Expr} {g : FA} {F : FF} {k j n c : Nat} {dfl : List D} (A : Amb G X W) (d : MakDf X.prog X.w X.K X.mg X.base G j x c n dfl F) (hr : Room k X.A) (hk : j + 1 ≤ k) (ha : PA X (e :: es) (TDA G W g)) (hg : Gl X x := by rfl)
    (hdb : (x == ("__debug__" : Str)) = false := by decide) (he : starEach (e :: es) X.env = (false, eval e X.env) :: starEach es X.env := by rfl) (hpl : (backTo pos (starEach es X.env)).any (·.1) = false := by rfl) :
    PE X (.Call (.Name x p) (e :: es) [] pos) (TD G W (xMakeD c n dfl F g)) := by
  obtain ⟨f, fd, ps, its, dvs, Fo, hm, M, hb, hd, hden⟩ := d.ex
  refine PE.imp (pe_makeSD M Fo (hr.mono hk) hg hm hb hd (fun σ => passAt A.tk σ) ha hdb he hpl) fun σ H Q ⟨μ, ρ, S, en, rp, po⟩ => ⟨μ, ρ, S, en, rp, (post_bind po).mono fun vs H1 ⟨μ1, ds, S1, pe, rp1, dd, p1⟩ => ?_⟩
  unfold kMkD at p1
  obtain ⟨c1, p2⟩ := post_ite p1
  intro a dx hx hdx hne
  have p01 : Per G μ1 H1 μ1 (upd H1 dx (.own a)) := per_new A.ok hdx
  have rp2 := rp1.new A.ok (u := .own a) hdx
  have hx2 : upd H1 dx (.own a) a = none := by rw [upd_ne (Ne.symm hne)]; exact hx
  have p02 : Per G μ1 (upd H1 dx (.own a)) (μ1 ++ [a]) (upd (upd H1 dx (.own a)) a (.ins (G.cls c) dx [])) := per_push A.ok hx2
  have rp3 : Rep G (μ1 ++ [a]) (S1 ++ [.obj c []]) (upd (upd H1 dx (.own a)) a (.ins (G.cls c) dx [])) := rp2.push A.ok hx2 ⟨dx, [], upd_same, rfl, .nil⟩
  have per := p01.trans p02
  have hn : (μ1 ++ [a])[S1.length]? = some a := by
    rw [← rp1.len, List.getElem?_append_right (Nat.le_refl _), Nat.sub_self]
    rfl
  have dA : DenA G (μ1 ++ [a]) (upd (upd H1 dx (.own a)) a (.ins (G.cls c) dx [])) (.ref S1.length :: ds ++ dfl) (.ref a :: vs ++ dvs) := .cons (.ref hn) ((dd.per per).append (hden _ _))
  refine ⟨by rw [← dA.length]; simp; omega, μ1 ++ [a], S1 ++ [.obj c []], .ref S1.length :: ds ++ dfl, rp3, dA, ?_⟩
  have p3 := Post.per p2 per
  revert p3
  generalize F (.ref S1.length :: ds ++ dfl) (S1 ++ [.obj c []]) = r
  intro p3
  cases r with
  | exc c fs S' => exact p3
  | stuck => exact p3
  | ok dd' S' =>
    cases dd' with
    | non =>
      intro μ' H' b pe' rp' db
      cases db
      exact ⟨rfl, p3 _ _ _ pe' rp' (.ref (pe'.ext _ _ hn))⟩
    | _ => exact p3.elim
end
end Dx

/-! Dx33: list.remove of own objects, whose == is identity. -/
namespace Dx
open PySem PySem.Spec L2 PyProof.Rows
/-- an own class that says nothing of == -/
structure EqCls (K : PySem.W.Frag) (C : Addr) : Prop where
  eq : PySem.W.findIn K (.ref C) "__eq__" = some (some (.builtin "object.__eq__"))
  ob : PySem.W.subIn K (.ref C) (.type "object") = some true
section
variable {K : PySem.W.Frag} {C x y : Addr} {ox oy : Obj} {od od' : Option Obj} {A : Around} {s : Shared}
theorem special_other {prog : Program} {w : World} {E : Value → Shared → Prop} {Q : Option Value → Shared → Prop} (c : EqCls K C) (X : K.In s.heap) (I : PySem.W.InstAt s.heap x ox C od) (J : PySem.W.InstAt s.heap y oy C od') (hne : x ≠ y) (h : Q none s) :
    wpAny (model prog w) A (tryCompare (.ref x) "__eq__" (.ref y)) Q E s := by
  have hnt : ox.cls ≠ .type "tuple" := by rw [I.cls]; intro e; cases e
  have hi : PySem.W.Looks (model prog w) s.heap (isInstance (.ref x) (.type "object")) true := I.type.andThen (PySem.W.looks_subIn X c.ob)
  have call_ : wpAny (model prog w) A (call (.builtin "object.__eq__") [.ref x, .ref y]) (fun v s' => v = .notImplemented ∧ s' = s) E s := by
    refine wpAny_call (codeAny_call_builtin F.cmp_object.eq.plain F.cmpEntry_eq (PySem.W.check_slot F.cmpKind_eq F.cmpSplit_eq hi (F.cmpArgs_eq _ _) ?_))
    exact objEq_entry_other hne I.at_ J.at_ hnt ⟨rfl, rfl⟩
  unfold tryCompare
  refine wpAny_bind (wpAny_mono (Q := fun v s' => v = some .notImplemented ∧ s' = s) ?_ (fun r s' z => ?_) fun _ _ e => e)
  · simp only [callSpecialIfBound?, bindSpecialIfBound?]
    refine wpAny_holding (wpAny_bind (wpAny_bind (wpAny_bind (I.type.here ((PySem.W.looks_findIn X c.eq).here ?_)))))
    have fin : wpAny (model prog w) A (call (.builtin "object.__eq__") ([.ref x] ++ [.ref y]) >>= fun v => pure (some v)) (fun v s' => v = some .notImplemented ∧ s' = s) E s :=
      wpAny_bind (wpAny_mono call_ (fun v s' h' => by obtain ⟨rfl, rfl⟩ := h'; exact wpAny_pure ⟨rfl, rfl⟩) fun _ _ h' => h')
    refine wpAny_bind (wpAny_askSetting (wpAny_ite ?_))
    simp only [F.cmp_object.eq.bind]
    split
    · exact wpAny_bind (wpAny_pure (wpAny_pure fin))
    · exact wpAny_tryCatch (wpAny_bind (wpAny_pure (wpAny_pure fin)))
  · obtain ⟨rfl, rfl⟩ := z
    exact wpAny_pure h
theorem rcAt_ins (c : EqCls K C) (X : K.In s.heap) (I : PySem.W.InstAt s.heap x ox C od) (J : PySem.W.InstAt s.heap y oy C od') (hne : x ≠ y) (hu : A.units < cLine) : SeqAt.RcAt A s (.ref x) (.ref y) false := fun prog w E Q hq => by
  simp only [richCompare, cmpInfo_Eq, oneThing_ref]
  refine wpAny_holding (wpAny_bind (wpAny_cRoomFor hu ?_))
  refine wpAny_bind (I.type.here (wpAny_bind (J.type.here ?_)))
  rw [if_neg (by simp)]
  refine wpAny_bind (wpAny_pure ?_)
  simp only [Bool.false_eq_true, if_false]
  refine wpAny_bind (special_other c X I J hne ?_)
  simp only [Bool.not_false, if_true]
  refine wpAny_bind (special_other c X J I (Ne.symm hne) ?_)
  have hnt : ox.cls ≠ .type "tuple" := by rw [I.cls]; intro e; cases e
  repeat (first | with_reducible refine wpAny_isSame_ref_other hne I.at_ J.at_ hnt ?_ | wp_step)
  exact hq
theorem eqAt_ins (c : EqCls K C) (X : K.In s.heap) (I : PySem.W.InstAt s.heap x ox C od) (J : PySem.W.InstAt s.heap y oy C od') (hu : A.units < cLine) : SeqAt.EqAt A s (.ref x) (.ref y) (decide (x = y)) := by
  by_cases h : x = y
  · subst h
    rw [decide_eq_true rfl]
    exact SeqAt.EqAt.same _
  · rw [decide_eq_false h]
    exact SeqAt.EqAt.of_refs h (rcAt_ins c X I J h hu)
end
section
variable {G : Gx} {X : Cx} {W : WX}
/-- an own object of a class stands at an address -/
def InsAt (H : Hp) (C a : Addr) : Prop := ∃ dx fs, H a = some (.ins C dx fs)
theorem erase_map {α β : Type} (f : α → β) : ∀ (l : List α) (j : Nat), (l.map f).eraseIdx j = (l.eraseIdx j).map f
  | [], j => by simp
  | a :: r, 0 => by simp
  | a :: r, j + 1 => by simp [erase_map f r j]
theorem idxOf_first : ∀ {l : List Nat} {m i : Nat}, i < l.idxOf m → l[i]? ≠ some m
  | [], m, i, h => by simp
  | a :: r, m, i, h => by
    by_cases e : a = m
    · subst e; simp at h
    · cases i with
      | zero => simpa using e
      | succ i =>
        rw [List.idxOf_cons] at h
        have : (a == m) = false := by simpa using e
        rw [this] at h
        simp only [cond_false] at h
        simpa using idxOf_first (l := r) (by omega : i < r.idxOf m)
def rRemO (C : Addr) : V → List V → Hp → VK → Prop := fun x xs H Q => ∃ (l b : Addr) (as : List Addr) (j : Nat), x = .ref l ∧ xs = [.ref b] ∧ H l = some (.lst (as.map V.ref)) ∧ (∀ a ∈ as, InsAt H C a) ∧ as[j]? = some b ∧ (∀ m : Nat, m < j → as[m]? ≠ some b) ∧ Q .non (upd H l (.lst ((as.eraseIdx j).map V.ref)))
theorem ins_instAt {pins : List (Addr × Obj)} {σ : L2.St} {H : Hp} {s : Shared} {C a : Addr} (I : Inv X pins σ H s) (h : InsAt H C a) : ∃ ox od, PySem.W.InstAt s.heap a ox C od := by
  obtain ⟨dx, fs, h⟩ := h
  obtain ⟨mA, J, _⟩ := ins_get I.hok h
  obtain ⟨od, J, _⟩ := J.look
  exact ⟨_, _, J⟩
theorem mt_remO {C : Addr} (c : EqCls X.K C) (hu : X.A.units + 1 < cLine) : MtR X "list.remove" (rRemO C) := by
  intro pins s σ H x xs v us Q I rx rxs h
  obtain ⟨l, b, as, j, rfl, rfl, hH, hins, hj, hno, q⟩ := h
  cases rx
  obtain ⟨u, rfl, ru⟩ := rxs.one
  cases ru
  obtain ⟨z, its, n, r, hl, e⟩ := I.lstM hH
  have hits : its = as.map Value.ref := by
    have : ∀ (as : List Addr) (its : List Value), Vals (as.map V.ref) its → its = as.map Value.ref := by
      intro as
      induction as with
      | nil => intro its r; cases r; rfl
      | cons a as ih => intro its r; cases r with
        | cons r1 r2 => cases r1; rw [ih _ r2]; rfl
    exact this as its r
  subst hits
  rw [List.length_map] at hl z
  have hjn : j < as.length := (List.getElem?_eq_some_iff.mp hj).1
  have hjl : j < (as.map Value.ref).toArray.size := by simp; omega
  have hb : InsAt H C b := hins b (List.mem_of_getElem? hj)
  obtain ⟨ob, odb, Jb⟩ := ins_instAt I hb
  let ev : Value → Bool := fun y => match y with
    | .ref a => decide (a = b)
    | _ => false
  refine call_meets PySem.F.slot_list_remove ⟨_, e, rfl⟩ PySem.F.entry_list_remove (PySem.F.args_list_remove_2 _ _)
    (SeqAt.list_removeAt l (as.map Value.ref).toArray n none #[] (.ref b) ev j hjl ?_ ?_ (by simp; omega)) ⟨e, ?_, ?_⟩
  · obtain ⟨h1, h2⟩ := List.getElem?_eq_some_iff.mp hj
    have e1 : (as.map Value.ref).toArray[j] = .ref b := by simp [h2]
    rw [e1]
    simp [ev]
  · intro m hm hmj
    have hmn : m < as.length := by omega
    have e1 : (as.map Value.ref).toArray[m] = .ref as[m] := by simp
    rw [e1]
    simp only [ev, decide_eq_false_iff_not]
    intro z2
    exact hno m hmj (by rw [List.getElem?_eq_getElem hmn, z2])
  · intro y hy
    obtain ⟨a, ha, rfl⟩ : ∃ a ∈ as, Value.ref a = y := by simpa using hy
    obtain ⟨oa, oda, Ja⟩ := ins_instAt I (hins a ha)
    exact eqAt_ins c I.kIn Ja Jb hu
  · have rr : Vals ((as.eraseIdx j).map V.ref) ((as.eraseIdx j).map Value.ref) := by
      have : ∀ as : List Addr, Vals (as.map V.ref) (as.map Value.ref) := by
        intro as
        induction as with
        | nil => exact .nil
        | cons a as ih => exact .cons rfl ih
      exact this _
    refine ⟨.non, _, I.lset (its' := (as.eraseIdx j).map Value.ref) (t' := s.toks) hH e ?_ rr ?_, rfl, q⟩
    · show (as.map Value.ref).toArray.eraseIdxIfInBounds j = ((as.eraseIdx j).map Value.ref).toArray
      rw [List.eraseIdxIfInBounds_toArray, erase_map]
    · have z2 := List.length_eraseIdx_le as j
      rw [List.length_map]
      omega
/-- the numbers of a list of own objects of one class -/
def objN (S : Sg) (c : Nat) : D → Option Nat
  | .ref k => match S[k]? with
    | some (.obj c' _) => if c' = c then some k else none
    | _ => none
  | _ => none
def objsN (S : Sg) (c : Nat) : List D → Option (List Nat)
  | [] => some []
  | d :: ds => match objN S c d with
    | some k => (objsN S c ds).map (k :: ·)
    | none => none
def remAt (n m : Nat) (xs : List D) (S : Sg) : Option (List Nat) → R D
  | some ns => if m ∈ ns then .ok .non (S.set n (.lst (xs.eraseIdx (ns.idxOf m)))) else .stuck
  | none => .stuck
def remO (c n m : Nat) (S : Sg) : Option O → R D
  | some (.lst xs) => remAt n m xs S (objsN S c xs)
  | _ => .stuck
def mRem (c : Nat) : MV := fun d ds S => match d, ds with
  | .ref n, [.ref m] => remO c n m S S[n]?
  | _, _ => .stuck
theorem objN_den {μ : List Addr} {H : Hp} {S : Sg} {c : Nat} {d : D} {v : V} {k : Nat} (rp : Rep G μ S H) (h : Den G μ H d v) (e : objN S c d = some k) : d = .ref k ∧ ∃ a, v = .ref a ∧ μ[k]? = some a ∧ InsAt H (G.cls c) a := by
  cases h with
  | @ref n a hn =>
    simp only [objN] at e
    split at e
    · rename_i c' fs eo
      split at e
      · rename_i hc
        subst hc
        cases e
        obtain ⟨dx, gs, h1, _⟩ := rp.obj hn eo
        exact ⟨rfl, a, rfl, hn, dx, gs, h1⟩
      · cases e
    · cases e
  | _ => simp [objN] at e
theorem objsN_den {μ : List Addr} {H : Hp} {S : Sg} {c : Nat} (rp : Rep G μ S H) : ∀ {xs : List D} {vs : List V} {ns : List Nat}, DenA G μ H xs vs → objsN S c xs = some ns → ∃ as : List Addr, vs = as.map V.ref ∧ as.length = ns.length ∧ (∀ a ∈ as, InsAt H (G.cls c) a) ∧ ∀ i : Nat, i < ns.length → ∃ k a, ns[i]? = some k ∧ as[i]? = some a ∧ μ[k]? = some a
  | _, _, ns, .nil, e => by simp [objsN] at e; subst e; exact ⟨[], rfl, rfl, fun _ h => (by cases h), fun i h => absurd h (Nat.not_lt_zero _)⟩
  | _, _, ns, .cons h t, e => by
    simp only [objsN] at e
    split at e
    · rename_i k ek
      obtain ⟨ns', e1, rfl⟩ := Option.map_eq_some_iff.mp e
      obtain ⟨_, a, rfl, h1, h2⟩ := objN_den rp h ek
      obtain ⟨as, rfl, h3, h4, h5⟩ := objsN_den rp t e1
      refine ⟨a :: as, rfl, by simp [h3], ?_, ?_⟩
      · intro b hb
        rcases List.mem_cons.mp hb with rfl | hb
        · exact h2
        · exact h4 b hb
      · intro i hi
        cases i with
        | zero => exact ⟨k, a, rfl, rfl, h1⟩
        | succ i => simpa using h5 i (by simpa using hi)
    · cases e
theorem mv_rem (c : Nat) (g : G.Ok) : MtV G W (rRemO (G.cls c)) (mRem c) := by
  intro μ S H x d xs ds σ Q rp hx hxs po
  unfold mRem at po
  split at po
  · rename_i n m
    unfold remO at po
    split at po
    · rename_i ys eo
      unfold remAt at po
      split at po
      · rename_i ns en
        obtain ⟨hm, p⟩ := post_ite po
        cases hx with
        | @ref _ l hn =>
          cases hxs with
          | cons d1 t =>
            cases t
            cases d1 with
            | @ref _ b hb =>
              obtain ⟨vs, h1, h2⟩ := rp.obj hn eo
              obtain ⟨as, rfl, hl, hins, hat⟩ := objsN_den rp h2 en
              have hj : ns.idxOf m < ns.length := List.idxOf_lt_length_iff.mpr hm
              obtain ⟨k, a, hk, ha, hka⟩ := hat _ hj
              have hkm : k = m := by
                have := List.getElem_idxOf hj
                rw [List.getElem?_eq_getElem hj, this] at hk
                exact (Option.some.inj hk).symm
              subst hkm
              rw [hb] at hka
              cases hka
              obtain ⟨r, pe⟩ := rp.write g (u := .lst ((as.eraseIdx (ns.idxOf k)).map V.ref)) (o' := .lst (ys.eraseIdx (ns.idxOf k))) hn eo fun H' p h => ⟨_, h, by
                have : ∀ {xs : List D} {vs : List V} (i : Nat), DenA G μ H xs vs → DenA G μ H (xs.eraseIdx i) (vs.eraseIdx i) := by
                  intro xs vs i h
                  induction h using DenA.rec (motive_1 := fun _ _ _ => True) generalizing i with
                  | nil => exact .nil
                  | cons h t _ ih => cases i with
                    | zero => exact t
                    | succ i => exact .cons h (ih i)
                  | _ => trivial
                have q := this (ns.idxOf k) h2
                rw [erase_map] at q
                exact q.per p⟩
              refine ⟨l, b, as, ns.idxOf k, rfl, rfl, h1, hins, ha, fun i hi z => ?_, p _ _ _ pe r .non⟩
              obtain ⟨k', a', hk', ha', hka'⟩ := hat i (by omega)
              rw [z] at ha'
              cases ha'
              have := rp.nd k' k b hka' hb
              subst this
              exact idxOf_first hi hk'
      · exact po.elim
    · exact po.elim
  · exact po.elim
theorem de_rem (c : Nat) {o e : Expr} {apos cpos : Pos} {f : FE} {g : FA} (A : Amb G X W) (ec : EqCls X.K (G.cls c)) (ho : PE X o (TD G W f)) (ha : PA X [e] (TDA G W g)) (hbase : attributeBase o "remove" X.env (eval o X.env) = eval o X.env := by rfl)
    (hfew : ((backTo cpos (starEach [e] X.env)).all (fun x => !x.1) && (backToKw cpos (keywordEach [] X.env)).all (fun x => x.1.isSome) && decide (([e] : List Expr).length + ([] : List Keyword).length + (if ([] : List Keyword).isEmpty then 0 else 1) < 30)) = true := by rfl)
    (hline : (apos.endLine == cpos.line) = true := by rfl) (hs : starEach [e] X.env = (false, eval e X.env) :: starEach [] X.env := by rfl) (hplain : (backTo cpos (starEach [] X.env)).any (·.1) = false := by rfl) : PE X (.Call (.Attribute o "remove" apos) [e] [] cpos) (TD G W (xM (mRem c) f g)) :=
  de_lm A PySem.F.slot_list_remove PySem.F.type_list_remove (mt_remO ec (by have := A.hu; omega)) (mv_rem c A.ok) ho ha hbase hfew hline hs hplain
end
end Dx

/-! Dx34: d.setdefault(k, x), the keys tuples. -/
namespace Dx
open PySem PySem.Spec L2 PyProof.Rows
section
variable {X : Cx} {pins : List (Addr × Obj)} {σ : L2.St} {H : Hp} {s : Shared} {a b : Addr} {r : Value} {d : V} {k : List Key} {A : Around} {E : Value → Shared → Prop}
theorem d_setdT {kvs : List (List Key × V)} {Q : Value → Shared → Prop} (hu : A.units + 2 < cLine) (I : Inv X pins σ H s) (e : H a = some (.dT kvs)) (eb : H b = some (.tup (k.map kV))) (rd : RelV d r) (hl : kvs.length < sizeLine)
    (h1 : ∀ v, valV kvs k = some v → ∀ (w' : Value) (s' : Shared), Inv X pins σ H s' → RelV v w' → Q w' s') (h2 : valV kvs k = none → ∀ (w' : Value) (s' : Shared), Inv X pins σ (upd H a (.dT (putK kvs k d))) s' → RelV d w' → Q w' s') :
    wpAny (model X.prog X.w) A (call (.builtin "dict.setdefault") [.ref a, .ref b, r]) Q E s := by
  obtain ⟨z, hd, xs, rel, dd⟩ := dt_of I.hok e
  have hz : xs.length ≤ sizeLine := by rw [← Paired.length rel]; exact z
  refine call_setdefault_heap (hsz := hz) (tupleKind_room_in1 (by omega)) (key_of I.hok eb) hd dd (fun p hp => ?_) fun hn h' dd' hs => ?_
  · have q := rel.val k
    rw [hp] at q
    cases q0 : valV kvs k with
    | none => rw [q0] at q; exact (show False from q).elim
    | some v0 =>
      rw [q0] at q
      exact h1 v0 q0 _ _ (I.tok _) q
  · have q := rel.val k
    rw [hn] at q
    cases q0 : valV kvs k with
    | some v0 => rw [q0] at q; exact (show False from q).elim
    | none =>
      have hl2 : (putK kvs k d).length ≤ sizeLine := by have := length_putK kvs k d; omega
      obtain ⟨q, es, ep, hq, g2, g3, g4, _, g5⟩ := dd'
      refine h2 q0 _ _ (d_write I (by rw [e]; exact True.intro) hs ⟨q, hq⟩ ⟨hl2, hd, _, (rel.put k eb rd).keeps fun c ys ec => ?_, q, es, ep, hq, g2, g3, g4, g5⟩) rd
      rw [upd_ne (ne_of ec e (fun z => nomatch z))]
      exact ec
end
/-- d.setdefault(y, z), the keys tuples -/
def tDSetdT (td ty tx : TE) : TE := fun σ H Q => td σ H fun x H1 => ∃ a, x = .ref a ∧ IsD H1 a ∧ ty σ H1 fun y H2 => tx σ H2 fun z H3 => ∃ (kvs : List (List Key × V)) (k : List Key) (b : Addr), H3 a = some (.dT kvs) ∧ y = .ref b ∧ H3 b = some (.tup (k.map kV)) ∧ kvs.length < sizeLine ∧
  (∀ v, valV kvs k = some v → Q v H3) ∧ (valV kvs k = none → Q z (upd H3 a (.dT (putK kvs k z))))
theorem pe_dsetdT {X : Cx} {o e f : Expr} {td ty tx : TE} {apos cpos : Pos} (hu : X.A.units + 2 < cLine) (ho : PE X o td) (he : PE X e ty) (hf : PE X f tx) (m : M2 X o "setdefault" apos e f cpos) : PE X (.Call (.Attribute o "setdefault" apos) [e, f] [] cpos) (tDSetdT td ty tx) := by
  refine ⟨fun pins s σ H Q I h => ?_⟩
  refine wpAny_Call_method m.base m.few m.line PySem.F.plainAttrs_dict PySem.F.slot_dict_setdefault PySem.F.type_dict_setdefault (thn (ho.run pins s σ H _ I h) fun u s1 ⟨x, H1, I1, rx, a, ex, d, q1⟩ => ?_)
  subst ex
  obtain rfl : u = Value.ref a := rx
  obtain ⟨t1, t2, _⟩ := isD_at I1 d
  refine ⟨t1, t2, ?_⟩
  rw [m.trees]
  refine Calls.callWith_builtin rfl (Calls.evalArgs_plain (Calls.spliced_cons (thn (he.run pins s1 σ H1 _ I1 q1) fun iv s2 ⟨y, H2, I2, ry, q2⟩ =>
    Calls.spliced_cons (thn (hf.run pins s2 σ H2 _ I2 q2) fun fv s3 ⟨z, H3, I3, rz, kvs, k, b, ea, ey, eb, hl, q3, q4⟩ => Calls.spliced_nil ?_))))
  subst ey
  obtain rfl : iv = Value.ref b := ry
  exact d_setdT hu I3 ea eb rz hl (fun v hv w' s4 I4 rw' => ⟨v, _, I4, rw', q3 v hv⟩) fun hn w' s4 I4 rw' => ⟨z, _, I4, rw', q4 hn⟩
def setdK (n : Nat) (x : D) (kvs : List (List Key × D)) (S : Sg) : Option (List Key) → R D
  | some k => if kvs.length < 16777216 then (match getK kvs k with
    | some d => .ok d S
    | none => .ok x (S.set n (.dtt (putD kvs k x)))) else .stuck
  | none => .stuck
def setdO (n : Nat) (k x : D) (S : Sg) : Option O → R D
  | some (.dtt kvs) => setdK n x kvs S (keysD k)
  | _ => .stuck
def kSd3 (n : Nat) (k x : D) (S : Sg) : R D := setdO n k x S S[n]?
def kSd2 (h : FE) (n : Nat) (ρ : Ev) (k : D) (S : Sg) : R D := (h ρ S).bind (kSd3 n k)
def isDt : Option O → Bool
  | some (.dtt _) => true
  | _ => false
def kSd1 (g h : FE) (ρ : Ev) : D → Sg → R D
  | .ref n, S => if isDt S[n]? = true then (g ρ S).bind (kSd2 h n ρ) else .stuck
  | _, _ => .stuck
def xSetd (f g h : FE) : FE := fun ρ S => (f ρ S).bind (kSd1 g h ρ)
theorem de_setd {G : Gx} {X : Cx} {W : WX} {o e f : Expr} {apos cpos : Pos} {fo fe ff : FE} (A : Amb G X W) (ho : PE X o (TD G W fo)) (he : PE X e (TD G W fe)) (hf : PE X f (TD G W ff))
    (m : M2 X o "setdefault" apos e f cpos := by exact ⟨rfl, rfl, rfl, rfl⟩) : PE X (.Call (.Attribute o "setdefault" apos) [e, f] [] cpos) (TD G W (xSetd fo fe ff)) := by
  refine PE.imp (pe_dsetdT (by have := A.hu; omega) ho he hf m) fun σ H Q ⟨μ, ρ, S, en, rp, po⟩ => ⟨μ, ρ, S, en, rp, (post_bind po).mono fun v H1 ⟨μ1, od, S1, pe, rp1, dd, p1⟩ => ?_⟩
  unfold kSd1 at p1
  split at p1
  · rename_i n
    obtain ⟨c, p2⟩ := post_ite p1
    cases dd with
    | @ref _ a hn =>
      have isd : IsD H1 a := by
        unfold isDt at c
        split at c
        · rename_i kvs eo
          obtain ⟨gs, h1, _⟩ := rp1.obj hn eo
          exact .inr ⟨gs, .inl h1⟩
        · cases c
      refine ⟨a, rfl, isd, μ1, ρ, S1, en.per pe, rp1, (post_bind p2).mono fun kv H2 ⟨μ2, kd, S2, pe2, rp2, dk, p3⟩ => ?_⟩
      refine ⟨μ2, ρ, S2, (en.per pe).per pe2, rp2, (post_bind p3).mono fun xv H3 ⟨μ3, xd, S3, pe3, rp3, dx, p4⟩ => ?_⟩
      have hn3 := pe3.ext _ _ (pe2.ext _ _ hn)
      unfold kSd3 setdO at p4
      split at p4
      · rename_i kvs eo
        unfold setdK at p4
        split at p4
        · rename_i k ek
          obtain ⟨hl, p5⟩ := post_ite p4
          obtain ⟨gs, h1, h2⟩ := rp3.obj hn3 eo
          have dk3 := dk.per pe3
          unfold keysD at ek
          split at ek
          · cases dk3 with
            | @tup b _ _ q2 q3 =>
              have q4 := keys_den q3 ek
              subst q4
              refine ⟨gs, k, b, h1, rfl, q2, by rw [sl_eq, ← h2.length]; exact hl, fun v hv => ?_, fun hv => ?_⟩
              · rcases denK_get k h2 with ⟨a1, a2⟩ | ⟨x, y, a1, a2, a3⟩
                · rw [a2] at hv; cases hv
                · rw [a2] at hv; cases hv
                  rw [a1] at p5
                  exact post_ok rp3 p5 a3
              · rcases denK_get k h2 with ⟨a1, a2⟩ | ⟨x, y, a1, a2, a3⟩
                · rw [a1] at p5
                  obtain ⟨r, p⟩ := rp3.write A.ok (u := .dT (putK gs k xv)) (o' := .dtt (putD kvs k xd)) hn3 eo fun H' p h => ⟨_, h, (denK_put h2 dx).per p⟩
                  exact p5 _ _ _ p r (dx.per p)
                · rw [a2] at hv; cases hv
          · cases ek
        · exact p4.elim
      · exact p4.elim
  · exact p1.elim
end Dx

/-! Dx35: an __init__ with defaults, as the top has written it. -/
namespace Dx
open PySem PySem.Spec L2
theorem relV_fun : ∀ {v v' : V} {u : Value}, RelV v u → RelV v' u → v = v' := by
  intro v v' u h h'
  cases v <;> cases v' <;> simp only [RelV] at h h' <;> first
  | rfl
  | (subst h; cases h'; rfl)
  | (obtain ⟨t, rfl⟩ := h; obtain ⟨t', e⟩ := h'; cases e; rfl)
  | (subst h; cases h'; done)
  | (subst h; obtain ⟨t, e⟩ := h'; cases e; done)
  | (obtain ⟨t, rfl⟩ := h; cases h'; done)
  | (obtain ⟨t, rfl⟩ := h; obtain ⟨t', e⟩ := h'; cases e; done)
theorem vals_fun : ∀ {vs vs' : List V} {us : List Value}, Vals vs us → Vals vs' us → vs = vs'
  | _, _, _, .nil, .nil => rfl
  | _, _, _, .cons h t, .cons h' t' => by rw [relV_fun h h', vals_fun t t']
theorem eqcls_of {K : PySem.W.Frag} {x : Str} {C : Addr} (_ : PySem.W.nsIn K mainGlobals x = some (some (.ref C))) (a : PySem.W.findIn K (.ref C) "__eq__" = some (some (.builtin "object.__eq__"))) (b : PySem.W.subIn K (.ref C) (.type "object") = some true) : EqCls K C := ⟨a, b⟩
structure FunDfl (K : PySem.W.Frag) (C : Addr) (m qual : Str) (st : Stmt) (ps : List Str) (dfl : List D) : Prop where
  ex : ∃ f fd dvs its, FunD K m qual (defArgs st) (defBody st) (defScope st) dvs [] f fd ∧ (∀ G : Gx, G.K = K → ∀ μ H, DenA G μ H dfl dvs) ∧ PySem.W.findIn K (.ref C) m = some (some (.ref f)) ∧ PySem.W.isFn K (.ref f) = true ∧ PySem.W.keepIn K (.ref f) = true ∧
    Vals dvs its ∧ Binds K fd ps its ∧ Binds K fd ps []
theorem funDfl_of {K : PySem.W.Frag} {C : Addr} {y x qual : Str} {st : Stmt} {ps : List Str} {f T : Addr} {oc : Value} {od an : Option Addr} {osl : Array (Option Value)} {kV doc pm cdv ct : Value} {oT : Obj} {ar : Array Value} {nT n : Nat} {dfl : List D} 
    (aC : PySem.W.nsIn K mainGlobals y = some (some (.ref C))) (a : PySem.W.findIn K (.ref C) x = some (some (.ref f))) (i : PySem.W.isFn K (.ref f) = true) (l : K.lookup f = some ⟨oc, od, .func (PySem.W.fnOf x qual (defArgs st) (defBody st) (defScope st) (.ref T) kV doc pm an cdv ct), osl⟩) (c : PySem.W.codeIn K cdv qual = true) (k : PySem.W.keepIn K (.ref f) = true)
    (lT : K.lookup T = some oT) (dT : oT.data = .seq ar nT) (kd : ∀ G : Gx, G.K = K → KDenA G dfl ar.toList) (ne : dfl ≠ []) (hn : n + dfl.length = ps.length) (G0 : Gx) (hG0 : G0.K = K)
    (hb1 : ∀ (T : Addr) (kV doc pm : Value) (an : Option Addr) (cdv ct : Value) (us its : List Value), us.length = n → its.length = dfl.length → ∃ k, bindArgs (PySem.W.fnOf x qual (defArgs st) (defBody st) (defScope st) (.ref T) kV doc pm an cdv ct) ⟨us, []⟩ = seqItems? (.ref T) >>= k ∧ k (some its.toArray) = pure (ps.zip (us ++ its)))
    (hb2 : ∀ (T : Addr) (kV doc pm : Value) (an : Option Addr) (cdv ct : Value) (us its : List Value), us.length = ps.length → its.length = dfl.length → ∃ k, bindArgs (PySem.W.fnOf x qual (defArgs st) (defBody st) (defScope st) (.ref T) kV doc pm an cdv ct) ⟨us, []⟩ = seqItems? (.ref T) >>= k ∧ k (some its.toArray) = pure (ps.zip us)) :
    FunDfl K C x qual st ps dfl := by
  obtain ⟨dvs, r, den⟩ := kd G0 hG0
  have hlen : dfl.length = dvs.length := (den [] (fun _ => none)).length
  have F : FunD K x qual (defArgs st) (defBody st) (defScope st) dvs [] f (PySem.W.fnOf x qual (defArgs st) (defBody st) (defScope st) (.ref T) kV doc pm an cdv ct) :=
    ⟨⟨oc, od, .ref T, kV, doc, pm, an, cdv, ct, osl, rfl, l, c, .inr ⟨fun z => ne (by rw [z] at hlen; exact List.eq_nil_of_length_eq_zero hlen), T, oT, ar.toList, nT, rfl, lT, by rw [dT], r⟩, .inl rfl⟩, k⟩
  have hne : dvs ≠ [] := fun z => ne (by rw [z] at hlen; exact List.eq_nil_of_length_eq_zero hlen)
  obtain ⟨d1, v1, b1⟩ := F.binds1 (ps := ps) n 0 hne (by omega) fun T kV doc pm an cdv ct us its h1 h2 => by
    obtain ⟨k, e1, e2⟩ := hb1 T kV doc pm an cdv ct us its h1 (by omega)
    exact ⟨k, e1, by simpa using e2⟩
  obtain ⟨d2, v2, b2⟩ := F.binds1 (ps := ps) ps.length dvs.length hne (by omega) fun T kV doc pm an cdv ct us its h1 h2 => by
    obtain ⟨k, e1, e2⟩ := hb2 T kV doc pm an cdv ct us its h1 (by omega)
    exact ⟨k, e1, by rw [List.drop_eq_nil_of_le (by omega), List.append_nil]; exact e2⟩
  rw [List.drop_zero] at v1
  rw [List.drop_length] at v2
  cases v2
  refine ⟨f, _, dvs, d1, F, fun G hG μ H => ?_, a, i, k, v1, b1, b2⟩
  obtain ⟨dvs', r', den'⟩ := kd G hG
  rw [vals_fun r r']
  exact den' μ H
section
variable {G : Gx} {P : Program} {w : World} {K : PySem.W.Frag} {mg : Str → Option Value} {base : Heap}
theorem fn_okD {x qual : Str} {st : Stmt} {f : Addr} {fd : FuncData} {dvs : List V} {N ps : List Str} {k : Nat} {g : FS} (F : FunD K x qual (defArgs st) (defBody st) (defScope st) dvs [] f fd) (Sc : FnScope N ps (defScope st)) (hl : ps.length ≤ N.length)
    (hbody : ∀ (cdv : Value) (A : Around) (outer : List Env) (s : Shared) (H : Hp) (E : XK), Room k (A.deeper (PyProof.Rows.envOfC qual (defScope st) s.heap.objs.size f cdv)) →
      PSs (cxOf (L2.CX P w) P w K mg base N qual (defScope st) f cdv A outer s H E) (defBody st) (TDS G (fun c d _ H' => E c d H') g)) :
    FnOk P w K mg base (L2.CX P w) (k + 1) f fd ps (spD G ps.length (dFun N.length ps.length g)) := by
  refine F.ok Sc (fun vs H Q E h => h.1) (fun cdv A outer s H vs Q E hr h => ⟨_, hbody cdv A outer s H E hr, ?_⟩)
  obtain ⟨hv, μ, S, ds, rp, dd, po⟩ := h
  refine ⟨μ, _, S, start_env dd (by rw [dd.length, hv]; exact hl), rp, ?_⟩
  unfold dFun at po
  obtain ⟨c, po⟩ := post_ite po
  revert po
  generalize g (ds.map some ++ List.replicate (N.length - ds.length) none) S = fl
  intro po
  cases fl with
  | nx ρ' S' => exact fun μ' H' σ' p r e => po μ' H' _ p r .non
  | rt d S' => exact po
  | bk ρ' S' => exact po.elim
  | ct ρ' S' => exact po.elim
  | exc c fs ρ' S' => exact fun μ' H' σ' cls dd p r e x => po μ' H' cls dd p r x
  | stuck => exact po.elim
/-- a class whose __init__ has defaults: made with all arguments, or without the last ones -/
structure MakB (P : Program) (w : World) (K : PySem.W.Frag) (mg : Str → Option Value) (base : Heap) (G : Gx) (k : Nat) (x : Str) (c n : Nat) (dfl : List D) (F : FF) : Prop where
  full : MakD P w K mg base G k x c n F
  part : MakDf P w K mg base G k x c n dfl F
end
end Dx

/-! Dx36: what the top has left, looked at by one run. -/
namespace Dx
open PySem PySem.Spec L2
abbrev Fg := PySem.W.Frag
/-- the part of the heap that is looked at -/
def asY (n0 len : Nat) : List Addr := mainGlobals :: cStatics :: List.range' n0 len
/-! ### own __init__s with a closure -/
abbrev FnC : Type := Option (Str × Str × Arguments × FuncBody × Scope × Addr × List Str × Addr)
def fnC (K : Fg) (p : Str × Option Str) : FnC := match K.lookup (He.fAd K p) with
  | some o => (match o.data with
    | .func fd => some (fd.name, fd.qualname, fd.params, fd.body, fd.scope, fd.globals, fd.closure.map (·.1), fd.builtins)
    | _ => none)
  | none => none
structure IniD where
  at_ : Str × Option Str
  name : Str
  qual : Str
  params : Arguments
  body : List Stmt
  scope : Scope
def IniD.val (d : IniD) : FnC := some (d.name, d.qual, d.params, .stmts d.body, d.scope, mainGlobals, ["__class__"], builtinsNs)
theorem ini_fd {K : Fg} {d : IniD} (e : fnC K d.at_ = d.val) : ∃ oc od osl dV kV doc pm an cdv ct cc, K.lookup (He.fAd K d.at_) = some ⟨oc, od, .func (PySem.W.ksFn d.name d.qual d.params d.body d.scope dV kV doc pm an cdv ct cc), osl⟩ := by
  unfold fnC at e
  split at e
  · rename_i o ho
    obtain ⟨oc, od, dt, osl⟩ := o
    simp only at e
    split at e
    · rename_i fd
      obtain ⟨n1, n2, n3, n4, n5, n6, n7, n8, n9, n10, n11, n12, n13, n14, n15⟩ := fd
      simp only [IniD.val, Option.some.injEq, Prod.mk.injEq] at e
      obtain ⟨rfl, rfl, rfl, rfl, rfl, rfl, h7, rfl⟩ := e
      match n7, h7 with
      | [(a, cc)], h7 =>
        simp only [List.map_cons, List.map_nil, List.cons.injEq, and_true] at h7
        subst h7
        exact ⟨oc, od, osl, n8, n9, n10, n11, n12, n13, n14, cc, ho⟩
    · cases e
  · cases e
/-! ### what is asked -/
structure Ask where
  ex : List (Fg → Bool)
  fn : List He.DefD
  ts : List He.Tab
  tf : List He.Defn
  fx : List IniD
abbrev AlY : Type := (Bool × List He.FnW) × List (Option (List (Option (Str × Int)))) × List FnC
def obsK (q : Ask) (g : Addr → Option Obj) (K : Fg) : AlY := (((q.ex.all fun f => f K) && ((q.fn.all fun d => d.ok K) && He.tabsB g q.tf K), q.fn.map fun d => He.fnW K d.at_), q.ts.map fun t => He.dicW K (t.1 K), q.fx.map fun d => fnC K d.at_)
def obsY (n0 len : Nat) (q : Ask) (g : Addr → Option Obj) : AlY := obsK q g (He.frT g (asY n0 len))
def valY (q : Ask) (w : World) : AlY := ((true, q.fn.map He.DefD.val), q.ts.map fun t => some (He.keysIn w.params t.2), q.fx.map IniD.val)
structure SaysY (q : Ask) (w : World) (h : Heap) (K : Fg) : Prop where
  ex : ∀ f ∈ q.ex, f K = true
  ok : ∀ d ∈ q.fn, d.ok K = true
  fn : q.fn.map (fun d => He.fnW K d.at_) = q.fn.map He.DefD.val
  ts : (q.ts.map fun t => He.dicW K (t.1 K)) = q.ts.map fun t => some (He.keysIn w.params t.2)
  fx : (q.fx.map fun d => fnC K d.at_) = q.fx.map IniD.val
  tab : ∀ p ∈ q.tf, PySem.W.codeHdIn K (He.cT K p).1 (He.cT K p).2 = true ∧ K.lookup (He.cT K p).2 = none ∧ h.get? (He.cT K p).2 = some { cls := .none, data := .fields #[] }
theorem says_of {q : Ask} {w : World} {h : Heap} {as : List Addr} (e : obsK q h.get? (He.frT h.get? as) = valY q w) : SaysY q w h (He.frT h.get? as) := by
  generalize hK : He.frT h.get? as = K at e
  unfold obsK valY at e
  simp only [Prod.mk.injEq] at e
  obtain ⟨⟨e1, e2⟩, e3, e4⟩ := e
  rw [Bool.and_eq_true, Bool.and_eq_true] at e1
  obtain ⟨a1, a2, a3⟩ := e1
  refine ⟨fun f hf => List.all_eq_true.mp a1 f hf, fun d hd => List.all_eq_true.mp a2 d hd, e2, e3, e4, fun p hp => ?_⟩
  have a4 := List.all_eq_true.mp a3 p hp
  rw [Bool.and_eq_true] at a4
  obtain ⟨b1, b2⟩ := a4
  split at b2
  · rename_i o ho
    exact ⟨b1, by rw [← hK]; rw [← hK] at ho; exact He.frT_none ho b2, by rw [ho, He.emptyTab_eq b2]⟩
  · cases b2
def hookY (n0 len : Nat) (q : Ask) : PySem.W.Hook where
  α := AlY
  obs s := obsY n0 len q s.heap.get?
  val w := valY q w
  says w h := ∃ K : Fg, K.In h ∧ SaysY q w h K
  of _ _ e := ⟨_, He.frT_in, says_of e⟩
  keeps _ _ _ := fun ⟨K, hK, c⟩ k => ⟨K, hK.keeps k, ⟨c.ex, c.ok, c.fn, c.ts, c.fx, fun p hp => ⟨(c.tab p hp).1, (c.tab p hp).2.1, k _ _ (c.tab p hp).2.2⟩⟩⟩
theorem obsY_eq {n0 len : Nat} {q : Ask} (s : PySem.W.SharedT) : obsY n0 len q (HandSHeadRun.getT s) = (hookY n0 len q).obs s.abs := by
  have e : HandSHeadRun.getT s = s.abs.heap.get? := funext (HandSHeadRun.getT_eq s)
  rw [e]
  rfl
/-! ### what is read off -/
section
variable {q : Ask} {w : World} {h : Heap} {K : Fg} {mg : Str → Option Value}
theorem SaysY.at_ (c : SaysY q w h K) (i : Nat) {f : Fg → Bool} (e : q.ex[i]? = some f) : f K = true := c.ex f (List.mem_of_getElem? e)
theorem SaysY.def_ (c : SaysY q w h K) (i : Nat) {d : He.DefD} (e : q.fn[i]? = some d) : ∃ fd, FunD K d.name d.qual d.params d.body d.scope (d.dvs K) (d.kws K) (He.fAd K d.at_) fd := by
  have e1 := congrArg (fun l => l[i]?) c.fn
  simp only [List.getElem?_map, e, Option.map_some, Option.some.injEq] at e1
  exact He.DefD.funD e1 (c.ok d (List.mem_of_getElem? e))
theorem SaysY.ini (c : SaysY q w h K) (i : Nat) {d : IniD} (e : q.fx[i]? = some d) : fnC K d.at_ = d.val := by
  have e1 := congrArg (fun l => l[i]?) c.fx
  simpa only [List.getElem?_map, e, Option.map_some, Option.some.injEq] using e1
theorem SaysY.keys (c : SaysY q w h K) (i : Nat) {t : He.Tab} (e : q.ts[i]? = some t) : He.dicW K (t.1 K) = some (He.keysIn w.params t.2) := by
  have e1 := congrArg (fun l => l[i]?) c.ts
  simpa only [List.getElem?_map, e, Option.map_some, Option.some.injEq] using e1
/-- a written value -/
def denB : Nat → Fg → D → Value → Bool
  | _, _, .non, u => decide (u = .none)
  | _, _, .bl b, u => (match u with | .bool c => decide (c = b) | _ => false)
  | _, _, .int i, u => (match u with | .int j _ => decide (j = i) | _ => false)
  | _, _, .str s, u => (match u with | .str x _ => decide (x = Str.ofString s) | _ => false)
  | n + 1, K, .ktup ds, u => (match u with
    | .ref a => (match K.lookup a with
      | some o => (match o.cls, o.data with
        | .type c, .seq its _ => decide (c = "tuple") && (decide (ds.length ≤ 1000000) && (decide (ds.length = its.toList.length) && (ds.zip its.toList).all fun p => denB n K p.1 p.2))
        | _, _ => false)
      | none => false)
    | _ => false)
  | _, _, _, _ => false
theorem denB_ok {G : Gx} (hK : K = G.K) : ∀ (n : Nat) (d : D) (u : Value), denB n K d u = true → KDen G d u := by
  intro n
  induction n with
  | zero =>
    intro d u e
    cases d <;> simp only [denB] at e <;> try (cases e; done)
    · have := of_decide_eq_true e; subst this; exact kden_non
    · cases u <;> simp at e <;> try (exact absurd e (by simp))
      subst e; exact kden_bl
    · cases u <;> simp at e <;> try (exact absurd e (by simp))
      subst e; exact kden_int
    · cases u <;> simp at e <;> try (exact absurd e (by simp))
      subst e; exact kden_str
  | succ n ih =>
    intro d u e
    cases d <;> simp only [denB] at e <;> try (cases e; done)
    · have := of_decide_eq_true e; subst this; exact kden_non
    · cases u <;> simp at e <;> try (exact absurd e (by simp))
      subst e; exact kden_bl
    · cases u <;> simp at e <;> try (exact absurd e (by simp))
      subst e; exact kden_int
    · cases u <;> simp at e <;> try (exact absurd e (by simp))
      subst e; exact kden_str
    · rename_i ds
      split at e
      · rename_i a
        split at e
        · rename_i o ho
          split at e
          · rename_i c its k hc hd
            simp only [Bool.and_eq_true, decide_eq_true_eq] at e
            obtain ⟨e1, e2, e3, e4⟩ := e
            subst e1
            have all : ∀ (ds : List D) (us : List Value), ds.length = us.length → ((ds.zip us).all fun p => denB n K p.1 p.2) = true → KDenA G ds us := by
              intro ds
              induction ds with
              | nil => intro us hl _; cases us with
                | nil => exact kdena_nil
                | cons _ _ => simp at hl
              | cons d ds ih2 => intro us hl h; cases us with
                | nil => simp at hl
                | cons u us =>
                  simp only [List.zip_cons_cons, List.all_cons, Bool.and_eq_true] at h
                  exact kdena_cons (ih d u h.1) (ih2 us (by simpa using hl) h.2)
            obtain ⟨vs, r, kk⟩ := all ds its.toList e3 e4
            subst hK
            exact ⟨.ref a, rfl, fun μ H => .ktup (fun H' => .inr ⟨o, its, k, ho, hc, hd, by rw [sl_eq, ← Array.length_toList, ← e3]; exact Nat.le_trans e2 (by decide), r⟩) (kk μ H)⟩
          · cases e
        · cases e
      · cases e
def cDen (x : Str) (d : D) (K : Fg) : Bool := match PySem.W.nsIn K mainGlobals x with
  | some (some u) => denB 6 K d u
  | _ => false
theorem globY {G : Gx} {x : Str} {d : D} (KX : K.In h) (Gn : h.Ns mainGlobals mg) (hK : K = G.K) (e : cDen x d K = true) : GlobD K mg G x d := by
  unfold cDen at e
  split at e
  · rename_i u hu
    exact globD_of KX Gn hu (denB_ok hK 6 d u e)
  · cases e
/-- a dict with text keys -/
def cDic (x : Str) (ks : List String) (xs : List D) (K : Fg) : Bool := He.eqO (PySem.W.nsIn K mainGlobals x) (some (some (.ref (He.ga K x)))) && (decide (ks.length = xs.length) && (ks.zip xs).all fun p => match PySem.W.nsIn K (He.ga K x) (Str.ofString p.1) with
  | some (some u) => denB 6 K p.2 u
  | _ => false)
theorem keys_none {P : Params} {z : Str} : ∀ {es : List DictEntry} {ks : List Str}, es.map He.keyOf = He.keysIn P ks → z ∉ ks → es.find? (·.key.isStr z) = none ∧ es.any (·.refKey) = false
  | [], _, _, _ => ⟨rfl, rfl⟩
  | e :: es, [], hh, _ => by cases hh
  | e :: es, k :: ks, hh, hz => by
    have h1 : He.keyOf e :: es.map He.keyOf = some (k, PyData.keyHash P k) :: He.keysIn P ks := hh
    injection h1 with h2 h3
    obtain ⟨a, b⟩ := keys_none (es := es) h3 fun m => hz (List.mem_cons_of_mem _ m)
    unfold He.keyOf at h2
    split at h2
    · rename_i x t hk
      have h4 := Option.some.inj h2
      have h5 := congrArg Prod.fst h4
      simp only at h5
      have hx : ¬ x = z := fun e => hz (by rw [← e, h5]; simp)
      refine ⟨?_, ?_⟩
      · rw [List.find?_cons]
        have : e.key.isStr z = false := by rw [hk]; simpa [Value.isStr] using hx
        rw [this]
        exact a
      · rw [List.any_cons, b]
        simp [DictEntry.refKey, hk]
    · cases h2
theorem globYd {G : Gx} {x : Str} {ks : List String} {xs : List D} (KX : K.In h) (Gn : h.Ns mainGlobals mg) (hK : K = G.K) (hw : w = G.w) (e : cDic x ks xs K = true) (t : He.dicW K (He.ga K x) = some (He.keysIn w.params (ks.map Str.ofString))) : GlobD K mg G x (.cdict ks xs) := by
  unfold cDic at e
  simp only [Bool.and_eq_true, decide_eq_true_eq] at e
  obtain ⟨e1, e2, e3⟩ := e
  have g := He.eqO_ok e1
  subst hK hw
  obtain ⟨es, n, lk, lit, low, ek⟩ : ∃ es n, G.K.lookup (He.ga G.K x) = some ⟨.type "dict", none, .dict es n, #[]⟩ ∧ PySem.W.KeysLit G.w.params es.toList ∧ (He.ga G.K x == sysModules) = false ∧ es.toList.map He.keyOf = He.keysIn G.w.params (ks.map Str.ofString) := by
    have t0 := t
    unfold He.dicW at t
    split at t
    · rename_i c es n sl hl
      split at t
      · rename_i hb
        simp only [Bool.and_eq_true, decide_eq_true_eq, Bool.not_eq_true'] at hb
        obtain ⟨b1, b2, b3⟩ := hb
        subst b1
        have b4 := Array.isEmpty_iff.mp b2
        subst b4
        exact ⟨es, n, hl, He.keysLit_of (Option.some.inj t), b3, Option.some.inj t⟩
      · cases t
    · cases t
  have vals : ∀ (ks : List String) (xs : List D), ks.length = xs.length → ((ks.zip xs).all fun p => match PySem.W.nsIn G.K (He.ga G.K x) (Str.ofString p.1) with | some (some u) => denB 6 G.K p.2 u | _ => false) = true →
      ∃ vs : List V, (∀ p ∈ ks.zip vs, KDct G.K G.w (He.ga G.K x) (Str.ofString p.1) p.2) ∧ ∀ μ H, DenA G μ H xs vs := by
    intro ks
    induction ks with
    | nil => intro xs hl _; cases xs with
      | nil => exact ⟨[], by simp, fun _ _ => .nil⟩
      | cons _ _ => simp at hl
    | cons k ks ih => intro xs hl hh; cases xs with
      | nil => simp at hl
      | cons d xs =>
        simp only [List.zip_cons_cons, List.all_cons, Bool.and_eq_true] at hh
        obtain ⟨hd, ht⟩ := hh
        obtain ⟨vs, i1, i2⟩ := ih xs (by simpa using hl) ht
        split at hd
        · rename_i u hu
          obtain ⟨v, r, kd⟩ := denB_ok (K := G.K) rfl 6 d u hd
          refine ⟨v :: vs, fun p hp => ?_, fun μ H => .cons (kd μ H) (i2 μ H)⟩
          rw [List.zip_cons_cons] at hp
          rcases List.mem_cons.mp hp with rfl | hp
          · exact ⟨es, n, u, lk, lit, hu, r⟩
          · exact i1 p hp
        · cases hd
  obtain ⟨vs, v1, v2⟩ := vals ks xs e2 e3
  refine globD_of KX Gn g ⟨.ref (He.ga G.K x), rfl, fun μ H => .cdict ⟨low, fun z hz => ⟨es, n, lk, lit, low, ?_⟩⟩ v1 (v2 μ H)⟩
  obtain ⟨f1, f2⟩ := keys_none (z := z) ek fun m => by
    obtain ⟨k, hk, ez⟩ := List.mem_map.mp m
    exact hz k hk ez.symm
  unfold PySem.W.nsIn
  rw [lk]
  simp only [f1, f2]
  rfl
/-- a tuple of texts -/
def strsB : List String → List Value → Bool
  | [], [] => true
  | s :: ss, u :: us => (match u with | .str x _ => decide (x = Str.ofString s) | _ => false) && strsB ss us
  | _, _ => false
theorem strsB_ok : ∀ {ss : List String} {us : List Value}, strsB ss us = true → KStrs ss us
  | [], [], _ => kstrs_nil
  | [], _ :: _, e => by cases e
  | _ :: _, [], e => by cases e
  | s :: ss, u :: us, e => by
    simp only [strsB, Bool.and_eq_true] at e
    obtain ⟨e1, e2⟩ := e
    split at e1
    · rw [of_decide_eq_true e1]
      exact kstrs_cons (strsB_ok e2)
    · cases e1
def cTp (x : Str) (ss : List String) (K : Fg) : Bool := He.eqO (PySem.W.nsIn K mainGlobals x) (some (some (.ref (He.ga K x)))) && match K.lookup (He.ga K x) with
  | some o => (match o.cls, o.dict, o.data with
    | .type c, none, .seq its _ => decide (c = "tuple") && (decide (ss.length ≤ 1000000) && strsB ss its.toList)
    | _, _, _ => false)
  | none => false
theorem tpY {x : Str} {ss : List String} (KX : K.In h) (Gn : h.Ns mainGlobals mg) (e : cTp x ss K = true) : TupG K mg x ss := by
  unfold cTp at e
  rw [Bool.and_eq_true] at e
  obtain ⟨e1, e2⟩ := e
  split at e2
  · rename_i o ho
    split at e2
    · rename_i c its n hc hd hs
      simp only [Bool.and_eq_true, decide_eq_true_eq] at e2
      obtain ⟨e3, e4, e5⟩ := e2
      subst e3
      exact tupG_of KX Gn (He.eqO_ok e1) ho hc hd hs (strsB_ok e5) e4
    · cases e2
  · cases e2
/-! ### functions -/
theorem fun_of_D {x qual : Str} {st : Stmt} {f : Addr} {fd : FuncData} (F : FunD K x qual (defArgs st) (defBody st) (defScope st) [] [] f fd) : Fun K x qual st f fd := by
  obtain ⟨oc, od, dV, kV, doc, pm, an, cdv, ct, osl, rfl, lk, hcd, hD, hK⟩ := F.ex
  rcases hD with ⟨_, rfl⟩ | ⟨e, _⟩
  · exact ⟨⟨oc, od, kV, doc, pm, an, cdv, ct, osl, rfl, lk, hcd⟩, F.kp⟩
  · exact absurd rfl e
abbrev BindN (x qual : Str) (st : Stmt) (ps : List Str) : Prop := ∀ (kV doc pm : Value) (an : Option Addr) (cdv ct : Value) (us : List Value), us.length = ps.length → bindArgs (PySem.W.fnOf x qual (defArgs st) (defBody st) (defScope st) .none kV doc pm an cdv ct) ⟨us, []⟩ = pure (ps.zip us)
theorem funAtY {x : Str} {st : Stmt} {ps : List Str} (KX : K.In h) (Gn : h.Ns mainGlobals mg) (g : (He.Fa.glo x).ok K = true) (F : ∃ fd, FunD K x x (defArgs st) (defBody st) (defScope st) [] [] (He.ga K x) fd) (hb : BindN x x st ps) : FunAt K mg x st ps := by
  obtain ⟨fd, F⟩ := F
  exact ⟨_, fd, fun_of_D F, He.glo_ok KX Gn g, (fun_of_D F).binds hb⟩
theorem funOfY {C x qual : Str} {st : Stmt} {ps : List Str} (m : (He.Fa.meth C x).ok K = true) (F : ∃ fd, FunD K x qual (defArgs st) (defBody st) (defScope st) [] [] (He.ma K (He.ga K C) x) fd) (hb : BindN x qual st ps) : FunOf K (He.ga K C) x qual st ps := by
  obtain ⟨fd, F⟩ := F
  have M := He.meth_ok m
  exact ⟨_, fd, fun_of_D F, M.1, M.2, M.3, (fun_of_D F).binds hb⟩
end
end Dx

/-! Dx37: defaults, own errors, from what the top has left; the ends. -/
namespace Dx
open PySem PySem.Spec L2
section
variable {q : Ask} {w : World} {h : Heap} {K : Fg} {mg : Str → Option Value}
theorem den_adr {G : Gx} {d : D} {a : Addr} (hG : G.K = K) (e : denB 6 K d (.ref a) = true) (μ : List Addr) (H : Hp) : Den G μ H d (.ref a) := by
  obtain ⟨v, r, k⟩ := denB_ok hG.symm 6 d _ e
  rw [relV_fun (v := .ref a) (v' := v) rfl r]
  exact k μ H
theorem funDflY {C x qual : Str} {st : Stmt} {ps : List Str} {dvs : List V} {dfl : List D} {n : Nat} (m : (He.Fa.meth C x).ok K = true) (F : ∃ fd, FunD K x qual (defArgs st) (defBody st) (defScope st) dvs [] (He.ma K (He.ga K C) x) fd)
    (den : ∀ G : Gx, G.K = K → ∀ μ H, DenA G μ H dfl dvs) (G0 : Gx) (hG0 : G0.K = K) (ne : dfl ≠ []) (hn : n + dfl.length = ps.length)
    (hb1 : ∀ (T : Addr) (kV doc pm : Value) (an : Option Addr) (cdv ct : Value) (us its : List Value), us.length = n → its.length = dfl.length → ∃ k, bindArgs (PySem.W.fnOf x qual (defArgs st) (defBody st) (defScope st) (.ref T) kV doc pm an cdv ct) ⟨us, []⟩ = seqItems? (.ref T) >>= k ∧ k (some its.toArray) = pure (ps.zip (us ++ its)))
    (hb2 : ∀ (T : Addr) (kV doc pm : Value) (an : Option Addr) (cdv ct : Value) (us its : List Value), us.length = ps.length → its.length = dfl.length → ∃ k, bindArgs (PySem.W.fnOf x qual (defArgs st) (defBody st) (defScope st) (.ref T) kV doc pm an cdv ct) ⟨us, []⟩ = seqItems? (.ref T) >>= k ∧ k (some its.toArray) = pure (ps.zip us)) :
    FunDfl K (He.ga K C) x qual st ps dfl := by
  obtain ⟨fd, F⟩ := F
  have M := He.meth_ok m
  have hlen : dfl.length = dvs.length := (den G0 hG0 [] (fun _ => none)).length
  have hne : dvs ≠ [] := fun z => ne (by rw [z] at hlen; exact List.eq_nil_of_length_eq_zero hlen)
  obtain ⟨d1, v1, b1⟩ := F.binds1 (ps := ps) n 0 hne (by omega) fun T kV doc pm an cdv ct us its h1 h2 => by
    obtain ⟨k, e1, e2⟩ := hb1 T kV doc pm an cdv ct us its h1 (by omega)
    exact ⟨k, e1, by simpa using e2⟩
  obtain ⟨d2, v2, b2⟩ := F.binds1 (ps := ps) ps.length dvs.length hne (by omega) fun T kV doc pm an cdv ct us its h1 h2 => by
    obtain ⟨k, e1, e2⟩ := hb2 T kV doc pm an cdv ct us its h1 (by omega)
    exact ⟨k, e1, by rw [List.drop_eq_nil_of_le (by omega), List.append_nil]; exact e2⟩
  rw [List.drop_zero] at v1
  rw [List.drop_length] at v2
  cases v2
  exact ⟨_, fd, dvs, d1, F, den, M.1, M.2, M.3, v1, b1, b2⟩
/-! ### own errors -/
def cEq (x : Str) (K : Fg) : Bool := He.eqO (PySem.W.findIn K (.ref (He.ga K x)) "__eq__") (some (some (.builtin "object.__eq__"))) && decide (PySem.W.subIn K (.ref (He.ga K x)) (.type "object") = some true)
theorem eqY {x : Str} (e : cEq x K = true) : EqCls K (He.ga K x) := by
  unfold cEq at e
  rw [Bool.and_eq_true] at e
  exact ⟨He.eqO_ok e.1, of_decide_eq_true e.2⟩
theorem errY {x : Str} (KX : K.In h) (Gn : h.Ns mainGlobals mg) (g : (He.Fa.glo x).ok K = true) (e : (He.Fa.exc x).ok K = true) : ErrG K mg (He.ga K x) x := by
  obtain ⟨a, b, c, d⟩ := He.exc_ok e
  exact ⟨a, He.glo_ok KX Gn g, b, c, d⟩
def cExc (x : Str) (K : Fg) : Bool := He.eqO (PySem.W.findIn K (.ref (He.ga K x)) "__getattribute__") (some (some (.builtin "BaseException.__getattribute__"))) && (He.eqO (PySem.W.findIn K (.ref (He.ga K x)) "__getattr__") (some none) &&
  (decide (PySem.W.subIn K (.ref (He.ga K x)) (.type "BaseException") = some true) && (PySem.W.hasDictIn K (He.ga K x) && (He.eqO (PySem.W.findIn K (.ref (He.ga K x)) "__class__") (some (some (.builtin "object.__class__"))) &&
  (He.eqO (PySem.W.specialIn K (.builtin "object.__class__") "__get__") (some (some (.builtin "getset_descriptor.__get__"))) && (decide (PySem.W.takesIn K (.builtin "object.__class__") = some true) && decide (PySem.W.mroIn K (He.ga K x) (.type "object") = some true)))))))
theorem excY {x : Str} (e : cExc x K = true) : ExcC K (He.ga K x) := by
  unfold cExc at e
  simp only [Bool.and_eq_true, decide_eq_true_eq] at e
  obtain ⟨e1, e2, e3, e4, e5, e6, e7, e8⟩ := e
  exact ⟨He.eqO_ok e1, He.eqO_ok e2, e3, e4, He.eqO_ok e5, He.eqO_ok e6, e7, e8⟩
def cKit (x y : Str) (b : Bool) (K : Fg) : Bool := decide (PySem.W.kitOne K (.ref (He.ga K x)) (.ref (He.ga K y)) = some b)
def cOex (x : Str) (K : Fg) : Bool := (match K.lookup (He.ga K x) with
  | some o => (match o.cls, o.data, o.slots.toList with
    | .type c, .cls cd, [_, _, _, _, some (.builtin n), _] => decide (c = "type") && (decide (n = "ValueError.__new__") && (cd.hasDict && (!cd.hasDel && match cd.mro with
      | .ref C :: bm => decide (C = He.ga K x) && PySem.HandSPX.refsVE bm
      | _ => false)))
    | _, _, _ => false)
  | none => false) && (He.eqO (PySem.W.findIn K (.ref (He.ga K x)) "__setattr__") (some (some (.builtin "object.__setattr__"))) && (decide (PySem.W.subIn K (.ref (He.ga K x)) (.type "BaseException") = some true) && (decide (PySem.W.typeIn K (.ref (He.ga K x)) = some (.type "type")) && PySem.W.keepIn K (.ref (He.ga K x)))))
theorem oexY {x : Str} (e : cOex x K = true) : OexC K (He.ga K x) := by
  unfold cOex at e
  simp only [Bool.and_eq_true, decide_eq_true_eq] at e
  obtain ⟨e1, e2, e3, e4, e5⟩ := e
  refine ⟨?_, He.eqO_ok e2, e3, e4, e5⟩
  split at e1
  · rename_i o ho
    obtain ⟨oc, dd, dt, sl⟩ := o
    simp only at e1
    split at e1
    · rename_i c cd k0 k1 k2 k3 n k5 hs
      simp only [Bool.and_eq_true, decide_eq_true_eq, Bool.not_eq_true'] at e1
      obtain ⟨rfl, rfl, h3, h4, h5⟩ := e1
      split at h5
      · rename_i C bm hm
        rw [Bool.and_eq_true] at h5
        obtain ⟨h7, h6⟩ := h5
        have h8 := of_decide_eq_true h7
        subst h8
        obtain ⟨c1, c2, c3, c4, c5, c6, c7, c8, c9, c10, c11⟩ := cd
        simp only at h3 h4 hm
        subst h3 h4 hm
        have hs2 : sl = #[k0, k1, k2, k3, some (.builtin "ValueError.__new__"), k5] := by
          have := congrArg List.toArray hs
          simpa using this
        subst hs2
        exact ⟨_, _, _, _, _, _, _, _, _, _, _, _, _, _, _, ho, h6⟩
      · cases h5
    · cases e1
  · cases e1
/-- the code object and the cell of such an __init__ -/
def cIniA (x qual file : Str) (K : Fg) : Bool := match K.lookup (He.fAd K (x, some "__init__")) with
  | some o => (match o.data with
    | .func fd => (match fd.code with
      | .ref cda => PySem.W.codeIn K (.ref cda) qual && (match K.lookup cda with
        | some oc => (match oc.data with
          | .fields vs => (match (vs[2]? : Option Value) with
            | some (.str f _) => decide (f = file)
            | _ => false)
          | _ => false)
        | none => false)
      | _ => false) && (match fd.closure with
      | [(_, cc)] => (match K.lookup cc with
        | some oc => (match oc.data with
          | .cell (some (.ref C)) => decide (C = He.ga K x)
          | _ => false)
        | none => false)
      | _ => false)
    | _ => false)
  | none => false
theorem cini_okA {x qual file nm : Str} {params : Arguments} {body : List Stmt} {scope : Scope} {oc : Value} {od : Option Addr} {osl : Array (Option Value)} {dV kV doc pm : Value} {an : Option Addr} {cdv ct : Value} {cc : Addr}
    (lk : K.lookup (He.fAd K (x, some "__init__")) = some ⟨oc, od, .func (PySem.W.ksFn nm qual params body scope dV kV doc pm an cdv ct cc), osl⟩) (e : cIniA x qual file K = true) :
    ∃ cda ccl cdd vs ccs tf cl cld csl, cdv = .ref cda ∧ PySem.W.codeIn K (.ref cda) qual = true ∧ K.lookup cda = some ⟨ccl, cdd, .fields vs, ccs⟩ ∧ vs[2]? = some (.str file tf) ∧ K.lookup cc = some ⟨cl, cld, .cell (some (.ref (He.ga K x))), csl⟩ := by
  unfold cIniA at e
  rw [lk] at e
  simp only [Bool.and_eq_true] at e
  obtain ⟨e1, e2⟩ := e
  split at e1
  · rename_i cda
    rw [Bool.and_eq_true] at e1
    obtain ⟨a1, a2⟩ := e1
    split at a2
    · rename_i o2 ho2
      split at a2
      · rename_i vs hv
        split at a2
        · rename_i f tf hf
          have := of_decide_eq_true a2
          subst this
          split at e2
          · rename_i o3 ho3
            split at e2
            · rename_i C hC
              have := of_decide_eq_true e2
              subst this
              obtain ⟨b1, b2, b3, b4⟩ := o2
              obtain ⟨d1, d2, d3, d4⟩ := o3
              simp only at hv hC
              subst hv hC
              exact ⟨cda, b1, b2, vs, b4, tf, d1, d2, d4, rfl, a1, ho2, hf, ho3⟩
            · cases e2
          · cases e2
        · cases a2
      · cases a2
    · cases a2
  · cases e1
def cIniN (x : Str) (K : Fg) : Bool := match K.lookup (He.fAd K (x, some "__init__")) with
  | some o => (match o.data with
    | .func fd => (match fd.defaults with
      | .none => true
      | _ => false)
    | _ => false)
  | none => false
def cIni (x qual file : Str) (K : Fg) : Bool := cIniN x K && cIniA x qual file K
theorem cini_ok {x qual file nm : Str} {params : Arguments} {body : List Stmt} {scope : Scope} {oc : Value} {od : Option Addr} {osl : Array (Option Value)} {dV kV doc pm : Value} {an : Option Addr} {cdv ct : Value} {cc : Addr}
    (lk : K.lookup (He.fAd K (x, some "__init__")) = some ⟨oc, od, .func (PySem.W.ksFn nm qual params body scope dV kV doc pm an cdv ct cc), osl⟩) (e : cIni x qual file K = true) :
    dV = .none ∧ ∃ cda ccl cdd vs ccs tf cl cld csl, cdv = .ref cda ∧ PySem.W.codeIn K (.ref cda) qual = true ∧ K.lookup cda = some ⟨ccl, cdd, .fields vs, ccs⟩ ∧ vs[2]? = some (.str file tf) ∧ K.lookup cc = some ⟨cl, cld, .cell (some (.ref (He.ga K x))), csl⟩ := by
  unfold cIni at e
  rw [Bool.and_eq_true] at e
  refine ⟨?_, cini_okA lk e.2⟩
  have e1 := e.1
  unfold cIniN at e1
  rw [lk] at e1
  simp only at e1
  split at e1
  · rfl
  · cases e1
def cIni2 (x fld : Str) (K : Fg) : Bool := decide (PySem.W.mroIn K (He.ga K x) (.ref (He.ga K x)) = some true) && (He.eqO (PySem.W.ks_superIn K (He.ga K x) (He.ga K x) "__init__") (some (some (.builtin "ValueError.__init__"))) && (decide (PySem.W.subIn K (.ref (He.ga K x)) (.type "ValueError") = some true) &&
  (PySem.W.excInitIn K (He.ga K x) bmVE "ValueError.__new__" && (He.eqO (PySem.W.nsIn K cStatics "thirdparty.any") (some none) && (He.eqO (PySem.W.findIn K (.ref (He.ga K x)) fld) (some none) && He.eqO (PySem.W.nsIn K mainGlobals "super") (some none))))))
theorem iniY {P : Program} {st : Stmt} {x fld0 slf y nm qual file : Str} {fld : String} {v1 v2 : Expr} {rest : List Expr} {n : Nat} {p0 p1 p2 p3 p4 p5 p6 p7 p8 p9 : Pos} {ar : Arg} {pl : Sem Bool}
    (X : K.In h) (Gn : h.Ns mainGlobals mg) (g : (He.Fa.glo x).ok K = true) (T : cOex x K = true) (m : (He.Fa.meth x "__init__").ok K = true) (fc : fnC K (x, some "__init__") = some (nm, qual, defArgs st, FuncBody.stmts (defBody st), defScope st, mainGlobals, [("__class__" : Str)], builtinsNs)) (ci : cIni x qual file K = true) (c2' : cIni2 x fld0 K = true)
    (hbody : defBody st = [.Expr (.Call (.Attribute (.Call (.Name "super" p0) [] [] p1) "__init__" p2) [.JoinedStr (v1 :: v2 :: rest) p3] [] p4) p5, .Assign [.Attribute (.Name slf p6) fld0 p7] (.Name y p8) p9])
    (tl : Tells y (v1 :: v2 :: rest) n) (hn : n ≤ 100000) (hev : ∀ env : Env, eval (.Call (.Attribute (.Call (.Name "super" p0) [] [] p1) "__init__" p2) [.JoinedStr (v1 :: v2 :: rest) p3] [] p4) env = (do
      let ov ← attributeBase (.Call (.Name "super" p0) [] [] p1) "__init__" env (eval (.Call (.Name "super" p0) [] [] p1) env)
      standAt p2.atName
      let (f, first) ← holding [ov] (getMethod ov "__init__" pl)
      callWith p4 f first (backTo p4 (starEach [.JoinedStr (v1 :: v2 :: rest) p3] env)) []))
    (hs1 : ∀ env : Env, swapsWith (.Call (.Attribute (.Call (.Name "super" p0) [] [] p1) "__init__" p2) [.JoinedStr (v1 :: v2 :: rest) p3] [] p4) none p5.line env = pure false) (hs2 : ∀ env : Env, swapsWith (.Name y p8) (some (.Attribute (.Name slf p6) fld0 p7)) p9.line env = pure false)
    (hb : ∀ (kV doc pm : Value) (an : Option Addr) (cdv ct : Value) (cc : Addr) (us : List Value), us.length = [slf, y].length → bindArgs (PySem.W.ksFn nm qual (defArgs st) (defBody st) (defScope st) .none kV doc pm an cdv ct cc) ⟨us, []⟩ = pure ([slf, y].zip us))
    (hd1 : ((defArgs st).posonlyargs ++ (defArgs st).args).head? = some ar) (hd2 : ar.arg = slf) (hfile : ((P.main.file : Str) == file) = true)
    (ef : fld0 = Str.ofString fld) (c1 : (defScope st).names.lookup ("super" : Str) = some .globalImplicit) (c2 : (defScope st).names.lookup ("__class__" : Str) = some .free) (c3 : (defScope st).names.lookup slf = some .local) (c4 : (defScope st).names.lookup y = some .local) (c5 : (defScope st).kind = .function) (c6 : (defScope st).isCoroutine = false) (c7 : (defScope st).isGenerator = false)
    (c8 : ((defScope st).names.all fun x => decide (x.2 ≠ .cell)) = true) (c9 : y ≠ slf) (ca : (slf == ("__debug__" : Str)) = false) (cb : (y == ("__debug__" : Str)) = false) (top : (P.main.scope.names.lookup ("super" : Str)).isSome = false) : IniX P K mg (He.ga K x) x fld := by
  obtain ⟨oc, od, osl, dV, kV, doc, pm, an, cdv, ct, cc, lk⟩ := ini_fd (K := K) (d := ⟨(x, some "__init__"), nm, qual, defArgs st, defBody st, defScope st⟩) fc
  obtain ⟨rfl, cda, ccl, cdd, vs, ccs, tf, cl, cld, csl, rfl, k1, k2, k3, k4⟩ := cini_ok lk ci
  unfold cIni2 at c2'
  simp only [Bool.and_eq_true, decide_eq_true_eq] at c2'
  obtain ⟨i1, i2, i3, i4, i5, i6, i7⟩ := c2'
  have M := He.meth_ok m
  exact iniX_of X Gn (He.eqO_ok g) (oexY T) M.1 (beq_iff_eq.mp M.2) lk hbody tl hn hev hs1 hs2 (hb kV doc pm an (.ref cda) ct cc) k1 hd1 hd2 k2 k3 hfile k4 i1 (He.eqO_ok i2) i3 i4 (He.eqO_ok i5) (He.eqO_ok i6) (He.eqO_ok i7) ef c1 c2 c3 c4 c5 c6 c7 c8 c9 ca cb top
end
theorem lawFunY {K : Fg} {st : Stmt} (F : ∃ fd, FunD K "law" "law" (defArgs st) (defBody st) (defScope st) [] [] (He.ga K "law") fd) : ∃ fd : FuncData, Fun K "law" "law" st (He.ga K "law") fd ∧ fd.code = .ref (He.codeOf K ("law", none)) := by
  obtain ⟨fd, F⟩ := F
  refine ⟨fd, fun_of_D F, ?_⟩
  obtain ⟨oc, od, dV, kV, doc, pm, an, cdv, ct, osl, rfl, lk, hcd, _, _⟩ := F.ex
  obtain ⟨c, rfl⟩ := He.codeIn_ref hcd
  rw [He.codeOf_eq (p := ("law", none)) lk rfl]
/-! ### the ends -/
theorem walkDY {l : PySem.W.OpenLaw} {q0 : Program} {loose : List Str} {XP : (Str → Option Value) → Heap → Prop} {YP : World → Heap → Prop} {d : DefRec} (k : Nat) (hk : Room k callerA) (hn : l.most = some 63) (hdf : d.params.defaults = [])
    (F : ∀ (w : World) (mg : Str → Option Value) (fa : Addr) (h : Heap), YP w h → h.Ns mainGlobals mg → mg d.name = some (.ref fa) →
      ∃ K : Fg, K.In h ∧ ∃ fd : FuncData, (∀ (s : Shared) (u : Value), BindsTo s fd ⟨[u], []⟩ [("script", u)]) ∧ ∀ base : Heap, K.In base → base.Ns mainGlobals mg → FnOk l.prog w K mg base (L2.CX l.prog w) k fa fd ["script"] (spLawD 63 K)) :
    PySem.W.WalkO q0 loose XP YP l.row.toRowW d [] (fun f vs => PySem.call f vs) := by
  refine Att.attach_call hn hdf fun w s₀ s₁ mg mb fa o pm cd doc a vs ns G Y ho hd hcd hmg hobj hints hlen hg => ?_
  obtain ⟨K, KX, fd, hb, hF⟩ := F w mg fa _ Y G.T.g hmg
  exact law_call KX G.T.g G.T.b G.T.builtins G.T.nolimit hg hobj hints (Nat.le_trans hlen (by decide)) hk hF hb (fun H hO hS => ⟨a, ns, rfl, hlen, hO, hS, fun _ => rfl⟩) fun _ _ _ ⟨_, _, _, _, _, _, _, _, _, _, _, _, z⟩ => z
theorem walkLY {l : PySem.W.OpenLaw} {q0 : Program} {loose : List Str} {XP : (Str → Option Value) → Heap → Prop} {YP : World → Heap → Prop} {d : DefRec} (k : Nat) (hk : Room k callerA) (hn : l.most = some 63) (hdf : d.params.defaults = [])
    (F : ∀ (w : World) (mg : Str → Option Value) (fa : Addr) (h : Heap), YP w h → h.Ns mainGlobals mg → mg d.name = some (.ref fa) →
      ∃ K : Fg, K.In h ∧ ∃ (fd : FuncData) (c Pt : Addr), h.get? Pt = some { cls := .none, data := .fields #[] } ∧ K.lookup Pt = none ∧ PySem.W.CodeHd h c Pt ∧ (∀ (s : Shared) (u : Value), BindsTo s fd ⟨[u], []⟩ [("script", u)]) ∧
        ∀ base : Heap, K.In base → base.Ns mainGlobals mg → LamX.TabB base mg c Pt → FnOk l.prog w K mg base (L2.CX l.prog w) k fa fd ["script"] (spLawT 63 K Pt)) :
    PySem.W.WalkO q0 loose XP YP l.row.toRowW d [] (fun f vs => PySem.call f vs) := by
  refine LamX.walk_ofTsE (n := 63) (k := k) (x := "script") (CX := fun w => L2.CX l.prog w) hn (by decide) hdf hk (fun w mg fa h Y Gn hm => ?_) fun _ _ _ _ _ ⟨_, _, _, _, _, _, _, _, _, _, _, _, z⟩ => z
  obtain ⟨K, KX, fd, c, Pt, h1, h2, h3, h4, h5⟩ := F w mg fa h Y Gn hm
  refine ⟨K, KX, fd, [(c, Pt)], spLawT 63 K Pt, ?_, ?_, ?_, h4, ?_, fun base b1 b2 b3 => h5 base b1 b2 (b3 (c, Pt) (by simp))⟩
  · intro p hp; simp at hp; subst hp; exact h1
  · intro p hp; simp at hp; subst hp; exact h2
  · intro p hp; simp at hp; subst hp; exact h3
  · exact fun H a ns hl _ hT hS => ⟨a, ns, rfl, hl, hT _ (List.mem_singleton.mpr rfl), hS, fun _ => rfl⟩
end Dx

/-! Dx38: sum of a tuple of ints. -/
namespace Dx
open PySem PySem.Spec L2
theorem fold_ints : ∀ (ns : List Int) (a : Int), W.Num.foldFrom W.Num.add (.int a) (ns.map W.WData.int) = some (.int (a + ns.sum))
  | [], a => by simp [W.Num.foldFrom]
  | n :: ns, a => by
    have := fold_ints ns (a + n)
    rw [Int.add_assoc] at this
    simpa [W.Num.foldFrom, W.Num.add] using this
theorem sum_ints : ∀ (ns : List Int) (a : Int), W.Num.sumInts a (ns.map W.WData.int) = some (.int (a + ns.sum))
  | [], a => by simp [W.Num.sumInts.eq_1]
  | n :: ns, a => by
    rw [List.map_cons, W.Num.sumInts.eq_2, List.sum_cons, ← Int.add_assoc]
    split
    · exact sum_ints ns _
    · exact fold_ints ns _
theorem size_pushN {h : Heap} {o : Obj} : (h.push o).objs.size = h.objs.size + 1 := by
  cases h
  simp [Heap.push]
theorem get_pushN {h : Heap} {o : Obj} (hf : o.data ≠ .freed) : (h.push o).get? h.objs.size = some o := by
  cases h
  simp only [Heap.push, Heap.get?]
  rw [Array.getElem?_push_size]
  obtain ⟨c, d, data, sl⟩ := o
  cases data <;> first | rfl | exact absurd rfl hf
theorem get_pushO {h : Heap} {o u : Obj} {b : Addr} (hb : h.get? b = some u) : (h.push o).get? b = some u := by
  have hlt : b < h.objs.size := by
    refine Nat.lt_of_not_le fun hn => ?_
    rw [Heap.get?, Array.getElem?_eq_none hn] at hb
    exact nomatch hb
  cases h
  simp only [Heap.push, Heap.get?] at hb hlt ⊢
  rw [Array.getElem?_push_lt hlt]
  rw [Array.getElem?_eq_getElem hlt] at hb
  exact hb
theorem cr_sumT {X : Cx} (hc : X.calm = true) : CallR X (.builtin "sum") (fun vs H Q => ∃ (a : Addr) (ns : List Int), vs = [V.ref a] ∧ SqT X.K H a (ns.map V.int) ∧ Q (.int ns.sum) H) := by
  rintro pins s σ H vs us Q I r ⟨a, ns, rfl, hs, q⟩
  obtain ⟨its, rv, ht, hl⟩ := I.tuple hs
  rw [Vals.ref1 r]
  obtain ⟨o, ho, hc1, n1, hd⟩ := ht
  have hlt : ∀ {b : Addr} {u : Obj}, s.heap.get? b = some u → b < s.heap.objs.size := by
    intro b u hb
    refine Nat.lt_of_not_le fun hn => ?_
    rw [Heap.get?, Array.getElem?_eq_none hn] at hb
    exact nomatch hb
  have ht : s.heap.IsTuple a its.toArray := ⟨o, ho, hc1, n1, hd⟩
  have hlen : (ns.map W.WData.int).length = its.toArray.size := by
    have := rv.length
    simp at this ⊢
    omega
  refine Flt.call_sum_walkF (xs := ns.map W.WData.int) (r := .int ns.sum) (by simpa using sum_ints ns 0) ?_
  refine wpAny_pyIter_tuple ht ?_
  have hW := (Walks.tuple (prog := X.prog) (w := X.w) (A := X.A.in1) (I.ok.hd hc) s.heap.objs.size a (Nat.ne_of_lt (hlt ho)) its.toArray).toS
  rw [← hlen] at hW
  refine ⟨_, _, _, _, _, _, rfl, hW, ⟨?_, ?_⟩, ?_, ?_, ?_⟩
  · exact ⟨_, get_pushN (by intro z; exact nomatch z), rfl, rfl⟩
  · exact ⟨o, get_pushO ho, hc1, n1, hd⟩
  · intro b hb
    rw [size_pushN]
    rcases List.mem_cons.mp hb with rfl | hb
    · exact Nat.lt_succ_self _
    · rw [List.mem_singleton.mp hb]; exact Nat.lt_succ_of_lt (hlt ho)
  · intro i v hi
    have hi' : its[i]? = some v := by simpa using hi
    have hk := (List.getElem?_eq_some_iff.mp hi').1
    have hk2 : i < ns.length := by have := rv.length; simp at this; omega
    obtain ⟨u, h1, h2⟩ := rv.get (i := i) (x := .int ns[i]) (by simp [hk2])
    rw [hi'] at h1
    cases h1
    obtain ⟨t, rfl⟩ := h2
    exact ⟨.int ns[i], by simp [hk2], .int _ _⟩
  · intro s' v hv hm
    cases hv
    obtain ⟨hh, gens, drawn, tk, os⟩ := s'
    have e1 := hm.gens; have e2 := hm.drawn; have e3 := hm.os
    dsimp only at e1 e2 e3
    subst e1 e2 e3
    exact ⟨.int ns.sum, H, I.kept fun b u hb => hm.heap b u (by intro z; have := List.mem_singleton.mp z; subst this; exact absurd (hlt hb) (Nat.lt_irrefl _)) (get_pushO hb), ⟨_, rfl⟩, q⟩
def rSumA (K : W.Frag) (vs : List V) (H : Hp) (Q : VK) : Prop := ∃ (a : Addr) (ns : List Int), vs = [V.ref a] ∧ ((SqL K H a (ns.map V.int)) ∨ SqT K H a (ns.map V.int)) ∧ Q (.int ns.sum) H
theorem cr_sumA {X : Cx} (hc : X.calm = true) : CallR X (.builtin "sum") (rSumA X.K) := by
  rintro pins s σ H vs us Q I r ⟨a, ns, e, hs | hs, q⟩
  · exact cr_sum hc pins s σ H vs us Q I r ⟨a, ns, e, hs, q⟩
  · exact cr_sumT hc pins s σ H vs us Q I r ⟨a, ns, e, hs, q⟩
/-- of a list or of a tuple -/
def cSumA : CV := fun ds S => match ds with
  | [d] => match tupOf d with
    | some xs => match intsOf xs with
      | some ns => .ok (.int ns.sum) S
      | none => .stuck
    | none => cSum [d] S
  | _ => .stuck
variable {G : Gx} {X : Cx} {W : WX}
theorem cv_sumA : CallV G W (rSumA G.K) cSumA := by
  intro μ S H xs ds σ Q rp dd po
  unfold cSumA at po
  split at po
  · cases dd with
    | cons d1 t =>
      cases t
      split at po
      · rename_i ys e1
        split at po
        · rename_i ns e2
          obtain ⟨a, vs, rfl, h1, h2⟩ := tup_den d1 e1
          have := ints_den h2 e2
          subst this
          exact ⟨a, ns, rfl, .inr h1, post_ok rp po (.int _)⟩
        · exact po.elim
      · obtain ⟨a, ns, e, hs, q⟩ := cv_sum (G := G) _ _ _ _ _ _ _ rp (.cons d1 .nil) po
        exact ⟨a, ns, e, .inl hs, q⟩
  · exact po.elim
theorem de_sumA {e : Expr} {p pos : Pos} {g : FA} (A : Amb G X W) (hc : X.calm = true) (hm : X.mg "sum" = none) (ha : PA X [e] (TDA G W g)) (hg : Gl X "sum" := by rfl) (he : starEach [e] X.env = (false, eval e X.env) :: starEach [] X.env := by rfl) (hpl : (backTo pos (starEach [] X.env)).any (·.1) = false := by rfl) : PE X (.Call (.Name "sum" p) [e] [] pos) (TD G W (xB cSumA g)) :=
  de_callB (r := rSumA G.K) (by have := cr_sumA hc; rw [A.hK] at this; exact this) cv_sumA hm PyProof.Rows.boot_sum ha hg (by decide) (by decide) he hpl
end Dx

/-! Dx39: one run of the top, looked at in three parts. -/
namespace Dx
open PySem PySem.Spec L2
/-- the end of the top's run -/
noncomputable def endY (r : PySem.W.OpenRow) (M : Nat) (w : World) (os : OsState) : Option PySem.W.SharedT := HandSHeadRun.endF (HandSHeadRun.stepQ (HandSHeadRun.denQ HandSHeadRun.tabQ) r.prog w) M r.prog w os
noncomputable def fragY (n0 len : Nat) (s : PySem.W.SharedT) : Fg := He.frT (HandSHeadRun.getT s) (asY n0 len)
theorem map_some {α β : Type} {e : Option α} {f : α → β} {b : β} (h : e.map f = some b) : ∃ s, e = some s ∧ f s = b := by
  cases e with
  | none => cases h
  | some s => exact ⟨s, rfl, Option.some.inj h⟩
theorem runEq_join {r : PySem.W.OpenRow} {q : Program} {n0 len M : Nat} {ask : Ask} {fnA fnB : List He.DefD} {loose : List PySem.Str} {w : World} (hfn : ask.fn = fnA ++ fnB)
    (h1 : ∀ os, (endY r M w os).map (fun s => (HandSHeadRun.looksF r.prog (PySem.W.boot_heap w.params) s.abs, HandSHeadRun.seenQ q loose (importedModules r.prog.main.body) (fun s => PySem.W.xlAt q [] s && PySem.W.recOk r.toRowW.records s) s.abs, ask.ex.all fun f => f (fragY n0 len s))) = some (true, PySem.W.openGood q loose, true))
    (h2 : ∀ os, (endY r M w os).map (fun s => ((fnA.all fun d => d.ok (fragY n0 len s)), fnA.map fun d => He.fnW (fragY n0 len s) d.at_)) = some (true, fnA.map He.DefD.val))
    (h3 : ∀ os, (endY r M w os).map (fun s => ((fnB.all fun d => d.ok (fragY n0 len s)), (fnB.map fun d => He.fnW (fragY n0 len s) d.at_), He.tabsB (HandSHeadRun.getT s) ask.tf (fragY n0 len s), (ask.ts.map fun t => He.dicW (fragY n0 len s) (t.1 (fragY n0 len s))), ask.fx.map fun d => fnC (fragY n0 len s) d.at_)) = some (true, fnB.map He.DefD.val, true, ask.ts.map (fun t => some (He.keysIn w.params t.2)), ask.fx.map IniD.val)) :
    HandSHeadRun.RunEq r q (hookY n0 len ask) (fun s => obsY n0 len ask (HandSHeadRun.getT s)) M loose w := by
  intro os
  have a1 := h1 os
  have a2 := h2 os
  have a3 := h3 os
  show (endY r M w os).map _ = _
  obtain ⟨s, e, b1⟩ := map_some a1
  rw [e] at a2 a3 ⊢
  have b2 := Option.some.inj a2
  have b3 := Option.some.inj a3
  refine congrArg some ?_
  simp only [Prod.mk.injEq] at b1 b2 b3
  obtain ⟨c1, c2, c3⟩ := b1
  obtain ⟨d1, d2⟩ := b2
  obtain ⟨e1, e2, e3, e4, e5⟩ := b3
  have ho : obsY n0 len ask (HandSHeadRun.getT s) = valY ask w := by
    show obsK ask (HandSHeadRun.getT s) (fragY n0 len s) = _
    unfold obsK valY
    rw [hfn, c3, List.all_append, d1, e1, e3, List.map_append, List.map_append, d2, e2, e4, e5]
    rfl
  exact Prod.ext c1 (Prod.ext c2 ho)
end Dx

set_option maxHeartbeats 4000000
noncomputable section
namespace Law
open PySem PySem.Spec L2 Dx LamX
def top (i : Nat) : Stmt := PySem.Challenge.pw_windowbelt_k17_whole_texts_of_programs.main.body.getD i (.Pass ⟨0, 0, 0, 0⟩)
abbrev wfuel : Nat := 600
abbrev rfuel : Nat := 6
def k_MOST_INSTRUCTIONS : D := (.int 40)
def k_GREATEST : D := (.cdict ["set", "sum", "get", "put", "if", "show"] [(.ktup [(.int 7), (.int 255)]), (.ktup [(.int 7), (.int 7), (.int 7), (.int 255)]), (.ktup [(.int 7), (.int 7), (.int 7)]), (.ktup [(.int 7), (.int 7), (.int 7)]), (.ktup [(.int 7), (.int 40)]), (.ktup [(.int 7)])])
def k_MANY_DIGITS : D := (.int 10)
abbrev s_is_integer : Stmt := top 6
abbrev s_check_text : Stmt := top 15
abbrev s_line_of : Stmt := top 16
abbrev s_number_told : Stmt := top 17
abbrev s_lines_of : Stmt := top 21
abbrev s__law_taken : Stmt := top 24
abbrev s__law_wrong : Stmt := top 29
abbrev s_is_from_to : Stmt := top 7
abbrev s_instruction_told : Stmt := top 22
abbrev s__law_pick : Stmt := top 25
abbrev s_is_instruction_among : Stmt := top 11
abbrev s__law_instruction : Stmt := top 27
abbrev s_check_program : Stmt := top 12
abbrev s_read_program : Stmt := top 20
abbrev s__law_program : Stmt := top 28
abbrev s_write_program : Stmt := top 19
abbrev s__law_alike : Stmt := top 26
abbrev s_law : Stmt := top 30
end Law

/-! Dx40: the first part of what is looked at, in two. -/
namespace Dx
theorem look_join {α β γ ε : Type} {e : Option α} {l : α → β} {q : α → γ} {f : α → ε} {as bs : List (ε → Bool)} {a : β} {g : γ} (h1 : e.map (fun s => (l s, as.all fun c => c (f s))) = some (a, true)) (h2 : e.map (fun s => (q s, bs.all fun c => c (f s))) = some (g, true)) : e.map (fun s => (l s, q s, (as ++ bs).all fun c => c (f s))) = some (a, g, true) := by
  cases e with
  | none => cases h1
  | some s =>
    simp only [Option.map_some, Option.some.injEq, Prod.mk.injEq, List.all_append, Bool.and_eq_true] at h1 h2 ⊢
    exact ⟨h1.1, h2.1, h1.2, h2.2⟩
end Dx

/-! Dx44: the defs looked at, in two. -/
namespace Dx
open PySem PySem.Spec L2
theorem fn_join {α κ : Type} {e : Option α} {F : α → κ} {ok : κ → He.DefD → Bool} {β : Type} {at_ : κ → He.DefD → β} {val : He.DefD → β} {A B : List He.DefD} (h1 : e.map (fun s => ((A.all fun d => ok (F s) d), A.map fun d => at_ (F s) d)) = some (true, A.map val)) (h2 : e.map (fun s => ((B.all fun d => ok (F s) d), B.map fun d => at_ (F s) d)) = some (true, B.map val)) :
    e.map (fun s => (((A ++ B).all fun d => ok (F s) d), (A ++ B).map fun d => at_ (F s) d)) = some (true, (A ++ B).map val) := by
  cases e with
  | none => cases h1
  | some s =>
    simp only [Option.map_some, Option.some.injEq, Prod.mk.injEq, List.all_append, List.map_append, Bool.and_eq_true] at h1 h2 ⊢
    exact ⟨⟨h1.1, h2.1⟩, by rw [h1.2, h2.2]⟩
end Dx

namespace LawH
open PySem PySem.W PyProof.Rows L2 Dx Law
set_option maxHeartbeats 0
def nm0 : List PySem.Str := ["WindowError", "BadProgram", "NotText", "InvalidText", "is_integer", "is_from_to", "MOST_INSTRUCTIONS", "GREATEST", "is_instruction_among", "check_program", "MANY_DIGITS", "check_text", "line_of", "number_told", "write_program", "read_program", "lines_of", "instruction_told", "_law_taken", "_law_pick", "_law_alike", "_law_instruction", "_law_program", "_law_wrong"]
def names : List PySem.Str := nm0
def ex0 : List (Fg → Bool) := [(He.Fa.glo "is_integer").ok,
  (He.Fa.glo "check_text").ok,
  (He.Fa.glo "line_of").ok,
  (He.Fa.glo "number_told").ok,
  (He.Fa.glo "lines_of").ok,
  (He.Fa.glo "_law_taken").ok,
  (He.Fa.glo "_law_wrong").ok,
  (He.Fa.glo "is_from_to").ok,
  (He.Fa.glo "instruction_told").ok,
  (He.Fa.glo "_law_pick").ok,
  (He.Fa.glo "is_instruction_among").ok,
  (He.Fa.glo "_law_instruction").ok,
  (He.Fa.glo "check_program").ok,
  (He.Fa.glo "read_program").ok,
  (He.Fa.glo "_law_program").ok,
  (He.Fa.glo "write_program").ok,
  (He.Fa.glo "_law_alike").ok,
  cDic "GREATEST" ["set", "sum", "get", "put", "if", "show"] [(.ktup [(.int 7), (.int 255)]), (.ktup [(.int 7), (.int 7), (.int 7), (.int 255)]), (.ktup [(.int 7), (.int 7), (.int 7)]), (.ktup [(.int 7), (.int 7), (.int 7)]), (.ktup [(.int 7), (.int 40)]), (.ktup [(.int 7)])],
  cDen "MANY_DIGITS" k_MANY_DIGITS,
  cDen "MOST_INSTRUCTIONS" k_MOST_INSTRUCTIONS,
  (He.Fa.free "all").ok,
  (He.Fa.free "bool").ok,
  (He.Fa.exm "BadProgram" "WindowError" true).ok,
  (He.Fa.exm "NotText" "WindowError" true).ok,
  (He.Fa.exm "InvalidText" "WindowError" true).ok,
  (He.Fa.free "enumerate").ok,
  (He.Fa.glo "NotText").ok,
  (He.Fa.exc "NotText").ok,
  (He.Fa.glo "BadProgram").ok,
  (He.Fa.glo "InvalidText").ok]
def ex1 : List (Fg → Bool) := [(He.Fa.glo "WindowError").ok,
  (He.Fa.meth "BadProgram" "__init__").ok,
  cOex "BadProgram",
  cIni "BadProgram" "BadProgram.__init__" (PySem.Challenge.rw_windowbelt_k17_whole_texts_of_programs).prog.main.file,
  cIni2 "BadProgram" "index",
  (He.Fa.meth "InvalidText" "__init__").ok,
  cOex "InvalidText",
  cIni "InvalidText" "InvalidText.__init__" (PySem.Challenge.rw_windowbelt_k17_whole_texts_of_programs).prog.main.file,
  cIni2 "InvalidText" "line",
  (He.Fa.free "int").ok,
  (He.Fa.free "isinstance").ok,
  (He.Fa.free "len").ok,
  (He.Fa.free "list").ok,
  (He.Fa.free "range").ok,
  (He.Fa.free "str").ok,
  (He.Fa.free "tuple").ok,
  (He.Fa.free "zip").ok,
  cExc "BadProgram",
  cExc "NotText",
  cExc "InvalidText",
  (He.Fa.noat "BadProgram" "index").ok,
  (He.Fa.noat "NotText" "index").ok,
  (He.Fa.noat "InvalidText" "index").ok,
  (He.Fa.noat "BadProgram" "line").ok,
  (He.Fa.noat "NotText" "line").ok,
  (He.Fa.noat "InvalidText" "line").ok,
  cKit "BadProgram" "BadProgram" true,
  cKit "BadProgram" "NotText" false,
  cKit "BadProgram" "InvalidText" false,
  cKit "NotText" "BadProgram" false]
def ex2 : List (Fg → Bool) := [cKit "NotText" "NotText" true,
  cKit "NotText" "InvalidText" false,
  cKit "InvalidText" "BadProgram" false,
  cKit "InvalidText" "NotText" false,
  cKit "InvalidText" "InvalidText" true,
  (He.Fa.glo "law").ok]
def exA : List (Fg → Bool) := ex0 ++ ex1
def exB : List (Fg → Bool) := ex2
def ex : List (Fg → Bool) := exA ++ exB
def fn0 : List He.DefD := [⟨("is_integer", none), "is_integer", "is_integer", defArgs s_is_integer, defBody s_is_integer, defScope s_is_integer, [], []⟩,
  ⟨("check_text", none), "check_text", "check_text", defArgs s_check_text, defBody s_check_text, defScope s_check_text, [], []⟩,
  ⟨("line_of", none), "line_of", "line_of", defArgs s_line_of, defBody s_line_of, defScope s_line_of, [], []⟩,
  ⟨("number_told", none), "number_told", "number_told", defArgs s_number_told, defBody s_number_told, defScope s_number_told, [], []⟩,
  ⟨("lines_of", none), "lines_of", "lines_of", defArgs s_lines_of, defBody s_lines_of, defScope s_lines_of, [], []⟩,
  ⟨("_law_taken", none), "_law_taken", "_law_taken", defArgs s__law_taken, defBody s__law_taken, defScope s__law_taken, [], []⟩,
  ⟨("_law_wrong", none), "_law_wrong", "_law_wrong", defArgs s__law_wrong, defBody s__law_wrong, defScope s__law_wrong, [], []⟩,
  ⟨("is_from_to", none), "is_from_to", "is_from_to", defArgs s_is_from_to, defBody s_is_from_to, defScope s_is_from_to, [], []⟩,
  ⟨("instruction_told", none), "instruction_told", "instruction_told", defArgs s_instruction_told, defBody s_instruction_told, defScope s_instruction_told, [], []⟩,
  ⟨("_law_pick", none), "_law_pick", "_law_pick", defArgs s__law_pick, defBody s__law_pick, defScope s__law_pick, [], []⟩,
  ⟨("is_instruction_among", none), "is_instruction_among", "is_instruction_among", defArgs s_is_instruction_among, defBody s_is_instruction_among, defScope s_is_instruction_among, [], []⟩,
  ⟨("_law_instruction", none), "_law_instruction", "_law_instruction", defArgs s__law_instruction, defBody s__law_instruction, defScope s__law_instruction, [], []⟩,
  ⟨("check_program", none), "check_program", "check_program", defArgs s_check_program, defBody s_check_program, defScope s_check_program, [], []⟩,
  ⟨("read_program", none), "read_program", "read_program", defArgs s_read_program, defBody s_read_program, defScope s_read_program, [], []⟩,
  ⟨("_law_program", none), "_law_program", "_law_program", defArgs s__law_program, defBody s__law_program, defScope s__law_program, [], []⟩,
  ⟨("write_program", none), "write_program", "write_program", defArgs s_write_program, defBody s_write_program, defScope s_write_program, [], []⟩,
  ⟨("_law_alike", none), "_law_alike", "_law_alike", defArgs s__law_alike, defBody s__law_alike, defScope s__law_alike, [], []⟩,
  ⟨("law", none), "law", "law", defArgs s_law, defBody s_law, defScope s_law, [], []⟩]
def fnA : List He.DefD := fn0
def fnB : List He.DefD := []
def fn : List He.DefD := fnA ++ fnB
def ts : List He.Tab := [(fun K => He.ga K "GREATEST", (["set", "sum", "get", "put", "if", "show"] : List String).map Str.ofString)]
def fx : List IniD := [⟨("BadProgram", some "__init__"), "__init__", "BadProgram.__init__", defArgs (inClass (Law.top 2) 0), defBody (inClass (Law.top 2) 0), defScope (inClass (Law.top 2) 0)⟩, ⟨("InvalidText", some "__init__"), "__init__", "InvalidText.__init__", defArgs (inClass (Law.top 4) 0), defBody (inClass (Law.top 4) 0), defScope (inClass (Law.top 4) 0)⟩]
def ask : Ask := ⟨ex, fn, ts, [("law", none)], fx⟩
abbrev R : PySem.W.OpenRow := PySem.W.OpenLaw.row PySem.Challenge.rw_windowbelt_k17_whole_texts_of_programs
theorem r1a_false (w : World) (os : OsState) : (endY R 20000 (w.withFollow "special-get-raises" false) os).map (fun s => (HandSHeadRun.looksF R.prog (boot_heap (w.withFollow "special-get-raises" false).params) s.abs, exA.all fun f => f (fragY 0 1400 s))) = some (true, true) := by
  kernel_rfl
theorem r1b_false (w : World) (os : OsState) : (endY R 20000 (w.withFollow "special-get-raises" false) os).map (fun s => (HandSHeadRun.seenQ (PySem.W.view R.prog [30]) names (importedModules R.prog.main.body) (fun s => xlAt (PySem.W.view R.prog [30]) [] s && recOk R.toRowW.records s) s.abs, exB.all fun f => f (fragY 0 1400 s))) = some (openGood (PySem.W.view R.prog [30]) names, true) := by
  kernel_rfl
theorem r1_false (w : World) (os : OsState) : (endY R 20000 (w.withFollow "special-get-raises" false) os).map (fun s => (HandSHeadRun.looksF R.prog (boot_heap (w.withFollow "special-get-raises" false).params) s.abs, HandSHeadRun.seenQ (PySem.W.view R.prog [30]) names (importedModules R.prog.main.body) (fun s => xlAt (PySem.W.view R.prog [30]) [] s && recOk R.toRowW.records s) s.abs, ask.ex.all fun f => f (fragY 0 1400 s))) = some (true, openGood (PySem.W.view R.prog [30]) names, true) := look_join (as := exA) (bs := exB) (f := fragY 0 1400) (r1a_false w os) (r1b_false w os)
theorem r2_false (w : World) (os : OsState) : (endY R 20000 (w.withFollow "special-get-raises" false) os).map (fun s => ((fnA.all fun d => d.ok (fragY 0 1400 s)), fnA.map fun d => He.fnW (fragY 0 1400 s) d.at_)) = some (true, fnA.map He.DefD.val) := by
  kernel_rfl
theorem r3_false (w : World) (os : OsState) : (endY R 20000 (w.withFollow "special-get-raises" false) os).map (fun s => ((fnB.all fun d => d.ok (fragY 0 1400 s)), (fnB.map fun d => He.fnW (fragY 0 1400 s) d.at_), He.tabsB (HandSHeadRun.getT s) ask.tf (fragY 0 1400 s), (ask.ts.map fun t => He.dicW (fragY 0 1400 s) (t.1 (fragY 0 1400 s))), ask.fx.map fun d => fnC (fragY 0 1400 s) d.at_)) = some (true, fnB.map He.DefD.val, true, ask.ts.map (fun t => some (He.keysIn (w.withFollow "special-get-raises" false).params t.2)), ask.fx.map IniD.val) := by
  kernel_rfl
theorem run_false (w : World) : HandSHeadRun.RunEq R (PySem.W.view R.prog [30]) (hookY 0 1400 ask) (fun s => obsY 0 1400 ask (HandSHeadRun.getT s)) 20000 names (w.withFollow "special-get-raises" false) := runEq_join (fnA := fnA) (fnB := fnB) rfl (r1_false w) (r2_false w) (r3_false w)
theorem r1a_true (w : World) (os : OsState) : (endY R 20000 (w.withFollow "special-get-raises" true) os).map (fun s => (HandSHeadRun.looksF R.prog (boot_heap (w.withFollow "special-get-raises" true).params) s.abs, exA.all fun f => f (fragY 0 1400 s))) = some (true, true) := by
  kernel_rfl
theorem r1b_true (w : World) (os : OsState) : (endY R 20000 (w.withFollow "special-get-raises" true) os).map (fun s => (HandSHeadRun.seenQ (PySem.W.view R.prog [30]) names (importedModules R.prog.main.body) (fun s => xlAt (PySem.W.view R.prog [30]) [] s && recOk R.toRowW.records s) s.abs, exB.all fun f => f (fragY 0 1400 s))) = some (openGood (PySem.W.view R.prog [30]) names, true) := by
  kernel_rfl
theorem r1_true (w : World) (os : OsState) : (endY R 20000 (w.withFollow "special-get-raises" true) os).map (fun s => (HandSHeadRun.looksF R.prog (boot_heap (w.withFollow "special-get-raises" true).params) s.abs, HandSHeadRun.seenQ (PySem.W.view R.prog [30]) names (importedModules R.prog.main.body) (fun s => xlAt (PySem.W.view R.prog [30]) [] s && recOk R.toRowW.records s) s.abs, ask.ex.all fun f => f (fragY 0 1400 s))) = some (true, openGood (PySem.W.view R.prog [30]) names, true) := look_join (as := exA) (bs := exB) (f := fragY 0 1400) (r1a_true w os) (r1b_true w os)
theorem r2_true (w : World) (os : OsState) : (endY R 20000 (w.withFollow "special-get-raises" true) os).map (fun s => ((fnA.all fun d => d.ok (fragY 0 1400 s)), fnA.map fun d => He.fnW (fragY 0 1400 s) d.at_)) = some (true, fnA.map He.DefD.val) := by
  kernel_rfl
theorem r3_true (w : World) (os : OsState) : (endY R 20000 (w.withFollow "special-get-raises" true) os).map (fun s => ((fnB.all fun d => d.ok (fragY 0 1400 s)), (fnB.map fun d => He.fnW (fragY 0 1400 s) d.at_), He.tabsB (HandSHeadRun.getT s) ask.tf (fragY 0 1400 s), (ask.ts.map fun t => He.dicW (fragY 0 1400 s) (t.1 (fragY 0 1400 s))), ask.fx.map fun d => fnC (fragY 0 1400 s) d.at_)) = some (true, fnB.map He.DefD.val, true, ask.ts.map (fun t => some (He.keysIn (w.withFollow "special-get-raises" true).params t.2)), ask.fx.map IniD.val) := by
  kernel_rfl
theorem run_true (w : World) : HandSHeadRun.RunEq R (PySem.W.view R.prog [30]) (hookY 0 1400 ask) (fun s => obsY 0 1400 ask (HandSHeadRun.getT s)) 20000 names (w.withFollow "special-get-raises" true) := runEq_join (fnA := fnA) (fnB := fnB) rfl (r1_true w) (r2_true w) (r3_true w)
theorem run (w : World) : HandSHeadRun.RunEq R (PySem.W.view R.prog [30]) (hookY 0 1400 ask) (fun s => obsY 0 1400 ask (HandSHeadRun.getT s)) 20000 names w := PySem.W.byRow2 "special-get-raises" run_false run_true w
end LawH

/-! Dx41: comprehensions with two fors, the list locked. -/
namespace Dx
open PySem PySem.Spec L2
variable {G : Gx} {X : Cx} {W : WX}
/-- as Per, but what is tracked without a number may change -/
structure PerM (G : Gx) (μ : List Addr) (H : Hp) (μ' : List Addr) (H' : Hp) : Prop where
  ext : ∀ (n : Nat) (a : Addr), μ[n]? = some a → μ'[n]? = some a
  tup : ∀ (a : Addr) (xs : List V), H a = some (.tup xs) → H' a = some (.tup xs)
  frz : ∀ (a : Addr) (q : Obj) (u : HO), H a = some (.frz q u) → H' a = some (.frz q u)
  clo : ∀ (n : Ci) (a : Addr), G.clo n a H → G.clo n a H'
theorem Per.m {μ μ1 : List Addr} {H H1 : Hp} (p : Per G μ H μ1 H1) : PerM G μ H μ1 H1 := ⟨p.ext, p.tup, p.frz, p.clo⟩
theorem PerM.refl {μ : List Addr} {H : Hp} : PerM G μ H μ H := ⟨fun _ _ h => h, fun _ _ h => h, fun _ _ _ h => h, fun _ _ h => h⟩
theorem PerM.trans {μ μ1 μ2 : List Addr} {H H1 H2 : Hp} (p : PerM G μ H μ1 H1) (q : PerM G μ1 H1 μ2 H2) : PerM G μ H μ2 H2 :=
  ⟨fun n a h => q.ext n a (p.ext n a h), fun a xs h => q.tup a xs (p.tup a xs h), fun a o u h => q.frz a o u (p.frz a o u h), fun n a h => q.clo n a (p.clo n a h)⟩
theorem PerM.denA {μ μ1 : List Addr} {H H1 : Hp} (p : PerM G μ H μ1 H1) {ds : List D} {vs : List V} (h : DenA G μ H ds vs) : DenA G μ1 H1 ds vs := (h.up p.ext).heap p.tup p.frz p.clo
/-- J walks src, whatever else of the unnumbered changes -/
def SrcM (G : Gx) (μ : List Addr) (H : Hp) (src : Src) (J : It) : Prop :=
  ∀ μ' H' S' i, PerM G μ H μ' H' → Rep G μ' S' H' → (srcAt S' src i = some none → J.stop i H') ∧
    ∀ d, srcAt S' src i = some (some d) → J.go i H' ∧ ∀ x H2, J.yld i H' x H2 → Per G μ' H' μ' H2 ∧ Rep G μ' S' H2 ∧ Den G μ' H2 d x
theorem SrcM.per {μ μ1 : List Addr} {H H1 : Hp} {src : Src} {J : It} (s : SrcM G μ H src J) (p : PerM G μ H μ1 H1) : SrcM G μ1 H1 src J := fun μ' H' S' i q r => s μ' H' S' i (p.trans q) r
def DIM (X : Cx) (G : Gx) (W : WX) (tg iter : Expr) (fs : FI) : Prop := ∃ wi, PI X tg iter wi ∧ ∀ σ H R, TDg (SrcM G) G W fs σ H R → wi σ H R
theorem srcM_tup {μ : List Addr} {H : Hp} {a : Addr} {xs : List D} {vs : List V} (h : ∀ μ' H', PerM G μ H μ' H' → SqT G.K H' a vs) (d : DenA G μ H xs vs) : SrcM G μ H (.its xs) (Itt G.K a) := by
  intro μ' H' S' i p r
  have h' := h μ' H' p
  refine ⟨fun e => ?_, fun dd e => ?_⟩
  · have e2 : xs[i]? = none := Option.some.inj e
    exact ⟨vs, h', by rw [← d.length]; exact List.getElem?_eq_none_iff.mp e2⟩
  · have e2 : xs[i]? = some dd := Option.some.inj e
    obtain ⟨v, h1, h2⟩ := (p.denA d).get e2
    refine ⟨⟨vs, v, h', h1⟩, fun x H2 y => ?_⟩
    obtain ⟨y1, y2⟩ := y
    subst y1
    have := y2 vs h'
    rw [h1] at this
    cases this
    exact ⟨.refl, r, h2⟩
theorem srcM_clist {μ : List Addr} {H : Hp} {a : Addr} {xs : List D} {vs : List V} (h0 : ∃ q, H a = some (.frz q (.lst vs))) (d : DenA G μ H xs vs) : SrcM G μ H (.its xs) (Itl G.K a) := by
  intro μ' H' S' i p r
  have h : SqL G.K H' a vs := cl_sqL (let ⟨q, e⟩ := h0; ⟨q, p.frz _ _ _ e⟩)
  refine ⟨fun e => ?_, fun dd e => ?_⟩
  · have e2 : xs[i]? = none := Option.some.inj e
    exact ⟨vs, h, by rw [← d.length]; exact List.getElem?_eq_none_iff.mp e2⟩
  · have e2 : xs[i]? = some dd := Option.some.inj e
    obtain ⟨v, h1, h2⟩ := (p.denA d).get e2
    refine ⟨⟨vs, v, h, h1⟩, fun x H2 y => ?_⟩
    obtain ⟨y1, y2⟩ := y
    subst y1
    have := y2 vs h
    rw [h1] at this
    cases this
    exact ⟨.refl, r, h2⟩
theorem srcM_live {μ : List Addr} {H : Hp} {n : Nat} {a : Addr} (hn : μ[n]? = some a) : SrcM G μ H (.live n) (Itl G.K a) := by
  intro μ' H' S' i p r
  have hn' := p.ext n a hn
  obtain ⟨o, eo, ro⟩ := r.there hn'
  cases o with
  | lst xs =>
    simp only [srcAt, eo]
    obtain ⟨vs, h1, h2⟩ := RepO.sqL ro
    refine ⟨fun e => ⟨vs, h1, by rw [← h2.length]; exact List.getElem?_eq_none_iff.mp (Option.some.inj e)⟩, fun d e => ?_⟩
    obtain ⟨v, h3, h4⟩ := h2.get (Option.some.inj e)
    refine ⟨⟨vs, v, h1, h3⟩, fun x H2 y => ?_⟩
    obtain ⟨y1, y2⟩ := y
    subst y1
    have := y2 vs h1
    rw [h3] at this
    cases this
    exact ⟨.refl, r, h4⟩
  | dct _ => simp only [srcAt, eo]; exact ⟨fun e => (by cases e), fun d e => (by cases e)⟩
  | dtt _ => simp only [srcAt, eo]; exact ⟨fun e => (by cases e), fun d e => (by cases e)⟩
  | obj _ _ => simp only [srcAt, eo]; exact ⟨fun e => (by cases e), fun d e => (by cases e)⟩
theorem dim_seq {tg l : Expr} {f : FE} (A : Amb G X W) (hl : PE X l (TD G W f)) : DIM X G W tg l (iSrc f) := by
  refine ⟨iSeq G.K (TD G W f), by have := pi_seq (tg := tg) hl; rw [A.hK] at this; exact this, fun σ H R ⟨μ, ρ, S, en, rp, po⟩ => ⟨μ, ρ, S, en, rp, (post_bind po).mono fun x H1 ⟨μ1, d, S1, pe, rp1, dd, p1⟩ => ?_⟩⟩
  unfold srcOf at p1
  cases dd with
  | @tup a xs vs h1 h2 => exact .inr ⟨a, rfl, ⟨vs, SqT.of h1⟩, p1 _ _ _ .refl rp1 (srcM_tup (fun μ' H' p => SqT.of (p.tup _ _ h1)) h2)⟩
  | @ktup a xs vs h1 h2 => exact .inr ⟨a, rfl, ⟨vs, h1 _⟩, p1 _ _ _ .refl rp1 (srcM_tup (fun μ' H' p => h1 H') h2)⟩
  | @clist a xs vs h1 h2 => exact .inl ⟨a, rfl, ⟨vs, cl_sqL h1⟩, p1 _ _ _ .refl rp1 (srcM_clist h1 h2)⟩
  | @ref n a hn =>
    dsimp only at p1
    split at p1
    · rename_i xs eo
      obtain ⟨vs, h1, h2⟩ := RepO.sqL (rp1.obj hn eo)
      exact .inl ⟨a, rfl, ⟨vs, h1⟩, p1 _ _ _ .refl rp1 (srcM_live hn)⟩
    · exact p1.elim
  | non => exact p1.elim
  | bl _ => exact p1.elim
  | int _ => exact p1.elim
  | str _ => exact p1.elim
  | clo _ => exact p1.elim
  | exv0 => exact p1.elim
  | exv _ _ => exact p1.elim
  | slist _ => exact p1.elim
  | cdict _ _ _ => exact p1.elim

/-- the second clause's loop; K: what comes behind it -/
def lcIn (src : Src) (tg : FG) (t : FT) (e : FE) (ρ : Ev) (K : List D → Sg → R D) : Nat → Nat → List D → Sg → R D
  | 0, i, acc, S => match srcAt S src i with
    | some none => K acc S
    | _ => .stuck
  | k + 1, i, acc, S => match srcAt S src i with
    | some (some d) => match tg d ρ with
      | some ρ1 => (t ρ1 S).nox.bind fun b S2 => match b with
        | true => (e ρ1 S2).nox.bind fun y S3 => if acc.length < 16777216 then lcIn src tg t e ρ K k (i + 1) (acc ++ [y]) S3 else .stuck
        | false => lcIn src tg t e ρ K k (i + 1) acc S2
      | none => .stuck
    | some none => K acc S
    | none => .stuck
def lcOut (src : Src) (tg : FG) (t : FT) (fs1 : FI) (tg1 : FG) (t1 : FT) (e : FE) (vs1 : List Nat) (ρ : Ev) : Nat → Nat → List D → Sg → R D
  | 0, i, acc, S => match srcAt S src i with
    | some none => .ok (.clist acc) S
    | _ => .stuck
  | k + 1, i, acc, S => match srcAt S src i with
    | some (some d) => match tg d ρ with
      | some ρ1 => (t ρ1 S).nox.bind fun b S2 => match b with
        | true => (fs1 ρ1 S2).nox.bind fun src1 S3 => lcIn src1 tg1 t1 e (wipeD ρ1 vs1) (lcOut src tg t fs1 tg1 t1 e vs1 ρ k (i + 1)) (srcLen S3 src1) 0 acc S3
        | false => lcOut src tg t fs1 tg1 t1 e vs1 ρ k (i + 1) acc S2
      | none => .stuck
    | some none => .ok (.clist acc) S
    | none => .stuck
def xLcF2 (vs vs1 : List Nat) (fs : FI) (tg : FG) (t : FT) (fs1 : FI) (tg1 : FG) (t1 : FT) (e : FE) : FE :=
  fun ρ S => (fs ρ S).bind fun src S1 => lcOut src tg t fs1 tg1 t1 e vs1 (wipeD ρ vs) (srcLen S1 src) 0 [] S1

theorem wipe_wipe (l : List Nat) (τ : L2.St) : wipe (wipe τ l) l = wipe τ l := by
  have key : ∀ (l : List Nat) (τ : L2.St), (∀ j ∈ l, ∀ o, τ[j]? = some o → o = none) → wipe τ l = τ := by
    intro l
    induction l with
    | nil => intro τ _; rfl
    | cons v l ih =>
      intro τ h
      unfold wipe
      rw [ih τ fun j hj => h j (by simp [hj])]
      refine List.ext_getElem? fun j => ?_
      by_cases hj : j = v
      · subst hj
        by_cases hl : j < τ.length
        · rw [List.getElem?_set_self hl]
          have := h j (by simp) τ[j] (by simp [hl])
          simp [hl, this]
        · rw [List.getElem?_eq_none (by simp; omega), List.getElem?_eq_none (by omega)]
      · rw [List.getElem?_set_ne (Ne.symm hj)]
  refine key l _ fun j hj o ho => ?_
  cases o with
  | none => rfl
  | some x => exact absurd hj (wipe_some ho).2

/-- an unnumbered list grows by one -/
theorem grows (ok : G.Ok) {μ : List Addr} {S : Sg} {H : Hp} {D : Addr} {us : List V} {yv : V} (rp : Rep G μ S H) (hD : H D = some (.lst us)) (nD : ∀ n : Nat, μ[n]? ≠ some D) :
    Rep G μ S (upd H D (.lst (us ++ [yv]))) ∧ PerM G μ H μ (upd H D (.lst (us ++ [yv]))) ∧ (∀ {μ0 H0}, Per G μ0 H0 μ H → H0 D = none → Per G μ0 H0 μ (upd H D (.lst (us ++ [yv])))) ∧
    (∀ {ρ : Ev} {σ : L2.St}, EnvD G μ H ρ σ → EnvD G μ (upd H D (.lst (us ++ [yv]))) ρ σ) := by
  have ne : ∀ (n : Nat) (a : Addr), μ[n]? = some a → a ≠ D := fun n a h z => nD n (by rw [h, z])
  have stay : ∀ (b : Addr) (u : HO), b ≠ D → H b = some u → (upd H D (.lst (us ++ [yv]))) b = some u := fun b u hb h => by rw [upd_ne hb]; exact h
  have sT : ∀ (a : Addr) (xs : List V), H a = some (.tup xs) → (upd H D (.lst (us ++ [yv]))) a = some (.tup xs) := fun a xs h => stay a _ (fun z => by rw [z, hD] at h; cases h) h
  have sF : ∀ (a : Addr) (q : Obj) (u : HO), H a = some (.frz q u) → (upd H D (.lst (us ++ [yv]))) a = some (.frz q u) := fun a q u h => stay a _ (fun z => by rw [z, hD] at h; cases h) h
  have sC : ∀ (n : Ci) (a : Addr), G.clo n a H → G.clo n a (upd H D (.lst (us ++ [yv]))) := fun n a h => ok.clo_mut n a H D _ _ hD trivial (fun _ z => nomatch z) h
  refine ⟨⟨rp.len, rp.nd, fun n o a h1 h2 => (rp.at_ n o a h1 h2).heap (upd_ne (ne n a h2)) sF sT sC, tabs_mut rp.tabs hD trivial (fun _ z => nomatch z)⟩, ⟨fun _ _ h => h, sT, sF, sC⟩, fun {μ0 H0} p h0 => ?_, fun {ρ σ} en => ?_⟩
  · exact ⟨p.ext, fun a xs h => stay a _ (ne_of_none h h0) (p.tup a xs h), fun a q u h => stay a _ (ne_of_none h h0) (p.frz a q u h), fun n a h => sC n a (p.clo n a h),
      fun a u h t k => ⟨stay a _ (ne_of_none h h0) (p.fr a u h t k).1, (p.fr a u h t k).2⟩⟩
  · exact ⟨en.len, fun j d h => let ⟨v, h1, h2⟩ := en.at_ j d h; ⟨v, h1, h2.heap sT sF sC⟩⟩

/-- the reading -/
theorem lc_readF2 {vs vs1 : List Nat} {wi wi1 : TI} {fs fs1 : FI} {fg fg1 : FG} {tgr tgr1 : TG} {t t1 : FT} {e : FE} {σ : L2.St} {H : Hp} {Q Q' : VK} (hq : ∀ v H', FQ Q v H' → Q' v H') (ok : G.Ok) (wi' : ∀ σ H R, TDg (SrcOk G) G W fs σ H R → wi σ H R) (gt : GT G vs fg tgr)
    (wi1' : ∀ σ H R, TDg (SrcM G) G W0 fs1 σ H R → wi1 σ H R) (gt1 : GT G vs1 fg1 tgr1) (q : TD G W (xLcF2 vs vs1 fs fg t fs1 fg1 t1 e) σ H Q) :
    tLc2 wi tgr (TDT G W0 t) wi1 tgr1 (TDT G W0 t1) (TD G W0 e) vs vs1 σ H Q' := by
  obtain ⟨μ, ρ, S, en, rp, po⟩ := q
  refine wi' σ H _ ⟨μ, ρ, S, en, rp, (post_bind (rel := SrcOk G) po).mono fun J H1 ⟨μ1, src, S1, pe, rp1, so, p1⟩ => fun D hD => ?_⟩
  refine ⟨fun i m H => ∃ μ S acc us, Rep G μ S H ∧ Per G μ1 H1 μ H ∧ EnvD G μ H (wipeD ρ vs) (wipe σ vs) ∧ SrcOk G μ H src J ∧ H D = some (.lst us) ∧ (∀ n : Nat, μ[n]? ≠ some D) ∧ DenA G μ H acc us ∧ Post (Den G) G W μ1 H1 σ (lcOut src fg t fs1 fg1 t1 e vs1 (wipeD ρ vs) m i acc S) Q, ⟨srcLen S1 src, μ1, S1, [], [], ?_⟩, ?_⟩
  · have pn : Per G μ1 H1 μ1 (upd H1 D (.lst [])) := per_new ok hD
    refine ⟨rp1.new ok hD, pn, ((en.per pe).per pn).wipe vs, so.per pn, upd_same, fun n z => ?_, .nil, p1⟩
    obtain ⟨o, eo, ro⟩ := rp1.there z
    obtain ⟨w, e, _⟩ := ro.some
    rw [hD] at e; cases e
  · rintro i m H2 ⟨μ2, S2, acc, us, rp2, pe2, en2, so2, hD2, nD2, da2, p2⟩
    have so3 := so2 μ2 H2 S2 i .refl rp2
    have stop : srcAt S2 src i = some none → Post (Den G) G W μ1 H1 σ (.ok (.clist acc) S2) Q → (J.stop i H2 ∧ Q' (.ref D) H2) := fun e p => by
      refine ⟨so3.1 e, hq _ _ (.inr ⟨D, .lst us, rfl, hD2, trivial, fun od => ?_⟩)⟩
      have ne : ∀ (n : Nat) (a : Addr), μ2[n]? = some a → a ≠ D := fun n a h z => nD2 n (by rw [h, z])
      have stay : ∀ (b : Addr) (u : HO), b ≠ D → H2 b = some u → (upd H2 D (.frz od (.lst us))) b = some u := fun b u hb h => by rw [upd_ne hb]; exact h
      have neT : ∀ (a : Addr) (xs : List V), H2 a = some (.tup xs) → (upd H2 D (.frz od (.lst us))) a = some (.tup xs) := fun a xs h => stay a _ (fun z => by rw [z, hD2] at h; cases h) h
      have neF : ∀ (a : Addr) (q : Obj) (u : HO), H2 a = some (.frz q u) → (upd H2 D (.frz od (.lst us))) a = some (.frz q u) := fun a q u h => stay a _ (fun z => by rw [z, hD2] at h; cases h) h
      have neC : ∀ (n : Ci) (a : Addr), G.clo n a H2 → G.clo n a (upd H2 D (.frz od (.lst us))) := fun n a h => ok.clo_mut n a H2 D _ _ hD2 trivial (fun _ z => nomatch z) h
      have pe5 : Per G μ1 H1 μ2 (upd H2 D (.frz od (.lst us))) :=
        ⟨pe2.ext, fun a xs h => stay a _ (ne_of_none h hD) (pe2.tup a xs h), fun a q u h => stay a _ (ne_of_none h hD) (pe2.frz a q u h), fun n a h => neC n a (pe2.clo n a h),
          fun a u h t k => ⟨stay a _ (ne_of_none h hD) (pe2.fr a u h t k).1, (pe2.fr a u h t k).2⟩⟩
      exact p μ2 _ _ pe5 ⟨rp2.len, rp2.nd, fun n o a h1 h2 => (rp2.at_ n o a h1 h2).heap (upd_ne (ne n a h2)) neF neT neC, tabs_mut rp2.tabs hD2 trivial (fun _ z => nomatch z)⟩ (.clist ⟨od, upd_same⟩ (da2.heap neT neF neC))
    cases m with
    | zero =>
      simp only [lcOut] at p2
      split at p2
      · rename_i e
        exact .inl (stop e p2)
      · exact p2.elim
    | succ k =>
      simp only [lcOut] at p2
      split at p2
      · rename_i d ed
        split at p2
        · rename_i ρ3 e3
          obtain ⟨go, yl⟩ := so3.2 d ed
          refine .inr ⟨go, fun H => ∃ μ S acc us, Rep G μ S H ∧ Per G μ1 H1 μ H ∧ EnvD G μ H (wipeD ρ vs) (wipe σ vs) ∧ SrcOk G μ H src J ∧ H D = some (.lst us) ∧ (∀ n : Nat, μ[n]? ≠ some D) ∧ DenA G μ H acc us ∧ Post (Den G) G W μ1 H1 σ (lcOut src fg t fs1 fg1 t1 e vs1 (wipeD ρ vs) k (i + 1) acc S) Q, fun H' q => ⟨k, Nat.lt_succ_self k, q⟩, fun x H' y => ?_⟩
          obtain ⟨pe', rp', dx⟩ := yl x H' y
          refine gt μ2 H' (wipeD ρ vs) (wipe σ vs) S2 d x ρ3 _ (en2.per pe') rp' dx e3 fun σ' en' hw => ⟨?_, ?_⟩
          · rw [hw]
            exact wipe_wipe vs σ
          · refine ⟨μ2, ρ3, S2, en', rp', (post_base p2).mono fun b H3 ⟨μ3, b', S3, pe3, rp3, eb, p3⟩ => ?_⟩
            have ek : b' = b := eb
            subst ek
            obtain ⟨hD', nD'⟩ := pe'.fr D _ hD2 (fun _ z => nomatch z) nD2
            obtain ⟨hD3, nD3⟩ := pe3.fr D _ hD' (fun _ z => nomatch z) nD'
            have pe13 := (pe2.trans pe').trans pe3
            cases b' with
            | false =>
              rw [if_neg Bool.false_ne_true]
              exact ⟨μ3, S3, acc, us, rp3, pe13, (en2.per pe').per pe3, (so2.per pe').per pe3, hD3, nD3, (da2.per pe').per pe3, p3⟩
            | true =>
              rw [if_pos rfl]
              refine wi1' σ' H3 _ ⟨μ3, ρ3, S3, en'.per pe3, rp3, (post_base (rel := SrcM G) p3).mono fun J1 H4 ⟨μ4, src1, S4, pe4, rp4, sm, p4⟩ => ?_⟩
              obtain ⟨hD4, nD4⟩ := pe4.fr D _ hD3 (fun _ z => nomatch z) nD3
              -- the inner loop
              refine ⟨fun j m H => ∃ μ S acc us, Rep G μ S H ∧ Per G μ1 H1 μ H ∧ EnvD G μ H (wipeD ρ vs) (wipe σ vs) ∧ EnvD G μ H (wipeD ρ3 vs1) (wipe σ' vs1) ∧ SrcOk G μ H src J ∧ SrcM G μ H src1 J1 ∧ H D = some (.lst us) ∧ (∀ n : Nat, μ[n]? ≠ some D) ∧ DenA G μ H acc us ∧
                Post (Den G) G W μ1 H1 σ (lcIn src1 fg1 t1 e (wipeD ρ3 vs1) (lcOut src fg t fs1 fg1 t1 e vs1 (wipeD ρ vs) k (i + 1)) m j acc S) Q,
                ⟨srcLen S4 src1, μ4, S4, acc, us, rp4, pe13.trans pe4, ((en2.per pe').per pe3).per pe4, ((en'.per pe3).per pe4).wipe vs1, ((so2.per pe').per pe3).per pe4, sm, hD4, nD4, ((da2.per pe').per pe3).per pe4, p4⟩, ?_⟩
              rintro j m5 H5 ⟨μ5, S5, acc5, us5, rp5, pe5, en5, en5', so5, sm5, hD5, nD5, da5, p5⟩
              have sm6 := sm5 μ5 H5 S5 j .refl rp5
              cases m5 with
              | zero =>
                simp only [lcIn] at p5
                split at p5
                · rename_i e
                  exact .inl ⟨sm6.1 e, μ5, S5, acc5, us5, rp5, pe5, en5, so5, hD5, nD5, da5, p5⟩
                · exact p5.elim
              | succ k5 =>
                simp only [lcIn] at p5
                split at p5
                · rename_i d5 ed5
                  split at p5
                  · rename_i ρ6 e6
                    obtain ⟨go5, yl5⟩ := sm6.2 d5 ed5
                    refine .inr ⟨go5, fun H => ∃ μ S acc us, Rep G μ S H ∧ Per G μ1 H1 μ H ∧ EnvD G μ H (wipeD ρ vs) (wipe σ vs) ∧ EnvD G μ H (wipeD ρ3 vs1) (wipe σ' vs1) ∧ SrcOk G μ H src J ∧ SrcM G μ H src1 J1 ∧ H D = some (.lst us) ∧ (∀ n : Nat, μ[n]? ≠ some D) ∧ DenA G μ H acc us ∧
                      Post (Den G) G W μ1 H1 σ (lcIn src1 fg1 t1 e (wipeD ρ3 vs1) (lcOut src fg t fs1 fg1 t1 e vs1 (wipeD ρ vs) k (i + 1)) k5 (j + 1) acc S) Q, fun H' q => ⟨k5, Nat.lt_succ_self k5, q⟩, fun x5 H6 y5 => ?_⟩
                    obtain ⟨pe6, rp6, dx6⟩ := yl5 x5 H6 y5
                    refine gt1 μ5 H6 (wipeD ρ3 vs1) (wipe σ' vs1) S5 d5 x5 ρ6 _ (en5'.per pe6) rp6 dx6 e6 fun σ6 en6 hw6 => ⟨?_, ?_⟩
                    · rw [hw6]
                      exact wipe_wipe vs1 σ'
                    · refine ⟨μ5, ρ6, S5, en6, rp6, (post_base p5).mono fun b7 H7 ⟨μ7, b7', S7, pe7, rp7, eb7, p7⟩ => ?_⟩
                      have ek : b7' = b7 := eb7
                      subst ek
                      obtain ⟨hD6, nD6⟩ := pe6.fr D _ hD5 (fun _ z => nomatch z) nD5
                      obtain ⟨hD7, nD7⟩ := pe7.fr D _ hD6 (fun _ z => nomatch z) nD6
                      have pe17 := (pe5.trans pe6).trans pe7
                      cases b7' with
                      | false =>
                        rw [if_neg Bool.false_ne_true]
                        exact ⟨μ7, S7, acc5, us5, rp7, pe17, (en5.per pe6).per pe7, (en5'.per pe6).per pe7, (so5.per pe6).per pe7, sm5.per (pe6.m.trans pe7.m), hD7, nD7, (da5.per pe6).per pe7, p7⟩
                      | true =>
                        rw [if_pos rfl]
                        refine ⟨μ7, ρ6, S7, en6.per pe7, rp7, (post_base p7).mono fun yv H8 ⟨μ8, yd, S8, pe8, rp8, dy, p8⟩ => ?_⟩
                        obtain ⟨hl, p9⟩ := post_ite p8
                        obtain ⟨hD8, nD8⟩ := pe8.fr D _ hD7 (fun _ z => nomatch z) nD7
                        have da8 := ((da5.per pe6).per pe7).per pe8
                        refine ⟨us5, hD8, by rw [sl_eq, ← da5.length]; exact hl, ?_⟩
                        obtain ⟨rpG, pmG, peG, enG⟩ := grows (yv := yv) ok rp8 hD8 nD8
                        have pe18 := pe17.trans pe8
                        exact ⟨μ8, S8, acc5 ++ [yd], us5 ++ [yv], rpG, peG pe18 hD, enG (((en5.per pe6).per pe7).per pe8), enG (((en5'.per pe6).per pe7).per pe8), so.per (peG pe18 hD), sm5.per (((pe6.m.trans pe7.m).trans pe8.m).trans pmG), upd_same, nD8, pmG.denA (da8.snoc dy), p9⟩
                  · exact p5.elim
                · rename_i e
                  exact .inl ⟨sm6.1 e, μ5, S5, acc5, us5, rp5, pe5, en5, so5, hD5, nD5, da5, p5⟩
                · exact p5.elim
        · exact p2.elim
      · rename_i e
        exact .inl (stop e p2)
      · exact p2.elim

theorem de_lcF2 {elt tg iter tg1 iter1 : Expr} {ifs ifs1 : List Expr} {scope : Scope} {own : List (Str × Nat)} {vs1 : List Nat} {pos : Pos} {fs fs1 : FI} {fg fg1 : FG} {t t1 : FT} {e : FE} (hc : X.calm = true) (hN : X.N.Nodup) (A : Amb G X W) (hv : ∀ i ∈ vs1, i ∈ own.map (·.2)) (hi : DI X G W tg iter fs) (ok : BlkOk X.N X.env.scope scope own)
    (gt : ∀ (s : Shared) (H : Hp) (C : Addr) (cl : List (Str × Addr)) (fp : List Addr), DG (X.blk s H scope (compEnvC scope cl C X.env) fp) G (own.map (·.2)) tg fg)
    (ht : ∀ (s : Shared) (H : Hp) (C : Addr) (cl : List (Str × Addr)) (fp : List Addr), PTs (X.blk s H scope (compEnvC scope cl C X.env) fp) ifs (TDT G W0 t))
    (hi1 : ∀ (s : Shared) (H : Hp) (C : Addr) (cl : List (Str × Addr)) (fp : List Addr), DIM (X.blk s H scope (compEnvC scope cl C X.env) fp) G W0 tg1 iter1 fs1)
    (gt1 : ∀ (s : Shared) (H : Hp) (C : Addr) (cl : List (Str × Addr)) (fp : List Addr), DG (X.blk s H scope (compEnvC scope cl C X.env) fp) G vs1 tg1 fg1)
    (ht1 : ∀ (s : Shared) (H : Hp) (C : Addr) (cl : List (Str × Addr)) (fp : List Addr), PTs (X.blk s H scope (compEnvC scope cl C X.env) fp) ifs1 (TDT G W0 t1))
    (he : ∀ (s : Shared) (H : Hp) (C : Addr) (cl : List (Str × Addr)) (fp : List Addr), PE (X.blk s H scope (compEnvC scope cl C X.env) fp) elt (TD G W0 e)) (hs : ∀ x, foldedSetIterable iter X.env x = pure x := by intro _; rfl) (hs1 : ∀ env x, foldedSetIterable iter1 env x = pure x := by intro _ _; rfl) :
    PE X (.ListComp elt [⟨tg, iter, ifs, 0⟩, ⟨tg1, iter1, ifs1, 0⟩] scope pos) (TD G W (xLcF2 (own.map (·.2)) vs1 fs fg t fs1 fg1 t1 e)) := by
  obtain ⟨wi, pi, wi'⟩ := hi
  have key : ∀ {vs : List Nat} {tg : Expr} {fg : FG}, (∀ (s : Shared) (H : Hp) (C : Addr) (cl : List (Str × Addr)) (fp : List Addr), DG (X.blk s H scope (compEnvC scope cl C X.env) fp) G vs tg fg) →
      ∃ tgr : TG, (∀ (s : Shared) (H : Hp) (C : Addr) (cl : List (Str × Addr)) (fp : List Addr), PG (X.blk s H scope (compEnvC scope cl C X.env) fp) tg tgr) ∧ GT G vs fg tgr := by
    intro vs tg fg gt
    refine ⟨fun v σ H Q => ∃ μ ρ S d ρ', EnvD G μ H ρ σ ∧ Rep G μ S H ∧ Den G μ H d v ∧ fg d ρ = some ρ' ∧ ∀ σ', EnvD G μ H ρ' σ' → wipe σ' vs = wipe σ vs → Q σ' H, fun s H C cl fp => ?_, fun μ H ρ σ S d v ρ' Q en rp dd e1 k => ⟨μ, ρ, S, d, ρ', en, rp, dd, e1, k⟩⟩
    obtain ⟨t0, p0, g0⟩ := gt s H C cl fp
    exact ⟨fun pins s σ H v u Q I r ⟨μ, ρ, S, d, ρ', en, rp, dd, e1, k⟩ => p0.run pins s σ H v u Q I r (g0 μ H ρ σ S d v ρ' Q en rp dd e1 k)⟩
  obtain ⟨tgr, pg, gt'⟩ := key gt
  obtain ⟨tgr1, pg1, gt1'⟩ := key gt1
  have pi1 : ∀ (s : Shared) (H : Hp) (C : Addr) (cl : List (Str × Addr)) (fp : List Addr), PI (X.blk s H scope (compEnvC scope cl C X.env) fp) tg1 iter1 (TDg (SrcM G) G W0 fs1) := fun s H C cl fp => by
    obtain ⟨w, p, h⟩ := hi1 s H C cl fp
    exact ⟨fun pins s σ H R I q => p.run pins s σ H R I (h σ H R q)⟩
  exact PE.imp (pe_frz (pe_lc2 hc hN pi ok hv pg ht pi1 pg1 ht1 he hs hs1)) fun σ H Q q => lc_readF2 (fun _ _ h => h) A.ok wi' gt' (fun _ _ _ h => h) gt1' q
end Dx

/-! Dx42: sorted(..) of a tuple of texts. -/
namespace Dx
open PySem PySem.Spec L2 PyProof.Rows PySem.W PySem.Calls
section
variable {prog : Program} {w : World} {A : Around} {E : Value → Shared → Prop} {s : Shared} {β : Type} {its : List Value} {bs : List β} {enc : β → PyData} {R : Value → β → Prop} {l : Addr} {Q : Value → Shared → Prop}
theorem sorting_keep {h : Heap} {a b : Addr} {vs : List Value} {o : Obj} (hb : b ≠ a) (e : h.get? b = some o) : (sortingHeap h a vs).get? b = some o := by
  unfold sortingHeap
  refine Heap.get?_push_of_some _ (Heap.get?_push_of_some _ ?_)
  exact (Heap.get?_update_ne _ _ _ _ hb).trans e
theorem sorted_tuple (hl : s.heap.IsTuple l its.toArray) (e : EachIs R its bs) (er : EachIs (fun v b => ∃ as, Reads s.heap v (enc b) as) its bs) (hal : AllAlike (bs.map enc)) (hk : Sortable (bs.map enc)) (hL : its.length ≤ sizeLine)
    (hu : ∀ b ∈ bs, A.units + 2 + (enc b).depth < cLine)
    (h : ∀ (h1 h' : Heap) (a : Addr) (out : List Value) (n : Nat), (∀ b o, s.heap.get? b = some o → h1.get? b = some o) → (∀ b o, h1.get? b = some o → h'.get? b = some o) → h1.objs.size = a → h'.get? a = some (seqObj "list" out.toArray n) → out.length = its.length → EachIs R out (bs.mergeSort (dataLe false enc)) → Q (.ref a) { s with heap := h' }) :
    wpAny (model prog w) A (call (.builtin "sorted") [.ref l]) Q E s := by
  obtain ⟨o, ho, hc, n, hd⟩ := hl
  refine Calls.call_function_entry kind_sorted plain_sorted entry_sorted (args_sorted1 (.ref l)) ?_
  unfold Builtin.«sorted»
  refine wpAny_bind (m := checkCount "sorted" 1 1 _) (wpAny_pure (wpAny_bind (wpAny_collect_seq l (.inr rfl) ho hc hd (fun h1 k1 => ?_) (by simpa using hL))))
  refine wpAny_bind (wpAny_newList ?_ (by simpa using hL))
  have eI : its.toArray.toList = its := by simp
  rw [eI]
  generalize hL1 : h1.objs.size = L
  have hoL : (h1.push (seqObj "list" its.toArray 0)).get? L = some (seqObj "list" its.toArray 0) := by rw [← hL1]; exact Heap.get?_push_size _ rfl
  have lt0 : ∀ b o, h1.get? b = some o → b < L := fun b o q => by rw [← hL1]; exact Heap.lt_size q
  have lt1 : ∀ b o, s.heap.get? b = some o → b < L := fun b o q => lt0 b o (k1 b o q)
  have k0 : ∀ b o, h1.get? b = some o → (h1.push (seqObj "list" its.toArray 0)).get? b = some o := fun b o q => Heap.get?_push_of_some _ q
  have k2 : ∀ b o, s.heap.get? b = some o → (h1.push (seqObj "list" its.toArray 0)).get? b = some o := fun b o q => k0 b o (k1 b o q)
  show wpAny _ _ _ _ _ { s with heap := h1.push (seqObj "list" its.toArray 0) }
  generalize h1.push (seqObj "list" its.toArray 0) = h2 at hoL k0 k2 ⊢
  have er' : EachIs (fun v b => ∃ as, Reads (sortingHeap h2 L its) v (enc b) as) its bs := er.mono fun _ _ ⟨as, r⟩ => ⟨as, PyProof.Rows.Reads.keeps (fun b o q => sorting_keep (Nat.ne_of_lt (lt1 b o q)) (k2 b o q)) r⟩
  have so := SortsAt.data (prog := prog) (w := w) (A := A.in1.in1) (s := { s with heap := sortingHeap h2 L its }) (each_map (R := fun v d => ∃ as, Reads (sortingHeap h2 L its) v d as) enc er') hal hk (bound_map hu)
  refine wpAny_bind (wpAny_holding (wpAny_call_entry slot_list_sort ⟨_, hoL, rfl⟩ entry_list_sort (wpAny_mono (list_sort_vals (P := fun f s' => f = .done (.ret .none) ∧ Q (.ref L) s') (s := { s with heap := h2 }) hoL so hL ⟨rfl, ?_⟩) (fun f s' hf => ?_) fun _ _ z => z) (args_list_sort _)))
  · obtain ⟨n2, e2⟩ := sortedHeap_at (out := (sortVals (dataKind (sortingHeap h2 L its) (bs.map enc)) false its its).toArray) hoL
    refine h h1 _ L _ n2 k1 (fun b o q => ?_) hL1 e2 (sortVals_length false rfl) (sortVals_data false e er' hal)
    rw [sortedHeap_old (Nat.ne_of_lt (lt0 b o q)) (Heap.lt_size (k0 b o q))]
    exact k0 b o q
  · obtain ⟨rfl, hq⟩ := hf
    exact ⟨_, rfl, wpAny_pure ⟨_, rfl, hq⟩⟩
end
/-! ### the rule -/
def rSortedT {κ : Type} (enc : κ → PyData) (le : κ → κ → Bool) (K : PySem.W.Frag) : List V → Hp → VK → Prop := fun vs H Q => ∃ (a : Addr) (bs : List (κ × V)), vs = [V.ref a] ∧ SqT K H a (bs.map (·.2)) ∧ (∀ b ∈ bs, Dp K H b.2 (enc b.1)) ∧
  (∀ x ∈ bs, ∀ y ∈ bs, (!dataLt (enc y.1) (enc x.1)) = le x.1 y.1) ∧ AllAlike (bs.map fun b => enc b.1) ∧ Sortable (bs.map fun b => enc b.1) ∧ (∀ b ∈ bs, (enc b.1).depth ≤ 8) ∧
  ∀ p, H p = none → Q (.ref p) (upd H p (.lst ((insSort (fun x y => le x.1 y.1) bs).map (·.2))))
theorem cr_sortedT {κ : Type} {X : Cx} {enc : κ → PyData} {le : κ → κ → Bool} (hu : X.A.units + 65 < cLine) : CallR X (.builtin "sorted") (rSortedT enc le X.K) := by
  intro pins s σ H vs us Q I r h
  obtain ⟨a, bs, rfl, hs, hd, hle, hal, hso, hdp, q⟩ := h
  obtain ⟨its, rv, hl, hz⟩ := I.tuple hs
  obtain ⟨u, rfl, ru⟩ := vals1 r
  obtain rfl : u = Value.ref a := ru
  obtain ⟨e1, e2⟩ := each_of I rv hd
  have hz2 : its.length ≤ sizeLine := by rw [← rv.length]; exact hz
  refine sorted_tuple (R := fun v (b : κ × V) => RelV b.2 v) (enc := fun b : κ × V => enc b.1) (show s.heap.IsTuple a its.toArray from hl) e1 e2 hal hso hz2 (fun b hb => by have := hdp b hb; omega) fun h1 h' p out n k1 k hp ho ol eo => ?_
  have em : bs.mergeSort (dataLe false fun b : κ × V => enc b.1) = insSort (fun x y => le x.1 y.1) bs := by
    rw [← insSort_merge (dataLe_total _)]
    have := insSort_map (le := dataLe false fun b : κ × V => enc b.1) (le' := fun x y : κ × V => le x.1 y.1) id bs fun x hx y hy => hle x hx y hy
    simpa using this
  rw [em] at eo
  have I1 : Inv X pins σ H { s with heap := h1 } := I.kept (t' := s.toks) k1
  refine ⟨.ref p, upd H p (.lst ((insSort (fun x y => le x.1 y.1) bs).map (·.2))), I1.laid (t' := s.toks) k (Nat.le_of_eq hp) ⟨?_, out, n, vals_of eo, ho⟩, rfl, q _ (I1.hok.fresh (Nat.le_of_eq hp))⟩
  have hb : bs.length = its.length := by
    have := rv.length
    simpa using this
  rw [List.length_map, (insSort_perm _ _).length_eq, hb]
  exact hz2
def cSortedT : CV := fun ds S => match ds with
  | [d] => match (tupOf d).bind fun xs => xs.mapM strOf with
    | some ss => .ok (.clist ((insSort (fun x y => !ltStr y x) ss).map .str)) S
    | none => .stuck
  | _ => .stuck
variable {G : Gx} {X : Cx} {W : WX}
theorem strsM_den {μ : List Addr} {H : Hp} : ∀ {ds : List D} {vs : List V} {ss : List String}, DenA G μ H ds vs → ds.mapM strOf = some ss → vs = ss.map fun t => V.str (Str.ofString t)
  | [], _, _, .nil, e => by cases e; rfl
  | d :: ds, _, ss, .cons h t, e => by
    rw [List.mapM_cons] at e
    cases h <;> simp only [strOf] at e
    all_goals first
      | (obtain ⟨ts, e1, e2⟩ := Option.bind_eq_some_iff.mp (show (ds.mapM strOf).bind _ = some ss from e); cases e2; rw [List.map_cons, strsM_den t e1])
      | cases e
theorem cv_sortedT (g : G.Ok) : CallVF G W (fun vs H Q => rSortedT encS (fun x y => !ltStr y x) G.K vs H Q) cSortedT := by
  intro μ S H xs ds σ Q rp dd po
  unfold cSortedT at po
  split at po
  · cases dd with
    | cons d1 t =>
      cases t
      split at po
      · rename_i ss e
        obtain ⟨ys, e1, e2⟩ := Option.bind_eq_some_iff.mp e
        obtain ⟨a, vs, rfl, h1, h2⟩ := tup_den d1 e1
        have ev := strsM_den h2 e2
        refine ⟨a, ss.map fun i => (i, V.str (Str.ofString i)), rfl, by rw [List.map_map]; rw [ev] at h1; exact h1, fun b hb => ?_, fun x _ y _ => ?_, fun d hd d' hd' => ?_, .inr fun d hd => ?_, fun b hb => ?_, fun p hp => ?_⟩
        · obtain ⟨i, _, rfl⟩ := List.mem_map.mp hb
          exact .str _
        · show (!dataLt (.str (Str.ofString y.1)) (.str (Str.ofString x.1))) = !ltStr y.1 x.1
          rw [ltStr_ok]
        · obtain ⟨b, _, rfl⟩ := List.mem_map.mp hd
          obtain ⟨b', _, rfl⟩ := List.mem_map.mp hd'
          simp [encS, alike]
        · obtain ⟨b, _, rfl⟩ := List.mem_map.mp hd
          exact ⟨fun z => (nomatch z), fun _ z => (nomatch z)⟩
        · show (PyData.str _).depth ≤ 8
          rw [PyData.depth]
          decide
        · have em : (insSort (fun x y : String × V => !ltStr y.1 x.1) (ss.map fun i => (i, V.str (Str.ofString i)))).map (·.2) = (insSort (fun x y => !ltStr y x) ss).map fun i => V.str (Str.ofString i) := by
            rw [← insSort_map (le := fun x y : String => !ltStr y x) (fun i : String => (i, V.str (Str.ofString i))) _ fun x _ y _ => rfl, List.map_map]
            rfl
          rw [em]
          refine post_lstF g rp ?_ po hp
          have : ∀ l : List String, DenA G μ H (l.map D.str) (l.map fun i => V.str (Str.ofString i)) := fun l => by
            induction l with
            | nil => exact .nil
            | cons i l ih => exact .cons (.str i) ih
          exact this _
      · exact po.elim
  · exact po.elim
theorem de_sortedT {e : Expr} {p pos : Pos} {g : FA} (A : Amb G X W) (hm : X.mg "sorted" = none) (ha : PA X [e] (TDA G W g)) (hg : Gl X "sorted" := by rfl) (he : starEach [e] X.env = (false, eval e X.env) :: starEach [] X.env := by rfl) (hpl : (backTo pos (starEach [] X.env)).any (·.1) = false := by rfl) : PE X (.Call (.Name "sorted" p) [e] [] pos) (TD G W (xB cSortedT g)) :=
  de_callBF (r := fun vs H Q => rSortedT encS (fun x y => !ltStr y x) G.K vs H Q) (by have := cr_sortedT (X := X) (enc := encS) (le := fun x y => !ltStr y x) A.hu; rw [A.hK] at this; exact this) (cv_sortedT A.ok) hm PyProof.Rows.boot_sorted ha hg (by decide) (by decide) he hpl
end Dx

/-! Dx45: enumerate over a list from a number on. -/
namespace Dx
open PySem PySem.Spec L2
/-- the list at a, each item in a new pair with its number; the first has the number c -/
def ItK (K : PySem.W.Frag) (c : Int) (a : Addr) : It :=
  ⟨fun n H => ∃ (l : List V) (x : V), SqL K H a l ∧ l[n]? = some x, fun n H v H' => ∃ T x, v = .ref T ∧ H T = none ∧ H' = upd H T (.tup [.int (c + (n : Nat)), x]) ∧ ∀ l, SqL K H a l → l[n]? = some x, fun n H => ∃ l : List V, SqL K H a l ∧ l.length ≤ n⟩
theorem turn_enumK {P : Program} {w : World} {K : PySem.W.Frag} {elts : List Expr} {kk : Nat} {tpos : Pos} (c : Int) (a e it : Addr) :
    Turn P w K (.Tuple elts kk tpos) (ItK K c a) [e, it] e (fun n h => (∃ old, IsEnum h e it (c + ((n : Nat) : Int)) old) ∧ h.IsListIter it a n ∧ e ≠ it ∧ e ≠ a ∧ a ≠ it) where
  mem := by simp
  obj := fun n h st b hb => by
    obtain ⟨⟨w0, e1⟩, ⟨u0, e2, e3, e4⟩, _⟩ := st
    rcases (show b = e ∨ b = it by simpa using hb) with z | z
    · subst z; exact ⟨_, e1, fun _ q => nomatch q⟩
    · subst z; exact ⟨u0, e2, fun _ q => by rw [e4] at q; cases q⟩
  keep := fun n h h' st k => ⟨let ⟨w0, e1⟩ := st.1; ⟨w0, k e (by simp) _ e1⟩, st.2.1.at fun o q => k it (by simp) o q, st.2.2⟩
  item := by
    intro X hP hw hK hc n pins s σ H E I hf st hg
    subst hP hw hK
    obtain ⟨⟨w0, e1⟩, hit, n1, n2, n3⟩ := st
    obtain ⟨l, x, hq, hx⟩ := hg
    obtain ⟨ts, rv, p, hz⟩ := I.list hq
    obtain ⟨u, hu, ru⟩ := rv.get hx
    have le := Heap.lt_size e1
    have li : it < s.heap.objs.size := by obtain ⟨_, q, _⟩ := hit; exact Heap.lt_size q
    have hn : n < ts.toArray.size := by
      have := (List.getElem?_eq_some_iff.mp hu).1
      simpa using this
    refine wpAny_pyNext_enum_itemC (PySem.Draws.list (prog := X.prog) (w := X.w) (A := X.A.in1) (show X.A.handled = none from I.ok.hd hc) it a n3 ts.toArray) e1 ⟨hit, p.isList⟩ hn n1 (by simp [n1, n2]) fun y g tk hy ho hst hT hsz hk => ?_
    have ey : y = u := Option.some.inj ((show some y = ts[n]? by simpa using hy.symm).trans hu)
    subst ey
    refine ⟨_, rfl, wpAny_letOwnedTupleGo_enum (s := { s with heap := g, toks := tk + 1 }) ho fun g2 e2 sb => ?_⟩
    have hT2 : g2.get? s.heap.objs.size = some { cls := .type "tuple", data := .seq #[.int (c + (n : Nat)) tk, y] } := (sb.2 _ (Nat.ne_of_gt le)).trans hT
    have new : ObjOk X.prog X.w (upd H s.heap.objs.size (.tup [.int (c + (n : Nat)), x])) g2 s.heap.objs.size (.tup [.int (c + (n : Nat)), x]) :=
      ⟨by show 2 ≤ sizeLine; decide, [.int (c + (n : Nat)) tk, y], .cons ⟨_, rfl⟩ (.cons ru .nil), ⟨_, hT2, rfl, _, rfl⟩⟩
    have J : Inv X pins σ (upd H s.heap.objs.size (.tup [.int (c + (n : Nat)), x])) { s with heap := g2, toks := tk + 1 } :=
      I.turnedNew (ch := [e, it]) (fun b ob hb q => (sb.2 b (fun z => hb (by simp [z]))).trans (hk b ob (fun z => hb (by simp [z])) (fun z => hb (by simp [z])) q)) hf (Nat.le_refl _) new
    refine ⟨.ref s.heap.objs.size, _, J, rfl, ⟨_, x, rfl, I.hok.fresh (Nat.le_refl _), rfl, fun m hm => by rw [I.list_inj hm hq]; exact hx⟩, ⟨⟨y, ?_⟩, hst.1.at fun o q => (sb.2 it (Ne.symm n1)).trans q, n1, n2, n3⟩, fun b hb => ?_⟩
    · rw [show c + ((n + 1 : Nat) : Int) = c + (n : Nat) + 1 by omega]; exact e2
    · have lb : b < s.heap.objs.size := by
        rcases (show b = e ∨ b = it by simpa using hb) with z | z
        · subst z; exact le
        · subst z; exact li
      rw [upd_ne (Nat.ne_of_lt lb)]; exact (hf b hb).1
  done := by
    intro X hP hw hK hc n pins s σ H E I hf st hg
    subst hP hw hK
    obtain ⟨⟨w0, e1⟩, hit, n1, n2, n3⟩ := st
    obtain ⟨l, hq, hx⟩ := hg
    obtain ⟨ts, rv, p, hz⟩ := I.list hq
    obtain ⟨f0, f1, f2, f3, f4, f5⟩ := hf it (by simp)
    have hl := rv.length
    have nx : ts.toArray[n]? = none := by simp; omega
    have hT : s.TypeIs (.ref e) "enumerate" := ⟨_, e1, rfl⟩
    unfold pyNext
    refine wpAny_bind (wpAny_attempt (wpAny_callSpecial?_slot (name := Str.ofString "__next__") hT F.slot_enumerate_next (wpAny_call_entry F.slot_enumerate_next hT F.entry_enumerate_next ?_ (F.args_enumerate_next_1 _))))
    show wpAny _ _ (field (.ref e) 2 >>= _) _ _ _
    refine wpAny_bind (wpAny_field e1 rfl (x := .ref it) rfl ?_)
    refine wpAny_bind (wpAny_nextOf_list_end (A := X.A.in1) (show X.A.handled = none from I.ok.hd hc) hit p.isList nx fun g x ge gx => ?_)
    obtain ⟨o, ho, hc'⟩ := gx
    refine wpAny_bind (wpAny_isInstance (T := "StopIteration") (b := true) ⟨o, ho, hc'⟩ isSubtype_stop (wpAny_pure ⟨rfl, ?_⟩))
    exact I.turned (t' := s.toks) (fun b o hb q => ge b o hb q) f0 f1 f3 f4 f5
  self := fun A n s Q E st h => let ⟨⟨_, z⟩, _⟩ := st; wpAny_pyIter_enum z h
section
variable {M : Model} {A : Around} {E : Value → Shared → Prop} {s : Shared} {env : Env}
theorem with_tyK {pos : Pos} {T : String} {e : Expr} {rest : List Expr} {kws : List Keyword} {Q : Value → Shared → Prop}
    (h : wpAny M A (spliced (backTo pos (starEach (e :: rest) env))) (fun us s1 => wpAny M A (evalAll ((backToKw pos (keywordEach kws env)).map (·.2))) (fun ws s2 => wpAny M A (call (.type T) us (((backToKw pos (keywordEach kws env)).filterMap (·.1)).zip ws)) Q E s2) E s1) E s)
    (e1 : backTo pos (starEach (e :: rest) env) = (false, eval e env) :: backTo pos (starEach rest env)) (e2 : (backTo pos (starEach (e :: rest) env)).any (·.1) = false)
    (e3 : (backToKw pos (keywordEach kws env)).all (·.1.isSome) = true) (e4 : (backToKw pos (keywordEach kws env)).any (·.1.isNone) = false) :
    wpAny M A (callWith pos (.type T) [] (backTo pos (starEach (e :: rest) env)) (backToKw pos (keywordEach kws env))) Q E s := by
  have k : wpAny M A (evalArgs (.type T) true (backTo pos (starEach (e :: rest) env)) (backToKw pos (keywordEach kws env))) (fun a s1 => wpAny M A (call (.type T) a.pos a.kw) Q E s1) E s := by
    rw [e1] at h ⊢
    exact PyProof.Rows.evalArgs_kwB e3 h
  unfold callWith
  refine wpAny_bind (wpAny_holding (wpAny_mono k (fun a s1 k1 => wpAny_bind (wpAny_standAt ?_)) fun _ _ z => z))
  simp only [e2, e4, Bool.or_false]
  exact wpAny_bind (wpAny_pure (wpAny_bind (wpAny_mono k1 (fun r s2 kr => wpAny_bind (wpAny_holding (wpAny_point (wpAny_pure kr)))) fun _ _ z => z)))
end
def iEnumK (K : PySem.W.Frag) (ta tk : TA) : TI := fun σ H R => ta σ H fun vs H1 => tk σ H1 fun zs H2 => ∃ a l c, vs = [.ref a] ∧ zs = [.int c] ∧ (-(2 ^ 63) ≤ c ∧ c < 2 ^ 63) ∧ SqL K H2 a l ∧ R (ItK K c a) H2
theorem pi_enumK {X : Cx} {e : Expr} {kws : List Keyword} {ta tk : TA} {p pos tpos : Pos} {elts : List Expr} {kk : Nat} (hg : Gl X "enumerate") (hm : X.mg "enumerate" = none) (ha : PA X [e] ta) (hk : PK X kws tk)
    (e1 : backTo pos (starEach [e] X.env) = (false, eval e X.env) :: backTo pos (starEach [] X.env)) (e2 : (backTo pos (starEach [e] X.env)).any (·.1) = false)
    (e3 : (backToKw pos (keywordEach kws X.env)).all (·.1.isSome) = true) (e4 : (backToKw pos (keywordEach kws X.env)).any (·.1.isNone) = false) (e5 : (backToKw pos (keywordEach kws X.env)).filterMap (·.1) = [Str.ofString "start"]) :
    PI X (.Tuple elts kk tpos) (.Call (.Name "enumerate" p) [e] kws pos) (iEnumK X.K ta tk) := by
  refine ⟨fun pins s σ H R I h => ?_⟩
  refine wpAny_Call_Name_kw (ld_blt I hg hm PyProof.Rows.boot_enumerate ?_ (by decide) (by decide))
  refine with_tyK (thn (ha.run pos pins s σ H _ I h) fun us s1 ⟨vs, H1, I1, r1, q1⟩ => thn (hk.run pos pins s1 σ H1 _ I1 q1) fun ws s2 ⟨zs, H2, I2, r2, q2⟩ => ?_) e1 e2 e3 e4
  rw [e5]
  obtain ⟨a, l, c, ex, ez, ⟨c1, c2⟩, hq, q⟩ := q2
  subst ex ez
  cases r1 with
  | cons r rr =>
    cases rr
    cases r
    cases r2 with
    | cons r' rr =>
      cases rr
      obtain ⟨t, rfl⟩ := r'
      obtain ⟨ts, rv, p', hz⟩ := I2.list hq
      have la : a < s2.heap.objs.size := by obtain ⟨_, q, _⟩ := id p'.isList; exact Heap.lt_size q
      refine enum_begins_start (begins_list a ts.toArray) p'.isList c1 c2 fun g he hit hsz hk => wpAny_pyIter_enum he ?_
      have J : Inv X pins σ H2 { s2 with heap := g } := I2.kept (t' := s2.toks) hk
      refine ⟨s2.heap.objs.size + 1, [s2.heap.objs.size + 1, s2.heap.objs.size], _, _, H2, rfl, J, turn_enumK c a (s2.heap.objs.size + 1) s2.heap.objs.size, ⟨⟨.none, by show IsEnum _ _ _ (c + 0) _; rw [Int.add_zero]; exact he⟩, ⟨_, hit, rfl, rfl⟩, Nat.succ_ne_self _, Nat.ne_of_gt (Nat.lt_succ_of_lt la), Nat.ne_of_lt la⟩, fun b hb => ?_, q⟩
      have lb : s2.heap.objs.size ≤ b := by
        rcases (show b = s2.heap.objs.size + 1 ∨ b = s2.heap.objs.size by simpa using hb) with z | z
        · rw [z]; exact Nat.le_succ _
        · rw [z]; exact Nat.le_refl _
      exact I2.fpOk lb (I2.hok.fresh lb)
section
variable {G : Gx} {X : Cx} {W : WX}
def enumK (c : Int) : List D → List D
  | [] => []
  | x :: xs => .tup [.int c, x] :: enumK (c + 1) xs
theorem enumK_get : ∀ {l : List D} {c : Int} {n : Nat}, (enumK c l)[n]? = l[n]?.map fun x => .tup [.int (c + n), x]
  | [], _, _ => rfl
  | x :: l, c, 0 => by show some (D.tup [.int c, x]) = some (D.tup [.int (c + 0), x]); rw [Int.add_zero]
  | x :: l, c, n + 1 => by
    show (enumK (c + 1) l)[n]? = l[n]?.map _
    rw [enumK_get, show c + 1 + (n : Int) = c + ((n + 1 : Nat) : Int) by omega]
def enK1 : D → D → Sg → R Src
  | .clist l, .int c, S => if -(2 ^ 63) ≤ c ∧ c < 2 ^ 63 then .ok (.its (enumK c l)) S else .stuck
  | _, _, _ => .stuck
def iEnK (f g : FE) : FI := fun ρ S => (f ρ S).bind fun d S1 => (g ρ S1).bind fun c S2 => enK1 d c S2
theorem iEnK_at {f g : FE} {ρ : Ev} {S : Sg} : iEnK f g ρ S = (f ρ S).bind fun d S1 => (g ρ S1).bind fun c S2 => enK1 d c S2 := rfl
theorem srcOk_enumK (ok : G.Ok) {μ : List Addr} {H : Hp} {a : Addr} {l : List D} {vs : List V} {c : Int} (h1 : ∃ q, H a = some (.frz q (.lst vs))) (d1 : DenA G μ H l vs) : SrcOk G μ H (.its (enumK c l)) (ItK G.K c a) := by
  intro μ' H' S' n p r
  have q1 : SqL G.K H' a vs := cl_sqL (let ⟨q, e⟩ := h1; ⟨q, p.frz _ _ _ e⟩)
  refine ⟨fun z => ?_, fun dd z => ?_⟩
  · have z2 := Option.some.inj z
    rw [enumK_get, Option.map_eq_none_iff] at z2
    exact ⟨vs, q1, by rw [← d1.length]; exact List.getElem?_eq_none_iff.mp z2⟩
  · have z2 := Option.some.inj z
    rw [enumK_get] at z2
    obtain ⟨x, z3, z4⟩ := Option.map_eq_some_iff.mp z2
    subst z4
    obtain ⟨v, g1, g2⟩ := (d1.per p).get z3
    refine ⟨⟨vs, v, q1, g1⟩, fun y H2 w => ?_⟩
    obtain ⟨T, v', w1, w2, w3, w4⟩ := w
    subst w1
    subst w3
    have a1 := w4 vs q1
    rw [g1] at a1
    cases a1
    have pn : Per G μ' H' μ' (upd H' T (.tup [.int (c + (n : Nat)), v])) := per_new ok w2
    exact ⟨pn, r.new ok w2, .tup upd_same (.cons (.int _) (.cons (g2.per pn) .nil))⟩
theorem di_enumK {e e2 : Expr} {nm : Option Str} {p pos tpos kpos : Pos} {elts : List Expr} {kk : Nat} {f g : FE} (A : Amb G X W) (hm : X.mg "enumerate" = none) (ha : PE X e (TD G W f)) (hk : PE X e2 (TD G W g)) (hg : Gl X "enumerate" := by rfl)
    (e1 : backTo pos (starEach [e] X.env) = (false, eval e X.env) :: backTo pos (starEach [] X.env) := by rfl) (e2' : (backTo pos (starEach [e] X.env)).any (·.1) = false := by rfl)
    (e3 : (backToKw pos (keywordEach [⟨nm, e2, kpos⟩] X.env)).all (·.1.isSome) = true := by rfl) (e4 : (backToKw pos (keywordEach [⟨nm, e2, kpos⟩] X.env)).any (·.1.isNone) = false := by rfl) (e5 : (backToKw pos (keywordEach [⟨nm, e2, kpos⟩] X.env)).filterMap (·.1) = [Str.ofString "start"] := by rfl)
    (hs : starEach [e] X.env = [(false, eval e X.env)] := by rfl) :
    DI X G W (.Tuple elts kk tpos) (.Call (.Name "enumerate" p) [e] [⟨nm, e2, kpos⟩] pos) (iEnK f g) := by
  refine ⟨iEnumK G.K (tCons (TD G W f) tNil) (tCons (TD G W g) tNil), by have := pi_enumK (tpos := tpos) (elts := elts) (kk := kk) (p := p) hg hm (pa_cons ha pa_nil hs) (pk_cons (nm := nm) (kpos := kpos) hk pk_nil) e1 e2' e3 e4 e5; rw [A.hK] at this; exact this, fun σ H R ⟨μ, ρ, S, en, rp, po⟩ => ⟨μ, ρ, S, en, rp, (post_bind po).mono fun v H1 ⟨μ1, d, S1, pe, rp1, dd, p1⟩ => ?_⟩⟩
  refine ⟨μ1, ρ, S1, en.per pe, rp1, (post_bind p1).mono fun y H2 ⟨μ2, d2, S2, pe2, rp2, de, p2⟩ => ?_⟩
  have dd := dd.per pe2
  cases dd with
  | clist h1 h2 =>
    cases de with
    | int c =>
      obtain ⟨k1, p3⟩ := post_ite p2
      exact ⟨_, _, c, rfl, rfl, k1, cl_sqL h1, p3 _ _ _ .refl rp2 (srcOk_enumK A.ok h1 h2)⟩
    | _ => exact p2.elim
  | _ => exact p2.elim
end
end Dx

/-! Dx46: a, *b = a list. -/
namespace Dx
open PySem PySem.Spec L2
section
variable {prog : Program} {w : World} {A : Around} {E : Value → Shared → Prop} {s : Shared} {env : Env}
theorem star_two {l : Addr} {items : Array Value} {x : Value} {r : List Value} {Q : List Value → Shared → Prop} (hl : s.heap.IsList l items) (hh : A.handled = none) (hz : items.size ≤ sizeLine) (e : items.toList = x :: r)
    (h : ∀ (g : Heap) (tk : Nat), (∀ b o, s.heap.get? b = some o → g.get? b = some o) → Q [x, .ref g.objs.size] { s with heap := g.push { cls := .type "list", data := .seq r.toArray }, toks := tk }) : wpAny (model prog w) A (unpackItems (.ref l) 2 (some 1)) Q E s := by
  have hsz : items.size = r.length + 1 := by rw [← Array.length_toList, e]; rfl
  have n1 : l ≠ s.heap.objs.size := let ⟨o, ho, _⟩ := hl; Nat.ne_of_lt (Heap.lt_size ho)
  have n2 : l < s.heap.objs.size := let ⟨o, ho, _⟩ := hl; Heap.lt_size ho
  unfold unpackItems
  refine wpAny_bind ?_
  unfold notIterableAtAll
  refine wpAny_bind (wpAny_specialOf hl.typeIs PySem.slot_list_iter.lookup (wpAny_pure ?_))
  simp only [Bool.false_eq_true, if_false]
  refine wpAny_bind (wpAny_holding (wpAny_pyIter_list hl (wpAny_bind (wpAny_holding (PySem.W.kun_draw n1 1 0 _ _ ⟨_, Heap.get?_push_size _ rfl, rfl, rfl⟩ (hl.push _) (by omega) fun g1 it1 sb1 => ?_)))))
  have l1 : g1.IsList l items := (hl.push _).extBut sb1.extBut n1
  rw [Nat.zero_add] at it1
  obtain ⟨oi, hoi, hrest⟩ := id it1
  obtain ⟨ol, hol, _⟩ := id l1
  rw [List.drop_zero, e]
  rw [show List.take 1 (x :: r) = [x] from rfl, if_neg (show ¬ ([x].length < 1) by simp)]
  refine wpAny_bind (wpAny_holding (PySem.W.kun_collect (s := { s with heap := g1 }) (T := "list_iterator") (.inr (.inr (.inl rfl))) (Walks.list (A := A.in1) hh s.heap.objs.size l n1 items) (fun j u st => st.1.typeIs) (k := 1) (by omega) ⟨it1, l1⟩ (Heap.lt_size hoi) (Heap.lt_size hol) (fun g2 tk kp => ?_) hz))
  have ed : items.toList.drop 1 = r := by rw [e]; rfl
  rw [ed]
  show wpAny _ _ (if r.length < 2 - 1 - 1 then _ else _) _ _ _
  rw [if_neg (by omega)]
  show wpAny _ _ (newList (r.take (r.length - (2 - 1 - 1))) >>= fun d => pure ([x] ++ [d] ++ r.drop (r.length - (2 - 1 - 1)))) _ _ _
  rw [show r.length - (2 - 1 - 1) = r.length by omega, List.take_length, List.drop_length]
  refine wpAny_bind (wpAny_newList (s := { s with heap := g2, toks := tk }) (wpAny_pure ?_) (by omega))
  exact h g2 tk fun b o q => kp b o (Nat.ne_of_lt (Heap.lt_size q)) (sb1.extBut b o (Nat.ne_of_lt (Heap.lt_size q)) (Heap.get?_push_of_some _ q))
theorem asg_star {elts : List Expr} {k : Nat} {pos : Pos} {l : Addr} {items : Array Value} {x : Value} {r : List Value} {Q : Unit → Shared → Prop} (hl : s.heap.IsList l items) (hh : A.handled = none) (hz : items.size ≤ sizeLine) (e : items.toList = x :: r)
    (e1 : (assignEach elts env).length = 2) (e2 : (assignEach elts env).findIdx? (·.1) = some 1)
    (h : ∀ (g : Heap) (tk : Nat), (∀ b o, s.heap.get? b = some o → g.get? b = some o) → wpAny (model prog w) A (assignInOrder ((assignEach elts env).map (·.2)) [x, .ref g.objs.size]) Q E { s with heap := g.push { cls := .type "list", data := .seq r.toArray }, toks := tk }) :
    wpAny (model prog w) A (assign (.Tuple elts k pos) env (.ref l)) Q E s := by
  rw [PyProof.Rows.assign_Tuple]
  refine wpAny_bind (wpAny_standAt ?_)
  unfold unpack
  rw [e1, e2]
  exact wpAny_bind (wpAny_holding (star_two hl hh hz e h))
end
section
variable {G : Gx} {X : Cx} {W : WX}
def gStar (K : PySem.W.Frag) (t : TGs) : TG := fun v σ H Q => ∃ a y l, v = .ref a ∧ SqL K H a (y :: l) ∧ ∀ D, H D = none → t [y, .ref D] σ (upd H D (.lst l)) Q
theorem pg_star {es es' : List Expr} {k : Nat} {pos : Pos} {t : TGs} (hc : X.calm = true) (h : PGs X es' t) (e0 : (assignEach es X.env).map (·.2) = (assignEach es' X.env).map (·.2))
    (e1 : (assignEach es X.env).length = 2) (e2 : (assignEach es X.env).findIdx? (·.1) = some 1) : PG X (.Tuple es k pos) (gStar X.K t) := by
  refine ⟨fun pins s σ H v u Q I r hw => ?_⟩
  obtain ⟨a, y, l, ev, hq, hw⟩ := hw
  subst ev
  cases r
  obtain ⟨ts, rv, p, hz⟩ := I.list hq
  cases rv with
  | @cons _ u _ us r1 r2 =>
    have hl : us.length = l.length := r2.length.symm
    have zz : us.length + 1 ≤ sizeLine := by rw [hl]; simpa using hz
    refine asg_star p.isList (I.ok.hd hc) (by simpa using zz) rfl e1 e2 fun g tk kp => ?_
    rw [e0]
    have I1 : Inv X pins σ H { s with heap := g, toks := tk } := I.kept (t' := tk) kp
    have hn : H g.objs.size = none := I1.hok.fresh (Nat.le_refl _)
    have I2 : Inv X pins σ (upd H g.objs.size (.lst l)) { s with heap := g.push { cls := .type "list", data := .seq us.toArray }, toks := tk } := I1.laid (t' := tk) (fun b u e => Heap.get?_push_of_some _ e) (Nat.le_refl _) ⟨by omega, us, 0, r2, Heap.get?_push_size _ rfl⟩
    exact h.run pins _ σ _ [y, .ref g.objs.size] [u, .ref g.objs.size] Q I2 (.cons r1 (.cons rfl .nil)) (hw _ hn)
def kStar (i j : Nat) (ρ : Ev) : D → Sg → Fl
  | .clist (x :: l), S => .nx ((ρ.set i (some x)).set j (some (.clist l))) S
  | _, _ => .stuck
def sStar (i j : Nat) (f : FE) : FS := fun ρ S => (f ρ S).go ρ (kStar i j ρ)
theorem sStar_at {i j : Nat} {f : FE} {ρ : Ev} {S : Sg} : sStar i j f ρ S = (f ρ S).go ρ (kStar i j ρ) := rfl
theorem ds_star {x y : Str} {p1 p2 p3 tpos pos : Pos} {k : Nat} {e : Expr} {f : FE} (i j : Nat) (hc : X.calm = true) (A : Amb G X W) (hN : X.N.Nodup) (he : PE X e (TD G W f)) (hi : X.N[i]? = some x := by rfl) (hj : X.N[j]? = some y := by rfl)
    (lx : Loc X.env.scope x := by first | exact Or.inl rfl | exact Or.inr rfl) (ly : Loc X.env.scope y := by first | exact Or.inl rfl | exact Or.inr rfl)
    (fx : X.fn x = true ∨ X.env.scope.names.lookup x = some .local := by first | exact .inl rfl | exact .inr rfl) (fy : X.fn y = true ∨ X.env.scope.names.lookup y = some .local := by first | exact .inl rfl | exact .inr rfl)
    (hs : swapsWithSole [.Tuple [.Name x p1, .Starred (.Name y p2) p3] k tpos] e pos.line X.env = pure false := by rfl) (hw : swappedStores [.Tuple [.Name x p1, .Starred (.Name y p2) p3] k tpos] e X.env = pure none := by rfl)
    (h1 : (assignEach [.Tuple [.Name x p1, .Starred (.Name y p2) p3] k tpos] X.env).map (·.2) = [assign (.Tuple [.Name x p1, .Starred (.Name y p2) p3] k tpos) X.env] := by rfl)
    (e0 : (assignEach [.Name x p1, .Starred (.Name y p2) p3] X.env).map (·.2) = (assignEach [.Name x p1, .Name y p2] X.env).map (·.2) := by rfl) (e1 : (assignEach [.Name x p1, .Starred (.Name y p2) p3] X.env).length = 2 := by rfl) (e2 : (assignEach [.Name x p1, .Starred (.Name y p2) p3] X.env).findIdx? (·.1) = some 1 := by rfl)
    (f1 : (assignEach [.Name x p1, .Name y p2] X.env).map (·.2) = assign (.Name x p1) X.env :: (assignEach [.Name y p2] X.env).map (·.2) := by rfl) (f2 : (assignEach [.Name y p2] X.env).map (·.2) = assign (.Name y p2) X.env :: (assignEach [] X.env).map (·.2) := by rfl) :
    PS X (.Assign [.Tuple [.Name x p1, .Starred (.Name y p2) p3] k tpos] e pos) (TDS G W (sStar i j f)) := by
  refine PS.imp (ps_frz (ps_asg he (pg_star hc (pgs_cons (pg_name hN hi lx fx) (pgs_cons (pg_name hN hj ly fy) pgs_nil f2) f1) e0 e1 e2) hs hw h1)) fun Z σ H ⟨μ, ρ, S, en, rp, po⟩ => ⟨μ, ρ, S, en, rp, (posts_go (rel := Den G) en po).mono fun v H1 ⟨μ1, d, S1, pe, rp1, dd, p1⟩ => ?_⟩
  have p1 : PostS G W μ1 H1 Z (kStar i j ρ d S1) := p1
  have done : ∀ (x : D) (l : List D), d = .clist (x :: l) → gStar X.K (gCons (gName i) (gCons (gName j) gNil)) v σ H1 (FN Z.nx) := by
    rintro x l rfl
    cases dd with
    | clist h1 h2 =>
      cases h2 with
      | @cons _ _ v0 us d1 d2 =>
        refine ⟨_, v0, us, rfl, by rw [A.hK]; exact cl_sqL h1, fun D hD => ⟨_, _, rfl, _, _, rfl, rfl, .inr ⟨D, .lst us, upd_same, trivial, fun od => ?_⟩⟩⟩
        rw [upd_upd]
        have pn := per_new (μ := μ1) (o := .frz od (.lst us)) A.ok hD
        exact p1 _ _ _ pn (rp1.new A.ok hD) ((((en.per pe).per pn).set (d1.per pn)).set (.clist ⟨od, upd_same⟩ (d2.per pn)))
  unfold kStar at p1
  split at p1
  · exact done _ _ rfl
  · exact p1.elim
/-! ### int(a text) -/
def cIntT : CV := fun ds S => match ds with
  | [.str a] => match PySem.intText? (Str.ofString a) with
    | some n => if (Str.ofString a).length ≤ 640 then .ok (.int n) S else .stuck
    | none => .stuck
  | _ => .stuck
theorem cIntT_of {a : String} {n : Int} {S : Sg} (h : PySem.intText? (Str.ofString a) = some n) (hl : (Str.ofString a).length ≤ 640) : cIntT [.str a] S = .ok (.int n) S := by
  unfold cIntT
  dsimp only
  rw [h]
  exact if_pos hl
theorem cv_intT : CallV G W (fun xs H Q => ∃ a n, xs = [.str a] ∧ PySem.intText? a = some n ∧ a.length ≤ 640 ∧ Q (.int n) H) cIntT := by
  intro μ S H xs ds σ Q rp dd po
  unfold cIntT at po
  split at po
  · cases dd with
    | cons d1 t =>
      cases t
      cases d1
      split at po
      · rename_i n e
        obtain ⟨c, p⟩ := post_ite po
        exact ⟨_, n, rfl, e, c, post_ok rp p (.int _)⟩
      · exact po.elim
  · exact po.elim
theorem de_intT {e : Expr} {p pos : Pos} {g : FA} (hm : X.mg "int" = none) (ha : PA X [e] (TDA G W g)) (hg : Gl X "int" := by rfl) (he : starEach [e] X.env = (false, eval e X.env) :: starEach [] X.env := by rfl) (hpl : (backTo pos (starEach [] X.env)).any (·.1) = false := by rfl) : PE X (.Call (.Name "int" p) [e] [] pos) (TD G W (xB cIntT g)) :=
  de_callTy call_int_str cv_intT hm PyProof.Rows.boot_int ha hg (by decide) (by decide) he hpl
end
end Dx

set_option maxHeartbeats 4000000
noncomputable section
namespace Law
open PySem PySem.Spec L2 Dx LamX
def raisedL : List Nat := [1, 2, 3]
def testedL : List Nat := [1, 2, 3]
def subT (c k : Nat) : Bool := decide ((c, k) ∈ ([(1, 0), (1, 1), (2, 0), (2, 2), (3, 0), (3, 3)] : List (Nat × Nat)))
def sup_WindowError (c : Nat) : Option Bool := if c ∈ raisedL then some (subT c 0) else none
theorem sup_WindowError_r {c : Nat} {b : Bool} (h : sup_WindowError c = some b) : c ∈ raisedL := by
  unfold sup_WindowError at h
  split at h
  · assumption
  · cases h
structure Tx (P : Program) (K : PySem.W.Frag) (mg : Str → Option Value) (G : Gx) : Prop where
  c_GREATEST : GlobD K mg G "GREATEST" k_GREATEST
  c_MANY_DIGITS : GlobD K mg G "MANY_DIGITS" k_MANY_DIGITS
  c_MOST_INSTRUCTIONS : GlobD K mg G "MOST_INSTRUCTIONS" k_MOST_INSTRUCTIONS
  b_all : mg "all" = none
  b_bool : mg "bool" = none
  em_WindowError : ∀ c b, sup_WindowError c = some b → PySem.W.exmOne K (.ref (G.cls c)) (.ref (G.cls 0)) = some b
  b_enumerate : mg "enumerate" = none
  er_NotText : ErrG K mg (G.cls 2) "NotText"
  gc_BadProgram : mg "BadProgram" = some (.ref (G.cls 1))
  gc_InvalidText : mg "InvalidText" = some (.ref (G.cls 3))
  gc_NotText : mg "NotText" = some (.ref (G.cls 2))
  gc_WindowError : mg "WindowError" = some (.ref (G.cls 0))
  in_BadProgram : IniX P K mg (G.cls 1) "BadProgram" "index"
  in_InvalidText : IniX P K mg (G.cls 3) "InvalidText" "line"
  b_int : mg "int" = none
  b_isinstance : mg "isinstance" = none
  b_len : mg "len" = none
  b_list : mg "list" = none
  b_range : mg "range" = none
  b_str : mg "str" = none
  b_tuple : mg "tuple" = none
  b_zip : mg "zip" = none
  ex_all : ∀ c, c ∈ raisedL → ExcC K (G.cls c)
  kit_all : ∀ c k, c ∈ raisedL → k ∈ testedL → PySem.W.kitOne K (.ref (G.cls c)) (.ref (G.cls k)) = some (subT c k)
  nf_index : ∀ c, c ∈ raisedL → PySem.W.findIn K (.ref (G.cls c)) "index" = some none
  nf_line : ∀ c, c ∈ raisedL → PySem.W.findIn K (.ref (G.cls c)) "line" = some none
def S_is_integer : FS := sRet (xAnd (xIsi (xVar 0) ["int"]) (xNot (xIsi (xVar 0) ["bool"])))
def F_is_integer : FF := dFun 1 1 S_is_integer
theorem sc_is_integer : FnScope ["value"] ["value"] (defScope s_is_integer) := ⟨rfl, rfl, rfl, by decide +kernel, rfl, by decide +kernel, by decide +kernel⟩
theorem ok_is_integer {P : Program} {w : World} {K : PySem.W.Frag} {mg : Str → Option Value} {base : Heap} {G : Gx} (hK : K = G.K) (hw : w = G.w) (gok : G.Ok) (T : Tx P K mg G)  (h : FunAt K mg "is_integer" s_is_integer ["value"]) : DefD P w K mg base G 2 "is_integer" 1 F_is_integer := by
  obtain ⟨f, fd, F, hm, hb⟩ := h.ex
  exact ⟨f, fd, ["value"], fn_ok (k := 1) F sc_is_integer (by decide) (fun cdv A outer s H E hr => have A : Amb G _ _ := amb_fn (k := 0) hK hw gok hr
    ds_one (ds_ret (de_and A (de_isi (u := "int") A T.b_isinstance (de_var 0) T.b_int (by first | exact PyProof.Rows.boot_int | decide +kernel)) (de_one (de_not A (de_isi (u := "bool") A T.b_isinstance (de_var 0) T.b_bool (by first | exact PyProof.Rows.boot_bool | decide +kernel))))))), hm, F.kp, hb⟩
def S_check_text : FS := sIf (tNotF (tTru (xIsi (xVar 0) ["str"])))
  (sRaise 2)
  (sNil)
def F_check_text : FF := dFun 1 1 S_check_text
theorem sc_check_text : FnScope ["value"] ["value"] (defScope s_check_text) := ⟨rfl, rfl, rfl, by decide +kernel, rfl, by decide +kernel, by decide +kernel⟩
theorem ok_check_text {P : Program} {w : World} {K : PySem.W.Frag} {mg : Str → Option Value} {base : Heap} {G : Gx} (hK : K = G.K) (hw : w = G.w) (gok : G.Ok) (T : Tx P K mg G)  (h : FunAt K mg "check_text" s_check_text ["value"]) : DefD P w K mg base G 2 "check_text" 1 F_check_text := by
  obtain ⟨f, fd, F, hm, hb⟩ := h.ex
  exact ⟨f, fd, ["value"], fn_ok (k := 1) F sc_check_text (by decide) (fun cdv A outer s H E hr => have A : Amb G _ _ := amb_fn (k := 0) hK hw gok hr
    ds_one (ds_if (dt_not (dt_truth A (de_isi (u := "str") A T.b_isinstance (de_var 0) T.b_str (by first | exact PyProof.Rows.boot_str | decide +kernel))))
    (ds_one (ds_raise (c := 2) rfl A T.er_NotText))
    (ds_nil))), hm, F.kp, hb⟩
def S_line_of : FS := sRet (xJoin (xC (.str " ")) (xLcF [1] (iSrc (xVar 0)) (gNm 1) (tYesF) (xB cStr (aCons (xVar 1) (aNil)))))
def F_line_of : FF := dFun 2 1 S_line_of
theorem sc_line_of : FnScope ["items", "item"] ["items"] (defScope s_line_of) := ⟨rfl, rfl, rfl, by decide +kernel, rfl, by decide +kernel, by decide +kernel⟩
theorem ok_line_of {P : Program} {w : World} {K : PySem.W.Frag} {mg : Str → Option Value} {base : Heap} {G : Gx} (hK : K = G.K) (hw : w = G.w) (gok : G.Ok) (T : Tx P K mg G)  (h : FunAt K mg "line_of" s_line_of ["items"]) : DefD P w K mg base G 2 "line_of" 1 F_line_of := by
  obtain ⟨f, fd, F, hm, hb⟩ := h.ex
  exact ⟨f, fd, ["items"], fn_ok (k := 1) F sc_line_of (by decide) (fun cdv A outer s H E hr => have A : Amb G _ _ := amb_fn (k := 0) hK hw gok hr
    ds_one (ds_ret (de_join A (de_str) (de_lcF (own := [("item", 1)]) rfl sc_line_of.nd A (di_seq A (de_var 0)) (blkOk_by (N := ["items", "item"]) (sc := defScope s_line_of) (by decide +kernel)) (fun _ _ _ _ _ => dg_name 1 sc_line_of.nd) (fun _ _ _ _ _ => dts_nil) (fun _ _ _ _ _ => de_str1 T.b_str (da_cons (de_var 1) (da_nil))))))), hm, F.kp, hb⟩
def S_number_told : FS := sSeq (sIf (tOrF (tNotF (tTru (xT0 Txt.isascii (xVar 0)))) (tNotF (tTru (xT0 Txt.isdigit (xVar 0)))))
  (sRet (xC .non))
  (sNil))
  (sSeq (sIf (tAndF (tBl (x2 (fEqF true) (xVar 0) (xC (.str "0")))) (tTru (xSw (xVar 0) (xC (.str "0")))))
  (sRet (xC .non))
  (sNil))
  (sRet (xB cIntT (aCons (xSlT (xVar 0) (oNone) (oSome (xC k_MANY_DIGITS))) (aNil)))))
def F_number_told : FF := dFun 1 1 S_number_told
theorem sc_number_told : FnScope ["word"] ["word"] (defScope s_number_told) := ⟨rfl, rfl, rfl, by decide +kernel, rfl, by decide +kernel, by decide +kernel⟩
theorem ok_number_told {P : Program} {w : World} {K : PySem.W.Frag} {mg : Str → Option Value} {base : Heap} {G : Gx} (hK : K = G.K) (hw : w = G.w) (gok : G.Ok) (T : Tx P K mg G)  (h : FunAt K mg "number_told" s_number_told ["word"]) : DefD P w K mg base G 2 "number_told" 1 F_number_told := by
  obtain ⟨f, fd, F, hm, hb⟩ := h.ex
  exact ⟨f, fd, ["word"], fn_ok (k := 1) F sc_number_told (by decide) (fun cdv A outer s H E hr => have A : Amb G _ _ := amb_fn (k := 0) hK hw gok hr
    ds_cons (ds_if (dt_w (dw_or (dt_not (dt_truth A (de_t0 PySem.F.slot_str_isascii PySem.F.type_str_isascii mt_isascii (de_var 0)))) (dw_or1 (dt_not (dt_truth A (de_t0 PySem.F.slot_str_isdigit PySem.F.type_str_isdigit mt_isdigit (de_var 0)))))))
    (ds_one (ds_ret (de_non)))
    (ds_nil))
    (ds_cons (ds_if (dt_w (dw_and (dt_c (c_neF A) (de_var 0) (de_str)) (dw_and1 (dt_truth A (de_startswith (de_var 0) (de_str))))))
    (ds_one (ds_ret (de_non)))
    (ds_nil))
    (ds_one (ds_ret (de_intT T.b_int (da_cons (de_sliceT (de_var 0) (do_none) (do_some (de_gl T.c_MANY_DIGITS))) (da_nil))))))), hm, F.kp, hb⟩
def S_lines_of : FS := sRet (xIf (tTru (xVar 0)) (xSplit (xVar 0) (xC (.str "\n"))) (xLstF (aNil)))
def F_lines_of : FF := dFun 1 1 S_lines_of
theorem sc_lines_of : FnScope ["text"] ["text"] (defScope s_lines_of) := ⟨rfl, rfl, rfl, by decide +kernel, rfl, by decide +kernel, by decide +kernel⟩
theorem ok_lines_of {P : Program} {w : World} {K : PySem.W.Frag} {mg : Str → Option Value} {base : Heap} {G : Gx} (hK : K = G.K) (hw : w = G.w) (gok : G.Ok) (T : Tx P K mg G)  (h : FunAt K mg "lines_of" s_lines_of ["text"]) : DefD P w K mg base G 2 "lines_of" 1 F_lines_of := by
  obtain ⟨f, fd, F, hm, hb⟩ := h.ex
  exact ⟨f, fd, ["text"], fn_ok (k := 1) F sc_lines_of (by decide) (fun cdv A outer s H E hr => have A : Amb G _ _ := amb_fn (k := 0) hK hw gok hr
    ds_one (ds_ret (de_if (dt_truth A (de_var 0)) (de_split A (de_var 0) (de_str)) (de_lstF A (da_nil))))), hm, F.kp, hb⟩
def S__law_taken : FS := sSeq (sIf (tBl (x2 (fGt) (x2 fIx (xVar 0) (xC (.int 3))) (xC (.int 0))))
  (sSeq (sSet 2 (x2 fMod (xB cInt (aCons (x2 fIx (xVar 0) (xC (.int 3))) (aNil))) (xVar 1)))
  (sSeq (sSto (x2 fDiv (x2 fIx (xVar 0) (xC (.int 3))) (xVar 1)) (xVar 0) (xC (.int 3)))
  (sRet (xVar 2))))
  (sNil))
  (sSeq (sSto (x2 fAddF (x2 fIx (xVar 0) (xC (.int 1))) (xC (.int 1))) (xVar 0) (xC (.int 1)))
  (sSeq (sIf (tBl (x2 (fGt) (x2 fIx (xVar 0) (xC (.int 1))) (xB cLen (aCons (x2 fIx (xVar 0) (xC (.int 0))) (aNil)))))
  (sSeq (sSto (x2 fMod (xB cInt (aCons (x2 fAddF (x2 fMulFF (x2 fIx (xVar 0) (xC (.int 2))) (xC (.int 48271))) (xC (.int 11))) (aNil))) (xC (.int 2147483647))) (xVar 0) (xC (.int 2)))
  (sRet (x2 fMod (xB cInt (aCons (x2 fDiv (x2 fIx (xVar 0) (xC (.int 2))) (xC (.int 7))) (aNil))) (xVar 1))))
  (sNil))
  (sSeq (sSet 3 (x2 fIx (x2 fIx (xVar 0) (xC (.int 0))) (x2 fSub (x2 fIx (xVar 0) (xC (.int 1))) (xC (.int 1)))))
  (sSeq (sSto (x2 fMod (xB cInt (aCons (x2 fAddF (x2 fAddF (x2 fMulFF (x2 fIx (xVar 0) (xC (.int 2))) (xC (.int 48271))) (xVar 3)) (xC (.int 11))) (aNil))) (xC (.int 2147483647))) (xVar 0) (xC (.int 2)))
  (sSeq (sIf (tBl (x2 (fGe) (xVar 3) (x2 fPow (xC (.int 10)) (xC (.int 18)))))
  (sSto (x2 fDiv (xVar 3) (xVar 1)) (xVar 0) (xC (.int 3)))
  (sNil))
  (sRet (x2 fMod (xB cInt (aCons (xVar 3) (aNil))) (xVar 1))))))))
def F__law_taken : FF := dFun 4 2 S__law_taken
theorem sc__law_taken : FnScope ["row", "many", "found", "cell"] ["row", "many"] (defScope s__law_taken) := ⟨rfl, rfl, rfl, by decide +kernel, rfl, by decide +kernel, by decide +kernel⟩
theorem ok__law_taken {P : Program} {w : World} {K : PySem.W.Frag} {mg : Str → Option Value} {base : Heap} {G : Gx} (hK : K = G.K) (hw : w = G.w) (gok : G.Ok) (T : Tx P K mg G)  (h : FunAt K mg "_law_taken" s__law_taken ["row", "many"]) : DefD P w K mg base G 2 "_law_taken" 2 F__law_taken := by
  obtain ⟨f, fd, F, hm, hb⟩ := h.ex
  exact ⟨f, fd, ["row", "many"], fn_ok (k := 1) F sc__law_taken (by decide) (fun cdv A outer s H E hr => have A : Amb G _ _ := amb_fn (k := 0) hK hw gok hr
    ds_cons (ds_if (dt_c (c_gt A) (de_sub' A (de_var 0) (de_int)) (de_int))
    (ds_cons (ds_set (i := 2) (de_mod (de_int1 T.b_int (da_cons (de_sub' A (de_var 0) (de_int)) (da_nil))) (de_var 1)) sc__law_taken.nd)
    (ds_cons (ds_sto A (de_div (de_sub' A (de_var 0) (de_int)) (de_var 1)) (de_var 0) (de_int))
    (ds_one (ds_ret (de_var 2)))))
    (ds_nil))
    (ds_cons (ds_sto A (de_addF A (de_sub' A (de_var 0) (de_int)) (de_int)) (de_var 0) (de_int))
    (ds_cons (ds_if (dt_c (c_gt A) (de_sub' A (de_var 0) (de_int)) (de_len A T.b_len (da_cons (de_sub' A (de_var 0) (de_int)) (da_nil))))
    (ds_cons (ds_sto A (de_mod (de_int1 T.b_int (da_cons (de_addF A (de_mulFF A (de_sub' A (de_var 0) (de_int)) (de_int)) (de_int)) (da_nil))) (de_int)) (de_var 0) (de_int))
    (ds_one (ds_ret (de_mod (de_int1 T.b_int (da_cons (de_div (de_sub' A (de_var 0) (de_int)) (de_int)) (da_nil))) (de_var 1)))))
    (ds_nil))
    (ds_cons (ds_set (i := 3) (de_sub' A (de_sub' A (de_var 0) (de_int)) (de_sub (de_sub' A (de_var 0) (de_int)) (de_int))) sc__law_taken.nd)
    (ds_cons (ds_sto A (de_mod (de_int1 T.b_int (da_cons (de_addF A (de_addF A (de_mulFF A (de_sub' A (de_var 0) (de_int)) (de_int)) (de_var 3)) (de_int)) (da_nil))) (de_int)) (de_var 0) (de_int))
    (ds_cons (ds_if (dt_c (c_ge A) (de_var 3) (de_pow (de_int) (de_int)))
    (ds_one (ds_sto A (de_div (de_var 3) (de_var 1)) (de_var 0) (de_int)))
    (ds_nil))
    (ds_one (ds_ret (de_mod (de_int1 T.b_int (da_cons (de_var 3) (da_nil))) (de_var 1)))))))))), hm, F.kp, hb⟩
noncomputable def S__law_wrong (act : Nat → Sg → R D) : FS := sSeq (sTry (sExpr (xAct 0 act)) 1 sup_WindowError (fun ec ea ed => byDict ed (fun ed => sSeq (sIf (tTru (xIsD 1 ea ed (subT ec 3)))
  (sRet (xEf 1 ea ed "line"))
  (sNil))
  (sRet (xIf (tTru (xIsD 1 ea ed (subT ec 2))) (xC (.str "text")) (xIf (tTru (xIsD 1 ea ed (subT ec 1))) (xTup (aCons (xC (.str "program")) (aCons (xEf 1 ea ed "index") (aNil)))) (xC (.str "other"))))))
  (sSeq (sIf (tTru (xIsE 1 ea (subT ec 3)))
  (sRet (xStk))
  (sNil))
  (sRet (xIf (tTru (xIsE 1 ea (subT ec 2))) (xC (.str "text")) (xIf (tTru (xIsE 1 ea (subT ec 1))) (xTup (aCons (xC (.str "program")) (aCons (xStk) (aNil)))) (xC (.str "other"))))))))
  (sRet (xC (.str "")))
noncomputable def F__law_wrong (act : Nat → Sg → R D) : FF := dFun 2 1 (S__law_wrong act)
theorem sc__law_wrong : FnScope ["work", "e"] ["work"] (defScope s__law_wrong) := ⟨rfl, rfl, rfl, by decide +kernel, rfl, by decide +kernel, by decide +kernel⟩
theorem ok__law_wrong {P : Program} {w : World} {K : PySem.W.Frag} {mg : Str → Option Value} {base : Heap} {G : Gx} (hK : K = G.K) (hw : w = G.w) (gok : G.Ok) (T : Tx P K mg G) {k : Nat} (h : FunAt K mg "_law_wrong" s__law_wrong ["work"]) : ActD P w K mg base G (k + 1) "_law_wrong" F__law_wrong :=
  act_of (Sf := S__law_wrong) h sc__law_wrong rfl (by first | exact Or.inl rfl | exact Or.inr (Or.inl rfl)) (by decide) (by decide) (fun ga cdg Ar outer s H E ρX σX act hr hact => (have A : Amb G _ _ := (amb_fn (k := k) hK hw gok hr); dsx_cons (dsx_tryAs (i := 1) (k := 0) A sc__law_wrong.nd T.gc_WindowError T.em_WindowError (fun W' pn xe A' => dsx_one (dsx_expr (hact W' pn xe _ _ A'.tk))) (fun ea oe ec d pn hz hzf hsup A => match d, hz with
      | some ed, hz1 => (have hraised := (sup_WindowError_r hsup); (ds_cons (ds_if (dt_truth A (de_isD (i := 1) (k := 3) A (T.ex_all _ hraised) hz1 hzf T.gc_InvalidText (T.kit_all _ 3 hraised (by decide)) T.b_isinstance))
    (ds_one (ds_ret (de_ef (i := 1) (f := "line") A (xfOf (T.ex_all _ hraised)) (T.nf_line _ hraised) hz1 hzf)))
    (ds_nil))
    (ds_one (ds_ret (de_if (dt_truth A (de_isD (i := 1) (k := 2) A (T.ex_all _ hraised) hz1 hzf T.gc_NotText (T.kit_all _ 2 hraised (by decide)) T.b_isinstance)) (de_str) (de_if (dt_truth A (de_isD (i := 1) (k := 1) A (T.ex_all _ hraised) hz1 hzf T.gc_BadProgram (T.kit_all _ 1 hraised (by decide)) T.b_isinstance)) (de_tup A (da_cons (de_str) (da_cons (de_ef (i := 1) (f := "index") A (xfOf (T.ex_all _ hraised)) (T.nf_index _ hraised) hz1 hzf) (da_nil)))) (de_str)))))))
      | none, hz0 => (have hraised := (sup_WindowError_r hsup); (ds_cons (ds_if (dt_truth A (de_isE (i := 1) (k := 3) A (T.ex_all _ hraised) hz0 hzf T.gc_InvalidText (T.kit_all _ 3 hraised (by decide)) T.b_isinstance))
    (ds_one (ds_ret (de_stk)))
    (ds_nil))
    (ds_one (ds_ret (de_if (dt_truth A (de_isE (i := 1) (k := 2) A (T.ex_all _ hraised) hz0 hzf T.gc_NotText (T.kit_all _ 2 hraised (by decide)) T.b_isinstance)) (de_str) (de_if (dt_truth A (de_isE (i := 1) (k := 1) A (T.ex_all _ hraised) hz0 hzf T.gc_BadProgram (T.kit_all _ 1 hraised (by decide)) T.b_isinstance)) (de_tup A (da_cons (de_str) (da_cons (de_stk) (da_nil)))) (de_str)))))))))
    (ds_one (ds_ret (de_str)))))
def S_is_from_to : FS := sRet (xAnd (xCall F_is_integer 1 (aCons (xVar 0) (aNil))) (xChain (fLe) (fLe) (xVar 1) (xVar 0) (xVar 2)))
def F_is_from_to : FF := dFun 3 3 S_is_from_to
theorem sc_is_from_to : FnScope ["value", "least", "most"] ["value", "least", "most"] (defScope s_is_from_to) := ⟨rfl, rfl, rfl, by decide +kernel, rfl, by decide +kernel, by decide +kernel⟩
theorem ok_is_from_to {P : Program} {w : World} {K : PySem.W.Frag} {mg : Str → Option Value} {base : Heap} {G : Gx} (hK : K = G.K) (hw : w = G.w) (gok : G.Ok) (T : Tx P K mg G) (d_is_integer : DefD P w K mg base G 2 "is_integer" 1 F_is_integer) (h : FunAt K mg "is_from_to" s_is_from_to ["value", "least", "most"]) : DefD P w K mg base G 3 "is_from_to" 3 F_is_from_to := by
  obtain ⟨f, fd, F, hm, hb⟩ := h.ex
  exact ⟨f, fd, ["value", "least", "most"], fn_ok (k := 2) F sc_is_from_to (by decide) (fun cdv A outer s H E hr => have A : Amb G _ _ := amb_fn (k := 1) hK hw gok hr
    ds_one (ds_ret (de_and A (de_call A d_is_integer hr (by decide) (da_cons (de_var 0) (da_nil))) (de_one (de_chain (c_le A) (c_le A) (de_var 1) (de_var 0) (de_var 2)))))), hm, F.kp, hb⟩
def S_instruction_told : FS := sSeq (sStar 1 2 (xSplit (xVar 0) (xC (.str " "))))
  (sRet (x2 fAddF (xTup (aCons (xVar 1) (aNil))) (xB cTuple (aCons (xLcF [3] (iSrc (xVar 2)) (gNm 3) (tYesF) (xCall F_number_told 1 (aCons (xVar 3) (aNil)))) (aNil)))))
def F_instruction_told : FF := dFun 4 1 S_instruction_told
theorem sc_instruction_told : FnScope ["line", "word", "numbers", "told"] ["line"] (defScope s_instruction_told) := ⟨rfl, rfl, rfl, by decide +kernel, rfl, by decide +kernel, by decide +kernel⟩
theorem ok_instruction_told {P : Program} {w : World} {K : PySem.W.Frag} {mg : Str → Option Value} {base : Heap} {G : Gx} (hK : K = G.K) (hw : w = G.w) (gok : G.Ok) (T : Tx P K mg G) (d_number_told : DefD P w K mg base G 2 "number_told" 1 F_number_told) (h : FunAt K mg "instruction_told" s_instruction_told ["line"]) : DefD P w K mg base G 3 "instruction_told" 1 F_instruction_told := by
  obtain ⟨f, fd, F, hm, hb⟩ := h.ex
  exact ⟨f, fd, ["line"], fn_ok (k := 2) F sc_instruction_told (by decide) (fun cdv A outer s H E hr => have A : Amb G _ _ := amb_fn (k := 1) hK hw gok hr
    ds_cons (ds_star 1 2 rfl A sc_instruction_told.nd (de_split A (de_var 0) (de_str)))
    (ds_one (ds_ret (de_addF A (de_tup A (da_cons (de_var 1) (da_nil))) (de_tuple A T.b_tuple (da_cons (de_lcF (own := [("told", 3)]) rfl sc_instruction_told.nd A (di_seq A (de_var 2)) (blkOk_by (N := ["line", "word", "numbers", "told"]) (sc := defScope s_instruction_told) (by decide +kernel)) (fun _ _ _ _ _ => dg_name 3 sc_instruction_told.nd) (fun _ _ _ _ _ => dts_nil) (fun _ _ _ _ _ => de_call A.blk d_number_told hr (by decide) (da_cons (de_var 3) (da_nil)))) (da_nil))))))), hm, F.kp, hb⟩
def S__law_pick : FS := sRet (x2 fIx (xVar 1) (xCall F__law_taken 2 (aCons (xVar 0) (aCons (xB cLen (aCons (xVar 1) (aNil))) (aNil)))))
def F__law_pick : FF := dFun 2 2 S__law_pick
theorem sc__law_pick : FnScope ["row", "kinds"] ["row", "kinds"] (defScope s__law_pick) := ⟨rfl, rfl, rfl, by decide +kernel, rfl, by decide +kernel, by decide +kernel⟩
theorem ok__law_pick {P : Program} {w : World} {K : PySem.W.Frag} {mg : Str → Option Value} {base : Heap} {G : Gx} (hK : K = G.K) (hw : w = G.w) (gok : G.Ok) (T : Tx P K mg G) (d__law_taken : DefD P w K mg base G 2 "_law_taken" 2 F__law_taken) (h : FunAt K mg "_law_pick" s__law_pick ["row", "kinds"]) : DefD P w K mg base G 3 "_law_pick" 2 F__law_pick := by
  obtain ⟨f, fd, F, hm, hb⟩ := h.ex
  exact ⟨f, fd, ["row", "kinds"], fn_ok (k := 2) F sc__law_pick (by decide) (fun cdv A outer s H E hr => have A : Amb G _ _ := amb_fn (k := 1) hK hw gok hr
    ds_one (ds_ret (de_sub' A (de_var 1) (de_call A d__law_taken hr (by decide) (da_cons (de_var 0) (da_cons (de_len A T.b_len (da_cons (de_var 1) (da_nil))) (da_nil))))))), hm, F.kp, hb⟩
def S_is_instruction_among : FS := sSeq (sIf (tOrF (tNotF (tTru (xIsi (xVar 0) ["tuple"]))) (tBl (x2 (fEqF false) (xB cLen (aCons (xVar 0) (aNil))) (xC (.int 0)))))
  (sRet (xC (.bl false)))
  (sNil))
  (sSeq (sSet 2 (x2 fIx (xVar 0) (xC (.int 0))))
  (sSeq (sIf (tOrF (tNotF (tTru (xIsi (xVar 2) ["str"]))) (tBl (x2 (fInF true) (xVar 2) (xC k_GREATEST))))
  (sRet (xC (.bl false)))
  (sNil))
  (sSeq (sSet 3 (x2 fIx (xC k_GREATEST) (xVar 2)))
  (sSeq (sIf (tBl (x2 (fEqF true) (xB cLen (aCons (xVar 0) (aNil))) (x2 fAddF (xC (.int 1)) (xB cLen (aCons (xVar 3) (aNil))))))
  (sRet (xC (.bl false)))
  (sNil))
  (sSeq (sIf (tNotF (tTru (xB cAll (aCons (xLcF [4, 5] (iZp (aCons (xSlF (xVar 0) (oSome (xC (.int 1))) (oNone)) (aCons (xVar 3) (aNil)))) (gTp 2 (gsC (gNm 4) (gsC (gNm 5) (gsN)))) (tYesF) (xCall F_is_from_to 3 (aCons (xVar 4) (aCons (xC (.int 0)) (aCons (xVar 5) (aNil)))))) (aNil)))))
  (sRet (xC (.bl false)))
  (sNil))
  (sRet (xOr (x2 (fEqF true) (xVar 2) (xC (.str "if"))) (x2 (fLe) (x2 fIx (xVar 0) (xC (.int 2))) (xVar 1)))))))))
def F_is_instruction_among : FF := dFun 6 2 S_is_instruction_among
theorem sc_is_instruction_among : FnScope ["value", "many", "kind", "greatest", "number", "top"] ["value", "many"] (defScope s_is_instruction_among) := ⟨rfl, rfl, rfl, by decide +kernel, rfl, by decide +kernel, by decide +kernel⟩
theorem ok_is_instruction_among {P : Program} {w : World} {K : PySem.W.Frag} {mg : Str → Option Value} {base : Heap} {G : Gx} (hK : K = G.K) (hw : w = G.w) (gok : G.Ok) (T : Tx P K mg G) (d_is_from_to : DefD P w K mg base G 3 "is_from_to" 3 F_is_from_to) (h : FunAt K mg "is_instruction_among" s_is_instruction_among ["value", "many"]) : DefD P w K mg base G 4 "is_instruction_among" 2 F_is_instruction_among := by
  obtain ⟨f, fd, F, hm, hb⟩ := h.ex
  exact ⟨f, fd, ["value", "many"], fn_ok (k := 3) F sc_is_instruction_among (by decide) (fun cdv A outer s H E hr => have A : Amb G _ _ := amb_fn (k := 2) hK hw gok hr
    ds_cons (ds_if (dt_w (dw_or (dt_not (dt_truth A (de_isi (u := "tuple") A T.b_isinstance (de_var 0) T.b_tuple (by first | exact PyProof.Rows.boot_tuple | decide +kernel)))) (dw_or1 (dt_c (c_eqF A) (de_len A T.b_len (da_cons (de_var 0) (da_nil))) (de_int)))))
    (ds_one (ds_ret (de_bl)))
    (ds_nil))
    (ds_cons (ds_set (i := 2) (de_sub' A (de_var 0) (de_int)) sc_is_instruction_among.nd)
    (ds_cons (ds_if (dt_w (dw_or (dt_not (dt_truth A (de_isi (u := "str") A T.b_isinstance (de_var 2) T.b_str (by first | exact PyProof.Rows.boot_str | decide +kernel)))) (dw_or1 (dt_c (c_ninF A) (de_var 2) (de_gl T.c_GREATEST)))))
    (ds_one (ds_ret (de_bl)))
    (ds_nil))
    (ds_cons (ds_set (i := 3) (de_sub' A (de_gl T.c_GREATEST) (de_var 2)) sc_is_instruction_among.nd)
    (ds_cons (ds_if (dt_c (c_neF A) (de_len A T.b_len (da_cons (de_var 0) (da_nil))) (de_addF A (de_int) (de_len A T.b_len (da_cons (de_var 3) (da_nil)))))
    (ds_one (ds_ret (de_bl)))
    (ds_nil))
    (ds_cons (ds_if (dt_not (dt_truth A (de_all A rfl T.b_all (da_cons (de_lcF (own := [("number", 4), ("top", 5)]) rfl sc_is_instruction_among.nd A (di_zip A T.b_zip (da_cons (de_sliceF A (de_var 0) (do_some (de_int)) (do_none)) (da_cons (de_var 3) (da_nil)))) (blkOk_by (N := ["value", "many", "kind", "greatest", "number", "top"]) (sc := defScope s_is_instruction_among) (by decide +kernel)) (fun _ _ _ _ _ => dg_tup rfl A.blk (dgs_cons (dg_name 4 sc_is_instruction_among.nd) (dgs_cons (dg_name 5 sc_is_instruction_among.nd) (dgs_nil)))) (fun _ _ _ _ _ => dts_nil) (fun _ _ _ _ _ => de_call A.blk d_is_from_to hr (by decide) (da_cons (de_var 4) (da_cons (de_int) (da_cons (de_var 5) (da_nil)))))) (da_nil)))))
    (ds_one (ds_ret (de_bl)))
    (ds_nil))
    (ds_one (ds_ret (de_or A (de_c (c_neF A) (de_var 2) (de_str)) (de_one (de_c (c_le A) (de_sub' A (de_var 0) (de_int)) (de_var 1)))))))))))), hm, F.kp, hb⟩
def S__law_instruction : FS := sSeq (sSet 2 (xCall F__law_pick 2 (aCons (xVar 0) (aCons (xLstF (aCons (xC (.str "set")) (aCons (xC (.str "sum")) (aCons (xC (.str "sum")) (aCons (xC (.str "get")) (aCons (xC (.str "get")) (aCons (xC (.str "put")) (aCons (xC (.str "put")) (aCons (xC (.str "if")) (aCons (xC (.str "show")) (aNil))))))))))) (aNil)))))
  (sSeq (sPar3 3 4 5 (aCons (xCall F__law_taken 2 (aCons (xVar 0) (aCons (xC (.int 3)) (aNil)))) (aCons (xCall F__law_taken 2 (aCons (xVar 0) (aCons (xC (.int 3)) (aNil)))) (aCons (xCall F__law_taken 2 (aCons (xVar 0) (aCons (xC (.int 3)) (aNil)))) (aNil)))))
  (sSeq (sIf (tBl (x2 (fEqF false) (xVar 2) (xC (.str "set"))))
  (sRet (xTup (aCons (xC (.str "set")) (aCons (xVar 3) (aCons (xCall F__law_pick 2 (aCons (xVar 0) (aCons (xLstF (aCons (xC (.int 0)) (aCons (xC (.int 1)) (aCons (xC (.int 2)) (aCons (xC (.int 255)) (aCons (xCall F__law_taken 2 (aCons (xVar 0) (aCons (xC (.int 256)) (aNil)))) (aNil))))))) (aNil)))) (aNil))))))
  (sNil))
  (sSeq (sIf (tBl (x2 (fEqF false) (xVar 2) (xC (.str "sum"))))
  (sRet (xTup (aCons (xC (.str "sum")) (aCons (xVar 3) (aCons (xVar 4) (aCons (xVar 5) (aCons (xCall F__law_pick 2 (aCons (xVar 0) (aCons (xLstF (aCons (xC (.int 0)) (aCons (xC (.int 0)) (aCons (xC (.int 1)) (aCons (xC (.int 255)) (aNil)))))) (aNil)))) (aNil))))))))
  (sNil))
  (sSeq (sIf (tBl (x2 (fInF false) (xVar 2) (xLstF (aCons (xC (.str "get")) (aCons (xC (.str "put")) (aNil))))))
  (sRet (xTup (aCons (xVar 2) (aCons (xVar 3) (aCons (xVar 4) (aCons (xCall F__law_taken 2 (aCons (xVar 0) (aCons (xC (.int 3)) (aNil)))) (aNil)))))))
  (sNil))
  (sRet (xIf (tBl (x2 (fEqF false) (xVar 2) (xC (.str "if")))) (xTup (aCons (xC (.str "if")) (aCons (xVar 4) (aCons (xCall F__law_taken 2 (aCons (xVar 0) (aCons (x2 fAddF (xVar 1) (xC (.int 1))) (aNil)))) (aNil))))) (xTup (aCons (xC (.str "show")) (aCons (xVar 4) (aNil))))))))))
def F__law_instruction : FF := dFun 6 2 S__law_instruction
theorem sc__law_instruction : FnScope ["row", "most", "kind", "d", "a", "b"] ["row", "most"] (defScope s__law_instruction) := ⟨rfl, rfl, rfl, by decide +kernel, rfl, by decide +kernel, by decide +kernel⟩
theorem ok__law_instruction {P : Program} {w : World} {K : PySem.W.Frag} {mg : Str → Option Value} {base : Heap} {G : Gx} (hK : K = G.K) (hw : w = G.w) (gok : G.Ok) (T : Tx P K mg G) (d__law_pick : DefD P w K mg base G 3 "_law_pick" 2 F__law_pick) (d__law_taken : DefD P w K mg base G 2 "_law_taken" 2 F__law_taken) (h : FunAt K mg "_law_instruction" s__law_instruction ["row", "most"]) : DefD P w K mg base G 4 "_law_instruction" 2 F__law_instruction := by
  obtain ⟨f, fd, F, hm, hb⟩ := h.ex
  exact ⟨f, fd, ["row", "most"], fn_ok (k := 3) F sc__law_instruction (by decide) (fun cdv A outer s H E hr => have A : Amb G _ _ := amb_fn (k := 2) hK hw gok hr
    ds_cons (ds_set (i := 2) (de_call A d__law_pick hr (by decide) (da_cons (de_var 0) (da_cons (de_lstF A (da_cons (de_str) (da_cons (de_str) (da_cons (de_str) (da_cons (de_str) (da_cons (de_str) (da_cons (de_str) (da_cons (de_str) (da_cons (de_str) (da_cons (de_str) (da_nil))))))))))) (da_nil)))) sc__law_instruction.nd)
    (ds_cons (ds_par3 (i := 3) (j := 4) (l := 5) rfl sc__law_instruction.nd (da_cons (de_call A d__law_taken hr (by decide) (da_cons (de_var 0) (da_cons (de_int) (da_nil)))) (da_cons (de_call A d__law_taken hr (by decide) (da_cons (de_var 0) (da_cons (de_int) (da_nil)))) (da_cons (de_call A d__law_taken hr (by decide) (da_cons (de_var 0) (da_cons (de_int) (da_nil)))) (da_nil)))))
    (ds_cons (ds_if (dt_c (c_eqF A) (de_var 2) (de_str))
    (ds_one (ds_ret (de_tup A (da_cons (de_str) (da_cons (de_var 3) (da_cons (de_call A d__law_pick hr (by decide) (da_cons (de_var 0) (da_cons (de_lstF A (da_cons (de_int) (da_cons (de_int) (da_cons (de_int) (da_cons (de_int) (da_cons (de_call A d__law_taken hr (by decide) (da_cons (de_var 0) (da_cons (de_int) (da_nil)))) (da_nil))))))) (da_nil)))) (da_nil)))))))
    (ds_nil))
    (ds_cons (ds_if (dt_c (c_eqF A) (de_var 2) (de_str))
    (ds_one (ds_ret (de_tup A (da_cons (de_str) (da_cons (de_var 3) (da_cons (de_var 4) (da_cons (de_var 5) (da_cons (de_call A d__law_pick hr (by decide) (da_cons (de_var 0) (da_cons (de_lstF A (da_cons (de_int) (da_cons (de_int) (da_cons (de_int) (da_cons (de_int) (da_nil)))))) (da_nil)))) (da_nil)))))))))
    (ds_nil))
    (ds_cons (ds_if (dt_c (c_inF A) (de_var 2) (de_lstF A (da_cons (de_str) (da_cons (de_str) (da_nil)))))
    (ds_one (ds_ret (de_tup A (da_cons (de_var 2) (da_cons (de_var 3) (da_cons (de_var 4) (da_cons (de_call A d__law_taken hr (by decide) (da_cons (de_var 0) (da_cons (de_int) (da_nil)))) (da_nil))))))))
    (ds_nil))
    (ds_one (ds_ret (de_if (dt_c (c_eqF A) (de_var 2) (de_str)) (de_tup A (da_cons (de_str) (da_cons (de_var 4) (da_cons (de_call A d__law_taken hr (by decide) (da_cons (de_var 0) (da_cons (de_addF A (de_var 1) (de_int)) (da_nil)))) (da_nil))))) (de_tup A (da_cons (de_str) (da_cons (de_var 4) (da_nil)))))))))))), hm, F.kp, hb⟩
def S_check_program : FS := sSeq (sIf (tOrF (tNotF (tTru (xIsi (xVar 0) ["tuple"]))) (tBl (x2 (fGt) (xB cLen (aCons (xVar 0) (aNil))) (xC k_MOST_INSTRUCTIONS))))
  (sRaiseI 1 "index" (xC .non))
  (sNil))
  (sFor (iEn (aCons (xVar 0) (aNil))) (gTp 2 (gsC (gNm 1) (gsC (gNm 2) (gsN))))
  (sIf (tNotF (tTru (xCall F_is_instruction_among 2 (aCons (xVar 2) (aCons (xB cLen (aCons (xVar 0) (aNil))) (aNil))))))
  (sRaiseI 1 "index" (xVar 1))
  (sNil)))
def F_check_program : FF := dFun 3 1 S_check_program
theorem sc_check_program : FnScope ["value", "index", "item"] ["value"] (defScope s_check_program) := ⟨rfl, rfl, rfl, by decide +kernel, rfl, by decide +kernel, by decide +kernel⟩
theorem ok_check_program {P : Program} {w : World} {K : PySem.W.Frag} {mg : Str → Option Value} {base : Heap} {G : Gx} (hK : K = G.K) (hw : w = G.w) (gok : G.Ok) (T : Tx P K mg G) (d_is_instruction_among : DefD P w K mg base G 4 "is_instruction_among" 2 F_is_instruction_among) (h : FunAt K mg "check_program" s_check_program ["value"]) : DefD P w K mg base G 5 "check_program" 1 F_check_program := by
  obtain ⟨f, fd, F, hm, hb⟩ := h.ex
  exact ⟨f, fd, ["value"], fn_ok (k := 4) F sc_check_program (by decide) (fun cdv A outer s H E hr => have A : Amb G _ _ := amb_fn (k := 3) hK hw gok hr
    ds_cons (ds_if (dt_w (dw_or (dt_not (dt_truth A (de_isi (u := "tuple") A T.b_isinstance (de_var 0) T.b_tuple (by first | exact PyProof.Rows.boot_tuple | decide +kernel)))) (dw_or1 (dt_c (c_gt A) (de_len A T.b_len (da_cons (de_var 0) (da_nil))) (de_gl T.c_MOST_INSTRUCTIONS)))))
    (ds_one (ds_raiseX (c := 1) rfl A T.in_BadProgram (hr.mono (by decide)) (de_non)))
    (ds_nil))
    (ds_one (ds_for (vs := [1, 2]) rfl A (di_enum A T.b_enumerate (da_cons (de_var 0) (da_nil))) (dg_tup rfl A (dgs_cons (dg_name 1 sc_check_program.nd) (dgs_cons (dg_name 2 sc_check_program.nd) (dgs_nil))))
    (ds_one (ds_if (dt_not (dt_truth A (de_call A d_is_instruction_among hr (by decide) (da_cons (de_var 2) (da_cons (de_len A T.b_len (da_cons (de_var 0) (da_nil))) (da_nil))))))
    (ds_one (ds_raiseX (c := 1) rfl A T.in_BadProgram (hr.mono (by decide)) (de_var 1)))
    (ds_nil)))))), hm, F.kp, hb⟩
def S_read_program : FS := sSeq (sExpr (xCall F_check_text 1 (aCons (xVar 0) (aNil))))
  (sSeq (sSet 1 (xCall F_lines_of 1 (aCons (xVar 0) (aNil))))
  (sSeq (sSet 2 (xLst (aNil)))
  (sSeq (sFor (iEnK (xVar 1) (xC (.int 1))) (gTp 2 (gsC (gNm 3) (gsC (gNm 4) (gsN))))
  (sSeq (sSet 5 (xCall F_instruction_told 1 (aCons (xVar 4) (aNil))))
  (sSeq (sIf (tOrF (tBl (x2 (fGt) (xVar 3) (xC k_MOST_INSTRUCTIONS))) (tNotF (tTru (xCall F_is_instruction_among 2 (aCons (xVar 5) (aCons (xB cLen (aCons (xVar 1) (aNil))) (aNil)))))))
  (sRaiseI 3 "line" (xVar 3))
  (sNil))
  (sExpr (xM mApp (xVar 2) (aCons (xVar 5) (aNil)))))))
  (sRet (xB cTuple (aCons (xVar 2) (aNil)))))))
def F_read_program : FF := dFun 6 1 S_read_program
theorem sc_read_program : FnScope ["text", "lines", "program", "number", "line", "instruction"] ["text"] (defScope s_read_program) := ⟨rfl, rfl, rfl, by decide +kernel, rfl, by decide +kernel, by decide +kernel⟩
theorem ok_read_program {P : Program} {w : World} {K : PySem.W.Frag} {mg : Str → Option Value} {base : Heap} {G : Gx} (hK : K = G.K) (hw : w = G.w) (gok : G.Ok) (T : Tx P K mg G) (d_check_text : DefD P w K mg base G 2 "check_text" 1 F_check_text) (d_instruction_told : DefD P w K mg base G 3 "instruction_told" 1 F_instruction_told) (d_is_instruction_among : DefD P w K mg base G 4 "is_instruction_among" 2 F_is_instruction_among) (d_lines_of : DefD P w K mg base G 2 "lines_of" 1 F_lines_of) (h : FunAt K mg "read_program" s_read_program ["text"]) : DefD P w K mg base G 5 "read_program" 1 F_read_program := by
  obtain ⟨f, fd, F, hm, hb⟩ := h.ex
  exact ⟨f, fd, ["text"], fn_ok (k := 4) F sc_read_program (by decide) (fun cdv A outer s H E hr => have A : Amb G _ _ := amb_fn (k := 3) hK hw gok hr
    ds_cons (ds_expr (de_call A d_check_text hr (by decide) (da_cons (de_var 0) (da_nil))))
    (ds_cons (ds_set (i := 1) (de_call A d_lines_of hr (by decide) (da_cons (de_var 0) (da_nil))) sc_read_program.nd)
    (ds_cons (ds_set (i := 2) (de_lst A (da_nil)) sc_read_program.nd)
    (ds_cons (ds_for (vs := [3, 4]) rfl A (di_enumK A T.b_enumerate (de_var 1) (de_int)) (dg_tup rfl A (dgs_cons (dg_name 3 sc_read_program.nd) (dgs_cons (dg_name 4 sc_read_program.nd) (dgs_nil))))
    (ds_cons (ds_set (i := 5) (de_call A d_instruction_told hr (by decide) (da_cons (de_var 4) (da_nil))) sc_read_program.nd)
    (ds_cons (ds_if (dt_w (dw_or (dt_c (c_gt A) (de_var 3) (de_gl T.c_MOST_INSTRUCTIONS)) (dw_or1 (dt_not (dt_truth A (de_call A d_is_instruction_among hr (by decide) (da_cons (de_var 5) (da_cons (de_len A T.b_len (da_cons (de_var 1) (da_nil))) (da_nil)))))))))
    (ds_one (ds_raiseX (c := 3) rfl A T.in_InvalidText (hr.mono (by decide)) (de_var 3)))
    (ds_nil))
    (ds_one (ds_expr (de_append A (de_var 2) (da_cons (de_var 5) (da_nil))))))))
    (ds_one (ds_ret (de_tuple A T.b_tuple (da_cons (de_var 2) (da_nil))))))))), hm, F.kp, hb⟩
def S__law_program : FS := sSeq (sSet 2 (xCall F__law_taken 2 (aCons (xVar 0) (aCons (x2 fAddF (xVar 1) (xC (.int 1))) (aNil)))))
  (sRet (xB cTuple (aCons (xLcF [3] (iR1 (aCons (xVar 2) (aNil))) (gNm 3) (tYesF) (xCall F__law_instruction 2 (aCons (xVar 0) (aCons (xVar 2) (aNil))))) (aNil))))
def F__law_program : FF := dFun 4 2 S__law_program
theorem sc__law_program : FnScope ["row", "most", "many", "turn"] ["row", "most"] (defScope s__law_program) := ⟨rfl, rfl, rfl, by decide +kernel, rfl, by decide +kernel, by decide +kernel⟩
theorem ok__law_program {P : Program} {w : World} {K : PySem.W.Frag} {mg : Str → Option Value} {base : Heap} {G : Gx} (hK : K = G.K) (hw : w = G.w) (gok : G.Ok) (T : Tx P K mg G) (d__law_instruction : DefD P w K mg base G 4 "_law_instruction" 2 F__law_instruction) (d__law_taken : DefD P w K mg base G 2 "_law_taken" 2 F__law_taken) (h : FunAt K mg "_law_program" s__law_program ["row", "most"]) : DefD P w K mg base G 5 "_law_program" 2 F__law_program := by
  obtain ⟨f, fd, F, hm, hb⟩ := h.ex
  exact ⟨f, fd, ["row", "most"], fn_ok (k := 4) F sc__law_program (by decide) (fun cdv A outer s H E hr => have A : Amb G _ _ := amb_fn (k := 3) hK hw gok hr
    ds_cons (ds_set (i := 2) (de_call A d__law_taken hr (by decide) (da_cons (de_var 0) (da_cons (de_addF A (de_var 1) (de_int)) (da_nil)))) sc__law_program.nd)
    (ds_one (ds_ret (de_tuple A T.b_tuple (da_cons (de_lcF (own := [("turn", 3)]) rfl sc__law_program.nd A (di_range1 T.b_range (da_cons (de_var 2) (da_nil))) (blkOk_by (N := ["row", "most", "many", "turn"]) (sc := defScope s__law_program) (by decide +kernel)) (fun _ _ _ _ _ => dg_name 3 sc__law_program.nd) (fun _ _ _ _ _ => dts_nil) (fun _ _ _ _ _ => de_call A.blk d__law_instruction hr (by decide) (da_cons (de_var 0) (da_cons (de_var 2) (da_nil))))) (da_nil)))))), hm, F.kp, hb⟩
def S_write_program : FS := sSeq (sExpr (xCall F_check_program 1 (aCons (xVar 0) (aNil))))
  (sRet (xJoin (xC (.str "\n")) (xLcF [1] (iSrc (xVar 0)) (gNm 1) (tYesF) (xCall F_line_of 1 (aCons (xVar 1) (aNil))))))
def F_write_program : FF := dFun 2 1 S_write_program
theorem sc_write_program : FnScope ["program", "instruction"] ["program"] (defScope s_write_program) := ⟨rfl, rfl, rfl, by decide +kernel, rfl, by decide +kernel, by decide +kernel⟩
theorem ok_write_program {P : Program} {w : World} {K : PySem.W.Frag} {mg : Str → Option Value} {base : Heap} {G : Gx} (hK : K = G.K) (hw : w = G.w) (gok : G.Ok) (T : Tx P K mg G) (d_check_program : DefD P w K mg base G 5 "check_program" 1 F_check_program) (d_line_of : DefD P w K mg base G 2 "line_of" 1 F_line_of) (h : FunAt K mg "write_program" s_write_program ["program"]) : DefD P w K mg base G 6 "write_program" 1 F_write_program := by
  obtain ⟨f, fd, F, hm, hb⟩ := h.ex
  exact ⟨f, fd, ["program"], fn_ok (k := 5) F sc_write_program (by decide) (fun cdv A outer s H E hr => have A : Amb G _ _ := amb_fn (k := 4) hK hw gok hr
    ds_cons (ds_expr (de_call A d_check_program hr (by decide) (da_cons (de_var 0) (da_nil))))
    (ds_one (ds_ret (de_join A (de_str) (de_lcF (own := [("instruction", 1)]) rfl sc_write_program.nd A (di_seq A (de_var 0)) (blkOk_by (N := ["program", "instruction"]) (sc := defScope s_write_program) (by decide +kernel)) (fun _ _ _ _ _ => dg_name 1 sc_write_program.nd) (fun _ _ _ _ _ => dts_nil) (fun _ _ _ _ _ => de_call A.blk d_line_of hr (by decide) (da_cons (de_var 1) (da_nil)))))))), hm, F.kp, hb⟩
def S__law_alike (F : FF) : FS := sSeq (sIf (tTru (xIsi (xVar 1) ["tuple", "list"]))
  (sSeq (sIf (tOrF (tNotF (tTru (xIsi (xVar 0) ["tuple", "list"]))) (tBl (x2 (fEqF true) (xIsi (xVar 0) ["list"]) (xIsi (xVar 1) ["list"]))))
  (sRet (xC (.bl false)))
  (sNil))
  (sSeq (sIf (tBl (x2 (fEqF true) (xB cLen (aCons (xVar 0) (aNil))) (xB cLen (aCons (xVar 1) (aNil)))))
  (sRet (xC (.bl false)))
  (sNil))
  (sRet (x2 (fEqF false) (xLcF [2] (iR1 (aCons (xB cLen (aCons (xVar 1) (aNil))) (aNil))) (gNm 2) (tNotF (tTru (xCall F 2 (aCons (x2 fIx (xVar 0) (xVar 2)) (aCons (x2 fIx (xVar 1) (xVar 2)) (aNil)))))) (xVar 2)) (xLstF (aNil))))))
  (sNil))
  (sSeq (sIf (tOrF (tBl (x2 (fIs false) (xVar 1) (xC .non))) (tTru (xIsi (xVar 1) ["str"])))
  (sRet (xAnd (x2 (fEqF false) (xVar 0) (xVar 1)) (x2 (fEqF false) (xIsi (xVar 0) ["str"]) (xIsi (xVar 1) ["str"]))))
  (sNil))
  (sRet (xAnd (xIsi (xVar 0) ["int"]) (xAnd (x2 (fEqF false) (xIsi (xVar 0) ["bool"]) (xIsi (xVar 1) ["bool"])) (x2 (fEqF false) (xVar 0) (xVar 1))))))
def F__law_alike : Nat → FF
  | 0 => fun _ _ => .stuck
  | fuel + 1 => dFun 3 2 (S__law_alike (F__law_alike fuel))
theorem sc__law_alike : FnScope ["found", "due", "k"] ["found", "due"] (defScope s__law_alike) := ⟨rfl, rfl, rfl, by decide +kernel, rfl, by decide +kernel, by decide +kernel⟩
theorem ok__law_alike {P : Program} {w : World} {K : PySem.W.Frag} {mg : Str → Option Value} {base : Heap} {G : Gx} (hK : K = G.K) (hw : w = G.w) (gok : G.Ok) (T : Tx P K mg G)  (h : FunAt K mg "_law_alike" s__law_alike ["found", "due"]) : ∀ fuel : Nat, DefD P w K mg base G (2 + fuel) "_law_alike" 2 (F__law_alike fuel)
  | 0 => by
    obtain ⟨f, fd, F, hm, hb⟩ := h.ex
    exact ⟨f, fd, ["found", "due"], fn_stuck rfl, hm, F.kp, hb⟩
  | fuel + 1 => by
    have d__law_alike := ok__law_alike (P := P) (w := w) (base := base) hK hw gok T  h fuel
    obtain ⟨f, fd, F, hm, hb⟩ := h.ex
    exact ⟨f, fd, ["found", "due"], fn_ok (k := 2 + fuel) F sc__law_alike (by decide) (fun cdv A outer s H E hr => have A : Amb G _ _ := amb_fn (k := 1 + fuel) hK hw gok (hr.mono (by omega))
    ds_cons (ds_if (dt_truth A (de_isi2 (u := "tuple") (u2 := "list") A T.b_isinstance (de_var 1) T.b_tuple (by exact PyProof.Rows.boot_tuple) T.b_list (by exact PyProof.Rows.boot_list)))
    (ds_cons (ds_if (dt_w (dw_or (dt_not (dt_truth A (de_isi2 (u := "tuple") (u2 := "list") A T.b_isinstance (de_var 0) T.b_tuple (by exact PyProof.Rows.boot_tuple) T.b_list (by exact PyProof.Rows.boot_list)))) (dw_or1 (dt_c (c_neF A) (de_isi (u := "list") A T.b_isinstance (de_var 0) T.b_list (by first | exact PyProof.Rows.boot_list | decide +kernel)) (de_isi (u := "list") A T.b_isinstance (de_var 1) T.b_list (by first | exact PyProof.Rows.boot_list | decide +kernel))))))
    (ds_one (ds_ret (de_bl)))
    (ds_nil))
    (ds_cons (ds_if (dt_c (c_neF A) (de_len A T.b_len (da_cons (de_var 0) (da_nil))) (de_len A T.b_len (da_cons (de_var 1) (da_nil))))
    (ds_one (ds_ret (de_bl)))
    (ds_nil))
    (ds_one (ds_ret (de_c (c_eqF A) (de_lcF (own := [("k", 2)]) rfl sc__law_alike.nd A (di_range1 T.b_range (da_cons (de_len A T.b_len (da_cons (de_var 1) (da_nil))) (da_nil))) (blkOk_by (N := ["found", "due", "k"]) (sc := defScope s__law_alike) (by decide +kernel)) (fun _ _ _ _ _ => dg_name 2 sc__law_alike.nd) (fun _ _ _ _ _ => dts_one (dt_not (dt_truth A.blk (de_call A.blk d__law_alike hr (Nat.le_refl _) (da_cons (de_sub' A.blk (de_var 0) (de_var 2)) (da_cons (de_sub' A.blk (de_var 1) (de_var 2)) (da_nil))))))) (fun _ _ _ _ _ => de_var 2)) (de_lstF A (da_nil)))))))
    (ds_nil))
    (ds_cons (ds_if (dt_w (dw_or (dt_c (c_is A) (de_var 1) (de_non)) (dw_or1 (dt_truth A (de_isi (u := "str") A T.b_isinstance (de_var 1) T.b_str (by first | exact PyProof.Rows.boot_str | decide +kernel))))))
    (ds_one (ds_ret (de_and A (de_c (c_eqF A) (de_var 0) (de_var 1)) (de_one (de_c (c_eqF A) (de_isi (u := "str") A T.b_isinstance (de_var 0) T.b_str (by first | exact PyProof.Rows.boot_str | decide +kernel)) (de_isi (u := "str") A T.b_isinstance (de_var 1) T.b_str (by first | exact PyProof.Rows.boot_str | decide +kernel)))))))
    (ds_nil))
    (ds_one (ds_ret (de_and A (de_isi (u := "int") A T.b_isinstance (de_var 0) T.b_int (by first | exact PyProof.Rows.boot_int | decide +kernel)) (de_and A (de_c (c_eqF A) (de_isi (u := "bool") A T.b_isinstance (de_var 0) T.b_bool (by first | exact PyProof.Rows.boot_bool | decide +kernel)) (de_isi (u := "bool") A T.b_isinstance (de_var 1) T.b_bool (by first | exact PyProof.Rows.boot_bool | decide +kernel))) (de_one (de_c (c_eqF A) (de_var 0) (de_var 1))))))))), hm, F.kp, hb⟩
noncomputable def bodies_law : Nat → FE
  | 0 => xCall (gcF F_read_program) 1 (aCons (xJoin (xC (.str "\n")) (xVar 8)) (aNil))
  | 1 => xCall (gcF F_read_program) 1 (aCons (xCall F__law_pick 2 (aCons (xVar 1) (aCons (xLstF (aCons (xC .non) (aCons (xC (.int 5)) (aCons (xVar 3) (aCons (xTup (aCons (xVar 4) (aNil))) (aCons (xC (.bl true)) (aNil))))))) (aNil)))) (aNil))
  | 2 => xCall (gcF F_read_program) 1 (aCons (xJoin (xC (.str "\n")) (xVar 7)) (aNil))
  | 3 => xCall (gcF F_read_program) 1 (aCons (xJoin (xC (.str "\n")) (x2 fMulFF (xLstF (aCons (xC (.str "show 0")) (aNil))) (xC (.int 41)))) (aNil))
  | 4 => xCall F_write_program 1 (aCons (xVar 7) (aNil))
  | _ => fun _ _ => .stuck
noncomputable def S_law : FS := sSeq (sSet 1 (xLst (aCons (xVar 0) (aCons (xC (.int 0)) (aCons (xC (.int 14407)) (aCons (xC (.int 0)) (aNil)))))))
  (sSeq (sSet 2 (xCall F__law_program 2 (aCons (xVar 1) (aCons (xC (.int 20)) (aNil)))))
  (sSeq (sSet 3 (xLcF [10] (iSrc (xVar 2)) (gNm 10) (tYesF) (xJoin (xC (.str " ")) (xLcF [11] (iSrc (xVar 10)) (gNm 11) (tYesF) (xB cStr (aCons (xVar 11) (aNil)))))))
  (sSeq (sSet 4 (xJoin (xC (.str "\n")) (xVar 3)))
  (sSeq (sIf (tOrF (tNotF (tTru (xCall (F__law_alike rfuel) 2 (aCons (xCall F_write_program 1 (aCons (xVar 2) (aNil))) (aCons (xVar 4) (aNil)))))) (tNotF (tTru (xCall (F__law_alike rfuel) 2 (aCons (xCall (gcF F_read_program) 1 (aCons (xVar 4) (aNil))) (aCons (xVar 2) (aNil)))))))
  (sRet (xC (.bl false)))
  (sNil))
  (sSeq (sSet 5 (xCall F__law_taken 2 (aCons (xVar 1) (aCons (x2 fAddF (xB cLen (aCons (xVar 3) (aNil))) (xC (.int 1))) (aNil)))))
  (sSeq (sSet 6 (xLstF (aCons (xC (.str "")) (aCons (xC (.str "set 0")) (aCons (xC (.str "set 0 256")) (aCons (xC (.str "set 8 0")) (aCons (xC (.str "set 00 1")) (aCons (xC (.str "set 0 01")) (aCons (xC (.str "Set 0 1")) (aCons (xC (.str "set 0 1 ")) (aCons (xC (.str " set 0 1")) (aCons (xC (.str "set  0 1")) (aCons (xC (.str "sum 0 1 2")) (aCons (xC (.str "hop 1")) (aNil)))))))))))))))
  (sSeq (sSet 6 (x2 fAddF (xVar 6) (xLstF (aCons (xC (.str "get 0 1 8")) (aCons (xC (.str "put 0 1")) (aCons (xC (.str "if 0 41")) (aCons (xC (.str "if 0 -1")) (aCons (xC (.str "show")) (aCons (xC (.str "show 0 0")) (aCons (xC (.str "show a")) (aCons (xC (.str "set 0 1 2")) (aCons (xC (.str "sum 0 0 0 0 0")) (aCons (xC (.str "show +1")) (aCons (xC (.str "if 0")) (aNil)))))))))))))))
  (sSeq (sSet 7 (x2 fAddF (x2 fAddF (xSlF (xVar 3) (oNone) (oSome (xVar 5))) (xLstF (aCons (x2 fIx (xVar 6) (xCall F__law_taken 2 (aCons (xVar 1) (aCons (xB cLen (aCons (xVar 6) (aNil))) (aNil))))) (aNil)))) (xSlF (xVar 3) (oSome (xVar 5)) (oNone))))
  (sSeq (sIf (tAndF (tBl (x2 (fEqF true) (xCallA F__law_wrong bodies_law (aCons (xC (.clo 2)) (aNil))) (x2 fAddF (xVar 5) (xC (.int 1))))) (tBl (x2 (fEqF true) (xVar 7) (xLstF (aCons (xC (.str "")) (aNil))))))
  (sRet (xC (.bl false)))
  (sNil))
  (sSeq (sSet 8 (x2 fAddF (xVar 3) (xLstF (aCons (x2 fAddF (xC (.str "if 0 ")) (xB cStr (aCons (x2 fAddF (xB cLen (aCons (xVar 3) (aNil))) (xC (.int 2))) (aNil)))) (aNil)))))
  (sSeq (sIf (tBl (x2 (fEqF true) (xCallA F__law_wrong bodies_law (aCons (xC (.clo 0)) (aNil))) (xB cLen (aCons (xVar 8) (aNil)))))
  (sRet (xC (.bl false)))
  (sNil))
  (sSeq (sIf (tBl (x2 (fEqF true) (x2 fIx (xCall (gcF F_read_program) 1 (aCons (xJoin (xC (.str "\n")) (x2 fAddF (xVar 3) (xLstF (aCons (x2 fAddF (xC (.str "if 0 ")) (xB cStr (aCons (x2 fAddF (xB cLen (aCons (xVar 3) (aNil))) (xC (.int 1))) (aNil)))) (aNil))))) (aNil))) (xNeg (xC (.int 1)))) (xTup (aCons (xC (.str "if")) (aCons (xC (.int 0)) (aCons (x2 fAddF (xB cLen (aCons (xVar 3) (aNil))) (xC (.int 1))) (aNil)))))))
  (sRet (xC (.bl false)))
  (sNil))
  (sSeq (sIf (tOrF (tBl (x2 (fEqF true) (xCallA F__law_wrong bodies_law (aCons (xC (.clo 3)) (aNil))) (xC (.int 41)))) (tBl (x2 (fEqF true) (xB cLen (aCons (xCall (gcF F_read_program) 1 (aCons (xJoin (xC (.str "\n")) (x2 fMulFF (xLstF (aCons (xC (.str "show 0")) (aNil))) (xC (.int 40)))) (aNil))) (aNil))) (xC (.int 40)))))
  (sRet (xC (.bl false)))
  (sNil))
  (sSeq (sIf (tBl (x2 (fEqF true) (xCallA F__law_wrong bodies_law (aCons (xC (.clo 1)) (aNil))) (xC (.str "text"))))
  (sRet (xC (.bl false)))
  (sNil))
  (sSeq (sSet 6 (xLstF (aCons (xTup (aCons (xC .non) (aCons (xC .non) (aNil)))) (aCons (xTup (aCons (xLstF (aNil)) (aCons (xC .non) (aNil)))) (aCons (xTup (aCons (x2 fMulFF (xTup (aCons (xTup (aCons (xC (.str "show")) (aCons (xC (.int 0)) (aNil)))) (aNil))) (xC (.int 41))) (aCons (xC .non) (aNil)))) (aCons (xTup (aCons (xTup (aCons (xTup (aCons (xC (.str "if")) (aCons (xC (.int 0)) (aCons (xC (.int 2)) (aNil))))) (aNil))) (aCons (xC (.int 0)) (aNil)))) (aCons (xTup (aCons (xTup (aCons (xTup (aCons (xC (.str "show")) (aCons (xC (.int 0)) (aNil)))) (aCons (xC (.int 7)) (aNil)))) (aCons (xC (.int 1)) (aNil)))) (aNil))))))))
  (sSeq (sAsg (gTp 2 (gsC (gNm 7) (gsC (gNm 9) (gsN)))) (x2 fIx (xVar 6) (xCall F__law_taken 2 (aCons (xVar 1) (aCons (xC (.int 5)) (aNil))))))
  (sRet (xAnd (x2 (fEqF false) (xCall (gcF F_read_program) 1 (aCons (xC (.str "")) (aNil))) (xTup (aNil))) (xAnd (x2 (fEqF false) (xCall F_write_program 1 (aCons (xTup (aNil)) (aNil))) (xC (.str ""))) (x2 (fEqF false) (xCallA F__law_wrong bodies_law (aCons (xC (.clo 4)) (aNil))) (xTup (aCons (xC (.str "program")) (aCons (xVar 9) (aNil))))))))))))))))))))))))
noncomputable def F_law : FF := dFun 12 1 S_law
def spec_law : List LSpec := [wLam (wE (wArgs (wCmpL (wTest (wS (defBody s_law) 11)))) 0), wLam (wE (wArgs (wCmpL (wTest (wS (defBody s_law) 14)))) 0), wLam (wE (wArgs (wCmpL (wE (wBool (wTest (wS (defBody s_law) 9))) 0))) 0), wLam (wE (wArgs (wCmpL (wE (wBool (wTest (wS (defBody s_law) 13))) 0))) 0), wLam (wE (wArgs (wCmpL (wE (wBool (wRet (wS (defBody s_law) 17))) 2))) 0)]
def qL : Str := (PyProof.Rows.envOfC "law" (defScope s_law) 0 0 .none).qual ++ "<lambda>"
theorem sc_law : FnScope ["script", "row", "program", "lines", "text", "at", "odd", "bad", "far", "index", "one", "item"] ["script"] (defScope s_law) := ⟨rfl, rfl, rfl, by decide +kernel, rfl, by decide +kernel, by decide +kernel⟩
theorem ok_law {P : Program} {w : World} {K : PySem.W.Frag} {mg : Str → Option Value} {base : Heap} {cls : Nat → Addr} {Pt c : Addr} (TB0 : TabB base mg c Pt) (T : ∀ cells, Tx P K mg (lamG K w cls qL Pt cells spec_law))
  (h_is_integer : FunAt K mg "is_integer" s_is_integer ["value"])
  (h_check_text : FunAt K mg "check_text" s_check_text ["value"])
  (h_line_of : FunAt K mg "line_of" s_line_of ["items"])
  (h_number_told : FunAt K mg "number_told" s_number_told ["word"])
  (h_lines_of : FunAt K mg "lines_of" s_lines_of ["text"])
  (h__law_taken : FunAt K mg "_law_taken" s__law_taken ["row", "many"])
  (h__law_wrong : FunAt K mg "_law_wrong" s__law_wrong ["work"])
  (h_is_from_to : FunAt K mg "is_from_to" s_is_from_to ["value", "least", "most"])
  (h_instruction_told : FunAt K mg "instruction_told" s_instruction_told ["line"])
  (h__law_pick : FunAt K mg "_law_pick" s__law_pick ["row", "kinds"])
  (h_is_instruction_among : FunAt K mg "is_instruction_among" s_is_instruction_among ["value", "many"])
  (h__law_instruction : FunAt K mg "_law_instruction" s__law_instruction ["row", "most"])
  (h_check_program : FunAt K mg "check_program" s_check_program ["value"])
  (h_read_program : FunAt K mg "read_program" s_read_program ["text"])
  (h__law_program : FunAt K mg "_law_program" s__law_program ["row", "most"])
  (h_write_program : FunAt K mg "write_program" s_write_program ["program"])
  (h__law_alike : FunAt K mg "_law_alike" s__law_alike ["found", "due"])
  {f : Addr} {fd : FuncData} (F : Fun K "law" "law" s_law f fd) (hcode : fd.code = .ref c) (hl : ∀ ns : List Int, ns.length ≤ 63 → ∃ S, F_law [.slist ns] [] = .ok (.bl true) S) : FnOk P w K mg base (L2.CX P w) 9 f fd ["script"] (spLawT 63 K Pt) := by
  refine law_fnL (k := 8) (q := qL) (spec := spec_law) (cls := cls) (N := ["script", "row", "program", "lines", "text", "at", "odd", "bad", "far", "index", "one", "item"]) F sc_law hcode (by decide) hl fun Ar outer s H E hr => ?_
  have gok := lamG_ok K w cls qL Pt (cxOf (L2.CX P w) P w K mg base ["script", "row", "program", "lines", "text", "at", "odd", "bad", "far", "index", "one", "item"] "law" (defScope s_law) f (.ref c) Ar outer s H E).env.cells spec_law
  have T := T (cxOf (L2.CX P w) P w K mg base ["script", "row", "program", "lines", "text", "at", "odd", "bad", "far", "index", "one", "item"] "law" (defScope s_law) f (.ref c) Ar outer s H E).env.cells
  have d_is_integer := ok_is_integer (P := P) (w := w) (base := base) (G := (lamG K w cls qL Pt (cxOf (L2.CX P w) P w K mg base ["script", "row", "program", "lines", "text", "at", "odd", "bad", "far", "index", "one", "item"] "law" (defScope s_law) f (.ref c) Ar outer s H E).env.cells spec_law)) rfl rfl gok T  h_is_integer
  have d_check_text := ok_check_text (P := P) (w := w) (base := base) (G := (lamG K w cls qL Pt (cxOf (L2.CX P w) P w K mg base ["script", "row", "program", "lines", "text", "at", "odd", "bad", "far", "index", "one", "item"] "law" (defScope s_law) f (.ref c) Ar outer s H E).env.cells spec_law)) rfl rfl gok T  h_check_text
  have d_line_of := ok_line_of (P := P) (w := w) (base := base) (G := (lamG K w cls qL Pt (cxOf (L2.CX P w) P w K mg base ["script", "row", "program", "lines", "text", "at", "odd", "bad", "far", "index", "one", "item"] "law" (defScope s_law) f (.ref c) Ar outer s H E).env.cells spec_law)) rfl rfl gok T  h_line_of
  have d_number_told := ok_number_told (P := P) (w := w) (base := base) (G := (lamG K w cls qL Pt (cxOf (L2.CX P w) P w K mg base ["script", "row", "program", "lines", "text", "at", "odd", "bad", "far", "index", "one", "item"] "law" (defScope s_law) f (.ref c) Ar outer s H E).env.cells spec_law)) rfl rfl gok T  h_number_told
  have d_lines_of := ok_lines_of (P := P) (w := w) (base := base) (G := (lamG K w cls qL Pt (cxOf (L2.CX P w) P w K mg base ["script", "row", "program", "lines", "text", "at", "odd", "bad", "far", "index", "one", "item"] "law" (defScope s_law) f (.ref c) Ar outer s H E).env.cells spec_law)) rfl rfl gok T  h_lines_of
  have d__law_taken := ok__law_taken (P := P) (w := w) (base := base) (G := (lamG K w cls qL Pt (cxOf (L2.CX P w) P w K mg base ["script", "row", "program", "lines", "text", "at", "odd", "bad", "far", "index", "one", "item"] "law" (defScope s_law) f (.ref c) Ar outer s H E).env.cells spec_law)) rfl rfl gok T  h__law_taken
  have d__law_wrong := ok__law_wrong (P := P) (w := w) (base := base) (G := (lamG K w cls qL Pt (cxOf (L2.CX P w) P w K mg base ["script", "row", "program", "lines", "text", "at", "odd", "bad", "far", "index", "one", "item"] "law" (defScope s_law) f (.ref c) Ar outer s H E).env.cells spec_law)) (k := 6) rfl rfl gok T  h__law_wrong
  have d_is_from_to := ok_is_from_to (P := P) (w := w) (base := base) (G := (lamG K w cls qL Pt (cxOf (L2.CX P w) P w K mg base ["script", "row", "program", "lines", "text", "at", "odd", "bad", "far", "index", "one", "item"] "law" (defScope s_law) f (.ref c) Ar outer s H E).env.cells spec_law)) rfl rfl gok T d_is_integer h_is_from_to
  have d_instruction_told := ok_instruction_told (P := P) (w := w) (base := base) (G := (lamG K w cls qL Pt (cxOf (L2.CX P w) P w K mg base ["script", "row", "program", "lines", "text", "at", "odd", "bad", "far", "index", "one", "item"] "law" (defScope s_law) f (.ref c) Ar outer s H E).env.cells spec_law)) rfl rfl gok T d_number_told h_instruction_told
  have d__law_pick := ok__law_pick (P := P) (w := w) (base := base) (G := (lamG K w cls qL Pt (cxOf (L2.CX P w) P w K mg base ["script", "row", "program", "lines", "text", "at", "odd", "bad", "far", "index", "one", "item"] "law" (defScope s_law) f (.ref c) Ar outer s H E).env.cells spec_law)) rfl rfl gok T d__law_taken h__law_pick
  have d_is_instruction_among := ok_is_instruction_among (P := P) (w := w) (base := base) (G := (lamG K w cls qL Pt (cxOf (L2.CX P w) P w K mg base ["script", "row", "program", "lines", "text", "at", "odd", "bad", "far", "index", "one", "item"] "law" (defScope s_law) f (.ref c) Ar outer s H E).env.cells spec_law)) rfl rfl gok T d_is_from_to h_is_instruction_among
  have d__law_instruction := ok__law_instruction (P := P) (w := w) (base := base) (G := (lamG K w cls qL Pt (cxOf (L2.CX P w) P w K mg base ["script", "row", "program", "lines", "text", "at", "odd", "bad", "far", "index", "one", "item"] "law" (defScope s_law) f (.ref c) Ar outer s H E).env.cells spec_law)) rfl rfl gok T d__law_pick d__law_taken h__law_instruction
  have d_check_program := ok_check_program (P := P) (w := w) (base := base) (G := (lamG K w cls qL Pt (cxOf (L2.CX P w) P w K mg base ["script", "row", "program", "lines", "text", "at", "odd", "bad", "far", "index", "one", "item"] "law" (defScope s_law) f (.ref c) Ar outer s H E).env.cells spec_law)) rfl rfl gok T d_is_instruction_among h_check_program
  have d_read_program := ok_read_program (P := P) (w := w) (base := base) (G := (lamG K w cls qL Pt (cxOf (L2.CX P w) P w K mg base ["script", "row", "program", "lines", "text", "at", "odd", "bad", "far", "index", "one", "item"] "law" (defScope s_law) f (.ref c) Ar outer s H E).env.cells spec_law)) rfl rfl gok T d_check_text d_instruction_told d_is_instruction_among d_lines_of h_read_program
  have d__law_program := ok__law_program (P := P) (w := w) (base := base) (G := (lamG K w cls qL Pt (cxOf (L2.CX P w) P w K mg base ["script", "row", "program", "lines", "text", "at", "odd", "bad", "far", "index", "one", "item"] "law" (defScope s_law) f (.ref c) Ar outer s H E).env.cells spec_law)) rfl rfl gok T d__law_instruction d__law_taken h__law_program
  have d_write_program := ok_write_program (P := P) (w := w) (base := base) (G := (lamG K w cls qL Pt (cxOf (L2.CX P w) P w K mg base ["script", "row", "program", "lines", "text", "at", "odd", "bad", "far", "index", "one", "item"] "law" (defScope s_law) f (.ref c) Ar outer s H E).env.cells spec_law)) rfl rfl gok T d_check_program d_line_of h_write_program
  have d__law_alike := ok__law_alike (P := P) (w := w) (base := base) (G := (lamG K w cls qL Pt (cxOf (L2.CX P w) P w K mg base ["script", "row", "program", "lines", "text", "at", "odd", "bad", "far", "index", "one", "item"] "law" (defScope s_law) f (.ref c) Ar outer s H E).env.cells spec_law)) rfl rfl gok T  h__law_alike rfuel
  have lw0 : LamW (wLam (wE (wArgs (wCmpL (wTest (wS (defBody s_law) 11)))) 0)) := ⟨rfl, .inl rfl⟩
  have lp0 : LamP ["script", "row", "program", "lines", "text", "at", "odd", "bad", "far", "index", "one", "item"] (defScope s_law) (wLam (wE (wArgs (wCmpL (wTest (wS (defBody s_law) 11)))) 0)).scope := lamP_by (by decide +kernel)
  have lw1 : LamW (wLam (wE (wArgs (wCmpL (wTest (wS (defBody s_law) 14)))) 0)) := ⟨rfl, .inl rfl⟩
  have lp1 : LamP ["script", "row", "program", "lines", "text", "at", "odd", "bad", "far", "index", "one", "item"] (defScope s_law) (wLam (wE (wArgs (wCmpL (wTest (wS (defBody s_law) 14)))) 0)).scope := lamP_by (by decide +kernel)
  have lw2 : LamW (wLam (wE (wArgs (wCmpL (wE (wBool (wTest (wS (defBody s_law) 9))) 0))) 0)) := ⟨rfl, .inl rfl⟩
  have lp2 : LamP ["script", "row", "program", "lines", "text", "at", "odd", "bad", "far", "index", "one", "item"] (defScope s_law) (wLam (wE (wArgs (wCmpL (wE (wBool (wTest (wS (defBody s_law) 9))) 0))) 0)).scope := lamP_by (by decide +kernel)
  have lw3 : LamW (wLam (wE (wArgs (wCmpL (wE (wBool (wTest (wS (defBody s_law) 13))) 0))) 0)) := ⟨rfl, .inl rfl⟩
  have lp3 : LamP ["script", "row", "program", "lines", "text", "at", "odd", "bad", "far", "index", "one", "item"] (defScope s_law) (wLam (wE (wArgs (wCmpL (wE (wBool (wTest (wS (defBody s_law) 13))) 0))) 0)).scope := lamP_by (by decide +kernel)
  have lw4 : LamW (wLam (wE (wArgs (wCmpL (wE (wBool (wRet (wS (defBody s_law) 17))) 2))) 0)) := ⟨rfl, .inl rfl⟩
  have lp4 : LamP ["script", "row", "program", "lines", "text", "at", "odd", "bad", "far", "index", "one", "item"] (defScope s_law) (wLam (wE (wArgs (wCmpL (wE (wBool (wRet (wS (defBody s_law) 17))) 2))) 0)).scope := lamP_by (by decide +kernel)
  have hL : ∀ (n : Nat) (L : LSpec), spec_law[n]? = some L → LamP (cxOf (L2.CX P w) P w K mg base ["script", "row", "program", "lines", "text", "at", "odd", "bad", "far", "index", "one", "item"] "law" (defScope s_law) f (.ref c) Ar outer s H E).N (cxOf (L2.CX P w) P w K mg base ["script", "row", "program", "lines", "text", "at", "odd", "bad", "far", "index", "one", "item"] "law" (defScope s_law) f (.ref c) Ar outer s H E).env.scope L.scope ∧ LamB qL L := by
    intro n L h
    match n, h with
    | 0, h => cases h; exact ⟨lp0, ⟨fun _ _ _ _ _ _ => rfl, fun h => absurd rfl h⟩⟩
    | 1, h => cases h; exact ⟨lp1, ⟨fun _ _ _ _ _ _ => rfl, fun h => absurd rfl h⟩⟩
    | 2, h => cases h; exact ⟨lp2, ⟨fun _ _ _ _ _ _ => rfl, fun h => absurd rfl h⟩⟩
    | 3, h => cases h; exact ⟨lp3, ⟨fun _ _ _ _ _ _ => rfl, fun h => absurd rfl h⟩⟩
    | 4, h => cases h; exact ⟨lp4, ⟨fun _ _ _ _ _ _ => rfl, fun h => absurd rfl h⟩⟩
    | n + 5, h => exact absurd h (by simp [spec_law])
  have hbody : ∀ (n : Nat) (L : LSpec), spec_law[n]? = some L → ∀ (Al : Around) (outl : List Env) (sl : Shared) (Hl : Hp) (El : XK) (fl cl : Addr), Room 6 (Al.deeper (LamX.lamEnv (cxOf (L2.CX P w) P w K mg base ["script", "row", "program", "lines", "text", "at", "odd", "bad", "far", "index", "one", "item"] "law" (defScope s_law) f (.ref c) Ar outer s H E) L.scope sl.heap.objs.size fl cl)) → PE (LamX.lamCx (cxOf (L2.CX P w) P w K mg base ["script", "row", "program", "lines", "text", "at", "odd", "bad", "far", "index", "one", "item"] "law" (defScope s_law) f (.ref c) Ar outer s H E) Al outl sl Hl El L.scope fl cl) L.body (TD (lamG K w cls qL Pt (cxOf (L2.CX P w) P w K mg base ["script", "row", "program", "lines", "text", "at", "odd", "bad", "far", "index", "one", "item"] "law" (defScope s_law) f (.ref c) Ar outer s H E).env.cells spec_law) (fun c d _ H' => El c d H') (bodies_law n)) := by
    intro n L h Al outl sl Hl El fl cl hr
    match n, h with
    | 0, h =>
      cases h
      have A := amb_lam (X := (cxOf (L2.CX P w) P w K mg base ["script", "row", "program", "lines", "text", "at", "odd", "bad", "far", "index", "one", "item"] "law" (defScope s_law) f (.ref c) Ar outer s H E)) (A := Al) (outer := outl) (s := sl) (H := Hl) (E := El) (scope := (wLam (wE (wArgs (wCmpL (wTest (wS (defBody s_law) 11)))) 0)).scope) (f := fl) (c' := cl) (k := 5) (G := (lamG K w cls qL Pt (cxOf (L2.CX P w) P w K mg base ["script", "row", "program", "lines", "text", "at", "odd", "bad", "far", "index", "one", "item"] "law" (defScope s_law) f (.ref c) Ar outer s H E).env.cells spec_law)) rfl rfl gok hr
      exact de_callG A d_read_program hr (by decide) (da_cons (de_join A (de_str) (de_var 8)) (da_nil))
    | 1, h =>
      cases h
      have A := amb_lam (X := (cxOf (L2.CX P w) P w K mg base ["script", "row", "program", "lines", "text", "at", "odd", "bad", "far", "index", "one", "item"] "law" (defScope s_law) f (.ref c) Ar outer s H E)) (A := Al) (outer := outl) (s := sl) (H := Hl) (E := El) (scope := (wLam (wE (wArgs (wCmpL (wTest (wS (defBody s_law) 14)))) 0)).scope) (f := fl) (c' := cl) (k := 5) (G := (lamG K w cls qL Pt (cxOf (L2.CX P w) P w K mg base ["script", "row", "program", "lines", "text", "at", "odd", "bad", "far", "index", "one", "item"] "law" (defScope s_law) f (.ref c) Ar outer s H E).env.cells spec_law)) rfl rfl gok hr
      exact de_callG A d_read_program hr (by decide) (da_cons (de_call A d__law_pick hr (by decide) (da_cons (de_var 1) (da_cons (de_lstF A (da_cons (de_non) (da_cons (de_int) (da_cons (de_var 3) (da_cons (de_tup A (da_cons (de_var 4) (da_nil))) (da_cons (de_bl) (da_nil))))))) (da_nil)))) (da_nil))
    | 2, h =>
      cases h
      have A := amb_lam (X := (cxOf (L2.CX P w) P w K mg base ["script", "row", "program", "lines", "text", "at", "odd", "bad", "far", "index", "one", "item"] "law" (defScope s_law) f (.ref c) Ar outer s H E)) (A := Al) (outer := outl) (s := sl) (H := Hl) (E := El) (scope := (wLam (wE (wArgs (wCmpL (wE (wBool (wTest (wS (defBody s_law) 9))) 0))) 0)).scope) (f := fl) (c' := cl) (k := 5) (G := (lamG K w cls qL Pt (cxOf (L2.CX P w) P w K mg base ["script", "row", "program", "lines", "text", "at", "odd", "bad", "far", "index", "one", "item"] "law" (defScope s_law) f (.ref c) Ar outer s H E).env.cells spec_law)) rfl rfl gok hr
      exact de_callG A d_read_program hr (by decide) (da_cons (de_join A (de_str) (de_var 7)) (da_nil))
    | 3, h =>
      cases h
      have A := amb_lam (X := (cxOf (L2.CX P w) P w K mg base ["script", "row", "program", "lines", "text", "at", "odd", "bad", "far", "index", "one", "item"] "law" (defScope s_law) f (.ref c) Ar outer s H E)) (A := Al) (outer := outl) (s := sl) (H := Hl) (E := El) (scope := (wLam (wE (wArgs (wCmpL (wE (wBool (wTest (wS (defBody s_law) 13))) 0))) 0)).scope) (f := fl) (c' := cl) (k := 5) (G := (lamG K w cls qL Pt (cxOf (L2.CX P w) P w K mg base ["script", "row", "program", "lines", "text", "at", "odd", "bad", "far", "index", "one", "item"] "law" (defScope s_law) f (.ref c) Ar outer s H E).env.cells spec_law)) rfl rfl gok hr
      exact de_callG A d_read_program hr (by decide) (da_cons (de_join A (de_str) (de_mulFF A (de_lstF A (da_cons (de_str) (da_nil))) (de_int))) (da_nil))
    | 4, h =>
      cases h
      have A := amb_lam (X := (cxOf (L2.CX P w) P w K mg base ["script", "row", "program", "lines", "text", "at", "odd", "bad", "far", "index", "one", "item"] "law" (defScope s_law) f (.ref c) Ar outer s H E)) (A := Al) (outer := outl) (s := sl) (H := Hl) (E := El) (scope := (wLam (wE (wArgs (wCmpL (wE (wBool (wRet (wS (defBody s_law) 17))) 2))) 0)).scope) (f := fl) (c' := cl) (k := 5) (G := (lamG K w cls qL Pt (cxOf (L2.CX P w) P w K mg base ["script", "row", "program", "lines", "text", "at", "odd", "bad", "far", "index", "one", "item"] "law" (defScope s_law) f (.ref c) Ar outer s H E).env.cells spec_law)) rfl rfl gok hr
      exact de_call A d_write_program hr (by decide) (da_cons (de_var 7) (da_nil))
    | n + 5, h => exact absurd h (by simp [spec_law])
  have TB := TB0
  have A := amb_fn (G := (lamG K w cls qL Pt (cxOf (L2.CX P w) P w K mg base ["script", "row", "program", "lines", "text", "at", "odd", "bad", "far", "index", "one", "item"] "law" (defScope s_law) f (.ref c) Ar outer s H E).env.cells spec_law)) (P := P) (K := K) (w := w) (mg := mg) (base := base) (N := ["script", "row", "program", "lines", "text", "at", "odd", "bad", "far", "index", "one", "item"]) (qual := "law") (scope := defScope s_law) (f := f) (cdv := .ref c) (A := Ar) (outer := outer) (s := s) (H := H) (E := E) (k := 7) rfl rfl gok hr
  exact ds_cons (ds_set (i := 1) (de_lst A (da_cons (de_var 0) (da_cons (de_int) (da_cons (de_int) (da_cons (de_int) (da_nil)))))) sc_law.nd)
    (ds_cons (ds_set (i := 2) (de_call A d__law_program hr (by decide) (da_cons (de_var 1) (da_cons (de_int) (da_nil)))) sc_law.nd)
    (ds_cons (ds_set (i := 3) (de_lcF (own := [("one", 10)]) rfl sc_law.nd A (di_seq A (de_var 2)) (blkOk_by (N := ["script", "row", "program", "lines", "text", "at", "odd", "bad", "far", "index", "one", "item"]) (sc := defScope s_law) (by decide +kernel)) (fun _ _ _ _ _ => dg_name 10 sc_law.nd) (fun _ _ _ _ _ => dts_nil) (fun _ _ _ _ _ => de_join A.blk (de_str) (de_lcF (own := [("item", 11)]) rfl sc_law.nd A.blk (di_seq A.blk (de_var 10)) (by refine blkOk_by ?_; with_unfolding_all rfl) (fun _ _ _ _ _ => dg_name 11 sc_law.nd) (fun _ _ _ _ _ => dts_nil) (fun _ _ _ _ _ => de_str1 T.b_str (da_cons (de_var 11) (da_nil)))))) sc_law.nd)
    (ds_cons (ds_set (i := 4) (de_join A (de_str) (de_var 3)) sc_law.nd)
    (ds_cons (ds_if (dt_w (dw_or (dt_not (dt_truth A (de_call A d__law_alike hr (by decide) (da_cons (de_call A d_write_program hr (by decide) (da_cons (de_var 2) (da_nil))) (da_cons (de_var 4) (da_nil)))))) (dw_or1 (dt_not (dt_truth A (de_call A d__law_alike hr (by decide) (da_cons (de_callG A d_read_program hr (by decide) (da_cons (de_var 4) (da_nil))) (da_cons (de_var 2) (da_nil)))))))))
    (ds_one (ds_ret (de_bl)))
    (ds_nil))
    (ds_cons (ds_set (i := 5) (de_call A d__law_taken hr (by decide) (da_cons (de_var 1) (da_cons (de_addF A (de_len A T.b_len (da_cons (de_var 3) (da_nil))) (de_int)) (da_nil)))) sc_law.nd)
    (ds_cons (ds_set (i := 6) (de_lstF A (da_cons (de_str) (da_cons (de_str) (da_cons (de_str) (da_cons (de_str) (da_cons (de_str) (da_cons (de_str) (da_cons (de_str) (da_cons (de_str) (da_cons (de_str) (da_cons (de_str) (da_cons (de_str) (da_cons (de_str) (da_nil)))))))))))))) sc_law.nd)
    (ds_cons (ds_set (i := 6) (de_addF A (de_var 6) (de_lstF A (da_cons (de_str) (da_cons (de_str) (da_cons (de_str) (da_cons (de_str) (da_cons (de_str) (da_cons (de_str) (da_cons (de_str) (da_cons (de_str) (da_cons (de_str) (da_cons (de_str) (da_cons (de_str) (da_nil)))))))))))))) sc_law.nd)
    (ds_cons (ds_set (i := 7) (de_addF A (de_addF A (de_sliceF A (de_var 3) (do_none) (do_some (de_var 5))) (de_lstF A (da_cons (de_sub' A (de_var 6) (de_call A d__law_taken hr (by decide) (da_cons (de_var 1) (da_cons (de_len A T.b_len (da_cons (de_var 6) (da_nil))) (da_nil))))) (da_nil)))) (de_sliceF A (de_var 3) (do_some (de_var 5)) (do_none))) sc_law.nd)
    (ds_cons (ds_if (dt_w (dw_and (dt_c (c_neF A) (de_callAct A d__law_wrong (hr.mono (by decide)) rfl rfl hL hbody (da_cons (de_lam (m := 2) rfl rfl lw2 lp2 TB rfl rfl rfl) (da_nil))) (de_addF A (de_var 5) (de_int))) (dw_and1 (dt_c (c_neF A) (de_var 7) (de_lstF A (da_cons (de_str) (da_nil)))))))
    (ds_one (ds_ret (de_bl)))
    (ds_nil))
    (ds_cons (ds_set (i := 8) (de_addF A (de_var 3) (de_lstF A (da_cons (de_addF A (de_str) (de_str1 T.b_str (da_cons (de_addF A (de_len A T.b_len (da_cons (de_var 3) (da_nil))) (de_int)) (da_nil)))) (da_nil)))) sc_law.nd)
    (ds_cons (ds_if (dt_c (c_neF A) (de_callAct A d__law_wrong (hr.mono (by decide)) rfl rfl hL hbody (da_cons (de_lam (m := 0) rfl rfl lw0 lp0 TB rfl rfl rfl) (da_nil))) (de_len A T.b_len (da_cons (de_var 8) (da_nil))))
    (ds_one (ds_ret (de_bl)))
    (ds_nil))
    (ds_cons (ds_if (dt_c (c_neF A) (de_sub' A (de_callG A d_read_program hr (by decide) (da_cons (de_join A (de_str) (de_addF A (de_var 3) (de_lstF A (da_cons (de_addF A (de_str) (de_str1 T.b_str (da_cons (de_addF A (de_len A T.b_len (da_cons (de_var 3) (da_nil))) (de_int)) (da_nil)))) (da_nil))))) (da_nil))) (de_neg de_int)) (de_tup A (da_cons (de_str) (da_cons (de_int) (da_cons (de_addF A (de_len A T.b_len (da_cons (de_var 3) (da_nil))) (de_int)) (da_nil))))))
    (ds_one (ds_ret (de_bl)))
    (ds_nil))
    (ds_cons (ds_if (dt_w (dw_or (dt_c (c_neF A) (de_callAct A d__law_wrong (hr.mono (by decide)) rfl rfl hL hbody (da_cons (de_lam (m := 3) rfl rfl lw3 lp3 TB rfl rfl rfl) (da_nil))) (de_int)) (dw_or1 (dt_c (c_neF A) (de_len A T.b_len (da_cons (de_callG A d_read_program hr (by decide) (da_cons (de_join A (de_str) (de_mulFF A (de_lstF A (da_cons (de_str) (da_nil))) (de_int))) (da_nil))) (da_nil))) (de_int)))))
    (ds_one (ds_ret (de_bl)))
    (ds_nil))
    (ds_cons (ds_if (dt_c (c_neF A) (de_callAct A d__law_wrong (hr.mono (by decide)) rfl rfl hL hbody (da_cons (de_lam (m := 1) rfl rfl lw1 lp1 TB rfl rfl rfl) (da_nil))) (de_str))
    (ds_one (ds_ret (de_bl)))
    (ds_nil))
    (ds_cons (ds_set (i := 6) (de_lstF A (da_cons (de_tup A (da_cons (de_non) (da_cons (de_non) (da_nil)))) (da_cons (de_tup A (da_cons (de_lstF A (da_nil)) (da_cons (de_non) (da_nil)))) (da_cons (de_tup A (da_cons (de_mulFF A (de_tup A (da_cons (de_tup A (da_cons (de_str) (da_cons (de_int) (da_nil)))) (da_nil))) (de_int)) (da_cons (de_non) (da_nil)))) (da_cons (de_tup A (da_cons (de_tup A (da_cons (de_tup A (da_cons (de_str) (da_cons (de_int) (da_cons (de_int) (da_nil))))) (da_nil))) (da_cons (de_int) (da_nil)))) (da_cons (de_tup A (da_cons (de_tup A (da_cons (de_tup A (da_cons (de_str) (da_cons (de_int) (da_nil)))) (da_cons (de_int) (da_nil)))) (da_cons (de_int) (da_nil)))) (da_nil))))))) sc_law.nd)
    (ds_cons (ds_asg (vs := [7, 9]) (dg_tup rfl A (dgs_cons (dg_name 7 sc_law.nd) (dgs_cons (dg_name 9 sc_law.nd) (dgs_nil)))) (de_sub' A (de_var 6) (de_call A d__law_taken hr (by decide) (da_cons (de_var 1) (da_cons (de_int) (da_nil))))))
    (ds_one (ds_ret (de_and A (de_c (c_eqF A) (de_callG A d_read_program hr (by decide) (da_cons (de_str) (da_nil))) (de_tup A (da_nil))) (de_and A (de_c (c_eqF A) (de_call A d_write_program hr (by decide) (da_cons (de_tup A (da_nil)) (da_nil))) (de_str)) (de_one (de_c (c_eqF A) (de_callAct A d__law_wrong (hr.mono (by decide)) rfl rfl hL hbody (da_cons (de_lam (m := 4) rfl rfl lw4 lp4 TB rfl rfl rfl) (da_nil))) (de_tup A (da_cons (de_str) (da_cons (de_var 9) (da_nil))))))))))))))))))))))))))
end Law

/-! Sx: the steps as rows that simp follows from the left, nothing being looked at ahead of its turn. -/
namespace Dx
open PySem L2
section
variable {α β : Type} {a : α} {S : Sg} {ρ : Ev}
@[simp] theorem ok_bind {k : α → Sg → R β} : (R.ok a S).bind k = k a S := rfl
@[simp] theorem ok_go {k : α → Sg → Fl} : (R.ok a S).go ρ k = k a S := rfl
@[simp] theorem ok_nox : (R.ok a S).nox = .ok a S := rfl
end
section
variable {ρ : Ev} {S : Sg}
def vAt : Option (Option D) → Sg → R D
  | some (some d), S => .ok d S
  | _, _ => .stuck
@[simp] theorem xVar_at {i : Nat} : xVar i ρ S = vAt ρ[i]? S := by unfold xVar vAt; split <;> simp_all
@[simp] theorem vAt_some {d : D} : vAt (some (some d)) S = .ok d S := rfl
@[simp] theorem xC_at {d : D} : xC d ρ S = .ok d S := rfl
def kx2 (h : F2) (g : FE) (ρ : Ev) (d : D) (S : Sg) : R D := (g ρ S).bind (h d)
@[simp] theorem x2_at {h : F2} {f g : FE} : x2 h f g ρ S = (f ρ S).bind (kx2 h g ρ) := rfl
@[simp] theorem kx2_at {h : F2} {g : FE} {d : D} : kx2 h g ρ d S = (g ρ S).bind (h d) := rfl
@[simp] theorem aNil_at : aNil ρ S = .ok [] S := rfl
def kaC1 (g : FA) (ρ : Ev) (d : D) (S : Sg) : R (List D) := (g ρ S).bind fun ds S2 => .ok (d :: ds) S2
def kaC2 (d : D) (ds : List D) (S : Sg) : R (List D) := .ok (d :: ds) S
@[simp] theorem aCons_at {f : FE} {g : FA} : aCons f g ρ S = (f ρ S).bind (kaC1 g ρ) := rfl
@[simp] theorem kaC1_at {g : FA} {d : D} : kaC1 g ρ d S = (g ρ S).bind (kaC2 d) := rfl
@[simp] theorem kaC2_at {d : D} {ds : List D} : kaC2 d ds S = .ok (d :: ds) S := rfl
def kTup (ds : List D) (S : Sg) : R D := if ds.length ≤ 16777216 then .ok (.tup ds) S else .stuck
@[simp] theorem xTup_at {g : FA} : xTup g ρ S = (g ρ S).bind kTup := rfl
@[simp] theorem kTup_at {ds : List D} : kTup ds S = if ds.length ≤ 16777216 then .ok (.tup ds) S else .stuck := rfl
def kLst (ds : List D) (S : Sg) : R D := if ds.length ≤ 16777216 then newO (.lst ds) S else .stuck
@[simp] theorem xLst_at {g : FA} : xLst g ρ S = (g ρ S).bind kLst := rfl
@[simp] theorem kLst_at {ds : List D} : kLst ds S = if ds.length ≤ 16777216 then newO (.lst ds) S else .stuck := rfl
@[simp] theorem newO_at {o : O} : newO o S = .ok (.ref S.length) (S ++ [o]) := rfl
@[simp] theorem xB_at {h : CV} {g : FA} : xB h g ρ S = (g ρ S).bind h := rfl
def kCall (F : FF) (n : Nat) (ds : List D) (S : Sg) : R D := if ds.length = n then F ds S else .stuck
@[simp] theorem xCall_at {F : FF} {n : Nat} {g : FA} : xCall F n g ρ S = (g ρ S).bind (kCall F n) := rfl
@[simp] theorem kCall_at {F : FF} {n : Nat} {ds : List D} : kCall F n ds S = if ds.length = n then F ds S else .stuck := rfl
def kM (h : MV) (g : FA) (ρ : Ev) (d : D) (S : Sg) : R D := if isL S d = true then (g ρ S).bind (h d) else .stuck
@[simp] theorem xM_at {h : MV} {f : FE} {g : FA} : xM h f g ρ S = (f ρ S).bind (kM h g ρ) := rfl
@[simp] theorem kM_at {h : MV} {g : FA} {d : D} : kM h g ρ d S = if isL S d = true then (g ρ S).bind (h d) else .stuck := rfl
/-! tests -/
def kBl : D → Sg → R Bool
  | .bl b, S => .ok b S
  | _, _ => .stuck
@[simp] theorem tBl_at {f : FE} : tBl f ρ S = (f ρ S).bind kBl := by
  unfold tBl
  first
  | rfl
  | congr 1
    funext d S
    cases d <;> rfl
@[simp] theorem kBl_at {b : Bool} : kBl (.bl b) S = .ok b S := rfl
def truAt (S : Sg) : Option Bool → R Bool
  | some b => .ok b S
  | none => .stuck
def kTru (d : D) (S : Sg) : R Bool := truAt S (truD S d)
@[simp] theorem tTru_at {f : FE} : tTru f ρ S = (f ρ S).bind kTru := by
  unfold tTru
  first
  | rfl
  | congr 1
    funext d S
    unfold kTru
    cases truD S d <;> rfl
@[simp] theorem kTru_at {d : D} : kTru d S = truAt S (truD S d) := rfl
@[simp] theorem truAt_some {b : Bool} : truAt S (some b) = .ok b S := rfl
def kAndF (g : FT) (ρ : Ev) : Bool → Sg → R Bool
  | true, S => g ρ S
  | false, S => .ok false S
@[simp] theorem tAndF_at {f g : FT} : tAndF f g ρ S = (f ρ S).bind (kAndF g ρ) := by
  unfold tAndF
  first
  | rfl
  | congr 1
    funext b S
    cases b <;> rfl
@[simp] theorem kAndF_t {g : FT} : kAndF g ρ true S = g ρ S := rfl
@[simp] theorem kAndF_f {g : FT} : kAndF g ρ false S = .ok false S := rfl
def kOrF (g : FT) (ρ : Ev) : Bool → Sg → R Bool
  | true, S => .ok true S
  | false, S => g ρ S
@[simp] theorem tOrF_at {f g : FT} : tOrF f g ρ S = (f ρ S).bind (kOrF g ρ) := by
  unfold tOrF
  first
  | rfl
  | congr 1
    funext b S
    cases b <;> rfl
@[simp] theorem kOrF_t {g : FT} : kOrF g ρ true S = .ok true S := rfl
@[simp] theorem kOrF_f {g : FT} : kOrF g ρ false S = g ρ S := rfl
def kNotF (b : Bool) (S : Sg) : R Bool := .ok (!b) S
@[simp] theorem tNotF_at {f : FT} : tNotF f ρ S = (f ρ S).bind kNotF := rfl
@[simp] theorem kNotF_at {b : Bool} : kNotF b S = .ok (!b) S := rfl
def andAt (g : FE) (ρ : Ev) (d : D) (S : Sg) : Option Bool → R D
  | some true => g ρ S
  | some false => .ok d S
  | none => .stuck
def kAnd (g : FE) (ρ : Ev) (d : D) (S : Sg) : R D := andAt g ρ d S (truD S d)
@[simp] theorem xAnd_at {f g : FE} : xAnd f g ρ S = (f ρ S).bind (kAnd g ρ) := by
  unfold xAnd
  first
  | rfl
  | congr 1
    funext d S
    unfold kAnd
    cases truD S d with
    | none => rfl
    | some b => cases b <;> rfl
@[simp] theorem kAnd_at {g : FE} {d : D} : kAnd g ρ d S = andAt g ρ d S (truD S d) := rfl
@[simp] theorem andAt_t {g : FE} {d : D} : andAt g ρ d S (some true) = g ρ S := rfl
@[simp] theorem andAt_f {g : FE} {d : D} : andAt g ρ d S (some false) = .ok d S := rfl
def orAt (g : FE) (ρ : Ev) (d : D) (S : Sg) : Option Bool → R D
  | some true => .ok d S
  | some false => g ρ S
  | none => .stuck
def kOr (g : FE) (ρ : Ev) (d : D) (S : Sg) : R D := orAt g ρ d S (truD S d)
@[simp] theorem xOr_at {f g : FE} : xOr f g ρ S = (f ρ S).bind (kOr g ρ) := by
  unfold xOr
  first
  | rfl
  | congr 1
    funext d S
    unfold kOr
    cases truD S d with
    | none => rfl
    | some b => cases b <;> rfl
@[simp] theorem kOr_at {g : FE} {d : D} : kOr g ρ d S = orAt g ρ d S (truD S d) := rfl
@[simp] theorem orAt_t {g : FE} {d : D} : orAt g ρ d S (some true) = .ok d S := rfl
@[simp] theorem orAt_f {g : FE} {d : D} : orAt g ρ d S (some false) = g ρ S := rfl
def notAt (S : Sg) : Option Bool → R D
  | some b => .ok (.bl (!b)) S
  | none => .stuck
def kNot (d : D) (S : Sg) : R D := notAt S (truD S d)
@[simp] theorem xNot_at {f : FE} : xNot f ρ S = (f ρ S).bind kNot := by
  unfold xNot
  first
  | rfl
  | congr 1
    funext d S
    unfold kNot
    cases truD S d <;> rfl
@[simp] theorem kNot_at {d : D} : kNot d S = notAt S (truD S d) := rfl
@[simp] theorem notAt_some {b : Bool} : notAt S (some b) = .ok (.bl (!b)) S := rfl
def kXif (f g : FE) (ρ : Ev) : Bool → Sg → R D
  | true, S => f ρ S
  | false, S => g ρ S
@[simp] theorem xIf_at {c : FT} {f g : FE} : xIf c f g ρ S = (c ρ S).bind (kXif f g ρ) := by
  unfold xIf
  first
  | rfl
  | congr 1
    funext b S
    cases b <;> rfl
@[simp] theorem kXif_t {f g : FE} : kXif f g ρ true S = f ρ S := rfl
@[simp] theorem kXif_f {f g : FE} : kXif f g ρ false S = g ρ S := rfl
/-! chains -/
def kCh3 (h' : F2) (k : FE) (ρ : Ev) (e : D) : D → Sg → R D
  | .bl true, S => (k ρ S).bind (h' e)
  | .bl false, S => .ok (.bl false) S
  | _, _ => .stuck
def kCh2 (h h' : F2) (k : FE) (ρ : Ev) (d e : D) (S : Sg) : R D := (h d e S).bind (kCh3 h' k ρ e)
def kCh1 (h h' : F2) (g k : FE) (ρ : Ev) (d : D) (S : Sg) : R D := (g ρ S).bind (kCh2 h h' k ρ d)
@[simp] theorem xChain_at {h h' : F2} {f g k : FE} : xChain h h' f g k ρ S = (f ρ S).bind (kCh1 h h' g k ρ) := by
  unfold xChain
  first
  | rfl
  | congr 1
    funext d S
    unfold kCh1
    congr 1
    funext e S
    unfold kCh2
    congr 1
    funext z S
    cases z with
    | bl b => cases b <;> rfl
    | _ => rfl
@[simp] theorem kCh1_at {h h' : F2} {g k : FE} {d : D} : kCh1 h h' g k ρ d S = (g ρ S).bind (kCh2 h h' k ρ d) := rfl
@[simp] theorem kCh2_at {h h' : F2} {k : FE} {d e : D} : kCh2 h h' k ρ d e S = (h d e S).bind (kCh3 h' k ρ e) := rfl
@[simp] theorem kCh3_t {h' : F2} {k : FE} {e : D} : kCh3 h' k ρ e (.bl true) S = (k ρ S).bind (h' e) := rfl
@[simp] theorem kCh3_f {h' : F2} {k : FE} {e : D} : kCh3 h' k ρ e (.bl false) S = .ok (.bl false) S := rfl
/-! slices -/
@[simp] theorem oNone_at : oNone ρ S = .ok none S := rfl
def kOs : D → Sg → R (Option Int)
  | .int i, S => .ok (some i) S
  | _, _ => .stuck
@[simp] theorem oSome_at {f : FE} : oSome f ρ S = (f ρ S).bind kOs := by
  unfold oSome
  first
  | rfl
  | congr 1
    funext d S
    cases d <;> rfl
@[simp] theorem kOs_at {i : Int} : kOs (.int i) S = .ok (some i) S := rfl
def kSl3 (d : D) (lo hi : Option Int) (S : Sg) : R D := fSl d lo hi S
def kSl2 (h : FO) (ρ : Ev) (d : D) (lo : Option Int) (S : Sg) : R D := (h ρ S).bind (kSl3 d lo)
def kSl1 (l h : FO) (ρ : Ev) (d : D) (S : Sg) : R D := (l ρ S).bind (kSl2 h ρ d)
@[simp] theorem xSl_at {f : FE} {l h : FO} : xSl f l h ρ S = (f ρ S).bind (kSl1 l h ρ) := rfl
@[simp] theorem kSl1_at {l h : FO} {d : D} : kSl1 l h ρ d S = (l ρ S).bind (kSl2 h ρ d) := rfl
@[simp] theorem kSl2_at {h : FO} {d : D} {lo : Option Int} : kSl2 h ρ d lo S = (h ρ S).bind (kSl3 d lo) := rfl
@[simp] theorem kSl3_at {d : D} {lo hi : Option Int} : kSl3 d lo hi S = fSl d lo hi S := rfl
/-! statements -/
def Fl.seq : Fl → FS → Fl
  | .nx ρ S, h => h ρ S
  | o, _ => o
@[simp] theorem sNil_at : sNil ρ S = .nx ρ S := rfl
@[simp] theorem sSeq_at {g h : FS} : sSeq g h ρ S = (g ρ S).seq h := by unfold sSeq Fl.seq; cases g ρ S <;> rfl
@[simp] theorem seq_nx {h : FS} : (Fl.nx ρ S).seq h = h ρ S := rfl
@[simp] theorem seq_rt {d : D} {h : FS} : (Fl.rt d S).seq h = .rt d S := rfl
@[simp] theorem seq_bk {h : FS} : (Fl.bk ρ S).seq h = .bk ρ S := rfl
@[simp] theorem seq_ct {h : FS} : (Fl.ct ρ S).seq h = .ct ρ S := rfl
def kSet (i : Nat) (ρ : Ev) (d : D) (S : Sg) : Fl := .nx (ρ.set i (some d)) S
@[simp] theorem sSet_at {i : Nat} {f : FE} : sSet i f ρ S = (f ρ S).go ρ (kSet i ρ) := rfl
@[simp] theorem kSet_at {i : Nat} {d : D} : kSet i ρ d S = .nx (ρ.set i (some d)) S := rfl
def kRet (d : D) (S : Sg) : Fl := .rt d S
@[simp] theorem sRet_at {f : FE} : sRet f ρ S = (f ρ S).go ρ kRet := rfl
@[simp] theorem kRet_at {d : D} : kRet d S = .rt d S := rfl
@[simp] theorem sRetN_at : sRetN ρ S = .rt .non S := rfl
def kExpr (ρ : Ev) (_ : D) (S : Sg) : Fl := .nx ρ S
@[simp] theorem sExpr_at {f : FE} : sExpr f ρ S = (f ρ S).go ρ (kExpr ρ) := rfl
@[simp] theorem kExpr_at {d : D} : kExpr ρ d S = .nx ρ S := rfl
def kIf (g h : FS) (ρ : Ev) : Bool → Sg → Fl
  | true, S => g ρ S
  | false, S => h ρ S
@[simp] theorem sIf_at {c : FT} {g h : FS} : sIf c g h ρ S = (c ρ S).go ρ (kIf g h ρ) := by
  unfold sIf
  first
  | rfl
  | congr 1
    funext b S
    cases b <;> rfl
@[simp] theorem kIf_t {g h : FS} : kIf g h ρ true S = g ρ S := rfl
@[simp] theorem kIf_f {g h : FS} : kIf g h ρ false S = h ρ S := rfl
def stoAt (ρ : Ev) : Option Sg → Fl
  | some S => .nx ρ S
  | none => .stuck
def kSto3 (ρ : Ev) (d o i : D) (S : Sg) : Fl := stoAt ρ (storeD o i d S)
def kSto2 (fi : FE) (ρ : Ev) (d o : D) (S : Sg) : Fl := (fi ρ S).go ρ (kSto3 ρ d o)
def kSto1 (fo fi : FE) (ρ : Ev) (d : D) (S : Sg) : Fl := (fo ρ S).go ρ (kSto2 fi ρ d)
@[simp] theorem sSto_at {f fo fi : FE} : sSto f fo fi ρ S = (f ρ S).go ρ (kSto1 fo fi ρ) := by
  unfold sSto
  first
  | rfl
  | congr 1
    funext d S
    unfold kSto1
    congr 1
    funext o S
    unfold kSto2
    congr 1
    funext i S
    unfold kSto3
    cases storeD o i d S <;> rfl
@[simp] theorem kSto1_at {fo fi : FE} {d : D} : kSto1 fo fi ρ d S = (fo ρ S).go ρ (kSto2 fi ρ d) := rfl
@[simp] theorem kSto2_at {fi : FE} {d o : D} : kSto2 fi ρ d o S = (fi ρ S).go ρ (kSto3 ρ d o) := rfl
@[simp] theorem kSto3_at {d o i : D} : kSto3 ρ d o i S = stoAt ρ (storeD o i d S) := rfl
@[simp] theorem stoAt_some : stoAt ρ (some S) = .nx ρ S := rfl
/-! a def's end -/
def Fl.ret : Fl → R D
  | .nx _ S => .ok .non S
  | .rt d S => .ok d S
  | .exc c fs _ S => .exc c fs S
  | _ => .stuck
@[simp] theorem dFun_at {N n : Nat} {g : FS} {ds : List D} : dFun N n g ds S = if ds.length = n then (g (ds.map some ++ List.replicate (N - ds.length) none) S).ret else .stuck := by
  unfold dFun Fl.ret
  split
  · cases g (ds.map some ++ List.replicate (N - ds.length) none) S <;> rfl
  · rfl
@[simp] theorem ret_nx : (Fl.nx ρ S).ret = .ok .non S := rfl
@[simp] theorem ret_rt {d : D} : (Fl.rt d S).ret = .ok d S := rfl
/-! subscripts -/
def ixO : Option O → D → Sg → R D
  | some (.lst xs), e, S => ixSeq S xs e
  | some (.dct kvs), e, S => outD S ((keyD e).bind (getK kvs))
  | some (.dtt kvs), e, S => outD S ((keysD e).bind (getK kvs))
  | _, _, _ => .stuck
@[simp] theorem ixSeq_int {xs : List D} {i : Int} : ixSeq S xs (.int i) = outD S (atI xs i) := rfl
@[simp] theorem outD_some {d : D} : outD S (some d) = .ok d S := rfl
@[simp] theorem fIx_tup {xs : List D} {e : D} : fIx (.tup xs) e S = ixSeq S xs e := rfl
@[simp] theorem fIx_ktup {xs : List D} {e : D} : fIx (.ktup xs) e S = ixSeq S xs e := rfl
@[simp] theorem fIx_clist {xs : List D} {e : D} : fIx (.clist xs) e S = ixSeq S xs e := rfl
@[simp] theorem fIx_ref {n : Nat} {e : D} : fIx (.ref n) e S = ixO S[n]? e S := by
  have : ∀ o : Option O, (match o with
    | some (.lst xs) => ixSeq S xs e
    | some (.dct kvs) => outD S ((keyD e).bind (getK kvs))
    | some (.dtt kvs) => outD S ((keysD e).bind (getK kvs))
    | _ => .stuck) = ixO o e S := fun o => by
    cases o with
    | none => rfl
    | some o => cases o <;> rfl
  exact this S[n]?
@[simp] theorem ixO_lst {xs : List D} {e : D} : ixO (some (.lst xs)) e S = ixSeq S xs e := rfl
@[simp] theorem ixO_dct {kvs : List (Key × D)} {e : D} : ixO (some (.dct kvs)) e S = outD S ((keyD e).bind (getK kvs)) := rfl
@[simp] theorem atI0 {α : Type} {xs : List α} : atI xs 0 = xs[0]? := by
  unfold atI ixN
  cases xs <;> simp
theorem atI_cast {α : Type} {xs : List α} {n : Nat} : atI xs (n : Int) = xs[n]? := by
  unfold atI ixN
  rw [if_pos (by omega)]
  by_cases h : (n : Int) < (xs.length : Int)
  · rw [if_pos h]; simp
  · rw [if_neg h, List.getElem?_eq_none (by omega)]; rfl
@[simp] theorem atI1 {α : Type} {xs : List α} : atI xs 1 = xs[1]? := atI_cast (n := 1)
@[simp] theorem atI2 {α : Type} {xs : List α} : atI xs 2 = xs[2]? := atI_cast (n := 2)
@[simp] theorem atI3 {α : Type} {xs : List α} : atI xs 3 = xs[3]? := atI_cast (n := 3)
@[simp] theorem atI4 {α : Type} {xs : List α} : atI xs 4 = xs[4]? := atI_cast (n := 4)
/-! operators on ints -/
section
variable {i j : Int}
@[simp] theorem fLt_int : fLt (.int i) (.int j) S = .ok (.bl (decide (i < j))) S := rfl
@[simp] theorem fLtF_int : fLtF (.int i) (.int j) S = .ok (.bl (decide (i < j))) S := rfl
@[simp] theorem fLe_int : fLe (.int i) (.int j) S = .ok (.bl (decide (i ≤ j))) S := rfl
@[simp] theorem fGt_int : fGt (.int i) (.int j) S = .ok (.bl (decide (j < i))) S := rfl
@[simp] theorem fGe_int : fGe (.int i) (.int j) S = .ok (.bl (decide (j ≤ i))) S := rfl
@[simp] theorem fAdd_int : fAdd (.int i) (.int j) S = .ok (.int (i + j)) S := rfl
@[simp] theorem fSub_int : fSub (.int i) (.int j) S = .ok (.int (i - j)) S := rfl
@[simp] theorem fMod_int (h : 0 < j) : fMod (.int i) (.int j) S = .ok (.int (i % j)) S := by simp [fMod, fIC, h]
@[simp] theorem fDiv_int (h : 0 < j) (h2 : j < 1073741824) : fDiv (.int i) (.int j) S = .ok (.int (i / j)) S := by simp [fDiv, fIC, h, h2]
@[simp] theorem fMulF_int (h : -(18446744073709551616) < j ∧ j < 18446744073709551616) : fMulF (.int i) (.int j) S = .ok (.int (i * j)) S := by
  show fMul (.int i) (.int j) S = _
  simp [fMul, h]
@[simp] theorem fPow_10 : fPow (.int 10) (.int 18) S = .ok (.int 1000000000000000000) S := rfl
@[simp] theorem cInt_int : cInt [.int i] S = .ok (.int i) S := rfl
@[simp] theorem cInt_bl {b : Bool} : cInt [.bl b] S = .ok (.int (if b then 1 else 0)) S := rfl
@[simp] theorem cLen_clist {xs : List D} : cLen [.clist xs] S = .ok (.int xs.length) S := rfl
@[simp] theorem cLen_tup {xs : List D} : cLen [.tup xs] S = .ok (.int xs.length) S := rfl
@[simp] theorem cLen_ktup {xs : List D} : cLen [.ktup xs] S = .ok (.int xs.length) S := rfl
def stoO (n : Nat) (i d : D) (S : Sg) : Option O → Option Sg
  | some (.lst xs) => match i with
    | .int k => (ixN xs.length k).map fun j => S.set n (.lst (xs.set j d))
    | _ => none
  | some (.dct kvs) => match keyD i with
    | some k => if kvs.length < 16777216 then some (S.set n (.dct (putD kvs k d))) else none
    | none => none
  | some (.dtt kvs) => match keysD i with
    | some k => if kvs.length < 16777216 then some (S.set n (.dtt (putD kvs k d))) else none
    | none => none
  | _ => none
@[simp] theorem storeD_ref {n : Nat} {k d : D} : storeD (.ref n) k d S = stoO n k d S S[n]? := by
  unfold storeD stoO
  rfl
@[simp] theorem stoO_lst {n : Nat} {k : Int} {d : D} {xs : List D} : stoO n (.int k) d S (some (.lst xs)) = (ixN xs.length k).map fun j => S.set n (.lst (xs.set j d)) := rfl
theorem ixN_nat {l n : Nat} (h : n < l) : ixN l (n : Int) = some n := by
  unfold ixN
  rw [if_pos (by omega), if_pos (by omega)]
  simp
@[simp] theorem ixN0 {l : Nat} (h : 0 < l) : ixN l 0 = some 0 := ixN_nat h
@[simp] theorem ixN1 {l : Nat} (h : 1 < l) : ixN l 1 = some 1 := ixN_nat h
@[simp] theorem ixN2 {l : Nat} (h : 2 < l) : ixN l 2 = some 2 := ixN_nat h
@[simp] theorem ixN3 {l : Nat} (h : 3 < l) : ixN l 3 = some 3 := ixN_nat h
@[simp] theorem ixN4 {l : Nat} (h : 4 < l) : ixN l 4 = some 4 := ixN_nat h
end
end
end Dx

/-! Sx2: isinstance, comprehensions and loops by an invariant. -/
namespace Dx
open PySem L2
section
variable {ρ : Ev} {S : Sg}
def isiAt (us : List String) (S : Sg) : Option String → R D
  | some t => .ok (.bl (us.any (isaT t))) S
  | none => .stuck
def kIsi (us : List String) (d : D) (S : Sg) : R D := isiAt us S (tyD S d)
@[simp] theorem xIsi_at {f : FE} {us : List String} : xIsi f us ρ S = (f ρ S).bind (kIsi us) := by
  unfold xIsi
  first
  | rfl
  | congr 1
    funext d S
    unfold kIsi
    cases tyD S d <;> rfl
@[simp] theorem kIsi_at {us : List String} {d : D} : kIsi us d S = isiAt us S (tyD S d) := rfl
@[simp] theorem isiAt_some {us : List String} {t : String} : isiAt us S (some t) = .ok (.bl (us.any (isaT t))) S := rfl
@[simp] theorem tyD_non : tyD S .non = some "NoneType" := rfl
@[simp] theorem tyD_bl {b : Bool} : tyD S (.bl b) = some "bool" := rfl
@[simp] theorem tyD_int {i : Int} : tyD S (.int i) = some "int" := rfl
@[simp] theorem tyD_str {s : String} : tyD S (.str s) = some "str" := rfl
@[simp] theorem tyD_tup {xs : List D} : tyD S (.tup xs) = some "tuple" := rfl
@[simp] theorem tyD_ktup {xs : List D} : tyD S (.ktup xs) = some "tuple" := rfl
@[simp] theorem tyD_clist {xs : List D} : tyD S (.clist xs) = some "list" := rfl
theorem tyD_lst {n : Nat} {xs : List D} (h : S[n]? = some (.lst xs)) : tyD S (.ref n) = some "list" := by simp only [tyD, h]
@[simp] theorem truD_bl {b : Bool} : truD S (.bl b) = some b := rfl
@[simp] theorem truD_non : truD S .non = some false := rfl
@[simp] theorem truD_tup {xs : List D} : truD S (.tup xs) = some (!xs.isEmpty) := rfl
@[simp] theorem truD_int {i : Int} : truD S (.int i) = some (i != 0) := rfl
@[simp] theorem fIs_non {neg : Bool} {d : D} : fIs neg d .non S = .ok (.bl (neg != isNonD d)) S := rfl
@[simp] theorem fIs_bl {neg a b : Bool} : fIs neg (.bl a) (.bl b) S = .ok (.bl (neg != decide (a = b))) S := rfl
theorem cLen_lst {n : Nat} {xs : List D} (h : S[n]? = some (.lst xs)) : cLen [.ref n] S = .ok (.int xs.length) S := by
  unfold cLen
  simp [itemsD, seqOf, h]
def eqAtF (neg : Bool) (d e : D) (S : Sg) : Bool → R D
  | true => .ok (.bl (neg != eqB 9 S d e)) S
  | false => .stuck
theorem fEqF_ok {neg : Bool} {d e : D} (h1 : okD 9 S d = true) (h2 : okD 9 S e = true) : fEqF neg d e S = .ok (.bl (neg != eqB 9 S d e)) S := by
  unfold fEqF
  rw [h1, h2]
  rfl
@[simp] theorem fEqF_int {neg : Bool} {i j : Int} : fEqF neg (.int i) (.int j) S = .ok (.bl (neg != decide (i = j))) S := rfl
@[simp] theorem fEqF_str {neg : Bool} {s t : String} : fEqF neg (.str s) (.str t) S = .ok (.bl (neg != decide (s = t))) S := rfl
@[simp] theorem fEqF_bl {neg a b : Bool} : fEqF neg (.bl a) (.bl b) S = .ok (.bl (neg != (a == b))) S := rfl
@[simp] theorem fEqF_non {neg : Bool} : fEqF neg .non .non S = .ok (.bl (neg != true)) S := rfl
/-! sources -/
def kSrc (d : D) (S : Sg) : R Src := srcOf S d
@[simp] theorem iSrc_at {f : FE} : iSrc f ρ S = (f ρ S).bind kSrc := rfl
@[simp] theorem kSrc_tup {xs : List D} : kSrc (.tup xs) S = .ok (.its xs) S := rfl
@[simp] theorem kSrc_ktup {xs : List D} : kSrc (.ktup xs) S = .ok (.its xs) S := rfl
@[simp] theorem kSrc_clist {xs : List D} : kSrc (.clist xs) S = .ok (.its xs) S := rfl
theorem kSrc_lst {n : Nat} {xs : List D} (h : S[n]? = some (.lst xs)) : kSrc (.ref n) S = .ok (.live n) S := by
  unfold kSrc srcOf
  simp [h]
def kR1 : List D → Sg → R Src
  | [.int j], S => if -(4611686018427387904) ≤ j ∧ j < 4611686018427387904 then .ok (.its (intsD 0 j.toNat)) S else .stuck
  | _, _ => .stuck
@[simp] theorem iR1_at {g : FA} : iR1 g ρ S = (g ρ S).bind kR1 := by
  unfold iR1
  first
  | rfl
  | congr 1
    funext d S
    unfold kR1
    split
    · rfl
    · rename_i h
      split
      · exact absurd rfl (h _)
      · rfl
theorem kR1_nat {j : Nat} (h : j < 4611686018427387904) : kR1 [.int j] S = .ok (.its (intsD 0 j)) S := by
  have h1 : -(4611686018427387904) ≤ (j : Int) ∧ (j : Int) < 4611686018427387904 := by omega
  simp only [kR1, h1, and_self, if_true, Int.toNat_natCast]
def kLc (vs : List Nat) (tg : FG) (t : FT) (e : FE) (ρ : Ev) (src : Src) (S : Sg) : R D := lcGo src tg t e (wipeD ρ vs) (srcLen S src) 0 [] S
@[simp] theorem xLc_at {vs : List Nat} {fs : FI} {tg : FG} {t : FT} {e : FE} : xLc vs fs tg t e ρ S = (fs ρ S).bind (kLc vs tg t e ρ) := rfl
theorem lc_go {ds : List D} {tg : FG} {t : FT} {e : FE} {ρ : Ev} (I : Nat → List D → Sg → Prop)
    (step : ∀ i d acc S, ds[i]? = some d → I i acc S → ∃ ρ1, tg d ρ = some ρ1 ∧ ∃ b S2, t ρ1 S = .ok b S2 ∧ (b = true → ∃ y S3, e ρ1 S2 = .ok y S3 ∧ acc.length < 16777216 ∧ I (i + 1) (acc ++ [y]) S3) ∧ (b = false → I (i + 1) acc S2)) :
    ∀ (k i : Nat) (acc : List D) (S : Sg), i + k = ds.length → I i acc S → ∃ acc' S', I ds.length acc' S' ∧ lcGo (.its ds) tg t e ρ k i acc S = newO (.lst acc') S'
  | 0, i, acc, S, hk, h => by
    have hi : i = ds.length := by omega
    subst hi
    refine ⟨acc, S, h, ?_⟩
    unfold lcGo
    simp [srcAt]
  | k + 1, i, acc, S, hk, h => by
    have hi : i < ds.length := by omega
    obtain ⟨ρ1, e1, b, S2, e2, ht, hf⟩ := step i ds[i] acc S (by simp [hi]) h
    unfold lcGo
    have hs : srcAt S (.its ds) i = some (some ds[i]) := by simp [srcAt, hi]
    simp only [hs, e1, e2, ok_nox, ok_bind]
    cases b with
    | true =>
      obtain ⟨y, S3, e3, hl, h3⟩ := ht rfl
      simp only [e3, ok_nox, ok_bind, if_pos hl]
      exact lc_go I step k (i + 1) _ S3 (by omega) h3
    | false => exact lc_go I step k (i + 1) acc S2 (by omega) (hf rfl)
theorem lc_inv {vs : List Nat} {ds : List D} {tg : FG} {t : FT} {e : FE} {ρ : Ev} {S : Sg} (I : Nat → List D → Sg → Prop) (h0 : I 0 [] S)
    (step : ∀ i d acc S, ds[i]? = some d → I i acc S → ∃ ρ1, tg d (wipeD ρ vs) = some ρ1 ∧ ∃ b S2, t ρ1 S = .ok b S2 ∧ (b = true → ∃ y S3, e ρ1 S2 = .ok y S3 ∧ acc.length < 16777216 ∧ I (i + 1) (acc ++ [y]) S3) ∧ (b = false → I (i + 1) acc S2)) :
    ∃ acc S', I ds.length acc S' ∧ kLc vs tg t e ρ (.its ds) S = .ok (.ref S'.length) (S' ++ [.lst acc]) := by
  obtain ⟨acc, S', h1, h2⟩ := lc_go I step ds.length 0 [] S (by omega) h0
  exact ⟨acc, S', h1, h2⟩
/-! loops -/
def kFor (tg : FG) (g : FS) (ρ : Ev) (src : Src) (S : Sg) : Fl := forGo src tg g (srcLen S src) 0 ρ S
@[simp] theorem sFor_at {fs : FI} {tg : FG} {g : FS} : sFor fs tg g ρ S = (fs ρ S).go ρ (kFor tg g ρ) := rfl
/-- a loop over given items: I holds ahead of each turn; a turn goes on, or ends the loop with an outcome that is wanted -/
theorem for_go {ds : List D} {tg : FG} {g : FS} (I : Nat → Ev → Sg → Prop) (Z : Fl → Prop) (done : ∀ ρ S, I ds.length ρ S → Z (.nx ρ S))
    (step : ∀ i d ρ S, ds[i]? = some d → I i ρ S → ∃ ρ1, tg d ρ = some ρ1 ∧ ((∃ ρ2 S2, (g ρ1 S = .nx ρ2 S2 ∨ g ρ1 S = .ct ρ2 S2) ∧ I (i + 1) ρ2 S2) ∨ (∃ ρ2 S2, g ρ1 S = .bk ρ2 S2 ∧ Z (.nx ρ2 S2)) ∨ (∃ d S2, g ρ1 S = .rt d S2 ∧ Z (.rt d S2)))) :
    ∀ (k i : Nat) (ρ : Ev) (S : Sg), i + k = ds.length → I i ρ S → Z (forGo (.its ds) tg g k i ρ S)
  | 0, i, ρ, S, hk, h => by
    have hi : i = ds.length := by omega
    subst hi
    unfold forGo
    simp only [srcAt]
    rw [List.getElem?_eq_none (Nat.le_refl _)]
    exact done ρ S h
  | k + 1, i, ρ, S, hk, h => by
    have hi : i < ds.length := by omega
    obtain ⟨ρ1, e1, hr⟩ := step i ds[i] ρ S (by simp [hi]) h
    unfold forGo
    have hs : srcAt S (.its ds) i = some (some ds[i]) := by simp [srcAt, hi]
    simp only [hs, e1]
    rcases hr with ⟨ρ2, S2, e2 | e2, h2⟩ | ⟨ρ2, S2, e2, h2⟩ | ⟨d, S2, e2, h2⟩
    · rw [e2]; exact for_go I Z done step k (i + 1) ρ2 S2 (by omega) h2
    · rw [e2]; exact for_go I Z done step k (i + 1) ρ2 S2 (by omega) h2
    · rw [e2]; exact h2
    · rw [e2]; exact h2
theorem for_inv {ds : List D} {tg : FG} {g : FS} {ρ : Ev} {S : Sg} (I : Nat → Ev → Sg → Prop) (Z : Fl → Prop) (h0 : I 0 ρ S) (done : ∀ ρ S, I ds.length ρ S → Z (.nx ρ S))
    (step : ∀ i d ρ S, ds[i]? = some d → I i ρ S → ∃ ρ1, tg d ρ = some ρ1 ∧ ((∃ ρ2 S2, (g ρ1 S = .nx ρ2 S2 ∨ g ρ1 S = .ct ρ2 S2) ∧ I (i + 1) ρ2 S2) ∨ (∃ ρ2 S2, g ρ1 S = .bk ρ2 S2 ∧ Z (.nx ρ2 S2)) ∨ (∃ d S2, g ρ1 S = .rt d S2 ∧ Z (.rt d S2)))) :
    Z (kFor tg g ρ (.its ds) S) := for_go I Z done step ds.length 0 ρ S (by omega) h0
/-- a while by a measure -/
theorem wh_inv {c : FT} {g : FS} (I : Nat → Ev → Sg → Prop) (Z : Fl → Prop)
    (step : ∀ m ρ S, I m ρ S → (∃ S1, c ρ S = .ok false S1 ∧ Z (.nx ρ S1)) ∨ (∃ S1, c ρ S = .ok true S1 ∧ ((∃ ρ2 S2 m', (g ρ S1 = .nx ρ2 S2 ∨ g ρ S1 = .ct ρ2 S2) ∧ m' < m ∧ I m' ρ2 S2) ∨ (∃ ρ2 S2, g ρ S1 = .bk ρ2 S2 ∧ Z (.nx ρ2 S2)) ∨ (∃ d S2, g ρ S1 = .rt d S2 ∧ Z (.rt d S2))))) :
    ∀ (n m : Nat) (ρ : Ev) (S : Sg), m < n → I m ρ S → Z (whGo c g n ρ S)
  | 0, m, ρ, S, h, _ => absurd h (Nat.not_lt_zero _)
  | n + 1, m, ρ, S, h, hi => by
    unfold whGo
    rcases step m ρ S hi with ⟨S1, e1, z⟩ | ⟨S1, e1, hr⟩
    · rw [e1]; exact z
    · rw [e1]
      simp only [ok_go]
      rcases hr with ⟨ρ2, S2, m', e2 | e2, hm, h2⟩ | ⟨ρ2, S2, e2, h2⟩ | ⟨d, S2, e2, h2⟩
      · rw [e2]; exact wh_inv I Z step n m' ρ2 S2 (by omega) h2
      · rw [e2]; exact wh_inv I Z step n m' ρ2 S2 (by omega) h2
      · rw [e2]; exact h2
      · rw [e2]; exact h2
end
end Dx

/-! Sy: rows for the locked lists, the calls that forget, comprehensions and loops over given items. -/
namespace Dx
open PySem L2
section
variable {ρ : Ev} {S : Sg}
def kLstF (ds : List D) (S : Sg) : R D := if ds.length ≤ 16777216 then .ok (.clist ds) S else .stuck
@[simp] theorem xLstF_at {g : FA} : xLstF g ρ S = (g ρ S).bind kLstF := rfl
@[simp] theorem kLstF_at {ds : List D} : kLstF ds S = if ds.length ≤ 16777216 then .ok (.clist ds) S else .stuck := rfl
/-! + * -/
@[simp] theorem fAddF_int {i j : Int} : fAddF (.int i) (.int j) S = .ok (.int (i + j)) S := rfl
@[simp] theorem fAddF_lst {xs ys : List D} : fAddF (.clist xs) (.clist ys) S = if xs.length + ys.length ≤ 16777216 then .ok (.clist (xs ++ ys)) S else .stuck := rfl
@[simp] theorem fAddF_str {a b : String} : fAddF (.str a) (.str b) S = if a.length + b.length ≤ 16777216 then .ok (.str (a ++ b)) S else .stuck := rfl
@[simp] theorem fAddF_tup {xs ys : List D} : fAddF (.tup xs) (.tup ys) S = if xs.length + ys.length ≤ 16777216 then .ok (.tup (xs ++ ys)) S else .stuck := rfl
@[simp] theorem fAddN_lst {xs ys : List D} : fAddN (.clist xs) (.clist ys) S = if xs.length + ys.length ≤ 16777216 then newO (.lst (xs ++ ys)) S else .stuck := rfl
@[simp] theorem fMulFF_int {i j : Int} : fMulFF (.int i) (.int j) S = fMulF (.int i) (.int j) S := rfl
@[simp] theorem fMulFF_tup {xs : List D} {j : Int} : fMulFF (.tup xs) (.int j) S = fMulF (.tup xs) (.int j) S := rfl
theorem fMulFF_bl {xs : List D} {b : Bool} (h : xs.length ≤ 1000) : fMulFF (.clist xs) (.int (if b then 1 else 0)) S = .ok (.clist (if b then xs else [])) S := by
  have h1 : xs.length ≤ 16777216 := by omega
  cases b <;> simp [fMulFF, seqOf, h1]
/-! slices -/
def kSlF3 (d : D) (lo hi : Option Int) (S : Sg) : R D := fSlF d lo hi S
def kSlF2 (h : FO) (ρ : Ev) (d : D) (lo : Option Int) (S : Sg) : R D := (h ρ S).bind (kSlF3 d lo)
def kSlF1 (l h : FO) (ρ : Ev) (d : D) (S : Sg) : R D := (l ρ S).bind (kSlF2 h ρ d)
@[simp] theorem xSlF_at {f : FE} {l h : FO} : xSlF f l h ρ S = (f ρ S).bind (kSlF1 l h ρ) := rfl
@[simp] theorem kSlF1_at {l h : FO} {d : D} : kSlF1 l h ρ d S = (l ρ S).bind (kSlF2 h ρ d) := rfl
@[simp] theorem kSlF2_at {h : FO} {d : D} {lo : Option Int} : kSlF2 h ρ d lo S = (h ρ S).bind (kSlF3 d lo) := rfl
@[simp] theorem kSlF3_at {d : D} {lo hi : Option Int} : kSlF3 d lo hi S = fSlF d lo hi S := rfl
@[simp] theorem slF13 {a b c d e : D} : fSlF (.tup [a, b, c, d, e]) (some 1) (some 3) S = .ok (.tup [b, c]) S := rfl
@[simp] theorem slF04 {a b c d e : D} : fSlF (.tup [a, b, c, d, e]) none (some 4) S = .ok (.tup [a, b, c, d]) S := rfl
@[simp] theorem slF02 {a b c d e : D} : fSlF (.tup [a, b, c, d, e]) none (some 2) S = .ok (.tup [a, b]) S := rfl
/-! displays used at once -/
def kDp1 (k : Key) (r : List (Key × FE)) (ρ : Ev) (d : D) (S : Sg) : R (List (Key × D)) := (dpGo r ρ S).bind fun ps S2 => .ok ((k, d) :: ps) S2
def kDp2 (k : Key) (d : D) (ps : List (Key × D)) (S : Sg) : R (List (Key × D)) := .ok ((k, d) :: ps) S
@[simp] theorem dpGo_nil : dpGo [] ρ S = .ok [] S := rfl
@[simp] theorem dpGo_cons {k : Key} {f : FE} {r : List (Key × FE)} : dpGo ((k, f) :: r) ρ S = (f ρ S).bind (kDp1 k r ρ) := rfl
@[simp] theorem kDp1_at {k : Key} {r : List (Key × FE)} {d : D} : kDp1 k r ρ d S = (dpGo r ρ S).bind (kDp2 k d) := rfl
@[simp] theorem kDp2_at {k : Key} {ps : List (Key × D)} {d : D} : kDp2 k d ps S = .ok ((k, d) :: ps) S := rfl
def kDx2 (ps : List (Key × D)) (k : D) (S : Sg) : R D := outD S ((keyD k).bind (getK (mergeD ps)))
def kDx1 (g : FE) (ρ : Ev) (ps : List (Key × D)) (S : Sg) : R D := (g ρ S).bind (kDx2 ps)
@[simp] theorem xDcIx_at {fs : List (Key × FE)} {g : FE} : xDcIx fs g ρ S = (dpGo fs ρ S).bind (kDx1 g ρ) := rfl
@[simp] theorem kDx1_at {g : FE} {ps : List (Key × D)} : kDx1 g ρ ps S = (g ρ S).bind (kDx2 ps) := rfl
@[simp] theorem kDx2_str {ps : List (Key × D)} {s : String} : kDx2 ps (.str s) S = outD S (getK (mergeD ps) (.inr (Str.ofString s))) := rfl
@[simp] theorem kDx2_int {ps : List (Key × D)} {i : Int} : kDx2 ps (.int i) S = outD S (getK (mergeD ps) (.inl i)) := rfl
def kDg3 (ps : List (Key × D)) (k x : D) (S : Sg) : R D := match keyD k with
  | some kk => .ok ((getK (mergeD ps) kk).getD x) S
  | none => .stuck
def kDg2 (h : FE) (ρ : Ev) (ps : List (Key × D)) (k : D) (S : Sg) : R D := (h ρ S).bind (kDg3 ps k)
def kDg1 (g h : FE) (ρ : Ev) (ps : List (Key × D)) (S : Sg) : R D := (g ρ S).bind (kDg2 h ρ ps)
@[simp] theorem xDcGet_at {fs : List (Key × FE)} {g h : FE} : xDcGet fs g h ρ S = (dpGo fs ρ S).bind (kDg1 g h ρ) := rfl
@[simp] theorem kDg1_at {g h : FE} {ps : List (Key × D)} : kDg1 g h ρ ps S = (g ρ S).bind (kDg2 h ρ ps) := rfl
@[simp] theorem kDg2_at {h : FE} {ps : List (Key × D)} {k : D} : kDg2 h ρ ps k S = (h ρ S).bind (kDg3 ps k) := rfl
@[simp] theorem kDg3_str {ps : List (Key × D)} {s : String} {x : D} : kDg3 ps (.str s) x S = .ok ((getK (mergeD ps) (.inr (Str.ofString s))).getD x) S := rfl
@[simp] theorem kDg3_int {ps : List (Key × D)} {i : Int} {x : D} : kDg3 ps (.int i) x S = .ok ((getK (mergeD ps) (.inl i)).getD x) S := rfl
/-! comprehensions -/
def lcRun (tg : FG) (t : FT) (e : FE) (ρ : Ev) : List D → List D → Sg → R D
  | [], acc, S => .ok (.clist acc) S
  | d :: ds, acc, S => match tg d ρ with
    | some ρ1 => (t ρ1 S).nox.bind fun b S2 => match b with
      | true => (e ρ1 S2).nox.bind fun y S3 => if acc.length < 16777216 then lcRun tg t e ρ ds (acc ++ [y]) S3 else .stuck
      | false => lcRun tg t e ρ ds acc S2
    | none => .stuck
theorem lcGoF_run {tg : FG} {t : FT} {e : FE} {ds : List D} : ∀ (k i : Nat) (acc : List D) (S : Sg), i + k = ds.length → lcGoF (.its ds) tg t e ρ k i acc S = lcRun tg t e ρ (ds.drop i) acc S
  | 0, i, acc, S, h => by
    have hi : i = ds.length := by omega
    subst hi
    unfold lcGoF
    simp [srcAt, lcRun]
  | k + 1, i, acc, S, h => by
    have hi : i < ds.length := by omega
    have hs : srcAt S (.its ds) i = some (some ds[i]) := by simp [srcAt, hi]
    unfold lcGoF
    rw [List.drop_eq_getElem_cons hi]
    simp only [hs, lcRun]
    cases tg ds[i] ρ with
    | none => rfl
    | some ρ1 =>
      simp only
      congr 1
      funext b S2
      cases b with
      | true =>
        simp only
        congr 1
        funext y S3
        split
        · exact lcGoF_run k (i + 1) _ S3 (by omega)
        · rfl
      | false => exact lcGoF_run k (i + 1) acc S2 (by omega)
def kLcF (vs : List Nat) (tg : FG) (t : FT) (e : FE) (ρ : Ev) (src : Src) (S : Sg) : R D := lcGoF src tg t e (wipeD ρ vs) (srcLen S src) 0 [] S
@[simp] theorem xLcF_at {vs : List Nat} {fs : FI} {tg : FG} {t : FT} {e : FE} : xLcF vs fs tg t e ρ S = (fs ρ S).bind (kLcF vs tg t e ρ) := rfl
@[simp] theorem kLcF_its {vs : List Nat} {tg : FG} {t : FT} {e : FE} {ds : List D} : kLcF vs tg t e ρ (.its ds) S = lcRun tg t e (wipeD ρ vs) ds [] S := lcGoF_run ds.length 0 [] S (by omega)
def lcA (tg : FG) (t : FT) (e : FE) (ρ : Ev) (ds acc : List D) (S : Sg) : Option Ev → R D
  | some ρ1 => (t ρ1 S).nox.bind fun b S2 => match b with
    | true => (e ρ1 S2).nox.bind fun y S3 => if acc.length < 16777216 then lcRun tg t e ρ ds (acc ++ [y]) S3 else .stuck
    | false => lcRun tg t e ρ ds acc S2
  | none => .stuck
def lcC (tg : FG) (t : FT) (e : FE) (ρ : Ev) (ds acc : List D) (y : D) (S : Sg) : R D := if acc.length < 16777216 then lcRun tg t e ρ ds (acc ++ [y]) S else .stuck
def lcB (tg : FG) (t : FT) (e : FE) (ρ ρ1 : Ev) (ds acc : List D) : Bool → Sg → R D
  | true, S => (e ρ1 S).nox.bind (lcC tg t e ρ ds acc)
  | false, S => lcRun tg t e ρ ds acc S
@[simp] theorem lcRun_nil {tg : FG} {t : FT} {e : FE} {acc : List D} : lcRun tg t e ρ [] acc S = .ok (.clist acc) S := rfl
@[simp] theorem lcRun_cons {tg : FG} {t : FT} {e : FE} {d : D} {ds acc : List D} : lcRun tg t e ρ (d :: ds) acc S = lcA tg t e ρ ds acc S (tg d ρ) := by
  unfold lcA
  rw [lcRun]
@[simp] theorem lcA_some {tg : FG} {t : FT} {e : FE} {ds acc : List D} {ρ1 : Ev} : lcA tg t e ρ ds acc S (some ρ1) = (t ρ1 S).nox.bind (lcB tg t e ρ ρ1 ds acc) := by
  unfold lcA
  simp only
  congr 1
  funext b S2
  cases b <;> rfl
@[simp] theorem lcB_t {tg : FG} {t : FT} {e : FE} {ds acc : List D} {ρ1 : Ev} : lcB tg t e ρ ρ1 ds acc true S = (e ρ1 S).nox.bind (lcC tg t e ρ ds acc) := rfl
@[simp] theorem lcB_f {tg : FG} {t : FT} {e : FE} {ds acc : List D} {ρ1 : Ev} : lcB tg t e ρ ρ1 ds acc false S = lcRun tg t e ρ ds acc S := rfl
@[simp] theorem lcC_at {tg : FG} {t : FT} {e : FE} {ds acc : List D} {y : D} : lcC tg t e ρ ds acc y S = if acc.length < 16777216 then lcRun tg t e ρ ds (acc ++ [y]) S else .stuck := rfl
@[simp] theorem tYesF_at : tYesF ρ S = .ok true S := rfl
@[simp] theorem gNm_at {i : Nat} {d : D} : gNm i d ρ = some (ρ.set i (some d)) := rfl
/-- over the pictures of things, nothing being changed -/
theorem lcRun_map {α : Type} {tg : FG} {t : FT} {e : FE} (enc : α → D) (P : α → Bool) (f : α → D) : ∀ (xs : List α) (acc : List D), (∀ x ∈ xs, ∃ ρ1, tg (enc x) ρ = some ρ1 ∧ t ρ1 S = .ok (P x) S ∧ (P x = true → e ρ1 S = .ok (f x) S)) → acc.length + xs.length ≤ 16777216 →
    lcRun tg t e ρ (xs.map enc) acc S = .ok (.clist (acc ++ (xs.filter P).map f)) S
  | [], acc, _, _ => by simp
  | x :: xs, acc, h, hl => by
    obtain ⟨ρ1, e1, e2, e3⟩ := h x (by simp)
    rw [List.length_cons] at hl
    rw [List.map_cons, lcRun_cons, e1, lcA_some, e2, ok_nox, ok_bind]
    cases hp : P x with
    | true =>
      rw [lcB_t, e3 hp, ok_nox, ok_bind, lcC_at, if_pos (by omega), lcRun_map enc P f xs _ (fun y hy => h y (by simp [hy])) (by simp; omega), List.filter_cons_of_pos hp]
      simp
    | false =>
      rw [lcB_f, lcRun_map enc P f xs _ (fun y hy => h y (by simp [hy])) (by omega), List.filter_cons_of_neg (by simp [hp])]
/-- with an invariant -/
theorem lcRun_inv {tg : FG} {t : FT} {e : FE} (I : List D → List D → Sg → Prop)
    (step : ∀ d ds acc S, I (d :: ds) acc S → ∃ ρ1, tg d ρ = some ρ1 ∧ ∃ b S2, t ρ1 S = .ok b S2 ∧ (b = true → ∃ y S3, e ρ1 S2 = .ok y S3 ∧ acc.length < 16777216 ∧ I ds (acc ++ [y]) S3) ∧ (b = false → I ds acc S2)) :
    ∀ (ds acc : List D) (S : Sg), I ds acc S → ∃ acc' S', I [] acc' S' ∧ lcRun tg t e ρ ds acc S = .ok (.clist acc') S'
  | [], acc, S, h => ⟨acc, S, h, rfl⟩
  | d :: ds, acc, S, h => by
    obtain ⟨ρ1, e1, b, S2, e2, ht, hf⟩ := step d ds acc S h
    rw [lcRun_cons, e1, lcA_some, e2, ok_nox, ok_bind]
    cases b with
    | true =>
      obtain ⟨y, S3, e3, hl, h3⟩ := ht rfl
      rw [lcB_t, e3, ok_nox, ok_bind, lcC_at, if_pos hl]
      exact lcRun_inv I step ds _ S3 h3
    | false => rw [lcB_f]; exact lcRun_inv I step ds _ S2 (hf rfl)
/-! loops over given items -/
def forRun (tg : FG) (g : FS) : List D → FS
  | [], ρ, S => .nx ρ S
  | d :: ds, ρ, S => match tg d ρ with
    | some ρ1 => match g ρ1 S with
      | .nx ρ2 S2 => forRun tg g ds ρ2 S2
      | .ct ρ2 S2 => forRun tg g ds ρ2 S2
      | .bk ρ2 S2 => .nx ρ2 S2
      | o => o
    | none => .stuck
theorem forGo_run {tg : FG} {g : FS} {ds : List D} : ∀ (k i : Nat) (ρ : Ev) (S : Sg), i + k = ds.length → forGo (.its ds) tg g k i ρ S = forRun tg g (ds.drop i) ρ S
  | 0, i, ρ, S, h => by
    have hi : i = ds.length := by omega
    subst hi
    unfold forGo
    simp [srcAt, forRun]
  | k + 1, i, ρ, S, h => by
    have hi : i < ds.length := by omega
    have hs : srcAt S (.its ds) i = some (some ds[i]) := by simp [srcAt, hi]
    unfold forGo
    rw [List.drop_eq_getElem_cons hi]
    simp only [hs, forRun]
    cases tg ds[i] ρ with
    | none => rfl
    | some ρ1 =>
      simp only
      cases g ρ1 S with
      | nx ρ2 S2 => exact forGo_run k (i + 1) ρ2 S2 (by omega)
      | ct ρ2 S2 => exact forGo_run k (i + 1) ρ2 S2 (by omega)
      | _ => rfl
@[simp] theorem kFor_its {tg : FG} {g : FS} {ds : List D} : kFor tg g ρ (.its ds) S = forRun tg g ds ρ S := forGo_run ds.length 0 ρ S (by omega)
def frB (tg : FG) (g : FS) (ds : List D) : Fl → Fl
  | .nx ρ2 S2 => forRun tg g ds ρ2 S2
  | .ct ρ2 S2 => forRun tg g ds ρ2 S2
  | .bk ρ2 S2 => .nx ρ2 S2
  | o => o
def frA (tg : FG) (g : FS) (ds : List D) (S : Sg) : Option Ev → Fl
  | some ρ1 => frB tg g ds (g ρ1 S)
  | none => .stuck
@[simp] theorem forRun_nil {tg : FG} {g : FS} : forRun tg g [] ρ S = .nx ρ S := rfl
@[simp] theorem forRun_cons {tg : FG} {g : FS} {d : D} {ds : List D} : forRun tg g (d :: ds) ρ S = frA tg g ds S (tg d ρ) := by
  unfold frA frB
  rw [forRun]
  first
  | done
  | (cases tg d ρ with
    | none => rfl
    | some ρ1 => cases g ρ1 S <;> rfl)
@[simp] theorem frA_some {tg : FG} {g : FS} {ds : List D} {ρ1 : Ev} : frA tg g ds S (some ρ1) = frB tg g ds (g ρ1 S) := rfl
@[simp] theorem frB_nx {tg : FG} {g : FS} {ds : List D} : frB tg g ds (.nx ρ S) = forRun tg g ds ρ S := rfl
@[simp] theorem frB_ct {tg : FG} {g : FS} {ds : List D} : frB tg g ds (.ct ρ S) = forRun tg g ds ρ S := rfl
@[simp] theorem frB_bk {tg : FG} {g : FS} {ds : List D} : frB tg g ds (.bk ρ S) = .nx ρ S := rfl
@[simp] theorem frB_rt {tg : FG} {g : FS} {ds : List D} {d : D} : frB tg g ds (.rt d S) = .rt d S := rfl
/-- a loop that ends in a wanted way: I ahead of the rest of the items -/
theorem forRun_inv {tg : FG} {g : FS} (I : List D → Ev → Sg → Prop) (Z : Fl → Prop) (done : ∀ ρ S, I [] ρ S → Z (.nx ρ S))
    (step : ∀ d ds ρ S, I (d :: ds) ρ S → ∃ ρ1, tg d ρ = some ρ1 ∧ ((∃ ρ2 S2, (g ρ1 S = .nx ρ2 S2 ∨ g ρ1 S = .ct ρ2 S2) ∧ I ds ρ2 S2) ∨ (∃ ρ2 S2, g ρ1 S = .bk ρ2 S2 ∧ Z (.nx ρ2 S2)) ∨ (∃ d S2, g ρ1 S = .rt d S2 ∧ Z (.rt d S2)))) :
    ∀ (ds : List D) (ρ : Ev) (S : Sg), I ds ρ S → Z (forRun tg g ds ρ S)
  | [], ρ, S, h => done ρ S h
  | d :: ds, ρ, S, h => by
    obtain ⟨ρ1, e1, hr⟩ := step d ds ρ S h
    rw [forRun_cons, e1, frA_some]
    rcases hr with ⟨ρ2, S2, e2 | e2, h2⟩ | ⟨ρ2, S2, e2, h2⟩ | ⟨d, S2, e2, h2⟩
    · rw [e2]; exact forRun_inv I Z done step ds ρ2 S2 h2
    · rw [e2]; exact forRun_inv I Z done step ds ρ2 S2 h2
    · rw [e2]; exact h2
    · rw [e2]; exact h2
/-! targets -/
def asgAt (S : Sg) : Option Ev → Fl
  | some ρ => .nx ρ S
  | none => .stuck
def kAsg (fg : FG) (ρ : Ev) (d : D) (S : Sg) : Fl := asgAt S (fg d ρ)
@[simp] theorem sAsg_at {fg : FG} {f : FE} : sAsg fg f ρ S = (f ρ S).go ρ (kAsg fg ρ) := by
  unfold sAsg
  first
  | rfl
  | congr 1
    funext d S
    unfold kAsg asgAt
    cases fg d ρ <;> rfl
@[simp] theorem kAsg_at {fg : FG} {d : D} : kAsg fg ρ d S = asgAt S (fg d ρ) := rfl
@[simp] theorem asgAt_some : asgAt S (some ρ) = .nx ρ S := rfl
@[simp] theorem gTp_tup {n : Nat} {fg : FGs} {xs : List D} : gTp n fg (.tup xs) ρ = if xs.length = n then fg xs ρ else none := rfl
@[simp] theorem gTp_ktup {n : Nat} {fg : FGs} {xs : List D} : gTp n fg (.ktup xs) ρ = if xs.length = n then fg xs ρ else none := rfl
@[simp] theorem gsN_nil : gsN [] ρ = some ρ := rfl
@[simp] theorem gsC_cons {g : FG} {gs : FGs} {d : D} {r : List D} : gsC g gs (d :: r) ρ = (g d ρ).bind (gs r) := rfl
def asgXAt : R Ev → Fl
  | .ok ρ S => .nx ρ S
  | _ => .stuck
def kAsgX (fg : FGx) (ρ : Ev) (d : D) (S : Sg) : Fl := asgXAt (fg d ρ S)
@[simp] theorem sAsgX_at {fg : FGx} {f : FE} : sAsgX fg f ρ S = (f ρ S).go ρ (kAsgX fg ρ) := by
  unfold sAsgX
  first
  | rfl
  | congr 1
    funext d S
    unfold kAsgX asgXAt
    cases fg d ρ S <;> rfl
@[simp] theorem kAsgX_at {fg : FGx} {d : D} : kAsgX fg ρ d S = asgXAt (fg d ρ S) := rfl
@[simp] theorem asgXAt_ok : asgXAt (.ok ρ S) = .nx ρ S := rfl
@[simp] theorem gxNm_at {i : Nat} {d : D} : gxNm i d ρ S = .ok (ρ.set i (some d)) S := rfl
@[simp] theorem gxTp_tup {n : Nat} {fg : FGxs} {xs : List D} : gxTp n fg (.tup xs) ρ S = if xs.length = n then fg xs ρ S else .stuck := rfl
@[simp] theorem gxsN_nil : gxsN [] ρ S = .ok ρ S := rfl
@[simp] theorem gxsC_cons {g : FGx} {gs : FGxs} {d : D} {r : List D} : gxsC g gs (d :: r) ρ S = (g d ρ S).bind (gs r) := rfl
def sxAt (ρ : Ev) : Option Sg → R Ev
  | some S => .ok ρ S
  | none => .stuck
def kSx2 (ρ : Ev) (d o i : D) (S : Sg) : R Ev := sxAt ρ (storeD o i d S)
def kSx1 (fi : FE) (ρ : Ev) (d o : D) (S : Sg) : R Ev := (fi ρ S).nox.bind (kSx2 ρ d o)
@[simp] theorem gxSub_at {fo fi : FE} {d : D} : gxSub fo fi d ρ S = (fo ρ S).nox.bind (kSx1 fi ρ d) := by
  unfold gxSub
  first
  | rfl
  | congr 1
    funext o S
    unfold kSx1
    congr 1
    funext i S
    unfold kSx2 sxAt
    cases storeD o i d S <;> rfl
@[simp] theorem kSx1_at {fi : FE} {d o : D} : kSx1 fi ρ d o S = (fi ρ S).nox.bind (kSx2 ρ d o) := rfl
@[simp] theorem kSx2_at {d o i : D} : kSx2 ρ d o i S = sxAt ρ (storeD o i d S) := rfl
@[simp] theorem sxAt_some : sxAt ρ (some S) = .ok ρ S := rfl
/-! several names at once -/
def kPar2 (i j : Nat) (ρ : Ev) : List D → Sg → Fl
  | [a, b], S => .nx ((ρ.set i (some a)).set j (some b)) S
  | _, _ => .stuck
@[simp] theorem sPar2_at {i j : Nat} {g : FA} : sPar2 i j g ρ S = (g ρ S).go ρ (kPar2 i j ρ) := by
  unfold sPar2
  first
  | rfl
  | congr 1
    funext ds S
    unfold kPar2
    split <;> first | rfl | (split <;> simp_all)
@[simp] theorem kPar2_at {i j : Nat} {a b : D} : kPar2 i j ρ [a, b] S = .nx ((ρ.set i (some a)).set j (some b)) S := rfl
def kPar3 (i j l : Nat) (ρ : Ev) : List D → Sg → Fl
  | [a, b, c], S => .nx (((ρ.set i (some a)).set j (some b)).set l (some c)) S
  | _, _ => .stuck
@[simp] theorem sPar3_at {i j l : Nat} {g : FA} : sPar3 i j l g ρ S = (g ρ S).go ρ (kPar3 i j l ρ) := by
  unfold sPar3
  first
  | rfl
  | congr 1
    funext ds S
    unfold kPar3
    split <;> first | rfl | (split <;> simp_all)
@[simp] theorem kPar3_at {i j l : Nat} {a b c : D} : kPar3 i j l ρ [a, b, c] S = .nx (((ρ.set i (some a)).set j (some b)).set l (some c)) S := rfl
def augAt (i : Nat) (h : F2) (f : FE) (ρ : Ev) (S : Sg) : Option (Option D) → Fl
  | some (some d) => (f ρ S).go ρ fun e S1 => (h d e S1).go ρ fun z S2 => .nx (ρ.set i (some z)) S2
  | _ => .stuck
def kAug2 (i : Nat) (ρ : Ev) (z : D) (S : Sg) : Fl := .nx (ρ.set i (some z)) S
def kAug1 (i : Nat) (h : F2) (ρ : Ev) (d e : D) (S : Sg) : Fl := (h d e S).go ρ (kAug2 i ρ)
@[simp] theorem sAug_at {i : Nat} {h : F2} {f : FE} : sAug i h f ρ S = augAt i h f ρ S ρ[i]? := by
  unfold sAug augAt
  split <;> simp_all
@[simp] theorem augAt_some {i : Nat} {h : F2} {f : FE} {d : D} : augAt i h f ρ S (some (some d)) = (f ρ S).go ρ (kAug1 i h ρ d) := rfl
@[simp] theorem kAug1_at {i : Nat} {h : F2} {d e : D} : kAug1 i h ρ d e S = (h d e S).go ρ (kAug2 i ρ) := rfl
@[simp] theorem kAug2_at {i : Nat} {z : D} : kAug2 i ρ z S = .nx (ρ.set i (some z)) S := rfl
@[simp] theorem fI_int {p : Int → Int → D} {i j : Int} : fI p (.int i) (.int j) S = .ok (p i j) S := rfl
/-! dicts by written keys -/
@[simp] theorem ofS_iff {s t : String} : (Str.ofString s = Str.ofString t) ↔ s = t := ⟨ofS_inj, fun h => by rw [h]⟩
@[simp] theorem getK_nil {κ : Type} [DecidableEq κ] {k : κ} : getK ([] : List (κ × D)) k = none := rfl
@[simp] theorem getK_cons {κ : Type} [DecidableEq κ] {k k' : κ} {d : D} {r : List (κ × D)} : getK ((k', d) :: r) k = if k' = k then some d else getK r k := by
  unfold getK
  by_cases h : k' = k <;> simp [h]
@[simp] theorem mergeD_1 {k : Key} {x : D} : mergeD [(k, x)] = [(k, x)] := rfl
@[simp] theorem mergeD_s2 {a b : String} {x y : D} (h : a ≠ b) : mergeD [(.inr (Str.ofString a), x), (.inr (Str.ofString b), y)] = [(.inr (Str.ofString a), x), (.inr (Str.ofString b), y)] := by
  simp [mergeD, putD, h]
@[simp] theorem mergeD_s3 {a b c : String} {x y z : D} (h : a ≠ b) (h1 : a ≠ c) (h2 : b ≠ c) : mergeD [(.inr (Str.ofString a), x), (.inr (Str.ofString b), y), (.inr (Str.ofString c), z)] = [(.inr (Str.ofString a), x), (.inr (Str.ofString b), y), (.inr (Str.ofString c), z)] := by
  simp [mergeD, putD, h, h1, h2]
@[simp] theorem mergeD_s4 {a b c d : String} {x y z w : D} (h : a ≠ b) (h1 : a ≠ c) (h2 : b ≠ c) (h3 : a ≠ d) (h4 : b ≠ d) (h5 : c ≠ d) : mergeD [(.inr (Str.ofString a), x), (.inr (Str.ofString b), y), (.inr (Str.ofString c), z), (.inr (Str.ofString d), w)] = [(.inr (Str.ofString a), x), (.inr (Str.ofString b), y), (.inr (Str.ofString c), z), (.inr (Str.ofString d), w)] := by
  simp [mergeD, putD, h, h1, h2, h3, h4, h5]
@[simp] theorem mergeD_i2 {a b : Int} {x y : D} (h : a ≠ b) : mergeD [(.inl a, x), (.inl b, y)] = [(.inl a, x), (.inl b, y)] := by
  simp [mergeD, putD, h]
/-! built-ins -/
@[simp] theorem cTuple_clist {xs : List D} : cTuple [.clist xs] S = .ok (.tup xs) S := rfl
@[simp] theorem cTuple_tup {xs : List D} : cTuple [.tup xs] S = .ok (.tup xs) S := rfl
theorem cLen_slist {ns : List Int} : cLen [.slist ns] S = .ok (.int ns.length) S := by
  simp [cLen, itemsD]
@[simp] theorem fIx_slist {ns : List Int} {e : D} : fIx (.slist ns) e S = ixSeq S (ns.map .int) e := rfl
@[simp] theorem isL_clist {xs : List D} : isL S (.clist xs) = true := rfl
@[simp] theorem truD_clist {xs : List D} : truD S (.clist xs) = some (!xs.isEmpty) := rfl
@[simp] theorem truD_ktup {xs : List D} : truD S (.ktup xs) = some (!xs.isEmpty) := rfl
theorem okD_str {n : Nat} {a : String} : okD n S (.str a) = true := by cases n <;> rfl
theorem eqB_str {n : Nat} {a b : String} : eqB n S (.str a) (.str b) = decide (a = b) := by cases n <;> rfl
theorem inF_lst {neg : Bool} {a : String} {ss : List String} : fInF neg (.str a) (.clist (ss.map D.str)) S = .ok (.bl (neg != ss.any fun b => decide (b = a))) S := by
  unfold fInF
  simp only [shD, okD_str, Bool.true_and, List.all_map, List.any_map, Function.comp_def, eqB_str]
  rw [if_pos (by simp)]
theorem inF_ktup {neg : Bool} {a : String} {ss : List String} : fInF neg (.str a) (.ktup (ss.map D.str)) S = .ok (.bl (neg != ss.any fun b => decide (b = a))) S := by
  unfold fInF
  simp only [shD, okD_str, Bool.true_and, List.all_map, List.any_map, Function.comp_def, eqB_str]
  rw [if_pos (by simp)]
theorem inF_tup {neg : Bool} {a : String} {ss : List String} : fInF neg (.str a) (.tup (ss.map D.str)) S = .ok (.bl (neg != ss.any fun b => decide (b = a))) S := by
  unfold fInF
  simp only [shD, okD_str, Bool.true_and, List.all_map, List.any_map, Function.comp_def, eqB_str]
  rw [if_pos (by simp)]
/-! undecided bools -/
section
variable {α β : Type} {c : Prop} [Decidable c]
@[simp] theorem ite_bind {x y : R α} {k : α → Sg → R β} : (if c then x else y).bind k = if c then x.bind k else y.bind k := by split <;> rfl
@[simp] theorem ite_go {x y : R α} {k : α → Sg → Fl} : (if c then x else y).go ρ k = if c then x.go ρ k else y.go ρ k := by split <;> rfl
@[simp] theorem ite_nox {x y : R α} : (if c then x else y).nox = if c then x.nox else y.nox := by split <;> rfl
@[simp] theorem ite_seq {x y : Fl} {h : FS} : (if c then x else y).seq h = if c then x.seq h else y.seq h := by split <;> rfl
@[simp] theorem ite_ret {x y : Fl} : (if c then x else y).ret = if c then x.ret else y.ret := by split <;> rfl
@[simp] theorem ite_frB {tg : FG} {g : FS} {ds : List D} {x y : Fl} : frB tg g ds (if c then x else y) = if c then frB tg g ds x else frB tg g ds y := by split <;> rfl
@[simp] theorem ite_ok {x y : α} : (if c then R.ok x S else R.ok y S) = R.ok (if c then x else y) S := by split <;> rfl
@[simp] theorem ite_bl {x y : Bool} : (if c then D.bl x else D.bl y) = D.bl (if c then x else y) := by split <;> rfl
@[simp] theorem ite_str {x y : String} : (if c then D.str x else D.str y) = D.str (if c then x else y) := by split <;> rfl
end
@[simp] theorem kIf_b {g h : FS} {b : Bool} : kIf g h ρ b S = if b = true then g ρ S else h ρ S := by cases b <;> rfl
@[simp] theorem kXif_b {f g : FE} {b : Bool} : kXif f g ρ b S = if b = true then f ρ S else g ρ S := by cases b <;> rfl
@[simp] theorem kAndF_b {g : FT} {b : Bool} : kAndF g ρ b S = if b = true then g ρ S else .ok false S := by cases b <;> rfl
@[simp] theorem kOrF_b {g : FT} {b : Bool} : kOrF g ρ b S = if b = true then .ok true S else g ρ S := by cases b <;> rfl
@[simp] theorem andAt_b {g : FE} {d : D} {b : Bool} : andAt g ρ d S (some b) = if b = true then g ρ S else .ok d S := by cases b <;> rfl
@[simp] theorem orAt_b {g : FE} {d : D} {b : Bool} : orAt g ρ d S (some b) = if b = true then .ok d S else g ρ S := by cases b <;> rfl
@[simp] theorem kCh3_b {h' : F2} {k : FE} {e : D} {b : Bool} : kCh3 h' k ρ e (.bl b) S = if b = true then (k ρ S).bind (h' e) else .ok (.bl false) S := by cases b <;> rfl
@[simp] theorem lcB_b {tg : FG} {t : FT} {e : FE} {ds acc : List D} {ρ1 : Ev} {b : Bool} : lcB tg t e ρ ρ1 ds acc b S = if b = true then (e ρ1 S).nox.bind (lcC tg t e ρ ds acc) else lcRun tg t e ρ ds acc S := by cases b <;> rfl
@[simp] theorem len_ite {α : Type} {c : Prop} [Decidable c] {xs ys : List α} : (if c then xs else ys).length = if c then xs.length else ys.length := by split <;> rfl
@[simp] theorem add_iteN {c : Prop} [Decidable c] {a x y : Nat} : a + (if c then x else y) = if c then a + x else a + y := by split <;> rfl
@[simp] theorem ite_addN {c : Prop} [Decidable c] {a x y : Nat} : (if c then x else y) + a = if c then x + a else y + a := by split <;> rfl
@[simp] theorem ite_leN {c : Prop} [Decidable c] {a x y : Nat} : ((if c then x else y) ≤ a) = if c then x ≤ a else y ≤ a := by split <;> rfl
@[simp] theorem fMulFF_p {c : Prop} [Decidable c] {d : D} : fMulFF (.clist [d]) (.int (if c then 1 else 0)) S = .ok (.clist (if c then [d] else [])) S := by split <;> rfl
/-- a loop that answers True at the first thing of a kind, and False behind it -/
theorem for_any {α : Type} {tg : FG} {g : FS} (enc : α → D) (P : α → Bool) (I : Ev → Prop) : ∀ (xs : List α) (ρ : Ev), I ρ → (∀ x ∈ xs, ∀ ρ, I ρ → ∃ ρ1, tg (enc x) ρ = some ρ1 ∧ (P x = true → g ρ1 S = .rt (.bl true) S) ∧ (P x = false → ∃ ρ2, g ρ1 S = .nx ρ2 S ∧ I ρ2)) →
    (xs.any P = true ∧ forRun tg g (xs.map enc) ρ S = .rt (.bl true) S) ∨ (xs.any P = false ∧ ∃ ρ', I ρ' ∧ forRun tg g (xs.map enc) ρ S = .nx ρ' S)
  | [], ρ, h, _ => .inr ⟨rfl, ρ, h, rfl⟩
  | x :: xs, ρ, h, k => by
    obtain ⟨ρ1, e1, e2, e3⟩ := k x (by simp) ρ h
    rw [List.map_cons, forRun_cons, e1, frA_some, List.any_cons]
    cases hp : P x with
    | true => rw [e2 hp]; exact .inl ⟨rfl, rfl⟩
    | false =>
      obtain ⟨ρ2, e4, h2⟩ := e3 hp
      rw [e4, frB_nx]
      simpa using for_any enc P I xs ρ2 h2 fun y hy => k y (by simp [hy])
theorem for_any_ret {α : Type} {tg : FG} {g : FS} {enc : α → D} {xs : List α} (P : α → Bool) (I : Ev → Prop) (h : I ρ) (k : ∀ x ∈ xs, ∀ ρ, I ρ → ∃ ρ1, tg (enc x) ρ = some ρ1 ∧ (P x = true → g ρ1 S = .rt (.bl true) S) ∧ (P x = false → ∃ ρ2, g ρ1 S = .nx ρ2 S ∧ I ρ2)) :
    ((forRun tg g (xs.map enc) ρ S).seq (sRet (xC (.bl false)))).ret = .ok (.bl (xs.any P)) S := by
  rcases for_any enc P I xs ρ h k with ⟨a, b⟩ | ⟨a, ρ', _, b⟩ <;> rw [a, b] <;> rfl
/-! calls that forget -/
theorem Keeps.refl : Keeps S S := fun i o h => ⟨o, h, .inl rfl⟩
theorem Keeps.app {T : Sg} : Keeps S (S ++ T) := fun i o h => ⟨o, by rw [List.getElem?_append_left (List.getElem?_eq_some_iff.mp h).1]; exact h, .inl rfl⟩
theorem gcF_same {F : FF} {ds : List D} {d : D} {S1 : Sg} (h : F ds S = .ok d S1) (hl : S1.length = S.length) : gcF F ds S = .ok d S1 := by
  unfold gcF
  rw [h]
  simp only [gcR, if_pos hl]
theorem gcF_drop {F : FF} {ds : List D} {d : D} {T : Sg} (h : F ds S = .ok d (S ++ T)) (hb : bel S.length d = true) : gcF F ds S = .ok d S := by
  unfold gcF
  rw [h]
  simp only [gcR]
  split
  · rename_i hl
    have : T = [] := by simpa using hl
    subst this
    simp
  · simp [Keeps.app, hb]
theorem gcF_list {F : FF} {ds : List D} {T : Sg} {k : Nat} {xs : List D} (h : F ds S = .ok (.ref k) (S ++ T)) (hk : S.length ≤ k) (hx : (S ++ T)[k]? = some (.lst xs)) (hb : belA S.length xs = true) : gcF F ds S = .ok (.clist xs) S := by
  unfold gcF
  rw [h]
  simp only [gcR]
  split
  · rename_i hl
    have : T = [] := by simpa using hl
    subst this
    rw [List.getElem?_eq_none (by simpa using hk)] at hx
    cases hx
  · rw [if_pos Keeps.app, if_neg (by simp only [bel, decide_eq_true_eq]; omega)]
    simp only [frzN, hx]
    rw [if_pos ⟨hk, hb⟩]
    simp
/-- older objects may have changed -/
theorem gcF_keep {F : FF} {ds : List D} {d : D} {S1 : Sg} (h : F ds S = .ok d S1) (k : Keeps S S1) (hb : bel S.length d = true) : gcF F ds S = .ok d (S1.take S.length) := by
  unfold gcF
  rw [h]
  simp only [gcR]
  split
  · rename_i hl
    rw [← hl, List.take_length]
  · simp [k, hb]
end
end Dx

/-! Sz: rows for errors, lambdas. -/
namespace Dx
open PySem L2
section
variable {α β : Type} {c : Nat} {fs : List (String × D)} {ρ ρ' : Ev} {S : Sg}
@[simp] theorem exc_go {k : α → Sg → Fl} : (R.exc c fs S : R α).go ρ k = .exc c fs ρ S := rfl
@[simp] theorem seq_exc {h : FS} : (Fl.exc c fs ρ S).seq h = .exc c fs ρ S := rfl
@[simp] theorem ret_exc : (Fl.exc c fs ρ S).ret = .exc c fs S := rfl
@[simp] theorem frB_exc {tg : FG} {g : FS} {ds : List D} : frB tg g ds (.exc c fs ρ S) = .exc c fs ρ S := rfl
def kCallA (F : (Nat → Sg → R D) → FF) (bodies : Nat → FE) (ρ : Ev) (ds : List D) (S : Sg) : R D := if ds.length = 1 then F (fun n S => bodies n ρ S) ds S else .stuck
@[simp] theorem xCallA_at {F : (Nat → Sg → R D) → FF} {bodies : Nat → FE} {g : FA} : xCallA F bodies g ρ S = (g ρ S).bind (kCallA F bodies ρ) := rfl
@[simp] theorem kCallA_at {F : (Nat → Sg → R D) → FF} {bodies : Nat → FE} {d : D} : kCallA F bodies ρ [d] S = F (fun n S => bodies n ρ S) [d] S := rfl
end
theorem nf_of {K : PySem.W.Frag} {x f : Str} {C : Addr} (_ : PySem.W.nsIn K mainGlobals x = some (some (.ref C))) (h : PySem.W.findIn K (.ref C) f = some none) : PySem.W.findIn K (.ref C) f = some none := h
@[simp] theorem kEf_none {a dd : Nat} {f : String} {S : Sg} {o : Option (Option D)} (h : ∀ a' d ks xs, o ≠ some (some (.exv a' d ks xs))) : kEf a dd f S o = .stuck := by
  match o with
  | none => rfl
  | some none => rfl
  | some (some d) => cases d <;> first | rfl | exact absurd rfl (h _ _ _ _)
end Dx

/-! So: rows for own objects, lists laid, minus. -/
namespace Dx
open PySem L2
section
variable {ρ : Ev} {S : Sg}
def fldAt (n : String) (c : Nat) (S : Sg) : Option O → R D
  | some (.obj c' fs) => if c' = c then outD S (getF fs n) else .stuck
  | _ => .stuck
def kFld1 (c : Nat) (n : String) : D → Sg → R D
  | .ref m, S => fldAt n c S S[m]?
  | _, _ => .stuck
@[simp] theorem xFld_at {c : Nat} {f : FE} {n : String} : xFld c f n ρ S = (f ρ S).bind (kFld1 c n) := by
  unfold xFld
  congr 1
  funext d S
  cases d <;> first | rfl | (simp only [kFld1, fldAt]; split <;> rename_i h <;> simp [h])
@[simp] theorem kFld1_ref {c m : Nat} {n : String} : kFld1 c n (.ref m) S = fldAt n c S S[m]? := rfl
@[simp] theorem fldAt_obj {n : String} {c : Nat} {fs : List (String × D)} : fldAt n c S (some (.obj c fs)) = outD S (getF fs n) := by simp [fldAt]
def fldSAt (n : String) (c : Nat) (ρ : Ev) (d : D) (m : Nat) (S : Sg) : Option O → Fl
  | some (.obj c' fs) => if c' = c ∧ fs.length < 1000 then .nx ρ (S.set m (.obj c' (putFD n d fs))) else .stuck
  | _ => .stuck
def kFldS2 (n : String) (c : Nat) (ρ : Ev) (d : D) : D → Sg → Fl
  | .ref m, S => fldSAt n c ρ d m S S[m]?
  | _, _ => .stuck
def kFldS1 (n : String) (c : Nat) (fo : FE) (ρ : Ev) (d : D) (S : Sg) : Fl := (fo ρ S).go ρ (kFldS2 n c ρ d)
@[simp] theorem sFldS_at {c : Nat} {f fo : FE} {n : String} : sFldS c f fo n ρ S = (f ρ S).go ρ (kFldS1 n c fo ρ) := by
  unfold sFldS
  congr 1
  funext d S
  unfold kFldS1
  congr 1
  funext o S
  cases o <;> first | rfl | (simp only [kFldS2, fldSAt]; split <;> rename_i h <;> simp [h])
@[simp] theorem kFldS1_at {n : String} {c : Nat} {fo : FE} {d : D} : kFldS1 n c fo ρ d S = (fo ρ S).go ρ (kFldS2 n c ρ d) := rfl
@[simp] theorem kFldS2_ref {n : String} {c m : Nat} {d : D} : kFldS2 n c ρ d (.ref m) S = fldSAt n c ρ d m S S[m]? := rfl
@[simp] theorem fldSAt_obj {n : String} {c m : Nat} {d : D} {fs : List (String × D)} (h : fs.length < 1000) : fldSAt n c ρ d m S (some (.obj c fs)) = .nx ρ (S.set m (.obj c (putFD n d fs))) := by simp [fldSAt, h]
def mkR (m : Nat) : R D → R D
  | .ok .non S => .ok (.ref m) S
  | .exc c fs S => .exc c fs S
  | _ => .stuck
def kMk (c n : Nat) (F : FF) (ds : List D) (S : Sg) : R D := if ds.length = n then mkR S.length (F (.ref S.length :: ds) (S ++ [.obj c []])) else .stuck
@[simp] theorem xMake_at {c n : Nat} {F : FF} {g : FA} : xMake c n F g ρ S = (g ρ S).bind (kMk c n F) := by
  unfold xMake
  congr 1
@[simp] theorem mkR_ok {m : Nat} : mkR m (.ok .non S) = .ok (.ref m) S := rfl
def kMe2 (n : Nat) (F : FF) (o : D) (ds : List D) (S : Sg) : R D := if ds.length = n then F (o :: ds) S else .stuck
def kMe1 (c : Nat) (m : String) (n : Nat) (F : FF) (g : FA) (ρ : Ev) (o : D) (S : Sg) : R D := if insD S c m o = true then (g ρ S).bind (kMe2 n F o) else .stuck
@[simp] theorem xMeth_at {c n : Nat} {m : String} {F : FF} {f : FE} {g : FA} : xMeth c m n F f g ρ S = (f ρ S).bind (kMe1 c m n F g ρ) := rfl
@[simp] theorem kMe1_at {c n : Nat} {m : String} {F : FF} {g : FA} {o : D} : kMe1 c m n F g ρ o S = if insD S c m o = true then (g ρ S).bind (kMe2 n F o) else .stuck := rfl
@[simp] theorem kMe2_at {n : Nat} {F : FF} {o : D} {ds : List D} : kMe2 n F o ds S = if ds.length = n then F (o :: ds) S else .stuck := rfl
@[simp] theorem cListD_tup {xs : List D} : cListD [.tup xs] S = newO (.lst xs) S := rfl
theorem mApp_at {n : Nat} {y : D} {xs : List D} (h : S[n]? = some (.lst xs)) (hl : xs.length < 16777216) : mApp (.ref n) [y] S = .ok .non (S.set n (.lst (xs ++ [y]))) := by
  unfold mApp
  simp [h, hl]
def kNeg : D → Sg → R D
  | .int i, S => .ok (.int (-i)) S
  | _, _ => .stuck
@[simp] theorem xNeg_at {f : FE} : xNeg f ρ S = (f ρ S).bind kNeg := by
  unfold xNeg
  congr 1
  funext d S
  cases d <;> rfl
@[simp] theorem kNeg_int {i : Int} : kNeg (.int i) S = .ok (.int (-i)) S := rfl
end
end Dx

/-! A1: the draws; values alike. -/
namespace Law
open Dx L2
/-! ### the row of draws -/
def RowO (ns : List Int) (p s r : Int) : O := .lst [.slist ns, .int p, .int s, .int r]
def IsRow (n : Nat) (S : Sg) : Prop := ∃ (ns : List Int) (p s r : Int), 0 ≤ p ∧ S[n]? = some (RowO ns p s r) ∧ ns.length ≤ 63
theorem IsRow.lt {n : Nat} {S : Sg} (h : IsRow n S) : n < S.length := by
  obtain ⟨ns, p, s, r, _, h, _⟩ := h
  exact (List.getElem?_eq_some_iff.mp h).1
/-- what a draw does to a store: the row stays a row, nothing else is changed -/
structure Dr (n : Nat) (S S' : Sg) : Prop where
  row : IsRow n S'
  len : S'.length = S.length
  keep : ∀ (i : Nat), i ≠ n → S'[i]? = S[i]?
theorem Dr.refl {n : Nat} {S : Sg} (h : IsRow n S) : Dr n S S := ⟨h, rfl, fun _ _ => rfl⟩
theorem Dr.trans {n : Nat} {S S1 S2 : Sg} (h : Dr n S S1) (k : Dr n S1 S2) : Dr n S S2 := ⟨k.row, k.len.trans h.len, fun i a => (k.keep i a).trans (h.keep i a)⟩
theorem Dr.set {n : Nat} {S : Sg} {o : O} (h : IsRow n (S.set n o)) : Dr n S (S.set n o) := ⟨h, by simp, fun i a => by rw [List.getElem?_set_ne (Ne.symm a)]⟩
theorem IsRow.app {n : Nat} {S T : Sg} (h : IsRow n S) : IsRow n (S ++ T) := by
  obtain ⟨ns, p, s, r, a, h, b⟩ := h
  exact ⟨ns, p, s, r, a, by rw [List.getElem?_append_left (List.getElem?_eq_some_iff.mp h).1]; exact h, b⟩
/-- a call that draws, and leaves things behind -/
theorem gcF_dr {n : Nat} {F : FF} {ds : List D} {d : D} {S S1 : Sg} (h : F ds S = .ok d S1) (hr : IsRow n S1) (hn : n < S.length) (hl : S.length ≤ S1.length) (keep : ∀ i, i < S.length → i ≠ n → S1[i]? = S[i]?) (hb : bel S.length d = true) : ∃ S', gcF F ds S = .ok d S' ∧ Dr n S S' := by
  refine ⟨S1.take S.length, gcF_keep h (fun i o ho => ?_) hb, ?_, ?_, fun i hi => ?_⟩
  · have hi := (List.getElem?_eq_some_iff.mp ho).1
    by_cases e : i = n
    · subst e
      obtain ⟨ns, p, s, r, _, h1, _⟩ := hr
      exact ⟨_, h1, .inr (by simp [RowO, belO, belA, bel])⟩
    · exact ⟨o, by rw [keep i hi e]; exact ho, .inl rfl⟩
  · obtain ⟨ns, p, s, r, a, h1, b⟩ := hr
    exact ⟨ns, p, s, r, a, by rw [List.getElem?_take_of_lt hn]; exact h1, b⟩
  · simp; omega
  · by_cases h2 : i < S.length
    · rw [List.getElem?_take_of_lt h2]; exact keep i h2 hi
    · rw [List.getElem?_eq_none (by simp; omega), List.getElem?_eq_none (by omega)]
theorem taken_spec {n : Nat} {S : Sg} {m : Int} (h : IsRow n S) (hm : 0 < m) (hm2 : m < 1073741824) : ∃ (i : Int) (o : O), 0 ≤ i ∧ i < m ∧ F__law_taken [.ref n, .int m] S = .ok (.int i) (S.set n o) ∧ IsRow n (S.set n o) := by
  obtain ⟨ns, p0, s, r, hp, hS, hl⟩ := h
  obtain ⟨p, rfl⟩ := Int.eq_ofNat_of_zero_le hp
  unfold RowO at hS
  have hn : n < S.length := (List.getElem?_eq_some_iff.mp hS).1
  have hset : ∀ o : O, (S.set n o)[n]? = some o := fun o => by simp [hn]
  by_cases h0 : 0 < r
  · refine ⟨r % m, .lst [.slist ns, .int p, .int s, .int (r / m)], Int.emod_nonneg _ (by omega), Int.emod_lt_of_pos _ hm, ?_, ?_⟩
    · unfold F__law_taken S__law_taken
      simp [hS, h0, hm, hm2]
    · exact ⟨ns, p, s, r / m, hp, hset _, hl⟩
  · by_cases h1 : (ns.length : Int) < p + 1
    · refine ⟨(s * 48271 + 11) % 2147483647 / 7 % m, .lst [.slist ns, .int (p + 1), .int ((s * 48271 + 11) % 2147483647), .int r], Int.emod_nonneg _ (by omega), Int.emod_lt_of_pos _ hm, ?_, ?_⟩
      · unfold F__law_taken S__law_taken
        simp [hS, h0, hm, hm2, hset, h1, cLen_slist]
      · exact ⟨ns, p + 1, (s * 48271 + 11) % 2147483647, r, by omega, hset _, hl⟩
    · have hlt : p < ns.length := by omega
      have hat : atI (ns.map D.int) p = some (.int ns[p]) := by
        rw [atI_cast]
        simp [hlt]
      generalize hc : ns[p] = c at hat
      by_cases h2 : 1000000000000000000 ≤ c
      · refine ⟨c % m, .lst [.slist ns, .int (p + 1), .int ((s * 48271 + c + 11) % 2147483647), .int (c / m)], Int.emod_nonneg _ (by omega), Int.emod_lt_of_pos _ hm, ?_, ?_⟩
        · unfold F__law_taken S__law_taken
          simp [hS, h0, hm, hm2, hset, h1, hat, h2, cLen_slist]
        · exact ⟨ns, p + 1, _, c / m, by omega, hset _, hl⟩
      · refine ⟨c % m, .lst [.slist ns, .int (p + 1), .int ((s * 48271 + c + 11) % 2147483647), .int r], Int.emod_nonneg _ (by omega), Int.emod_lt_of_pos _ hm, ?_, ?_⟩
        · unfold F__law_taken S__law_taken
          simp [hS, h0, hm, hm2, hset, h1, hat, h2, cLen_slist]
        · exact ⟨ns, p + 1, _, r, by omega, hset _, hl⟩
theorem taken_dr {n : Nat} {S : Sg} {m : Int} (h : IsRow n S) (hm : 0 < m) (hm2 : m < 1073741824) : ∃ (i : Nat) (S' : Sg), (i : Int) < m ∧ F__law_taken [.ref n, .int m] S = .ok (.int (i : Int)) S' ∧ Dr n S S' := by
  obtain ⟨i, o, h0, h1, h2, h3⟩ := taken_spec h hm hm2
  obtain ⟨j, rfl⟩ := Int.eq_ofNat_of_zero_le h0
  exact ⟨j, _, h1, h2, Dr.set h3⟩
theorem pick_lst {n : Nat} {S : Sg} {xs : List D} (h : IsRow n S) (h0 : 0 < xs.length) (h1 : xs.length < 1073741824) : ∃ (x : D) (S' : Sg), x ∈ xs ∧ F__law_pick [.ref n, .clist xs] S = .ok x S' ∧ Dr n S S' := by
  obtain ⟨i, S', a, b, c⟩ := taken_dr (m := xs.length) h (by omega) (by omega)
  have hi : i < xs.length := by omega
  refine ⟨xs[i], S', List.getElem_mem hi, ?_, c⟩
  unfold F__law_pick S__law_pick
  simp -implicitDefEqProofs [b, atI_cast, hi]
theorem pick_enc {α : Type} (enc : α → D) {n : Nat} {S : Sg} (xs : List α) (h : IsRow n S) (h0 : 0 < xs.length := by decide) (h1 : xs.length < 1073741824 := by decide) : ∃ (x : α) (S' : Sg), x ∈ xs ∧ F__law_pick [.ref n, .clist (xs.map enc)] S = .ok (enc x) S' ∧ Dr n S S' := by
  obtain ⟨x, S', a, b, c⟩ := pick_lst (xs := xs.map enc) h (by simpa using h0) (by simpa using h1)
  obtain ⟨y, hy, rfl⟩ := List.mem_map.mp a
  exact ⟨y, S', hy, b, c⟩
/-! ### alike -/
inductive Alk : Nat → D → D → Prop
  | non {n : Nat} : Alk n .non .non
  | bl {n : Nat} (b : Bool) : Alk n (.bl b) (.bl b)
  | int {n : Nat} (i : Int) : Alk n (.int i) (.int i)
  | str {n : Nat} (s : String) : Alk n (.str s) (.str s)
  | tup {n : Nat} {d e : D} {xs ys : List D} : tupOf d = some xs → tupOf e = some ys → xs.length = ys.length → (∀ (i : Nat) (x y : D), xs[i]? = some x → ys[i]? = some y → Alk n x y) → ys.length < 1000000 → Alk (n + 1) d e
  | lst {n : Nat} {xs ys : List D} : xs.length = ys.length → (∀ (i : Nat) (x y : D), xs[i]? = some x → ys[i]? = some y → Alk n x y) → ys.length < 1000000 → Alk (n + 1) (.clist xs) (.clist ys)
theorem ixSeq_get {S : Sg} {xs : List D} {i : Nat} {x : D} (h : xs[i]? = some x) : ixSeq S xs (.int i) = .ok x S := by
  rw [ixSeq_int, atI_cast, h]
  rfl
theorem intsD_map (n : Nat) : intsD 0 n = (List.range n).map fun i => D.int (i : Nat) := by
  unfold intsD
  simp
theorem alike_seq {n : Nat} {S : Sg} {d e : D} {xs ys : List D} (ih : ∀ (d e : D), Alk n d e → F__law_alike (n + 1) [d, e] S = .ok (.bl true) S) (hx : ∀ (i : Nat) (x : D), xs[i]? = some x → fIx d (.int (i : Nat)) S = .ok x S) (hy : ∀ (i : Nat) (y : D), ys[i]? = some y → fIx e (.int (i : Nat)) S = .ok y S) (hl : xs.length = ys.length)
    (hk : ∀ (i : Nat) (x y : D), xs[i]? = some x → ys[i]? = some y → Alk n x y) (hb : ys.length < 1000000) :
    kLcF [2] (gNm 2) (tNotF (tTru (xCall (F__law_alike (n + 1)) 2 (aCons (x2 fIx (xVar 0) (xVar 2)) (aCons (x2 fIx (xVar 1) (xVar 2)) aNil))))) (xVar 2) [some d, some e, none] (.its (intsD 0 ys.length)) S = .ok (.clist []) S := by
  rw [kLcF_its, intsD_map, lcRun_map (fun i : Nat => D.int i) (fun _ => false) (fun _ => .non)]
  · simp
  · intro i hi
    have hi := List.mem_range.mp hi
    have ex : xs[i]? = some xs[i] := by simp [hl, hi]
    have ey : ys[i]? = some ys[i] := by simp [hi]
    refine ⟨[some d, some e, some (.int i)], rfl, ?_, fun z => nomatch z⟩
    simp [hx _ _ ex, hy _ _ ey, ih _ _ (hk i _ _ ex ey)]
  · simp; omega
theorem tup_facts {d : D} {xs : List D} (h : tupOf d = some xs) : (∀ T : Sg, tyD T d = some "tuple") ∧ (∀ T : Sg, cLen [d] T = .ok (.int xs.length) T) ∧ ∀ (T : Sg) (e : D), fIx d e T = ixSeq T xs e := by
  cases d <;> simp [tupOf] at h <;> subst h <;> exact ⟨fun _ => rfl, fun _ => rfl, fun _ _ => rfl⟩
theorem eq_nil {V : Sg} : fEqF false (.clist []) (.clist []) V = .ok (.bl true) V := rfl
theorem alike_ok : ∀ (n : Nat) (S : Sg) (d e : D), Alk n d e → F__law_alike (n + 1) [d, e] S = .ok (.bl true) S := by
  intro n
  induction n with
  | zero =>
    intro S d e h
    unfold F__law_alike S__law_alike
    cases h <;> simp -implicitDefEqProofs [isaT, isNonD]
  | succ n ih =>
    intro S d e h
    cases h with
    | non => unfold F__law_alike S__law_alike; simp -implicitDefEqProofs [isaT, isNonD]
    | bl b => unfold F__law_alike S__law_alike; simp -implicitDefEqProofs [isaT, isNonD]
    | int i => unfold F__law_alike S__law_alike; simp -implicitDefEqProofs [isaT, isNonD]
    | str s => unfold F__law_alike S__law_alike; simp -implicitDefEqProofs [isaT, isNonD]
    | @tup _ _ _ xs ys a b c k l =>
      obtain ⟨d1, d2, d3⟩ := tup_facts a
      obtain ⟨e1, e2, e3⟩ := tup_facts b
      have hT := alike_seq (d := d) (e := e) (ih S) (fun i x hx => by rw [d3, ixSeq_get hx]) (fun i y hy => by rw [e3, ixSeq_get hy]) c k l
      have hk1 : ∀ S : Sg, kR1 [.int (ys.length : Nat)] S = .ok (.its (intsD 0 ys.length)) S := fun S => kR1_nat (by omega)
      unfold F__law_alike S__law_alike
      simp -implicitDefEqProofs [-kLcF_its, d1, e1, isaT, d2, e2, c, hk1, hT, eq_nil]
    | @lst _ xs ys c k l =>
      have hT := alike_seq (d := .clist xs) (e := .clist ys) (ih S) (fun i x hx => ixSeq_get hx) (fun i y hy => ixSeq_get hy) c k l
      have hk1 : ∀ S : Sg, kR1 [.int (ys.length : Nat)] S = .ok (.its (intsD 0 ys.length)) S := fun S => kR1_nat (by omega)
      unfold F__law_alike S__law_alike
      simp -implicitDefEqProofs [-kLcF_its, isaT, c, hk1, hT, eq_nil]
end Law

/-! Ec: the words of the document as finite types, and their pictures. -/
namespace Law
open Dx L2
inductive Rl where
  | feeds | used | same | cells | memory | shows | jump | any
  deriving DecidableEq, Inhabited
inductive Kd where
  | set | sum | get | put | if_ | show_
  deriving DecidableEq, Inhabited
inductive Et where
  | lay | read | make | write | out
  deriving DecidableEq, Inhabited
def Rl.s : Rl → String
  | .feeds => "feeds" | .used => "used" | .same => "same" | .cells => "cells" | .memory => "memory" | .shows => "shows" | .jump => "jump" | .any => "any"
def Kd.s : Kd → String
  | .set => "set" | .sum => "sum" | .get => "get" | .put => "put" | .if_ => "if" | .show_ => "show"
def Et.s : Et → String
  | .lay => "lay" | .read => "read" | .make => "make" | .write => "write" | .out => "out"
def Et.n : Et → Nat
  | .lay => 0 | .read => 1 | .make => 2 | .write => 3 | .out => 4
@[simp] theorem rl_feeds : Rl.feeds.s = "feeds" := rfl
@[simp] theorem rl_used : Rl.used.s = "used" := rfl
@[simp] theorem rl_same : Rl.same.s = "same" := rfl
@[simp] theorem rl_cells : Rl.cells.s = "cells" := rfl
@[simp] theorem rl_memory : Rl.memory.s = "memory" := rfl
@[simp] theorem rl_shows : Rl.shows.s = "shows" := rfl
@[simp] theorem rl_jump : Rl.jump.s = "jump" := rfl
@[simp] theorem rl_any : Rl.any.s = "any" := rfl
@[simp] theorem kd_set : Kd.set.s = "set" := rfl
@[simp] theorem kd_sum : Kd.sum.s = "sum" := rfl
@[simp] theorem kd_get : Kd.get.s = "get" := rfl
@[simp] theorem kd_put : Kd.put.s = "put" := rfl
@[simp] theorem kd_if : Kd.if_.s = "if" := rfl
@[simp] theorem kd_show : Kd.show_.s = "show" := rfl
@[simp] theorem et_lay : Et.lay.s = "lay" := rfl
@[simp] theorem et_read : Et.read.s = "read" := rfl
@[simp] theorem et_make : Et.make.s = "make" := rfl
@[simp] theorem et_write : Et.write.s = "write" := rfl
@[simp] theorem et_out : Et.out.s = "out" := rfl
theorem Rl.inj {a b : Rl} : a.s = b.s ↔ a = b := ⟨fun h => by cases a <;> cases b <;> first | rfl | (exact absurd h (by decide)), fun h => by rw [h]⟩
theorem Kd.inj {a b : Kd} : a.s = b.s ↔ a = b := ⟨fun h => by cases a <;> cases b <;> first | rfl | (exact absurd h (by decide)), fun h => by rw [h]⟩
theorem Et.inj {a b : Et} : a.s = b.s ↔ a = b := ⟨fun h => by cases a <;> cases b <;> first | rfl | (exact absurd h (by decide)), fun h => by rw [h]⟩
def Rl.alls : List Rl := [.feeds, .used, .same, .cells, .memory, .shows, .jump, .any]
def Kd.alls : List Kd := [.set, .sum, .get, .put, .if_, .show_]
def Et.alls : List Et := [.lay, .read, .make, .write, .out]
def Kd.wr : Kd → Bool
  | .set | .sum | .get => true
  | _ => false
/-- one a put, the other a get or put -/
def Kd.mem : Kd → Kd → Bool
  | .put, .get | .get, .put | .put, .put => true
  | _, _ => false
structure En where
  r : Rl
  a : Kd
  b : Kd
  p : Et
  q : Et
  deriving DecidableEq, Inhabited
def En.d (e : En) : D := .tup [.str e.r.s, .str e.a.s, .str e.b.s, .str e.p.s, .str e.q.s]
def canR (r : Rl) (a b : Kd) : Bool := match r with
  | .feeds => a.wr && b != .set
  | .used => a != .set && b.wr
  | .same => a.wr && b.wr
  | .cells => a.mem b
  | .memory => a.mem b
  | .shows => a == .show_ && b == .show_
  | .jump => a == .if_
  | .any => true
/-- holds for all instructions of these kinds -/
def allR (r : Rl) (a b : Kd) : Bool := match r with
  | .memory => a.mem b
  | .shows => a == .show_ && b == .show_
  | .jump => a == .if_
  | .any => true
  | _ => false
/-- one entry forces another one, of the same kinds, that can hold -/
def forcR (s e : En) : Bool :=
  decide (s.a = e.a ∧ s.b = e.b) && (decide (s.q.n ≤ e.q.n) && (((s.r == .cells && e.a.mem e.b) && e.p == .read) || ((s.r == e.r || allR s.r e.a e.b || ((s.r == .cells && e.a.mem e.b) && decide (s.q.n ≤ 1))) && decide (e.p.n ≤ s.p.n))))
structure Ds where
  w : Nat
  io : Bool
  hd : Bool
  h1 : Bool
  h2 : Bool
  h3 : Bool
  t : List En
  deriving Inhabited
/-- a home: false write, true out -/
def hm (b : Bool) : Et := if b then .out else .write
def Ds.homes (x : Ds) : D := .tup [.str (hm x.h1).s, .str (hm x.h2).s, .str (hm x.h3).s]
def Ds.d (x : Ds) : D := .tup [.int x.w, .bl x.io, .bl x.hd, x.homes, .tup (x.t.map En.d)]
def forcedR (x : Ds) (e : En) : Bool := !canR e.r e.a e.b || decide (x.w = 1) || (x.io && e.q == .out) || x.t.any fun s => forcR s e
end Law

/-! Ec2: entries in their order; needs. -/
namespace Law
open Dx L2
def Rl.k : Rl → Nat
  | .any => 0 | .cells => 1 | .feeds => 2 | .jump => 3 | .memory => 4 | .same => 5 | .shows => 6 | .used => 7
def Kd.k : Kd → Nat
  | .get => 0 | .if_ => 1 | .put => 2 | .set => 3 | .show_ => 4 | .sum => 5
def Et.k : Et → Nat
  | .lay => 0 | .make => 1 | .out => 2 | .read => 3 | .write => 4
def En.code (e : En) : Nat := (((e.r.k * 6 + e.a.k) * 6 + e.b.k) * 5 + e.p.k) * 5 + e.q.k
theorem Rl.k_lt (r : Rl) : r.k < 8 := by cases r <;> decide
theorem Kd.k_lt (r : Kd) : r.k < 6 := by cases r <;> decide
theorem Et.k_lt (r : Et) : r.k < 5 := by cases r <;> decide
theorem Rl.k_inj {a b : Rl} (h : a.k = b.k) : a = b := by cases a <;> cases b <;> first | rfl | (exact absurd h (by decide))
theorem Kd.k_inj {a b : Kd} (h : a.k = b.k) : a = b := by cases a <;> cases b <;> first | rfl | (exact absurd h (by decide))
theorem Et.k_inj {a b : Et} (h : a.k = b.k) : a = b := by cases a <;> cases b <;> first | rfl | (exact absurd h (by decide))
theorem Rl.lt (a b : Rl) : ltStr a.s b.s = decide (a.k < b.k) := by cases a <;> cases b <;> rfl
theorem Kd.lt (a b : Kd) : ltStr a.s b.s = decide (a.k < b.k) := by cases a <;> cases b <;> rfl
theorem Et.lt (a b : Et) : ltStr a.s b.s = decide (a.k < b.k) := by cases a <;> cases b <;> rfl
def En.ks (e : En) : List String := [e.r.s, e.a.s, e.b.s, e.p.s, e.q.s]
theorem En.code_inj {a b : En} (h : a.code = b.code) : a = b := by
  obtain ⟨r, x, y, p, q⟩ := a
  obtain ⟨r', x', y', p', q'⟩ := b
  simp only [En.code] at h
  have := r.k_lt; have := r'.k_lt; have := x.k_lt; have := x'.k_lt; have := y.k_lt; have := y'.k_lt; have := p.k_lt; have := p'.k_lt; have := q.k_lt; have := q'.k_lt
  have h1 : r.k = r'.k := by omega
  have h2 : x.k = x'.k := by omega
  have h3 : y.k = y'.k := by omega
  have h4 : p.k = p'.k := by omega
  have h5 : q.k = q'.k := by omega
  rw [Rl.k_inj h1, Kd.k_inj h2, Kd.k_inj h3, Et.k_inj h4, Et.k_inj h5]
theorem ltKs_code (a b : En) : ltKs a.ks b.ks = decide (a.code < b.code) := by
  obtain ⟨r, x, y, p, q⟩ := a
  obtain ⟨r', x', y', p', q'⟩ := b
  simp only [En.ks, ltKs, Rl.inj, Kd.inj, Et.inj, Rl.lt, Kd.lt, Et.lt]
  have := r.k_lt; have := r'.k_lt; have := x.k_lt; have := x'.k_lt; have := y.k_lt; have := y'.k_lt; have := p.k_lt; have := p'.k_lt; have := q.k_lt; have := q'.k_lt
  by_cases h1 : r = r'
  · subst h1
    rw [if_pos rfl]
    by_cases h2 : x = x'
    · subst h2
      rw [if_pos rfl]
      by_cases h3 : y = y'
      · subst h3
        rw [if_pos rfl]
        by_cases h4 : p = p'
        · subst h4
          rw [if_pos rfl]
          by_cases h5 : q = q'
          · subst h5; simp [ltKs]
          · rw [if_neg h5]; exact decide_eq_decide.mpr (by simp only [En.code]; omega)
        · rw [if_neg h4]
          have : p.k ≠ p'.k := fun z => h4 (Et.k_inj z)
          exact decide_eq_decide.mpr (by simp only [En.code]; omega)
      · rw [if_neg h3]
        have : y.k ≠ y'.k := fun z => h3 (Kd.k_inj z)
        exact decide_eq_decide.mpr (by simp only [En.code]; omega)
    · rw [if_neg h2]
      have : x.k ≠ x'.k := fun z => h2 (Kd.k_inj z)
      exact decide_eq_decide.mpr (by simp only [En.code]; omega)
  · rw [if_neg h1]
    have : r.k ≠ r'.k := fun z => h1 (Rl.k_inj z)
    exact decide_eq_decide.mpr (by simp only [En.code]; omega)
theorem keyT_en (e : En) : keyT e.d = some e.ks := rfl
theorem lt_en {S : Sg} (a b : En) : fLtF a.d b.d S = .ok (.bl (decide (a.code < b.code))) S := by
  unfold fLtF
  rw [keyT_en, keyT_en]
  simp only [ltKs_code]
def leE (a b : En) : Bool := decide (a.code ≤ b.code)
theorem leT_en (a b : En) : leT a.d b.d = leE a b := by
  unfold leT leE
  rw [keyT_en, keyT_en]
  simp only [Option.getD_some, ltKs_code]
  by_cases h : b.code < a.code
  · simp [h]
  · simp [h, Nat.le_of_not_lt h]
theorem leE_total : PySem.W.TotalLe leE where
  total a b := by
    unfold leE
    simp only [decide_eq_true_eq]
    omega
  trans a b c h1 h2 := by
    unfold leE at *
    simp only [decide_eq_true_eq] at *
    omega
/-- strictly ascending -/
def Asc (es : List En) : Prop := es.Pairwise fun a b => a.code < b.code
theorem asc_sort {es : List En} (h : es.Nodup) : Asc (insSort leE es) := by
  have h1 := insSort_pair leE_total es
  have h2 : (insSort leE es).Nodup := (insSort_perm leE es).nodup_iff.mpr h
  refine (List.Pairwise.and h1 h2).imp fun {a b} ⟨p, q⟩ => ?_
  unfold leE at p
  have := of_decide_eq_true p
  have : a.code ≠ b.code := fun z => q (En.code_inj z)
  omega
theorem Asc.ext : ∀ {l m : List En}, Asc l → Asc m → (∀ e, e ∈ l ↔ e ∈ m) → l = m
  | [], [], _, _, _ => rfl
  | [], b :: m, _, _, h => by have := (h b).mpr (by simp); simp at this
  | a :: l, [], _, _, h => by have := (h a).mp (by simp); simp at this
  | a :: l, b :: m, hl, hm, h => by
    obtain ⟨l1, l2⟩ := List.pairwise_cons.mp hl
    obtain ⟨m1, m2⟩ := List.pairwise_cons.mp hm
    have hab : a = b := by
      rcases List.mem_cons.mp ((h a).mp (by simp)) with e | e
      · exact e
      · rcases List.mem_cons.mp ((h b).mpr (by simp)) with e2 | e2
        · exact e2.symm
        · have := l1 b e2
          have := m1 a e
          omega
    subst hab
    rw [Asc.ext l2 m2 fun e => ⟨fun he => ?_, fun he => ?_⟩]
    · rcases List.mem_cons.mp ((h e).mp (List.mem_cons_of_mem _ he)) with e2 | e2
      · subst e2; have := l1 e he; omega
      · exact e2
    · rcases List.mem_cons.mp ((h e).mpr (List.mem_cons_of_mem _ he)) with e2 | e2
      · subst e2; have := m1 e he; omega
      · exact e2
theorem sort_same {l m : List En} (h1 : l.Nodup) (h2 : m.Nodup) (h : ∀ e, e ∈ l ↔ e ∈ m) : insSort leE l = insSort leE m :=
  Asc.ext (asc_sort h1) (asc_sort h2) fun e => ((insSort_perm leE l).mem_iff.trans (h e)).trans (insSort_perm leE m).mem_iff.symm
theorem Asc.nodup {l : List En} (h : Asc l) : l.Nodup := List.Pairwise.imp (fun {a b : En} (p : a.code < b.code) (z : a = b) => by subst z; omega) h
/-! ### needs -/
def homeR (x : Ds) (k : Kd) : Et := match k with
  | .put => hm x.h2
  | .show_ => hm x.h3
  | _ => hm x.h1
def needsU (x : Ds) : List En :=
  let m := [Kd.set, .sum, .get]
  let u := [Kd.sum, .get, .put, .if_, .show_]
  let h := hm x.h1
  let c := hm x.h2
  let o := hm x.h3
  (m.flatMap fun a => (u.map fun b => ⟨.feeds, a, b, if x.hd = true then .make else h, .read⟩) ++ (m.map fun b => ⟨.same, a, b, h, h⟩) ++ (u.map fun b => ⟨.used, b, a, .read, h⟩)) ++
  [⟨.cells, .put, .get, c, .make⟩, ⟨.cells, .get, .put, .make, c⟩, ⟨.cells, .put, .put, c, c⟩, ⟨.shows, .show_, .show_, o, o⟩] ++ (m ++ [Kd.put, .show_]).map fun b => ⟨.jump, .if_, b, .make, homeR x b⟩
@[irreducible] def needsR (x : Ds) : List En := insSort leE (needsU x)
@[irreducible] def missR (x : Ds) : List En := (needsR x).filter fun e => !forcedR x e
theorem needs_nodup (x : Ds) : (needsU x).Nodup := by
  obtain ⟨w, io, hd, h1, h2, h3, t⟩ := x
  have : ∀ hd h1 h2 h3 : Bool, (needsU ⟨0, false, hd, h1, h2, h3, []⟩).Nodup := by decide +kernel
  exact this hd h1 h2 h3
theorem insSort_len {α : Type} (le : α → α → Bool) (l : List α) : (insSort le l).length = l.length := (insSort_perm le l).length_eq
theorem needs_len (x : Ds) : (needsR x).length = 48 := by
  unfold needsR
  rw [insSort_len]
  rfl
theorem needs_asc (x : Ds) : Asc (needsR x) := by
  unfold needsR
  exact asc_sort (needs_nodup x)
theorem miss_asc (x : Ds) : Asc (missR x) := by
  unfold missR
  exact List.Pairwise.filter _ (needs_asc x)
theorem needs_p (x : Ds) : ∀ e ∈ needsR x, e.p ≠ .lay := by
  intro e he
  unfold needsR at he
  have he := (insSort_perm leE (needsU x)).mem_iff.mp he
  obtain ⟨w, io, hd, h1, h2, h3, t⟩ := x
  have : ∀ hd h1 h2 h3 : Bool, ∀ e ∈ (needsU ⟨0, false, hd, h1, h2, h3, []⟩), e.p ≠ .lay := by decide +kernel
  exact this hd h1 h2 h3 e he
theorem needs_can (x : Ds) : ∀ e ∈ needsR x, canR e.r e.a e.b = true := by
  intro e he
  unfold needsR at he
  have he := (insSort_perm leE (needsU x)).mem_iff.mp he
  obtain ⟨w, io, hd, h1, h2, h3, t⟩ := x
  have : ∀ hd h1 h2 h3 : Bool, ∀ e ∈ (needsU ⟨0, false, hd, h1, h2, h3, []⟩), canR e.r e.a e.b = true := by decide +kernel
  exact this hd h1 h2 h3 e he
theorem sorted_en {S : Sg} (es : List En) : cSortedF [.clist (es.map En.d)] S = .ok (.clist ((insSort leE es).map En.d)) S := by
  unfold cSortedF
  simp only [seqOf]
  rw [if_pos]
  · rw [show (insSort leE es).map En.d = insSort leT (es.map En.d) from insSort_map (le' := leT) En.d es fun a _ b _ => (leT_en a b).symm]
  · rw [List.all_map, List.all_eq_true]
    intro e _
    rfl
theorem sorted_pic {S : Sg} {ds : List D} {es : List En} (h : ds = es.map En.d) : cSortedF [.clist ds] S = .ok (.clist ((insSort leE es).map En.d)) S := by
  subst h
  exact sorted_en es
end Law

/-! P0: instructions, states, the plain machine, guessers, events: plain Lean. -/
namespace Law
open Dx L2
inductive In where
  | set (d v : Nat)
  | sum (d a b v : Nat)
  | get (d a k : Nat)
  | put (d a k : Nat)
  | iff (a t : Nat)
  | shw (a : Nat)
  deriving DecidableEq, Inhabited
def In.items : In → List D
  | .set d v => [.str "set", .int d, .int v]
  | .sum d a b v => [.str "sum", .int d, .int a, .int b, .int v]
  | .get d a k => [.str "get", .int d, .int a, .int k]
  | .put d a k => [.str "put", .int d, .int a, .int k]
  | .iff a t => [.str "if", .int a, .int t]
  | .shw a => [.str "show", .int a]
def In.d (i : In) : D := .tup i.items
def In.kd : In → Kd
  | .set _ _ => .set
  | .sum _ _ _ _ => .sum
  | .get _ _ _ => .get
  | .put _ _ _ => .put
  | .iff _ _ => .if_
  | .shw _ => .show_
/-- as an instruction of a program of n may be -/
def In.ok (n : Nat) : In → Prop
  | .set d v => d < 8 ∧ v < 256
  | .sum d a b v => d < 8 ∧ a < 8 ∧ b < 8 ∧ v < 256
  | .get d a k => d < 8 ∧ a < 8 ∧ k < 8
  | .put d a k => d < 8 ∧ a < 8 ∧ k < 8
  | .iff a t => a < 8 ∧ t ≤ n ∧ t ≤ 40
  | .shw a => a < 8
/-- the registers that an instruction uses -/
def In.us : In → List Nat
  | .set _ _ => []
  | .sum _ a b _ => [a, b]
  | .get _ a _ => [a]
  | .put d a _ => [a, d]
  | .iff a _ => [a]
  | .shw a => [a]
/-- the register that it writes -/
def In.w : In → Option Nat
  | .set d _ => some d
  | .sum d _ _ _ => some d
  | .get d _ _ => some d
  | _ => none
theorem In.w_kd (i : In) : i.w.isSome = i.kd.wr := by cases i <;> rfl
theorem In.us_lt {n : Nat} {i : In} (h : i.ok n) : ∀ r ∈ i.us, r < 8 := by
  cases i <;> simp [In.us, In.ok] at h ⊢ <;> omega
theorem In.w_lt {n : Nat} {i : In} (h : i.ok n) : ∀ r, i.w = some r → r < 8 := by
  cases i <;> simp [In.w, In.ok] at h ⊢ <;> omega
/-- the i-th, 0 behind the end -/
def at0 (l : List Int) (i : Nat) : Int := l.getD i 0
structure Stt where
  n : List Int
  c : List Int
  o : List Int
  deriving DecidableEq, Inhabited
structure Stt.ok (s : Stt) : Prop where
  n8 : s.n.length = 8
  c8 : s.c.length = 8
def cellM (s : Stt) (a k : Nat) : Nat := ((at0 s.n a + k) % 8).toNat
def stepM (s : Stt) (at_ : Nat) : In → Stt × Nat
  | .set d v => ({ s with n := s.n.set d v }, at_ + 1)
  | .sum d a b v => ({ s with n := s.n.set d ((at0 s.n a + at0 s.n b + v) % 256) }, at_ + 1)
  | .get d a k => ({ s with n := s.n.set d (at0 s.c (cellM s a k)) }, at_ + 1)
  | .put d a k => ({ s with c := s.c.set (cellM s a k) (at0 s.n d) }, at_ + 1)
  | .iff a t => (s, if at0 s.n a = 0 then t else at_ + 1)
  | .shw a => ({ s with o := s.o ++ [at0 s.n a] }, at_ + 1)
theorem stepM_ok {s : Stt} {at_ : Nat} {i : In} (h : s.ok) : (stepM s at_ i).1.ok := by
  cases i <;> exact ⟨by simp [stepM, h.n8], by simp [stepM, h.c8]⟩
theorem cell_lt (x : Int) (k : Nat) : ((x + k) % 8).toNat < 8 := by
  have := Int.emod_lt_of_pos (x + k) (show (0 : Int) < 8 by decide)
  have := Int.emod_nonneg (x + k) (show (8 : Int) ≠ 0 by decide)
  omega
theorem cellM_lt {s : Stt} {a k : Nat} : cellM s a k < 8 := cell_lt _ _
theorem cellM_int {s : Stt} {a k : Nat} : ((cellM s a k : Nat) : Int) = (at0 s.n a + k) % 8 := by
  unfold cellM
  have := Int.emod_nonneg (at0 s.n a + k) (show (8 : Int) ≠ 0 by decide)
  omega
/-! ### guessers, events -/
inductive Gs where
  | row (l : List Nat)
  | next
  | goal
  deriving DecidableEq, Inhabited
def guessM (g : Gs) (ifs goal fol many : Nat) : Nat := match g with
  | .row l => l.getD (ifs % l.length) 0 % (many + 1)
  | .next => fol
  | .goal => goal
inductive Vt where
  | lay
  | ev (e : Et) (k : Nat)
  deriving DecidableEq, Inhabited
/-- the event behind a number -/
def nextE : Nat → Et
  | 0 => .read
  | 1 => .make
  | 2 => .write
  | _ => .out
/-- the home of a kind -/
def homeO (x : Ds) (k : Kd) : Option Et := if k = .if_ then none else some (homeR x k)
end Law

/-! P1: the window, as the document says it: plain Lean. -/
namespace Law
open Dx L2
/-- an instruction that was laid -/
structure It where
  one : In
  num : Nat
  st : Nat
  gone : Bool
  guess : Option Nat
  words : List Int
  cell : Option Nat
  made : Option Int
  deriving DecidableEq, Inhabited
structure Wn where
  x : Ds
  P : List In
  g : Gs
  laid : List It
  nx : Nat
  ifs : Nat
  s : Stt
/-- is not thrown away and writes r -/
def It.writes (i : It) (r : Nat) : Bool := !i.gone && i.one.w == some r
/-- the place of the last one ahead of a place that writes r -/
def lastW (L : List It) (r : Nat) : Nat → Option Nat
  | 0 => none
  | n + 1 => if (L[n]?.any fun i => i.writes r) = true then some n else lastW L r n
/-- whether a relation holds between an earlier place k (the instruction one, its cell c1) and something (other, its cell c2) at a place -/
def holdsW (L : List It) (r : Rl) (k : Nat) (one : In) (c1 : Option Nat) (other : In) (c2 : Option Nat) (place : Nat) : Bool := match r with
  | .feeds => other.us.any fun n => lastW L n place == some k
  | .used => other.w.any fun n => one.us.contains n
  | .same => other.w.isSome && other.w == one.w
  | .cells => one.kd.mem other.kd && !(c1.isSome && c2.isSome && c1 != c2)
  | .memory => one.kd.mem other.kd
  | .shows => one.kd == .show_ && other.kd == .show_
  | .jump => one.kd == .if_
  | .any => true
/-- an entry holds back -/
def backW (L : List It) (e : En) (k : Nat) (el : It) (other : In) (c2 : Option Nat) (place : Nat) (q : Et) : Bool :=
  e.q == q && e.a == el.one.kd && e.b == other.kd && decide (el.st < e.p.n) && holdsW L e.r k el.one el.cell other c2 place
def mayW (W : Wn) (other : In) (c2 : Option Nat) (place : Nat) (q : Et) : Bool :=
  (List.range place).all fun k => W.laid[k]?.all fun el => el.gone || W.x.t.all fun e => !backW W.laid e k el other c2 place q
def It.here (i : It) : Bool := !i.gone && decide (i.st < 4)
def hereW (W : Wn) : List Nat := (List.range W.laid.length).filter fun k => W.laid[k]?.any It.here
def overW (W : Wn) : Bool := decide (W.nx = W.P.length) && (hereW W).isEmpty
def canLayW (W : Wn) : Bool := decide ((hereW W).length < W.x.w) && W.P[W.nx]?.any fun i => mayW W i none W.laid.length .lay
/-- whether the next event of place k (which is here) can come -/
def canGoW (W : Wn) (k : Nat) : Bool := W.laid[k]?.any fun i => mayW W i.one i.cell k (nextE i.st) && (nextE i.st != .out || !W.x.io || (hereW W).head? == some k)
def nextV (W : Wn) (k : Nat) : Vt := .ev (nextE (W.laid[k]?.elim 0 It.st)) k
def eventsW (W : Wn) : List Vt := (if canLayW W = true then [.lay] else []) ++ ((hereW W).filter (canGoW W)).map (nextV W)
/-! ### what events do -/
def layIt (W : Wn) (i : In) : It := ⟨i, W.nx, 0, false, match i with
  | .iff _ t => some (guessM W.g W.ifs t (W.nx + 1) W.P.length)
  | _ => none, [], none, none⟩
def layW (W : Wn) : Wn := match W.P[W.nx]? with
  | none => W
  | some i => match i with
    | .iff _ t => { W with laid := W.laid ++ [layIt W i], nx := guessM W.g W.ifs t (W.nx + 1) W.P.length, ifs := W.ifs + 1 }
    | _ => { W with laid := W.laid ++ [layIt W i], nx := W.nx + 1 }
/-- the word that place k reads from register r -/
def wordW (W : Wn) (k r : Nat) : Int := match (if W.x.hd = true then lastW W.laid r k else none) with
  | some j => match W.laid[j]? with
    | some e => if e.st = 2 ∨ e.st = 3 then e.made.getD 0 else at0 W.s.n r
    | none => at0 W.s.n r
  | none => at0 W.s.n r
def cellI : In → List Int → Option Nat
  | .get _ _ k, w => some ((at0 w 0 + k) % 8).toNat
  | .put _ _ k, w => some ((at0 w 0 + k) % 8).toNat
  | _, _ => none
def readIt (W : Wn) (k : Nat) (i : It) : It :=
  let ws := i.one.us.map (wordW W k)
  { i with words := ws, cell := (cellI i.one ws).or i.cell }
/-- the result of a writing kind -/
def madeI (s : Stt) (i : It) : Option Int := match i.one with
  | .set _ v => some v
  | .sum _ _ _ v => some ((at0 i.words 0 + at0 i.words 1 + v) % 256)
  | .get _ _ _ => some (at0 s.c (i.cell.getD 0))
  | _ => none
def realM (i : It) : Nat := match i.one with
  | .iff _ t => if at0 i.words 0 = 0 then t else i.num + 1
  | _ => 0
def goneFrom (L : List It) (k : Nat) : List It := L.mapIdx fun j i => if k < j then { i with gone := true } else i
def makeW (W : Wn) (k : Nat) (i : It) : Wn := match i.one with
  | .iff _ _ => if some (realM i) = i.guess then W else { W with laid := goneFrom W.laid k, nx := realM i }
  | _ => { W with laid := W.laid.set k { i with made := (madeI W.s i).orElse fun _ => i.made } }
def effW (s : Stt) (i : It) : Stt := match i.one with
  | .put _ _ _ => { s with c := s.c.set (i.cell.getD 0) (at0 i.words 1) }
  | .shw _ => { s with o := s.o ++ [at0 i.words 0] }
  | .set d _ => { s with n := s.n.set d (i.made.getD 0) }
  | .sum d _ _ _ => { s with n := s.n.set d (i.made.getD 0) }
  | .get d _ _ => { s with n := s.n.set d (i.made.getD 0) }
  | .iff _ _ => s
/-- the stage of place k goes on -/
def upW (W : Wn) (k : Nat) : Wn := { W with laid := W.laid.modify k fun i => { i with st := i.st + 1 } }
/-- the effect, if it is the home -/
def homeW (W : Wn) (k : Nat) (e : Et) : Wn := match W.laid[k]? with
  | none => W
  | some i => if homeO W.x i.one.kd = some e then { W with s := effW W.s i } else W
/-- the middle part of an event -/
def midW (W : Wn) (k : Nat) (i : It) : Et → Wn
  | .read => { W with laid := W.laid.set k (readIt W k i) }
  | .make => makeW W k i
  | _ => W
def evW (W : Wn) (k : Nat) (e : Et) : Wn := match W.laid[k]? with
  | none => W
  | some i => homeW (midW W k i e) k e
def doW (W : Wn) : Vt → Wn
  | .lay => layW W
  | .ev e k => evW (upW W k) k e
def outW (W : Wn) : Nat := (W.laid.filter fun i => !i.gone && decide (i.st = 4)).length
def beginW (x : Ds) (P : List In) (g : Gs) (s : Stt) : Wn := ⟨x, P, g, [], 0, 0, s⟩
end Law

/-! R0: tuples of either sort; the law's own window as it lies in a store. -/
namespace Law
open Dx L2
/-! ### tuples -/
theorem tp_cases {d : D} {xs : List D} (h : tupOf d = some xs) : d = .tup xs ∨ d = .ktup xs := by
  cases d <;> simp [tupOf] at h <;> subst h <;> simp
@[simp] theorem tupOf_tup {xs : List D} : tupOf (.tup xs) = some xs := rfl
@[simp] theorem tupOf_ktup {xs : List D} : tupOf (.ktup xs) = some xs := rfl
theorem tp_ix {d : D} {xs : List D} (h : tupOf d = some xs) (e : D) (S : Sg) : fIx d e S = ixSeq S xs e := by rcases tp_cases h with rfl | rfl <;> rfl
theorem tp_len {d : D} {xs : List D} (h : tupOf d = some xs) (S : Sg) : cLen [d] S = .ok (.int xs.length) S := by rcases tp_cases h with rfl | rfl <;> rfl
theorem tp_src {d : D} {xs : List D} (h : tupOf d = some xs) (S : Sg) : kSrc d S = .ok (.its xs) S := by rcases tp_cases h with rfl | rfl <;> rfl
theorem tp_gt {d : D} {xs : List D} (h : tupOf d = some xs) (n : Nat) (fg : FGs) (ρ : Ev) : gTp n fg d ρ = if xs.length = n then fg xs ρ else none := by rcases tp_cases h with rfl | rfl <;> rfl
theorem tp_ty {d : D} {xs : List D} (h : tupOf d = some xs) (S : Sg) : tyD S d = some "tuple" := by rcases tp_cases h with rfl | rfl <;> rfl
theorem tp_tru {d : D} {xs : List D} (h : tupOf d = some xs) (S : Sg) : truD S d = some (!xs.isEmpty) := by rcases tp_cases h with rfl | rfl <;> rfl
theorem tp_list {d : D} {xs : List D} (h : tupOf d = some xs) (S : Sg) : cListD [d] S = newO (.lst xs) S := by rcases tp_cases h with rfl | rfl <;> rfl
/-- an instruction -/
abbrev InR (d : D) (i : In) : Prop := tupOf d = some i.items
inductive InsR : List D → List In → Prop
  | nil : InsR [] []
  | cons {d : D} {ds : List D} {i : In} {is : List In} : InR d i → InsR ds is → InsR (d :: ds) (i :: is)
theorem InsR.len : ∀ {ds : List D} {is : List In}, InsR ds is → ds.length = is.length
  | _, _, .nil => rfl
  | _, _, .cons _ t => congrArg (· + 1) t.len
theorem InsR.get : ∀ {ds : List D} {is : List In} {k : Nat} {i : In}, InsR ds is → is[k]? = some i → ∃ d, ds[k]? = some d ∧ InR d i
  | _, _, _, _, .nil, e => by simp at e
  | _, _, 0, _, .cons h _, e => by simp at e; subst e; exact ⟨_, rfl, h⟩
  | _, _, k + 1, _, .cons _ t, e => by simpa using t.get (k := k) (by simpa using e)
theorem InsR.map (is : List In) : InsR (is.map In.d) is := by
  induction is with
  | nil => exact .nil
  | cons i is ih => exact .cons rfl ih
/-- a program -/
def PrR (d : D) (P : List In) : Prop := ∃ ds, tupOf d = some ds ∧ InsR ds P
def numsD (l : List Nat) : List D := l.map fun i => .int (i : Nat)
def GsR (d : D) : Gs → Prop
  | .row l => ∃ r, tupOf d = some [.str "row", r] ∧ tupOf r = some (numsD l)
  | .next => tupOf d = some [.str "next"]
  | .goal => tupOf d = some [.str "goal"]
def StR' (d : D) (s : Stt) : Prop := ∃ a b c, tupOf d = some [a, b, c] ∧ tupOf a = some (s.n.map .int) ∧ tupOf b = some (s.c.map .int) ∧ tupOf c = some (s.o.map .int)
def VtR (d : D) : Vt → Prop
  | .lay => tupOf d = some [.str "lay"]
  | .ev e k => tupOf d = some [.str e.s, .int k]
def optN : Option Nat → D
  | some n => .int n
  | none => .non
def optI : Option Int → D
  | some n => .int n
  | none => .non
@[simp] theorem optN_some {n : Nat} : optN (some n) = .int n := rfl
@[simp] theorem optN_none : optN none = .non := rfl
@[simp] theorem optI_some {n : Int} : optI (some n) = .int n := rfl
@[simp] theorem optI_none : optI none = .non := rfl
/-! ### the law's items -/
def itK (d1 d6 : D) (i : It) : List (Key × D) := [(.inr (PySem.Str.ofString "one"), d1), (.inr (PySem.Str.ofString "at"), .int i.num), (.inr (PySem.Str.ofString "stage"), .int i.st), (.inr (PySem.Str.ofString "gone"), .bl i.gone), (.inr (PySem.Str.ofString "guess"), optN i.guess),
  (.inr (PySem.Str.ofString "words"), d6), (.inr (PySem.Str.ofString "cell"), optN i.cell), (.inr (PySem.Str.ofString "made"), optI i.made)]
section
variable {d1 d6 d : D} {i : It} {S : Sg} {a n : Nat} {b : Bool} {z : Int}
@[simp] theorem it_one : (keyD (.str "one")).bind (getK (itK d1 d6 i)) = some d1 := by simp [keyD, itK, getK_cons, ofS_iff]
@[simp] theorem it_at : (keyD (.str "at")).bind (getK (itK d1 d6 i)) = some (.int i.num) := by simp [keyD, itK, getK_cons, ofS_iff]
@[simp] theorem it_stage : (keyD (.str "stage")).bind (getK (itK d1 d6 i)) = some (.int i.st) := by simp [keyD, itK, getK_cons, ofS_iff]
@[simp] theorem it_gone : (keyD (.str "gone")).bind (getK (itK d1 d6 i)) = some (.bl i.gone) := by simp [keyD, itK, getK_cons, ofS_iff]
@[simp] theorem it_guess : (keyD (.str "guess")).bind (getK (itK d1 d6 i)) = some (optN i.guess) := by simp [keyD, itK, getK_cons, ofS_iff]
@[simp] theorem it_words : (keyD (.str "words")).bind (getK (itK d1 d6 i)) = some d6 := by simp [keyD, itK, getK_cons, ofS_iff]
@[simp] theorem it_cell : (keyD (.str "cell")).bind (getK (itK d1 d6 i)) = some (optN i.cell) := by simp [keyD, itK, getK_cons, ofS_iff]
@[simp] theorem it_made : (keyD (.str "made")).bind (getK (itK d1 d6 i)) = some (optI i.made) := by simp [keyD, itK, getK_cons, ofS_iff]
@[simp] theorem st_stage : stoO a (.str "stage") (.int ((n : Int) + 1)) S (some (.dct (itK d1 d6 i))) = some (S.set a (.dct (itK d1 d6 { i with st := n + 1 }))) := by simp [stoO, keyD, itK, putD, ofS_iff]
@[simp] theorem st_gone : stoO a (.str "gone") (.bl b) S (some (.dct (itK d1 d6 i))) = some (S.set a (.dct (itK d1 d6 { i with gone := b }))) := by simp [stoO, keyD, itK, putD, ofS_iff]
@[simp] theorem st_guess : stoO a (.str "guess") (.int (n : Int)) S (some (.dct (itK d1 d6 i))) = some (S.set a (.dct (itK d1 d6 { i with guess := some n }))) := by simp [stoO, keyD, itK, putD, ofS_iff]
@[simp] theorem st_words : stoO a (.str "words") d S (some (.dct (itK d1 d6 i))) = some (S.set a (.dct (itK d1 d i))) := by simp [stoO, keyD, itK, putD, ofS_iff]
@[simp] theorem st_cell : stoO a (.str "cell") (.int (n : Int)) S (some (.dct (itK d1 d6 i))) = some (S.set a (.dct (itK d1 d6 { i with cell := some n }))) := by simp [stoO, keyD, itK, putD, ofS_iff]
@[simp] theorem st_made : stoO a (.str "made") (.int z) S (some (.dct (itK d1 d6 i))) = some (S.set a (.dct (itK d1 d6 { i with made := some z }))) := by simp [stoO, keyD, itK, putD, ofS_iff]
end
def ItR (S : Sg) (a : Nat) (i : It) : Prop := ∃ d1 d6, S[a]? = some (.dct (itK d1 d6 i)) ∧ InR d1 i.one ∧ tupOf d6 = some (i.words.map .int)
/-! ### the law's window -/
structure WA where
  w : Nat
  l : Nat
  n : Nat
  c : Nat
  o : Nat
  a : List Nat
def WA.all (A : WA) : List Nat := A.w :: A.l :: A.n :: A.c :: A.o :: A.a
def winK (dp dg : D) (A : WA) (x : Ds) (nx ifs : Nat) : List (Key × D) := [(.inr (PySem.Str.ofString "design"), x.d), (.inr (PySem.Str.ofString "program"), dp), (.inr (PySem.Str.ofString "guesser"), dg), (.inr (PySem.Str.ofString "laid"), .ref A.l), (.inr (PySem.Str.ofString "next"), .int nx),
  (.inr (PySem.Str.ofString "ifs"), .int ifs), (.inr (PySem.Str.ofString "names"), .ref A.n), (.inr (PySem.Str.ofString "cells"), .ref A.c), (.inr (PySem.Str.ofString "outs"), .ref A.o)]
section
variable {dp dg : D} {A : WA} {x : Ds} {nx ifs n a : Nat} {S : Sg}
@[simp] theorem wi_design : (keyD (.str "design")).bind (getK (winK dp dg A x nx ifs)) = some x.d := by simp [keyD, winK, getK_cons, ofS_iff]
@[simp] theorem wi_program : (keyD (.str "program")).bind (getK (winK dp dg A x nx ifs)) = some dp := by simp [keyD, winK, getK_cons, ofS_iff]
@[simp] theorem wi_guesser : (keyD (.str "guesser")).bind (getK (winK dp dg A x nx ifs)) = some dg := by simp [keyD, winK, getK_cons, ofS_iff]
@[simp] theorem wi_laid : (keyD (.str "laid")).bind (getK (winK dp dg A x nx ifs)) = some (.ref A.l) := by simp [keyD, winK, getK_cons, ofS_iff]
@[simp] theorem wi_next : (keyD (.str "next")).bind (getK (winK dp dg A x nx ifs)) = some (.int nx) := by simp [keyD, winK, getK_cons, ofS_iff]
@[simp] theorem wi_ifs : (keyD (.str "ifs")).bind (getK (winK dp dg A x nx ifs)) = some (.int ifs) := by simp [keyD, winK, getK_cons, ofS_iff]
@[simp] theorem wi_names : (keyD (.str "names")).bind (getK (winK dp dg A x nx ifs)) = some (.ref A.n) := by simp [keyD, winK, getK_cons, ofS_iff]
@[simp] theorem wi_cells : (keyD (.str "cells")).bind (getK (winK dp dg A x nx ifs)) = some (.ref A.c) := by simp [keyD, winK, getK_cons, ofS_iff]
@[simp] theorem wi_outs : (keyD (.str "outs")).bind (getK (winK dp dg A x nx ifs)) = some (.ref A.o) := by simp [keyD, winK, getK_cons, ofS_iff]
@[simp] theorem sw_next : stoO a (.str "next") (.int (n : Int)) S (some (.dct (winK dp dg A x nx ifs))) = some (S.set a (.dct (winK dp dg A x n ifs))) := by simp [stoO, keyD, winK, putD, ofS_iff]
@[simp] theorem sw_next1 : stoO a (.str "next") (.int ((n : Int) + 1)) S (some (.dct (winK dp dg A x nx ifs))) = some (S.set a (.dct (winK dp dg A x (n + 1) ifs))) := by simp [stoO, keyD, winK, putD, ofS_iff]
@[simp] theorem sw_ifs1 : stoO a (.str "ifs") (.int ((n : Int) + 1)) S (some (.dct (winK dp dg A x nx ifs))) = some (S.set a (.dct (winK dp dg A x nx (n + 1)))) := by simp [stoO, keyD, winK, putD, ofS_iff]
end
/-- items at their addresses -/
structure ItsR (S : Sg) (as : List Nat) (L : List It) : Prop where
  len : as.length = L.length
  at_ : ∀ (k a : Nat) (i : It), as[k]? = some a → L[k]? = some i → ItR S a i
structure WR (S : Sg) (A : WA) (W : Wn) : Prop where
  top : ∃ dp dg, S[A.w]? = some (.dct (winK dp dg A W.x W.nx W.ifs)) ∧ PrR dp W.P ∧ GsR dg W.g
  lai : S[A.l]? = some (.lst (A.a.map .ref))
  its : ItsR S A.a W.laid
  nam : S[A.n]? = some (.lst (W.s.n.map .int))
  cel : S[A.c]? = some (.lst (W.s.c.map .int))
  out : S[A.o]? = some (.lst (W.s.o.map .int))
  nd : A.all.Nodup
/-- what a change keeps: all below that is not of the footprint -/
structure Fr (P : Nat → Prop) (S S' : Sg) : Prop where
  len : S.length ≤ S'.length
  keep : ∀ i, i < S.length → ¬ P i → S'[i]? = S[i]?
theorem Fr.refl {P : Nat → Prop} {S : Sg} : Fr P S S := ⟨Nat.le_refl _, fun _ _ _ => rfl⟩
theorem Fr.mono {P Q : Nat → Prop} {S S' : Sg} (h : Fr P S S') (k : ∀ i, i < S.length → P i → Q i) : Fr Q S S' := ⟨h.len, fun i hi n => h.keep i hi fun z => n (k i hi z)⟩
theorem Fr.trans {P Q : Nat → Prop} {S S1 S2 : Sg} (h : Fr P S S1) (k : Fr Q S1 S2) (q : ∀ i, i < S.length → Q i → P i) : Fr P S S2 :=
  ⟨Nat.le_trans h.len k.len, fun i hi n => (k.keep i (Nat.lt_of_lt_of_le hi h.len) fun z => n (q i hi z)).trans (h.keep i hi n)⟩
theorem Fr.set {P : Nat → Prop} {S : Sg} {n : Nat} {o : O} (h : P n) : Fr P S (S.set n o) := ⟨by simp, fun i _ k => by rw [List.getElem?_set_ne (fun z => k (by rw [← z]; exact h))]⟩
theorem Fr.app {P : Nat → Prop} {S T : Sg} : Fr P S (S ++ T) := ⟨by simp, fun i hi _ => List.getElem?_append_left hi⟩
theorem ItR.same {S S' : Sg} {a : Nat} {i : It} (h : ItR S a i) (e : S'[a]? = S[a]?) : ItR S' a i := by
  obtain ⟨d1, d6, h1, h2, h3⟩ := h
  exact ⟨d1, d6, by rw [e]; exact h1, h2, h3⟩
theorem ItR.lt {S : Sg} {a : Nat} {i : It} (h : ItR S a i) : a < S.length := by
  obtain ⟨d1, d6, h1, _⟩ := h
  exact (List.getElem?_eq_some_iff.mp h1).1
theorem lt_of_at {S : Sg} {a : Nat} {o : O} (h : S[a]? = some o) : a < S.length := (List.getElem?_eq_some_iff.mp h).1
theorem WR.lt {S : Sg} {A : WA} {W : Wn} (h : WR S A W) : ∀ i ∈ A.all, i < S.length := by
  obtain ⟨dp, dg, ht, _⟩ := h.top
  intro i hi
  simp only [WA.all, List.mem_cons] at hi
  rcases hi with rfl | rfl | rfl | rfl | rfl | hi
  · exact lt_of_at ht
  · exact lt_of_at h.lai
  · exact lt_of_at h.nam
  · exact lt_of_at h.cel
  · exact lt_of_at h.out
  · obtain ⟨k, hk⟩ := List.getElem?_of_mem hi
    have hl : k < W.laid.length := by rw [← h.its.len]; exact (List.getElem?_eq_some_iff.mp hk).1
    exact (h.its.at_ k i _ hk (List.getElem?_eq_getElem hl)).lt
theorem WR.same {S S' : Sg} {A : WA} {W : Wn} (h : WR S A W) (e : ∀ i ∈ A.all, S'[i]? = S[i]?) : WR S' A W := by
  obtain ⟨dp, dg, ht, hp, hg⟩ := h.top
  have m : ∀ i, i ∈ A.all ↔ i = A.w ∨ i = A.l ∨ i = A.n ∨ i = A.c ∨ i = A.o ∨ i ∈ A.a := fun i => by simp [WA.all]
  exact ⟨⟨dp, dg, by rw [e _ ((m _).mpr (.inl rfl))]; exact ht, hp, hg⟩, by rw [e _ ((m _).mpr (.inr (.inl rfl)))]; exact h.lai, ⟨h.its.len, fun k a i hk hi => (h.its.at_ k a i hk hi).same (e a ((m _).mpr (.inr (.inr (.inr (.inr (.inr (List.mem_of_getElem? hk))))))))⟩,
    by rw [e _ ((m _).mpr (.inr (.inr (.inl rfl))))]; exact h.nam, by rw [e _ ((m _).mpr (.inr (.inr (.inr (.inl rfl)))))]; exact h.cel, by rw [e _ ((m _).mpr (.inr (.inr (.inr (.inr (.inl rfl))))))]; exact h.out, h.nd⟩
theorem WR.fr {P : Nat → Prop} {S S' : Sg} {A : WA} {W : Wn} (h : WR S A W) (f : Fr P S S') (n : ∀ i ∈ A.all, ¬ P i) : WR S' A W := h.same fun i hi => f.keep i (h.lt i hi) (n i hi)
theorem WR.app {S T : Sg} {A : WA} {W : Wn} (h : WR S A W) : WR (S ++ T) A W := h.same fun i hi => List.getElem?_append_left (h.lt i hi)
/-- an item is changed -/
theorem WR.setIt {S : Sg} {A : WA} {W : Wn} {k a : Nat} {i' : It} {o : O} (h : WR S A W) (hk : A.a[k]? = some a) (n : ItR (S.set a o) a i') : WR (S.set a o) A { W with laid := W.laid.set k i' } := by
  have hn := h.nd
  simp only [WA.all, List.nodup_cons, List.mem_cons, not_or] at hn
  have hm := List.mem_of_getElem? hk
  obtain ⟨⟨_, _, _, _, n1⟩, ⟨_, _, _, n2⟩, ⟨_, _, n3⟩, ⟨_, n4⟩, n5, n6⟩ := hn
  obtain ⟨dp, dg, ht, hp, hg⟩ := h.top
  have ne : ∀ {b : Nat}, b ∉ A.a → (S.set a o)[b]? = S[b]? := fun {b} hb => List.getElem?_set_ne (fun z => hb (by rw [← z]; exact hm))
  refine ⟨⟨dp, dg, by rw [ne n1]; exact ht, hp, hg⟩, by rw [ne n2]; exact h.lai, ⟨by simp [h.its.len], fun j b i hj hi => ?_⟩, by rw [ne n3]; exact h.nam, by rw [ne n4]; exact h.cel, by rw [ne n5]; exact h.out, h.nd⟩
  by_cases e : j = k
  · subst e
    rw [hk] at hj
    cases hj
    have hl : j < W.laid.length := by rw [← h.its.len]; exact (List.getElem?_eq_some_iff.mp hk).1
    rw [List.getElem?_set_self hl] at hi
    cases hi
    exact n
  · rw [List.getElem?_set_ne (Ne.symm e)] at hi
    refine (h.its.at_ j b i hj hi).same (List.getElem?_set_ne fun z => e ?_)
    subst z
    exact (List.getElem?_inj (List.getElem?_eq_some_iff.mp hj).1 n6).mp (hj.trans hk.symm)
/-- next and ifs are changed -/
theorem WR.setTop {S : Sg} {A : WA} {W : Wn} {dp dg : D} {nx ifs : Nat} (h : WR S A W) (hp : PrR dp W.P) (hg : GsR dg W.g) : WR (S.set A.w (.dct (winK dp dg A W.x nx ifs))) A { W with nx := nx, ifs := ifs } := by
  have hn := h.nd
  simp only [WA.all, List.nodup_cons, List.mem_cons, not_or] at hn
  obtain ⟨⟨n1, n2, n3, n4, n5⟩, _⟩ := hn
  have hl := h.lt A.w (by simp [WA.all])
  have ne : ∀ {b : Nat}, A.w ≠ b → (S.set A.w (.dct (winK dp dg A W.x nx ifs)))[b]? = S[b]? := fun hb => List.getElem?_set_ne hb
  refine ⟨⟨dp, dg, List.getElem?_set_self hl, hp, hg⟩, by rw [ne n1]; exact h.lai, ⟨h.its.len, fun j b i hj hi => (h.its.at_ j b i hj hi).same (ne fun z => n5 (by rw [z]; exact List.mem_of_getElem? hj))⟩, by rw [ne n2]; exact h.nam, by rw [ne n3]; exact h.cel, by rw [ne n4]; exact h.out, h.nd⟩
theorem WR.setN {S : Sg} {A : WA} {W : Wn} {l : List Int} (h : WR S A W) : WR (S.set A.n (.lst (l.map .int))) A { W with s := { W.s with n := l } } := by
  have hn := h.nd
  simp only [WA.all, List.nodup_cons, List.mem_cons, not_or] at hn
  obtain ⟨⟨_, n1, _⟩, ⟨n2, _⟩, ⟨n3, n4, n5⟩, _⟩ := hn
  have hl := h.lt A.n (by simp [WA.all])
  obtain ⟨dp, dg, ht, hp, hg⟩ := h.top
  have ne : ∀ {b : Nat}, A.n ≠ b → (S.set A.n (.lst (l.map .int)))[b]? = S[b]? := fun hb => List.getElem?_set_ne hb
  exact ⟨⟨dp, dg, by rw [ne (Ne.symm n1)]; exact ht, hp, hg⟩, by rw [ne (Ne.symm n2)]; exact h.lai, ⟨h.its.len, fun j b i hj hi => (h.its.at_ j b i hj hi).same (ne fun z => n5 (by rw [z]; exact List.mem_of_getElem? hj))⟩, List.getElem?_set_self hl, by rw [ne n3]; exact h.cel, by rw [ne n4]; exact h.out, h.nd⟩
theorem WR.setC {S : Sg} {A : WA} {W : Wn} {l : List Int} (h : WR S A W) : WR (S.set A.c (.lst (l.map .int))) A { W with s := { W.s with c := l } } := by
  have hn := h.nd
  simp only [WA.all, List.nodup_cons, List.mem_cons, not_or] at hn
  obtain ⟨⟨_, _, n1, _⟩, ⟨_, n2, _⟩, ⟨n3, _⟩, ⟨n4, n5⟩, _⟩ := hn
  have hl := h.lt A.c (by simp [WA.all])
  obtain ⟨dp, dg, ht, hp, hg⟩ := h.top
  have ne : ∀ {b : Nat}, A.c ≠ b → (S.set A.c (.lst (l.map .int)))[b]? = S[b]? := fun hb => List.getElem?_set_ne hb
  exact ⟨⟨dp, dg, by rw [ne (Ne.symm n1)]; exact ht, hp, hg⟩, by rw [ne (Ne.symm n2)]; exact h.lai, ⟨h.its.len, fun j b i hj hi => (h.its.at_ j b i hj hi).same (ne fun z => n5 (by rw [z]; exact List.mem_of_getElem? hj))⟩, by rw [ne (Ne.symm n3)]; exact h.nam, List.getElem?_set_self hl, by rw [ne n4]; exact h.out, h.nd⟩
theorem WR.setO {S : Sg} {A : WA} {W : Wn} {l : List Int} (h : WR S A W) : WR (S.set A.o (.lst (l.map .int))) A { W with s := { W.s with o := l } } := by
  have hn := h.nd
  simp only [WA.all, List.nodup_cons, List.mem_cons, not_or] at hn
  obtain ⟨⟨_, _, _, n1, _⟩, ⟨_, _, n2, _⟩, ⟨_, n3, _⟩, ⟨n4, _⟩, n5, _⟩ := hn
  have hl := h.lt A.o (by simp [WA.all])
  obtain ⟨dp, dg, ht, hp, hg⟩ := h.top
  have ne : ∀ {b : Nat}, A.o ≠ b → (S.set A.o (.lst (l.map .int)))[b]? = S[b]? := fun hb => List.getElem?_set_ne hb
  exact ⟨⟨dp, dg, by rw [ne (Ne.symm n1)]; exact ht, hp, hg⟩, by rw [ne (Ne.symm n2)]; exact h.lai, ⟨h.its.len, fun j b i hj hi => (h.its.at_ j b i hj hi).same (ne fun z => n5 (by rw [z]; exact List.mem_of_getElem? hj))⟩, by rw [ne (Ne.symm n3)]; exact h.nam, by rw [ne (Ne.symm n4)]; exact h.cel, List.getElem?_set_self hl, h.nd⟩
/-- an item that lies already is laid -/
theorem WR.push {S : Sg} {A : WA} {W : Wn} {b : Nat} {i : It} (h : WR S A W) (hb : ItR S b i) (hn : b ∉ A.all) : WR (S.set A.l (.lst ((A.a ++ [b]).map .ref))) { A with a := A.a ++ [b] } { W with laid := W.laid ++ [i] } := by
  have hnd := h.nd
  simp only [WA.all, List.nodup_cons, List.mem_cons, not_or] at hnd hn
  obtain ⟨⟨n1, w1, w2, w3, w4⟩, ⟨n2, n3, n4, n5⟩, ⟨a1, a2, a3⟩, ⟨b1, b2⟩, c1, c2⟩ := hnd
  obtain ⟨m1, m2, m3, m4, m5, m6⟩ := hn
  have hl := h.lt A.l (by simp [WA.all])
  obtain ⟨dp, dg, ht, hp, hg⟩ := h.top
  have ne : ∀ {c : Nat}, A.l ≠ c → (S.set A.l (.lst ((A.a ++ [b]).map .ref)))[c]? = S[c]? := fun hb => List.getElem?_set_ne hb
  refine ⟨⟨dp, dg, by rw [ne (Ne.symm n1)]; exact ht, hp, hg⟩, List.getElem?_set_self hl, ⟨by simp [h.its.len], fun j c i' hj hi => ?_⟩, by rw [ne n2]; exact h.nam, by rw [ne n3]; exact h.cel, by rw [ne n4]; exact h.out, ?_⟩
  · by_cases e : j < A.a.length
    · rw [List.getElem?_append_left e] at hj
      rw [List.getElem?_append_left (by rw [← h.its.len]; exact e)] at hi
      exact (h.its.at_ j c i' hj hi).same (ne fun z => n5 (by rw [z]; exact List.mem_of_getElem? hj))
    · rw [List.getElem?_append_right (by omega)] at hj
      rw [List.getElem?_append_right (by rw [← h.its.len]; omega), ← h.its.len] at hi
      have e0 : j - A.a.length = 0 := by
        have := (List.getElem?_eq_some_iff.mp hj).1
        simp at this; omega
      rw [e0] at hj hi
      simp at hj hi
      subst hj hi
      exact hb.same (ne (Ne.symm m2))
  · simp only [WA.all, List.nodup_cons, List.mem_cons, List.mem_append, List.not_mem_nil, or_false, not_or]
    refine ⟨⟨n1, w1, w2, w3, w4, Ne.symm m1⟩, ⟨n2, n3, n4, n5, Ne.symm m2⟩, ⟨a1, a2, a3, Ne.symm m3⟩, ⟨b1, b2, Ne.symm m4⟩, ⟨c1, Ne.symm m5⟩, ?_⟩
    rw [List.nodup_append]
    exact ⟨c2, by simp, fun x hx y hy => by simp at hy; subst hy; exact fun z => m6 (by rw [← z]; exact hx)⟩
end Law

/-! W1: what instructions write and use. -/
namespace Law
open Dx L2
theorem at_m2 {a b : D} : atI [a, b] (-2) = some a := rfl
theorem at_m3 {a b c : D} : atI [a, b, c] (-2) = some b := rfl
theorem at_m4 {a b c d : D} : atI [a, b, c, d] (-2) = some c := rfl
theorem kd0 (i : In) : ∃ r, i.items = .str i.kd.s :: r := by cases i <;> exact ⟨_, rfl⟩
theorem in_ix0 {d : D} {i : In} (h : InR d i) (S : Sg) : fIx d (.int 0) S = .ok (.str i.kd.s) S := by
  rw [tp_ix h]
  obtain ⟨r, e⟩ := kd0 i
  rw [e]
  simp
theorem in_wl {S : Sg} {a : String} : fInF false (.str a) (.clist [.str "set", .str "sum", .str "get"]) S = .ok (.bl (decide (a = "set") || decide (a = "sum") || decide (a = "get"))) S := by
  have := inF_lst (neg := false) (a := a) (ss := ["set", "sum", "get"]) (S := S)
  simp only [List.map_cons, List.map_nil] at this
  rw [this]
  simp [eq_comm, Bool.or_assoc]
end Law

namespace Law
open Dx L2
theorem idx_ev {S : Sg} (e : Et) : mIdx (.clist [.str "lay", .str "read", .str "make", .str "write", .str "out"]) [.str e.s] S = .ok (.int e.n) S := by cases e <;> rfl
theorem in_wr {S : Sg} (a : Kd) : fInF false (.str a.s) (.clist [.str "set", .str "sum", .str "get"]) S = .ok (.bl a.wr) S := by cases a <;> rfl
theorem in_cm {S : Sg} (r : Rl) : fInF false (.str r.s) (.clist [.str "cells", .str "memory"]) S = .ok (.bl (r == .cells || r == .memory)) S := by cases r <;> rfl
theorem in_cm' {S : Sg} {x : String} : fInF false (.str x) (.clist [.str "cells", .str "memory"]) S = .ok (.bl (decide (x = "cells") || decide (x = "memory"))) S := by
  have := inF_lst (neg := false) (a := x) (ss := ["cells", "memory"]) (S := S)
  simp only [List.map_cons, List.map_nil] at this
  rw [this]
  simp [eq_comm]
theorem kd_ne' {a b : Kd} : (a.s = b.s) = (a = b) := propext Kd.inj
theorem kd_ne2 {a : Kd} : (a.s = "set") = (a = .set) ∧ (a.s = "show") = (a = .show_) ∧ (a.s = "if") = (a = .if_) := ⟨propext (Kd.inj (b := .set)), propext (Kd.inj (b := .show_)), propext (Kd.inj (b := .if_))⟩
theorem kd_ne (a b : Kd) : decide (a.s = b.s) = (a == b) := by cases a <;> cases b <;> rfl
/-! ### by the table -/
def alwS (a b : Kd) : List String := "any" :: ((if a = .if_ then ["jump"] else []) ++ ((if a = b ∧ b = .show_ then ["shows"] else []) ++ (if a.mem b = true then ["memory"] else [])))
theorem rl_in {r : Rl} {a b : Kd} : ((alwS a b).any fun c => decide (c = r.s)) = allR r a b := by cases r <;> cases a <;> cases b <;> rfl
theorem eq_two {neg : Bool} {S : Sg} {a b c d : String} : fEqF neg (.tup [.str a, .str b]) (.tup [.str c, .str d]) S = .ok (.bl (neg != (decide (a = c) && decide (b = d)))) S := by
  rw [fEqF_ok (by simp [okD, shD]) (by simp [okD, shD])]
  simp [eqB, shD, eqL, eqFlat]
theorem alw_map {a b : Kd} : (D.str "any" :: ((if a = .if_ then [D.str "jump"] else []) ++ ((if a = b ∧ b = .show_ then [D.str "shows"] else []) ++ if a.mem b = true then [D.str "memory"] else []))) = (alwS a b).map D.str := by
  unfold alwS
  cases a <;> cases b <;> rfl
theorem in_lr {S : Sg} (q : Et) : fInF false (.str q.s) (.clist [.str "lay", .str "read"]) S = .ok (.bl (decide (q.n ≤ 1))) S := by cases q <;> rfl
theorem rl_ne' {a b : Rl} : (a.s = b.s) = (a = b) := propext Rl.inj
theorem rl_ne2 {a : Rl} : (a.s = "cells") = (a = .cells) := propext (Rl.inj (b := .cells))
theorem et_ne2 {a : Et} : (a.s = "read") = (a = .read) := propext (Et.inj (b := .read))
theorem in_alw {S : Sg} {r : Rl} {a b : Kd} : fInF false (.str r.s) (.clist ((alwS a b).map D.str)) S = .ok (.bl (allR r a b)) S := by
  rw [inF_lst, rl_in, Bool.false_bne]
end Law

/-! W2: the law's window: reading functions. -/
namespace Law
open Dx L2
/-! ### lookups -/
section
variable {S : Sg} {A : WA} {W : Wn}
theorem WR.atA (h : WR S A W) {k : Nat} {i : It} (hi : W.laid[k]? = some i) : ∃ a, A.a[k]? = some a ∧ ItR S a i ∧ (A.a.map D.ref)[k]? = some (.ref a) := by
  have hl : k < A.a.length := by rw [h.its.len]; exact (List.getElem?_eq_some_iff.mp hi).1
  refine ⟨A.a[k], List.getElem?_eq_getElem hl, h.its.at_ k _ i (List.getElem?_eq_getElem hl) hi, ?_⟩
  simp [hl]
theorem WR.laid (h : WR S A W) : fIx (.ref A.w) (.str "laid") S = .ok (.ref A.l) S := by
  obtain ⟨dp, dg, ht, _⟩ := h.top
  simp [ht]
theorem WR.design (h : WR S A W) : fIx (.ref A.w) (.str "design") S = .ok W.x.d S := by
  obtain ⟨dp, dg, ht, _⟩ := h.top
  simp [ht]
theorem WR.ix (h : WR S A W) {k : Nat} {i : It} (hi : W.laid[k]? = some i) : ∃ a d1 d6, A.a[k]? = some a ∧ S[a]? = some (.dct (itK d1 d6 i)) ∧ InR d1 i.one ∧ tupOf d6 = some (i.words.map .int) ∧ fIx (.ref A.l) (.int k) S = .ok (.ref a) S := by
  obtain ⟨a, h1, ⟨d1, d6, h2, h3, h4⟩, h5⟩ := h.atA hi
  refine ⟨a, d1, d6, h1, h2, h3, h4, ?_⟩
  simp only [fIx_ref, h.lai, ixO_lst, ixSeq_int, atI_cast, h5, outD_some]
end
theorem lastW_filter (L : List It) (r : Nat) : ∀ n : Nat, n ≤ L.length → ((((List.range n).filter fun k => L[k]?.any fun i => !i.gone).filter fun k => L[k]?.any fun i => i.one.w == some r)).getLast? = lastW L r n := by
  intro n
  induction n with
  | zero => intro _; rfl
  | succ n ih =>
    intro h
    have hn : n < L.length := h
    rw [List.range_succ, List.filter_append, List.filter_append]
    simp only [lastW]
    by_cases hw : (L[n]?.any fun i => i.writes r) = true
    · rw [if_pos hw]
      have e : L[n]? = some L[n] := List.getElem?_eq_getElem hn
      rw [e] at hw
      simp only [Option.any_some, It.writes, Bool.and_eq_true, Bool.not_eq_true'] at hw
      have h1 : (List.filter (fun k => L[k]?.any fun i => !i.gone) [n]) = [n] := by simp [e, hw.1]
      have h2 : (List.filter (fun k => L[k]?.any fun i => i.one.w == some r) [n]) = [n] := by simp [e, by simpa using hw.2]
      rw [h1, h2]
      simp
    · rw [if_neg hw]
      have e : L[n]? = some L[n] := List.getElem?_eq_getElem hn
      rw [e] at hw
      have h3 : (List.filter (fun k => L[k]?.any fun i => i.one.w == some r) (List.filter (fun k => L[k]?.any fun i => !i.gone) [n])) = [] := by
        rw [List.filter_filter]
        simp only [It.writes, Option.any_some] at hw
        simp [e]
        intro q
        simpa [q] using hw
      rw [h3, List.append_nil]
      exact ih (by omega)
end Law

/-! R1: rows for == and in. -/
namespace Law
open Dx L2
section
variable {S : Sg} {n : Nat}
theorem okD_tup {xs : List D} : okD (n + 1) S (.tup xs) = xs.all (okD n S) := rfl
theorem okD_ktup {xs : List D} : okD (n + 1) S (.ktup xs) = xs.all (okD n S) := rfl
theorem okD_clist {xs : List D} : okD (n + 1) S (.clist xs) = xs.all (okD n S) := rfl
theorem okD_int {i : Int} : okD n S (.int i) = true := by cases n <;> rfl
theorem okD_bl {i : Bool} : okD n S (.bl i) = true := by cases n <;> rfl
theorem okD_non : okD n S .non = true := by cases n <;> rfl
theorem okD_tp {d : D} {xs : List D} (h : tupOf d = some xs) : okD (n + 1) S d = xs.all (okD n S) := by rcases tp_cases h with rfl | rfl <;> rfl
theorem eqB_tup {xs ys : List D} : eqB (n + 1) S (.tup xs) (.tup ys) = eqL (eqB n S) xs ys := rfl
theorem eqB_clist {xs ys : List D} : eqB (n + 1) S (.clist xs) (.clist ys) = eqL (eqB n S) xs ys := rfl
theorem eqB_tp {d e : D} {xs ys : List D} (h : tupOf d = some xs) (k : tupOf e = some ys) : eqB (n + 1) S d e = eqL (eqB n S) xs ys := by rcases tp_cases h with rfl | rfl <;> rcases tp_cases k with rfl | rfl <;> rfl
theorem eqB_int {i j : Int} : eqB n S (.int i) (.int j) = decide (i = j) := by cases n <;> rfl
theorem eqB_bl {i j : Bool} : eqB n S (.bl i) (.bl j) = (i == j) := by cases n <;> rfl
theorem eqB_non : eqB n S .non .non = true := by cases n <;> rfl
theorem eqL_nil {f : D → D → Bool} : eqL f [] [] = true := rfl
theorem eqL_cons {f : D → D → Bool} {x y : D} {xs ys : List D} : eqL f (x :: xs) (y :: ys) = (f x y && eqL f xs ys) := rfl
theorem eqL_nc {f : D → D → Bool} {y : D} {ys : List D} : eqL f [] (y :: ys) = false := rfl
theorem eqL_cn {f : D → D → Bool} {y : D} {ys : List D} : eqL f (y :: ys) [] = false := rfl
theorem okD_nums (l : List Nat) : (numsD l).all (okD n S) = true := by
  unfold numsD
  rw [List.all_map, List.all_eq_true]
  exact fun _ _ => okD_int
theorem okD_optN (o : Option Nat) : okD n S (optN o) = true := by cases o <;> first | exact okD_non | exact okD_int
theorem eqB_optN (o p : Option Nat) : eqB n S (optN o) (optN p) = (o == p) := by
  cases o <;> cases p
  · exact eqB_non
  · cases n <;> rfl
  · cases n <;> rfl
  · simp only [optN_some, eqB_int]
    rename_i a b
    have : (some a == some b) = decide (a = b) := by by_cases h : a = b <;> simp [h]
    rw [this]
    exact decide_eq_decide.mpr (by omega)
theorem eq_nums {neg : Bool} (l : List Nat) : fEqF neg (.clist (numsD l)) (.clist []) S = .ok (.bl (neg != l.isEmpty)) S := by
  have h1 : okD 9 S (.clist (numsD l)) = true := okD_nums l
  rw [fEqF_ok h1 rfl]
  cases l <;> rfl
theorem opt_eq {o : Option Nat} {n : Nat} {neg : Bool} : fEqF neg (optN o) (.int (n : Int)) S = .ok (.bl (neg != (o == some n))) S := by
  have := eqB_optN (n := 9) (S := S) o (some n)
  rw [fEqF_ok (okD_optN o) okD_int]
  rw [show D.int (n : Int) = optN (some n) from rfl, this]
theorem opt_eq2 {o p : Option Nat} {neg : Bool} : fEqF neg (optN o) (optN p) S = .ok (.bl (neg != (o == p))) S := by
  rw [fEqF_ok (okD_optN o) (okD_optN p), eqB_optN]
theorem optN_is (o : Option Nat) (neg : Bool) : fIs neg (optN o) .non S = .ok (.bl (neg != o.isNone)) S := by cases o <;> rfl
theorem in_opts (k : Nat) (os : List (Option Nat)) : fInF false (.int k) (.clist (os.map optN)) S = .ok (.bl (os.any fun o => o == some k)) S := by
  have h : fInF false (.int k) (.clist (os.map optN)) S = if (okD 9 S (.int k) && (os.map optN).all (okD 8 S)) = true then .ok (.bl (false != (os.map optN).any fun d => eqB 8 S d (.int k))) S else .stuck := rfl
  rw [h, if_pos]
  · rw [List.any_map]
    have : ∀ o : Option Nat, ((fun d => eqB 8 S d (.int k)) ∘ optN) o = (o == some k) := fun o => eqB_optN (n := 8) (S := S) o (some k)
    simp only [funext this, Bool.false_bne]
  · rw [okD_int, Bool.true_and, List.all_map, List.all_eq_true]
    exact fun o _ => okD_optN o
theorem in_nums (o : Option Nat) (l : List Nat) : fInF false (optN o) (.clist (numsD l)) S = .ok (.bl (l.any fun a => some a == o)) S := by
  have h : fInF false (optN o) (.clist (numsD l)) S = if (okD 9 S (optN o) && (numsD l).all (okD 8 S)) = true then .ok (.bl (false != (numsD l).any fun d => eqB 8 S d (optN o))) S else .stuck := by cases o <;> rfl
  rw [h, if_pos]
  · unfold numsD
    rw [List.any_map]
    have : ∀ a : Nat, ((fun d => eqB 8 S d (optN o)) ∘ fun i : Nat => D.int i) a = (some a == o) := fun a => eqB_optN (n := 8) (S := S) (some a) o
    simp only [funext this, Bool.false_bne]
  · rw [okD_optN, okD_nums]; rfl
end
/-- a loop that answers z at the first thing of a kind -/
theorem for_hit {α : Type} {S : Sg} {tg : FG} {g : FS} (enc : α → D) (P : α → Bool) (z : D) (I : Ev → Prop) : ∀ (xs : List α) (ρ : Ev), I ρ → (∀ x ∈ xs, ∀ ρ, I ρ → ∃ ρ1, tg (enc x) ρ = some ρ1 ∧ (P x = true → g ρ1 S = .rt z S) ∧ (P x = false → ∃ ρ2, g ρ1 S = .nx ρ2 S ∧ I ρ2)) →
    (xs.any P = true ∧ forRun tg g (xs.map enc) ρ S = .rt z S) ∨ (xs.any P = false ∧ ∃ ρ', I ρ' ∧ forRun tg g (xs.map enc) ρ S = .nx ρ' S)
  | [], ρ, h, _ => .inr ⟨rfl, ρ, h, rfl⟩
  | x :: xs, ρ, h, k => by
    obtain ⟨ρ1, e1, e2, e3⟩ := k x (by simp) ρ h
    rw [List.map_cons, forRun_cons, e1, frA_some, List.any_cons]
    cases hp : P x with
    | true => rw [e2 hp]; exact .inl ⟨rfl, rfl⟩
    | false =>
      obtain ⟨ρ2, e4, h2⟩ := e3 hp
      rw [e4, frB_nx]
      simpa using for_hit enc P z I xs ρ2 h2 fun y hy => k y (by simp [hy])
theorem for_all_ret {α : Type} {S : Sg} {ρ : Ev} {tg : FG} {g : FS} {enc : α → D} {xs : List α} (P : α → Bool) (I : Ev → Prop) (h : I ρ) (k : ∀ x ∈ xs, ∀ ρ, I ρ → ∃ ρ1, tg (enc x) ρ = some ρ1 ∧ (P x = true → g ρ1 S = .rt (.bl false) S) ∧ (P x = false → ∃ ρ2, g ρ1 S = .nx ρ2 S ∧ I ρ2)) :
    ((forRun tg g (xs.map enc) ρ S).seq (sRet (xC (.bl true)))).ret = .ok (.bl (!xs.any P)) S := by
  rcases for_hit enc P (.bl false) I xs ρ h k with ⟨a, b⟩ | ⟨a, ρ', _, b⟩ <;> rw [a, b] <;> rfl
def kDctO (ps : List (Key × D)) (S : Sg) : R D := newO (.dct (mergeD ps)) S
@[simp] theorem xDct_at {fs : List (Key × FE)} {ρ : Ev} {S : Sg} : xDct fs ρ S = (dpGo fs ρ S).bind kDctO := rfl
@[simp] theorem kDctO_at {ps : List (Key × D)} {S : Sg} : kDctO ps S = newO (.dct (mergeD ps)) S := rfl
theorem newO_ok {o : O} {S : Sg} : newO o S = .ok (.ref S.length) (S ++ [o]) := rfl
theorem app_new {S T : Sg} {o : O} : (S ++ T ++ [o])[S.length + T.length]? = some o := by
  have : S.length + T.length = (S ++ T).length := by simp
  rw [this, List.getElem?_concat_length]
theorem last_neg {xs : List D} {x : D} (h : xs.getLast? = some x) : atI xs (-1) = some x := by
  unfold atI ixN
  have hl : xs ≠ [] := by rintro rfl; simp at h
  have h0 : 0 < xs.length := List.length_pos_iff.mpr hl
  rw [if_neg (by omega), if_pos (by omega)]
  simp only [Option.bind_some]
  rw [List.getLast?_eq_getElem?] at h
  rw [← h]
  congr 1
  omega
theorem nums_last {l : List Nat} {k : Nat} (h : l.getLast? = some k) : atI (numsD l) (-1) = some (.int k) := by
  refine last_neg ?_
  unfold numsD
  rw [List.getLast?_map, h]
  rfl
end Law

/-! W3: what is here; the last writer; relations. -/
namespace Law
open Dx L2
theorem numsD_len (l : List Nat) : (numsD l).length = l.length := by simp [numsD]
section
variable {S : Sg} {A : WA} {W : Wn}
/-- place by place, a comprehension over the places ahead -/
theorem places_filter {tg : FG} {t : FT} {e : FE} {ρ : Ev} (h : WR S A W) (ks : List Nat) (P : It → Bool) (hn : ∀ k ∈ ks, k < W.laid.length) (hl : ks.length < 100000)
    (k : ∀ (k : Nat) (i : It) (a : Nat) (d1 d6 : D), k ∈ ks → W.laid[k]? = some i → S[a]? = some (.dct (itK d1 d6 i)) → InR d1 i.one → ixO S[A.l]? (.int k) S = .ok (.ref a) S → ∃ ρ1, tg (.int k) ρ = some ρ1 ∧ t ρ1 S = .ok (P i) S ∧ e ρ1 S = .ok (.int k) S) :
    lcRun tg t e ρ (ks.map fun i => D.int (i : Nat)) [] S = .ok (.clist (numsD (ks.filter fun k => W.laid[k]?.any P))) S := by
  rw [lcRun_map (fun k : Nat => D.int k) (fun k => W.laid[k]?.any P) (fun k => .int k)]
  · simp [numsD]
  · intro j hj
    have hi : W.laid[j]? = some (W.laid[j]'(hn j hj)) := List.getElem?_eq_getElem (hn j hj)
    obtain ⟨a, d1, d6, h1, h2, h3, h4, h5⟩ := h.ix hi
    simp only [fIx_ref] at h5
    obtain ⟨ρ1, e1, e2, e3⟩ := k j _ a d1 d6 hj hi h2 h3 h5
    exact ⟨ρ1, e1, by rw [e2, hi]; rfl, fun _ => e3⟩
  · simp; omega
end
end Law

/-! W4: relations. -/
namespace Law
open Dx L2
theorem us_len (i : In) : i.us.length ≤ 2 := by cases i <;> simp [In.us]
theorem flt_true {α : Type} (l : List α) : l.filter (fun _ => true) = l := by simp
section
variable {S : Sg} {A : WA} {W : Wn}
end
end Law

/-! W5: what may come. -/
namespace Law
open Dx L2
section
variable {S : Sg} {A : WA} {W : Wn}
theorem all_congr {α : Type} {l : List α} {p q : α → Bool} (h : ∀ x ∈ l, p x = q x) : l.all p = l.all q := by
  rw [Bool.eq_iff_iff, List.all_eq_true, List.all_eq_true]
  exact ⟨fun a x hx => by rw [← h x hx]; exact a x hx, fun a x hx => by rw [h x hx]; exact a x hx⟩
theorem tx_d (x : Ds) (S : Sg) : fIx x.d (.int 4) S = .ok (.tup (x.t.map En.d)) S := by simp [Ds.d]
end
end Law

/-! P2: what holds of a window at all times. -/
namespace Law
open Dx L2
structure ItOk (P : List In) (i : It) : Prop where
  one : P[i.num]? = some i.one
  st : i.st ≤ 4
  wd : 1 ≤ i.st → i.words.length = i.one.us.length
  cl : 1 ≤ i.st → (i.one.kd = .get ∨ i.one.kd = .put) → ∃ c, i.cell = some c ∧ c < 8 ∧ cellI i.one i.words = some c
  md : 2 ≤ i.st → i.one.w.isSome = true → ∃ z, i.made = some z
  gs : i.one.kd = .if_ → ∃ g, i.guess = some g ∧ g ≤ P.length
structure WnOk (W : Wn) : Prop where
  its : ∀ i ∈ W.laid, ItOk W.P i
  pok : ∀ i ∈ W.P, i.ok W.P.length
  nx : W.nx ≤ W.P.length
  s : W.s.ok
  gs : ∀ l, W.g = .row l → l ≠ []
theorem WnOk.at_ {W : Wn} (h : WnOk W) {k : Nat} {i : It} (hi : W.laid[k]? = some i) : ItOk W.P i := h.its i (List.mem_of_getElem? hi)
theorem ItOk.ok {W : Wn} (h : WnOk W) {i : It} (hi : ItOk W.P i) : i.one.ok W.P.length := h.pok _ (List.mem_of_getElem? hi.one)
theorem guess_le {g : Gs} {ifs goal fol many : Nat} (h1 : goal ≤ many) (h2 : fol ≤ many) : guessM g ifs goal fol many ≤ many := by
  cases g with
  | row l => exact Nat.le_of_lt_succ (Nat.mod_lt _ (Nat.succ_pos _))
  | next => exact h2
  | goal => exact h1
/-- an event that may be done, as far as its form goes -/
def Fit (W : Wn) : Vt → Prop
  | .lay => W.nx < W.P.length
  | .ev e k => ∃ i, W.laid[k]? = some i ∧ i.st < 4 ∧ i.gone = false ∧ e = nextE i.st
theorem here_get {W : Wn} {k : Nat} (h : k ∈ hereW W) : ∃ i, W.laid[k]? = some i ∧ i.gone = false ∧ i.st < 4 := by
  unfold hereW at h
  obtain ⟨h1, h2⟩ := List.mem_filter.mp h
  have hk := List.mem_range.mp h1
  refine ⟨W.laid[k], List.getElem?_eq_getElem hk, ?_⟩
  rw [List.getElem?_eq_getElem hk, Option.any_some] at h2
  simpa [It.here] using h2
theorem fit_events {W : Wn} {v : Vt} (h : v ∈ eventsW W) : Fit W v := by
  unfold eventsW at h
  rcases List.mem_append.mp h with h | h
  · split at h
    · rename_i c
      have := List.mem_singleton.mp h
      subst this
      unfold canLayW at c
      rw [Bool.and_eq_true] at c
      cases hn : W.P[W.nx]? with
      | none => rw [hn] at c; simp at c
      | some i => exact (List.getElem?_eq_some_iff.mp hn).1
    · exact nomatch h
  · obtain ⟨k, hk, rfl⟩ := List.mem_map.mp h
    obtain ⟨i, h1, h2, h3⟩ := here_get (List.mem_filter.mp hk).1
    exact ⟨i, h1, h3, h2, by simp [h1]⟩
theorem nextE_n {n : Nat} (h : n < 4) : (nextE n).n = n + 1 := by
  match n, h with
  | 0, _ => rfl
  | 1, _ => rfl
  | 2, _ => rfl
  | 3, _ => rfl
theorem layIt_ok {W : Wn} (h : WnOk W) {i : In} (hi : W.P[W.nx]? = some i) : ItOk W.P (layIt W i) := by
  have hlt := (List.getElem?_eq_some_iff.mp hi).1
  have hok := h.pok i (List.mem_of_getElem? hi)
  refine ⟨hi, by simp [layIt], by simp [layIt], by simp [layIt], by simp [layIt], ?_⟩
  intro hk
  cases i <;> simp [layIt, In.kd] at hk ⊢
  simp [In.ok] at hok
  exact guess_le hok.2.1 hlt
theorem lay_ok {W : Wn} (h : WnOk W) (hn : W.nx < W.P.length) : WnOk (layW W) := by
  have hi : W.P[W.nx]? = some W.P[W.nx] := List.getElem?_eq_getElem hn
  generalize W.P[W.nx] = i at hi
  have hit := layIt_ok h hi
  have hok := h.pok i (List.mem_of_getElem? hi)
  have its : ∀ j ∈ W.laid ++ [layIt W i], ItOk W.P j := by
    intro j hj
    rcases List.mem_append.mp hj with hj | hj
    · exact h.its j hj
    · rw [List.mem_singleton.mp hj]; exact hit
  unfold layW
  rw [hi]
  cases i <;> first
    | exact ⟨its, h.pok, hn, h.s, h.gs⟩
    | (simp [In.ok] at hok; exact ⟨its, h.pok, guess_le hok.2.1 hn, h.s, h.gs⟩)
theorem modify_set {α : Type} {l : List α} {k : Nat} {x : α} {f : α → α} (h : l[k]? = some x) : l.modify k f = l.set k (f x) := by
  apply List.ext_getElem?
  intro j
  by_cases e : k = j
  · subst e
    rw [List.getElem?_set_self (List.getElem?_eq_some_iff.mp h).1, List.getElem?_modify, h]
    simp
  · rw [List.getElem?_modify, List.getElem?_set_ne e]
    simp [e]
theorem up_eq {W : Wn} {k : Nat} {i : It} (h : W.laid[k]? = some i) : upW W k = { W with laid := W.laid.set k { i with st := i.st + 1 } } := by
  unfold upW
  rw [modify_set h]
theorem set_its {P : List In} {L : List It} {k : Nat} {i : It} (h : ∀ j ∈ L, ItOk P j) (hi : ItOk P i) : ∀ j ∈ L.set k i, ItOk P j := by
  intro j hj
  rcases List.mem_or_eq_of_mem_set hj with hj | rfl
  · exact h j hj
  · exact hi
theorem eff_ok {s : Stt} {i : It} (h : s.ok) : (effW s i).ok := by
  unfold effW
  split <;> exact ⟨by simp [h.n8], by simp [h.c8]⟩
theorem get_set_self {L : List It} {k : Nat} {i j : It} (h : L[k]? = some i) : (L.set k j)[k]? = some j := List.getElem?_set_self (List.getElem?_eq_some_iff.mp h).1
theorem homeW_ok {W : Wn} {k : Nat} {e : Et} (h : WnOk W) : WnOk (homeW W k e) := by
  unfold homeW
  split
  · exact h
  · split
    · exact ⟨h.its, h.pok, h.nx, eff_ok h.s, h.gs⟩
    · exact h
theorem mid_get {W : Wn} {k : Nat} {i : It} {e : Et} (h : W.laid[k]? = some i) : ∃ i', (midW W k i e).laid[k]? = some i' ∧ i'.one = i.one ∧ (midW W k i e).x = W.x := by
  cases e with
  | read => exact ⟨_, get_set_self h, rfl, rfl⟩
  | make =>
    simp only [midW, makeW]
    split
    · split
      · exact ⟨i, h, rfl, rfl⟩
      · exact ⟨i, by simp [goneFrom, List.getElem?_mapIdx, h], rfl, rfl⟩
    · exact ⟨_, get_set_self h, rfl, rfl⟩
  | lay => exact ⟨i, h, rfl, rfl⟩
  | write => exact ⟨i, h, rfl, rfl⟩
  | out => exact ⟨i, h, rfl, rfl⟩
theorem ev_eq {W : Wn} {k : Nat} {i : It} {e : Et} (h : W.laid[k]? = some i) : evW W k e = homeW (midW W k i e) k e := by
  unfold evW
  rw [h]
theorem cell_ok {i : In} {ws : List Int} (h : i.kd = .get ∨ i.kd = .put) : ∃ c, cellI i ws = some c ∧ c < 8 := by
  cases i <;> simp [In.kd] at h
  · exact ⟨_, rfl, cell_lt _ _⟩
  · exact ⟨_, rfl, cell_lt _ _⟩
theorem gone_its {P : List In} {L : List It} {k : Nat} (h : ∀ j ∈ L, ItOk P j) : ∀ j ∈ goneFrom L k, ItOk P j := by
  intro j hj
  unfold goneFrom at hj
  obtain ⟨m, hm, rfl⟩ := List.mem_mapIdx.mp hj
  have := h _ (List.getElem_mem hm)
  split
  · exact ⟨this.one, this.st, this.wd, this.cl, this.md, this.gs⟩
  · exact this
theorem real_le {W : Wn} (h : WnOk W) {i : It} (hi : ItOk W.P i) : realM i ≤ W.P.length := by
  have hok := hi.ok h
  have hn := (List.getElem?_eq_some_iff.mp hi.one).1
  unfold realM
  split
  · rename_i a t e
    rw [e] at hok
    simp [In.ok] at hok
    split
    · exact hok.2.1
    · exact hn
  · exact Nat.zero_le _
theorem do_inv {W : Wn} {v : Vt} (h : WnOk W) (hf : Fit W v) : WnOk (doW W v) := by
  cases v with
  | lay => exact lay_ok h hf
  | ev e k =>
    obtain ⟨i, hi, hst, hg, rfl⟩ := hf
    have ok := h.at_ hi
    simp only [doW]
    rw [up_eq hi]
    have hi1 := get_set_self (j := { i with st := i.st + 1 }) hi
    rw [ev_eq hi1]
    refine homeW_ok ?_
    obtain ⟨one, num, st, gone, guess, words, cell, made⟩ := i
    dsimp only at hst hg hi1 ok ⊢
    match st, hst with
    | 0, _ =>
      refine ⟨?_, h.pok, h.nx, h.s, h.gs⟩
      show ∀ j ∈ (W.laid.set k _).set k _, ItOk W.P j
      rw [List.set_set]
      refine set_its h.its ⟨ok.one, show (1 : Nat) ≤ 4 by decide, fun _ => by simp [readIt], fun _ c => ?_, fun z => absurd (show (2 : Nat) ≤ 1 from z) (by decide), ok.gs⟩
      obtain ⟨c, c1, c2⟩ := cell_ok (i := one) (ws := _) c
      refine ⟨c, ?_, c2, c1⟩
      exact congrArg (fun o => Option.or o cell) c1
    | 1, _ =>
      have ok1 : one.w = none → ItOk W.P ⟨one, num, 1 + 1, gone, guess, words, cell, made⟩ := fun z => ⟨ok.one, show (2 : Nat) ≤ 4 by decide, fun _ => ok.wd (Nat.le_refl _), fun _ => ok.cl (Nat.le_refl _), fun _ c => (by dsimp only at c; rw [z] at c; exact absurd c (by decide)), ok.gs⟩
      show WnOk (makeW { W with laid := W.laid.set k ⟨one, num, 1 + 1, gone, guess, words, cell, made⟩ } k ⟨one, num, 1 + 1, gone, guess, words, cell, made⟩)
      unfold makeW
      split
      · rename_i a t e
        dsimp only at e
        subst e
        split
        · exact ⟨set_its h.its (ok1 rfl), h.pok, h.nx, h.s, h.gs⟩
        · exact ⟨gone_its (set_its h.its (ok1 rfl)), h.pok, real_le (W := W) h (ok1 rfl), h.s, h.gs⟩
      · refine ⟨?_, h.pok, h.nx, h.s, h.gs⟩
        rw [List.set_set]
        refine set_its h.its ⟨ok.one, show (2 : Nat) ≤ 4 by decide, fun _ => ok.wd (Nat.le_refl _), fun _ => ok.cl (Nat.le_refl _), fun _ c => ?_, ok.gs⟩
        cases one <;> first | exact ⟨_, rfl⟩ | exact absurd c (by simp [In.w])
    | 2, _ => exact ⟨set_its h.its ⟨ok.one, show (3 : Nat) ≤ 4 by decide, fun _ => ok.wd (show (1 : Nat) ≤ 2 by decide), fun _ => ok.cl (show (1 : Nat) ≤ 2 by decide), fun _ => ok.md (show (2 : Nat) ≤ 2 by decide), ok.gs⟩, h.pok, h.nx, h.s, h.gs⟩
    | 3, _ => exact ⟨set_its h.its ⟨ok.one, show (4 : Nat) ≤ 4 by decide, fun _ => ok.wd (show (1 : Nat) ≤ 3 by decide), fun _ => ok.cl (show (1 : Nat) ≤ 3 by decide), fun _ => ok.md (show (2 : Nat) ≤ 3 by decide), ok.gs⟩, h.pok, h.nx, h.s, h.gs⟩
theorem begin_ok {x : Ds} {P : List In} {g : Gs} {s : Stt} (hp : ∀ i ∈ P, i.ok P.length) (hs : s.ok) (hg : ∀ l, g = .row l → l ≠ []) : WnOk (beginW x P g s) := ⟨fun i hi => (nomatch hi), hp, Nat.zero_le _, hs, hg⟩
end Law

/-! W6: the events that can come. -/
namespace Law
open Dx L2
def Vt.d : Vt → D
  | .lay => .tup [.str "lay"]
  | .ev e k => .tup [.str e.s, .int (k : Nat)]
theorem in_len {i : In} : 0 < i.items.length := by cases i <;> simp [In.items]
section
variable {S : Sg} {A : WA} {W : Wn}
theorem ev_ix {S : Sg} {n : Nat} (h : n < 4) : fIx (.clist [.str "lay", .str "read", .str "make", .str "write", .str "out"]) (.int ((n : Int) + 1)) S = .ok (.str (nextE n).s) S := by
  match n, h with
  | 0, _ => rfl
  | 1, _ => rfl
  | 2, _ => rfl
  | 3, _ => rfl
theorem et_nout {e : Et} : (e.s = "out") = (e = .out) := propext (Et.inj (b := .out))
theorem nums_get {l : List Nat} {i k : Nat} (h : l[i]? = some k) {S : Sg} : ixSeq S (numsD l) (.int (i : Nat)) = .ok (.int (k : Nat)) S := by
  rw [ixSeq_int, atI_cast]
  simp [numsD, h]
theorem beq_some (a b : Nat) : (some a == some b) = decide (b = a) := by
  rw [Bool.eq_iff_iff]
  simp
  exact eq_comm
theorem nums_cons {l : List Nat} {k : Nat} : numsD (k :: l) = .int (k : Nat) :: numsD l := rfl
theorem isL_at {f : Nat} {xs : List D} (h : S[f]? = some (.lst xs)) : isL S (.ref f) = true := by simp [isL, h]
theorem here_len (W : Wn) : (hereW W).length ≤ W.laid.length := by
  have := List.length_filter_le (fun k => W.laid[k]?.any It.here) (List.range W.laid.length)
  simpa [hereW] using this
theorem events_len (W : Wn) : (eventsW W).length ≤ W.laid.length + 1 := by
  have := here_len W
  have := List.length_filter_le (canGoW W) (hereW W)
  unfold eventsW
  split <;> simp <;> omega
theorem bel_vt (n : Nat) (v : Vt) : bel n v.d = true := by cases v <;> rfl
theorem belA_vt (n : Nat) (vs : List Vt) : belA n (vs.map Vt.d) = true := by
  induction vs with
  | nil => rfl
  | cons v vs ih => simp [belA, bel_vt, ih]
end
end Law

/-! W7: effects. -/
namespace Law
open Dx L2
section
variable {S : Sg} {A : WA} {W : Wn}
/-- what an effect wants -/
structure EffOk (s : Stt) (i : It) : Prop where
  put : ∀ d a k, i.one = .put d a k → (∃ c, i.cell = some c ∧ c < 8) ∧ i.words.length = 2
  shw : ∀ a, i.one = .shw a → i.words.length = 1
  wr : ∀ d, i.one.w = some d → d < 8 ∧ ∃ z, i.made = some z
  nif : i.one.kd ≠ .if_
theorem ints_get {l : List Int} {k : Nat} (h : k < l.length) {S : Sg} : ixSeq S (l.map D.int) (.int (k : Nat)) = .ok (.int (at0 l k)) S := by
  rw [ixSeq_int, atI_cast]
  simp [at0, h]
end
end Law

/-! W8: results. -/
namespace Law
open Dx L2
section
variable {S : Sg} {A : WA} {W : Wn}
/-- what making wants -/
structure MakOk (i : It) : Prop where
  sum : ∀ d a b v, i.one = .sum d a b v → i.words.length = 2
  get : ∀ d a k, i.one = .get d a k → ∃ c, i.cell = some c ∧ c < 8
  iff : ∀ a t, i.one = .iff a t → i.words.length = 1
theorem optr_eq {o : Option Nat} {n : Nat} {neg : Bool} : fEqF neg (.int (n : Int)) (optN o) S = .ok (.bl (neg != (some n == o))) S := opt_eq2 (o := some n) (p := o)
theorem ints_of (l : List Int) : intsOf (l.map D.int) = some l := by
  induction l with
  | nil => rfl
  | cons x l ih => simp [intsOf, ih]
theorem tp_sum {d : D} {l : List Int} (h : tupOf d = some (l.map D.int)) : cSumA [d] S = .ok (.int l.sum) S := by
  simp only [cSumA, h, ints_of]
theorem set_same {α : Type} {l : List α} {k : Nat} {x : α} (h : l[k]? = some x) : l.set k x = l := by
  obtain ⟨h1, h2⟩ := List.getElem?_eq_some_iff.mp h
  rw [← h2, List.set_getElem_self]
theorem cut_from (xs : List D) (k : Nat) : cutD xs (some ((k : Int) + 1)) none = xs.drop (k + 1) := by
  unfold cutD
  have h1 : HT.sIx xs.length 0 (some ((k : Int) + 1)) = min (k + 1) xs.length := by
    have := HT.sIx_nat xs.length 0 (k + 1)
    simpa using this
  have h2 : HT.sIx xs.length xs.length none = xs.length := HT.sIx_none _ _
  rw [h1, h2]
  by_cases h : k + 1 ≤ xs.length
  · rw [Nat.min_eq_left h, List.take_of_length_le (by simp)]
  · rw [Nat.min_eq_right (by omega), List.drop_eq_nil_of_le (by omega), List.drop_eq_nil_of_le (by omega)]
    simp
/-- all behind k and ahead of j thrown away -/
def goneTo (L : List It) (k j : Nat) : List It := L.mapIdx fun m i => if k < m ∧ m < j then { i with gone := true } else i
theorem goneTo_get {L : List It} {k j m : Nat} : (goneTo L k j)[m]? = L[m]?.map fun i => if k < m ∧ m < j then { i with gone := true } else i := by
  simp [goneTo, List.getElem?_mapIdx]
theorem goneFrom_get {L : List It} {k m : Nat} : (goneFrom L k)[m]? = L[m]?.map fun i => if k < m then { i with gone := true } else i := by
  simp [goneFrom, List.getElem?_mapIdx]
theorem goneTo_all {L : List It} {k : Nat} : goneTo L k L.length = goneFrom L k := by
  apply List.ext_getElem?
  intro m
  rw [goneTo_get, goneFrom_get]
  by_cases h : m < L.length
  · simp [h]
  · rw [List.getElem?_eq_none (by omega)]; rfl
theorem goneTo_no {L : List It} {k : Nat} : goneTo L k (k + 1) = L := by
  apply List.ext_getElem?
  intro m
  rw [goneTo_get]
  have : ¬ (k < m ∧ m < k + 1) := by omega
  simp [this]
theorem goneTo_step {L : List It} {k j : Nat} {i : It} (h : L[j]? = some i) (hk : k < j) : (goneTo L k j).set j { i with gone := true } = goneTo L k (j + 1) := by
  apply List.ext_getElem?
  intro m
  by_cases e : j = m
  · subst e
    rw [List.getElem?_set_self (by simp [goneTo, (List.getElem?_eq_some_iff.mp h).1]), goneTo_get, h]
    simp [hk]
  · rw [List.getElem?_set_ne e, goneTo_get, goneTo_get]
    have : (k < m ∧ m < j) ↔ (k < m ∧ m < j + 1) := by omega
    simp only [this]
end
end Law

/-! W9: words read. -/
namespace Law
open Dx L2
section
variable {S : Sg} {A : WA} {W : Wn}
theorem in_23 {S : Sg} (n : Nat) : fInF false (.int (n : Nat)) (.clist [.int 2, .int 3]) S = .ok (.bl (decide (n = 2 ∨ n = 3))) S := by
  have := in_nums (S := S) (some n) [2, 3]
  simp [numsD] at this
  rw [this]
  refine congrArg (fun b => R.ok (D.bl b) S) ?_
  rw [Bool.eq_iff_iff]
  simp
  omega
theorem in_gp {S : Sg} {a : String} : fInF false (.str a) (.clist [.str "get", .str "put"]) S = .ok (.bl (decide (a = "get") || decide (a = "put"))) S := by
  have := inF_lst (neg := false) (a := a) (ss := ["get", "put"]) (S := S)
  simp only [List.map_cons, List.map_nil] at this
  rw [this]
  simp [eq_comm]
theorem cellD (x : Int) (k : Nat) : D.int ((x + k) % 8) = D.int ((((x + k) % 8).toNat : Nat) : Int) := by
  have := Int.emod_nonneg (x + k) (show (8 : Int) ≠ 0 by decide)
  rw [Int.toNat_of_nonneg this]
/-- the word by the place of the last writer -/
def wordO (W : Wn) (r : Nat) : Option Nat → Int
  | some j => match W.laid[j]? with
    | some e => if e.st = 2 ∨ e.st = 3 then e.made.getD 0 else at0 W.s.n r
    | none => at0 W.s.n r
  | none => at0 W.s.n r
theorem lastW_some {L : List It} {r : Nat} : ∀ {n j : Nat}, lastW L r n = some j → j < n ∧ ∃ e, L[j]? = some e ∧ e.writes r = true
  | 0, _, h => nomatch h
  | n + 1, j, h => by
    unfold lastW at h
    split at h
    · rename_i c
      cases h
      cases hn : L[n]? with
      | none => rw [hn] at c; exact nomatch c
      | some e => rw [hn] at c; exact ⟨Nat.lt_succ_self n, e, rfl, c⟩
    · obtain ⟨h1, h2⟩ := lastW_some h
      exact ⟨Nat.lt_succ_of_lt h1, h2⟩
theorem bel_ints (n : Nat) (l : List Int) : belA n (l.map D.int) = true := by
  induction l with
  | nil => rfl
  | cons x l ih => simp [belA, bel, ih]
theorem bel_tp {n : Nat} {d : D} {xs : List D} (h : tupOf d = some xs) : bel n d = belA n xs := by rcases tp_cases h with rfl | rfl <;> simp [bel]
theorem bel_in {n : Nat} {d : D} {i : In} (h : InR d i) : bel n d = true := by
  rw [bel_tp h]
  cases i <;> simp [In.items, belA, bel]
theorem bel_optN {n : Nat} {o : Option Nat} : bel n (optN o) = true := by cases o <;> simp [bel]
theorem bel_optI {n : Nat} {o : Option Int} : bel n (optI o) = true := by cases o <;> simp [bel]
theorem bel_it {n : Nat} {d1 d6 : D} {i : It} (h1 : bel n d1 = true) (h6 : bel n d6 = true) : belO n (.dct (itK d1 d6 i)) = true := by
  simp [belO, belA, itK, h1, h6, bel, bel_optN, bel_optI]
end
end Law

/-! W10: an event is done. -/
namespace Law
open Dx L2
theorem vt_lay {S : Sg} {d : D} {v : Vt} (h : VtR d v) : fEqF false d (.tup [.str "lay"]) S = .ok (.bl (decide (v = .lay))) S := by
  cases v with
  | lay =>
    have hd : okD 9 S d = true := by rw [okD_tp h]; rfl
    rw [fEqF_ok hd rfl, eqB_tp h tupOf_tup]
    rfl
  | ev e k =>
    have hd : okD 9 S d = true := by rw [okD_tp h]; rfl
    rw [fEqF_ok hd rfl, eqB_tp h tupOf_tup]
    simp [eqL_cons, eqL_cn]
theorem et_rm {a : Et} : (a.s = "read") = (a = .read) ∧ (a.s = "make") = (a = .make) := ⟨propext (Et.inj (b := .read)), propext (Et.inj (b := .make))⟩
def homeD : Option Et → D
  | some e => .str e.s
  | none => .non
theorem eq_home {S : Sg} (e : Et) (o : Option Et) : fEqF false (.str e.s) (homeD o) S = .ok (.bl (decide (o = some e))) S := by
  cases o with
  | none => rfl
  | some f =>
    simp only [homeD]
    rw [fEqF_ok okD_str okD_str]
    simp only [eqB_str, Et.inj, Bool.false_bne]
    refine congrArg (fun b => R.ok (D.bl b) S) ?_
    rw [Bool.eq_iff_iff]
    simp [eq_comm]
theorem eq_homeR {S : Sg} (o : Option Et) : fEqF false (.str "read") (homeD o) S = .ok (.bl (decide (o = some .read))) S := eq_home .read o
theorem eq_homeM {S : Sg} (o : Option Et) : fEqF false (.str "make") (homeD o) S = .ok (.bl (decide (o = some .make))) S := eq_home .make o
theorem eq_homeW {S : Sg} (o : Option Et) : fEqF false (.str "write") (homeD o) S = .ok (.bl (decide (o = some .write))) S := eq_home .write o
theorem eq_homeT {S : Sg} (o : Option Et) : fEqF false (.str "out") (homeD o) S = .ok (.bl (decide (o = some .out))) S := eq_home .out o
section
variable {S : Sg} {A : WA} {W : Wn}
/-- what doing an event keeps -/
structure DoR (S S' : Sg) (A A' : WA) : Prop where
  fr : Fr (· ∈ A.all) S S'
  w : A'.w = A.w
  fp : ∀ b ∈ A'.all, b ∈ A.all ∨ S.length ≤ b
theorem eff_of {i : It} {st : Nat} (ok : WnOk W) (it : ItOk W.P i) (h : 2 ≤ i.st) (hne : i.one.kd ≠ .if_) : EffOk W.s { i with st := st } := by
  have hw := it.wd (by omega)
  have hc := fun z => (it.cl (by omega) z).imp fun _ q => And.intro q.1 q.2.1
  have hm := it.md h
  have hok := it.ok ok
  refine ⟨fun d a q z => ⟨hc (by rw [show i.one = _ from z]; exact .inr rfl), by rw [show i.one = _ from z] at hw; exact hw⟩, fun a z => by rw [show i.one = _ from z] at hw; exact hw, fun d z => ⟨In.w_lt hok d z, hm (by rw [show i.one.w = _ from z]; rfl)⟩, hne⟩
end
end Law

/-! W11: an instruction is laid. -/
namespace Law
open Dx L2
def Gs.s : Gs → String
  | .row _ => "row"
  | .next => "next"
  | .goal => "goal"
theorem gs_goal {S : Sg} {d : D} {g : Gs} (h : GsR d g) : fEqF false d (.tup [.str "goal"]) S = .ok (.bl (decide (g = .goal))) S := by
  cases g with
  | row l =>
    obtain ⟨r, h1, h2⟩ := h
    have hd : okD 9 S d = true := by
      rw [okD_tp h1]
      have hr : okD 8 S r = true := by rw [okD_tp h2]; exact okD_nums l
      simp [okD_str, hr]
    rw [fEqF_ok hd rfl, eqB_tp h1 tupOf_tup]
    simp [eqL_cons, eqL_cn]
  | next =>
    have hd : okD 9 S d = true := by rw [okD_tp h]; rfl
    rw [fEqF_ok hd rfl, eqB_tp h tupOf_tup]
    simp [eqL_cons, eqB_str]
  | goal =>
    have hd : okD 9 S d = true := by rw [okD_tp h]; rfl
    rw [fEqF_ok hd rfl, eqB_tp h tupOf_tup]
    simp [eqL_cons, eqB_str, eqL_nil]
theorem gs_ix0 {S : Sg} {d : D} {g : Gs} (h : GsR d g) : fIx d (.int 0) S = .ok (.str g.s) S := by
  cases g with
  | row l =>
    obtain ⟨r, h1, h2⟩ := h
    rw [tp_ix h1]; rfl
  | next => rw [tp_ix h]; rfl
  | goal => rw [tp_ix h]; rfl
theorem st_guess1 {a n : Nat} {d1 d6 : D} {i : It} {S : Sg} : stoO a (.str "guess") (.int ((n : Int) + 1)) S (some (.dct (itK d1 d6 i))) = some (S.set a (.dct (itK d1 d6 { i with guess := some (n + 1) }))) := by simp [stoO, keyD, itK, putD, ofS_iff]
theorem gs_s {g : Gs} : (g.s = "row") = (∃ l, g = .row l) := by cases g <;> simp [Gs.s]
section
variable {S : Sg} {A : WA} {W : Wn}
end
end Law

/-! W12: a hand. -/
namespace Law
open Dx L2
/-- events that came, one after the other -/
inductive Runs : Wn → List Vt → Wn → Prop
  | nil (W : Wn) : Runs W [] W
  | snoc {W W1 : Wn} {vs : List Vt} {v : Vt} : Runs W vs W1 → v ∈ eventsW W1 → Runs W (vs ++ [v]) (doW W1 v)
theorem Runs.trans {W W1 W2 : Wn} {us vs : List Vt} (h : Runs W us W1) (k : Runs W1 vs W2) : Runs W (us ++ vs) W2 := by
  induction k with
  | nil => rw [List.append_nil]; exact h
  | snoc _ hv ih => rw [← List.append_assoc]; exact .snoc ih hv
theorem doW_len {W : Wn} {v : Vt} : (doW W v).laid.length ≤ W.laid.length + 1 := by
  cases v with
  | lay =>
    simp only [doW, layW]
    split
    · exact Nat.le_succ _
    · split <;> simp
  | ev e k =>
    simp only [doW, evW]
    have hu : (upW W k).laid.length = W.laid.length := by simp [upW]
    split
    · rw [hu]; exact Nat.le_succ _
    · rename_i i hi
      have hm : (midW (upW W k) k i e).laid.length = W.laid.length := by
        cases e with
        | read => simp [midW, hu]
        | make =>
          simp only [midW, makeW]
          split
          · split <;> simp [hu, goneFrom]
          · simp [hu]
        | lay => exact hu
        | write => exact hu
        | out => exact hu
      unfold homeW
      split
      · rw [hm]; exact Nat.le_succ _
      · split
        · show (midW (upW W k) k i e).laid.length ≤ _; rw [hm]; exact Nat.le_succ _
        · rw [hm]; exact Nat.le_succ _
theorem eff_out {s : Stt} {i : It} : (effW s i).o.length ≤ s.o.length + 1 := by
  unfold effW
  split <;> simp
theorem doW_out {W : Wn} {v : Vt} : (doW W v).s.o.length ≤ W.s.o.length + 1 := by
  cases v with
  | lay =>
    simp only [doW, layW]
    split
    · exact Nat.le_succ _
    · split <;> exact Nat.le_succ _
  | ev e k =>
    simp only [doW, evW]
    split
    · exact Nat.le_succ _
    · rename_i i hi
      have hm : (midW (upW W k) k i e).s = W.s := by
        cases e with
        | read => rfl
        | make =>
          simp only [midW, makeW]
          split
          · split <;> rfl
          · rfl
        | lay => rfl
        | write => rfl
        | out => rfl
      unfold homeW
      split
      · rw [hm]; exact Nat.le_succ _
      · split
        · show (effW (midW (upW W k) k i e).s _).o.length ≤ _
          rw [hm]
          exact eff_out
        · rw [hm]; exact Nat.le_succ _
theorem Runs.inv {W W1 : Wn} {vs : List Vt} (h : Runs W vs W1) (ok : WnOk W) : WnOk W1 ∧ W1.laid.length ≤ W.laid.length + vs.length ∧ W1.s.o.length ≤ W.s.o.length + vs.length := by
  induction h with
  | nil => exact ⟨ok, by simp, by simp⟩
  | snoc _ hv ih =>
    obtain ⟨i1, i2, i3⟩ := ih
    refine ⟨do_inv i1 (fit_events hv), ?_, ?_⟩
    · refine Nat.le_trans doW_len ?_
      simp
      omega
    · refine Nat.le_trans doW_out ?_
      simp
      omega
section
variable {S : Sg} {A : WA} {W : Wn}
theorem vt_d (v : Vt) : VtR v.d v := by cases v <;> rfl
theorem okD_vt {n : Nat} (v : Vt) : okD (n + 1) S v.d = true := by
  cases v with
  | lay => simp [Vt.d, okD_tup, okD_str]
  | ev e k => simp [Vt.d, okD_tup, okD_str, okD_int]
theorem eq_vts {neg : Bool} (vs : List Vt) : fEqF neg (.clist (vs.map Vt.d)) (.clist []) S = .ok (.bl (neg != vs.isEmpty)) S := by
  have h1 : okD 9 S (.clist (vs.map Vt.d)) = true := by
    rw [okD_clist, List.all_map, List.all_eq_true]
    exact fun v _ => okD_vt (n := 7) v
  rw [fEqF_ok h1 rfl]
  cases vs <;> rfl
/-- what a hand keeps -/
structure HaR (r : Nat) (S S' : Sg) (A A' : WA) : Prop where
  row : IsRow r S'
  fr : Fr (fun j => j = r ∨ j ∈ A.all) S S'
  w : A'.w = A.w
  fp : ∀ b ∈ A'.all, b ∈ A.all ∨ S.length ≤ b
theorem HaR.refl {r : Nat} (h : IsRow r S) : HaR r S S A A := ⟨h, Fr.refl, rfl, fun b hb => .inl hb⟩
theorem HaR.trans {r : Nat} {S1 S2 : Sg} {A1 A2 : WA} (h : HaR r S S1 A A1) (k : HaR r S1 S2 A1 A2) : HaR r S S2 A A2 := by
  refine ⟨k.row, h.fr.trans k.fr fun j hj z => ?_, k.w.trans h.w, fun b hb => ?_⟩
  · rcases z with z | z
    · exact .inl z
    · exact (h.fp j z).elim .inr fun q => absurd hj (by omega)
  · rcases k.fp b hb with z | z
    · exact h.fp b z
    · exact .inr (Nat.le_trans h.fr.len z)
theorem HaR.nin {r : Nat} {S1 : Sg} {A1 : WA} (h : HaR r S S1 A A1) (hr : r < S.length) (hn : r ∉ A.all) : r ∉ A1.all := fun z => (h.fp r z).elim hn fun q => absurd hr (by omega)
theorem Dr.har {r : Nat} {S1 : Sg} (h : Dr r S S1) : HaR r S S1 A A := ⟨h.row, ⟨Nat.le_of_eq h.len.symm, fun i hi n => h.keep i fun z => n (.inl z)⟩, rfl, fun b hb => .inl hb⟩
theorem WR.dr {r : Nat} {S1 : Sg} (h : WR S A W) (d : Dr r S S1) (hn : r ∉ A.all) : WR S1 A W := h.same fun i hi => d.keep i fun z => hn (by rw [← z]; exact hi)
theorem DoR.har {r : Nat} {S1 : Sg} {A1 : WA} (h : DoR S S1 A A1) (hr : IsRow r S) (hn : r ∉ A.all) : HaR r S S1 A A1 := by
  refine ⟨?_, h.fr.mono fun i _ z => .inr z, h.w, h.fp⟩
  obtain ⟨ns, p, s, q, a, b, c⟩ := hr
  exact ⟨ns, p, s, q, a, by rw [h.fr.keep r (lt_of_at b) hn]; exact b, c⟩
end
end Law

/-! R2: comprehensions and loops over a list that stays as it is. -/
namespace Law
open Dx L2
section
variable {S : Sg} {ρ : Ev}
theorem srcAt_live {S : Sg} {n i : Nat} {ds : List D} (h : S[n]? = some (.lst ds)) : srcAt S (.live n) i = some ds[i]? := by simp [srcAt, h]
theorem srcLen_live {S : Sg} {n : Nat} {ds : List D} (h : S[n]? = some (.lst ds)) : srcLen S (.live n) = ds.length := by simp [srcLen, h]
theorem lcGo_live {α : Type} {tg : FG} {t : FT} {e : FE} {n : Nat} (enc : α → D) (P : α → Bool) (f : α → D) {xs : List α} (h : S[n]? = some (.lst (xs.map enc))) (hl : xs.length ≤ 16777216)
    (k : ∀ x ∈ xs, ∃ ρ1, tg (enc x) ρ = some ρ1 ∧ t ρ1 S = .ok (P x) S ∧ (P x = true → e ρ1 S = .ok (f x) S)) :
    ∀ (m i : Nat) (acc : List D), i + m = xs.length → acc.length ≤ i → lcGoF (.live n) tg t e ρ m i acc S = .ok (.clist (acc ++ (((xs.drop i).filter P).map f))) S
  | 0, i, acc, hi, ha => by
    have : xs.drop i = [] := List.drop_eq_nil_of_le (by omega)
    unfold lcGoF
    rw [srcAt_live h, this]
    have hn : (xs.map enc)[i]? = none := List.getElem?_eq_none (by rw [List.length_map]; omega)
    rw [hn]
    simp
  | m + 1, i, acc, hi, ha => by
    have hlt : i < xs.length := by omega
    obtain ⟨ρ1, e1, e2, e3⟩ := k xs[i] (List.getElem_mem hlt)
    unfold lcGoF
    have hn : (xs.map enc)[i]? = some (enc xs[i]) := by simp [hlt]
    rw [srcAt_live h, hn]
    simp only [e1, e2, ok_nox, ok_bind]
    rw [List.drop_eq_getElem_cons hlt, List.filter_cons]
    cases hp : P xs[i] with
    | true =>
      simp only [e3 hp, ok_nox, ok_bind]
      rw [if_pos (by omega), lcGo_live enc P f h hl k m (i + 1) (acc ++ [f xs[i]]) (by omega) (by simp; omega)]
      simp
    | false =>
      simp only
      rw [lcGo_live enc P f h hl k m (i + 1) acc (by omega) (by omega)]
      simp
theorem lc_live {α : Type} {vs : List Nat} {tg : FG} {t : FT} {e : FE} {n : Nat} (enc : α → D) (P : α → Bool) (f : α → D) {xs : List α} (h : S[n]? = some (.lst (xs.map enc))) (hl : xs.length ≤ 16777216)
    (k : ∀ x ∈ xs, ∃ ρ1, tg (enc x) (wipeD ρ vs) = some ρ1 ∧ t ρ1 S = .ok (P x) S ∧ (P x = true → e ρ1 S = .ok (f x) S)) :
    kLcF vs tg t e ρ (.live n) S = .ok (.clist ((xs.filter P).map f)) S := by
  unfold kLcF
  rw [srcLen_live h, List.length_map, lcGo_live enc P f h hl k xs.length 0 [] (by omega) (Nat.zero_le _)]
  simp
end
/-- a loop over a list that stays as it is -/
theorem forGo_live {n : Nat} {ds : List D} {tg : FG} {g : FS} (I : Nat → Ev → Sg → Prop) (Z : Fl → Prop) (st : ∀ i ρ S, I i ρ S → S[n]? = some (.lst ds)) (done : ∀ ρ S, I ds.length ρ S → Z (.nx ρ S))
    (step : ∀ i d ρ S, ds[i]? = some d → I i ρ S → ∃ ρ1, tg d ρ = some ρ1 ∧ ((∃ ρ2 S2, (g ρ1 S = .nx ρ2 S2 ∨ g ρ1 S = .ct ρ2 S2) ∧ I (i + 1) ρ2 S2) ∨ (∃ ρ2 S2, g ρ1 S = .bk ρ2 S2 ∧ Z (.nx ρ2 S2)) ∨ (∃ d S2, g ρ1 S = .rt d S2 ∧ Z (.rt d S2)))) :
    ∀ (m i : Nat) (ρ : Ev) (S : Sg), i + m = ds.length → I i ρ S → Z (forGo (.live n) tg g m i ρ S)
  | 0, i, ρ, S, hi, h => by
    have hn : ds[i]? = none := List.getElem?_eq_none (by omega)
    have : i = ds.length := by omega
    subst this
    unfold forGo
    rw [srcAt_live (st _ _ _ h), hn]
    exact done ρ S h
  | m + 1, i, ρ, S, hi, h => by
    have hlt : i < ds.length := by omega
    have hn : ds[i]? = some ds[i] := List.getElem?_eq_getElem hlt
    obtain ⟨ρ1, e1, hr⟩ := step i ds[i] ρ S hn h
    unfold forGo
    rw [srcAt_live (st _ _ _ h), hn]
    simp only [e1]
    rcases hr with ⟨ρ2, S2, e2 | e2, h2⟩ | ⟨ρ2, S2, e2, h2⟩ | ⟨d, S2, e2, h2⟩
    · rw [e2]; exact forGo_live I Z st done step m (i + 1) ρ2 S2 (by omega) h2
    · rw [e2]; exact forGo_live I Z st done step m (i + 1) ρ2 S2 (by omega) h2
    · rw [e2]; exact h2
    · rw [e2]; exact h2
theorem for_live {n : Nat} {ds : List D} {tg : FG} {g : FS} {ρ : Ev} {S : Sg} (I : Nat → Ev → Sg → Prop) (Z : Fl → Prop) (h0 : I 0 ρ S) (st : ∀ i ρ S, I i ρ S → S[n]? = some (.lst ds)) (done : ∀ ρ S, I ds.length ρ S → Z (.nx ρ S))
    (step : ∀ i d ρ S, ds[i]? = some d → I i ρ S → ∃ ρ1, tg d ρ = some ρ1 ∧ ((∃ ρ2 S2, (g ρ1 S = .nx ρ2 S2 ∨ g ρ1 S = .ct ρ2 S2) ∧ I (i + 1) ρ2 S2) ∨ (∃ ρ2 S2, g ρ1 S = .bk ρ2 S2 ∧ Z (.nx ρ2 S2)) ∨ (∃ d S2, g ρ1 S = .rt d S2 ∧ Z (.rt d S2)))) :
    Z (kFor tg g ρ (.live n) S) := by
  unfold kFor
  rw [srcLen_live (st _ _ _ h0)]
  exact forGo_live I Z st done step ds.length 0 ρ S (by omega) h0
/-- a loop over a list that stays, which answers z at the first thing of a kind -/
theorem for_hit_live {α : Type} {S : Sg} {n : Nat} {tg : FG} {g : FS} {ρ : Ev} (enc : α → D) (P : α → Bool) (z : α → D) (I : Ev → Prop) {xs : List α} (hS : S[n]? = some (.lst (xs.map enc))) (h : I ρ)
    (k : ∀ x ∈ xs, ∀ ρ, I ρ → ∃ ρ1, tg (enc x) ρ = some ρ1 ∧ (P x = true → g ρ1 S = .rt (z x) S) ∧ (P x = false → ∃ ρ2, g ρ1 S = .nx ρ2 S ∧ I ρ2)) :
    (∃ x, xs.find? P = some x ∧ kFor tg g ρ (.live n) S = .rt (z x) S) ∨ (xs.find? P = none ∧ ∃ ρ', I ρ' ∧ kFor tg g ρ (.live n) S = .nx ρ' S) := by
  refine for_live (ds := xs.map enc) (fun i ρ S2 => S2 = S ∧ I ρ ∧ (xs.take i).find? P = none) (fun fl => (∃ x, xs.find? P = some x ∧ fl = .rt (z x) S) ∨ (xs.find? P = none ∧ ∃ ρ', I ρ' ∧ fl = .nx ρ' S)) ⟨rfl, h, by simp⟩ ?_ ?_ ?_
  · rintro i ρ S2 ⟨rfl, _, _⟩; exact hS
  · rintro ρ S2 ⟨rfl, h1, h2⟩
    rw [List.length_map, List.take_length] at h2
    exact .inr ⟨h2, ρ, h1, rfl⟩
  · rintro i d ρ S2 hd ⟨rfl, h1, h2⟩
    have hlt : i < xs.length := by have := (List.getElem?_eq_some_iff.mp hd).1; simpa using this
    have : d = enc xs[i] := by
      have e : (xs.map enc)[i]? = some (enc xs[i]) := by simp [hlt]
      rw [e] at hd
      exact (Option.some.inj hd).symm
    subst this
    obtain ⟨ρ1, e1, e2, e3⟩ := k xs[i] (List.getElem_mem hlt) ρ h1
    refine ⟨ρ1, e1, ?_⟩
    cases hp : P xs[i] with
    | true =>
      refine .inr (.inr ⟨_, _, e2 hp, .inl ⟨xs[i], ?_, rfl⟩⟩)
      obtain ⟨y, hy⟩ : ∃ y, y = xs[i] := ⟨_, rfl⟩
      rw [← hy] at hp ⊢
      have e : xs = xs.take i ++ y :: xs.drop (i + 1) := by rw [hy, ← List.drop_eq_getElem_cons hlt, List.take_append_drop]
      rw [e, List.find?_append, h2]
      simp [hp]
    | false =>
      obtain ⟨ρ2, e4, h4⟩ := e3 hp
      refine .inl ⟨ρ2, _, .inl e4, rfl, h4, ?_⟩
      rw [List.take_succ_eq_append_getElem hlt, List.find?_append, h2]
      simp [hp]
theorem any_find {α : Type} {P : α → Bool} {xs : List α} : xs.any P = (xs.find? P).isSome := by
  rw [Bool.eq_iff_iff, List.any_eq_true, List.find?_isSome]
theorem for_all_live {α : Type} {S : Sg} {n : Nat} {tg : FG} {g : FS} {ρ : Ev} (enc : α → D) (P : α → Bool) (I : Ev → Prop) {xs : List α} (hS : S[n]? = some (.lst (xs.map enc))) (h : I ρ)
    (k : ∀ x ∈ xs, ∀ ρ, I ρ → ∃ ρ1, tg (enc x) ρ = some ρ1 ∧ (P x = true → g ρ1 S = .rt (.bl false) S) ∧ (P x = false → ∃ ρ2, g ρ1 S = .nx ρ2 S ∧ I ρ2)) :
    ((kFor tg g ρ (.live n) S).seq (sRet (xC (.bl true)))).ret = .ok (.bl (!xs.any P)) S := by
  rw [any_find]
  rcases for_hit_live enc P (fun _ => .bl false) I hS h k with ⟨x, z1, z2⟩ | ⟨z1, ρ', _, z2⟩ <;> rw [z1, z2] <;> rfl
theorem for_find_live {α : Type} {S : Sg} {n : Nat} {tg : FG} {g : FS} {ρ : Ev} (enc : α → D) (P : α → Bool) (z : α → D) (I : Ev → Prop) {xs : List α} (hS : S[n]? = some (.lst (xs.map enc))) (h : I ρ)
    (k : ∀ x ∈ xs, ∀ ρ, I ρ → ∃ ρ1, tg (enc x) ρ = some ρ1 ∧ (P x = true → g ρ1 S = .rt (z x) S) ∧ (P x = false → ∃ ρ2, g ρ1 S = .nx ρ2 S ∧ I ρ2)) :
    ((kFor tg g ρ (.live n) S).seq (sRet (xC .non))).ret = .ok ((xs.find? P).elim .non z) S := by
  rcases for_hit_live enc P z I hS h k with ⟨x, z1, z2⟩ | ⟨z1, ρ', _, z2⟩ <;> rw [z1, z2] <;> rfl
/-- refs at known places, as a picture of places -/
theorem refs_range (as : List Nat) : as.map D.ref = (List.range as.length).map fun j => D.ref (as.getD j 0) := by
  apply List.ext_getElem?
  intro j
  by_cases hj : j < as.length
  · simp [hj]
  · rw [List.getElem?_eq_none (by simpa using hj), List.getElem?_eq_none (by simpa using hj)]
theorem any_range {α : Type} (p : α → Bool) (L : List α) : ((List.range L.length).any fun j => L[j]?.any p) = L.any p := by
  rw [Bool.eq_iff_iff, List.any_eq_true, List.any_eq_true]
  constructor
  · rintro ⟨j, h1, h2⟩
    have h1 := List.mem_range.mp h1
    rw [List.getElem?_eq_getElem h1, Option.any_some] at h2
    exact ⟨_, List.getElem_mem h1, h2⟩
  · rintro ⟨x, h1, h2⟩
    obtain ⟨j, hj⟩ := List.getElem?_of_mem h1
    exact ⟨j, List.mem_range.mpr (List.getElem?_eq_some_iff.mp hj).1, by rw [hj]; exact h2⟩
end Law

/-! W13: how it stands; how it begins. -/
namespace Law
open Dx L2
def Stt.d (s : Stt) : D := .tup [.tup (s.n.map .int), .tup (s.c.map .int), .tup (s.o.map .int)]
theorem count_range {α : Type} (p : α → Bool) : ∀ L : List α, ((List.range L.length).filter fun k => L[k]?.any p).length = (L.filter p).length
  | [] => rfl
  | x :: L => by
    have ih := count_range p L
    rw [List.length_cons, List.range_succ_eq_map, List.filter_cons, List.filter_map]
    have e : ((fun k => (x :: L)[k]?.any p) ∘ Nat.succ) = fun k => L[k]?.any p := by funext k; simp
    rw [e]
    cases h : p x <;> simp [h, ih]
section
variable {S : Sg} {A : WA} {W : Wn}
theorem app_set {L : Sg} {k : Nat} {o : O} : (S ++ L).set (S.length + k) o = S ++ L.set k o := by
  rw [List.set_append_right _ _ (by omega)]
  congr 2
  omega
end
end Law

/-! V1: programs, states and guessers drawn. -/
namespace Law
open Dx L2
set_option maxHeartbeats 2000000 in
theorem instr_ok {n m : Nat} {S : Sg} (h : IsRow n S) (hm : m ≤ 20) : ∃ (i : In) (S' : Sg), i.ok m ∧ F__law_instruction [.ref n, .int m] S = .ok i.d S' ∧ Dr n S S' := by
  obtain ⟨k, S1, hk, e1, d1⟩ := pick_enc D.str ["set", "sum", "sum", "get", "get", "put", "put", "if", "show"] h
  obtain ⟨d, S2, hd, e2, d2⟩ := taken_dr (m := 3) d1.row (by decide) (by decide)
  obtain ⟨a, S3, ha, e3, d3⟩ := taken_dr (m := 3) d2.row (by decide) (by decide)
  obtain ⟨b, S4, hb, e4, d4⟩ := taken_dr (m := 3) d3.row (by decide) (by decide)
  simp only [List.map_cons, List.map_nil] at e1
  have rr := d1.trans (d2.trans (d3.trans d4))
  have hk : k = "set" ∨ k = "sum" ∨ k = "get" ∨ k = "put" ∨ k = "if" ∨ k = "show" := by
    simp only [List.mem_cons, List.not_mem_nil, or_false] at hk
    grind
  rcases hk with rfl | rfl | rfl | rfl | rfl | rfl
  · obtain ⟨v, S5, hv, e5, d5⟩ := taken_dr (m := 256) d4.row (by decide) (by decide)
    obtain ⟨w, S6, hw, e6, d6⟩ := pick_enc (fun k : Nat => D.int k) [0, 1, 2, 255, v] d5.row (by simp) (by simp)
    refine ⟨.set d w, S6, ⟨by omega, by simp at hw; omega⟩, ?_, rr.trans (d5.trans d6)⟩
    have e6 : F__law_pick [.ref n, .clist [.int 0, .int 1, .int 2, .int 255, .int v]] S5 = .ok (.int w) S6 := e6
    unfold F__law_instruction S__law_instruction
    simp -implicitDefEqProofs [e1, e2, e3, e4, e5, e6, In.d, In.items]
  · obtain ⟨w, S6, hw, e6, d6⟩ := pick_enc (fun k : Nat => D.int k) [0, 0, 1, 255] d4.row
    refine ⟨.sum d a b w, S6, ⟨by omega, by omega, by omega, by simp at hw; omega⟩, ?_, rr.trans d6⟩
    have e6 : F__law_pick [.ref n, .clist [.int 0, .int 0, .int 1, .int 255]] S4 = .ok (.int w) S6 := e6
    unfold F__law_instruction S__law_instruction
    simp -implicitDefEqProofs [e1, e2, e3, e4, e6, In.d, In.items]
  · obtain ⟨v, S5, hv, e5, d5⟩ := taken_dr (m := 3) d4.row (by decide) (by decide)
    refine ⟨.get d a v, S5, ⟨by omega, by omega, by omega⟩, ?_, rr.trans d5⟩
    unfold F__law_instruction S__law_instruction
    simp -implicitDefEqProofs [e1, e2, e3, e4, e5, in_gp, In.d, In.items]
  · obtain ⟨v, S5, hv, e5, d5⟩ := taken_dr (m := 3) d4.row (by decide) (by decide)
    refine ⟨.put d a v, S5, ⟨by omega, by omega, by omega⟩, ?_, rr.trans d5⟩
    unfold F__law_instruction S__law_instruction
    simp -implicitDefEqProofs [e1, e2, e3, e4, e5, in_gp, In.d, In.items]
  · obtain ⟨v, S5, hv, e5, d5⟩ := taken_dr (m := (m : Int) + 1) d4.row (by omega) (by omega)
    refine ⟨.iff a v, S5, ⟨by omega, by omega, by omega⟩, ?_, rr.trans d5⟩
    unfold F__law_instruction S__law_instruction
    simp -implicitDefEqProofs [e1, e2, e3, e4, e5, in_gp, In.d, In.items]
  · refine ⟨.shw a, S4, show a < 8 by omega, ?_, rr⟩
    unfold F__law_instruction S__law_instruction
    simp -implicitDefEqProofs [e1, e2, e3, e4, in_gp, In.d, In.items]
theorem prog_ok {n : Nat} {S : Sg} {M : Nat} (h : IsRow n S) (hM : M ≤ 20) : ∃ (P : List In) (S' : Sg), P.length ≤ M ∧ (∀ i ∈ P, i.ok P.length) ∧ F__law_program [.ref n, .int M] S = .ok (.tup (P.map In.d)) S' ∧ Dr n S S' := by
  obtain ⟨m, S1, hm, e1, d1⟩ := taken_dr (m := (M : Int) + 1) h (by omega) (by omega)
  have hm : m ≤ M := by omega
  obtain ⟨acc, S2, ⟨P, rfl, hP, hl, d2⟩, e2⟩ := lcRun_inv (tg := gNm 3) (t := tYesF) (e := xCall F__law_instruction 2 (aCons (xVar 0) (aCons (xVar 2) aNil))) (ρ := [some (.ref n), some (.int M), some (.int m), none])
    (fun ds acc S' => ∃ P : List In, acc = P.map In.d ∧ (∀ i ∈ P, i.ok m) ∧ P.length + ds.length = m ∧ Dr n S1 S')
    (fun d ds acc S' ⟨P, ea, hP, hl, dr⟩ => by
      obtain ⟨i, S3, ok, e3, d3⟩ := instr_ok dr.row (m := m) (by omega)
      refine ⟨_, rfl, true, S', rfl, fun _ => ⟨i.d, S3, ?_, ?_, P ++ [i], by simp [ea], ?_, by simp at hl ⊢; omega, dr.trans d3⟩, fun z => nomatch z⟩
      · simp -implicitDefEqProofs [e3]
      · simp [ea] at hl ⊢
        omega
      · intro j hj
        rcases List.mem_append.mp hj with hj | hj
        · exact hP j hj
        · rw [List.mem_singleton.mp hj]; exact ok)
    (intsD 0 m) [] S1 ⟨[], rfl, by simp, by simp [intsD], Dr.refl d1.row⟩
  have hl : P.length = m := by simpa using hl
  refine ⟨P, S2, by omega, by rw [hl]; exact hP, ?_, d1.trans d2⟩
  have hk : kR1 [.int (m : Int)] S1 = .ok (.its (intsD 0 m)) S1 := kR1_nat (by omega)
  unfold F__law_program S__law_program
  simp -implicitDefEqProofs [e1, hk, e2, wipeD]
theorem mul9 {S : Sg} {k : Nat} (h : k < 2) : fMulFF (.tup [.int 9]) (.int k) S = .ok (.tup ((List.replicate k (9 : Int)).map .int)) S := by
  match k, h with
  | 0, _ => rfl
  | 1, _ => rfl
structure Stt.wd (s : Stt) : Prop where
  n : ∀ x ∈ s.n, 0 ≤ x ∧ x ≤ 255
  c : ∀ x ∈ s.c, 0 ≤ x ∧ x ≤ 255
  o : ∀ x ∈ s.o, 0 ≤ x ∧ x ≤ 255
def Gs.d : Gs → D
  | .row l => .tup [.str "row", .tup (numsD l)]
  | .next => .tup [.str "next"]
  | .goal => .tup [.str "goal"]
theorem gs_d (g : Gs) : GsR g.d g := by
  cases g with
  | row l => exact ⟨_, rfl, rfl⟩
  | next => rfl
  | goal => rfl
end Law

namespace Law
open Dx L2
theorem fIx_en4 {S : Sg} (e : En) : fIx e.d (.int 4) S = .ok (.str e.q.s) S := rfl
theorem et_ne3 {a : Et} : (a.s = "out") = (a = .out) := propext (Et.inj (b := .out))
theorem ds_w {S : Sg} (x : Ds) : fIx x.d (.int 0) S = .ok (.int x.w) S := rfl
theorem ds_io {S : Sg} (x : Ds) : fIx x.d (.int 1) S = .ok (.bl x.io) S := rfl
theorem ds_hd {S : Sg} (x : Ds) : fIx x.d (.int 2) S = .ok (.bl x.hd) S := rfl
theorem ds_h {S : Sg} (x : Ds) : fIx x.d (.int 3) S = .ok x.homes S := rfl
theorem ds_t {S : Sg} (x : Ds) : fIx x.d (.int 4) S = .ok (.tup (x.t.map En.d)) S := rfl
end Law

namespace Law
open Dx L2
/-! ### draws of designs and entries -/
end Law

namespace Law
open Dx L2
/-! ### a dict of entries -/
def En.key (e : En) : List Key := e.ks.map fun s => .inr (PySem.Str.ofString s)
theorem key_inj {a b : En} (h : a.key = b.key) : a = b := by
  have h2 : a.ks = b.ks := by
    have inj : ∀ xs ys : List String, xs.map (fun s => (Sum.inr (PySem.Str.ofString s) : Key)) = ys.map (fun s => .inr (PySem.Str.ofString s)) → xs = ys := by
      intro xs
      induction xs with
      | nil => intro ys h; cases ys with
        | nil => rfl
        | cons _ _ => simp at h
      | cons x xs ih => intro ys h; cases ys with
        | nil => simp at h
        | cons y ys =>
          simp only [List.map_cons, List.cons.injEq, Sum.inr.injEq, ofS_iff] at h
          rw [h.1, ih ys h.2]
    exact inj _ _ h
  obtain ⟨r, x, y, p, q⟩ := a
  obtain ⟨r', x', y', p', q'⟩ := b
  simp only [En.ks, List.cons.injEq, Rl.inj, Kd.inj, Et.inj] at h2
  obtain ⟨rfl, rfl, rfl, rfl, rfl, _⟩ := h2
  rfl
def picD (es : List En) : List (List Key × D) := es.map fun e => (e.key, .bl true)
def addE (es : List En) (e : En) : List En := if e ∈ es then es else es ++ [e]
theorem put_pic (es : List En) (e : En) : putD (picD es) e.key (.bl true) = picD (addE es e) := by
  unfold putD addE
  have ha : ((picD es).any fun kv => decide (kv.1 = e.key)) = decide (e ∈ es) := by
    unfold picD
    rw [List.any_map]
    by_cases h : e ∈ es
    · rw [decide_eq_true h]
      exact List.any_eq_true.mpr ⟨e, h, by simp⟩
    · rw [decide_eq_false h]
      refine List.any_eq_false.mpr fun x hx => ?_
      simp only [Function.comp, decide_eq_true_eq]
      exact fun z => h (by rw [← key_inj z]; exact hx)
  rw [ha]
  by_cases h : e ∈ es
  · simp only [h, decide_true, if_true]
    unfold picD
    rw [List.map_map]
    refine List.map_congr_left fun x _ => ?_
    simp only [Function.comp]
    split <;> rfl
  · simp only [h, decide_false, Bool.false_eq_true, if_false]
    unfold picD
    simp
theorem addE_nodup {es : List En} {e : En} (h : es.Nodup) : (addE es e).Nodup := by
  unfold addE
  split
  · exact h
  · rename_i hn
    rw [List.nodup_append]
    exact ⟨h, by simp, fun a ha b hb => by simp at hb; subst hb; rintro rfl; exact hn ha⟩
theorem addE_mem {es : List En} {e x : En} : x ∈ addE es e ↔ x ∈ es ∨ x = e := by
  unfold addE
  split
  · rename_i h
    exact ⟨.inl, fun z => z.elim id fun z => by rw [z]; exact h⟩
  · simp
theorem addE_len {es : List En} {e : En} : (addE es e).length ≤ es.length + 1 := by
  unfold addE
  split <;> simp
theorem merge_pic (es : List En) : mergeDg (picD es) = picD (es.foldl addE []) := by
  have go : ∀ (es acc : List En), (picD es).foldl (fun acc kv => putD acc kv.1 kv.2) (picD acc) = picD (es.foldl addE acc) := by
    intro es
    induction es with
    | nil => intro acc; rfl
    | cons e es ih =>
      intro acc
      rw [List.foldl_cons, ← ih, ← put_pic]
      rfl
  exact go es []
theorem fold_add {es : List En} : ∀ {acc : List En}, acc.Nodup → (es.foldl addE acc).Nodup ∧ (∀ x, x ∈ es.foldl addE acc ↔ x ∈ acc ∨ x ∈ es) ∧ (es.foldl addE acc).length ≤ acc.length + es.length := by
  induction es with
  | nil => intro acc h; exact ⟨h, by simp, by simp⟩
  | cons e es ih =>
    intro acc h
    obtain ⟨a, b, c⟩ := ih (addE_nodup (e := e) h)
    refine ⟨a, fun x => ?_, ?_⟩
    · rw [List.foldl_cons, b, addE_mem]
      simp [or_assoc]
    · rw [List.foldl_cons]
      have := addE_len (es := acc) (e := e)
      simp only [List.length_cons]
      omega
theorem pair_en {S : Sg} (es : List En) : cDict [.clist (es.map fun e => .tup [e.d, .bl true])] S = newO (.dtt (picD (es.foldl addE []))) S := by
  unfold cDict
  simp only [seqOf]
  have : (es.map fun e => D.tup [e.d, .bl true]).mapM pairT = some (picD es) := by
    induction es with
    | nil => rfl
    | cons e es ih =>
      rw [List.map_cons, List.mapM_cons, ih]
      rfl
  rw [this]
  simp only [merge_pic]
theorem ofk_r (r : Rl) : ofKey (.inr (PySem.Str.ofString r.s)) = .str r.s ∧ keyOk (.inr (PySem.Str.ofString r.s)) = true := by cases r <;> exact ⟨rfl, rfl⟩
theorem ofk_k (r : Kd) : ofKey (.inr (PySem.Str.ofString r.s)) = .str r.s ∧ keyOk (.inr (PySem.Str.ofString r.s)) = true := by cases r <;> exact ⟨rfl, rfl⟩
theorem ofk_e (r : Et) : ofKey (.inr (PySem.Str.ofString r.s)) = .str r.s ∧ keyOk (.inr (PySem.Str.ofString r.s)) = true := by cases r <;> exact ⟨rfl, rfl⟩
theorem list_pic {S : Sg} {m : Nat} {es : List En} (h : S[m]? = some (.dtt (picD es))) : cListF [.ref m] S = .ok (.clist (es.map En.d)) S := by
  unfold cListF
  simp only [itemsD, seqOf, h]
  rw [if_pos]
  · unfold picD
    rw [List.map_map]
    congr 2
    refine List.map_congr_left fun e _ => ?_
    simp only [Function.comp, En.key, En.ks, List.map_cons, List.map_nil, (ofk_r _).1, (ofk_k _).1, (ofk_e _).1]
    rfl
  · unfold picD
    rw [List.all_map, List.all_eq_true]
    intro e _
    simp only [Function.comp, En.key, En.ks, List.map_cons, List.map_nil, List.all_cons, List.all_nil, (ofk_r _).2, (ofk_k _).2, (ofk_e _).2, Bool.and_self]
theorem bel_en (n : Nat) (e : En) : bel n e.d = true := by simp [En.d, bel, belA]
theorem belA_en (n : Nat) (es : List En) : belA n (es.map En.d) = true := by
  induction es with
  | nil => simp [belA]
  | cons e es ih => simp [belA, bel_en, ih]
theorem bel_ds (n : Nat) (x : Ds) : bel n x.d = true := by simp [Ds.d, Ds.homes, bel, belA, belA_en]
end Law

/-! A6: the program's own functions: kinds, entries, what forces what. -/
namespace Law
open Dx L2
theorem is_int_ok {S : Sg} (i : Int) : F_is_integer [.int i] S = .ok (.bl true) S := by
  unfold F_is_integer S_is_integer
  simp -implicitDefEqProofs [isaT]
theorem from_to_ok {S : Sg} (i a b : Int) : F_is_from_to [.int i, .int a, .int b] S = .ok (.bl (decide (a ≤ i) && decide (i ≤ b))) S := by
  unfold F_is_from_to S_is_from_to
  simp -implicitDefEqProofs [is_int_ok]
theorem idx_events {S : Sg} (e : Et) : kIdxG ["lay", "read", "make", "write", "out"] (.str e.s) S = .ok (.int e.n) S := by cases e <;> rfl
theorem en0 {S : Sg} (e : En) : fIx e.d (.int 0) S = .ok (.str e.r.s) S := rfl
theorem en1 {S : Sg} (e : En) : fIx e.d (.int 1) S = .ok (.str e.a.s) S := rfl
theorem en2 {S : Sg} (e : En) : fIx e.d (.int 2) S = .ok (.str e.b.s) S := rfl
theorem en3 {S : Sg} (e : En) : fIx e.d (.int 3) S = .ok (.str e.p.s) S := rfl
theorem en4 {S : Sg} (e : En) : fIx e.d (.int 4) S = .ok (.str e.q.s) S := rfl
theorem en13 {S : Sg} (e : En) : fSlF e.d (some 1) (some 3) S = .ok (.tup [.str e.a.s, .str e.b.s]) S := rfl
theorem in_lr2 {S : Sg} (q : Et) : fInF false (.str q.s) (.tup [.str "lay", .str "read"]) S = .ok (.bl (decide (q.n ≤ 1))) S := by cases q <;> rfl
end Law

/-! A7: tables, designs, what is forced in them; needs, missing. -/
namespace Law
open Dx L2
theorem all_bls {S : Sg} (bs : List Bool) : cAll [.clist (bs.map D.bl)] S = .ok (.bl (bs.all id)) S := by
  unfold cAll
  have : blsOf (bs.map D.bl) = some bs := by
    induction bs with
    | nil => rfl
    | cons b bs ih => simp [blsOf, ih]
  simp [seqOf, this]
theorem any_bls {S : Sg} (bs : List Bool) : cAny [.clist (bs.map D.bl)] S = .ok (.bl (bs.any id)) S := by
  unfold cAny
  have : blsOf (bs.map D.bl) = some bs := by
    induction bs with
    | nil => rfl
    | cons b bs ih => simp [blsOf, ih]
  simp [seqOf, this]
theorem all_of {α : Type} {S : Sg} (f : α → Bool) (xs : List α) : cAll [.clist (xs.map fun x => D.bl (f x))] S = .ok (.bl (xs.all f)) S := by
  have := all_bls (S := S) (xs.map f)
  rw [List.map_map] at this
  rw [show (xs.map fun x => D.bl (f x)) = xs.map (D.bl ∘ f) from rfl, this, List.all_map]
  rfl
theorem any_of {α : Type} {S : Sg} (f : α → Bool) (xs : List α) : cAny [.clist (xs.map fun x => D.bl (f x))] S = .ok (.bl (xs.any f)) S := by
  have := any_bls (S := S) (xs.map f)
  rw [List.map_map] at this
  rw [show (xs.map fun x => D.bl (f x)) = xs.map (D.bl ∘ f) from rfl, this, List.any_map]
  rfl
def kZp : List D → Sg → R Src
  | [.tup xs, .tup ys], S => .ok (.its ((xs.zip ys).map fun p => .tup [p.1, p.2])) S
  | [.tup xs, .ktup ys], S => .ok (.its ((xs.zip ys).map fun p => .tup [p.1, p.2])) S
  | [.ktup xs, .tup ys], S => .ok (.its ((xs.zip ys).map fun p => .tup [p.1, p.2])) S
  | [.ktup xs, .ktup ys], S => .ok (.its ((xs.zip ys).map fun p => .tup [p.1, p.2])) S
  | _, _ => .stuck
@[simp] theorem iZp_at {g : FA} {ρ : Ev} {S : Sg} : iZp g ρ S = (g ρ S).bind kZp := by
  unfold iZp
  congr 1
  funext ds S
  match ds with
  | [] => rfl
  | [a] => cases a <;> rfl
  | [a, b] => cases a <;> cases b <;> rfl
  | a :: b :: c :: r => cases a <;> cases b <;> rfl
@[simp] theorem kZp_tt {xs ys : List D} {S : Sg} : kZp [.tup xs, .tup ys] S = .ok (.its ((xs.zip ys).map fun p => .tup [p.1, p.2])) S := rfl
theorem slF_1 {xs : List D} {S : Sg} : fSlF (.tup xs) (some 1) none S = .ok (.tup (xs.drop 1)) S := by
  cases xs with
  | nil => rfl
  | cons x xs =>
    have h1 : HT.sIx (xs.length + 1) 0 (some 1) = 1 := by simp [HT.sIx]
    have h2 : HT.sIx (xs.length + 1) (xs.length + 1) none = xs.length + 1 := rfl
    simp [fSlF, seqOf, fSl, cutD, h1, h2]
def okT (es : List En) : Prop := Asc es ∧ (∀ e ∈ es, e.p ≠ .lay) ∧ es.length ≤ 1000000
theorem okT_nil : okT [] := ⟨.nil, by simp, by simp⟩
theorem zip_map {es : List En} : ((es.map En.d).zip ((es.map En.d).drop 1)).map (fun p => D.tup [p.1, p.2]) = (es.zip (es.drop 1)).map fun p => .tup [p.1.d, p.2.d] := by
  rw [← List.map_drop, List.zip_map, List.map_map]
  rfl
theorem asc_zip {es : List En} (h : Asc es) : ∀ p ∈ es.zip (es.drop 1), p.1.code < p.2.code := by
  intro p hp
  obtain ⟨i, hi⟩ := List.mem_iff_getElem?.mp hp
  rw [List.getElem?_zip_eq_some] at hi
  obtain ⟨h1, h2⟩ := hi
  rw [List.getElem?_drop] at h2
  obtain ⟨l1, e1⟩ := List.getElem?_eq_some_iff.mp h1
  obtain ⟨l2, e2⟩ := List.getElem?_eq_some_iff.mp h2
  rw [← e1, ← e2]
  exact List.pairwise_iff_getElem.mp h i (1 + i) l1 l2 (by omega)
structure okD' (x : Ds) : Prop where
  w1 : 1 ≤ x.w
  w4 : x.w ≤ 4
  t : okT x.t
theorem sl2_ds {S : Sg} (x : Ds) : fSlF x.d none (some 2) S = .ok (.tup [.int x.w, .bl x.io]) S := rfl
end Law

/-! V2: the program's checks. -/
namespace Law
open Dx L2
theorem gi_set {S : Sg} : fInF true (.str "set") k_GREATEST S = .ok (.bl false) S := rfl
theorem gi_sum {S : Sg} : fInF true (.str "sum") k_GREATEST S = .ok (.bl false) S := rfl
theorem gi_get {S : Sg} : fInF true (.str "get") k_GREATEST S = .ok (.bl false) S := rfl
theorem gi_put {S : Sg} : fInF true (.str "put") k_GREATEST S = .ok (.bl false) S := rfl
theorem gi_if {S : Sg} : fInF true (.str "if") k_GREATEST S = .ok (.bl false) S := rfl
theorem gi_show {S : Sg} : fInF true (.str "show") k_GREATEST S = .ok (.bl false) S := rfl
theorem gi_hop {S : Sg} : fInF true (.str "hop") k_GREATEST S = .ok (.bl true) S := rfl
theorem gx_set {S : Sg} : fIx k_GREATEST (.str "set") S = .ok (.ktup [.int 7, .int 255]) S := rfl
theorem gx_sum {S : Sg} : fIx k_GREATEST (.str "sum") S = .ok (.ktup [.int 7, .int 7, .int 7, .int 255]) S := rfl
theorem gx_get {S : Sg} : fIx k_GREATEST (.str "get") S = .ok (.ktup [.int 7, .int 7, .int 7]) S := rfl
theorem gx_put {S : Sg} : fIx k_GREATEST (.str "put") S = .ok (.ktup [.int 7, .int 7, .int 7]) S := rfl
theorem gx_if {S : Sg} : fIx k_GREATEST (.str "if") S = .ok (.ktup [.int 7, .int 40]) S := rfl
theorem gx_show {S : Sg} : fIx k_GREATEST (.str "show") S = .ok (.ktup [.int 7]) S := rfl
@[simp] theorem kZp_tk {S : Sg} {xs ys : List D} : kZp [.tup xs, .ktup ys] S = .ok (.its ((xs.zip ys).map fun p => .tup [p.1, p.2])) S := rfl
theorem all1 {S : Sg} {a : Bool} : cAll [.clist [.bl a]] S = .ok (.bl a) S := by simpa using all_bls (S := S) [a]
theorem all2 {S : Sg} {a b : Bool} : cAll [.clist [.bl a, .bl b]] S = .ok (.bl (a && b)) S := by simpa using all_bls (S := S) [a, b]
theorem all3 {S : Sg} {a b c : Bool} : cAll [.clist [.bl a, .bl b, .bl c]] S = .ok (.bl (a && (b && c))) S := by simpa using all_bls (S := S) [a, b, c]
theorem all4 {S : Sg} {a b c d : Bool} : cAll [.clist [.bl a, .bl b, .bl c, .bl d]] S = .ok (.bl (a && (b && (c && d)))) S := by simpa using all_bls (S := S) [a, b, c, d]
theorem le_int {S : Sg} {i j : Int} : fLe (.int i) (.int j) S = .ok (.bl (decide (i ≤ j))) S := rfl
theorem gt_int {S : Sg} {i j : Int} : fGt (.int i) (.int j) S = .ok (.bl (decide (j < i))) S := rfl
theorem ia_ok {S : Sg} (n : Nat) (i : In) (h : i.ok n) : F_is_instruction_among [i.d, .int n] S = .ok (.bl true) S := by
  unfold F_is_instruction_among S_is_instruction_among
  cases i with
  | set d v =>
    obtain ⟨h1, h2⟩ := h
    have a1 : (d : Int) ≤ 7 := by omega
    have a2 : (v : Int) ≤ 255 := by omega
    simp -implicitDefEqProofs [In.d, In.items, isaT, gi_set, gx_set, slF_1, wipeD, from_to_ok, all2, a1, a2]
  | sum d a b v =>
    obtain ⟨h1, h2, h3, h4⟩ := h
    have a1 : (d : Int) ≤ 7 := by omega
    have a2 : (a : Int) ≤ 7 := by omega
    have a3 : (b : Int) ≤ 7 := by omega
    have a4 : (v : Int) ≤ 255 := by omega
    simp -implicitDefEqProofs [In.d, In.items, isaT, gi_sum, gx_sum, slF_1, wipeD, from_to_ok, all4, a1, a2, a3, a4]
  | get d a k =>
    obtain ⟨h1, h2, h3⟩ := h
    have a1 : (d : Int) ≤ 7 := by omega
    have a2 : (a : Int) ≤ 7 := by omega
    have a3 : (k : Int) ≤ 7 := by omega
    simp -implicitDefEqProofs [In.d, In.items, isaT, gi_get, gx_get, slF_1, wipeD, from_to_ok, all3, a1, a2, a3]
  | put d a k =>
    obtain ⟨h1, h2, h3⟩ := h
    have a1 : (d : Int) ≤ 7 := by omega
    have a2 : (a : Int) ≤ 7 := by omega
    have a3 : (k : Int) ≤ 7 := by omega
    simp -implicitDefEqProofs [In.d, In.items, isaT, gi_put, gx_put, slF_1, wipeD, from_to_ok, all3, a1, a2, a3]
  | iff a t =>
    obtain ⟨h1, h2, h3⟩ := h
    have a1 : (a : Int) ≤ 7 := by omega
    have a2 : (t : Int) ≤ 40 := by omega
    have a3 : (t : Int) ≤ n := by omega
    simp -implicitDefEqProofs [In.d, In.items, isaT, gi_if, gx_if, slF_1, wipeD, from_to_ok, all2, a1, a2, a3, le_int]
  | shw a =>
    have h1 : a < 8 := h
    have a1 : (a : Int) ≤ 7 := by omega
    simp -implicitDefEqProofs [In.d, In.items, isaT, gi_show, gx_show, slF_1, wipeD, from_to_ok, all1, a1]
end Law

/-! N1: lines of instructions. -/
namespace Law
open Dx L2
def num (n : Nat) : String := toString ((n : Nat) : Int)
def In.word : In → String
  | .set _ _ => "set"
  | .sum _ _ _ _ => "sum"
  | .get _ _ _ => "get"
  | .put _ _ _ => "put"
  | .iff _ _ => "if"
  | .shw _ => "show"
def In.nums : In → List Nat
  | .set d v => [d, v]
  | .sum d a b v => [d, a, b, v]
  | .get d a k => [d, a, k]
  | .put d a k => [d, a, k]
  | .iff a t => [a, t]
  | .shw a => [a]
theorem In.items_eq (i : In) : i.items = .str i.word :: i.nums.map fun n => .int (n : Nat) := by cases i <;> rfl
def In.toks (i : In) : List String := i.word :: i.nums.map num
def In.line (i : In) : String := joinS " " i.toks
theorem In.nums_lt {i : In} {n : Nat} (h : i.ok n) : ∀ k ∈ i.nums, k < 256 := by
  cases i <;> simp [In.nums, In.ok] at h ⊢ <;> omega
theorem In.nums_len (i : In) : i.nums.length ≤ 4 := by cases i <;> simp [In.nums]
abbrev tx (t : String) : List Nat := TL.tl (PySem.Str.ofString t)
theorem tx_num (n : Nat) : tx (num n) = TL.numL n := TL.tl_num n
theorem w_set : tx "set" = [115, 101, 116] := by decide +kernel
theorem w_sum : tx "sum" = [115, 117, 109] := by decide +kernel
theorem w_get : tx "get" = [103, 101, 116] := by decide +kernel
theorem w_put : tx "put" = [112, 117, 116] := by decide +kernel
theorem w_if : tx "if" = [105, 102] := by decide +kernel
theorem w_show : tx "show" = [115, 104, 111, 119] := by decide +kernel
theorem word_tx (i : In) : tx i.word ∈ [[115, 101, 116], [115, 117, 109], [103, 101, 116], [112, 117, 116], [105, 102], [115, 104, 111, 119]] := by
  cases i
  · show tx "set" ∈ _; rw [w_set]; simp
  · show tx "sum" ∈ _; rw [w_sum]; simp
  · show tx "get" ∈ _; rw [w_get]; simp
  · show tx "put" ∈ _; rw [w_put]; simp
  · show tx "if" ∈ _; rw [w_if]; simp
  · show tx "show" ∈ _; rw [w_show]; simp
theorem tok_free {i : In} {s : Nat} (hs : s < 48) : ∀ t ∈ i.toks, s ∉ tx t := by
  intro t ht
  rcases List.mem_cons.mp ht with rfl | ht
  · have := word_tx i
    simp only [List.mem_cons, List.not_mem_nil, or_false] at this
    rcases this with e | e | e | e | e | e <;> rw [e] <;> simp <;> omega
  · obtain ⟨n, _, rfl⟩ := List.mem_map.mp ht
    rw [tx_num]
    exact TL.numL_free (.inl hs)
theorem num_len {n : Nat} (h : n < 1000) : (PySem.Str.ofString (num n)).length ≤ 3 := by
  rw [TL.len_tl]
  show (tx (num n)).length ≤ 3
  rw [tx_num]
  exact TL.numL_len (by decide) (by omega)
theorem tok_len {i : In} {n : Nat} (h : i.ok n) : ∀ t ∈ i.toks, (PySem.Str.ofString t).length ≤ 4 := by
  intro t ht
  rcases List.mem_cons.mp ht with rfl | ht
  · rw [TL.len_tl]
    have := word_tx i
    simp only [List.mem_cons, List.not_mem_nil, or_false] at this
    show (tx i.word).length ≤ 4
    rcases this with e | e | e | e | e | e <;> rw [e] <;> simp
  · obtain ⟨n, hn, rfl⟩ := List.mem_map.mp ht
    have := num_len (n := n) (by have := In.nums_lt h n hn; omega)
    omega
theorem len_join (a : String) (B : Nat) : ∀ l : List String, (∀ t ∈ l, (PySem.Str.ofString t).length ≤ B) → (PySem.Str.ofString (joinS a l)).length ≤ l.length * (B + (PySem.Str.ofString a).length)
  | [], _ => by
    show (PySem.Str.ofString "").length ≤ _
    have : (PySem.Str.ofString "").length = 0 := by decide +kernel
    omega
  | [x], h => by
    have := h x (by simp)
    show (PySem.Str.ofString x).length ≤ _
    simp
    omega
  | x :: y :: r, h => by
    have h1 := h x (by simp)
    have h2 := len_join a B (y :: r) fun t ht => h t (by simp [ht])
    show (PySem.Str.ofString (x ++ a ++ joinS a (y :: r))).length ≤ _
    rw [ofS_app, ofS_app, PySem.Str.length_append, PySem.Str.length_append]
    rw [List.length_cons, Nat.add_mul, Nat.one_mul]
    omega
theorem sum_le (B : Nat) : ∀ l : List Nat, (∀ x ∈ l, x ≤ B) → l.sum ≤ l.length * B
  | [], _ => by simp
  | x :: l, h => by
    have h1 := h x (by simp)
    have h2 := sum_le B l fun y hy => h y (by simp [hy])
    rw [List.sum_cons, List.length_cons, Nat.add_mul, Nat.one_mul]
    omega
theorem joinAt_of {a : String} {S : Sg} {l : List String} {B : Nat} (h : ∀ t ∈ l, (PySem.Str.ofString t).length ≤ B) (hb : l.length * (B + (PySem.Str.ofString a).length) ≤ 16777216) : joinAt a S (some l) = .ok (.str (joinS a l)) S := by
  unfold joinAt
  dsimp only
  rw [if_pos]
  have := sum_le B ((l.map PySem.Str.ofString).map (·.length)) (by
    intro x hx
    obtain ⟨y, hy, rfl⟩ := List.mem_map.mp hx
    obtain ⟨t, ht, rfl⟩ := List.mem_map.mp hy
    exact h t ht)
  simp only [List.length_map] at this
  rw [Nat.mul_add] at hb
  omega
theorem split_of {a : String} {s : Nat} (ea : tx a = [s]) (hs : s < 256) {l : List String} (hne : l ≠ []) (h : ∀ t ∈ l, s ∉ tx t) : PySem.Txt.split (PySem.Str.ofString (joinS a l)) (PySem.Str.ofString a) = l.map PySem.Str.ofString := by
  rw [ofS_join, ← TL.join_eq]
  refine TL.split_join (s := s) (S := []) ea ?_ (by simpa using hne) (fun p hp => ?_)
  · have : ((PySem.Str.ofString a).cps.toList.all (· < 256)) = true := by rw [show (PySem.Str.ofString a).cps.toList = [s] from ea]; simp [hs]
    rw [← Array.all_toList]
    exact this
  · obtain ⟨t, ht, rfl⟩ := List.mem_map.mp hp
    exact h t ht
theorem sp_tx : tx " " = [32] := by decide +kernel
theorem nl_tx : tx "\n" = [10] := by decide +kernel
theorem sp_len : (PySem.Str.ofString " ").length = 1 := by decide +kernel
theorem nl_len : (PySem.Str.ofString "\n").length = 1 := by decide +kernel
theorem line_len {i : In} {n : Nat} (h : i.ok n) : (PySem.Str.ofString i.line).length ≤ 25 := by
  have := len_join " " 4 i.toks (tok_len h)
  have l5 : i.toks.length ≤ 5 := by have := In.nums_len i; simp [In.toks]; omega
  rw [sp_len] at this
  unfold In.line
  omega
theorem split_line {i : In} {n : Nat} (h : i.ok n) {S : Sg} : splitAt2 (PySem.Str.ofString i.line) (PySem.Str.ofString " ") S = .ok (.clist (i.toks.map .str)) S := by
  refine splitAt2_of (split_of sp_tx (by decide) (by simp [In.toks]) (tok_free (by decide))) (by rw [sp_len]; rfl) ?_
  have := line_len h
  omega
theorem tx_join (a : String) (s : Nat) : ∀ l : List String, s ∉ tx a → (∀ t ∈ l, s ∉ tx t) → s ∉ tx (joinS a l)
  | [], _, _ => by
    show s ∉ tx ""
    have : tx "" = [] := by decide +kernel
    rw [this]
    simp
  | [x], _, h => h x (by simp)
  | x :: y :: r, ha, h => by
    have h2 := tx_join a s (y :: r) ha fun t ht => h t (by simp [ht])
    show s ∉ TL.tl (PySem.Str.ofString (x ++ a ++ joinS a (y :: r)))
    rw [ofS_app, ofS_app, TL.tl_append, TL.tl_append, List.mem_append, List.mem_append]
    rintro ((z | z) | z)
    · exact h x (by simp) z
    · exact ha z
    · exact h2 z
theorem line_free (i : In) : 10 ∉ tx i.line := tx_join " " 10 i.toks (by rw [sp_tx]; decide) (tok_free (by decide))
/-- a program's text, split -/
theorem split_text {l : List String} {S : Sg} (hne : l ≠ []) (hf : ∀ t ∈ l, 10 ∉ tx t) (hl : ∀ t ∈ l, (PySem.Str.ofString t).length ≤ 100) (hn : l.length ≤ 1000) : splitAt2 (PySem.Str.ofString (joinS "\n" l)) (PySem.Str.ofString "\n") S = .ok (.clist (l.map .str)) S := by
  refine splitAt2_of (split_of nl_tx (by decide) hne hf) (by rw [nl_len]; rfl) ?_
  have := len_join "\n" 100 l hl
  rw [nl_len] at this
  omega
end Law

/-! N2: numbers and lines read. -/
namespace Law
open Dx L2
theorem num_ascii (n : Nat) : PySem.Txt.isascii (PySem.Str.ofString (num n)) = true := by
  unfold PySem.Txt.isascii
  rw [← Array.all_toList, show (PySem.Str.ofString (num n)).cps.toList = TL.numL n from tx_num n, List.all_eq_true]
  intro c hc
  have := TL.numL_digits n c hc
  simp
  omega
theorem dig : ∀ c : Nat, 48 ≤ c → c ≤ 57 → PySem.Unicode.isDigit c = true := by
  intro c h1 h2
  have : c = 48 ∨ c = 49 ∨ c = 50 ∨ c = 51 ∨ c = 52 ∨ c = 53 ∨ c = 54 ∨ c = 55 ∨ c = 56 ∨ c = 57 := by omega
  rcases this with rfl | rfl | rfl | rfl | rfl | rfl | rfl | rfl | rfl | rfl <;> decide +kernel
theorem num_digit (n : Nat) : PySem.Txt.isdigit (PySem.Str.ofString (num n)) = true := by
  unfold PySem.Txt.isdigit
  rw [Bool.and_eq_true]
  constructor
  · rw [TL.len_tl]
    have h : 0 < (tx (num n)).length := by rw [tx_num]; exact List.length_pos_iff.mpr (TL.numL_ne n)
    simpa using h
  · rw [← Array.all_toList, show (PySem.Str.ofString (num n)).cps.toList = TL.numL n from tx_num n, List.all_eq_true]
    intro c hc
    have := TL.numL_digits n c hc
    exact dig c (by omega) (by omega)
theorem num_head {n : Nat} (h : n ≠ 0) : ∃ c r, TL.numL n = c :: r ∧ c ≠ 48 := by
  induction n using Nat.strongRecOn with
  | _ n ih =>
    by_cases h10 : n < 10
    · exact ⟨48 + n, [], TL.numL_lt h10, by omega⟩
    · obtain ⟨c, r, e, hc⟩ := ih (n / 10) (by omega) (by omega)
      exact ⟨c, r ++ [48 + n % 10], by rw [TL.numL_step (by omega), e]; rfl, hc⟩
theorem sw_num {n : Nat} (h : n ≠ 0) : PySem.Txt.startswith (PySem.Str.ofString (num n)) (PySem.Str.ofString "0") = false := by
  obtain ⟨c, r, e, hc⟩ := num_head h
  have e1 : PySem.Str.ofString (num n) = SX.S (c :: r) := by
    rw [← e, ← tx_num]
  have e2 : PySem.Str.ofString "0" = SX.S [48] := by decide +kernel
  rw [e1, e2]
  have : (c == 48) = false := by simpa using hc
  have k : PySem.Builtin.Str.subAt (SX.S (c :: r)) (SX.S [48]) 0 = false := by
    show ((c :: r).toArray.extract 0 (0 + 1) == #[48]) = false
    have : (c :: r).toArray.extract 0 (0 + 1) = #[c] := by simp
    rw [this]
    simpa using hc
  unfold PySem.Txt.startswith
  rw [k, Bool.and_false]
theorem num_ne {n : Nat} (h : n ≠ 0) : num n ≠ "0" := by
  intro e
  obtain ⟨c, r, e1, hc⟩ := num_head h
  have : tx (num n) = [48] := by rw [e]; decide +kernel
  rw [tx_num, e1] at this
  cases this
  exact hc rfl
theorem num_zero : num 0 = "0" := by decide +kernel
theorem num_slice {n : Nat} (h : n < 1000) : PySem.Txt.slice (PySem.Str.ofString (num n)) none (some 10) = PySem.Str.ofString (num n) := by
  have e : PySem.Str.ofString (num n) = SX.S (TL.numL n) := by
    rw [← tx_num]
  have l := num_len h
  rw [TL.len_tl] at l
  have l : (tx (num n)).length ≤ 3 := l
  rw [tx_num] at l
  rw [e, SX.slice_to (by decide), List.take_of_length_le (by omega)]
theorem told_ok {n : Nat} {S : Sg} (h : n < 256) : F_number_told [.str (num n)] S = .ok (.int n) S := by
  have a := num_ascii n
  have b := num_digit n
  have c : outT (PySem.Txt.slice (PySem.Str.ofString (num n)) none (some 10)) S = .ok (.str (num n)) S := outT_of (num_slice (by omega)).symm
  have d : fSlT (.str (num n)) none (some 10) S = .ok (.str (num n)) S := by
    unfold fSlT
    dsimp only
    rw [if_pos (by have := num_len (n := n) (by omega); omega), c]
  have e : cIntT [.str (num n)] S = .ok (.int n) S := cIntT_of (TL.int_num (by have := TL.numL_len (n := n) (k := 3) (by decide) (by omega); omega)) (by have := num_len (n := n) (by omega); omega)
  unfold F_number_told S_number_told
  by_cases h0 : n = 0
  · subst h0
    rw [num_zero] at a b c d e ⊢
    simp -implicitDefEqProofs [a, b, xSlT, k_MANY_DIGITS, d, e]
  · have f := num_ne h0
    have g := sw_num h0
    simp -implicitDefEqProofs [a, b, f, g, xSlT, k_MANY_DIGITS, d, e]
end Law

/-! N3: lines written and read. -/
namespace Law
open Dx L2
def tokD : D → String
  | .str s => s
  | .int i => toString i
  | _ => ""
theorem toks_eq (i : In) : i.toks = i.items.map tokD := by
  rw [In.items_eq, List.map_cons, List.map_map]
  rfl
theorem items_str {i : In} {n : Nat} (h : i.ok n) (d : D) (hd : d ∈ i.items) (S : Sg) : cStr [d] S = .ok (.str (tokD d)) S := by
  rw [In.items_eq] at hd
  rcases List.mem_cons.mp hd with rfl | hd
  · rfl
  · obtain ⟨k, hk, rfl⟩ := List.mem_map.mp hd
    refine cStr_int ?_
    have hk := In.nums_lt h k hk
    have : ((k : Int).natAbs).log2 < 8 ∨ k = 0 := by
      by_cases hz : k = 0
      · exact .inr hz
      · exact .inl ((Nat.log2_lt (by simpa using hz)).mpr (by simpa using hk))
    rcases this with h | h
    · omega
    · subst h; decide
theorem strs_of (l : List String) : strsD (l.map .str) = some l := by
  induction l with
  | nil => rfl
  | cons x l ih =>
    rw [List.map_cons]
    unfold strsD
    rw [ih]
    rfl
theorem join_line {i : In} {n : Nat} (h : i.ok n) (S : Sg) : joinAt " " S (some i.toks) = .ok (.str i.line) S :=
  joinAt_of (B := 4) (tok_len h) (by rw [sp_len]; have := In.nums_len i; simp [In.toks]; omega)
theorem lc_line {i : In} {n j : Nat} (h : i.ok n) {ρ : Ev} (hj : j < ρ.length) (S : Sg) : lcRun (gNm j) tYesF (xB cStr (aCons (xVar j) aNil)) ρ i.items [] S = .ok (.clist (i.toks.map .str)) S := by
  have := lcRun_map (S := S) (ρ := ρ) (tg := gNm j) (t := tYesF) (e := xB cStr (aCons (xVar j) aNil)) (fun d : D => d) (fun _ => true) (fun d => .str (tokD d)) i.items [] (fun d hd => ⟨_, rfl, rfl, fun _ => by
    have h8 : (ρ.set j (some d))[j]? = some (some d) := by simp [hj]
    simp -implicitDefEqProofs [h8, items_str h d hd]⟩) (by rw [In.items_eq]; have := In.nums_len i; simp; omega)
  rw [List.map_id'] at this
  rw [this, List.nil_append, List.filter_eq_self.mpr fun _ _ => rfl, toks_eq, List.map_map]
  rfl
theorem jk {i : In} {n : Nat} (h : i.ok n) (S : Sg) : joinAt " " S (((seqOf S (.clist (i.toks.map .str))).or (tupOf (.clist (i.toks.map .str)))).bind strsD) = .ok (.str i.line) S := by
  show joinAt " " S (strsD (i.toks.map .str)) = _
  rw [strs_of, join_line h]
theorem line_ok {i : In} {n : Nat} (h : i.ok n) (S : Sg) : F_line_of [i.d] S = .ok (.str i.line) S := by
  unfold F_line_of S_line_of
  simp -implicitDefEqProofs [In.d, lc_line h, jk h, wipeD]
/-! ### a line read -/
theorem lc_told {i : In} {n : Nat} (h : i.ok n) {ρ : Ev} (hj : 3 < ρ.length) (S : Sg) : lcRun (gNm 3) tYesF (xCall F_number_told 1 (aCons (xVar 3) aNil)) ρ ((i.nums.map num).map .str) [] S = .ok (.clist (i.nums.map fun n => .int (n : Nat))) S := by
  have := lcRun_map (S := S) (ρ := ρ) (tg := gNm 3) (t := tYesF) (e := xCall F_number_told 1 (aCons (xVar 3) aNil)) (fun k : Nat => D.str (num k)) (fun _ => true) (fun k => .int (k : Nat)) i.nums [] (fun k hk => ⟨_, rfl, rfl, fun _ => by
    have h8 : (ρ.set 3 (some (.str (num k))))[3]? = some (some (.str (num k))) := by simp [hj]
    simp -implicitDefEqProofs [h8, told_ok (In.nums_lt h k hk)]⟩) (by have := In.nums_len i; simp; omega)
  rw [List.map_map]
  rw [show (D.str ∘ num) = fun k : Nat => D.str (num k) from rfl, this, List.nil_append, List.filter_eq_self.mpr fun _ _ => rfl]
theorem read_ok {i : In} {n : Nat} (h : i.ok n) (S : Sg) : F_instruction_told [.str i.line] S = .ok i.d S := by
  have e := split_line h (S := S)
  have l4 := In.nums_len i
  unfold F_instruction_told S_instruction_told
  rw [In.toks, List.map_cons] at e
  have d : i.d = .tup (.str i.word :: i.nums.map fun n => .int (n : Nat)) := by unfold In.d; rw [In.items_eq]
  have lc := fun {ρ : Ev} (hj : 3 < ρ.length) => lc_told h hj S
  generalize (i.nums.map num).map D.str = L at e lc
  have l5 : 1 + i.nums.length ≤ 16777216 := by omega
  simp -implicitDefEqProofs [sStar_at, e, kStar, lc, wipeD, d, l5]
end Law

/-! N4: a text read. -/
namespace Law
open Dx L2
theorem gcF_exc {F : FF} {ds : List D} {c : Nat} {fs : List (String × D)} {S T : Sg} (h : F ds S = .exc c fs (S ++ T)) (hb : belA S.length (fs.map (·.2)) = true) : gcF F ds S = .exc c fs S := by
  unfold gcF
  rw [h]
  simp only [gcR]
  split
  · rename_i hl
    have : T = [] := by simpa using hl
    rw [this, List.append_nil]
  · rw [if_pos ⟨Keeps.app, hb⟩, List.take_left]
def bodyR : FS := (sSeq (sSet 5 (xCall F_instruction_told 1 (aCons (xVar 4) (aNil))))
  (sSeq (sIf (tOrF (tBl (x2 (fGt) (xVar 3) (xC k_MOST_INSTRUCTIONS))) (tNotF (tTru (xCall F_is_instruction_among 2 (aCons (xVar 5) (aCons (xB cLen (aCons (xVar 1) (aNil))) (aNil)))))))
  (sRaiseI 3 "line" (xVar 3))
  (sNil))
  (sExpr (xM mApp (xVar 2) (aCons (xVar 5) (aNil))))))
def firstBad (f : String → Bool) : Nat → List String → Option Nat
  | _, [] => none
  | c, t :: l => if 40 < c ∨ f t = false then some c else firstBad f (c + 1) l
theorem read_run (g : String → D) (f : String → Bool) (L : List String) (a : D) (T : Sg) (hL : L.length < 1000) : ∀ (l : List String) (c : Nat) (acc : List D) (y z w : Option D),
    (∀ t ∈ l, (∀ S, F_instruction_told [.str t] S = .ok (g t) S) ∧ ∀ S, F_is_instruction_among [g t, .int L.length] S = .ok (.bl (f t)) S) → acc.length + l.length < 1000 → c + l.length < 2000 →
    (firstBad f c l = none ∧ ∃ y' z' w', forRun (gTp 2 (gsC (gNm 3) (gsC (gNm 4) gsN))) bodyR (enumK c (l.map .str)) [some a, some (.clist (L.map .str)), some (.ref T.length), y, z, w] (T ++ [.lst acc]) = .nx [some a, some (.clist (L.map .str)), some (.ref T.length), y', z', w'] (T ++ [.lst (acc ++ l.map g)])) ∨
    ∃ (j : Nat) (ρ' : Ev) (acc' : List D), firstBad f c l = some j ∧ forRun (gTp 2 (gsC (gNm 3) (gsC (gNm 4) gsN))) bodyR (enumK c (l.map .str)) [some a, some (.clist (L.map .str)), some (.ref T.length), y, z, w] (T ++ [.lst acc]) = .exc 3 [("line", .int (j : Nat))] ρ' (T ++ [.lst acc'])
  | [], c, acc, y, z, w, _, _, _ => .inl ⟨rfl, y, z, w, by simp [enumK]⟩
  | t :: l, c, acc, y, z, w, h, ha, hc => by
    obtain ⟨h1, h2⟩ := h t (by simp)
    simp only [List.length_cons] at ha hc
    have hg : ∀ o : O, (T ++ [o])[T.length]? = some o := fun o => by simp
    have hs : ∀ o o' : O, (T ++ [o]).set T.length o' = T ++ [o'] := fun o o' => by simp
    have c1 : (-4611686018427387904 : Int) < (c : Nat) := by omega
    have c2 : ((c : Nat) : Int) < 4611686018427387904 := by omega
    have hl : acc.length < 16777216 := by omega
    have e0 : ∀ S, F_is_instruction_among [g t, .int L.length] S = .ok (.bl (f t)) S := h2
    have hb : forRun (gTp 2 (gsC (gNm 3) (gsC (gNm 4) gsN))) bodyR (enumK c ((t :: l).map .str)) [some a, some (.clist (L.map .str)), some (.ref T.length), y, z, w] (T ++ [.lst acc]) =
        if 40 < c ∨ f t = false then .exc 3 [("line", .int (c : Nat))] [some a, some (.clist (L.map .str)), some (.ref T.length), some (.int (c : Nat)), some (.str t), some (g t)] (T ++ [.lst acc])
        else forRun (gTp 2 (gsC (gNm 3) (gsC (gNm 4) gsN))) bodyR (enumK (c + 1 : Nat) (l.map .str)) [some a, some (.clist (L.map .str)), some (.ref T.length), some (.int (c : Nat)), some (.str t), some (g t)] (T ++ [.lst (acc ++ [g t])]) := by
      show forRun _ _ (.tup [.int c, .str t] :: enumK ((c : Int) + 1) (l.map .str)) _ _ = _
      have ec : ((c + 1 : Nat) : Int) = (c : Int) + 1 := by omega
      rw [ec]
      generalize hE : T ++ [O.lst acc] = S1
      have hg1 : S1[T.length]? = some (.lst acc) := by rw [← hE]; exact hg _
      have hs1 : S1.set T.length (.lst (acc ++ [g t])) = T ++ [.lst (acc ++ [g t])] := by rw [← hE]; exact hs _ _
      have i1 : isL S1 (.ref T.length) = true := by unfold isL; dsimp only; rw [hg1]
      have m1 : mApp (.ref T.length) [g t] S1 = .ok .non (T ++ [.lst (acc ++ [g t])]) := by
        unfold mApp
        simp [hg1, hs1, hl]
      unfold bodyR
      by_cases h40 : 40 < c
      · have h40' : (40 : Int) < c := by omega
        rw [if_pos (.inl h40)]
        simp -implicitDefEqProofs [h1, k_MOST_INSTRUCTIONS, gt_int, h40', c1, c2]
      · have h40' : ¬ (40 : Int) < c := by omega
        cases hft : f t with
        | false =>
          rw [hft] at e0
          rw [if_pos (.inr rfl)]
          simp -implicitDefEqProofs [h1, k_MOST_INSTRUCTIONS, gt_int, h40', e0, c1, c2]
        | true =>
          rw [hft] at e0
          rw [if_neg (by simp; omega)]
          simp -implicitDefEqProofs [h1, k_MOST_INSTRUCTIONS, gt_int, h40', e0, i1, m1]
    rw [hb]
    by_cases hx : 40 < c ∨ f t = false
    · rw [if_pos hx]
      exact .inr ⟨c, _, acc, by simp [firstBad, hx], rfl⟩
    · rw [if_neg hx]
      rcases read_run g f L a T hL l (c + 1) (acc ++ [g t]) (some (.int (c : Nat))) (some (.str t)) (some (g t)) (fun u hu => h u (by simp [hu])) (by simp; omega) (by omega) with ⟨a1, y', z', w', a2⟩ | ⟨j, ρ', acc', a1, a2⟩
      · exact .inl ⟨by simp only [firstBad, if_neg hx]; exact a1, y', z', w', by rw [a2]; simp⟩
      · exact .inr ⟨j, ρ', acc', by simp only [firstBad, if_neg hx]; exact a1, a2⟩
end Law

/-! N5: a text read, whole. -/
namespace Law
open Dx L2
/-- as the lines of a text may be -/
structure LinesOk (l : List String) : Prop where
  free : ∀ t ∈ l, 10 ∉ tx t
  short : ∀ t ∈ l, (PySem.Str.ofString t).length ≤ 100
  few : l.length ≤ 100
  some : ∃ t ∈ l, t ≠ ""
def textL (l : List String) : String := joinS "\n" l
theorem ofS_inj {a b : String} (h : PySem.Str.ofString a = PySem.Str.ofString b) : a = b := by
  rw [← of_cps a, ← of_cps b, h]
theorem text_ne {l : List String} (h : ∃ t ∈ l, t ≠ "") : textL l ≠ "" := by
  have e0 : PySem.Str.ofString "" = ⟨#[]⟩ := by decide +kernel
  match l, h with
  | [], h => obtain ⟨t, ht, _⟩ := h; cases ht
  | [x], h =>
    obtain ⟨t, ht, hn⟩ := h
    rw [List.mem_singleton.mp ht] at hn
    exact hn
  | x :: y :: r, _ =>
    intro e
    have : 10 ∈ tx (textL (x :: y :: r)) := by
      show 10 ∈ TL.tl (PySem.Str.ofString (x ++ "\n" ++ joinS "\n" (y :: r)))
      rw [ofS_app, ofS_app, TL.tl_append, TL.tl_append, List.mem_append, List.mem_append]
      refine .inl (.inr ?_)
      show 10 ∈ tx "\n"
      rw [nl_tx]
      simp
    rw [e] at this
    have e1 : tx "" = [] := by decide +kernel
    rw [e1] at this
    cases this
theorem ofS_len (s : String) : (PySem.Str.ofString s).length = s.length := by
  rw [PySem.Str.ofString_eq_toList]
  show ((s.toList.map Char.toNat).toArray).size = _
  rw [List.size_toArray, List.length_map]
  first | exact String.length_toList | exact String.length_toList s | rfl
theorem tru_text {s : String} {S : Sg} (h : s ≠ "") (hl : (PySem.Str.ofString s).length ≤ 16777216) : truD S (.str s) = some true := by
  rw [ofS_len] at hl
  have : s.length ≠ 0 := fun z => h (by simpa using z)
  unfold truD
  dsimp only
  rw [if_pos hl]
  simp
  exact h
theorem lines_ok {l : List String} (h : LinesOk l) (S : Sg) : F_lines_of [.str (textL l)] S = .ok (.clist (l.map .str)) S := by
  have hne : l ≠ [] := by
    obtain ⟨t, ht, _⟩ := h.some
    rintro rfl
    cases ht
  have e : splitAt2 (PySem.Str.ofString (textL l)) (PySem.Str.ofString "\n") S = .ok (.clist (l.map .str)) S := split_text hne h.free h.short (by have := h.few; omega)
  have n := text_ne h.some
  have hl : (PySem.Str.ofString (textL l)).length ≤ 16777216 := by
    have := len_join "\n" 100 l h.short
    have := h.few
    rw [nl_len] at *
    unfold textL
    omega
  unfold F_lines_of S_lines_of
  simp -implicitDefEqProofs [e, tru_text n hl]
/-- a read text: all lines good -/
theorem read_good {l : List String} {S : Sg} (g : String → D) (f : String → Bool) (h : LinesOk l) (hg : ∀ t ∈ l, (∀ S, F_instruction_told [.str t] S = .ok (g t) S) ∧ ∀ S, F_is_instruction_among [g t, .int l.length] S = .ok (.bl (f t)) S) (hf : firstBad f 1 l = none) :
    F_read_program [.str (textL l)] S = .ok (.tup (l.map g)) (S ++ [.lst (l.map g)]) := by
  have hl := h.few
  have e := lines_ok h S
  rcases read_run g f l (.str (textL l)) S (by omega) l 1 [] none none none hg (by simp; omega) (by omega) with ⟨_, y, z, w, a⟩ | ⟨j, _, _, b, _⟩
  · have k0 : iEnK (xVar 1) (xC (.int 1)) [some (.str (textL l)), some (.clist (l.map .str)), some (.ref S.length), none, none, none] (S ++ [.lst []]) = .ok (.its (enumK 1 (l.map .str))) (S ++ [.lst []]) := rfl
    unfold bodyR at a
    rw [show ((1 : Nat) : Int) = 1 from rfl] at a
    have n0 : newO (.lst []) S = .ok (.ref S.length) (S ++ [.lst []]) := rfl
    have t1 : cTuple [.ref S.length] (S ++ [.lst (l.map g)]) = .ok (.tup (l.map g)) (S ++ [.lst (l.map g)]) := by
      unfold cTuple tupOf seqOf
      simp
    rw [List.nil_append] at a
    unfold F_read_program S_read_program F_check_text S_check_text
    simp -implicitDefEqProofs [isaT, e, n0, k0, a, t1]
  · rw [hf] at b; cases b
theorem read_bad {l : List String} {S : Sg} (g : String → D) (f : String → Bool) {j : Nat} (h : LinesOk l) (hg : ∀ t ∈ l, (∀ S, F_instruction_told [.str t] S = .ok (g t) S) ∧ ∀ S, F_is_instruction_among [g t, .int l.length] S = .ok (.bl (f t)) S) (hf : firstBad f 1 l = some j) :
    gcF F_read_program [.str (textL l)] S = .exc 3 [("line", .int (j : Nat))] S := by
  have hl := h.few
  have e := lines_ok h S
  rcases read_run g f l (.str (textL l)) S (by omega) l 1 [] none none none hg (by simp; omega) (by omega) with ⟨a, _⟩ | ⟨j', ρ', acc', b, a⟩
  · rw [hf] at a; cases a
  · rw [hf] at b
    cases b
    have k0 : iEnK (xVar 1) (xC (.int 1)) [some (.str (textL l)), some (.clist (l.map .str)), some (.ref S.length), none, none, none] (S ++ [.lst []]) = .ok (.its (enumK 1 (l.map .str))) (S ++ [.lst []]) := rfl
    unfold bodyR at a
    rw [show ((1 : Nat) : Int) = 1 from rfl] at a
    have n0 : newO (.lst []) S = .ok (.ref S.length) (S ++ [.lst []]) := rfl
    refine gcF_exc (T := [.lst acc']) ?_ rfl
    unfold F_read_program S_read_program F_check_text S_check_text
    simp -implicitDefEqProofs [isaT, e, n0, k0, a]
theorem read_nil (S : Sg) : F_read_program [.str ""] S = .ok (.tup []) (S ++ [.lst []]) := by
  have k0 : iEnK (xVar 1) (xC (.int 1)) [some (.str ""), some (.clist []), some (.ref S.length), none, none, none] (S ++ [.lst []]) = .ok (.its []) (S ++ [.lst []]) := rfl
  have n0 : newO (.lst []) S = .ok (.ref S.length) (S ++ [.lst []]) := rfl
  have t1 : cTuple [.ref S.length] (S ++ [.lst []]) = .ok (.tup []) (S ++ [.lst []]) := by
    unfold cTuple tupOf seqOf
    simp
  have l0 : F_lines_of [.str ""] S = .ok (.clist []) S := rfl
  unfold F_read_program S_read_program F_check_text S_check_text
  simp -implicitDefEqProofs [isaT, l0, n0, k0, t1]
end Law

/-! N6: lines that tell no instruction. -/
namespace Law
open Dx L2
def oddT : List (String × List D) := [("", [.str ""]), ("set 0", [.str "set", .int 0]), ("set 0 256", [.str "set", .int 0, .int 256]), ("set 8 0", [.str "set", .int 8, .int 0]), ("set 00 1", [.str "set", .non, .int 1]), ("set 0 01", [.str "set", .int 0, .non]),
  ("Set 0 1", [.str "Set", .int 0, .int 1]), ("set 0 1 ", [.str "set", .int 0, .int 1, .non]), (" set 0 1", [.str "", .non, .int 0, .int 1]), ("set  0 1", [.str "set", .non, .int 0, .int 1]), ("sum 0 1 2", [.str "sum", .int 0, .int 1, .int 2]), ("hop 1", [.str "hop", .int 1]),
  ("get 0 1 8", [.str "get", .int 0, .int 1, .int 8]), ("put 0 1", [.str "put", .int 0, .int 1]), ("if 0 41", [.str "if", .int 0, .int 41]), ("if 0 -1", [.str "if", .int 0, .non]), ("show", [.str "show"]), ("show 0 0", [.str "show", .int 0, .int 0]), ("show a", [.str "show", .non]),
  ("set 0 1 2", [.str "set", .int 0, .int 1, .int 2]), ("sum 0 0 0 0 0", [.str "sum", .int 0, .int 0, .int 0, .int 0, .int 0]), ("show +1", [.str "show", .non]), ("if 0", [.str "if", .int 0])]
def oddL : List String := oddT.map (·.1)
set_option maxHeartbeats 4000000 in
theorem odd_told : ∀ p ∈ oddT, ∀ S, F_instruction_told [.str p.1] S = .ok (.tup p.2) S := by
  intro p hp S
  unfold oddT at hp
  simp only [List.mem_cons, List.not_mem_nil, or_false] at hp
  rcases hp with rfl | rfl | rfl | rfl | rfl | rfl | rfl | rfl | rfl | rfl | rfl | rfl | rfl | rfl | rfl | rfl | rfl | rfl | rfl | rfl | rfl | rfl | rfl <;> kernel_rfl
theorem odd_ia : ∀ p ∈ oddT, ∀ (n : Int) S, F_is_instruction_among [.tup p.2, .int n] S = .ok (.bl false) S := by
  intro p hp n S
  unfold oddT at hp
  simp only [List.mem_cons, List.not_mem_nil, or_false] at hp
  rcases hp with rfl | rfl | rfl | rfl | rfl | rfl | rfl | rfl | rfl | rfl | rfl | rfl | rfl | rfl | rfl | rfl | rfl | rfl | rfl | rfl | rfl | rfl | rfl <;> kernel_rfl
theorem odd_tx : (oddT.all fun p => !(tx p.1).contains 10 && decide ((PySem.Str.ofString p.1).length ≤ 100)) = true := by decide +kernel
theorem if_line (k : Nat) : In.line (.iff 0 k) = "if 0 " ++ num k := by
  show "if" ++ " " ++ (num 0 ++ " " ++ num k) = _
  rw [num_zero, ← String.append_assoc, ← String.append_assoc]
  rfl
theorem show_line : In.line (.shw 0) = "show 0" := by
  show "show" ++ " " ++ num 0 = _
  rw [num_zero]
  rfl
end Law

/-! N7: the words of errors. -/
namespace Law
open Dx L2
theorem wrong_line {act : Nat → Sg → R D} {m : Nat} {S S' : Sg} {x : D} (h : act m S = .exc 3 [("line", x)] S') : F__law_wrong act [.clo m] S = .ok x S' := by
  unfold F__law_wrong S__law_wrong
  simp -implicitDefEqProofs [h]
  have hs : sup_WindowError 3 = some true := rfl
  rw [hs, tryH_t (r := .rt x S')]
  · simp -implicitDefEqProofs
  · intro a d hd
    cases d with
    | none => cases hd
    | some d => simp -implicitDefEqProofs [subT]
theorem wrong_prog {act : Nat → Sg → R D} {m : Nat} {S S' : Sg} {x : D} (h : act m S = .exc 1 [("index", x)] S') : F__law_wrong act [.clo m] S = .ok (.tup [.str "program", x]) S' := by
  unfold F__law_wrong S__law_wrong
  simp -implicitDefEqProofs [h]
  have hs : sup_WindowError 1 = some true := rfl
  rw [hs, tryH_t (r := .rt (.tup [.str "program", x]) S')]
  · simp -implicitDefEqProofs
  · intro a d hd
    cases d with
    | none => cases hd
    | some d => simp -implicitDefEqProofs [subT]
theorem wrong_text {act : Nat → Sg → R D} {m : Nat} {S S' : Sg} (h : act m S = .exc 2 [] S') : F__law_wrong act [.clo m] S = .ok (.str "text") S' := by
  unfold F__law_wrong S__law_wrong
  simp -implicitDefEqProofs [h]
  have hs : sup_WindowError 2 = some true := rfl
  rw [hs, tryH_t (r := .rt (.str "text") S')]
  · simp -implicitDefEqProofs
  · intro a d hd
    cases d with
    | some d => cases hd
    | none => simp -implicitDefEqProofs [subT]
theorem wrong_none {act : Nat → Sg → R D} {m : Nat} {S S' : Sg} {x : D} (h : act m S = .ok x S') : F__law_wrong act [.clo m] S = .ok (.str "") S' := by
  unfold F__law_wrong S__law_wrong
  simp -implicitDefEqProofs [h]
end Law

/-! N8: programs as lists of lines. -/
namespace Law
open Dx L2
def okB (n : Nat) : In → Bool
  | .iff _ t => decide (t ≤ n)
  | _ => true
theorem ia_gen {S : Sg} (n : Nat) {m : Nat} (i : In) (h : i.ok m) : F_is_instruction_among [i.d, .int n] S = .ok (.bl (okB n i)) S := by
  cases i with
  | iff a t =>
    obtain ⟨h1, h2, h3⟩ := h
    by_cases hn : t ≤ n
    · have e := ia_ok (S := S) n (.iff a t) ⟨h1, hn, h3⟩
      rw [e]
      simp [okB, hn]
    · have a1 : (a : Int) ≤ 7 := by omega
      have a2 : (t : Int) ≤ 40 := by omega
      have a3 : ¬ (t : Int) ≤ n := by omega
      unfold F_is_instruction_among S_is_instruction_among
      simp -implicitDefEqProofs [In.d, In.items, isaT, gi_if, gx_if, slF_1, wipeD, from_to_ok, all2, a1, a2, a3, le_int, okB, hn]
  | _ => exact ia_ok n _ h
def gOf (t : String) : D := match F_instruction_told [.str t] [] with
  | .ok d _ => d
  | _ => .non
def fOf (n : Nat) (t : String) : Bool := match F_is_instruction_among [gOf t, .int n] [] with
  | .ok (.bl b) _ => b
  | _ => false
theorem gOf_of {t : String} {v : D} (h : ∀ S, F_instruction_told [.str t] S = .ok v S) : gOf t = v := by
  unfold gOf
  rw [h]
theorem fOf_of {t : String} {n : Nat} {b : Bool} (h : ∀ S, F_is_instruction_among [gOf t, .int n] S = .ok (.bl b) S) : fOf n t = b := by
  unfold fOf
  rw [h]
/-- a line that tells something -/
def Told (n : Nat) (t : String) : Prop := (∀ S, F_instruction_told [.str t] S = .ok (gOf t) S) ∧ ∀ S, F_is_instruction_among [gOf t, .int n] S = .ok (.bl (fOf n t)) S
theorem g_line {i : In} {m : Nat} (h : i.ok m) : gOf i.line = i.d := gOf_of (read_ok h)
theorem f_line {i : In} {m : Nat} (n : Nat) (h : i.ok m) : fOf n i.line = okB n i := fOf_of fun S => by rw [g_line h]; exact ia_gen n i h
theorem told_line {i : In} {m : Nat} (n : Nat) (h : i.ok m) : Told n i.line := ⟨fun S => by rw [g_line h]; exact read_ok h S, fun S => by rw [f_line n h, g_line h]; exact ia_gen n i h⟩
theorem odd_p {t : String} (h : t ∈ oddL) : ∃ v, (∀ S, F_instruction_told [.str t] S = .ok v S) ∧ ∀ (n : Int) S, F_is_instruction_among [v, .int n] S = .ok (.bl false) S := by
  obtain ⟨p, hp, rfl⟩ := List.mem_map.mp h
  exact ⟨_, odd_told p hp, odd_ia p hp⟩
theorem g_odd {t : String} (h : t ∈ oddL) : ∀ S, F_instruction_told [.str t] S = .ok (gOf t) S := by
  obtain ⟨v, h1, _⟩ := odd_p h
  rw [gOf_of h1]
  exact h1
theorem f_odd {t : String} (n : Nat) (h : t ∈ oddL) : fOf n t = false := by
  obtain ⟨v, h1, h2⟩ := odd_p h
  exact fOf_of fun S => by rw [gOf_of h1]; exact h2 n S
theorem told_odd {t : String} (n : Nat) (h : t ∈ oddL) : Told n t := ⟨g_odd h, fun S => by
  rw [f_odd n h]
  obtain ⟨v, h1, h2⟩ := odd_p h
  rw [gOf_of h1]
  exact h2 n S⟩
theorem odd_fr {t : String} (h : t ∈ oddL) : 10 ∉ tx t ∧ (PySem.Str.ofString t).length ≤ 100 := by
  obtain ⟨p, hp, rfl⟩ := List.mem_map.mp h
  have := List.all_eq_true.mp odd_tx p hp
  simpa using this
theorem firstBad_none {f : String → Bool} : ∀ (l : List String) (c : Nat), (∀ t ∈ l, f t = true) → c + l.length ≤ 41 → firstBad f c l = none
  | [], _, _, _ => rfl
  | t :: l, c, h, hc => by
    simp only [List.length_cons] at hc
    unfold firstBad
    rw [if_neg (by rw [h t (by simp)]; simp; omega)]
    exact firstBad_none l (c + 1) (fun u hu => h u (by simp [hu])) (by omega)
theorem firstBad_app {f : String → Bool} (b : String) (B : List String) : ∀ (A : List String) (c : Nat), (∀ t ∈ A, f t = true) → c + A.length ≤ 41 → (40 < c + A.length ∨ f b = false) → firstBad f c (A ++ b :: B) = some (c + A.length)
  | [], c, _, _, hb => by
    show firstBad f c (b :: B) = _
    unfold firstBad
    rw [if_pos (by simpa using hb)]
    rfl
  | t :: A, c, h, hc, hb => by
    simp only [List.length_cons] at hc hb ⊢
    show firstBad f c (t :: (A ++ b :: B)) = _
    unfold firstBad
    rw [if_neg (by rw [h t (by simp)]; simp; omega), firstBad_app b B A (c + 1) (fun u hu => h u (by simp [hu])) (by omega) (by rcases hb with hb | hb; exact .inl (by omega); exact .inr hb)]
    congr 1
    omega
theorem line_ne (i : In) : i.line ≠ "" := by
  intro e
  have : tx i.line = [] := by rw [e]; decide +kernel
  have h2 : 32 ∈ tx i.line := by
    have hn : ∃ k r, i.nums = k :: r := by cases i <;> exact ⟨_, _, rfl⟩
    obtain ⟨k, r, hk⟩ := hn
    unfold In.line In.toks
    rw [hk]
    show 32 ∈ TL.tl (PySem.Str.ofString (i.word ++ " " ++ joinS " " (num k :: r.map num)))
    rw [ofS_app, ofS_app, TL.tl_append, TL.tl_append, List.mem_append, List.mem_append]
    refine .inl (.inr ?_)
    show 32 ∈ tx " "
    rw [sp_tx]
    simp
  rw [this] at h2
  cases h2
theorem lo_of {l : List String} (h : ∀ t ∈ l, (∃ (i : In) (m : Nat), i.ok m ∧ t = i.line) ∨ t ∈ oddL) (hl : l.length ≤ 100) (hs : ∃ t ∈ l, t ≠ "") : LinesOk l where
  free := fun t ht => by
    rcases h t ht with ⟨i, m, _, rfl⟩ | h
    · exact line_free i
    · exact (odd_fr h).1
  short := fun t ht => by
    rcases h t ht with ⟨i, m, hi, rfl⟩ | h
    · have := line_len hi; omega
    · exact (odd_fr h).2
  few := hl
  some := hs
theorem told_of {l : List String} (n : Nat) (h : ∀ t ∈ l, (∃ (i : In) (m : Nat), i.ok m ∧ t = i.line) ∨ t ∈ oddL) : ∀ t ∈ l, Told n t := fun t ht => by
  rcases h t ht with ⟨i, m, hi, rfl⟩ | h
  · exact told_line n hi
  · exact told_odd n h
/-- a program read -/
theorem bel_i (n : Nat) (i : In) : bel n i.d = true := by
  cases i <;> simp [In.d, In.items, bel, belA]
theorem belA_i (n : Nat) : ∀ P : List In, belA n (P.map In.d) = true
  | [] => rfl
  | i :: P => by
    show (bel n i.d && belA n (P.map In.d)) = true
    rw [bel_i, belA_i n P]
    rfl
theorem read_prog {m : Nat} (P : List In) (hP : ∀ i ∈ P, i.ok m) (hk : ∀ i ∈ P, okB P.length i = true) (hl : P.length ≤ 40) (S : Sg) : gcF F_read_program [.str (textL (P.map In.line))] S = .ok (.tup (P.map In.d)) S := by
  have hb : bel S.length (.tup (P.map In.d)) = true := belA_i _ P
  match P, hP, hk, hl, hb with
  | [], _, _, _, hb => exact gcF_drop (read_nil S) hb
  | i :: P, hP, hk, hl, hb =>
    have hall : ∀ t ∈ (i :: P).map In.line, (∃ (i : In) (m : Nat), i.ok m ∧ t = i.line) ∨ t ∈ oddL := fun t ht => by
      obtain ⟨j, hj, rfl⟩ := List.mem_map.mp ht
      exact .inl ⟨j, m, hP j hj, rfl⟩
    have e := read_good (S := S) gOf (fOf ((i :: P).map In.line).length) (lo_of hall (by simp at hl ⊢; omega) ⟨i.line, by simp, line_ne i⟩) (told_of _ hall) (firstBad_none _ _ (fun t ht => by
      obtain ⟨j, hj, rfl⟩ := List.mem_map.mp ht
      rw [f_line _ (hP j hj), List.length_map]
      exact hk j hj) (by simp at hl ⊢; omega))
    have eg : ((i :: P).map In.line).map gOf = (i :: P).map In.d := by
      rw [List.map_map]
      exact List.map_congr_left fun j hj => g_line (hP j hj)
    rw [eg] at e
    exact gcF_drop e hb
end Law

/-! N9: a program written; the law's pieces. -/
namespace Law
open Dx L2
theorem iEn_tup {g : FA} {ρ : Ev} {S S1 : Sg} {xs : List D} (h : g ρ S = .ok [.tup xs] S1) : iEn g ρ S = .ok (.its (enumD 0 xs)) S1 := by
  unfold iEn
  rw [h]
  rfl
def bodyC : FS := sIf (tNotF (tTru (xCall F_is_instruction_among 2 (aCons (xVar 2) (aCons (xB cLen (aCons (xVar 0) (aNil))) (aNil))))))
  (sRaiseI 1 "index" (xVar 1))
  (sNil)
theorem chk_good {S : Sg} (P : List In) (xs : List D) (hx : xs.length = P.length) (hP : ∀ i ∈ P, i.ok P.length) : ∀ (Q : List In) (k : Nat) (y z : Option D), (∀ i ∈ Q, i ∈ P) → k + Q.length < 1000000 →
    ∃ y' z', forRun (gTp 2 (gsC (gNm 1) (gsC (gNm 2) gsN))) bodyC (enumD k (Q.map In.d)) [some (.tup xs), y, z] S = .nx [some (.tup xs), y', z'] S
  | [], k, y, z, _, _ => ⟨y, z, rfl⟩
  | i :: Q, k, y, z, h, hk => by
    simp only [List.length_cons] at hk
    have h1 := ia_ok (S := S) P.length i (hP i (h i (by simp)))
    rw [← hx] at h1
    obtain ⟨y', z', e⟩ := chk_good P xs hx hP Q (k + 1) (some (.int k)) (some i.d) (fun j hj => h j (by simp [hj])) (by omega)
    refine ⟨y', z', ?_⟩
    rw [← e]
    have c1 : (-4611686018427387904 : Int) < (k : Nat) := by omega
    have c2 : ((k : Nat) : Int) < 4611686018427387904 := by omega
    show forRun _ _ (.tup [.int k, i.d] :: enumD (k + 1) (Q.map In.d)) _ _ = _
    unfold bodyC
    simp -implicitDefEqProofs [h1, c1, c2]
theorem chk_pd {S : Sg} (P : List In) (hP : ∀ i ∈ P, i.ok P.length) (hl : P.length ≤ 40) : F_check_program [.tup (P.map In.d)] S = .ok .non S := by
  obtain ⟨y, z, e⟩ := chk_good (S := S) P (P.map In.d) (by simp) hP P 0 none none (fun i h => h) (by omega)
  have h40 : ¬ (40 : Int) < P.length := by omega
  have e0 : iEn (aCons (xVar 0) aNil) [some (.tup (P.map In.d)), none, none] S = .ok (.its (enumD 0 (P.map In.d))) S := iEn_tup (by simp)
  unfold bodyC at e
  unfold F_check_program S_check_program
  simp -implicitDefEqProofs [isaT, k_MOST_INSTRUCTIONS, gt_int, h40, e0, e]
theorem lines_len {m : Nat} {P : List In} (hP : ∀ i ∈ P, i.ok m) : ∀ t ∈ P.map In.line, (PySem.Str.ofString t).length ≤ 100 := fun t ht => by
  obtain ⟨i, hi, rfl⟩ := List.mem_map.mp ht
  have := line_len (hP i hi)
  omega
theorem join_strs {l : List String} {S : Sg} (h : ∀ t ∈ l, (PySem.Str.ofString t).length ≤ 100) (hl : l.length ≤ 100) : joinAt "\n" S (((seqOf S (.clist (l.map .str))).or (tupOf (.clist (l.map .str)))).bind strsD) = .ok (.str (textL l)) S := by
  show joinAt "\n" S (strsD (l.map .str)) = _
  rw [strs_of]
  exact joinAt_of h (by rw [nl_len]; omega)
theorem write_ok {S : Sg} (P : List In) (hP : ∀ i ∈ P, i.ok P.length) (hl : P.length ≤ 40) : F_write_program [.tup (P.map In.d)] S = .ok (.str (textL (P.map In.line))) S := by
  have e := chk_pd (S := S) P hP hl
  have j := join_strs (S := S) (lines_len hP) (by simpa using (by omega : P.length ≤ 100))
  have lc : lcRun (gNm 1) tYesF (xCall F_line_of 1 (aCons (xVar 1) aNil)) [some (.tup (P.map In.d)), none] (P.map In.d) [] S = .ok (.clist ((P.map In.line).map .str)) S := by
    rw [lcRun_map In.d (fun _ => true) (fun i => .str i.line)]
    · rw [List.nil_append, List.filter_eq_self.mpr fun _ _ => rfl, List.map_map]
      rfl
    · intro i hi
      refine ⟨_, rfl, rfl, fun _ => ?_⟩
      simp -implicitDefEqProofs [line_ok (hP i hi)]
    · simp; omega
  generalize (P.map In.line).map D.str = L at lc j
  unfold F_write_program S_write_program
  simp -implicitDefEqProofs [e, lc, wipeD, j]
theorem law_lines {S : Sg} (P : List In) {m : Nat} (hP : ∀ i ∈ P, i.ok m) (hl : P.length ≤ 40) {ρ : Ev} (hρ : ρ.length = 12) : lcRun (gNm 10) tYesF (xJoin (xC (.str " ")) (xLcF [11] (iSrc (xVar 10)) (gNm 11) tYesF (xB cStr (aCons (xVar 11) aNil)))) ρ (P.map In.d) [] S = .ok (.clist ((P.map In.line).map .str)) S := by
  rw [lcRun_map In.d (fun _ => true) (fun i => .str i.line)]
  · rw [List.nil_append, List.filter_eq_self.mpr fun _ _ => rfl, List.map_map]
    rfl
  · intro i hi
    have h8 : (ρ.set 10 (some i.d))[10]? = some (some i.d) := by simp [hρ]
    refine ⟨_, rfl, rfl, fun _ => ?_⟩
    have hk : kSrc i.d S = .ok (.its i.items) S := rfl
    have lc := fun {ρ : Ev} (h : 11 < ρ.length) => lc_line (j := 11) (hP i hi) h S
    have hw : 11 < (wipeD (ρ.set 10 (some i.d)) [11]).length := by simp [wipeD, hρ]
    simp -implicitDefEqProofs [h8, hk, lc hw, hρ, jk (hP i hi)]
  · simp; omega
theorem sl_up {S : Sg} {xs : List D} {k : Nat} (h : k ≤ xs.length) : fSlF (.clist xs) none (some (k : Int)) S = .ok (.clist (xs.take k)) S := by
  have h1 : HT.sIx xs.length xs.length (some (k : Int)) = k := by rw [HT.sIx_nat]; omega
  have h2 : HT.sIx xs.length 0 none = 0 := rfl
  simp only [fSlF, seqOf, h1, h2, cutD]
  simp
theorem sl_fr {S : Sg} {xs : List D} {k : Nat} (h : k ≤ xs.length) : fSlF (.clist xs) (some (k : Int)) none S = .ok (.clist (xs.drop k)) S := by
  have h1 : HT.sIx xs.length 0 (some (k : Int)) = k := by rw [HT.sIx_nat]; omega
  have h2 : HT.sIx xs.length xs.length none = xs.length := rfl
  simp only [fSlF, seqOf, h1, h2, cutD]
  rw [List.take_of_length_le (by simp)]
theorem alike_text {S : Sg} (s : String) : F__law_alike rfuel [.str s, .str s] S = .ok (.bl true) S := alike_ok 5 S _ _ (.str s)
theorem alike_i {n : Nat} (i : In) : Alk (n + 1) i.d i.d := by
  unfold In.d
  refine .tup rfl rfl rfl (fun k x y hx hy => ?_) (by rw [In.items_eq]; have := In.nums_len i; simp; omega)
  rw [hx] at hy
  cases hy
  have := List.mem_of_getElem? hx
  rw [In.items_eq] at this
  rcases List.mem_cons.mp this with rfl | h
  · exact .str _
  · obtain ⟨n, _, rfl⟩ := List.mem_map.mp h
    exact .int _
end Law

/-! N10: what the law asks, call by call. -/
namespace Law
open Dx L2
theorem draw {n : Nat} {S : Sg} {m : Nat} (xs : List D) (h : IsRow n S) (hm : xs.length = m) (h0 : 0 < m) (h1 : m < 1073741824) : ∃ (i : Nat) (x : D) (S' : Sg), x ∈ xs ∧ F__law_taken [.ref n, .int m] S = .ok (.int (i : Int)) S' ∧ (∀ T : Sg, fIx (.clist xs) (.int i) T = .ok x T) ∧ Dr n S S' := by
  obtain ⟨i, S', a, b, c⟩ := taken_dr (m := m) h (by omega) (by omega)
  have hi : i < xs.length := by omega
  exact ⟨i, xs[i], S', List.getElem_mem hi, b, fun T => ixSeq_get (by simp [hi]), c⟩
theorem alike_prog {S : Sg} (P : List In) (hl : P.length ≤ 40) : F__law_alike rfuel [.tup (P.map In.d), .tup (P.map In.d)] S = .ok (.bl true) S :=
  alike_ok 5 S _ _ (.tup rfl rfl rfl (fun k x y hx hy => by
    rw [hx] at hy
    cases hy
    rw [List.getElem?_map] at hx
    obtain ⟨i, _, rfl⟩ := Option.map_eq_some_iff.mp hx
    exact alike_i i) (by simp; omega))
section
variable {S : Sg} {P : List In} (hP : ∀ i ∈ P, i.ok P.length) (hl : P.length ≤ 20)
include hP hl
theorem okB_all (n : Nat) (h : P.length ≤ n) : ∀ i ∈ P, okB n i = true := fun i hi => by
  have := hP i hi
  cases i <;> simp [okB, In.ok] at this ⊢
  omega
/-- a line that is no instruction, among a program's -/
theorem bad_read {k : Nat} {t : String} (hk : k ≤ P.length) (ht : t ∈ oddL) (hn : ¬ (P = [] ∧ t = "")) : gcF F_read_program [.str (textL ((P.map In.line).take k ++ t :: (P.map In.line).drop k))] S = .exc 3 [("line", .int ((k : Nat) + 1 : Nat))] S := by
  have hall : ∀ u ∈ (P.map In.line).take k ++ t :: (P.map In.line).drop k, (∃ (i : In) (m : Nat), i.ok m ∧ u = i.line) ∨ u ∈ oddL := fun u hu => by
    have : u ∈ P.map In.line ∨ u = t := by
      rcases List.mem_append.mp hu with h | h
      · exact .inl (List.mem_of_mem_take h)
      · rcases List.mem_cons.mp h with h | h
        · exact .inr h
        · exact .inl (List.mem_of_mem_drop h)
    rcases this with h | rfl
    · obtain ⟨j, hj, rfl⟩ := List.mem_map.mp h
      exact .inl ⟨j, _, hP j hj, rfl⟩
    · exact .inr ht
  have len : ((P.map In.line).take k ++ t :: (P.map In.line).drop k).length = P.length + 1 := by simp; omega
  have hs : ∃ u ∈ (P.map In.line).take k ++ t :: (P.map In.line).drop k, u ≠ "" := by
    by_cases h : t = ""
    · cases P with
      | nil => exact absurd ⟨rfl, h⟩ hn
      | cons i P =>
        refine ⟨i.line, ?_, line_ne i⟩
        have : i.line ∈ (List.map In.line (i :: P)).take k ++ (List.map In.line (i :: P)).drop k := by rw [List.take_append_drop]; simp
        rcases List.mem_append.mp this with h | h
        · exact List.mem_append_left _ h
        · exact List.mem_append_right _ (List.mem_cons_of_mem _ h)
    · exact ⟨t, by simp, h⟩
  refine read_bad gOf (fOf (P.length + 1)) (lo_of hall (by rw [len]; omega) hs) (by rw [len]; exact told_of _ hall) ?_
  have e := firstBad_app (f := fOf (P.length + 1)) t ((P.map In.line).drop k) ((P.map In.line).take k) 1 (fun u hu => by
    obtain ⟨j, hj, rfl⟩ := List.mem_map.mp (List.mem_of_mem_take hu)
    rw [f_line _ (hP j hj)]
    exact okB_all hP hl _ (by omega) j hj) (by simp; omega) (.inr (f_odd _ ht))
  rw [e]
  simp
  omega
theorem far_read : gcF F_read_program [.str (textL (P.map In.line ++ [In.line (.iff 0 (P.length + 2))]))] S = .exc 3 [("line", .int (P.length + 1 : Nat))] S := by
  have hi : In.ok (P.length + 2) (.iff 0 (P.length + 2)) := ⟨by omega, by omega, by omega⟩
  have hall : ∀ u ∈ P.map In.line ++ [In.line (.iff 0 (P.length + 2))], (∃ (i : In) (m : Nat), i.ok m ∧ u = i.line) ∨ u ∈ oddL := fun u hu => by
    rcases List.mem_append.mp hu with h | h
    · obtain ⟨j, hj, rfl⟩ := List.mem_map.mp h
      exact .inl ⟨j, _, hP j hj, rfl⟩
    · exact .inl ⟨_, _, hi, List.mem_singleton.mp h⟩
  have len : (P.map In.line ++ [In.line (.iff 0 (P.length + 2))]).length = P.length + 1 := by simp
  refine read_bad gOf (fOf (P.length + 1)) (lo_of hall (by rw [len]; omega) ⟨In.line (.iff 0 (P.length + 2)), by simp, line_ne _⟩) (by rw [len]; exact told_of _ hall) ?_
  have e := firstBad_app (f := fOf (P.length + 1)) (In.line (.iff 0 (P.length + 2))) [] (P.map In.line) 1 (fun u hu => by
    obtain ⟨j, hj, rfl⟩ := List.mem_map.mp hu
    rw [f_line _ (hP j hj)]
    exact okB_all hP hl _ (by omega) j hj) (by simp; omega) (.inr (by rw [f_line _ hi]; simp [okB]))
  rw [e]
  simp
  omega
theorem near_read : gcF F_read_program [.str (textL (P.map In.line ++ [In.line (.iff 0 (P.length + 1))]))] S = .ok (.tup (P.map In.d ++ [In.d (.iff 0 (P.length + 1))])) S := by
  have hi : In.ok (P.length + 1) (.iff 0 (P.length + 1)) := ⟨by omega, by omega, by omega⟩
  have e := read_prog (m := P.length + 1) (P ++ [.iff 0 (P.length + 1)]) (fun i h => by
    rcases List.mem_append.mp h with h | h
    · have := hP i h
      cases i <;> simp [In.ok] at this ⊢ <;> omega
    · rw [List.mem_singleton.mp h]; exact hi) (fun i h => by
    rw [List.length_append, List.length_singleton]
    rcases List.mem_append.mp h with h | h
    · exact okB_all hP hl _ (by omega) i h
    · rw [List.mem_singleton.mp h]; simp [okB]) (by simp; omega) S
  rw [List.map_append, List.map_append] at e
  exact e
end
def L41 : List D := List.replicate 41 (.str "show 0")
def L40 : List D := List.replicate 40 (.str "show 0")
def R40 : List D := List.replicate 40 (In.d (.shw 0))
def R41 : List D := List.replicate 41 (.tup [.str "show", .int 0])
theorem many_read {S : Sg} : gcF F_read_program [.str (textL (List.replicate 41 "show 0"))] S = .exc 3 [("line", .int 41)] S := by
  have hi : In.ok 1 (.shw 0) := show 0 < 8 by omega
  have hall : ∀ u ∈ List.replicate 41 "show 0", (∃ (i : In) (m : Nat), i.ok m ∧ u = i.line) ∨ u ∈ oddL := fun u hu => by
    rw [List.eq_of_mem_replicate hu]
    exact .inl ⟨.shw 0, 1, hi, show_line.symm⟩
  refine read_bad gOf (fOf 41) (j := 41) (lo_of hall (by simp) ⟨"show 0", by simp, by decide⟩) (by rw [List.length_replicate]; exact told_of _ hall) ?_
  exact firstBad_app (f := fOf 41) "show 0" [] (List.replicate 40 "show 0") 1 (fun u hu => by
    rw [List.eq_of_mem_replicate hu, ← show_line, f_line _ hi]; rfl) (by simp) (.inl (by simp))
theorem most_read {S : Sg} : gcF F_read_program [.str (textL (List.replicate 40 "show 0"))] S = .ok (.tup R40) S := by
  have hi : In.ok 1 (.shw 0) := show 0 < 8 by omega
  have e := read_prog (m := 1) (List.replicate 40 (.shw 0)) (fun i h => by rw [List.eq_of_mem_replicate h]; exact hi) (fun i h => by rw [List.eq_of_mem_replicate h]; rfl) (by simp) S
  rw [List.map_replicate, List.map_replicate, show_line] at e
  exact e
theorem nil_read {S : Sg} : gcF F_read_program [.str ""] S = .ok (.tup []) S := gcF_drop (read_nil S) rfl
theorem not_text {S : Sg} {d : D} {L : List D} {T : String} (h : d ∈ [D.non, .int 5, .clist L, .tup [.str T], .bl true]) : gcF F_read_program [d] S = .exc 2 [] S := by
  have : F_read_program [d] S = .exc 2 [] S := by
    simp only [List.mem_cons, List.not_mem_nil, or_false] at h
    rcases h with rfl | rfl | rfl | rfl | rfl <;> (unfold F_read_program S_read_program F_check_text S_check_text; simp -implicitDefEqProofs [isaT])
  unfold gcF
  rw [this]
  simp [gcR]
def oddW : List (D × D) := [(.non, .non), (.clist [], .non), (.tup R41, .non), (.tup [.tup [.str "if", .int 0, .int 2]], .int 0), (.tup [.tup [.str "show", .int 0], .int 7], .int 1)]
theorem odd_write {S : Sg} : ∀ p ∈ oddW, F_write_program [p.1] S = .exc 1 [("index", p.2)] S := by
  intro p hp
  simp only [oddW, List.mem_cons, List.not_mem_nil, or_false] at hp
  rcases hp with rfl | rfl | rfl | rfl | rfl <;> kernel_rfl
end Law

/-! N11: the law. -/
namespace Law
open Dx L2
theorem str_num {S : Sg} (n : Nat) (h : n < 256) : cStr [.int (n : Nat)] S = .ok (.str (num n)) S := by
  refine cStr_int ?_
  by_cases hz : n = 0
  · subst hz; decide
  · have := (Nat.log2_lt (n := n) (k := 8) hz).mpr (by omega)
    show n.log2 < 1920
    omega
theorem add_if {S : Sg} (n : Nat) (h : n < 256) : fAddF (.str "if 0 ") (.str (num n)) S = .ok (.str (In.line (.iff 0 n))) S := by
  have l := num_len (n := n) (by omega)
  rw [ofS_len] at l
  have l5 : "if 0 ".length = 5 := by decide +kernel
  rw [if_line]
  show (if "if 0 ".length + (num n).length ≤ 16777216 then R.ok (D.str ("if 0 " ++ num n)) S else .stuck) = _
  rw [if_pos (by omega)]
theorem ix_last {S : Sg} (xs : List D) (d : D) (h : xs.length < 1000) : fIx (.tup (xs ++ [d])) (.int (-1)) S = .ok d S := by
  show ixSeq S (xs ++ [d]) (.int (-1)) = _
  rw [ixSeq_int]
  have e : atI (xs ++ [d]) (-1) = some d := by
    have k : ixN (xs ++ [d]).length (-1) = some xs.length := by
      unfold ixN
      rw [List.length_append, List.length_singleton, if_neg (by decide), if_pos (by omega)]
      congr 1
      omega
    unfold atI
    rw [k]
    simp
  rw [e]
  rfl
theorem eq_last {S : Sg} (n : Nat) : fEqF true (In.d (.iff 0 n)) (.tup [.str "if", .int 0, .int n]) S = .ok (.bl false) S := by
  have h1 : okD 9 S (.tup [.str "if", .int 0, .int n]) = true := by
    rw [okD_tup]
    simp [okD_str, okD_int]
  show fEqF true (.tup [.str "if", .int 0, .int n]) (.tup [.str "if", .int 0, .int n]) S = _
  rw [fEqF_ok h1 h1, eqB_tup]
  simp [eqL_cons, eqL_nil, eqB_str, eqB_int]
theorem eq_w {S : Sg} {d : D} (h : d = .non ∨ d = .int 0 ∨ d = .int 1) : fEqF false (.tup [.str "program", d]) (.tup [.str "program", d]) S = .ok (.bl true) S := by
  rcases h with rfl | rfl | rfl <;> kernel_rfl
theorem eq_e {S : Sg} : fEqF true (.clist [.str ""]) (.clist [.str ""]) S = .ok (.bl false) S := by kernel_rfl
theorem eq_t {S : Sg} : fEqF false (.tup []) (.tup []) S = .ok (.bl true) S := by kernel_rfl
end Law

/-! N12: the law. -/
namespace Law
open Dx L2
def T40 : String := textL (List.replicate 40 "show 0")
theorem most_read' {S : Sg} : gcF F_read_program [.str T40] S = .ok (.tup R40) S := most_read
set_option maxHeartbeats 8000000 in
theorem law_sem : ∀ ns : List Int, ns.length ≤ 63 → ∃ S, F_law [.slist ns] [] = .ok (.bl true) S := by
  intro ns hns
  let S0 : Sg := [.lst [.slist ns, .int 0, .int 14407, .int 0]]
  have r0 : IsRow 0 S0 := ⟨ns, 0, 14407, 0, by decide, rfl, hns⟩
  obtain ⟨P, S1, hl, hP, e1, d1⟩ := prog_ok (M := 20) r0 (by decide)
  have e1 : F__law_program [.ref 0, .int 20] S0 = .ok (.tup (P.map In.d)) S1 := e1
  obtain ⟨k, S2, hk, e2, d2⟩ := taken_dr (m := (P.length : Int) + 1) d1.row (by omega) (by omega)
  have hk : k ≤ P.length := by omega
  obtain ⟨i1, x, S3, hx, e3, f3, d3⟩ := draw (m := 23) (oddL.map D.str) d2.row rfl (by decide) (by decide)
  obtain ⟨t, ht, rfl⟩ := List.mem_map.mp hx
  -- lines, text
  have lc := law_lines (S := S1) P hP (by omega) (ρ := [some (.slist ns), some (.ref 0), some (.tup (P.map In.d)), none, none, none, none, none, none, none, none, none]) rfl
  have j1 := fun S => join_strs (S := S) (lines_len hP) (by simp; omega)
  have w1 := write_ok (S := S1) P hP (by omega)
  have rd := read_prog P hP (okB_all hP hl _ (Nat.le_refl _)) (by omega) S1
  have q1 := alike_text (S := S1) (textL (P.map In.line))
  have q2 := alike_prog (S := S1) P (by omega)
  -- the bad list
  have u1 := fun S => sl_up (S := S) (xs := (P.map In.line).map D.str) (k := k) (by simpa using hk)
  have u2 := fun S => sl_fr (S := S) (xs := (P.map In.line).map D.str) (k := k) (by simpa using hk)
  have e3 : F__law_taken [.ref 0, .int 23] S2 = .ok (.int i1) S3 := e3
  simp only [oddL, oddT, List.map_cons, List.map_nil] at f3
  have jb : ∀ S, joinAt "\n" S (((seqOf S (.clist (((P.map In.line).map D.str).take k ++ .str t :: ((P.map In.line).map D.str).drop k))).or (tupOf (.clist (((P.map In.line).map D.str).take k ++ .str t :: ((P.map In.line).map D.str).drop k)))).bind strsD) = .ok (.str (textL ((P.map In.line).take k ++ t :: (P.map In.line).drop k))) S := fun S => by
    have := join_strs (S := S) (l := (P.map In.line).take k ++ t :: (P.map In.line).drop k) (fun u hu => by
      have : u ∈ P.map In.line ∨ u = t := by
        rcases List.mem_append.mp hu with h | h
        · exact .inl (List.mem_of_mem_take h)
        · rcases List.mem_cons.mp h with h | h
          · exact .inr h
          · exact .inl (List.mem_of_mem_drop h)
      rcases this with h | rfl
      · exact lines_len hP u h
      · exact (odd_fr ht).2) (by simp; omega)
    rw [List.map_append, List.map_cons, List.map_take, List.map_drop] at this
    exact this
  have jf : ∀ (S : Sg) (n : Nat), n < 30 → joinAt "\n" S (((seqOf S (.clist ((P.map In.line).map D.str ++ [.str (In.line (.iff 0 n))]))).or (tupOf (.clist ((P.map In.line).map D.str ++ [.str (In.line (.iff 0 n))])))).bind strsD) = .ok (.str (textL (P.map In.line ++ [In.line (.iff 0 n)]))) S := fun S n hn => by
    have := join_strs (S := S) (l := P.map In.line ++ [In.line (.iff 0 n)]) (fun u hu => by
      rcases List.mem_append.mp hu with h | h
      · exact lines_len hP u h
      · rw [List.mem_singleton.mp h]
        have := line_len (i := .iff 0 n) (n := n) ⟨by omega, by omega, by omega⟩
        omega) (by simp; omega)
    rw [List.map_append] at this
    exact this
  have hf := fun S => far_read (S := S) hP hl
  have hn := fun S => near_read (S := S) hP hl
  have c2 : ∀ S, cStr [.int ((P.length : Int) + 2)] S = .ok (.str (num (P.length + 2))) S := fun S => str_num (S := S) (P.length + 2) (by omega)
  have c1 : ∀ S, cStr [.int ((P.length : Int) + 1)] S = .ok (.str (num (P.length + 1))) S := fun S => str_num (S := S) (P.length + 1) (by omega)
  have a2 := fun S => add_if (S := S) (P.length + 2) (by omega)
  have a1 := fun S => add_if (S := S) (P.length + 1) (by omega)
  have j2 := fun S => jf S (P.length + 2) (by omega)
  have j3 := fun S => jf S (P.length + 1) (by omega)
  have x1 := fun S => ix_last (S := S) (P.map In.d) (In.d (.iff 0 (P.length + 1))) (by simp; omega)
  have xe : ∀ S, fEqF true (In.d (.iff 0 (P.length + 1))) (.tup [.str "if", .int 0, .int ((P.length : Int) + 1)]) S = .ok (.bl false) S := fun S => eq_last (S := S) (P.length + 1)
  -- forty and one more
  have m41 : ∀ S : Sg, fMulFF (.clist [.str "show 0"]) (.int 41) S = .ok (.clist L41) S := fun S => rfl
  have m40 : ∀ S : Sg, fMulFF (.clist [.str "show 0"]) (.int 40) S = .ok (.clist L40) S := fun S => rfl
  have mr : ∀ S : Sg, fMulFF (.tup [.tup [.str "show", .int 0]]) (.int 41) S = .ok (.tup R41) S := fun S => rfl
  have j41 : ∀ S, joinAt "\n" S (((seqOf S (.clist L41)).or (tupOf (.clist L41))).bind strsD) = .ok (.str (textL (List.replicate 41 "show 0"))) S := fun S => by
    have := join_strs (S := S) (l := List.replicate 41 "show 0") (fun u hu => by rw [List.eq_of_mem_replicate hu]; decide +kernel) (by simp)
    rw [List.map_replicate] at this
    exact this
  have j40 : ∀ S, joinAt "\n" S (((seqOf S (.clist L40)).or (tupOf (.clist L40))).bind strsD) = .ok (.str T40) S := fun S => by
    have := join_strs (S := S) (l := List.replicate 40 "show 0") (fun u hu => by rw [List.eq_of_mem_replicate hu]; decide +kernel) (by simp)
    rw [List.map_replicate] at this
    exact this
  have l40 : ∀ S, cLen [.tup R40] S = .ok (.int 40) S := fun S => rfl
  -- what is no text
  obtain ⟨y, S4, hy, e4, d4⟩ := pick_lst (xs := [D.non, .int 5, .clist ((P.map In.line).map D.str), .tup [.str (textL (P.map In.line))], .bl true]) d3.row (by simp) (by simp)
  -- what cannot be written
  obtain ⟨i5, z, S5, hz, e5, f5, d5⟩ := draw (m := 5) (oddW.map fun p => D.tup [p.1, p.2]) d4.row rfl (by decide) (by decide)
  have e5 : F__law_taken [.ref 0, .int 5] S4 = .ok (.int i5) S5 := e5
  obtain ⟨p, hp, rfl⟩ := List.mem_map.mp hz
  simp only [oddW, List.map_cons, List.map_nil] at f5
  have ow := fun S => odd_write (S := S) p hp
  have hp2 : p.2 = .non ∨ p.2 = .int 0 ∨ p.2 = .int 1 := by
    simp only [oddW, List.mem_cons, List.not_mem_nil, or_false] at hp
    rcases hp with rfl | rfl | rfl | rfl | rfl <;> simp
  have w0 := write_ok (S := S5) [] (by simp) (by simp)
  have w0 : F_write_program [.tup []] S5 = .ok (.str "") S5 := w0
  have ew := eq_w (S := S5) hp2
  have et := eq_t (S := S5)
  have nr := nil_read (S := S5)
  have cl : ∀ S, cLen [.clist ((P.map In.line).map D.str)] S = .ok (.int P.length) S := fun S => by simp
  have tl : ((P.map In.line).map D.str).length = P.length := by simp
  have ks : kSrc (.tup (P.map In.d)) S1 = .ok (.its (P.map In.d)) S1 := rfl
  -- calls that fail
  have g0 : ∀ ρ : Ev, ρ[8]? = some (some (.clist ((P.map In.line).map D.str ++ [.str (In.line (.iff 0 (P.length + 2)))]))) → F__law_wrong (fun n S => bodies_law n ρ S) [.clo 0] S3 = .ok (.int ((P.length : Int) + 1)) S3 := fun ρ h => wrong_line (x := .int ((P.length : Int) + 1)) (by
    have := hf S3
    rw [show ((P.length + 1 : Nat) : Int) = (P.length : Int) + 1 by omega] at this
    generalize (P.map In.line).map D.str = L at *
    simp -implicitDefEqProofs [bodies_law, h, j2, this])
  have g1 : ∀ ρ : Ev, ρ[1]? = some (some (.ref 0)) → ρ[3]? = some (some (.clist ((P.map In.line).map D.str))) → ρ[4]? = some (some (.str (textL (P.map In.line)))) → F__law_wrong (fun n S => bodies_law n ρ S) [.clo 1] S3 = .ok (.str "text") S4 := fun ρ h1 h3 h4 => wrong_text (by
    have := not_text (S := S4) hy
    generalize (P.map In.line).map D.str = L at *
    simp -implicitDefEqProofs [bodies_law, h1, h3, h4, e4, this])
  have g3 : ∀ ρ : Ev, F__law_wrong (fun n S => bodies_law n ρ S) [.clo 3] S3 = .ok (.int 41) S3 := fun ρ => wrong_line (by
    simp -implicitDefEqProofs [bodies_law, m41, j41, many_read, -List.reduceReplicate])
  have g4 : ∀ ρ : Ev, ρ[7]? = some (some p.1) → F__law_wrong (fun n S => bodies_law n ρ S) [.clo 4] S5 = .ok (.tup [.str "program", p.2]) S5 := fun ρ h => wrong_prog (by
    simp -implicitDefEqProofs [bodies_law, h, ow])
  have jt : ∀ S, joinAt "\n" S (((seqOf S (.clist ((P.map In.line).map D.str))).or (tupOf (.clist ((P.map In.line).map D.str)))).bind strsD) = .ok (.str (textL (P.map In.line))) S := j1
  by_cases hc : P = [] ∧ t = ""
  · have full : ((P.map In.line).map D.str).take k ++ .str t :: ((P.map In.line).map D.str).drop k = [.str ""] := by
      obtain ⟨rfl, rfl⟩ := hc
      simp
    have ft : textL ((P.map In.line).take k ++ t :: (P.map In.line).drop k) = "" := by
      obtain ⟨rfl, rfl⟩ := hc
      simp [textL, joinS]
    have ee : fEqF true (.clist (((P.map In.line).map D.str).take k ++ .str t :: ((P.map In.line).map D.str).drop k)) (.clist [.str ""]) S3 = .ok (.bl false) S3 := by
      rw [full]
      exact eq_e
    have g2 : ∀ ρ : Ev, ρ[7]? = some (some (.clist (((P.map In.line).map D.str).take k ++ .str t :: ((P.map In.line).map D.str).drop k))) → F__law_wrong (fun n S => bodies_law n ρ S) [.clo 2] S3 = .ok (.str "") S3 := fun ρ h => wrong_none (x := .tup []) (by
      have jb := fun S => jb S
      rw [ft] at jb
      generalize ((P.map In.line).map D.str).take k = LA at *
      generalize ((P.map In.line).map D.str).drop k = LB at *
      simp -implicitDefEqProofs [bodies_law, h, jb, nil_read])
    have es : fEqF true (.str "") (.int ((k : Int) + 1)) S3 = .ok (.bl true) S3 := rfl
    have tA : (((P.map In.line).map D.str).take k).length = k := by simp; omega
    have tB : (((P.map In.line).map D.str).drop k).length = P.length - k := by simp
    generalize ((P.map In.line).map D.str).take k = LA at *
    generalize ((P.map In.line).map D.str).drop k = LB at *
    generalize (P.map In.line).map D.str = L at *
    generalize textL (P.map In.line) = T at *
    have k1 : k + 1 ≤ 16777216 := by omega
    have k2 : k + 1 + (P.length - k) ≤ 16777216 := by omega
    have k3 : P.length + 1 ≤ 16777216 := by omega
    refine ⟨S5, ?_⟩
    unfold F_law S_law
    simp -implicitDefEqProofs [S0, e1, lc, j1, w1, rd, q1, q2, ks, cl, tl, e2, e3, f3, u1, u2, tA, tB, k1, k2, k3, g2, es, ee, c2, a2, g0, c1, a1, j3, hn, x1, xe, g3, m40, j40, most_read', l40, g1, mr, e5, f5, nr, et, w0, g4, ew, wipeD]
  · have g2 : ∀ ρ : Ev, ρ[7]? = some (some (.clist (((P.map In.line).map D.str).take k ++ .str t :: ((P.map In.line).map D.str).drop k))) → F__law_wrong (fun n S => bodies_law n ρ S) [.clo 2] S3 = .ok (.int ((k : Int) + 1)) S3 := fun ρ h => wrong_line (x := .int ((k : Int) + 1)) (by
      have := bad_read (S := S3) hP hl hk ht hc
      rw [show ((k + 1 : Nat) : Int) = (k : Int) + 1 by omega] at this
      generalize ((P.map In.line).map D.str).take k = LA at *
      generalize ((P.map In.line).map D.str).drop k = LB at *
      simp -implicitDefEqProofs [bodies_law, h, jb, this])
    have tA : (((P.map In.line).map D.str).take k).length = k := by simp; omega
    have tB : (((P.map In.line).map D.str).drop k).length = P.length - k := by simp
    generalize ((P.map In.line).map D.str).take k = LA at *
    generalize ((P.map In.line).map D.str).drop k = LB at *
    generalize (P.map In.line).map D.str = L at *
    generalize textL (P.map In.line) = T at *
    have k1 : k + 1 ≤ 16777216 := by omega
    have k2 : k + 1 + (P.length - k) ≤ 16777216 := by omega
    have k3 : P.length + 1 ≤ 16777216 := by omega
    refine ⟨S5, ?_⟩
    unfold F_law S_law
    simp -implicitDefEqProofs [S0, e1, lc, j1, w1, rd, q1, q2, ks, cl, tl, e2, e3, f3, u1, u2, tA, tB, k1, k2, k3, g2, c2, a2, g0, c1, a1, j3, hn, x1, xe, g3, m40, j40, most_read', l40, g1, mr, e5, f5, nr, et, w0, g4, ew, wipeD]
end Law

namespace Law
open PySem PySem.Spec L2 Dx LamX
theorem law_top {l : PySem.W.OpenLaw} {w : World} {K : PySem.W.Frag} {mg : Str → Option Value} {fa fl c Pt : Addr} {h : Heap} {cs : List Addr} {fd : FuncData} (KX : K.In h) (Gn : h.Ns mainGlobals mg) (hmg : mg "law" = some (.ref fa)) (aL : PySem.W.nsIn K mainGlobals "law" = some (some (.ref fl)))
  (hP : h.get? Pt = some { cls := .none, data := .fields #[] }) (hPK : K.lookup Pt = none) (hC : PySem.W.CodeHd h c Pt) (hF : Fun K "law" "law" s_law fl fd) (hcode : fd.code = .ref c) (T : ∀ cells, Tx l.prog K mg (lamG K w (fun i => cs.getD i 0) qL Pt cells spec_law))
  (h_is_integer : FunAt K mg "is_integer" s_is_integer ["value"])
  (h_check_text : FunAt K mg "check_text" s_check_text ["value"])
  (h_line_of : FunAt K mg "line_of" s_line_of ["items"])
  (h_number_told : FunAt K mg "number_told" s_number_told ["word"])
  (h_lines_of : FunAt K mg "lines_of" s_lines_of ["text"])
  (h__law_taken : FunAt K mg "_law_taken" s__law_taken ["row", "many"])
  (h__law_wrong : FunAt K mg "_law_wrong" s__law_wrong ["work"])
  (h_is_from_to : FunAt K mg "is_from_to" s_is_from_to ["value", "least", "most"])
  (h_instruction_told : FunAt K mg "instruction_told" s_instruction_told ["line"])
  (h__law_pick : FunAt K mg "_law_pick" s__law_pick ["row", "kinds"])
  (h_is_instruction_among : FunAt K mg "is_instruction_among" s_is_instruction_among ["value", "many"])
  (h__law_instruction : FunAt K mg "_law_instruction" s__law_instruction ["row", "most"])
  (h_check_program : FunAt K mg "check_program" s_check_program ["value"])
  (h_read_program : FunAt K mg "read_program" s_read_program ["text"])
  (h__law_program : FunAt K mg "_law_program" s__law_program ["row", "most"])
  (h_write_program : FunAt K mg "write_program" s_write_program ["program"])
  (h__law_alike : FunAt K mg "_law_alike" s__law_alike ["found", "due"]) :
  ∃ (fd : FuncData) (c Pt : Addr), h.get? Pt = some { cls := .none, data := .fields #[] } ∧ K.lookup Pt = none ∧ PySem.W.CodeHd h c Pt ∧ (∀ (s : Shared) (u : Value), BindsTo s fd ⟨[u], []⟩ [("script", u)]) ∧
    ∀ base : Heap, K.In base → base.Ns mainGlobals mg → TabB base mg c Pt → FnOk l.prog w K mg base (L2.CX l.prog w) 9 fa fd ["script"] (spLawT 63 K Pt) := by
  have e := hmg.symm.trans (PySem.W.mg_of KX Gn aL)
  cases e
  refine ⟨fd, c, Pt, hP, hPK, hC, fun s u => ?_, fun base _ _ TB => ?_⟩
  · obtain ⟨oc, od, kV, doc, pm, an, cdv, ct, osl, rfl, lk, hcd⟩ := hF.ex
    exact .of_eq rfl
  · exact ok_law TB T h_is_integer h_check_text h_line_of h_number_told h_lines_of h__law_taken h__law_wrong h_is_from_to h_instruction_told h__law_pick h_is_instruction_among h__law_instruction h_check_program h_read_program h__law_program h_write_program h__law_alike hF hcode law_sem
end Law
open PySem PySem.W PyProof.Rows L2 Dx Law
set_option maxRecDepth 100000 in
set_option maxHeartbeats 0 in
theorem PySem.Challenge.cw_windowbelt_k17_whole_texts_of_programs_holds : PySem.Challenge.rw_windowbelt_k17_whole_texts_of_programs.Holds := by
  w_on; o_law
  refine HandSHeadRun.head_any (r := LawH.R) (q := PySem.W.view LawH.R.prog [30]) (H := hookY 0 1400 LawH.ask) (ob := fun s => obsY 0 1400 LawH.ask (HandSHeadRun.getT s)) (M := 20000) (loose := LawH.names) (d := HandSHeadRun.topDef LawH.R.prog 30) (kwd := []) (fun s => obsY_eq s)
    (by kernel_rfl) (fun s => by kernel_rfl) LawH.run (by kernel_rfl) (by kernel_rfl) (by kernel_rfl) (by rfl) (by first | assumption | decide +kernel) (by decide +kernel) ⟨rfl, rfl, rfl, rfl, rfl, by decide +kernel⟩ ?hw ?hc
  case hw => w_witness2
  case hc =>
    refine Dx.walkLY (l := PySem.Challenge.rw_windowbelt_k17_whole_texts_of_programs) 9 ⟨rfl, by decide, by decide⟩ rfl (by kernel_rfl) fun w mg fa h Y Gn hmg0 => ?_
    obtain ⟨K, KX, c⟩ := Y
    have hmg : mg ("law" : PySem.Str) = some (.ref fa) := by
      have e : (HandSHeadRun.topDef LawH.R.prog 30).name = ("law" : PySem.Str) := by kernel_rfl
      rw [← e]
      exact hmg0
    clear hmg0
    have h_is_integer := funAtY (x := "is_integer") (st := s_is_integer) (ps := ["value"]) KX Gn (c.at_ 0 rfl) (c.def_ 0 rfl) (fun _ _ _ _ _ _ us hl => match us, hl with | [_], _ => rfl)
    have h_check_text := funAtY (x := "check_text") (st := s_check_text) (ps := ["value"]) KX Gn (c.at_ 1 rfl) (c.def_ 1 rfl) (fun _ _ _ _ _ _ us hl => match us, hl with | [_], _ => rfl)
    have h_line_of := funAtY (x := "line_of") (st := s_line_of) (ps := ["items"]) KX Gn (c.at_ 2 rfl) (c.def_ 2 rfl) (fun _ _ _ _ _ _ us hl => match us, hl with | [_], _ => rfl)
    have h_number_told := funAtY (x := "number_told") (st := s_number_told) (ps := ["word"]) KX Gn (c.at_ 3 rfl) (c.def_ 3 rfl) (fun _ _ _ _ _ _ us hl => match us, hl with | [_], _ => rfl)
    have h_lines_of := funAtY (x := "lines_of") (st := s_lines_of) (ps := ["text"]) KX Gn (c.at_ 4 rfl) (c.def_ 4 rfl) (fun _ _ _ _ _ _ us hl => match us, hl with | [_], _ => rfl)
    have h__law_taken := funAtY (x := "_law_taken") (st := s__law_taken) (ps := ["row", "many"]) KX Gn (c.at_ 5 rfl) (c.def_ 5 rfl) (fun _ _ _ _ _ _ us hl => match us, hl with | [_, _], _ => rfl)
    have h__law_wrong := funAtY (x := "_law_wrong") (st := s__law_wrong) (ps := ["work"]) KX Gn (c.at_ 6 rfl) (c.def_ 6 rfl) (fun _ _ _ _ _ _ us hl => match us, hl with | [_], _ => rfl)
    have h_is_from_to := funAtY (x := "is_from_to") (st := s_is_from_to) (ps := ["value", "least", "most"]) KX Gn (c.at_ 7 rfl) (c.def_ 7 rfl) (fun _ _ _ _ _ _ us hl => match us, hl with | [_, _, _], _ => rfl)
    have h_instruction_told := funAtY (x := "instruction_told") (st := s_instruction_told) (ps := ["line"]) KX Gn (c.at_ 8 rfl) (c.def_ 8 rfl) (fun _ _ _ _ _ _ us hl => match us, hl with | [_], _ => rfl)
    have h__law_pick := funAtY (x := "_law_pick") (st := s__law_pick) (ps := ["row", "kinds"]) KX Gn (c.at_ 9 rfl) (c.def_ 9 rfl) (fun _ _ _ _ _ _ us hl => match us, hl with | [_, _], _ => rfl)
    have h_is_instruction_among := funAtY (x := "is_instruction_among") (st := s_is_instruction_among) (ps := ["value", "many"]) KX Gn (c.at_ 10 rfl) (c.def_ 10 rfl) (fun _ _ _ _ _ _ us hl => match us, hl with | [_, _], _ => rfl)
    have h__law_instruction := funAtY (x := "_law_instruction") (st := s__law_instruction) (ps := ["row", "most"]) KX Gn (c.at_ 11 rfl) (c.def_ 11 rfl) (fun _ _ _ _ _ _ us hl => match us, hl with | [_, _], _ => rfl)
    have h_check_program := funAtY (x := "check_program") (st := s_check_program) (ps := ["value"]) KX Gn (c.at_ 12 rfl) (c.def_ 12 rfl) (fun _ _ _ _ _ _ us hl => match us, hl with | [_], _ => rfl)
    have h_read_program := funAtY (x := "read_program") (st := s_read_program) (ps := ["text"]) KX Gn (c.at_ 13 rfl) (c.def_ 13 rfl) (fun _ _ _ _ _ _ us hl => match us, hl with | [_], _ => rfl)
    have h__law_program := funAtY (x := "_law_program") (st := s__law_program) (ps := ["row", "most"]) KX Gn (c.at_ 14 rfl) (c.def_ 14 rfl) (fun _ _ _ _ _ _ us hl => match us, hl with | [_, _], _ => rfl)
    have h_write_program := funAtY (x := "write_program") (st := s_write_program) (ps := ["program"]) KX Gn (c.at_ 15 rfl) (c.def_ 15 rfl) (fun _ _ _ _ _ _ us hl => match us, hl with | [_], _ => rfl)
    have h__law_alike := funAtY (x := "_law_alike") (st := s__law_alike) (ps := ["found", "due"]) KX Gn (c.at_ 16 rfl) (c.def_ 16 rfl) (fun _ _ _ _ _ _ us hl => match us, hl with | [_, _], _ => rfl)
    obtain ⟨fdL, hF, hcode⟩ := lawFunY (st := s_law) (c.def_ 17 rfl)
    let cs_ : List Addr := [He.ga K "WindowError", He.ga K "BadProgram", He.ga K "NotText", He.ga K "InvalidText"]
    obtain ⟨tb1, tb2, tb3⟩ := c.tab ("law", none) (by simp [LawH.ask])
    have hcd := PySem.W.codeHd_of_K KX tb1
    revert tb1 tb2 tb3 hcd hcode
    rw [show (He.cT K ("law", none)).1 = He.codeOf K ("law", none) from rfl]
    generalize (He.cT K ("law", none)).2 = Pt_
    generalize He.codeOf K ("law", none) = cd_
    intro hcode tb1 tb2 tb3 hcd
    exact ⟨K, KX, Law.law_top (cs := cs_) KX Gn hmg (He.eqO_ok (c.at_ 65 rfl)) tb3 tb2 hcd hF hcode (fun cells => {
      c_GREATEST := globYd (G := (lamG K w (fun i => cs_.getD i 0) Law.qL Pt_ cells Law.spec_law)) (x := "GREATEST") (ks := ["set", "sum", "get", "put", "if", "show"]) (xs := [(.ktup [(.int 7), (.int 255)]), (.ktup [(.int 7), (.int 7), (.int 7), (.int 255)]), (.ktup [(.int 7), (.int 7), (.int 7)]), (.ktup [(.int 7), (.int 7), (.int 7)]), (.ktup [(.int 7), (.int 40)]), (.ktup [(.int 7)])]) KX Gn rfl rfl (c.at_ 17 rfl) (c.keys 0 rfl),
      c_MANY_DIGITS := globY (G := (lamG K w (fun i => cs_.getD i 0) Law.qL Pt_ cells Law.spec_law)) (x := "MANY_DIGITS") (d := k_MANY_DIGITS) KX Gn rfl (c.at_ 18 rfl),
      c_MOST_INSTRUCTIONS := globY (G := (lamG K w (fun i => cs_.getD i 0) Law.qL Pt_ cells Law.spec_law)) (x := "MOST_INSTRUCTIONS") (d := k_MOST_INSTRUCTIONS) KX Gn rfl (c.at_ 19 rfl),
      b_all := He.free_ok KX Gn (c.at_ 20 rfl),
      b_bool := He.free_ok KX Gn (c.at_ 21 rfl),
      em_WindowError := fun e b hb => by
        have hr := Law.sup_WindowError_r hb
        simp only [Law.raisedL, List.mem_cons, List.not_mem_nil, or_false] at hr
        rcases hr with rfl | rfl | rfl
        · cases hb; exact He.exm_ok (c.at_ 22 rfl)
        · cases hb; exact He.exm_ok (c.at_ 23 rfl)
        · cases hb; exact He.exm_ok (c.at_ 24 rfl),
      b_enumerate := He.free_ok KX Gn (c.at_ 25 rfl),
      er_NotText := errY KX Gn (c.at_ 26 rfl) (c.at_ 27 rfl),
      gc_BadProgram := He.glo_ok KX Gn (c.at_ 28 rfl),
      gc_InvalidText := He.glo_ok KX Gn (c.at_ 29 rfl),
      gc_NotText := He.glo_ok KX Gn (c.at_ 26 rfl),
      gc_WindowError := He.glo_ok KX Gn (c.at_ 30 rfl),
      in_BadProgram := iniY (P := (PySem.Challenge.rw_windowbelt_k17_whole_texts_of_programs).prog) (st := (inClass (Law.top 2) 0)) (x := "BadProgram") (nm := "__init__") (qual := "BadProgram.__init__") (file := (PySem.Challenge.rw_windowbelt_k17_whole_texts_of_programs).prog.main.file) (fld := "index") (fld0 := "index") (slf := "self") (y := "index") KX Gn (c.at_ 28 rfl) (c.at_ 32 rfl) (c.at_ 31 rfl) (c.ini 0 rfl) (c.at_ 33 rfl) (c.at_ 34 rfl) (by rfl) (.word (.value (.nil))) (by first | decide | decide +kernel) (fun _ => by rfl) (fun _ => by rfl) (fun _ => by rfl) (fun _ _ _ _ _ _ _ us hl => match us, hl with | [_, _], _ => by rfl) (by rfl) (by rfl) (by first | rfl | simp) (by rfl) (by rfl) (by rfl) (by rfl) (by rfl) (by rfl) (by rfl) (by rfl) (by decide +kernel) (by decide) (by decide) (by decide) (by first | rfl | kernel_rfl | decide +kernel),
      in_InvalidText := iniY (P := (PySem.Challenge.rw_windowbelt_k17_whole_texts_of_programs).prog) (st := (inClass (Law.top 4) 0)) (x := "InvalidText") (nm := "__init__") (qual := "InvalidText.__init__") (file := (PySem.Challenge.rw_windowbelt_k17_whole_texts_of_programs).prog.main.file) (fld := "line") (fld0 := "line") (slf := "self") (y := "line") KX Gn (c.at_ 29 rfl) (c.at_ 36 rfl) (c.at_ 35 rfl) (c.ini 1 rfl) (c.at_ 37 rfl) (c.at_ 38 rfl) (by rfl) (.word (.value (.word (.nil)))) (by first | decide | decide +kernel) (fun _ => by rfl) (fun _ => by rfl) (fun _ => by rfl) (fun _ _ _ _ _ _ _ us hl => match us, hl with | [_, _], _ => by rfl) (by rfl) (by rfl) (by first | rfl | simp) (by rfl) (by rfl) (by rfl) (by rfl) (by rfl) (by rfl) (by rfl) (by rfl) (by decide +kernel) (by decide) (by decide) (by decide) (by first | rfl | kernel_rfl | decide +kernel),
      b_int := He.free_ok KX Gn (c.at_ 39 rfl),
      b_isinstance := He.free_ok KX Gn (c.at_ 40 rfl),
      b_len := He.free_ok KX Gn (c.at_ 41 rfl),
      b_list := He.free_ok KX Gn (c.at_ 42 rfl),
      b_range := He.free_ok KX Gn (c.at_ 43 rfl),
      b_str := He.free_ok KX Gn (c.at_ 44 rfl),
      b_tuple := He.free_ok KX Gn (c.at_ 45 rfl),
      b_zip := He.free_ok KX Gn (c.at_ 46 rfl),
      ex_all := fun e hr => by
        simp only [Law.raisedL, List.mem_cons, List.not_mem_nil, or_false] at hr
        rcases hr with rfl | rfl | rfl
        · exact excY (x := "BadProgram") (c.at_ 47 rfl)
        · exact excY (x := "NotText") (c.at_ 48 rfl)
        · exact excY (x := "InvalidText") (c.at_ 49 rfl),
      nf_index := fun e hr => by
        simp only [Law.raisedL, List.mem_cons, List.not_mem_nil, or_false] at hr
        rcases hr with rfl | rfl | rfl
        · exact He.noat_ok (x := "BadProgram") (f := Str.ofString "index") (c.at_ 50 rfl)
        · exact He.noat_ok (x := "NotText") (f := Str.ofString "index") (c.at_ 51 rfl)
        · exact He.noat_ok (x := "InvalidText") (f := Str.ofString "index") (c.at_ 52 rfl),
      nf_line := fun e hr => by
        simp only [Law.raisedL, List.mem_cons, List.not_mem_nil, or_false] at hr
        rcases hr with rfl | rfl | rfl
        · exact He.noat_ok (x := "BadProgram") (f := Str.ofString "line") (c.at_ 53 rfl)
        · exact He.noat_ok (x := "NotText") (f := Str.ofString "line") (c.at_ 54 rfl)
        · exact He.noat_ok (x := "InvalidText") (f := Str.ofString "line") (c.at_ 55 rfl),
      kit_all := fun e k hr hk => by
        simp only [Law.raisedL, Law.testedL, List.mem_cons, List.not_mem_nil, or_false] at hr hk
        rcases hr with rfl | rfl | rfl <;> rcases hk with rfl | rfl | rfl
        · exact of_decide_eq_true (c.at_ 56 rfl)
        · exact of_decide_eq_true (c.at_ 57 rfl)
        · exact of_decide_eq_true (c.at_ 58 rfl)
        · exact of_decide_eq_true (c.at_ 59 rfl)
        · exact of_decide_eq_true (c.at_ 60 rfl)
        · exact of_decide_eq_true (c.at_ 61 rfl)
        · exact of_decide_eq_true (c.at_ 62 rfl)
        · exact of_decide_eq_true (c.at_ 63 rfl)
        · exact of_decide_eq_true (c.at_ 64 rfl) }) h_is_integer h_check_text h_line_of h_number_told h_lines_of h__law_taken h__law_wrong h_is_from_to h_instruction_told h__law_pick h_is_instruction_among h__law_instruction h_check_program h_read_program h__law_program h_write_program h__law_alike⟩
