import PyProof.Rows.All
import Wide.All
import OpenK.AllK
import Wide.FinOn
import HandS.ForMost
import HandS.Exc
import HandS.TryOnly
import HandS.ExcOwn
import HandS.WordsExc
import HandS.CallSlots
import HandS.IsInst
import HandS.Flow
import HandS.TupAny
import HandS.TupMul
import HandS.WrittenGet
import HandS.Nested
import HandS.Deep
import HandS.Style
import HandS.Zip
import HandS.SetFor
import KE.GoesEnum
import KE.SortData
import HandS.SortInts
import HandS.Conv
import KE.LtData
import HandS.Strs
import HandS.ExcIs
import HandS.ExcField
import HandS.EndTab
import KE.KDflt
import HandS.ExcInit
import HandS.ExcSuper
import KE.KExcSuper
import PyProof.FString2
import KE.RegKSuper
import PySem.Challenge.RW_windowbelt_k03_whole_plain
set_option Elab.async false
set_option linter.all false
set_option maxRecDepth 100000
/-! Dx: values as trees, a heap of numbered objects, deterministic steps; and how they lie over the hand layer. -/
namespace Dx
open PySem PySem.Spec L2

inductive D where
  | non
  | bl (b : Bool)
  | int (i : Int)
  | str (s : String)
  | tup (xs : List D)
  | ref (n : Nat)
  | ktup (xs : List D)
  | clist (xs : List D)
  | slist (ns : List Int)
  | cdict (ks : List String) (xs : List D)
  | clo (n : Nat)
  | exv (a : Nat) (d : Option Nat) (ks : List String) (xs : List D)
  deriving Inhabited

/-- an object: a list; a dict with text or int keys; one with tuple keys; an instance -/
inductive O where
  | lst (xs : List D)
  | dct (kvs : List (Key × D))
  | dtt (kvs : List (List Key × D))
  | obj (c : Nat) (fs : List (String × D))

abbrev Sg := List O
abbrev Ev := List (Option D)

inductive R (α : Type) where
  | ok (a : α) (s : Sg)
  | exc (c : Nat) (fs : List (String × D)) (s : Sg)
  | stuck

/-- what is told of an address beside: closures; the fields of errors (number 0) -/
structure Ci where
  n : Nat
  ks : List Str := []
  vs : List V := []
/-- what stands around: the classes' addresses (by number), the closures' meaning -/
structure Gx where
  K : PySem.W.Frag
  w : World
  cls : Nat → Addr
  clo : Ci → Addr → Hp → Prop
  /-- the tables of code objects -/
  T : List NdefX.NTab := []

def KNo (K : PySem.W.Frag) (w : World) (a : Addr) (ks : List String) : Prop := (a == sysModules) = false ∧ ∀ z : Str, (∀ k ∈ ks, z ≠ Str.ofString k) → KMiss K w a z

mutual
inductive Den (G : Gx) (μ : List Addr) (H : Hp) : D → V → Prop
  | non : Den G μ H .non .non
  | bl (b : Bool) : Den G μ H (.bl b) (.bl b)
  | int (i : Int) : Den G μ H (.int i) (.int i)
  | str (s : String) : Den G μ H (.str s) (.str (Str.ofString s))
  | tup {a : Addr} {xs : List D} {vs : List V} : H a = some (.tup vs) → DenA G μ H xs vs → Den G μ H (.tup xs) (.ref a)
  | ktup {a : Addr} {xs : List D} {vs : List V} : (∀ H', SqT G.K H' a vs) → DenA G μ H xs vs → Den G μ H (.ktup xs) (.ref a)
  | ref {n : Nat} {a : Addr} : μ[n]? = some a → Den G μ H (.ref n) (.ref a)
  | clist {a : Addr} {xs : List D} {vs : List V} : (∃ q, H a = some (.frz q (.lst vs))) → DenA G μ H xs vs → Den G μ H (.clist xs) (.ref a)
  | slist {a : Addr} {ns : List Int} : ((∃ q, H a = some (.frz q (.lst (ns.map V.int)))) ∨ ∀ H', SqL G.K H' a (ns.map V.int)) → Den G μ H (.slist ns) (.ref a)
  | cdict {a : Addr} {ks : List String} {xs : List D} {vs : List V} : KNo G.K G.w a ks → (∀ p ∈ ks.zip vs, KDct G.K G.w a (Str.ofString p.1) p.2) → DenA G μ H xs vs → Den G μ H (.cdict ks xs) (.ref a)
  | clo {n : Nat} {a : Addr} : G.clo { n := n + 1 } a H → Den G μ H (.clo n) (.ref a)
  | exv0 {a : Addr} : Den G μ H (.exv a none [] []) (.ref a)
  | exv {a d : Addr} {ks : List String} {xs : List D} {vs : List V} : G.clo ⟨0, ks.map Str.ofString, vs⟩ d H → DenA G μ H xs vs → Den G μ H (.exv a (some d) ks xs) (.ref a)
inductive DenA (G : Gx) (μ : List Addr) (H : Hp) : List D → List V → Prop
  | nil : DenA G μ H [] []
  | cons {d : D} {ds : List D} {v : V} {vs : List V} : Den G μ H d v → DenA G μ H ds vs → DenA G μ H (d :: ds) (v :: vs)
end

/-- fields, pairs -/
def DenF (G : Gx) (μ : List Addr) (H : Hp) (fs : List (String × D)) (gs : List (Str × V)) : Prop :=
  gs.map (·.1) = fs.map (fun p => Str.ofString p.1) ∧ DenA G μ H (fs.map (·.2)) (gs.map (·.2))
def DenK {κ : Type} (G : Gx) (μ : List Addr) (H : Hp) (fs : List (κ × D)) (gs : List (κ × V)) : Prop :=
  gs.map (·.1) = fs.map (·.1) ∧ DenA G μ H (fs.map (·.2)) (gs.map (·.2))

def RepO (G : Gx) (μ : List Addr) (H : Hp) (a : Addr) : O → Prop
  | .lst xs => ∃ vs, H a = some (.lst vs) ∧ DenA G μ H xs vs
  | .dct kvs => ∃ gs, H a = some (.dK gs) ∧ DenK G μ H kvs gs
  | .dtt kvs => ∃ gs, H a = some (.dT gs) ∧ DenK G μ H kvs gs
  | .obj c fs => ∃ dx gs, H a = some (.ins (G.cls c) dx gs) ∧ DenF G μ H fs gs
structure Rep (G : Gx) (μ : List Addr) (S : Sg) (H : Hp) : Prop where
  len : μ.length = S.length
  nd : ∀ (i j : Nat) (a : Addr), μ[i]? = some a → μ[j]? = some a → i = j
  at_ : ∀ (n : Nat) (o : O) (a : Addr), S[n]? = some o → μ[n]? = some a → RepO G μ H a o
  tabs : NdefX.TabsN G.T H

/-- what is told of values stays -/
structure Per (G : Gx) (μ : List Addr) (H : Hp) (μ' : List Addr) (H' : Hp) : Prop where
  ext : ∀ (n : Nat) (a : Addr), μ[n]? = some a → μ'[n]? = some a
  tup : ∀ (a : Addr) (xs : List V), H a = some (.tup xs) → H' a = some (.tup xs)
  frz : ∀ (a : Addr) (q : Obj) (u : HO), H a = some (.frz q u) → H' a = some (.frz q u)
  clo : ∀ (n : Ci) (a : Addr), G.clo n a H → G.clo n a H'
  /-- what is tracked without a number stays so -/
  fr : ∀ (a : Addr) (u : HO), H a = some u → (∀ ps, u ≠ .tbl ps) → (∀ n : Nat, μ[n]? ≠ some a) → H' a = some u ∧ ∀ n : Nat, μ'[n]? ≠ some a

section
variable {G : Gx} {μ μ' μ1 μ2 : List Addr} {H H' H1 H2 : Hp}
theorem Per.refl : Per G μ H μ H := ⟨fun _ _ h => h, fun _ _ h => h, fun _ _ _ h => h, fun _ _ h => h, fun _ _ h _ k => ⟨h, k⟩⟩
theorem Per.trans (p : Per G μ H μ1 H1) (q : Per G μ1 H1 μ2 H2) : Per G μ H μ2 H2 :=
  ⟨fun n a h => q.ext n a (p.ext n a h), fun a xs h => q.tup a xs (p.tup a xs h), fun a o u h => q.frz a o u (p.frz a o u h), fun n a h => q.clo n a (p.clo n a h), fun a u h t k => let ⟨h1, k1⟩ := p.fr a u h t k; q.fr a u h1 t k1⟩
mutual
theorem Den.per (p : Per G μ H μ' H') : ∀ {d : D} {v : V}, Den G μ H d v → Den G μ' H' d v
  | _, _, .non => .non
  | _, _, .bl b => .bl b
  | _, _, .int i => .int i
  | _, _, .str s => .str s
  | _, _, .tup h1 h2 => .tup (p.tup _ _ h1) (DenA.per p h2)
  | _, _, .ktup h1 h2 => .ktup h1 (DenA.per p h2)
  | _, _, .ref h => .ref (p.ext _ _ h)
  | _, _, .clist h1 h2 => .clist (let ⟨q, e⟩ := h1; ⟨q, p.frz _ _ _ e⟩) (DenA.per p h2)
  | _, _, .slist h1 => .slist (h1.imp (fun ⟨q, e⟩ => ⟨q, p.frz _ _ _ e⟩) id)
  | _, _, .cdict h0 h1 h2 => .cdict h0 h1 (DenA.per p h2)
  | _, _, .clo h => .clo (p.clo _ _ h)
  | _, _, .exv0 => .exv0
  | _, _, .exv h1 h2 => .exv (p.clo _ _ h1) (DenA.per p h2)
theorem DenA.per (p : Per G μ H μ' H') : ∀ {ds : List D} {vs : List V}, DenA G μ H ds vs → DenA G μ' H' ds vs
  | _, _, .nil => .nil
  | _, _, .cons h t => .cons (Den.per p h) (DenA.per p t)
end
mutual
theorem Den.up (p : ∀ (n : Nat) (a : Addr), μ[n]? = some a → μ'[n]? = some a) : ∀ {d : D} {v : V}, Den G μ H d v → Den G μ' H d v
  | _, _, .non => .non
  | _, _, .bl b => .bl b
  | _, _, .int i => .int i
  | _, _, .str s => .str s
  | _, _, .tup h1 h2 => .tup h1 (DenA.up p h2)
  | _, _, .ktup h1 h2 => .ktup h1 (DenA.up p h2)
  | _, _, .ref h => .ref (p _ _ h)
  | _, _, .clist h1 h2 => .clist h1 (DenA.up p h2)
  | _, _, .slist h1 => .slist h1
  | _, _, .cdict h0 h1 h2 => .cdict h0 h1 (DenA.up p h2)
  | _, _, .clo h => .clo h
  | _, _, .exv0 => .exv0
  | _, _, .exv h1 h2 => .exv h1 (DenA.up p h2)
theorem DenA.up (p : ∀ (n : Nat) (a : Addr), μ[n]? = some a → μ'[n]? = some a) : ∀ {ds : List D} {vs : List V}, DenA G μ H ds vs → DenA G μ' H ds vs
  | _, _, .nil => .nil
  | _, _, .cons h t => .cons (Den.up p h) (DenA.up p t)
end
mutual
theorem Den.heap (p : ∀ (a : Addr) (xs : List V), H a = some (.tup xs) → H' a = some (.tup xs)) (f : ∀ (a : Addr) (z : Obj) (u : HO), H a = some (.frz z u) → H' a = some (.frz z u)) (q : ∀ (n : Ci) (a : Addr), G.clo n a H → G.clo n a H') : ∀ {d : D} {v : V}, Den G μ H d v → Den G μ H' d v
  | _, _, .non => .non
  | _, _, .bl b => .bl b
  | _, _, .int i => .int i
  | _, _, .str s => .str s
  | _, _, .tup h1 h2 => .tup (p _ _ h1) (DenA.heap p f q h2)
  | _, _, .ktup h1 h2 => .ktup h1 (DenA.heap p f q h2)
  | _, _, .ref h => .ref h
  | _, _, .clist h1 h2 => .clist (let ⟨z, e⟩ := h1; ⟨z, f _ _ _ e⟩) (DenA.heap p f q h2)
  | _, _, .slist h1 => .slist (h1.imp (fun ⟨z, e⟩ => ⟨z, f _ _ _ e⟩) id)
  | _, _, .cdict h0 h1 h2 => .cdict h0 h1 (DenA.heap p f q h2)
  | _, _, .clo h => .clo (q _ _ h)
  | _, _, .exv0 => .exv0
  | _, _, .exv h1 h2 => .exv (q _ _ h1) (DenA.heap p f q h2)
theorem DenA.heap (p : ∀ (a : Addr) (xs : List V), H a = some (.tup xs) → H' a = some (.tup xs)) (f : ∀ (a : Addr) (z : Obj) (u : HO), H a = some (.frz z u) → H' a = some (.frz z u)) (q : ∀ (n : Ci) (a : Addr), G.clo n a H → G.clo n a H') : ∀ {ds : List D} {vs : List V}, DenA G μ H ds vs → DenA G μ H' ds vs
  | _, _, .nil => .nil
  | _, _, .cons h t => .cons (Den.heap p f q h) (DenA.heap p f q t)
end
theorem DenF.per (p : Per G μ H μ' H') {fs : List (String × D)} {gs : List (Str × V)} (h : DenF G μ H fs gs) : DenF G μ' H' fs gs := ⟨h.1, h.2.per p⟩
theorem DenK.per {κ : Type} (p : Per G μ H μ' H') {fs : List (κ × D)} {gs : List (κ × V)} (h : DenK G μ H fs gs) : DenK G μ' H' fs gs := ⟨h.1, h.2.per p⟩
theorem DenA.length : ∀ {ds : List D} {vs : List V}, DenA G μ H ds vs → ds.length = vs.length
  | _, _, .nil => rfl
  | _, _, .cons _ t => congrArg (· + 1) t.length
theorem DenA.get : ∀ {ds : List D} {vs : List V} {i : Nat} {d : D}, DenA G μ H ds vs → ds[i]? = some d → ∃ v, vs[i]? = some v ∧ Den G μ H d v
  | _, _, _, _, .nil, e => by simp at e
  | _, _, 0, _, .cons h _, e => by simp at e; subst e; exact ⟨_, rfl, h⟩
  | _, _, i + 1, _, .cons _ t, e => by
    obtain ⟨v, e1, h1⟩ := t.get (i := i) (by simpa using e)
    exact ⟨v, by simpa using e1, h1⟩
theorem DenA.getV : ∀ {ds : List D} {vs : List V} {i : Nat} {v : V}, DenA G μ H ds vs → vs[i]? = some v → ∃ d, ds[i]? = some d ∧ Den G μ H d v
  | _, _, _, _, .nil, e => by simp at e
  | _, _, 0, _, .cons h _, e => by simp at e; subst e; exact ⟨_, rfl, h⟩
  | _, _, i + 1, _, .cons _ t, e => by
    obtain ⟨v, e1, h1⟩ := t.getV (i := i) (by simpa using e)
    exact ⟨v, by simpa using e1, h1⟩
theorem DenA.append : ∀ {ds es : List D} {vs us : List V}, DenA G μ H ds vs → DenA G μ H es us → DenA G μ H (ds ++ es) (vs ++ us)
  | _, _, _, _, .nil, s => s
  | _, _, _, _, .cons h t, s => .cons h (t.append s)
theorem DenA.take : ∀ {ds : List D} {vs : List V} (n : Nat), DenA G μ H ds vs → DenA G μ H (ds.take n) (vs.take n)
  | _, _, 0, _ => .nil
  | _, _, _ + 1, .nil => .nil
  | _, _, n + 1, .cons h t => .cons h (t.take n)
theorem DenA.drop : ∀ {ds : List D} {vs : List V} (n : Nat), DenA G μ H ds vs → DenA G μ H (ds.drop n) (vs.drop n)
  | _, _, 0, h => h
  | _, _, _ + 1, .nil => .nil
  | _, _, n + 1, .cons _ t => t.drop n
theorem DenA.set {d : D} {v : V} (h : Den G μ H d v) : ∀ {ds : List D} {vs : List V} (n : Nat), DenA G μ H ds vs → DenA G μ H (ds.set n d) (vs.set n v)
  | _, _, _, .nil => .nil
  | _, _, 0, .cons _ t => .cons h t
  | _, _, n + 1, .cons g t => .cons g (DenA.set h n t)
theorem DenA.snoc {ds : List D} {vs : List V} {d : D} {v : V} (h : DenA G μ H ds vs) (g : Den G μ H d v) : DenA G μ H (ds ++ [d]) (vs ++ [v]) := h.append (.cons g .nil)

theorem RepO.per (p : Per G μ H μ' H') {a : Addr} : ∀ {o : O}, H' a = H a → RepO G μ H a o → RepO G μ' H' a o
  | .lst _, same, ⟨vs, h, d⟩ => ⟨vs, same.trans h, d.per p⟩
  | .dct _, same, ⟨gs, h, d⟩ => ⟨gs, same.trans h, d.per p⟩
  | .dtt _, same, ⟨gs, h, d⟩ => ⟨gs, same.trans h, d.per p⟩
  | .obj _ _, same, ⟨dx, gs, h, d⟩ => ⟨dx, gs, same.trans h, d.per p⟩
theorem RepO.up (p : ∀ (n : Nat) (a : Addr), μ[n]? = some a → μ'[n]? = some a) {a : Addr} : ∀ {o : O}, RepO G μ H a o → RepO G μ' H a o
  | .lst _, ⟨vs, h, d⟩ => ⟨vs, h, d.up p⟩
  | .dct _, ⟨gs, h, d⟩ => ⟨gs, h, d.1, d.2.up p⟩
  | .dtt _, ⟨gs, h, d⟩ => ⟨gs, h, d.1, d.2.up p⟩
  | .obj _ _, ⟨dx, gs, h, d⟩ => ⟨dx, gs, h, d.1, d.2.up p⟩
theorem RepO.heap {a : Addr} : ∀ {o : O}, H' a = H a → (∀ (a : Addr) (q : Obj) (u : HO), H a = some (.frz q u) → H' a = some (.frz q u)) → (∀ (a : Addr) (xs : List V), H a = some (.tup xs) → H' a = some (.tup xs)) → (∀ (n : Ci) (a : Addr), G.clo n a H → G.clo n a H') → RepO G μ H a o → RepO G μ H' a o
  | .lst _, same, f, p, q, ⟨vs, h, d⟩ => ⟨vs, same.trans h, d.heap p f q⟩
  | .dct _, same, f, p, q, ⟨gs, h, d⟩ => ⟨gs, same.trans h, d.1, d.2.heap p f q⟩
  | .dtt _, same, f, p, q, ⟨gs, h, d⟩ => ⟨gs, same.trans h, d.1, d.2.heap p f q⟩
  | .obj _ _, same, f, p, q, ⟨dx, gs, h, d⟩ => ⟨dx, gs, same.trans h, d.1, d.2.heap p f q⟩
theorem RepO.some {a : Addr} : ∀ {o : O}, RepO G μ H a o → ∃ u, H a = some u ∧ Mut (some u) ∧ ∀ φ, u ≠ .ext φ
  | .lst _, ⟨vs, h, _⟩ => ⟨_, h, trivial, fun _ z => nomatch z⟩
  | .dct _, ⟨gs, h, _⟩ => ⟨_, h, trivial, fun _ z => nomatch z⟩
  | .dtt _, ⟨gs, h, _⟩ => ⟨_, h, trivial, fun _ z => nomatch z⟩
  | .obj _ _, ⟨dx, gs, h, _⟩ => ⟨_, h, trivial, fun _ z => nomatch z⟩
theorem mut_tbl {ps : Array Value} : ¬ Mut (some (.tbl ps)) := fun z => z
/-- tables stay where something is laid, or an object of ours is changed -/
theorem tabs_new {T : List NdefX.NTab} {p : Addr} {u : HO} (h : NdefX.TabsN T H) (hp : H p = none) : NdefX.TabsN T (upd H p u) := h.ext fun b o e => by rw [upd_ne (ne_of_none e hp)]; exact e
theorem tabs_mut {T : List NdefX.NTab} {p : Addr} {o o' : HO} (h : NdefX.TabsN T H) (hp : H p = some o) (m : Mut (some o)) (ne : ∀ φ, o ≠ .ext φ) : NdefX.TabsN T (upd H p o') := fun q hq => by
  obtain ⟨ps, h1, h2, h3⟩ := h q hq
  refine ⟨ps, ?_, h2, fun pos cv hc => ?_⟩
  · rw [upd_ne fun z => ?_]
    · exact h1
    · rw [z, hp] at h1
      cases h1
      exact mut_tbl m
  · obtain ⟨c, e1, e2⟩ := h3 pos cv hc
    refine ⟨c, e1, ?_⟩
    rw [upd_ne fun z => ?_]
    · exact e2
    · rw [z, hp] at e2
      cases e2
      exact ne _ rfl
theorem Rep.addr {S : Sg} (r : Rep G μ S H) {n : Nat} {o : O} (h : S[n]? = some o) : ∃ a, μ[n]? = some a ∧ RepO G μ H a o := by
  have hl : n < μ.length := by rw [r.len]; exact (List.getElem?_eq_some_iff.mp h).1
  exact ⟨μ[n], by simp [hl], r.at_ n _ _ h (by simp [hl])⟩
theorem Rep.there {S : Sg} (r : Rep G μ S H) {n : Nat} {a : Addr} (h : μ[n]? = some a) : ∃ o, S[n]? = some o ∧ RepO G μ H a o := by
  have hl : n < S.length := by rw [← r.len]; exact (List.getElem?_eq_some_iff.mp h).1
  exact ⟨S[n], by simp [hl], r.at_ n _ a (by simp [hl]) h⟩
/-- the number's object -/
theorem Rep.obj {S : Sg} (r : Rep G μ S H) {n : Nat} {a : Addr} {o : O} (h : μ[n]? = some a) (e : S[n]? = some o) : RepO G μ H a o := r.at_ n o a e h
end
/-- closures' meaning stays when the heap grows by a new object, or an object of ours is changed -/
structure Gx.Ok (G : Gx) : Prop where
  clo_new : ∀ n a H p o, H p = none → G.clo n a H → G.clo n a (upd H p o)
  xd : ∀ ks vs d H, G.clo ⟨0, ks, vs⟩ d H ↔ ∃ gs, H d = some (.xd gs) ∧ gs.map (·.1) = ks ∧ gs.map (·.2) = vs
  clo_mut : ∀ n a H p o o', H p = some o → Mut (some o) → (∀ φ, o ≠ .ext φ) → G.clo n a H → G.clo n a (upd H p o')
section
variable {G : Gx} {μ μ' μ1 μ2 : List Addr} {H H' H1 H2 : Hp} {S : Sg}
theorem per_push (g : G.Ok) {p : Addr} {o : HO} (hp : H p = none) : Per G μ H (μ ++ [p]) (upd H p o) :=
  ⟨fun n a h => by rw [List.getElem?_append_left (List.getElem?_eq_some_iff.mp h).1]; exact h, fun a xs h => by rw [upd_ne (ne_of_none h hp)]; exact h, fun a q u h => by rw [upd_ne (ne_of_none h hp)]; exact h, fun n a h => g.clo_new n a H p o hp h,
    fun a u h _ k => ⟨by rw [upd_ne (ne_of_none h hp)]; exact h, fun n z => by
      by_cases hn : n < μ.length
      · rw [List.getElem?_append_left hn] at z
        exact k n z
      · rw [List.getElem?_append_right (by omega)] at z
        have := List.mem_of_getElem? z
        have e : a = p := by simpa using this
        rw [e, hp] at h
        cases h⟩⟩
theorem per_new (g : G.Ok) {p : Addr} {o : HO} (hp : H p = none) : Per G μ H μ (upd H p o) :=
  ⟨fun n a h => h, fun a xs h => by rw [upd_ne (ne_of_none h hp)]; exact h, fun a q u h => by rw [upd_ne (ne_of_none h hp)]; exact h, fun n a h => g.clo_new n a H p o hp h,
    fun a u h _ k => ⟨by rw [upd_ne (ne_of_none h hp)]; exact h, k⟩⟩
theorem per_mut (g : G.Ok) {n : Nat} {p : Addr} {o o' : HO} (hn : μ[n]? = some p) (hp : H p = some o) (m : Mut (some o)) (ne : ∀ φ, o ≠ .ext φ) : Per G μ H μ (upd H p o') :=
  ⟨fun _ _ h => h, fun a xs h => by rw [upd_ne (ne_of h hp (by rintro rfl; exact m))]; exact h, fun a q u h => by rw [upd_ne (ne_of h hp (by rintro rfl; exact m))]; exact h, fun n a h => g.clo_mut n a H p o o' hp m ne h,
    fun a u h _ k => ⟨by rw [upd_ne (fun e => k n (by rw [hn, e]))]; exact h, k⟩⟩
/-- something is laid that no number bears (a tuple) -/
theorem Rep.new (r : Rep G μ S H) (g : G.Ok) {p : Addr} {u : HO} (hp : H p = none) : Rep G μ S (upd H p u) :=
  ⟨r.len, r.nd, fun n o a h1 h2 => (r.at_ n o a h1 h2).per (per_new g hp) (by
    obtain ⟨w, e, _⟩ := (r.at_ n o a h1 h2).some
    exact upd_ne (ne_of_none e hp)), tabs_new r.tabs hp⟩
theorem snoc_old {α β : Type} {l : List α} {m : List β} {x : α} {y : β} (e : m.length = l.length) {n : Nat} {q : α} {a : β} (h1 : (l ++ [x])[n]? = some q) (h2 : (m ++ [y])[n]? = some a) : (l[n]? = some q ∧ m[n]? = some a) ∨ (n = l.length ∧ q = x ∧ a = y) := by
  by_cases hn : n < l.length
  · rw [List.getElem?_append_left hn] at h1
    rw [List.getElem?_append_left (by omega)] at h2
    exact .inl ⟨h1, h2⟩
  · have hn' : n = l.length := by
      have := (List.getElem?_eq_some_iff.mp h1).1
      simp at this
      omega
    subst hn'
    rw [List.getElem?_append_right (Nat.le_refl _)] at h1
    rw [List.getElem?_append_right (by omega), e] at h2
    simp at h1 h2
    exact .inr ⟨rfl, h1.symm, h2.symm⟩
theorem snoc_old1 {β : Type} {m : List β} {y : β} {n : Nat} {a : β} (h2 : (m ++ [y])[n]? = some a) : m[n]? = some a ∨ (n = m.length ∧ a = y) := by
  by_cases hn : n < m.length
  · rw [List.getElem?_append_left hn] at h2
    exact .inl h2
  · have hn' : n = m.length := by
      have := (List.getElem?_eq_some_iff.mp h2).1
      simp at this
      omega
    subst hn'
    rw [List.getElem?_append_right (Nat.le_refl _)] at h2
    simp at h2
    exact .inr ⟨rfl, h2.symm⟩
/-- an object is laid, and gets the next number -/
theorem Rep.push (r : Rep G μ S H) (g : G.Ok) {p : Addr} {u : HO} {o : O} (hp : H p = none) (new : RepO G (μ ++ [p]) (upd H p u) p o) : Rep G (μ ++ [p]) (S ++ [o]) (upd H p u) := by
  have per : Per G μ H (μ ++ [p]) (upd H p u) := per_push g hp
  have no : ∀ {n : Nat}, μ[n]? ≠ some p := fun {n} h => by
    obtain ⟨q, _, ro⟩ := r.there h
    obtain ⟨w, e, _⟩ := ro.some
    rw [hp] at e; cases e
  refine ⟨by simp [r.len], fun i j a h3 h4 => ?_, fun n q a h1 h2 => ?_, tabs_new r.tabs hp⟩
  · rcases snoc_old1 h3 with a2 | ⟨a1, a3⟩
    · rcases snoc_old1 h4 with b2 | ⟨b1, b3⟩
      · exact r.nd i j a a2 b2
      · exact absurd (b3 ▸ a2) no
    · rcases snoc_old1 h4 with b2 | ⟨b1, b3⟩
      · exact absurd (a3 ▸ b2) no
      · rw [a1, b1]
  · rcases snoc_old r.len h1 h2 with ⟨a1, a2⟩ | ⟨a1, a2, a3⟩
    · obtain ⟨w, e, _⟩ := (r.at_ n q a a1 a2).some
      exact (r.at_ n q a a1 a2).per per (upd_ne (ne_of_none e hp))
    · subst a2 a3; exact new
/-- what is tracked already gets a number -/
theorem Rep.adopt (r : Rep G μ S H) {p : Addr} {o : O} (hf : ∀ n : Nat, μ[n]? ≠ some p) (new : ∀ μ', (∀ (n : Nat) (a : Addr), μ[n]? = some a → μ'[n]? = some a) → RepO G μ' H p o) : Rep G (μ ++ [p]) (S ++ [o]) H := by
  have ex : ∀ (n : Nat) (a : Addr), μ[n]? = some a → (μ ++ [p])[n]? = some a := fun n a h => by rw [List.getElem?_append_left (List.getElem?_eq_some_iff.mp h).1]; exact h
  refine ⟨by simp [r.len], fun i j a h3 h4 => ?_, fun n q a h1 h2 => ?_, r.tabs⟩
  · rcases snoc_old1 h3 with a2 | ⟨a1, a3⟩
    · rcases snoc_old1 h4 with b2 | ⟨b1, b3⟩
      · exact r.nd i j a a2 b2
      · exact absurd (b3 ▸ a2) (hf i)
    · rcases snoc_old1 h4 with b2 | ⟨b1, b3⟩
      · exact absurd (a3 ▸ b2) (hf j)
      · rw [a1, b1]
  · rcases snoc_old r.len h1 h2 with ⟨a1, a2⟩ | ⟨a1, a2, a3⟩
    · exact RepO.up ex (r.at_ n q a a1 a2)
    · subst a2 a3; exact new _ ex
/-- a number's object is changed -/
theorem Rep.write (r : Rep G μ S H) (g : G.Ok) {n : Nat} {p : Addr} {u : HO} {o o' : O} (hn : μ[n]? = some p) (ho : S[n]? = some o) (new : ∀ H', Per G μ H μ H' → H' p = some u → RepO G μ H' p o') :
    Rep G μ (S.set n o') (upd H p u) ∧ Per G μ H μ (upd H p u) := by
  obtain ⟨w, e, m, ne⟩ := (r.at_ n o p ho hn).some
  have per : Per G μ H μ (upd H p u) := per_mut g hn e m ne
  refine ⟨⟨by simp [r.len], r.nd, fun k q a h1 h2 => ?_, tabs_mut r.tabs e m ne⟩, per⟩
  by_cases hk : k = n
  · subst hk
    rw [List.getElem?_set_self (List.getElem?_eq_some_iff.mp ho).1] at h1
    cases h1
    rw [hn] at h2
    cases h2
    exact new _ per upd_same
  · rw [List.getElem?_set_ne (Ne.symm hk)] at h1
    exact (r.at_ k q a h1 h2).per per (upd_ne fun e2 => hk (r.nd k n a h2 (by rw [e2]; exact hn)))
end
end Dx

/-! Dx1: the readings of deterministic steps; expressions. -/
namespace Dx
open PySem PySem.Spec L2

def R.bind {α β : Type} (r : R α) (f : α → Sg → R β) : R β := match r with
  | .ok a s => f a s
  | .exc c fs s => .exc c fs s
  | .stuck => .stuck

structure EnvD (G : Gx) (μ : List Addr) (H : Hp) (ρ : Ev) (σ : St) : Prop where
  len : ρ.length = σ.length
  at_ : ∀ (i : Nat) (d : D), ρ[i]? = some (some d) → ∃ v, σ[i]? = some (some v) ∧ Den G μ H d v
def ExcD (G : Gx) (μ : List Addr) (H : Hp) (c : Nat) (fs : List (String × D)) (cls : Value) (dd : Option Addr) : Prop :=
  cls = .ref (G.cls c) ∧ ((fs = [] ∧ dd = none) ∨ (fs ≠ [] ∧ ∃ d gs, dd = some d ∧ H d = some (.xd gs) ∧ DenF G μ H fs gs))

abbrev Rel (α β : Type) := List Addr → Hp → α → β → Prop
/-- what is wanted behind a step -/
def Post {α β : Type} (rel : Rel α β) (G : Gx) (W : WX) (μ : List Addr) (H : Hp) (σ : St) (r : R α) (Q : β → Hp → Prop) : Prop := match r with
  | .ok a S' => ∀ μ' H' b, Per G μ H μ' H' → Rep G μ' S' H' → rel μ' H' a b → Q b H'
  | .exc c fs S' => ∀ μ' H' cls dd, Per G μ H μ' H' → Rep G μ' S' H' → ExcD G μ' H' c fs cls dd → W cls dd σ H'
  | .stuck => False

section
variable {G : Gx} {W : WX} {μ μ' μ1 : List Addr} {H H' H1 : Hp} {σ : St} {ρ : Ev} {S : Sg} {α β γ δ : Type} {rel : Rel α β} {rel' : Rel γ δ}
theorem EnvD.per (e : EnvD G μ H ρ σ) (p : Per G μ H μ1 H1) : EnvD G μ1 H1 ρ σ := ⟨e.len, fun i d h => let ⟨v, h1, h2⟩ := e.at_ i d h; ⟨v, h1, h2.per p⟩⟩
theorem EnvD.set (e : EnvD G μ H ρ σ) {i : Nat} {d : D} {v : V} (h : Den G μ H d v) : EnvD G μ H (ρ.set i (some d)) (σ.set i (some v)) := by
  refine ⟨by simp [e.len], fun j d' h' => ?_⟩
  by_cases hj : j = i
  · subst hj
    by_cases hl : j < ρ.length
    · rw [List.getElem?_set_self hl] at h'
      cases h'
      exact ⟨v, List.getElem?_set_self (by rw [← e.len]; exact hl), h⟩
    · rw [List.getElem?_eq_none (by simp; omega)] at h'
      cases h'
  · rw [List.getElem?_set_ne (Ne.symm hj)] at h' ⊢
    exact e.at_ j d' h'
theorem ExcD.per {c : Nat} {fs : List (String × D)} {cls : Value} {dd : Option Addr} (e : ExcD G μ H c fs cls dd) (p : Per G μ H μ1 H1) (k : ∀ d gs, H d = some (.xd gs) → H1 d = some (.xd gs)) : ExcD G μ1 H1 c fs cls dd :=
  ⟨e.1, e.2.imp id fun ⟨n, d, gs, a, b, h⟩ => ⟨n, d, gs, a, k _ _ b, h.per p⟩⟩
theorem Post.per {r : R α} {Q : β → Hp → Prop} (h : Post rel G W μ H σ r Q) (p : Per G μ H μ1 H1) : Post rel G W μ1 H1 σ r Q := by
  cases r with
  | ok a S' => exact fun μ' H' b q => h μ' H' b (p.trans q)
  | exc c fs S' => exact fun μ' H' cls dd q => h μ' H' cls dd (p.trans q)
  | stuck => exact h
theorem Post.mono {r : R α} {Q Q' : β → Hp → Prop} (h : Post rel G W μ H σ r Q) (k : ∀ b H', Q b H' → Q' b H') : Post rel G W μ H σ r Q' := by
  cases r with
  | ok a S' => exact fun μ' H' b p q d => k _ _ (h μ' H' b p q d)
  | exc c fs S' => exact h
  | stuck => exact h
/-- the answer at once -/
theorem Post.now {a : α} {b : β} {Q : β → Hp → Prop} (h : Post rel G W μ H σ (.ok a S) Q) {μ' : List Addr} {H' : Hp} (p : Per G μ H μ' H') (r : Rep G μ' S H') (d : rel μ' H' a b) : Q b H' := h _ _ _ p r d
theorem post_bind {r : R α} {f : α → Sg → R γ} {Q : δ → Hp → Prop} (h : Post rel' G W μ H σ (r.bind f) Q) :
    Post rel G W μ H σ r fun b H1 => ∃ μ1 a S1, Per G μ H μ1 H1 ∧ Rep G μ1 S1 H1 ∧ rel μ1 H1 a b ∧ Post rel' G W μ1 H1 σ (f a S1) Q := by
  cases r with
  | ok a S' => exact fun μ' H' b p q d => ⟨μ', a, S', p, q, d, Post.per (r := f a S') h p⟩
  | exc c fs S' => exact h
  | stuck => exact h
end

/-! ### readings -/
abbrev FE := Ev → Sg → R D
abbrev FA := Ev → Sg → R (List D)
abbrev FT := Ev → Sg → R Bool
abbrev FO := Ev → Sg → R (Option Int)
def TDg {α β : Type} (rel : Rel α β) (G : Gx) (W : WX) (f : Ev → Sg → R α) (σ : St) (H : Hp) (Q : β → Hp → Prop) : Prop :=
  ∃ μ ρ S, EnvD G μ H ρ σ ∧ Rep G μ S H ∧ Post rel G W μ H σ (f ρ S) Q
abbrev relB : Rel Bool Bool := fun _ _ a b => a = b
abbrev relO : Rel (Option Int) (Option Int) := fun _ _ a b => a = b
abbrev TD (G : Gx) (W : WX) (f : FE) : TE := TDg (Den G) G W f
abbrev TDA (G : Gx) (W : WX) (f : FA) : TA := TDg (DenA G) G W f
abbrev TDT (G : Gx) (W : WX) (f : FT) : TT := TDg relB G W f
abbrev TDO (G : Gx) (W : WX) (f : FO) : TO := TDg relO G W f

/-- where one stands -/
structure Amb (G : Gx) (X : Cx) (W : WX) : Prop where
  hK : X.K = G.K
  hw : X.w = G.w
  ok : G.Ok
  tk : Takes X W
  hu : X.A.units + 65 < cLine
  po : PassesOwn (model X.prog X.w) X.A X.env X.xe

theorem PE.imp {X : Cx} {e : Expr} {t t' : TE} (h : PE X e t) (k : ∀ σ H Q, t' σ H Q → t σ H Q) : PE X e t' := ⟨fun pins s σ H Q I q => h.run pins s σ H Q I (k _ _ _ q)⟩
theorem PT.imp {X : Cx} {e : Expr} {t t' : TT} (h : PT X e t) (k : ∀ σ H Q, t' σ H Q → t σ H Q) : PT X e t' := ⟨fun pins s σ H Q I q => h.run pins s σ H Q I (k _ _ _ q)⟩
theorem PW.imp {X : Cx} {e : Expr} {t t' : TT} (h : PW X e t) (k : ∀ σ H Q, t' σ H Q → t σ H Q) : PW X e t' := ⟨fun wh pins s σ H Q I q => h.run wh pins s σ H Q I (k _ _ _ q)⟩
theorem PA.imp {X : Cx} {e : List Expr} {t t' : TA} (h : PA X e t) (k : ∀ σ H Q, t' σ H Q → t σ H Q) : PA X e t' := ⟨fun pos pins s σ H Q I q => h.run pos pins s σ H Q I (k _ _ _ q)⟩
theorem PO.imp {X : Cx} {e : Option Expr} {t t' : TO} (h : PO X e t) (k : ∀ σ H Q, t' σ H Q → t σ H Q) : PO X e t' := by
  obtain ⟨r⟩ := h
  exact ⟨by intros; apply r <;> first | assumption | (apply k; assumption)⟩
theorem PS.imp {X : Cx} {e : Stmt} {t t' : TS} (h : PS X e t) (k : ∀ D σ H, t' D σ H → t D σ H) : PS X e t' := ⟨fun pins s σ H D I q => h.run pins s σ H D I (k _ _ _ q)⟩
theorem PSs.imp {X : Cx} {e : List Stmt} {t t' : TS} (h : PSs X e t) (k : ∀ D σ H, t' D σ H → t D σ H) : PSs X e t' := ⟨fun pins s σ H D I q => h.run pins s σ H D I (k _ _ _ q)⟩

section
variable {G : Gx} {W : WX} {α β γ δ ε ζ : Type} {rel : Rel α β} {rel' : Rel γ δ} {rel2 : Rel ε ζ}
/-- the first part, then the rest -/
theorem tdg_bind {f : Ev → Sg → R α} {k : Ev → α → Sg → R γ} {σ : St} {H : Hp} {Q : δ → Hp → Prop} (h : TDg rel' G W (fun ρ S => (f ρ S).bind (k ρ)) σ H Q) :
    TDg rel G W f σ H fun b H1 => ∃ μ ρ a S, EnvD G μ H1 ρ σ ∧ Rep G μ S H1 ∧ rel μ H1 a b ∧ Post rel' G W μ H1 σ (k ρ a S) Q := by
  obtain ⟨μ, ρ, S, en, rp, p⟩ := h
  exact ⟨μ, ρ, S, en, rp, (post_bind p).mono fun b H1 ⟨μ1, a, S1, pe, r1, d, q⟩ => ⟨μ1, ρ, a, S1, en.per pe, r1, d, q⟩⟩
/-- two parts, then the rest -/
theorem tdg_bind2 (pr : ∀ μ H μ' H' a b, Per G μ H μ' H' → rel μ H a b → rel μ' H' a b) {f : Ev → Sg → R α} {g : Ev → Sg → R ε} {k : Ev → α → ε → Sg → R γ} {σ : St} {H : Hp} {Q : δ → Hp → Prop} (h : TDg rel' G W (fun ρ S => (f ρ S).bind fun a S1 => (g ρ S1).bind fun c S2 => k ρ a c S2) σ H Q) :
    TDg rel G W f σ H fun b H1 => TDg rel2 G W g σ H1 fun d H2 => ∃ μ ρ a c S, EnvD G μ H2 ρ σ ∧ Rep G μ S H2 ∧ rel μ H2 a b ∧ rel2 μ H2 c d ∧ Post rel' G W μ H2 σ (k ρ a c S) Q := by
  obtain ⟨μ, ρ, S, en, rp, p⟩ := h
  refine ⟨μ, ρ, S, en, rp, (post_bind p).mono fun b H1 ⟨μ1, a, S1, pe, r1, d, q⟩ => ?_⟩
  exact ⟨μ1, ρ, S1, en.per pe, r1, (post_bind q).mono fun b' H2 ⟨μ2, c, S2, pe2, r2, d2, q2⟩ => ⟨μ2, ρ, a, c, S2, (en.per pe).per pe2, r2, pr _ _ _ _ _ _ pe2 d, d2, q2⟩⟩
theorem den_pr : ∀ μ H μ' H' a b, Per G μ H μ' H' → Den G μ H a b → Den G μ' H' a b := fun _ _ _ _ _ _ p d => d.per p
end

/-! ### names, constants -/
def xVar (i : Nat) : FE := fun ρ S => match ρ[i]? with
  | some (some d) => .ok d S
  | _ => .stuck
def xC (d : D) : FE := fun _ S => .ok d S
section
variable {G : Gx} {X : Cx} {W : WX}
theorem de_var (i : Nat) {x : Str} {pos : Pos} (hN : X.N[i]? = some x := by rfl) (hv : Vis X.env.scope x := by first | exact Or.inl rfl | exact Or.inr (Or.inl rfl) | exact Or.inr (Or.inr rfl)) (hd : (x == ("__debug__" : Str)) = false := by decide)
    (hcd : (x == ("__classdict__" : Str)) = false := by decide) : PE X (.Name x pos) (TD G W (xVar i)) := by
  refine PE.imp (pe_var hN hv hd hcd) fun σ H Q ⟨μ, ρ, S, en, rp, p⟩ => ?_
  unfold xVar at p
  split at p
  · rename_i d e
    obtain ⟨v, h1, h2⟩ := en.at_ i d e
    exact ⟨v, h1, p _ _ _ .refl rp h2⟩
  · exact p.elim
theorem de_tC {e : Expr} {v : V} {d : D} (h : PE X e (tC v)) (k : ∀ μ H, Den G μ H d v) : PE X e (TD G W (xC d)) :=
  PE.imp h fun σ H Q ⟨μ, ρ, S, en, rp, p⟩ => p _ _ _ .refl rp (k _ _)
theorem de_int {i j pos} : PE X (.Constant (.int i) j pos) (TD G W (xC (.int i))) := de_tC pe_int fun _ _ => .int i
theorem de_bl {b j pos} : PE X (.Constant (.bool b) j pos) (TD G W (xC (.bl b))) := de_tC pe_bl fun _ _ => .bl b
theorem de_non {j pos} : PE X (.Constant .none j pos) (TD G W (xC .non)) := de_tC pe_non fun _ _ => .non
theorem de_str {x : String} {j pos} : PE X (.Constant (.str (Str.ofString x)) j pos) (TD G W (xC (.str x))) := de_tC pe_str fun _ _ => .str x
/-- a module's constant -/
theorem de_glob {x : Str} {d : D} {v : V} {u : Value} {pos : Pos} (hm : X.mg x = some u) (r : RelV v u) (k : ∀ μ H, Den G μ H d v) (hg : Gl X x := by rfl) (hd : (x == ("__debug__" : Str)) = false := by decide) : PE X (.Name x pos) (TD G W (xC d)) :=
  de_tC (pe_glob hg hm r hd) k

/-! ### arguments -/
def aNil : FA := fun _ S => .ok [] S
def aCons (f : FE) (g : FA) : FA := fun ρ S => (f ρ S).bind fun d S1 => (g ρ S1).bind fun ds S2 => .ok (d :: ds) S2
theorem da_nil : PA X [] (TDA G W aNil) := PA.imp pa_nil fun σ H Q ⟨μ, ρ, S, en, rp, p⟩ => p _ _ _ .refl rp .nil
theorem da_cons {e : Expr} {es : List Expr} {f : FE} {g : FA} (h : PE X e (TD G W f)) (k : PA X es (TDA G W g)) (hs : starEach (e :: es) X.env = (false, eval e X.env) :: starEach es X.env := by rfl) : PA X (e :: es) (TDA G W (aCons f g)) :=
  PA.imp (pa_cons h k hs) fun σ H Q q => by
    obtain ⟨μ, ρ, S, en, rp, p⟩ := tdg_bind2 (rel := Den G) (rel2 := DenA G) den_pr q
    refine ⟨μ, ρ, S, en, rp, p.mono fun b H1 ⟨μ1, ρ1, S1, en1, rp1, p1⟩ => ⟨μ1, ρ1, S1, en1, rp1, p1.mono fun c H2 ⟨μ2, ρ2, a, c', S2, en2, rp2, d1, d2, q2⟩ => q2 _ _ _ .refl rp2 (.cons d1 d2)⟩⟩

/-! ### tuples, lists -/
def big (n : Nat) : Bool := decide (n ≤ sizeLine)
def xTup (g : FA) : FE := fun ρ S => (g ρ S).bind fun ds S1 => if ds.length ≤ 16777216 then .ok (.tup ds) S1 else .stuck
def newO (o : O) (S : Sg) : R D := .ok (.ref S.length) (S ++ [o])
def xLst (g : FA) : FE := fun ρ S => (g ρ S).bind fun ds S1 => if ds.length ≤ 16777216 then newO (.lst ds) S1 else .stuck
theorem post_ite {α β : Type} {rel : Rel α β} {μ : List Addr} {H : Hp} {σ : St} {c : Prop} [Decidable c] {r : R α} {Q : β → Hp → Prop} (h : Post rel G W μ H σ (if c then r else .stuck) Q) : c ∧ Post rel G W μ H σ r Q := by
  by_cases hc : c
  · rw [if_pos hc] at h; exact ⟨hc, h⟩
  · rw [if_neg hc] at h; exact h.elim
theorem post_tup (g : G.Ok) {μ : List Addr} {H : Hp} {σ : St} {S : Sg} {ds : List D} {vs : List V} {Q : VK} (rp : Rep G μ S H) (d : DenA G μ H ds vs) (h : Post (Den G) G W μ H σ (.ok (.tup ds) S) Q) {p : Addr} (hp : H p = none) : Q (.ref p) (upd H p (.tup vs)) :=
  h _ _ _ (per_new g hp) (rp.new g hp) (.tup upd_same (d.per (per_new g hp)))
theorem post_lst (g : G.Ok) {μ : List Addr} {H : Hp} {σ : St} {S : Sg} {ds : List D} {vs : List V} {Q : VK} (rp : Rep G μ S H) (d : DenA G μ H ds vs) (h : Post (Den G) G W μ H σ (newO (.lst ds) S) Q) {p : Addr} (hp : H p = none) : Q (.ref p) (upd H p (.lst vs)) := by
  refine h (μ ++ [p]) _ _ (per_push g hp) (rp.push g hp ⟨vs, upd_same, d.per (per_push g hp)⟩) (.ref ?_)
  rw [← rp.len, List.getElem?_append_right (Nat.le_refl _), Nat.sub_self]
  rfl
theorem sl_eq : sizeLine = 16777216 := sizeLine_eq
theorem de_tup {es : List Expr} {x1 : Nat} {pos : Pos} {g : FA} (A : Amb G X W) (h : PA X es (TDA G W g)) : PE X (.Tuple es x1 pos) (TD G W (xTup g)) :=
  PE.imp (pe_tup h) fun σ H Q q => by
    obtain ⟨μ, ρ, S, en, rp, p⟩ := tdg_bind (rel := DenA G) (k := fun ρ ds S1 => if ds.length ≤ 16777216 then R.ok (D.tup ds) S1 else .stuck) q
    refine ⟨μ, ρ, S, en, rp, p.mono fun vs H1 ⟨μ1, ρ1, ds, S1, en1, rp1, d, p1⟩ => ?_⟩
    obtain ⟨hl, p2⟩ := post_ite p1
    exact ⟨by rw [sl_eq, ← d.length]; exact hl, fun a ha => post_tup A.ok rp1 d p2 ha⟩
theorem de_lst {es : List Expr} {pos : Pos} {g : FA} (A : Amb G X W) (h : PA X es (TDA G W g)) : PE X (.List es pos) (TD G W (xLst g)) :=
  PE.imp (pe_lst h) fun σ H Q q => by
    obtain ⟨μ, ρ, S, en, rp, p⟩ := tdg_bind (rel := DenA G) (k := fun ρ ds S1 => if ds.length ≤ 16777216 then newO (.lst ds) S1 else .stuck) q
    refine ⟨μ, ρ, S, en, rp, p.mono fun vs H1 ⟨μ1, ρ1, ds, S1, en1, rp1, d, p1⟩ => ?_⟩
    obtain ⟨hl, p2⟩ := post_ite p1
    exact ⟨by rw [sl_eq, ← d.length]; exact hl, fun a ha => post_lst A.ok rp1 d p2 ha⟩

/-! ### operators by values -/
abbrev F2 := D → D → Sg → R D
def OpV (G : Gx) (W : WX) (r : R2) (h : F2) : Prop :=
  ∀ μ S H x y d e σ Q, Rep G μ S H → Den G μ H d x → Den G μ H e y → Post (Den G) G W μ H σ (h d e S) Q → r x y H Q
def x2 (h : F2) (f g : FE) : FE := fun ρ S => (f ρ S).bind fun d S1 => (g ρ S1).bind fun e S2 => h d e S2
theorem td_op {r : R2} {h : F2} {f g : FE} (o : OpV G W r h) {σ : St} {H : Hp} {Q : VK} (q : TD G W (x2 h f g) σ H Q) : tOp r (TD G W f) (TD G W g) σ H Q := by
  obtain ⟨μ, ρ, S, en, rp, p⟩ := tdg_bind2 (rel := Den G) (rel2 := Den G) den_pr q
  exact ⟨μ, ρ, S, en, rp, p.mono fun b H1 ⟨μ1, ρ1, S1, en1, rp1, p1⟩ => ⟨μ1, ρ1, S1, en1, rp1, p1.mono fun c H2 ⟨μ2, ρ2, a, c', S2, en2, rp2, d1, d2, q2⟩ => o _ _ _ _ _ _ _ _ _ rp2 d1 d2 q2⟩⟩
theorem de_op {a b : Expr} {op : Operator} {pos : Pos} {r : R2} {h : F2} {f g : FE} (ho : OpR X (binaryOp op) r) (o : OpV G W r h) (ha : PE X a (TD G W f)) (hb : PE X b (TD G W g)) : PE X (.BinOp a op b pos) (TD G W (x2 h f g)) :=
  PE.imp (pe_op ho ha hb) fun σ H Q q => td_op o q
theorem de_cmp {a b : Expr} {op : CmpOp} {pos : Pos} {r : R2} {h : F2} {f g : FE} (ho : OpR X (compareOp op) r) (o : OpV G W r h) (hm : behindInMarks op b = false) (ha : PE X a (TD G W f)) (hb : PE X b (TD G W g)) : PE X (.Compare a [op] [b] pos) (TD G W (x2 h f g)) :=
  PE.imp (pe_cmpR ho ha hb hm) fun σ H Q q => td_op o q
theorem de_ix {a b : Expr} {pos : Pos} {r : R2} {h : F2} {f g : FE} (ho : IxR X r) (o : OpV G W r h) (ha : PE X a (TD G W f)) (hb : PE X b (TD G W g)) (hs : PlainIx b := by exact fun _ _ => rfl) : PE X (.Subscript a b pos) (TD G W (x2 h f g)) :=
  PE.imp (pe_ix ho ha hb hs) fun σ H Q q => td_op o q
end
end Dx

/-! Dx2: operators by values. -/
namespace Dx
open PySem PySem.Spec L2

theorem ofS_len (s : String) : (Str.ofString s).length = s.length := ofString_length s
theorem ofS_app (s t : String) : Str.ofString (s ++ t) = Str.ofString s ++ Str.ofString t := by
  rw [Str.ofString_eq_toList, Str.ofString_eq_toList, Str.ofString_eq_toList]
  show _ = Str.append _ _
  unfold Str.append
  simp
theorem ofS_inj {s t : String} (h : Str.ofString s = Str.ofString t) : s = t := by
  rw [Str.ofString_eq_toList, Str.ofString_eq_toList] at h
  have h1 := congrArg (fun x => x.cps.toList) h
  simp only at h1
  have h2 : s.toList = t.toList := by
    have inj : ∀ a b : List Char, a.map Char.toNat = b.map Char.toNat → a = b := by
      intro a
      induction a with
      | nil => intro b e; cases b with
        | nil => rfl
        | cons _ _ => simp at e
      | cons x a ih => intro b e; cases b with
        | nil => simp at e
        | cons y b =>
          simp only [List.map_cons, List.cons.injEq] at e
          rw [ih b e.2, Char.ext (UInt32.toNat_inj.mp e.1)]
    exact inj _ _ h1
  exact String.toList_inj.mp h2

/-! ### data -/
def pyOf : Nat → Sg → D → Option PyData
  | _, _, .non => some .none
  | _, _, .bl b => some (.bool b)
  | _, _, .int i => some (.int i)
  | _, _, .str s => some (.str (Str.ofString s))
  | n + 1, S, .tup xs => (xs.mapM (pyOf n S)).map .tuple
  | n + 1, S, .ktup xs => (xs.mapM (pyOf n S)).map .tuple
  | n + 1, S, .clist xs => (xs.mapM (pyOf n S)).map .list
  | n + 1, S, .ref m => match S[m]? with
    | some (.lst xs) => (xs.mapM (pyOf n S)).map .list
    | _ => none
  | _, _, _ => none
section
variable {G : Gx} {μ : List Addr} {H : Hp} {S : Sg}
theorem RepO.sqL {a : Addr} {xs : List D} (h : RepO G μ H a (.lst xs)) : ∃ vs, SqL G.K H a vs ∧ DenA G μ H xs vs := by
  obtain ⟨vs, h, d⟩ := h
  exact ⟨vs, SqL.of h, d⟩
theorem cl_sqL {a : Addr} {vs : List V} (h : ∃ q, H a = some (.frz q (.lst vs))) : SqL G.K H a vs := by
  obtain ⟨q, h⟩ := h
  exact .inl (.inr ⟨q, h⟩)
theorem sl_sqL {a : Addr} {vs : List V} (h : (∃ q, H a = some (.frz q (.lst vs))) ∨ ∀ H', SqL G.K H' a vs) : SqL G.K H a vs := by
  rcases h with ⟨q, h⟩ | h
  · exact .inl (.inr ⟨q, h⟩)
  · exact h H
theorem py_all {n : Nat} (ih : ∀ (d : D) (v : V) (p : PyData), Den G μ H d v → pyOf n S d = some p → Dp G.K H v p) : ∀ (xs : List D) (vs : List V) (ps : List PyData), DenA G μ H xs vs → xs.mapM (pyOf n S) = some ps → DpAll G.K H vs ps
  | [], _, ps, .nil, e => by
    simp at e
    subst e
    exact .nil
  | x :: xs, _, ps, .cons h t, e => by
    rw [List.mapM_cons] at e
    obtain ⟨p, e1, e2⟩ := Option.bind_eq_some_iff.mp e
    obtain ⟨q, e3, e4⟩ := Option.bind_eq_some_iff.mp e2
    cases e4
    exact .cons (ih _ _ _ h e1) (py_all ih xs _ _ t e3)
theorem py_den (r : Rep G μ S H) : ∀ (n : Nat) (d : D) (v : V) (p : PyData), Den G μ H d v → pyOf n S d = some p → Dp G.K H v p := by
  intro n
  induction n with
  | zero => intro d v p h e; cases h <;> simp [pyOf] at e <;> subst e <;> constructor
  | succ n ih =>
    intro d v p h e
    cases h with
    | non => simp [pyOf] at e; subst e; constructor
    | bl b => simp [pyOf] at e; subst e; constructor
    | int i => simp [pyOf] at e; subst e; constructor
    | str s => simp [pyOf] at e; subst e; constructor
    | tup h1 h2 =>
      rw [pyOf] at e
      obtain ⟨ps, e1, e2⟩ := Option.map_eq_some_iff.mp e
      subst e2
      exact .tup (SqT.of h1) (py_all ih _ _ _ h2 e1)
    | ktup h1 h2 =>
      rw [pyOf] at e
      obtain ⟨ps, e1, e2⟩ := Option.map_eq_some_iff.mp e
      subst e2
      exact .tup (h1 _) (py_all ih _ _ _ h2 e1)
    | clist h1 h2 =>
      rw [pyOf] at e
      obtain ⟨ps, e1, e2⟩ := Option.map_eq_some_iff.mp e
      subst e2
      exact .lst (cl_sqL h1) (py_all ih _ _ _ h2 e1)
    | @ref m a h =>
      rw [pyOf] at e
      obtain ⟨o, ho, ro⟩ := r.there h
      rw [ho] at e
      have go : ∀ xs, RepO G μ H a (.lst xs) → (xs.mapM (pyOf n S)).map PyData.list = some p → Dp G.K H (.ref a) p := fun xs q e => by
        obtain ⟨ps, e1, e2⟩ := Option.map_eq_some_iff.mp e
        subst e2
        obtain ⟨vs, h1, h2⟩ := RepO.sqL q
        exact .lst h1 (py_all ih _ _ _ h2 e1)
      cases o with
      | lst xs => exact go xs ro e
      | dct _ => simp at e
      | dtt _ => simp at e
      | obj _ _ => simp at e
    | cdict _ _ _ => simp [pyOf] at e
    | slist _ => simp [pyOf] at e
    | clo _ => simp [pyOf] at e
    | exv0 => simp [pyOf] at e
    | exv _ _ => simp [pyOf] at e
theorem strOk_of (s : String) : PyData.strOk (Str.ofString s) = true := by
  unfold PyData.strOk
  rw [Str.ofString_eq_toList]
  simp only [List.all_toArray, List.all_map, List.all_eq_true, Function.comp, decide_eq_true_eq]
  intro c _
  have h := c.valid
  simp only [UInt32.isValidChar, Nat.isValidChar] at h
  show c.val.toNat < 0x110000
  omega
theorem py_shAll {n : Nat} (ih : ∀ (d : D) (p : PyData), pyOf n S d = some p → p.canLay0 = true ∧ p.depth ≤ n) : ∀ (xs : List D) (ps : List PyData), xs.mapM (pyOf n S) = some ps → PyData.canLayAll0 ps = true ∧ PyData.depthAll ps ≤ n
  | [], ps, e => by
    simp at e
    subst e
    simp [PyData.canLayAll0, PyData.depthAll]
  | x :: xs, ps, e => by
    rw [List.mapM_cons] at e
    obtain ⟨p, e1, e2⟩ := Option.bind_eq_some_iff.mp e
    obtain ⟨q, e3, e4⟩ := Option.bind_eq_some_iff.mp e2
    cases e4
    obtain ⟨a1, a2⟩ := ih _ _ e1
    obtain ⟨b1, b2⟩ := py_shAll ih xs _ e3
    simp only [PyData.canLayAll0, PyData.depthAll, a1, b1, Bool.and_self, true_and]
    omega
theorem py_sh : ∀ (n : Nat) (d : D) (p : PyData), pyOf n S d = some p → p.canLay0 = true ∧ p.depth ≤ n := by
  intro n
  induction n with
  | zero => intro d p e; cases d <;> simp [pyOf] at e <;> subst e <;> simp [PyData.canLay0, PyData.depth, strOk_of]
  | succ n ih =>
    intro d p e
    have go : ∀ (xs : List D) (f : List PyData → PyData), (∀ ps, (f ps).canLay0 = PyData.canLayAll0 ps) → (∀ ps, (f ps).depth = PyData.depthAll ps + 1) → (xs.mapM (pyOf n S)).map f = some p → p.canLay0 = true ∧ p.depth ≤ n + 1 := fun xs f h1 h2 e => by
      obtain ⟨ps, e1, e2⟩ := Option.map_eq_some_iff.mp e
      subst e2
      obtain ⟨a, b⟩ := py_shAll ih xs ps e1
      rw [h1, h2]
      exact ⟨a, by omega⟩
    have lc : ∀ ps, (PyData.list ps).canLay0 = PyData.canLayAll0 ps := fun _ => by rw [PyData.canLay0]
    have ld : ∀ ps, (PyData.list ps).depth = PyData.depthAll ps + 1 := fun _ => by rw [PyData.depth]
    cases d with
    | tup xs => rw [pyOf] at e; exact go xs _ (fun _ => by rw [PyData.canLay0]) (fun _ => by rw [PyData.depth]) e
    | ktup xs => rw [pyOf] at e; exact go xs _ (fun _ => by rw [PyData.canLay0]) (fun _ => by rw [PyData.depth]) e
    | clist xs => rw [pyOf] at e; exact go xs _ lc ld e
    | ref m =>
      rw [pyOf] at e
      split at e
      · exact go _ _ lc ld e
      · cases e
    | non => simp [pyOf] at e; subst e; simp [PyData.canLay0, PyData.depth]
    | bl _ => simp [pyOf] at e; subst e; simp [PyData.canLay0, PyData.depth]
    | int _ => simp [pyOf] at e; subst e; simp [PyData.canLay0, PyData.depth]
    | str _ => simp [pyOf] at e; subst e; simp [PyData.canLay0, PyData.depth, strOk_of]
    | cdict _ _ => simp [pyOf] at e
    | slist _ => simp [pyOf] at e
    | clo _ => simp [pyOf] at e
    | exv _ _ _ _ => simp [pyOf] at e
theorem py_shaped {n : Nat} (hn : n ≤ 64) {d : D} {p : PyData} (e : pyOf n S d = some p) : SeqAt.shaped p = true := by
  obtain ⟨a, b⟩ := py_sh n d p e
  unfold SeqAt.shaped
  rw [a, decide_eq_true (by omega : p.depth ≤ 64)]
  rfl
end

/-! ### == and != -/
def fEq (neg : Bool) : F2 := fun d e S => match pyOf 9 S d, pyOf 9 S e with
  | some a, some b => .ok (.bl (neg != PyData.eqv a b)) S
  | _, _ => .stuck
section
variable {G : Gx} {X : Cx} {W : WX}
theorem post_ok {μ : List Addr} {H : Hp} {σ : St} {S : Sg} {d : D} {v : V} {Q : VK} (rp : Rep G μ S H) (h : Post (Den G) G W μ H σ (.ok d S) Q) (k : Den G μ H d v) : Q v H := h _ _ _ .refl rp k
theorem ov_eq : OpV G W (rEqD G.K) (fEq false) := by
  intro μ S H x y d e σ Q rp hx hy p
  unfold fEq at p
  split at p
  · rename_i a b ea eb
    refine ⟨a, b, py_den rp 9 _ _ _ hx ea, py_den rp 9 _ _ _ hy eb, py_shaped (by decide) ea, py_shaped (by decide) eb, ?_⟩
    have := post_ok rp p (.bl _)
    simpa using this
  · exact p.elim
theorem ov_ne : OpV G W (rNeD G.K) (fEq true) := by
  intro μ S H x y d e σ Q rp hx hy p
  unfold fEq at p
  split at p
  · rename_i a b ea eb
    refine ⟨a, b, py_den rp 9 _ _ _ hx ea, py_den rp 9 _ _ _ hy eb, py_shaped (by decide) ea, py_shaped (by decide) eb, ?_⟩
    have := post_ok rp p (.bl _)
    simpa using this
  · exact p.elim
theorem de_eq {a b : Expr} {pos : Pos} {f g : FE} (A : Amb G X W) (ha : PE X a (TD G W f)) (hb : PE X b (TD G W g)) : PE X (.Compare a [.Eq] [b] pos) (TD G W (x2 (fEq false) f g)) :=
  de_cmp (r := rEqD G.K) (by have := op_eqD (X := X) (by have := A.hu; omega); rw [A.hK] at this; exact this) ov_eq (nomark b) ha hb
theorem de_ne {a b : Expr} {pos : Pos} {f g : FE} (A : Amb G X W) (ha : PE X a (TD G W f)) (hb : PE X b (TD G W g)) : PE X (.Compare a [.NotEq] [b] pos) (TD G W (x2 (fEq true) f g)) :=
  de_cmp (r := rNeD G.K) (by have := op_neD (X := X) (by have := A.hu; omega); rw [A.hK] at this; exact this) ov_ne (nomark b) ha hb

/-! ### ints compared -/
def fI (p : Int → Int → D) : F2 := fun d e S => match d, e with
  | .int i, .int j => .ok (p i j) S
  | _, _ => .stuck
theorem ov_I {p : Int → Int → D} {q : Int → Int → V} (h : ∀ i j μ H, Den G μ H (p i j) (q i j)) : OpV G W (rI0 q) (fI p) := by
  intro μ S H x y d e σ Q rp hx hy po
  unfold fI at po
  split at po
  · cases hx; cases hy
    exact ⟨_, _, rfl, rfl, post_ok rp po (h _ _ _ _)⟩
  · exact po.elim
/-- .. with a condition -/
def fIC (C : Int → Int → Bool) (p : Int → Int → D) : F2 := fun d e S => match d, e with
  | .int i, .int j => if C i j = true then .ok (p i j) S else .stuck
  | _, _ => .stuck
theorem ov_IC {C : Int → Int → Bool} {C' : Int → Int → Prop} {p : Int → Int → D} {q : Int → Int → V} (hc : ∀ i j, C i j = true → C' i j) (h : ∀ i j μ H, Den G μ H (p i j) (q i j)) : OpV G W (rI C' q) (fIC C p) := by
  intro μ S H x y d e σ Q rp hx hy po
  unfold fIC at po
  split at po
  · cases hx; cases hy
    obtain ⟨c, po⟩ := post_ite po
    exact ⟨_, _, rfl, rfl, hc _ _ c, post_ok rp po (h _ _ _ _)⟩
  · exact po.elim
def fLt : F2 := fI fun i j => .bl (decide (i < j))
def fLe : F2 := fI fun i j => .bl (decide (i ≤ j))
def fGt : F2 := fI fun i j => .bl (decide (j < i))
def fGe : F2 := fI fun i j => .bl (decide (j ≤ i))
theorem de_lt {a b : Expr} {pos : Pos} {f g : FE} (ha : PE X a (TD G W f)) (hb : PE X b (TD G W g)) : PE X (.Compare a [.Lt] [b] pos) (TD G W (x2 fLt f g)) := de_cmp op_lt (ov_I fun _ _ _ _ => .bl _) (nomark b) ha hb
theorem de_le {a b : Expr} {pos : Pos} {f g : FE} (ha : PE X a (TD G W f)) (hb : PE X b (TD G W g)) : PE X (.Compare a [.LtE] [b] pos) (TD G W (x2 fLe f g)) := de_cmp op_le (ov_I fun _ _ _ _ => .bl _) (nomark b) ha hb
theorem de_gt {a b : Expr} {pos : Pos} {f g : FE} (ha : PE X a (TD G W f)) (hb : PE X b (TD G W g)) : PE X (.Compare a [.Gt] [b] pos) (TD G W (x2 fGt f g)) := de_cmp op_gt (ov_I fun _ _ _ _ => .bl _) (nomark b) ha hb
theorem de_ge {a b : Expr} {pos : Pos} {f g : FE} (ha : PE X a (TD G W f)) (hb : PE X b (TD G W g)) : PE X (.Compare a [.GtE] [b] pos) (TD G W (x2 fGe f g)) := de_cmp op_ge (ov_I fun _ _ _ _ => .bl _) (nomark b) ha hb
/-! ### arithmetic -/
def fSub : F2 := fI fun i j => .int (i - j)
def fMod : F2 := fIC (fun _ j => decide (0 < j)) fun i j => .int (i % j)
def fDiv : F2 := fIC (fun _ j => decide (0 < j) && decide (j < 1073741824)) fun i j => .int (i / j)
def fPow : F2 := fIC (fun i j => decide (0 ≤ j) && decide (j ≤ 1000000) && decide (i.natAbs < 18446744073709551616)) fun i j => .int (i ^ j.toNat)
theorem de_sub {a b : Expr} {pos : Pos} {f g : FE} (ha : PE X a (TD G W f)) (hb : PE X b (TD G W g)) : PE X (.BinOp a .Sub b pos) (TD G W (x2 fSub f g)) := de_op op_sub (ov_I fun _ _ _ _ => .int _) ha hb
theorem de_mod {a b : Expr} {pos : Pos} {f g : FE} (ha : PE X a (TD G W f)) (hb : PE X b (TD G W g)) : PE X (.BinOp a .Mod b pos) (TD G W (x2 fMod f g)) := de_op op_mod (ov_IC (by simp) fun _ _ _ _ => .int _) ha hb
theorem de_div {a b : Expr} {pos : Pos} {f g : FE} (ha : PE X a (TD G W f)) (hb : PE X b (TD G W g)) : PE X (.BinOp a .FloorDiv b pos) (TD G W (x2 fDiv f g)) := de_op op_fdiv (ov_IC (by simp [CDiv]) fun _ _ _ _ => .int _) ha hb
theorem de_pow {a b : Expr} {pos : Pos} {f g : FE} (ha : PE X a (TD G W f)) (hb : PE X b (TD G W g)) : PE X (.BinOp a .Pow b pos) (TD G W (x2 fPow f g)) := de_op op_pow (ov_IC (by simp only [Bool.and_eq_true, decide_eq_true_eq, CPow]; intro i j h; exact ⟨h.1.1, h.1.2, h.2⟩) fun _ _ _ _ => .int _) ha hb
def tupOf : D → Option (List D)
  | .tup xs => some xs
  | .ktup xs => some xs
  | _ => none
instance : DecidablePred (fun xs : List D => xs = []) := fun xs => match xs with
  | [] => isTrue rfl
  | _ :: _ => isFalse (fun h => nomatch h)
instance (xs : List D) : Decidable (xs = []) := match xs with
  | [] => isTrue rfl
  | _ :: _ => isFalse (fun h => nomatch h)
/-- + : ints, texts, tuples, lists -/
def fAdd : F2 := fun d e S => match d, e with
  | .int i, .int j => .ok (.int (i + j)) S
  | .str s, .str t => if s.length + t.length ≤ 16777216 then .ok (.str (s ++ t)) S else .stuck
  | .tup xs, .tup ys => if xs.length + ys.length ≤ 16777216 then .ok (.tup (xs ++ ys)) S else .stuck
  | .ref n, .ref m => match S[n]?, S[m]? with
    | some (.lst xs), some (.lst ys) => if xs.length + ys.length ≤ 16777216 then newO (.lst (xs ++ ys)) S else .stuck
    | _, _ => .stuck
  | d, e => match tupOf d, tupOf e with
    | some xs, some ys => if xs.length + ys.length ≤ 16777216 then (if xs = [] then .ok e S else if ys = [] then .ok d S else .ok (.tup (xs ++ ys)) S) else .stuck
    | _, _ => .stuck
theorem tup_den {μ : List Addr} {H : Hp} {d : D} {v : V} {xs : List D} (h : Den G μ H d v) (e : tupOf d = some xs) : ∃ a vs, v = .ref a ∧ SqT G.K H a vs ∧ DenA G μ H xs vs := by
  cases h with
  | tup h1 h2 => simp [tupOf] at e; subst e; exact ⟨_, _, rfl, SqT.of h1, h2⟩
  | ktup h1 h2 => simp [tupOf] at e; subst e; exact ⟨_, _, rfl, h1 _, h2⟩
  | _ => simp [tupOf] at e
theorem op_addAll : OpR X (binaryOp .Add) (fun x y H Q => rI0 (fun i j => .int (i + j)) x y H Q ∨ (∃ i j, x = .str i ∧ y = .str j ∧ i.length + j.length ≤ sizeLine ∧ Q (.str (i ++ j)) H) ∨ rCatA X.K x y H Q ∨ rCat x y H Q) :=
  op_add.or (op_add_str.or (op_catA.or op_cat))
theorem ov_add (g : G.Ok) : OpV G W (fun x y H Q => rI0 (fun i j => .int (i + j)) x y H Q ∨ (∃ i j, x = .str i ∧ y = .str j ∧ i.length + j.length ≤ sizeLine ∧ Q (.str (i ++ j)) H) ∨ rCatA G.K x y H Q ∨ rCat x y H Q) fAdd := by
  intro μ S H x y d e σ Q rp hx hy po
  unfold fAdd at po
  split at po
  · cases hx; cases hy
    exact .inl ⟨_, _, rfl, rfl, post_ok rp po (.int _)⟩
  · cases hx; cases hy
    obtain ⟨c, po⟩ := post_ite po
    refine .inr (.inl ⟨_, _, rfl, rfl, by rw [ofS_len, ofS_len, sl_eq]; exact c, ?_⟩)
    rw [← ofS_app]
    exact post_ok rp po (.str _)
  · rename_i xs ys
    obtain ⟨c, po⟩ := post_ite po
    cases hx with
    | tup h1 h2 =>
      cases hy with
      | tup h3 h4 =>
        refine .inr (.inr (.inl ⟨_, _, _, _, rfl, rfl, SqT.of h1, SqT.of h3, by rw [sl_eq, ← h2.length, ← h4.length]; exact c, fun e0 => ?_, fun e1 e0 => ?_, fun _ _ p hp => ?_⟩))
        · subst e0
          cases h2
          exact post_ok rp po (.tup h3 h4)
        · subst e0
          cases h4
          rw [List.append_nil] at po
          exact post_ok rp po (.tup h1 h2)
        · exact post_tup g rp (h2.append h4) po hp
  · rename_i n m
    cases hx with
    | ref h1 =>
      cases hy with
      | ref h3 =>
        split at po
        · rename_i xs ys e1 e2
          obtain ⟨c, po⟩ := post_ite po
          obtain ⟨vs, a1, a2⟩ := rp.obj h1 e1
          obtain ⟨us, b1, b2⟩ := rp.obj h3 e2
          exact .inr (.inr (.inr ⟨_, _, _, _, rfl, rfl, a1, b1, by rw [sl_eq, ← a2.length, ← b2.length]; exact c, fun p hp => post_lst g rp (a2.append b2) po hp⟩))
        · exact po.elim
  · split at po
    · rename_i xs ys e1 e2
      obtain ⟨c, po⟩ := post_ite po
      obtain ⟨a, vs, rfl, h1, h2⟩ := tup_den hx e1
      obtain ⟨b, us, rfl, h3, h4⟩ := tup_den hy e2
      have z1 : vs = [] ↔ xs = [] := by rw [← List.length_eq_zero_iff, ← List.length_eq_zero_iff, h2.length]
      have z2 : us = [] ↔ ys = [] := by rw [← List.length_eq_zero_iff, ← List.length_eq_zero_iff, h4.length]
      refine .inr (.inr (.inl ⟨_, _, _, _, rfl, rfl, h1, h3, by rw [sl_eq, ← h2.length, ← h4.length]; exact c, fun e0 => ?_, fun e1' e0 => ?_, fun e1' e0 p hp => ?_⟩))
      · rw [if_pos (z1.mp e0)] at po
        exact post_ok rp po hy
      · rw [if_neg (fun z => e1' (z1.mpr z)), if_pos (z2.mp e0)] at po
        exact post_ok rp po hx
      · rw [if_neg (fun z => e1' (z1.mpr z)), if_neg (fun z => e0 (z2.mpr z))] at po
        exact post_tup g rp (h2.append h4) po hp
    · exact po.elim
theorem de_add {a b : Expr} {pos : Pos} {f g : FE} (A : Amb G X W) (ha : PE X a (TD G W f)) (hb : PE X b (TD G W g)) : PE X (.BinOp a .Add b pos) (TD G W (x2 fAdd f g)) :=
  de_op (r := fun x y H Q => rI0 (fun i j => .int (i + j)) x y H Q ∨ (∃ i j, x = .str i ∧ y = .str j ∧ i.length + j.length ≤ sizeLine ∧ Q (.str (i ++ j)) H) ∨ rCatA G.K x y H Q ∨ rCat x y H Q) (by have := op_addAll (X := X); rw [A.hK] at this; exact this) (ov_add A.ok) ha hb
/-- * : ints, a list by an int -/
def fMul : F2 := fun d e S => match d, e with
  | .int i, .int j => if (decide (-(18446744073709551616) < i) && decide (i < 18446744073709551616)) || (decide (-(18446744073709551616) < j) && decide (j < 18446744073709551616)) then .ok (.int (i * j)) S else .stuck
  | .ref n, .int k => match S[n]? with
    | some (.lst xs) => if -(9223372036854775808) ≤ k ∧ k < 9223372036854775808 ∧ xs.length * k.toNat ≤ 16777216 then newO (.lst (List.replicate k.toNat xs).flatten) S else .stuck
    | _ => .stuck
  | .tup xs, .int k => if xs ≠ [] ∧ 2 ≤ k ∧ k ≤ 1000 ∧ xs.length ≤ 1000 then .ok (.tup (List.replicate k.toNat xs).flatten) S else .stuck
  | _, _ => .stuck
theorem DenA.rep {μ : List Addr} {H : Hp} {xs : List D} {vs : List V} (h : DenA G μ H xs vs) : ∀ k : Nat, DenA G μ H (List.replicate k xs).flatten (List.replicate k vs).flatten
  | 0 => .nil
  | k + 1 => by
    rw [List.replicate_succ, List.replicate_succ, List.flatten_cons, List.flatten_cons]
    exact h.append (h.rep k)
theorem ov_mul (g : G.Ok) : OpV G W (fun x y H Q => rI CMul (fun i j => .int (i * j)) x y H Q ∨ rRep x y H Q ∨ rRepT G.K x y H Q) fMul := by
  intro μ S H x y d e σ Q rp hx hy po
  unfold fMul at po
  split at po
  · cases hx; cases hy
    obtain ⟨c, po⟩ := post_ite po
    refine .inl ⟨_, _, rfl, rfl, ?_, post_ok rp po (.int _)⟩
    simp only [Bool.or_eq_true, Bool.and_eq_true, decide_eq_true_eq] at c
    exact c
  · rename_i n k
    cases hx with
    | ref h1 =>
      cases hy
      split at po
      · rename_i xs e1
        obtain ⟨⟨c1, c2, c3⟩, po⟩ := post_ite po
        obtain ⟨vs, a1, a2⟩ := rp.obj h1 e1
        exact .inr (.inl ⟨_, _, _, rfl, rfl, a1, c1, c2, by rw [sl_eq, ← a2.length]; exact c3, fun p hp => post_lst g rp (a2.rep _) po hp⟩)
      · exact po.elim
  · rename_i xs k
    cases hx with
    | tup h1 h2 =>
      cases hy
      obtain ⟨⟨c0, c1, c2, c3⟩, po⟩ := post_ite po
      exact .inr (.inr ⟨_, _, _, rfl, rfl, SqT.of h1, fun e => c0 (by subst e; cases h2; rfl), c1, c2, by rw [← h2.length]; exact c3, fun p hp => post_tup g rp (h2.rep _) po hp⟩)
  · exact po.elim
theorem de_mul {a b : Expr} {pos : Pos} {f g : FE} (A : Amb G X W) (ha : PE X a (TD G W f)) (hb : PE X b (TD G W g)) : PE X (.BinOp a .Mult b pos) (TD G W (x2 fMul f g)) :=
  de_op (r := fun x y H Q => rI CMul (fun i j => .int (i * j)) x y H Q ∨ rRep x y H Q ∨ rRepT G.K x y H Q) (by have := (op_mul (X := X)).or (op_rep.or op_repT); rw [A.hK] at this; exact this) (ov_mul A.ok) ha hb
end
end Dx

/-! Dx3: in, is, chains, truth, and / or / not, conditional expressions, subscripts, slices. -/
namespace Dx
open PySem PySem.Spec L2
variable {G : Gx} {X : Cx} {W : WX}

/-! ### in -/
def flatD : D → Bool
  | .non => true
  | .bl _ => true
  | .int _ => true
  | .str _ => true
  | _ => false
def keyD : D → Option Key
  | .int i => some (.inl i)
  | .str s => some (.inr (Str.ofString s))
  | _ => none
def keysD : D → Option (List Key)
  | .tup xs => xs.mapM keyD
  | _ => none
def getK {κ : Type} [DecidableEq κ] (kvs : List (κ × D)) (k : κ) : Option D := (kvs.find? fun kv => decide (kv.1 = k)).map (·.2)
/-- the items' data -/
def seqOf (S : Sg) : D → Option (List D)
  | .ref n => match S[n]? with
    | some (.lst xs) => some xs
    | _ => none
  | .clist xs => some xs
  | _ => none
def getCd (ks : List String) (xs : List D) (s : String) : Option D := ((ks.zip xs).find? fun kv => decide (kv.1 = s)).map (·.2)
def fIn (neg : Bool) : F2 := fun d e S => match e with
  | .tup xs => if flatD d = true ∧ xs.all flatD = true then (match xs.mapM (pyOf 8 S), pyOf 9 S d with
    | some ps, some p => .ok (.bl (neg != ps.any fun z => PyData.eqv z p)) S
    | _, _ => .stuck) else .stuck
  | .cdict ks xs => match d with
    | .str s => if ks.length = xs.length then .ok (.bl (neg != (getCd ks xs s).isSome)) S else .stuck
    | _ => .stuck
  | .ref n => match S[n]? with
    | some (.dct kvs) => match keyD d with
      | some k => .ok (.bl (neg != (getK kvs k).isSome)) S
      | none => .stuck
    | some (.dtt kvs) => match keysD d with
      | some k => .ok (.bl (neg != (getK kvs k).isSome)) S
      | none => .stuck
    | some (.lst xs) => match xs.mapM (pyOf 8 S), pyOf 9 S d with
      | some ps, some p => .ok (.bl (neg != ps.any fun z => PyData.eqv z p)) S
      | _, _ => .stuck
    | _ => .stuck
  | .clist xs => match xs.mapM (pyOf 8 S), pyOf 9 S d with
    | some ps, some p => .ok (.bl (neg != ps.any fun z => PyData.eqv z p)) S
    | _, _ => .stuck
  | _ => .stuck
theorem flat_py {μ : List Addr} {H : Hp} {S : Sg} {d : D} {v : V} {n : Nat} {p : PyData} (f : flatD d = true) (h : Den G μ H d v) (e : pyOf n S d = some p) : flatV v = true ∧ ∀ w q e', flatD e' = true → Den G μ H e' w → pyOf n S e' = some q → eqV w v = PyData.eqv q p := by
  cases h <;> simp [flatD] at f <;> (refine ⟨rfl, fun w q e' f' h' g => ?_⟩; cases h' <;> simp [flatD] at f' <;> simp [pyOf] at e g <;> subst e <;> subst g <;> rfl)
theorem flat_pyn {S : Sg} {d : D} (f : flatD d = true) (n m : Nat) : pyOf n S d = pyOf m S d := by
  cases d <;> simp [flatD] at f <;> simp [pyOf]
theorem flat_all {μ : List Addr} {H : Hp} {S : Sg} {d : D} {v : V} {p : PyData} (f : flatD d = true) (h : Den G μ H d v) (e : pyOf 9 S d = some p) :
    ∀ (xs : List D) (vs : List V) (ps : List PyData), xs.all flatD = true → DenA G μ H xs vs → xs.mapM (pyOf 8 S) = some ps → vs.all flatV = true ∧ inV v vs = ps.any fun z => PyData.eqv z p
  | [], _, ps, _, .nil, g => by simp at g; subst g; exact ⟨rfl, rfl⟩
  | x :: xs, _, ps, fa, .cons h1 t, g => by
    simp only [List.all_cons, Bool.and_eq_true] at fa
    rw [List.mapM_cons] at g
    obtain ⟨q, e1, e2⟩ := Option.bind_eq_some_iff.mp g
    obtain ⟨qs, e3, e4⟩ := Option.bind_eq_some_iff.mp e2
    cases e4
    obtain ⟨a1, a2⟩ := flat_all f h e xs _ _ fa.2 t e3
    have e9 : pyOf 9 S x = some q := by rw [flat_pyn fa.1 9 8]; exact e1
    obtain ⟨b1, _⟩ := flat_py fa.1 h1 e9
    obtain ⟨_, c2⟩ := flat_py f h e
    refine ⟨by simp [b1, a1], ?_⟩
    unfold inV at a2 ⊢
    rw [List.any_cons, List.any_cons, a2, c2 _ _ _ fa.1 h1 e9]
theorem key_den {μ : List Addr} {H : Hp} {d : D} {v : V} {k : Key} (h : Den G μ H d v) (e : keyD d = some k) : v = kV k := by
  cases h <;> simp [keyD] at e <;> subst e <;> rfl
theorem keys_den {μ : List Addr} {H : Hp} : ∀ {xs : List D} {vs : List V} {ks : List Key}, DenA G μ H xs vs → xs.mapM keyD = some ks → vs = ks.map kV
  | [], _, ks, .nil, g => by simp at g; subst g; rfl
  | x :: xs, _, ks, .cons h1 t, g => by
    rw [List.mapM_cons] at g
    obtain ⟨q, e1, e2⟩ := Option.bind_eq_some_iff.mp g
    obtain ⟨qs, e3, e4⟩ := Option.bind_eq_some_iff.mp e2
    cases e4
    rw [List.map_cons, key_den h1 e1, keys_den t e3]
theorem denK_get {κ : Type} [DecidableEq κ] {μ : List Addr} {H : Hp} : ∀ {fs : List (κ × D)} {gs : List (κ × V)} (k : κ), DenK G μ H fs gs → (getK fs k = none ∧ valV gs k = none) ∨ ∃ d v, getK fs k = some d ∧ valV gs k = some v ∧ Den G μ H d v := by
  intro fs
  induction fs with
  | nil =>
    intro gs k h
    have e : gs = [] := List.map_eq_nil_iff.mp h.1
    subst e
    exact .inl ⟨rfl, rfl⟩
  | cons f fs ih =>
    intro gs k h
    obtain ⟨h1, h2⟩ := h
    cases gs with
    | nil => simp at h1
    | cons g gs =>
      simp only [List.map_cons, List.cons.injEq] at h1
      cases h2 with
      | cons a b =>
        by_cases e : f.1 = k
        · refine .inr ⟨f.2, g.2, ?_, ?_, a⟩
          · simp [getK, List.find?_cons, e]
          · simp [valV, List.find?_cons, h1.1, e]
        · have e' : ¬ g.1 = k := by rw [h1.1]; exact e
          have r1 : getK (f :: fs) k = getK fs k := by simp [getK, List.find?_cons, e]
          have r2 : valV (g :: gs) k = valV gs k := by simp [valV, List.find?_cons, e']
          rw [r1, r2]
          exact ih k ⟨h1.2, b⟩
/-- a dict of ours at a key -/
def dgetD (S : Sg) (n : Nat) (d : D) : Option (Option D) := match S[n]? with
  | some (.dct kvs) => (keyD d).map (getK kvs)
  | some (.dtt kvs) => (keysD d).map (getK kvs)
  | _ => none
theorem dget_den {μ : List Addr} {H : Hp} {S : Sg} {n : Nat} {a : Addr} {d : D} {v : V} {o : Option D} (rp : Rep G μ S H) (hn : μ[n]? = some a) (h : Den G μ H d v) (e : dgetD S n d = some o) :
    ∃ r, DGet H a v r ∧ ((o = none ∧ r = none) ∨ ∃ x y, o = some x ∧ r = some y ∧ Den G μ H x y) := by
  unfold dgetD at e
  split at e
  · rename_i kvs hs
    obtain ⟨k, e1, e2⟩ := Option.map_eq_some_iff.mp e
    obtain ⟨gs, h1, h2⟩ := rp.obj hn hs
    rw [key_den h e1]
    refine ⟨valV gs k, DGet.k h1, ?_⟩
    rcases denK_get k h2 with ⟨a1, a2⟩ | ⟨x, y, a1, a2, a3⟩
    · exact .inl ⟨e2.symm.trans a1, a2⟩
    · exact .inr ⟨x, y, e2.symm.trans a1, a2, a3⟩
  · rename_i kvs hs
    obtain ⟨k, e1, e2⟩ := Option.map_eq_some_iff.mp e
    obtain ⟨gs, h1, h2⟩ := rp.obj hn hs
    unfold keysD at e1
    split at e1
    · cases h with
      | tup q2 q3 =>
      have q4 := keys_den q3 e1
      subst q4
      refine ⟨valV gs k, DGet.t h1 q2, ?_⟩
      rcases denK_get k h2 with ⟨a1, a2⟩ | ⟨x, y, a1, a2, a3⟩
      · exact .inl ⟨e2.symm.trans a1, a2⟩
      · exact .inr ⟨x, y, e2.symm.trans a1, a2, a3⟩
    · cases e1
  · cases e
/-- in a dict, by values -/
theorem op_inDct (hu : X.A.units + 1 < cLine) : OpR X (compareOp .In) (fun x y H Q => ∃ a o, y = .ref a ∧ DGet H a x o ∧ Q (.bl o.isSome) H) := by
  intro pins s σ H x y v u Q I rx ry h
  obtain ⟨a, o, rfl, g, q⟩ := h
  obtain rfl : u = Value.ref a := ry
  exact d_in hu I g rx fun s3 I3 => ⟨.bl o.isSome, H, I3, rfl, q⟩
theorem op_ninDct (hu : X.A.units + 1 < cLine) : OpR X (compareOp .NotIn) (fun x y H Q => ∃ a o, y = .ref a ∧ DGet H a x o ∧ Q (.bl (!o.isSome)) H) := by
  intro pins s σ H x y v u Q I rx ry h
  obtain ⟨a, o, rfl, g, q⟩ := h
  obtain rfl : u = Value.ref a := ry
  exact d_notIn hu I g rx fun s3 I3 => ⟨.bl (!o.isSome), H, I3, rfl, q⟩
/-- in a written dict, by values -/
def KLook (K : PySem.W.Frag) (w : World) (a : Addr) (z : Str) (b : Bool) : Prop := (a == sysModules) = false ∧ ((b = true ∧ ∃ v, KDct K w a z v) ∨ (b = false ∧ KMiss K w a z))
theorem op_inK : OpR X (compareOp .In) (fun x y H Q => ∃ a z b, y = .ref a ∧ x = .str z ∧ KLook X.K X.w a z b ∧ Q (.bl b) H) := by
  intro pins s σ H x y v u Q I rx ry h
  obtain ⟨a, z, b, rfl, rfl, ⟨low, k⟩, q⟩ := h
  obtain rfl : u = Value.ref a := ry
  obtain ⟨t, rfl⟩ := rx
  rcases k with ⟨rfl, v, es, n, u, hl, hk, e, _⟩ | ⟨rfl, es, n, hl, hk, _, e⟩
  all_goals
    have hm := PySem.W.mapOf_K (prog := X.prog) (w := X.w) I.kIn hl hk
    refine wpAny_in_of (strKind_is X.prog X.w z t) low hm ?_
    rw [PySem.W.find_K hl e]
    exact ⟨.bl _, H, I.tok _, rfl, q⟩
theorem op_ninK : OpR X (compareOp .NotIn) (fun x y H Q => ∃ a z b, y = .ref a ∧ x = .str z ∧ KLook X.K X.w a z b ∧ Q (.bl (!b)) H) := by
  intro pins s σ H x y v u Q I rx ry h
  obtain ⟨a, z, b, rfl, rfl, ⟨low, k⟩, q⟩ := h
  obtain rfl : u = Value.ref a := ry
  obtain ⟨t, rfl⟩ := rx
  rcases k with ⟨rfl, v, es, n, u, hl, hk, e, _⟩ | ⟨rfl, es, n, hl, hk, _, e⟩
  all_goals
    have hm := PySem.W.mapOf_K (prog := X.prog) (w := X.w) I.kIn hl hk
    refine wpAny_notIn_of (strKind_is X.prog X.w z t) low hm ?_
    rw [PySem.W.find_K hl e]
    exact ⟨.bl _, H, I.tok _, rfl, q⟩
/-- a written dict of ours at a key -/
theorem denA_zip {μ : List Addr} {H : Hp} : ∀ {ks : List String} {xs : List D} {vs : List V} (s : String), DenA G μ H xs vs → ks.length = xs.length →
    (getCd ks xs s = none ∧ s ∉ ks) ∨ ∃ d v, getCd ks xs s = some d ∧ (s, v) ∈ ks.zip vs ∧ Den G μ H d v
  | [], [], _, s, .nil, _ => .inl ⟨rfl, by simp⟩
  | k :: ks, x :: xs, v :: vs, s, .cons h t, hl => by
    by_cases e : k = s
    · exact .inr ⟨x, v, by simp [getCd, e], by simp [e], h⟩
    · have r : getCd (k :: ks) (x :: xs) s = getCd ks xs s := by simp [getCd, e]
      rw [r]
      rcases denA_zip (ks := ks) s t (by simpa using hl) with ⟨a, b⟩ | ⟨d, w, a, b, c⟩
      · exact .inl ⟨a, by simp [b, Ne.symm e]⟩
      · exact .inr ⟨d, w, a, by simp [b], c⟩
theorem cd_look {μ : List Addr} {H : Hp} {a : Addr} {ks : List String} {xs : List D} {vs : List V} (hl : ks.length = xs.length) (h0 : KNo G.K G.w a ks) (h1 : ∀ p ∈ ks.zip vs, KDct G.K G.w a (Str.ofString p.1) p.2) (h2 : DenA G μ H xs vs) (s : String) :
    KLook G.K G.w a (Str.ofString s) (getCd ks xs s).isSome := by
  refine ⟨h0.1, ?_⟩
  rcases denA_zip s h2 hl with ⟨e, n⟩ | ⟨d, v, e, m, _⟩
  · rw [e]
    exact .inr ⟨rfl, h0.2 _ fun k hk z => n (by rw [ofS_inj z]; exact hk)⟩
  · rw [e]
    exact .inl ⟨rfl, v, h1 _ m⟩
def rInAll (K : PySem.W.Frag) (w : World) (neg : Bool) : R2 := fun x y H Q =>
  rIn K neg x y H Q ∨ (∃ d ds, Dp K H x d ∧ Dp K H y (.list ds) ∧ SeqAt.shaped d = true ∧ SeqAt.shaped (.list ds) = true ∧ Q (.bl (neg != ds.any fun z => PyData.eqv z d)) H) ∨
  (∃ a o, y = .ref a ∧ DGet H a x o ∧ Q (.bl (neg != o.isSome)) H) ∨ (∃ a z b, y = .ref a ∧ x = .str z ∧ KLook K w a z b ∧ Q (.bl (neg != b)) H)
theorem op_inAll (hu : X.A.units + 65 < cLine) : OpR X (compareOp .In) (rInAll X.K X.w false) := by
  intro pins s σ H x y v u Q I rx ry h
  rcases h with h | ⟨d, ds, a, b, c, e, q⟩ | ⟨a, o, e, g, q⟩ | ⟨a, z, b, e, e2, k, q⟩
  · exact op_in_seq pins s σ H x y v u Q I rx ry h
  · exact op_inD hu pins s σ H x y v u Q I rx ry ⟨d, ds, a, b, c, e, by simpa using q⟩
  · exact op_inDct (by omega) pins s σ H x y v u Q I rx ry ⟨a, o, e, g, by simpa using q⟩
  · exact op_inK pins s σ H x y v u Q I rx ry ⟨a, z, b, e, e2, k, by simpa using q⟩
theorem op_ninAll (hu : X.A.units + 65 < cLine) : OpR X (compareOp .NotIn) (rInAll X.K X.w true) := by
  intro pins s σ H x y v u Q I rx ry h
  rcases h with h | ⟨d, ds, a, b, c, e, q⟩ | ⟨a, o, e, g, q⟩ | ⟨a, z, b, e, e2, k, q⟩
  · exact op_notIn_seq pins s σ H x y v u Q I rx ry h
  · exact op_notInD hu pins s σ H x y v u Q I rx ry ⟨d, ds, a, b, c, e, by simpa using q⟩
  · exact op_ninDct (by omega) pins s σ H x y v u Q I rx ry ⟨a, o, e, g, by simpa using q⟩
  · exact op_ninK pins s σ H x y v u Q I rx ry ⟨a, z, b, e, e2, k, by simpa using q⟩
theorem ite_bx (neg b : Bool) : (if neg = true then !b else b) = (neg != b) := by cases neg <;> cases b <;> rfl
theorem ov_in {neg : Bool} : OpV G W (rInAll G.K G.w neg) (fIn neg) := by
  intro μ S H x y d e σ Q rp hx hy po
  have deep : ∀ (xs : List D) (a : Addr) (vs : List V), SqL G.K H a vs → DenA G μ H xs vs → Post (Den G) G W μ H σ (match xs.mapM (pyOf 8 S), pyOf 9 S d with
      | some ps, some p => R.ok (.bl (neg != ps.any fun z => PyData.eqv z p)) S
      | _, _ => .stuck) Q → rInAll G.K G.w neg x (.ref a) H Q := fun xs a vs h1 h2 po => by
    split at po
    · rename_i ps p e1 e2
      have sh : SeqAt.shaped (.list ps) = true := by
        obtain ⟨a1, a2⟩ := py_shAll (n := 8) (fun d p h => py_sh 8 d p h) xs ps e1
        unfold SeqAt.shaped
        rw [PyData.canLay0, PyData.depth, a1, decide_eq_true (by omega)]
        rfl
      exact .inr (.inl ⟨p, ps, py_den rp 9 _ _ _ hx e2, .lst h1 (py_all (fun d v p h e => py_den rp 8 d v p h e) xs vs ps h2 e1), py_shaped (by decide) e2, sh, post_ok rp po (.bl _)⟩)
    · exact po.elim
  unfold fIn at po
  cases hy with
  | tup h1 h2 =>
    obtain ⟨⟨c1, c2⟩, po⟩ := post_ite po
    split at po
    · rename_i ps p e1 e2
      obtain ⟨a1, a2⟩ := flat_all c1 hx e2 _ _ _ c2 h2 e1
      obtain ⟨b1, _⟩ := flat_py c1 hx e2
      refine .inl ⟨_, _, rfl, .inr (SqT.of h1), b1, a1, ?_⟩
      rw [a2, ite_bx]
      exact post_ok rp po (.bl _)
    · exact po.elim
  | @cdict a ks xs vs h0 h1 h2 =>
    dsimp only at po
    split at po
    · rename_i s
      cases hx
      obtain ⟨c, po⟩ := post_ite po
      exact .inr (.inr (.inr ⟨a, _, _, rfl, rfl, cd_look c h0 h1 h2 s, post_ok rp po (.bl _)⟩))
    · exact po.elim
  | @ref n a h =>
    dsimp only at po
    split at po
    · rename_i kvs e
      split at po
      · rename_i k ek
        obtain ⟨r, g, q⟩ := dget_den (d := d) (o := getK kvs k) rp h hx (by unfold dgetD; rw [e]; simp [ek])
        refine .inr (.inr (.inl ⟨a, r, rfl, g, ?_⟩))
        have e3 : r.isSome = (getK kvs k).isSome := by
          rcases q with ⟨q1, q2⟩ | ⟨x, y, q1, q2, _⟩ <;> rw [q1, q2] <;> rfl
        rw [e3]
        exact post_ok rp po (.bl _)
      · exact po.elim
    · rename_i kvs e
      split at po
      · rename_i k ek
        obtain ⟨r, g, q⟩ := dget_den (d := d) (o := getK kvs k) rp h hx (by unfold dgetD; rw [e]; simp [ek])
        refine .inr (.inr (.inl ⟨a, r, rfl, g, ?_⟩))
        have e3 : r.isSome = (getK kvs k).isSome := by
          rcases q with ⟨q1, q2⟩ | ⟨x, y, q1, q2, _⟩ <;> rw [q1, q2] <;> rfl
        rw [e3]
        exact post_ok rp po (.bl _)
      · exact po.elim
    · rename_i xs e
      obtain ⟨vs, h1, h2⟩ := RepO.sqL (rp.obj h e)
      exact deep xs a vs h1 h2 po
    · exact po.elim
  | clist h1 h2 => exact deep _ _ _ (cl_sqL h1) h2 po
  | ktup _ _ => exact po.elim
  | non => exact po.elim
  | bl _ => exact po.elim
  | int _ => exact po.elim
  | str _ => exact po.elim
  | slist _ => exact po.elim
  | clo _ => exact po.elim
  | exv0 => exact po.elim
  | exv _ _ => exact po.elim
theorem de_in {a b : Expr} {pos : Pos} {f g : FE} (A : Amb G X W) (ha : PE X a (TD G W f)) (hb : PE X b (TD G W g)) (hm : behindInMarks .In b = false := by rfl) : PE X (.Compare a [.In] [b] pos) (TD G W (x2 (fIn false) f g)) :=
  de_cmp (r := rInAll G.K G.w false) (by have := op_inAll (X := X) A.hu; rw [A.hK, A.hw] at this; exact this) ov_in hm ha hb
theorem de_nin {a b : Expr} {pos : Pos} {f g : FE} (A : Amb G X W) (ha : PE X a (TD G W f)) (hb : PE X b (TD G W g)) (hm : behindInMarks .NotIn b = false := by rfl) : PE X (.Compare a [.NotIn] [b] pos) (TD G W (x2 (fIn true) f g)) :=
  de_cmp (r := rInAll G.K G.w true) (by have := op_ninAll (X := X) A.hu; rw [A.hK, A.hw] at this; exact this) ov_in hm ha hb

/-! ### is -/
def isNonD : D → Bool
  | .non => true
  | _ => false
def fIs (neg : Bool) : F2 := fun d e S => match e with
  | .non => .ok (.bl (neg != isNonD d)) S
  | .bl b => match d with
    | .bl a => .ok (.bl (neg != decide (a = b))) S
    | _ => .stuck
  | _ => .stuck
theorem den_non {μ : List Addr} {H : Hp} {d : D} {v : V} (h : Den G μ H d v) : isNonD d = decide (v = .non) := by
  cases h <;> simp [isNonD]
theorem ov_is {neg : Bool} : OpV G W (fun x y H Q => (y = .non ∧ Q (.bl (neg != decide (x = .non))) H) ∨ ∃ a b : Bool, x = .bl a ∧ y = .bl b ∧ Q (.bl (neg != decide (a = b))) H) (fIs neg) := by
  intro μ S H x y d e σ Q rp hx hy po
  unfold fIs at po
  split at po
  · cases hy
    refine .inl ⟨rfl, ?_⟩
    rw [← den_non hx]
    exact post_ok rp po (.bl _)
  · cases hy
    split at po
    · cases hx
      exact .inr ⟨_, _, rfl, rfl, post_ok rp po (.bl _)⟩
    · exact po.elim
  · exact po.elim
theorem de_is {a b : Expr} {pos : Pos} {f g : FE} (ha : PE X a (TD G W f)) (hb : PE X b (TD G W g)) : PE X (.Compare a [.Is] [b] pos) (TD G W (x2 (fIs false) f g)) :=
  de_cmp (r := fun x y H Q => (y = .non ∧ Q (.bl (false != decide (x = .non))) H) ∨ ∃ a b : Bool, x = .bl a ∧ y = .bl b ∧ Q (.bl (false != decide (a = b))) H) (by
    have := (op_isN (X := X)).or op_isBl
    intro pins s σ H x y v u Q I rx ry h
    exact this pins s σ H x y v u Q I rx ry (h.imp (fun ⟨p, q⟩ => ⟨p, by simpa using q⟩) fun ⟨a, b, p, r, q⟩ => ⟨a, b, p, r, by simpa using q⟩)) ov_is (nomark b) ha hb
theorem de_isnot {a b : Expr} {pos : Pos} {f g : FE} (ha : PE X a (TD G W f)) (hb : PE X b (TD G W g)) : PE X (.Compare a [.IsNot] [b] pos) (TD G W (x2 (fIs true) f g)) :=
  de_cmp (r := fun x y H Q => (y = .non ∧ Q (.bl (true != decide (x = .non))) H) ∨ ∃ a b : Bool, x = .bl a ∧ y = .bl b ∧ Q (.bl (true != decide (a = b))) H) (by
    have := (op_notN (X := X)).or op_notBl
    intro pins s σ H x y v u Q I rx ry h
    exact this pins s σ H x y v u Q I rx ry (h.imp (fun ⟨p, q⟩ => ⟨p, by simpa using q⟩) fun ⟨a, b, p, r, q⟩ => ⟨a, b, p, r, by simpa using q⟩)) ov_is (nomark b) ha hb
end Dx

/-! Dx4: comparisons as values and tests, chains, truth, and / or / not, conditional expressions, subscripts, slices. -/
namespace Dx
open PySem PySem.Spec L2
variable {G : Gx} {X : Cx} {W : WX}

/-- a comparison's rule and its step -/
def CmpD (X : Cx) (G : Gx) (W : WX) (op : CmpOp) (h : F2) : Prop := ∃ r, OpR X (compareOp op) r ∧ OpV G W r h
theorem c_eq (A : Amb G X W) : CmpD X G W .Eq (fEq false) := ⟨rEqD G.K, by have := op_eqD (X := X) (by have := A.hu; omega); rw [A.hK] at this; exact this, ov_eq⟩
theorem c_ne (A : Amb G X W) : CmpD X G W .NotEq (fEq true) := ⟨rNeD G.K, by have := op_neD (X := X) (by have := A.hu; omega); rw [A.hK] at this; exact this, ov_ne⟩
theorem c_lt (A : Amb G X W) : CmpD X G W .Lt fLt := ⟨_, op_lt, ov_I fun _ _ _ _ => .bl _⟩
theorem c_le (A : Amb G X W) : CmpD X G W .LtE fLe := ⟨_, op_le, ov_I fun _ _ _ _ => .bl _⟩
theorem c_gt (A : Amb G X W) : CmpD X G W .Gt fGt := ⟨_, op_gt, ov_I fun _ _ _ _ => .bl _⟩
theorem c_ge (A : Amb G X W) : CmpD X G W .GtE fGe := ⟨_, op_ge, ov_I fun _ _ _ _ => .bl _⟩
theorem c_in (A : Amb G X W) : CmpD X G W .In (fIn false) := ⟨rInAll G.K G.w false, by have := op_inAll (X := X) A.hu; rw [A.hK, A.hw] at this; exact this, ov_in⟩
theorem c_nin (A : Amb G X W) : CmpD X G W .NotIn (fIn true) := ⟨rInAll G.K G.w true, by have := op_ninAll (X := X) A.hu; rw [A.hK, A.hw] at this; exact this, ov_in⟩
theorem c_is (A : Amb G X W) : CmpD X G W .Is (fIs false) := ⟨fun x y H Q => (y = .non ∧ Q (.bl (false != decide (x = .non))) H) ∨ ∃ a b : Bool, x = .bl a ∧ y = .bl b ∧ Q (.bl (false != decide (a = b))) H, by
    have := (op_isN (X := X)).or op_isBl
    intro pins s σ H x y v u Q I rx ry h
    exact this pins s σ H x y v u Q I rx ry (h.imp (fun ⟨p, q⟩ => ⟨p, by simpa using q⟩) fun ⟨a, b, p, r, q⟩ => ⟨a, b, p, r, by simpa using q⟩), ov_is⟩
theorem c_isnot (A : Amb G X W) : CmpD X G W .IsNot (fIs true) := ⟨fun x y H Q => (y = .non ∧ Q (.bl (true != decide (x = .non))) H) ∨ ∃ a b : Bool, x = .bl a ∧ y = .bl b ∧ Q (.bl (true != decide (a = b))) H, by
    have := (op_notN (X := X)).or op_notBl
    intro pins s σ H x y v u Q I rx ry h
    exact this pins s σ H x y v u Q I rx ry (h.imp (fun ⟨p, q⟩ => ⟨p, by simpa using q⟩) fun ⟨a, b, p, r, q⟩ => ⟨a, b, p, r, by simpa using q⟩), ov_is⟩
theorem de_c {a b : Expr} {op : CmpOp} {pos : Pos} {h : F2} {f g : FE} (c : CmpD X G W op h) (ha : PE X a (TD G W f)) (hb : PE X b (TD G W g)) (hm : behindInMarks op b = false := by rfl) : PE X (.Compare a [op] [b] pos) (TD G W (x2 h f g)) := by
  obtain ⟨r, ho, o⟩ := c
  exact de_cmp ho o hm ha hb
/-! ### tests -/
/-- a value that is a bool -/
def tBl (f : FE) : FT := fun ρ S => (f ρ S).bind fun d S1 => match d with
  | .bl b => .ok b S1
  | _ => .stuck
theorem td_bl {f : FE} {σ : L2.St} {H : Hp} {Q : Bool → Hp → Prop} (q : TDT G W (tBl f) σ H Q) : tTest (TD G W f) σ H Q := by
  obtain ⟨μ, ρ, S, en, rp, p⟩ := tdg_bind (rel := Den G) (k := fun ρ d S1 => (match d with
    | D.bl b => R.ok b S1
    | _ => .stuck : R Bool)) q
  refine ⟨μ, ρ, S, en, rp, p.mono fun x H1 ⟨μ1, ρ1, d, S1, en1, rp1, dd, p1⟩ => ?_⟩
  split at p1
  · cases dd
    exact ⟨_, rfl, p1 _ _ _ .refl rp1 rfl⟩
  · exact p1.elim
theorem dt_c {a b : Expr} {op : CmpOp} {pos : Pos} {h : F2} {f g : FE} (c : CmpD X G W op h) (ha : PE X a (TD G W f)) (hb : PE X b (TD G W g)) (hm : behindInMarks op b = false := by rfl) : PT X (.Compare a [op] [b] pos) (TDT G W (tBl (x2 h f g))) := by
  obtain ⟨r, ho, o⟩ := c
  refine PT.imp (pt_cmpR ho ha hb hm) fun σ H Q q => ?_
  obtain ⟨μ, ρ, S, en, rp, p⟩ := td_bl q
  exact td_op o ⟨μ, ρ, S, en, rp, p⟩
/-! ### chains -/
def xChain (h h' : F2) (f g k : FE) : FE := fun ρ S => (f ρ S).bind fun d S1 => (g ρ S1).bind fun e S2 => (h d e S2).bind fun z S3 => match z with
  | .bl true => (k ρ S3).bind fun c S4 => h' e c S4
  | .bl false => .ok (.bl false) S3
  | _ => .stuck
theorem td_chain {r r' : R2} {h h' : F2} {f g k : FE} (o : OpV G W r h) (o' : OpV G W r' h') {σ : L2.St} {H : Hp} {Q : VK} (q : TD G W (xChain h h' f g k) σ H Q) : tChain r r' (TD G W f) (TD G W g) (TD G W k) σ H Q := by
  obtain ⟨μ, ρ, S, en, rp, p⟩ := q
  refine ⟨μ, ρ, S, en, rp, (post_bind p).mono fun x H1 ⟨μ1, d, S1, pe1, rp1, dd, p1⟩ => ?_⟩
  refine ⟨μ1, ρ, S1, en.per pe1, rp1, (post_bind p1).mono fun y H2 ⟨μ2, e, S2, pe2, rp2, de, p2⟩ => ?_⟩
  refine o _ _ _ _ _ _ _ _ _ rp2 (dd.per pe2) de ((post_bind p2).mono fun z H3 ⟨μ3, zd, S3, pe3, rp3, dz, p3⟩ => ?_)
  split at p3
  · cases dz
    refine ⟨true, rfl, ?_⟩
    rw [if_pos rfl]
    exact ⟨μ3, ρ, S3, ((en.per pe1).per pe2).per pe3, rp3, (post_bind p3).mono fun w H4 ⟨μ4, c, S4, pe4, rp4, dc, p4⟩ => o' _ _ _ _ _ _ _ _ _ rp4 ((de.per pe3).per pe4) dc p4⟩
  · cases dz
    refine ⟨false, rfl, ?_⟩
    rw [if_neg Bool.false_ne_true]
    exact post_ok rp3 p3 (.bl _)
  · exact p3.elim
theorem de_chain {a b c : Expr} {op op' : CmpOp} {pos : Pos} {h h' : F2} {f g k : FE} (c1 : CmpD X G W op h) (c2 : CmpD X G W op' h') (ha : PE X a (TD G W f)) (hb : PE X b (TD G W g)) (hc : PE X c (TD G W k))
    (hm : lastMarks [op, op'] [b, c] = false := by with_unfolding_all rfl) : PE X (.Compare a [op, op'] [b, c] pos) (TD G W (xChain h h' f g k)) := by
  obtain ⟨r, ho, o⟩ := c1
  obtain ⟨r', ho', o'⟩ := c2
  exact PE.imp (pe_chain ho ho' ha hb hc hm) fun σ H Q q => td_chain o o' q
theorem dt_chain {a b c : Expr} {op op' : CmpOp} {pos : Pos} {h h' : F2} {f g k : FE} (c1 : CmpD X G W op h) (c2 : CmpD X G W op' h') (ha : PE X a (TD G W f)) (hb : PE X b (TD G W g)) (hc : PE X c (TD G W k))
    (hm : lastMarks [op, op'] [b, c] = false := by with_unfolding_all rfl) : PT X (.Compare a [op, op'] [b, c] pos) (TDT G W (tBl (xChain h h' f g k))) := by
  obtain ⟨r, ho, o⟩ := c1
  obtain ⟨r', ho', o'⟩ := c2
  refine PT.imp (pt_chain ho ho' ha hb hc hm) fun σ H Q q => ?_
  obtain ⟨μ, ρ, S, en, rp, p⟩ := td_bl q
  exact td_chain o o' ⟨μ, ρ, S, en, rp, p⟩
/-! ### truth -/
def truD (S : Sg) : D → Option Bool
  | .non => some false
  | .bl b => some b
  | .int i => some (i != 0)
  | .str s => if s.length ≤ 16777216 then some ((s.length : Int) != 0) else none
  | .tup xs => some (!xs.isEmpty)
  | .ktup xs => some (!xs.isEmpty)
  | .clist xs => some (!xs.isEmpty)
  | .ref n => match S[n]? with
    | some (.lst xs) => some (!xs.isEmpty)
    | some (.dct kvs) => some (!kvs.isEmpty)
    | _ => none
  | _ => none
theorem DenA.isEmpty {μ : List Addr} {H : Hp} {xs : List D} {vs : List V} (h : DenA G μ H xs vs) : xs.isEmpty = vs.isEmpty := by cases h <;> rfl
theorem tru_den {μ : List Addr} {H : Hp} {S : Sg} {d : D} {v : V} {b : Bool} (rp : Rep G μ S H) (h : Den G μ H d v) (e : truD S d = some b) : TruV G.K v H b := by
  cases h with
  | non => simp [truD] at e; exact e
  | bl _ => simp [truD] at e; exact e.symm
  | int _ => simp [truD] at e; exact e.symm
  | str s =>
    simp only [truD] at e
    split at e
    · rename_i c
      refine ⟨by rw [ofS_len, sl_eq]; exact c, ?_⟩
      rw [ofS_len]
      exact (Option.some.inj e).symm
    · cases e
  | tup h1 h2 => simp only [truD] at e; exact .inr (.inl ⟨_, SqT.of h1, by rw [← h2.isEmpty]; exact (Option.some.inj e).symm⟩)
  | ktup h1 h2 => simp only [truD] at e; exact .inr (.inl ⟨_, h1 _, by rw [← h2.isEmpty]; exact (Option.some.inj e).symm⟩)
  | clist h1 h2 => simp only [truD] at e; exact .inl ⟨_, cl_sqL h1, by rw [← h2.isEmpty]; exact (Option.some.inj e).symm⟩
  | ref h =>
    simp only [truD] at e
    split at e
    · rename_i xs eo
      obtain ⟨vs, h1, h2⟩ := RepO.sqL (rp.obj h eo)
      exact .inl ⟨vs, h1, by rw [← h2.isEmpty]; exact (Option.some.inj e).symm⟩
    · rename_i kvs eo
      obtain ⟨gs, h1, h2⟩ := rp.obj h eo
      refine .inr (.inr ⟨gs, h1, ?_⟩)
      have l := congrArg List.isEmpty h2.1
      rw [List.isEmpty_map, List.isEmpty_map] at l
      rw [l]
      exact (Option.some.inj e).symm
    · cases e
  | cdict _ _ _ => simp [truD] at e
  | slist _ => simp [truD] at e
  | clo _ => simp [truD] at e
  | exv0 => simp [truD] at e
  | exv _ _ => simp [truD] at e
def tTru (f : FE) : FT := fun ρ S => (f ρ S).bind fun d S1 => match truD S1 d with
  | some b => .ok b S1
  | none => .stuck
theorem dt_truth {a : Expr} {f : FE} (A : Amb G X W) (ha : PE X a (TD G W f)) (he : ∀ whole, isTrue a X.env whole = (do let v ← whole; standAt a.pos; holding [v] (truthy v)) := by intro _; rfl) : PT X a (TDT G W (tTru f)) := by
  refine PT.imp (pt_truth ha he) fun σ H Q q => ?_
  obtain ⟨μ, ρ, S, en, rp, p⟩ := tdg_bind (rel := Den G) (k := fun ρ d S1 => (match truD S1 d with
    | some b => R.ok b S1
    | none => .stuck : R Bool)) q
  refine ⟨μ, ρ, S, en, rp, p.mono fun x H1 ⟨μ1, ρ1, d, S1, en1, rp1, dd, p1⟩ => ?_⟩
  split at p1
  · rename_i b e
    rw [A.hK]
    exact ⟨b, tru_den rp1 dd e, p1 _ _ _ .refl rp1 rfl⟩
  · exact p1.elim
/-! ### and, or, not, if else -/
def xAnd (f g : FE) : FE := fun ρ S => (f ρ S).bind fun d S1 => match truD S1 d with
  | some true => g ρ S1
  | some false => .ok d S1
  | none => .stuck
def xOr (f g : FE) : FE := fun ρ S => (f ρ S).bind fun d S1 => match truD S1 d with
  | some true => .ok d S1
  | some false => g ρ S1
  | none => .stuck
def xNot (f : FE) : FE := fun ρ S => (f ρ S).bind fun d S1 => match truD S1 d with
  | some b => .ok (.bl (!b)) S1
  | none => .stuck
theorem de_one {op : BoolOp} {a : Expr} {pos : Pos} {f : FE} (ha : PE X a (TD G W f)) : PE X (.BoolOp op [a] pos) (TD G W f) := pe_one ha
theorem de_and {a b : Expr} {rest : List Expr} {pos : Pos} {f g : FE} (A : Amb G X W) (ha : PE X a (TD G W f)) (hb : PE X (.BoolOp .And (b :: rest) pos) (TD G W g)) : PE X (.BoolOp .And (a :: b :: rest) pos) (TD G W (xAnd f g)) := by
  refine PE.imp (pe_andT ha hb) fun σ H Q q => ?_
  obtain ⟨μ, ρ, S, en, rp, p⟩ := q
  refine ⟨μ, ρ, S, en, rp, (post_bind p).mono fun x H1 ⟨μ1, d, S1, pe1, rp1, dd, p1⟩ => ?_⟩
  rw [A.hK]
  split at p1
  · rename_i e
    refine ⟨true, tru_den rp1 dd e, ?_⟩
    rw [if_pos rfl]
    exact ⟨μ1, ρ, S1, en.per pe1, rp1, p1⟩
  · rename_i e
    refine ⟨false, tru_den rp1 dd e, ?_⟩
    rw [if_neg Bool.false_ne_true]
    exact post_ok rp1 p1 dd
  · exact p1.elim
theorem de_or {a b : Expr} {rest : List Expr} {pos : Pos} {f g : FE} (A : Amb G X W) (ha : PE X a (TD G W f)) (hb : PE X (.BoolOp .Or (b :: rest) pos) (TD G W g)) : PE X (.BoolOp .Or (a :: b :: rest) pos) (TD G W (xOr f g)) := by
  refine PE.imp (pe_orT ha hb) fun σ H Q q => ?_
  obtain ⟨μ, ρ, S, en, rp, p⟩ := q
  refine ⟨μ, ρ, S, en, rp, (post_bind p).mono fun x H1 ⟨μ1, d, S1, pe1, rp1, dd, p1⟩ => ?_⟩
  rw [A.hK]
  split at p1
  · rename_i e
    refine ⟨true, tru_den rp1 dd e, ?_⟩
    rw [if_pos rfl]
    exact post_ok rp1 p1 dd
  · rename_i e
    refine ⟨false, tru_den rp1 dd e, ?_⟩
    rw [if_neg Bool.false_ne_true]
    exact ⟨μ1, ρ, S1, en.per pe1, rp1, p1⟩
  · exact p1.elim
theorem de_not {a : Expr} {pos : Pos} {f : FE} (A : Amb G X W) (ha : PE X a (TD G W f)) : PE X (.UnaryOp .Not a pos) (TD G W (xNot f)) := by
  refine PE.imp (pe_notT ha) fun σ H Q q => ?_
  obtain ⟨μ, ρ, S, en, rp, p⟩ := q
  refine ⟨μ, ρ, S, en, rp, (post_bind p).mono fun x H1 ⟨μ1, d, S1, pe1, rp1, dd, p1⟩ => ?_⟩
  rw [A.hK]
  split at p1
  · rename_i b e
    exact ⟨b, tru_den rp1 dd e, post_ok rp1 p1 (.bl _)⟩
  · exact p1.elim
def tAndF (f g : FT) : FT := fun ρ S => (f ρ S).bind fun b S1 => match b with
  | true => g ρ S1
  | false => .ok false S1
def tOrF (f g : FT) : FT := fun ρ S => (f ρ S).bind fun b S1 => match b with
  | true => .ok true S1
  | false => g ρ S1
def tNotF (f : FT) : FT := fun ρ S => (f ρ S).bind fun b S1 => .ok (!b) S1
def xIf (c : FT) (f g : FE) : FE := fun ρ S => (c ρ S).bind fun b S1 => match b with
  | true => f ρ S1
  | false => g ρ S1
theorem dw_and1 {a : Expr} {pos : Pos} {f : FT} (ha : PT X a (TDT G W f)) : PW X (.BoolOp .And [a] pos) (TDT G W f) := pw_and1 ha
theorem dw_or1 {a : Expr} {pos : Pos} {f : FT} (ha : PT X a (TDT G W f)) : PW X (.BoolOp .Or [a] pos) (TDT G W f) := pw_or1 ha
theorem dw_and {a b : Expr} {rest : List Expr} {pos : Pos} {f g : FT} (ha : PT X a (TDT G W f)) (hb : PW X (.BoolOp .And (b :: rest) pos) (TDT G W g)) : PW X (.BoolOp .And (a :: b :: rest) pos) (TDT G W (tAndF f g)) := by
  refine PW.imp (pw_and ha hb) fun σ H Q q => ?_
  obtain ⟨μ, ρ, S, en, rp, p⟩ := q
  refine ⟨μ, ρ, S, en, rp, (post_bind p).mono fun x H1 ⟨μ1, k, S1, pe1, rp1, dd, p1⟩ => ?_⟩
  have ek : k = x := dd
  subst ek
  cases k with
  | true => rw [if_pos rfl]; exact ⟨μ1, ρ, S1, en.per pe1, rp1, p1⟩
  | false => rw [if_neg Bool.false_ne_true]; exact p1 _ _ _ .refl rp1 rfl
theorem dw_or {a b : Expr} {rest : List Expr} {pos : Pos} {f g : FT} (ha : PT X a (TDT G W f)) (hb : PW X (.BoolOp .Or (b :: rest) pos) (TDT G W g)) : PW X (.BoolOp .Or (a :: b :: rest) pos) (TDT G W (tOrF f g)) := by
  refine PW.imp (pw_or ha hb) fun σ H Q q => ?_
  obtain ⟨μ, ρ, S, en, rp, p⟩ := q
  refine ⟨μ, ρ, S, en, rp, (post_bind p).mono fun x H1 ⟨μ1, k, S1, pe1, rp1, dd, p1⟩ => ?_⟩
  have ek : k = x := dd
  subst ek
  cases k with
  | true => rw [if_pos rfl]; exact p1 _ _ _ .refl rp1 rfl
  | false => rw [if_neg Bool.false_ne_true]; exact ⟨μ1, ρ, S1, en.per pe1, rp1, p1⟩
theorem dt_w {e : Expr} {f : FT} (h : PW X e (TDT G W f)) : PT X e (TDT G W f) := h.pt
theorem dt_not {a : Expr} {pos : Pos} {f : FT} (ha : PT X a (TDT G W f)) : PT X (.UnaryOp .Not a pos) (TDT G W (tNotF f)) := by
  refine PT.imp (pt_not ha) fun σ H Q q => ?_
  obtain ⟨μ, ρ, S, en, rp, p⟩ := q
  refine ⟨μ, ρ, S, en, rp, (post_bind p).mono fun x H1 ⟨μ1, k, S1, pe1, rp1, dd, p1⟩ => ?_⟩
  cases dd
  exact p1 _ _ _ .refl rp1 rfl
theorem de_if {c a b : Expr} {pos : Pos} {t : FT} {f g : FE} (hc : PT X c (TDT G W t)) (ha : PE X a (TD G W f)) (hb : PE X b (TD G W g)) : PE X (.IfExp c a b pos) (TD G W (xIf t f g)) := by
  refine PE.imp (pe_ifExp hc ha hb) fun σ H Q q => ?_
  obtain ⟨μ, ρ, S, en, rp, p⟩ := q
  refine ⟨μ, ρ, S, en, rp, (post_bind p).mono fun x H1 ⟨μ1, k, S1, pe1, rp1, dd, p1⟩ => ?_⟩
  have ek : k = x := dd
  subst ek
  cases k with
  | true => rw [if_pos rfl]; exact ⟨μ1, ρ, S1, en.per pe1, rp1, p1⟩
  | false => rw [if_neg Bool.false_ne_true]; exact ⟨μ1, ρ, S1, en.per pe1, rp1, p1⟩

/-! ### subscripts -/
theorem DenA.atI {μ : List Addr} {H : Hp} {xs : List D} {vs : List V} {i : Int} {d : D} (h : DenA G μ H xs vs) (e : atI xs i = some d) : ∃ v, L2.atI vs i = some v ∧ Den G μ H d v := by
  unfold L2.atI at e ⊢
  rw [← h.length]
  obtain ⟨j, h1, h2⟩ := Option.bind_eq_some_iff.mp e
  obtain ⟨v, h3, h4⟩ := h.get h2
  exact ⟨v, by rw [h1]; exact h3, h4⟩
def outD (S : Sg) : Option D → R D
  | some d => .ok d S
  | none => .stuck
def ixSeq (S : Sg) (xs : List D) : D → R D
  | .int i => outD S (atI xs i)
  | _ => .stuck
def fIx : F2 := fun d e S => match d with
  | .tup xs => ixSeq S xs e
  | .ktup xs => ixSeq S xs e
  | .clist xs => ixSeq S xs e
  | .slist ns => ixSeq S (ns.map .int) e
  | .cdict ks xs => match e with
    | .str s => if ks.length = xs.length then outD S (getCd ks xs s) else .stuck
    | _ => .stuck
  | .ref n => match S[n]? with
    | some (.lst xs) => ixSeq S xs e
    | some (.dct kvs) => outD S ((keyD e).bind (getK kvs))
    | some (.dtt kvs) => outD S ((keysD e).bind (getK kvs))
    | _ => .stuck
  | _ => .stuck
def rIxAll (K : PySem.W.Frag) (w : World) : R2 := fun x y H Q => rIx K x y H Q ∨ (∃ a v, x = .ref a ∧ DGet H a y (some v) ∧ Q v H) ∨ rIxD K w x y H Q
theorem ix_all (hu : X.A.units + 1 < cLine) : IxR X (rIxAll X.K X.w) := by
  intro value slice pins s σ H x y v u Q I rx ry h hs
  rcases h with h | ⟨a, r, rfl, g, q⟩ | h
  · exact ix_seq value slice pins s σ H x y v u Q I rx ry h hs
  · obtain rfl : v = Value.ref a := rx
    exact PyProof.Rows.tail_any (dict_typeIs I g) PySem.F.slot_dict_getitem.lookup (d_getItem hu I g ry fun w' s' I' rv => ⟨r, H, I', rv, q⟩) hs
  · exact ix_kdict value slice pins s σ H x y v u Q I rx ry h hs
theorem post_out {μ : List Addr} {H : Hp} {σ : L2.St} {S : Sg} {o : Option D} {Q : VK} (h : Post (Den G) G W μ H σ (outD S o) Q) : ∃ d, o = some d ∧ Post (Den G) G W μ H σ (.ok d S) Q := by
  cases o with
  | none => exact h.elim
  | some d => exact ⟨d, rfl, h⟩
theorem den_ints {μ : List Addr} {H : Hp} : ∀ l : List Int, DenA G μ H (l.map D.int) (l.map V.int)
  | [] => .nil
  | i :: l => .cons (.int i) (den_ints l)
theorem ov_ix : OpV G W (rIxAll G.K G.w) fIx := by
  intro μ S H x y d e σ Q rp hx hy po
  have sq : ∀ (xs : List D) (a : Addr) (vs : List V), (SqL G.K H a vs ∨ SqT G.K H a vs) → DenA G μ H xs vs → Post (Den G) G W μ H σ (ixSeq S xs e) Q → rIxAll G.K G.w (.ref a) y H Q := fun xs a vs h1 h2 po => by
    unfold ixSeq at po
    split at po
    · cases hy
      obtain ⟨r, e1, po⟩ := post_out po
      obtain ⟨v, e2, dv⟩ := h2.atI e1
      rcases h1 with h1 | h1
      · exact .inl (.inl ⟨_, _, _, _, rfl, rfl, h1, e2, post_ok rp po dv⟩)
      · exact .inl (.inr (.inl ⟨_, _, _, _, rfl, rfl, h1, e2, post_ok rp po dv⟩))
    · exact po.elim
  unfold fIx at po
  cases hx with
  | tup h1 h2 => exact sq _ _ _ (.inr (SqT.of h1)) h2 po
  | ktup h1 h2 => exact sq _ _ _ (.inr (h1 _)) h2 po
  | clist h1 h2 => exact sq _ _ _ (.inl (cl_sqL h1)) h2 po
  | slist h1 => exact sq _ _ _ (.inl (sl_sqL h1)) (den_ints _) po
  | @cdict a ks xs vs h0 h1 h2 =>
    dsimp only at po
    split at po
    · rename_i s
      cases hy
      obtain ⟨c, po⟩ := post_ite po
      obtain ⟨r, e1, po⟩ := post_out po
      rcases denA_zip s h2 c with ⟨e, _⟩ | ⟨d, v, e, m, dv⟩
      · rw [e] at e1; cases e1
      · rw [e] at e1; cases e1
        exact .inr (.inr ⟨_, _, v, rfl, rfl, h1 _ m, post_ok rp po dv⟩)
    · exact po.elim
  | @ref n a h =>
    dsimp only at po
    split at po
    · rename_i xs eo
      obtain ⟨vs, h1, h2⟩ := RepO.sqL (rp.obj h eo)
      exact sq _ _ _ (.inl h1) h2 po
    · rename_i kvs eo
      obtain ⟨r, e1, po⟩ := post_out po
      obtain ⟨k, ek, e2⟩ := Option.bind_eq_some_iff.mp e1
      obtain ⟨o, g, q⟩ := dget_den (d := e) (o := getK kvs k) rp h hy (by unfold dgetD; rw [eo]; simp [ek])
      rcases q with ⟨q1, _⟩ | ⟨x', y', q1, q2, q3⟩
      · rw [e2] at q1; cases q1
      · rw [e2] at q1; cases q1
        subst q2
        exact .inr (.inl ⟨a, y', rfl, g, post_ok rp po q3⟩)
    · rename_i kvs eo
      obtain ⟨r, e1, po⟩ := post_out po
      obtain ⟨k, ek, e2⟩ := Option.bind_eq_some_iff.mp e1
      obtain ⟨o, g, q⟩ := dget_den (d := e) (o := getK kvs k) rp h hy (by unfold dgetD; rw [eo]; simp [ek])
      rcases q with ⟨q1, _⟩ | ⟨x', y', q1, q2, q3⟩
      · rw [e2] at q1; cases q1
      · rw [e2] at q1; cases q1
        subst q2
        exact .inr (.inl ⟨a, y', rfl, g, post_ok rp po q3⟩)
    · exact po.elim
  | non => exact po.elim
  | bl _ => exact po.elim
  | int _ => exact po.elim
  | str _ => exact po.elim
  | clo _ => exact po.elim
  | exv0 => exact po.elim
  | exv _ _ => exact po.elim
theorem de_sub' {a b : Expr} {pos : Pos} {f g : FE} (A : Amb G X W) (ha : PE X a (TD G W f)) (hb : PE X b (TD G W g)) (hs : PlainIx b := by exact fun _ _ => rfl) : PE X (.Subscript a b pos) (TD G W (x2 fIx f g)) :=
  de_ix (r := rIxAll G.K G.w) (by have := ix_all (X := X) (by have := A.hu; omega); rw [A.hK, A.hw] at this; exact this) ov_ix ha hb hs

/-! ### slices -/
def cutD (xs : List D) (lo hi : Option Int) : List D := (xs.drop (HT.sIx xs.length 0 lo)).take (HT.sIx xs.length xs.length hi - HT.sIx xs.length 0 lo)
def oNone : FO := fun _ S => .ok none S
def oSome (f : FE) : FO := fun ρ S => (f ρ S).bind fun d S1 => match d with
  | .int i => .ok (some i) S1
  | _ => .stuck
theorem do_none : PO X none (TDO G W oNone) := PO.imp po_none fun σ H Q ⟨μ, ρ, S, en, rp, p⟩ => p _ _ _ .refl rp rfl
theorem do_some {e : Expr} {f : FE} (h : PE X e (TD G W f)) : PO X (some e) (TDO G W (oSome f)) := by
  refine PO.imp (po_some h) fun σ H Q q => ?_
  obtain ⟨μ, ρ, S, en, rp, p⟩ := q
  refine ⟨μ, ρ, S, en, rp, (post_bind p).mono fun x H1 ⟨μ1, d, S1, pe1, rp1, dd, p1⟩ => ?_⟩
  split at p1
  · cases dd
    exact ⟨_, rfl, p1 _ _ _ .refl rp1 rfl⟩
  · exact p1.elim
def fSl (d : D) (lo hi : Option Int) (S : Sg) : R D := match d with
  | .tup xs => if HT.sIx xs.length 0 lo = 0 ∧ HT.sIx xs.length xs.length hi = xs.length then .ok d S else .ok (.tup (cutD xs lo hi)) S
  | .ktup xs => if HT.sIx xs.length 0 lo = 0 ∧ HT.sIx xs.length xs.length hi = xs.length then .ok d S else .ok (.tup (cutD xs lo hi)) S
  | .clist xs => newO (.lst (cutD xs lo hi)) S
  | .ref n => match S[n]? with
    | some (.lst xs) => newO (.lst (cutD xs lo hi)) S
    | _ => .stuck
  | _ => .stuck
def xSl (f : FE) (l h : FO) : FE := fun ρ S => (f ρ S).bind fun d S1 => (l ρ S1).bind fun lo S2 => (h ρ S2).bind fun hi S3 => fSl d lo hi S3
theorem DenA.cut {μ : List Addr} {H : Hp} {xs : List D} {vs : List V} (h : DenA G μ H xs vs) (lo hi : Option Int) : DenA G μ H (cutD xs lo hi) (cutV vs lo hi) := by
  unfold cutD cutV
  rw [h.length]
  exact (h.drop _).take _
theorem ov_sl (g : G.Ok) {μ : List Addr} {S : Sg} {H : Hp} {x : V} {d : D} {lo hi : Option Int} {σ : L2.St} {Q : VK} (rp : Rep G μ S H) (hx : Den G μ H d x) (po : Post (Den G) G W μ H σ (fSl d lo hi S) Q) : rSlL G.K x lo hi H Q ∨ rSlA G.K x lo hi H Q := by
  have tp : ∀ (xs : List D) (a : Addr) (vs : List V), x = .ref a → SqT G.K H a vs → DenA G μ H xs vs → Post (Den G) G W μ H σ (if HT.sIx xs.length 0 lo = 0 ∧ HT.sIx xs.length xs.length hi = xs.length then .ok d S else .ok (.tup (cutD xs lo hi)) S) Q → rSlA G.K x lo hi H Q := fun xs a vs e h1 h2 po => by
    subst e
    refine ⟨a, vs, rfl, h1, fun c => ?_, fun c p hp => ?_⟩
    · rw [← h2.length] at c
      rw [if_pos c] at po
      exact post_ok rp po hx
    · rw [← h2.length] at c
      rw [if_neg c] at po
      exact post_tup g rp (h2.cut lo hi) po hp
  have ls : ∀ (xs : List D) (a : Addr) (vs : List V), x = .ref a → SqL G.K H a vs → DenA G μ H xs vs → Post (Den G) G W μ H σ (newO (.lst (cutD xs lo hi)) S) Q → rSlL G.K x lo hi H Q := fun xs a vs e h1 h2 po =>
    ⟨a, vs, e, h1, fun p hp => post_lst g rp (h2.cut lo hi) po hp⟩
  unfold fSl at po
  cases hx with
  | tup h1 h2 => exact .inr (tp _ _ _ rfl (SqT.of h1) h2 po)
  | ktup h1 h2 => exact .inr (tp _ _ _ rfl (h1 _) h2 po)
  | clist h1 h2 => exact .inl (ls _ _ _ rfl (cl_sqL h1) h2 po)
  | ref h =>
    dsimp only at po
    split at po
    · rename_i xs eo
      obtain ⟨vs, h1, h2⟩ := RepO.sqL (rp.obj h eo)
      exact .inl (ls _ _ _ rfl h1 h2 po)
    · exact po.elim
  | non => exact po.elim
  | bl _ => exact po.elim
  | int _ => exact po.elim
  | str _ => exact po.elim
  | clo _ => exact po.elim
  | exv0 => exact po.elim
  | exv _ _ => exact po.elim
  | slist _ => exact po.elim
  | cdict _ _ _ => exact po.elim
theorem de_slice {e : Expr} {lo hi : Option Expr} {p2 pos : Pos} {f : FE} {l h : FO} (A : Amb G X W) (he : PE X e (TD G W f)) (hl : PO X lo (TDO G W l)) (hh : PO X hi (TDO G W h)) : PE X (.Subscript e (.Slice lo hi none p2) pos) (TD G W (xSl f l h)) := by
  have hr : SlR X (fun x lo hi H Q => rSlL G.K x lo hi H Q ∨ rSlA G.K x lo hi H Q) := by
    have := (sl_list (X := X)).or sl_tupA
    rw [A.hK] at this
    exact this
  refine PE.imp (pe_slice hr he hl hh) fun σ H Q q => ?_
  obtain ⟨μ, ρ, S, en, rp, p⟩ := q
  refine ⟨μ, ρ, S, en, rp, (post_bind p).mono fun x H1 ⟨μ1, d, S1, pe1, rp1, dd, p1⟩ => ?_⟩
  refine ⟨μ1, ρ, S1, en.per pe1, rp1, (post_bind p1).mono fun lo' H2 ⟨μ2, lo, S2, pe2, rp2, el, p2⟩ => ?_⟩
  refine ⟨μ2, ρ, S2, (en.per pe1).per pe2, rp2, (post_bind p2).mono fun hi' H3 ⟨μ3, hi, S3, pe3, rp3, eh, p3⟩ => ?_⟩
  cases el
  cases eh
  exact ov_sl A.ok rp3 ((dd.per pe2).per pe3) p3
end Dx

/-! Dx5: statements, targets, defs and calls. -/
namespace Dx
open PySem PySem.Spec L2
variable {G : Gx} {X : Cx} {W : WX}

inductive Fl where
  | nx (ρ : Ev) (S : Sg)
  | rt (d : D) (S : Sg)
  | bk (ρ : Ev) (S : Sg)
  | ct (ρ : Ev) (S : Sg)
  | exc (c : Nat) (fs : List (String × D)) (ρ : Ev) (S : Sg)
  | stuck
abbrev FS := Ev → Sg → Fl
def R.go {α : Type} (r : R α) (ρ : Ev) (k : α → Sg → Fl) : Fl := match r with
  | .ok a s => k a s
  | .exc c fs s => .exc c fs ρ s
  | .stuck => .stuck
def PostS (G : Gx) (W : WX) (μ : List Addr) (H : Hp) (Z : Ends) (f : Fl) : Prop := match f with
  | .nx ρ S => ∀ μ' H' σ', Per G μ H μ' H' → Rep G μ' S H' → EnvD G μ' H' ρ σ' → Z.nx σ' H'
  | .rt d S => ∀ μ' H' v, Per G μ H μ' H' → Rep G μ' S H' → Den G μ' H' d v → Z.rt v H'
  | .bk ρ S => ∀ μ' H' σ', Per G μ H μ' H' → Rep G μ' S H' → EnvD G μ' H' ρ σ' → Z.bk σ' H'
  | .ct ρ S => ∀ μ' H' σ', Per G μ H μ' H' → Rep G μ' S H' → EnvD G μ' H' ρ σ' → Z.ct σ' H'
  | .exc c fs ρ S => ∀ μ' H' σ' cls dd, Per G μ H μ' H' → Rep G μ' S H' → EnvD G μ' H' ρ σ' → ExcD G μ' H' c fs cls dd → W cls dd σ' H'
  | .stuck => False
def TDS (G : Gx) (W : WX) (g : FS) : TS := fun Z σ H => ∃ μ ρ S, EnvD G μ H ρ σ ∧ Rep G μ S H ∧ PostS G W μ H Z (g ρ S)
section
variable {μ μ1 : List Addr} {H H1 : Hp} {σ : L2.St} {ρ : Ev} {S : Sg} {Z Z' : Ends} {α β : Type} {rel : Rel α β}
theorem PostS.per {f : Fl} (h : PostS G W μ H Z f) (p : Per G μ H μ1 H1) : PostS G W μ1 H1 Z f := by
  cases f with
  | nx ρ S => exact fun μ' H' σ' q => h μ' H' σ' (p.trans q)
  | rt d S => exact fun μ' H' v q => h μ' H' v (p.trans q)
  | bk ρ S => exact fun μ' H' σ' q => h μ' H' σ' (p.trans q)
  | ct ρ S => exact fun μ' H' σ' q => h μ' H' σ' (p.trans q)
  | exc c fs ρ S => exact fun μ' H' σ' cls dd q => h μ' H' σ' cls dd (p.trans q)
  | stuck => exact h
theorem PostS.now {ρ' : Ev} {σ' : L2.St} (h : PostS G W μ H Z (.nx ρ' S)) (r : Rep G μ S H) (e : EnvD G μ H ρ' σ') : Z.nx σ' H := h _ _ _ .refl r e
theorem posts_go {r : R α} {k : α → Sg → Fl} (en : EnvD G μ H ρ σ) (h : PostS G W μ H Z (r.go ρ k)) :
    Post rel G W μ H σ r fun b H1 => ∃ μ1 a S1, Per G μ H μ1 H1 ∧ Rep G μ1 S1 H1 ∧ rel μ1 H1 a b ∧ PostS G W μ1 H1 Z (k a S1) := by
  cases r with
  | ok a S' => exact fun μ' H' b p q d => ⟨μ', a, S', p, q, d, PostS.per (f := k a S') h p⟩
  | exc c fs S' => exact fun μ' H' cls dd p q e => h μ' H' σ cls dd p q (en.per p) e
  | stuck => exact h
end

/-! ### blocks -/
def sNil : FS := fun ρ S => .nx ρ S
def sSeq (g h : FS) : FS := fun ρ S => match g ρ S with
  | .nx ρ1 S1 => h ρ1 S1
  | o => o
theorem ds_nil : PSs X [] (TDS G W sNil) := PSs.imp pss_nil fun Z σ H ⟨μ, ρ, S, en, rp, p⟩ => PostS.now p rp en
theorem posts_seq {μ : List Addr} {H : Hp} {Z : Ends} {f : Fl} {h : FS} (p : PostS G W μ H Z (match f with
    | .nx ρ1 S1 => h ρ1 S1
    | o => o)) : PostS G W μ H { Z with nx := TDS G W h Z } f := by
  cases f with
  | nx ρ1 S1 => exact fun μ' H' σ' q r e => ⟨μ', ρ1, S1, e, r, PostS.per (f := h ρ1 S1) p q⟩
  | rt d S => exact p
  | bk ρ S => exact p
  | ct ρ S => exact p
  | exc c fs ρ S => exact p
  | stuck => exact p
theorem ds_cons {st : Stmt} {rest : List Stmt} {g h : FS} (h1 : PS X st (TDS G W g)) (h2 : PSs X rest (TDS G W h)) : PSs X (st :: rest) (TDS G W (sSeq g h)) :=
  PSs.imp (pss_cons h1 h2) fun Z σ H ⟨μ, ρ, S, en, rp, p⟩ => ⟨μ, ρ, S, en, rp, posts_seq p⟩
theorem ds_one {st : Stmt} {g : FS} (h1 : PS X st (TDS G W g)) : PSs X [st] (TDS G W g) := pss_one h1

/-! ### small statements -/
def sExpr (f : FE) : FS := fun ρ S => (f ρ S).go ρ fun _ S1 => .nx ρ S1
def sRet (f : FE) : FS := fun ρ S => (f ρ S).go ρ fun d S1 => .rt d S1
def sRetN : FS := fun ρ S => .rt .non S
def sBrk : FS := fun ρ S => .bk ρ S
def sCnt : FS := fun ρ S => .ct ρ S
def sIf (c : FT) (g h : FS) : FS := fun ρ S => (c ρ S).go ρ fun b S1 => match b with
  | true => g ρ S1
  | false => h ρ S1
def sSet (i : Nat) (f : FE) : FS := fun ρ S => (f ρ S).go ρ fun d S1 => .nx (ρ.set i (some d)) S1
def sStuck : FS := fun _ _ => .stuck
theorem ds_expr {e : Expr} {pos : Pos} {f : FE} (he : PE X e (TD G W f)) (hs : swapsWith e none pos.line X.env = pure false := by rfl) : PS X (.Expr e pos) (TDS G W (sExpr f)) :=
  PS.imp (ps_expr he hs) fun Z σ H ⟨μ, ρ, S, en, rp, p⟩ => ⟨μ, ρ, S, en, rp, (posts_go en p).mono fun v H1 ⟨μ1, d, S1, pe, rp1, dd, p1⟩ => PostS.now p1 rp1 (en.per pe)⟩
theorem ds_ret {e : Expr} {pos : Pos} {f : FE} (he : PE X e (TD G W f)) : PS X (.Return (some e) pos) (TDS G W (sRet f)) :=
  PS.imp (ps_ret he) fun Z σ H ⟨μ, ρ, S, en, rp, p⟩ => ⟨μ, ρ, S, en, rp, (posts_go en p).mono fun v H1 ⟨μ1, d, S1, pe, rp1, dd, p1⟩ => p1 _ _ _ .refl rp1 dd⟩
theorem ds_retN {pos : Pos} : PS X (.Return none pos) (TDS G W sRetN) := PS.imp ps_retN fun Z σ H ⟨μ, ρ, S, en, rp, p⟩ => p _ _ _ .refl rp .non
theorem ds_pass {pos : Pos} : PS X (.Pass pos) (TDS G W sNil) := PS.imp ps_pass fun Z σ H ⟨μ, ρ, S, en, rp, p⟩ => PostS.now p rp en
theorem ds_brk {pos : Pos} : PS X (.Break pos) (TDS G W sBrk) := PS.imp ps_break fun Z σ H ⟨μ, ρ, S, en, rp, p⟩ => p _ _ _ .refl rp en
theorem ds_cnt {pos : Pos} : PS X (.Continue pos) (TDS G W sCnt) := PS.imp ps_continue fun Z σ H ⟨μ, ρ, S, en, rp, p⟩ => p _ _ _ .refl rp en
theorem ds_stuck {st : Stmt} : PS X st (TDS G W sStuck) := PS.imp ps_never fun Z σ H ⟨μ, ρ, S, en, rp, p⟩ => p.elim
theorem ds_if {c : Expr} {a b : List Stmt} {pos : Pos} {t : FT} {g h : FS} (hc : PT X c (TDT G W t)) (ha : PSs X a (TDS G W g)) (hb : PSs X b (TDS G W h)) : PS X (.If c a b pos) (TDS G W (sIf t g h)) :=
  PS.imp (ps_if hc ha hb) fun Z σ H ⟨μ, ρ, S, en, rp, p⟩ => ⟨μ, ρ, S, en, rp, (posts_go en p).mono fun x H1 ⟨μ1, k, S1, pe, rp1, dd, p1⟩ => by
    have ek : k = x := dd
    subst ek
    cases k with
    | true => rw [if_pos rfl]; exact ⟨μ1, ρ, S1, en.per pe, rp1, p1⟩
    | false => rw [if_neg Bool.false_ne_true]; exact ⟨μ1, ρ, S1, en.per pe, rp1, p1⟩⟩
theorem ds_set {i : Nat} {x : Str} {e : Expr} {pos' pos : Pos} {f : FE} (he : PE X e (TD G W f)) (hN : X.N.Nodup) (hi : X.N[i]? = some x := by rfl) (hx : Loc X.env.scope x := by first | exact Or.inl rfl | exact Or.inr rfl) (hs : swapsWith e (some (.Name x pos')) pos.line X.env = pure false := by rfl)
    (hf : X.fn x = true ∨ X.env.scope.names.lookup x = some .local := by first | exact .inl rfl | exact .inr rfl) : PS X (.Assign [.Name x pos'] e pos) (TDS G W (sSet i f)) :=
  PS.imp (ps_set hN hi hx he hs hf) fun Z σ H ⟨μ, ρ, S, en, rp, p⟩ => ⟨μ, ρ, S, en, rp, (posts_go en p).mono fun v H1 ⟨μ1, d, S1, pe, rp1, dd, p1⟩ => PostS.now p1 rp1 ((en.per pe).set dd)⟩

/-! ### targets -/
abbrev FG := D → Ev → Option Ev
abbrev FGs := List D → Ev → Option Ev
def GT (G : Gx) (vs : List Nat) (fg : FG) (t : TG) : Prop :=
  ∀ μ H ρ σ S d v ρ' Q, EnvD G μ H ρ σ → Rep G μ S H → Den G μ H d v → fg d ρ = some ρ' → (∀ σ', EnvD G μ H ρ' σ' → wipe σ' vs = wipe σ vs → Q σ' H) → t v σ H Q
def GTs (G : Gx) (vs : List Nat) (fg : FGs) (t : TGs) : Prop :=
  ∀ μ H ρ σ S ds us ρ' Q, EnvD G μ H ρ σ → Rep G μ S H → DenA G μ H ds us → fg ds ρ = some ρ' → (∀ σ', EnvD G μ H ρ' σ' → wipe σ' vs = wipe σ vs → Q σ' H) → t us σ H Q
def DG (X : Cx) (G : Gx) (vs : List Nat) (e : Expr) (fg : FG) : Prop := ∃ t, PG X e t ∧ GT G vs fg t
def DGs (X : Cx) (G : Gx) (vs : List Nat) (es : List Expr) (fg : FGs) : Prop := ∃ t, PGs X es t ∧ GTs G vs fg t
def gNm (i : Nat) : FG := fun d ρ => some (ρ.set i (some d))
def gTp (n : Nat) (fg : FGs) : FG := fun d ρ => match tupOf d with
  | some xs => if xs.length = n then fg xs ρ else none
  | none => none
def gsN : FGs := fun ds ρ => match ds with
  | [] => some ρ
  | _ => none
def gsC (g : FG) (gs : FGs) : FGs := fun ds ρ => match ds with
  | d :: r => (g d ρ).bind (gs r)
  | [] => none
theorem wipe_set {σ : L2.St} {v : Option V} : ∀ {vs : List Nat} {i : Nat}, i ∈ vs → wipe (σ.set i v) vs = wipe σ vs
  | [], _, h => nomatch h
  | j :: vs, i, h => by
    unfold wipe
    by_cases hm : i ∈ vs
    · rw [wipe_set hm]
    · have e : i = j := by simpa [hm] using h
      subst e
      have go : ∀ (us : List Nat), i ∉ us → wipe (σ.set i v) us = (wipe σ us).set i v := by
        intro us
        induction us with
        | nil => intro _; rfl
        | cons u us ih =>
          intro hu
          unfold wipe
          rw [ih (fun z => hu (by simp [z])), List.set_comm _ _ (fun z => hu (by simp [z]))]
      rw [go vs hm, List.set_set]
theorem dg_name {vs : List Nat} (i : Nat) {x : Str} {pos : Pos} (hN : X.N.Nodup) (hv : i ∈ vs := by decide) (hi : X.N[i]? = some x := by rfl) (hx : Loc X.env.scope x := by first | exact Or.inl rfl | exact Or.inr rfl)
    (hf : X.fn x = true ∨ X.env.scope.names.lookup x = some .local := by first | exact .inl rfl | exact .inr rfl) : DG X G vs (.Name x pos) (gNm i) :=
  ⟨_, pg_name hN hi hx hf, fun μ H ρ σ S d v ρ' Q en rp dd e k => by cases e; exact k _ (en.set dd) (wipe_set hv)⟩
theorem dgs_nil {vs : List Nat} : DGs X G vs [] gsN := ⟨_, pgs_nil, fun μ H ρ σ S ds us ρ' Q en rp dd e k => by
  cases dd with
  | nil => cases e; exact ⟨rfl, k _ en rfl⟩
  | cons _ _ => cases e⟩
theorem dgs_cons {vs : List Nat} {e : Expr} {es : List Expr} {g : FG} {gs : FGs} (h1 : DG X G vs e g) (h2 : DGs X G vs es gs) (hs : (assignEach (e :: es) X.env).map (·.2) = assign e X.env :: (assignEach es X.env).map (·.2) := by rfl) : DGs X G vs (e :: es) (gsC g gs) := by
  obtain ⟨t, p, q⟩ := h1
  obtain ⟨u, p', q'⟩ := h2
  refine ⟨_, pgs_cons p p' hs, fun μ H ρ σ S ds us ρ' Q en rp dd e k => ?_⟩
  cases dd with
  | nil => cases e
  | cons a b =>
    obtain ⟨ρ1, e1, e2⟩ := Option.bind_eq_some_iff.mp e
    exact ⟨_, _, rfl, q μ H ρ σ S _ _ ρ1 _ en rp a e1 fun σ' en' w => q' μ H ρ1 σ' S _ _ ρ' _ en' rp b e2 fun σ2 en2 w2 => k σ2 en2 (w2.trans w)⟩
theorem dg_tup {vs : List Nat} {es : List Expr} {k n : Nat} {pos : Pos} {fg : FGs} (hc : X.calm = true) (A : Amb G X W) (h : DGs X G vs es fg) (hn : (assignEach es X.env).length = n := by rfl) (hst : (assignEach es X.env).findIdx? (·.1) = none := by rfl) : DG X G vs (.Tuple es k pos) (gTp n fg) := by
  obtain ⟨t, p, q⟩ := h
  refine ⟨gTup G.K n t, by have := pg_tup (k := k) (pos := pos) hc p hn hst; rw [A.hK] at this; exact this, fun μ H ρ σ S d v ρ' Q en rp dd e k => ?_⟩
  unfold gTp at e
  split at e
  · rename_i xs e1
    split at e
    · rename_i hl
      obtain ⟨a, us, e2, h1, h2⟩ := tup_den dd e1
      exact ⟨a, us, e2, h1, by rw [← h2.length]; exact hl, q μ H ρ σ S xs us ρ' Q en rp h2 e k⟩
    · cases e
  · cases e
def sAsg (fg : FG) (f : FE) : FS := fun ρ S => (f ρ S).go ρ fun d S1 => match fg d ρ with
  | some ρ' => .nx ρ' S1
  | none => .stuck
theorem ds_asg {vs : List Nat} {tg e : Expr} {pos : Pos} {fg : FG} {f : FE} (hg : DG X G vs tg fg) (he : PE X e (TD G W f)) (hs : swapsWithSole [tg] e pos.line X.env = pure false := by rfl) (hw : swappedStores [tg] e X.env = pure none := by rfl)
    (h1 : (assignEach [tg] X.env).map (·.2) = [assign tg X.env] := by rfl) : PS X (.Assign [tg] e pos) (TDS G W (sAsg fg f)) := by
  obtain ⟨t, p, q⟩ := hg
  refine PS.imp (ps_asg he p hs hw h1) fun Z σ H ⟨μ, ρ, S, en, rp, po⟩ => ⟨μ, ρ, S, en, rp, (posts_go en po).mono fun v H1 ⟨μ1, d, S1, pe, rp1, dd, p1⟩ => ?_⟩
  split at p1
  · rename_i ρ' e
    exact q μ1 H1 ρ σ S1 d v ρ' _ (en.per pe) rp1 dd e fun σ' en' _ => PostS.now p1 rp1 en'
  · exact p1.elim
/-- a, b = x, y; a, b, c = x, y, z -/
def sPar2 (i j : Nat) (g : FA) : FS := fun ρ S => (g ρ S).go ρ fun ds S1 => match ds with
  | [a, b] => .nx ((ρ.set i (some a)).set j (some b)) S1
  | _ => .stuck
theorem ds_par2 {i j : Nat} {x y : Str} {a b : Expr} {px py pt pos : Pos} {kt k2 pt2} {g : FA} (hc : X.calm = true) (hN : X.N.Nodup) (ha : PA X [a, b] (TDA G W g)) (hi : X.N[i]? = some x := by rfl) (hj : X.N[j]? = some y := by rfl) (hij : i ≠ j := by decide)
    (hx : X.env.scope.names.lookup x = some .local := by rfl) (hy : X.env.scope.names.lookup y = some .local := by rfl)
    (hw : swappedStores [.Tuple [.Name x px, .Name y py] kt pt] (.Tuple [a, b] k2 pt2) X.env = pure (some [x, y]) := by rfl)
    (hs : swapsWithSole [.Tuple [.Name x px, .Name y py] kt pt] (.Tuple [a, b] k2 pt2) pos.line X.env = pure false := by rfl) :
    PS X (.Assign [.Tuple [.Name x px, .Name y py] kt pt] (.Tuple [a, b] k2 pt2) pos) (TDS G W (sPar2 i j g)) := by
  refine PS.imp (ps_par hc hN hi hj hij hx hy ha hw hs) fun Z σ H ⟨μ, ρ, S, en, rp, po⟩ => ⟨μ, ρ, S, en, rp, (posts_go en po).mono fun v H1 ⟨μ1, ds, S1, pe, rp1, dd, p1⟩ => ?_⟩
  split at p1
  · cases dd with
    | cons d1 t1 =>
      cases t1 with
      | cons d2 t2 =>
        cases t2
        exact ⟨_, _, rfl, PostS.now p1 rp1 (((en.per pe).set d1).set d2)⟩
  · exact p1.elim
def sPar3 (i j l : Nat) (g : FA) : FS := fun ρ S => (g ρ S).go ρ fun ds S1 => match ds with
  | [a, b, c] => .nx (((ρ.set i (some a)).set j (some b)).set l (some c)) S1
  | _ => .stuck
theorem ds_par3 {i j l : Nat} {x y z : Str} {a b c : Expr} {px py pz pt pos : Pos} {kt k2 pt2} {g : FA} (hc : X.calm = true) (hN : X.N.Nodup) (ha : PA X [a, b, c] (TDA G W g)) (hi : X.N[i]? = some x := by rfl) (hj : X.N[j]? = some y := by rfl) (hl : X.N[l]? = some z := by rfl)
    (hij : i ≠ j := by decide) (hil : i ≠ l := by decide) (hjl : j ≠ l := by decide)
    (hx : X.env.scope.names.lookup x = some .local := by rfl) (hy : X.env.scope.names.lookup y = some .local := by rfl) (hz : X.env.scope.names.lookup z = some .local := by rfl)
    (hw : swappedStores [.Tuple [.Name x px, .Name y py, .Name z pz] kt pt] (.Tuple [a, b, c] k2 pt2) X.env = pure (some [x, y, z]) := by rfl)
    (hs : swapsWithSole [.Tuple [.Name x px, .Name y py, .Name z pz] kt pt] (.Tuple [a, b, c] k2 pt2) pos.line X.env = pure false := by rfl) :
    PS X (.Assign [.Tuple [.Name x px, .Name y py, .Name z pz] kt pt] (.Tuple [a, b, c] k2 pt2) pos) (TDS G W (sPar3 i j l g)) := by
  refine PS.imp (ps_par3 hc hN hi hj hl hij hil hjl hx hy hz ha hw hs) fun Z σ H ⟨μ, ρ, S, en, rp, po⟩ => ⟨μ, ρ, S, en, rp, (posts_go en po).mono fun v H1 ⟨μ1, ds, S1, pe, rp1, dd, p1⟩ => ?_⟩
  split at p1
  · cases dd with
    | cons d1 t1 =>
      cases t1 with
      | cons d2 t2 =>
        cases t2 with
        | cons d3 t3 =>
          cases t3
          exact ⟨_, _, _, rfl, PostS.now p1 rp1 ((((en.per pe).set d1).set d2).set d3)⟩
  · exact p1.elim

/-! ### stores to items -/
def putD {κ : Type} [DecidableEq κ] (kvs : List (κ × D)) (k : κ) (v : D) : List (κ × D) :=
  if (kvs.any fun kv => decide (kv.1 = k)) = true then kvs.map (fun kv => if kv.1 = k then (kv.1, v) else kv) else kvs ++ [(k, v)]
theorem denK_put {κ : Type} [DecidableEq κ] {μ : List Addr} {H : Hp} {fs : List (κ × D)} {gs : List (κ × V)} {k : κ} {d : D} {v : V} (h : DenK G μ H fs gs) (hd : Den G μ H d v) : DenK G μ H (putD fs k d) (putK gs k v) := by
  obtain ⟨h1, h2⟩ := h
  have ea : (gs.any fun kv => decide (kv.1 = k)) = (fs.any fun kv => decide (kv.1 = k)) := by
    have : ∀ {β : Type} (l : List (κ × β)), (l.any fun kv => decide (kv.1 = k)) = (l.map (·.1)).any fun x => decide (x = k) := fun l => by rw [List.any_map]; rfl
    rw [this, this, h1]
  unfold putD putK
  rw [ea]
  split
  · have go : ∀ (fs : List (κ × D)) (gs : List (κ × V)), gs.map (·.1) = fs.map (·.1) → DenA G μ H (fs.map (·.2)) (gs.map (·.2)) → DenK G μ H (fs.map (fun kv => if kv.1 = k then (kv.1, d) else kv)) (gs.map (fun kv => if kv.1 = k then (kv.1, v) else kv)) := by
      intro fs
      induction fs with
      | nil => intro gs a b; cases gs with
        | nil => exact ⟨rfl, .nil⟩
        | cons _ _ => simp at a
      | cons f fs ih => intro gs a b; cases gs with
        | nil => simp at a
        | cons g gs =>
          simp only [List.map_cons, List.cons.injEq] at a
          cases b with
          | cons b1 b2 =>
            obtain ⟨c1, c2⟩ := ih gs a.2 b2
            by_cases e : f.1 = k
            · have e' : g.1 = k := a.1.trans e
              simp only [List.map_cons, e, e', if_true]
              exact ⟨by simp only [List.map_cons, c1], .cons hd c2⟩
            · have e' : ¬ g.1 = k := fun z => e (a.1.symm.trans z)
              simp only [List.map_cons, e, e', if_false]
              exact ⟨by simp only [List.map_cons, c1, a.1], .cons b1 c2⟩
    exact go fs gs h1 h2
  · refine ⟨by simp [h1], ?_⟩
    rw [List.map_append, List.map_append]
    exact h2.append (.cons hd .nil)
def storeD (o i d : D) (S : Sg) : Option Sg := match o with
  | .ref n => match S[n]? with
    | some (.lst xs) => match i with
      | .int k => (ixN xs.length k).map fun j => S.set n (.lst (xs.set j d))
      | _ => none
    | some (.dct kvs) => match keyD i with
      | some k => if kvs.length < 16777216 then some (S.set n (.dct (putD kvs k d))) else none
      | none => none
    | some (.dtt kvs) => match keysD i with
      | some k => if kvs.length < 16777216 then some (S.set n (.dtt (putD kvs k d))) else none
      | none => none
    | _ => none
  | _ => none
def rStore : TSet := fun o i v H Q => rSetL o i v H Q ∨ ∃ a H4, o = .ref a ∧ DPut H a i v H4 ∧ Q H4
theorem set_all (hu : X.A.units + 1 < cLine) : PSet X rStore := by
  intro pins s σ H o i v ov iv u Q I r1 r2 r3 h
  rcases h with h | ⟨a, H4, rfl, g, q⟩
  · exact set_list pins s σ H o i v ov iv u Q I r1 r2 r3 h
  · obtain rfl : ov = Value.ref a := r1
    exact d_setItem hu I g r2 r3 fun s' I' => ⟨H4, I', q⟩
theorem DenK.length {κ : Type} {μ : List Addr} {H : Hp} {fs : List (κ × D)} {gs : List (κ × V)} (h : DenK G μ H fs gs) : fs.length = gs.length := by
  have := congrArg List.length h.1
  simpa using this.symm
theorem store_den (g : G.Ok) {μ : List Addr} {S S' : Sg} {H : Hp} {o i d : D} {ov iv v : V} {Q : Hp → Prop} (rp : Rep G μ S H) (ho : Den G μ H o ov) (hi : Den G μ H i iv) (hd : Den G μ H d v) (e : storeD o i d S = some S') (q : ∀ H', Per G μ H μ H' → Rep G μ S' H' → Q H') : rStore ov iv v H Q := by
  unfold storeD at e
  cases ho with
  | @ref n a hn =>
    dsimp only at e
    split at e
    · rename_i xs eo
      split at e
      · cases hi
        obtain ⟨j, e1, e2⟩ := Option.map_eq_some_iff.mp e
        subst e2
        obtain ⟨vs, h1, h2⟩ := rp.obj hn eo
        obtain ⟨r, p⟩ := rp.write g (u := .lst (vs.set j v)) (o' := .lst (xs.set j d)) hn eo fun H' p h => ⟨_, h, (h2.set hd j).per p⟩
        exact .inl ⟨a, vs, _, j, rfl, rfl, h1, by rw [← h2.length]; exact e1, q _ p r⟩
      · cases e
    · rename_i kvs eo
      split at e
      · rename_i k ek
        split at e
        · rename_i hl
          cases e
          obtain ⟨gs, h1, h2⟩ := rp.obj hn eo
          obtain ⟨r, p⟩ := rp.write g (u := .dK (putK gs k v)) (o' := .dct (putD kvs k d)) hn eo fun H' p h => ⟨_, h, (denK_put h2 hd).per p⟩
          rw [key_den hi ek]
          exact .inr ⟨a, _, rfl, DPut.k h1 (by rw [sl_eq, ← h2.length]; exact hl), q _ p r⟩
        · cases e
      · cases e
    · rename_i kvs eo
      split at e
      · rename_i k ek
        split at e
        · rename_i hl
          cases e
          obtain ⟨gs, h1, h2⟩ := rp.obj hn eo
          obtain ⟨r, p⟩ := rp.write g (u := .dT (putK gs k v)) (o' := .dtt (putD kvs k d)) hn eo fun H' p h => ⟨_, h, (denK_put h2 hd).per p⟩
          unfold keysD at ek
          split at ek
          · cases hi with
            | tup q2 q3 =>
              have q4 := keys_den q3 ek
              subst q4
              exact .inr ⟨a, _, rfl, DPut.t h1 q2 (by rw [sl_eq, ← h2.length]; exact hl), q _ p r⟩
          · cases ek
        · cases e
      · cases e
    · cases e
  | _ => cases e
/-- o[i] = e : e, then o, then i -/
def sSto (f fo fi : FE) : FS := fun ρ S => (f ρ S).go ρ fun d S1 => (fo ρ S1).go ρ fun o S2 => (fi ρ S2).go ρ fun i S3 => match storeD o i d S3 with
  | some S4 => .nx ρ S4
  | none => .stuck
theorem ds_sto {e o i : Expr} {tpos pos : Pos} {f fo fi : FE} (A : Amb G X W) (he : PE X e (TD G W f)) (ho : PE X o (TD G W fo)) (hi : PE X i (TD G W fi))
    (ha : ∀ v, assign (.Subscript o i tpos) X.env v = (do
      let ov ← holding [v] (eval o X.env)
      let iv ← holding [v, ov] (eval i X.env)
      standAt tpos
      holding [v, ov, iv] (setItem ov iv v)
      release [v, ov, iv] []) := by intro _; rfl)
    (hs : swapsWithSole [.Subscript o i tpos] e pos.line X.env = pure false := by rfl) (hw : swappedStores [.Subscript o i tpos] e X.env = pure none := by rfl)
    (h1 : (assignEach [.Subscript o i tpos] X.env).map (·.2) = [assign (.Subscript o i tpos) X.env] := by rfl) : PS X (.Assign [.Subscript o i tpos] e pos) (TDS G W (sSto f fo fi)) := by
  refine PS.imp (ps_asg he (pg_sub ho hi (set_all (by have := A.hu; omega)) ha) hs hw h1) fun Z σ H ⟨μ, ρ, S, en, rp, po⟩ => ⟨μ, ρ, S, en, rp, (posts_go en po).mono fun v H1 ⟨μ1, d, S1, pe, rp1, dd, p1⟩ => ?_⟩
  refine ⟨μ1, ρ, S1, en.per pe, rp1, (posts_go (en.per pe) p1).mono fun ov H2 ⟨μ2, od, S2, pe2, rp2, do_, p2⟩ => ?_⟩
  refine ⟨μ2, ρ, S2, (en.per pe).per pe2, rp2, (posts_go ((en.per pe).per pe2) p2).mono fun iv H3 ⟨μ3, id, S3, pe3, rp3, di, p3⟩ => ?_⟩
  split at p3
  · rename_i S4 e4
    exact store_den A.ok rp3 (do_.per pe3) di ((dd.per pe2).per pe3) e4 fun H' p r => p3 _ _ _ p r ((((en.per pe).per pe2).per pe3).per p)
  · exact p3.elim

/-! ### attributes -/
def getF (fs : List (String × D)) (f : String) : Option D := (fs.find? fun p => decide (p.1 = f)).map (·.2)
def putFD (f : String) (d : D) : List (String × D) → List (String × D)
  | [] => [(f, d)]
  | (g, x) :: r => if g = f then (g, d) :: r else (g, x) :: putFD f d r
theorem denF_get {μ : List Addr} {H : Hp} : ∀ {fs : List (String × D)} {gs : List (Str × V)} {f : String} {d : D}, DenF G μ H fs gs → getF fs f = some d → ∃ v, gs.lookup (Str.ofString f) = some v ∧ Den G μ H d v
  | [], _, _, _, _, e => nomatch e
  | p :: fs, gs, f, d, ⟨h1, h2⟩, e => by
    cases gs with
    | nil => simp at h1
    | cons g gs =>
      simp only [List.map_cons, List.cons.injEq] at h1
      cases h2 with
      | cons a b =>
        by_cases hp : p.1 = f
        · have e' : p.2 = d := by simpa [getF, hp] using e
          subst e'
          refine ⟨g.2, ?_, a⟩
          obtain ⟨g1, g2⟩ := g
          simp only at h1
          rw [h1.1, hp]
          simp [List.lookup]
        · have r : getF (p :: fs) f = getF fs f := by simp [getF, hp]
          rw [r] at e
          obtain ⟨v, c1, c2⟩ := denF_get (gs := gs) ⟨h1.2, b⟩ e
          refine ⟨v, ?_, c2⟩
          obtain ⟨g1, g2⟩ := g
          have ne : (Str.ofString f == g1) = false := by
            rw [beq_eq_false_iff_ne]
            intro z
            exact hp (ofS_inj (h1.1.symm.trans z.symm))
          rw [List.lookup, ne]
          exact c1
theorem denF_put {μ : List Addr} {H : Hp} {f : String} {d : D} {v : V} (hd : Den G μ H d v) : ∀ {fs : List (String × D)} {gs : List (Str × V)}, DenF G μ H fs gs → DenF G μ H (putFD f d fs) (putF (Str.ofString f) v gs)
  | [], gs, ⟨h1, h2⟩ => by
    have : gs = [] := List.map_eq_nil_iff.mp h1
    subst this
    exact ⟨rfl, .cons hd .nil⟩
  | p :: fs, gs, ⟨h1, h2⟩ => by
    cases gs with
    | nil => simp at h1
    | cons g gs =>
      simp only [List.map_cons, List.cons.injEq] at h1
      obtain ⟨p1, p2⟩ := p
      obtain ⟨g1, g2⟩ := g
      simp only at h1
      cases h2 with
      | cons a b =>
        by_cases hp : p1 = f
        · have hg : g1 = Str.ofString f := by rw [h1.1, hp]
          simp only [putFD, putF, hp, hg, if_true]
          exact ⟨by simp [h1.2], .cons hd b⟩
        · have hg : ¬ g1 = Str.ofString f := fun z => hp (ofS_inj (h1.1.symm.trans z))
          simp only [putFD, putF, hp, hg, if_false]
          obtain ⟨c1, c2⟩ := denF_put hd (fs := fs) (gs := gs) ⟨h1.2, b⟩
          exact ⟨by simp [c1, h1.1], .cons a c2⟩
def xFld (c : Nat) (f : FE) (n : String) : FE := fun ρ S => (f ρ S).bind fun d S1 => match d with
  | .ref m => match S1[m]? with
    | some (.obj c' fs) => if c' = c then outD S1 (getF fs n) else .stuck
    | _ => .stuck
  | _ => .stuck
theorem de_fld (c : Nat) {e : Expr} {n : String} {pos : Pos} {f : FE} (A : Amb G X W) (cl : Cls X.K (G.cls c)) (na : NoAttr X.K (G.cls c) (Str.ofString n)) (he : PE X e (TD G W f)) (hb : attributeBase e (Str.ofString n) X.env (eval e X.env) = eval e X.env := by rfl) : PE X (.Attribute e (Str.ofString n) pos) (TD G W (xFld c f n)) := by
  refine PE.imp (pe_fld he hb) fun σ H Q ⟨μ, ρ, S, en, rp, po⟩ => ⟨μ, ρ, S, en, rp, (post_bind po).mono fun x H1 ⟨μ1, d, S1, pe, rp1, dd, p1⟩ => ?_⟩
  split at p1
  · rename_i m
    split at p1
    · rename_i c' fs eo
      obtain ⟨hc, p2⟩ := post_ite p1
      subst hc
      obtain ⟨r, er, p3⟩ := post_out p2
      cases dd with
      | ref hm =>
        obtain ⟨dx, gs, h1, h2⟩ := rp1.obj hm eo
        obtain ⟨v, l, dv⟩ := denF_get h2 er
        exact ⟨_, _, dx, gs, v, rfl, h1, cl, na, l, post_ok rp1 p3 dv⟩
    · exact p1.elim
  · exact p1.elim
/-- o.n = e : e, then o -/
def sFldS (c : Nat) (f fo : FE) (n : String) : FS := fun ρ S => (f ρ S).go ρ fun d S1 => (fo ρ S1).go ρ fun o S2 => match o with
  | .ref m => match S2[m]? with
    | some (.obj c' fs) => if c' = c ∧ fs.length < 1000 then .nx ρ (S2.set m (.obj c' (putFD n d fs))) else .stuck
    | _ => .stuck
  | _ => .stuck
theorem ds_fld (c : Nat) {e o : Expr} {n : String} {tpos pos : Pos} {f fo : FE} (A : Amb G X W) (cl : Cls X.K (G.cls c)) (na : NoAttr X.K (G.cls c) (Str.ofString n)) (he : PE X e (TD G W f)) (ho : PE X o (TD G W fo)) (hs : swapsWith e (some (.Attribute o (Str.ofString n) tpos)) pos.line X.env = pure false := by rfl) :
    PS X (.Assign [.Attribute o (Str.ofString n) tpos] e pos) (TDS G W (sFldS c f fo n)) := by
  refine PS.imp (ps_fld ho he hs) fun Z σ H ⟨μ, ρ, S, en, rp, po⟩ => ⟨μ, ρ, S, en, rp, (posts_go en po).mono fun v H1 ⟨μ1, d, S1, pe, rp1, dd, p1⟩ => ?_⟩
  refine ⟨μ1, ρ, S1, en.per pe, rp1, (posts_go (en.per pe) p1).mono fun ov H2 ⟨μ2, od, S2, pe2, rp2, do_, p2⟩ => ?_⟩
  split at p2
  · rename_i m
    split at p2
    · rename_i c' fs eo
      split at p2
      · rename_i hc
        obtain ⟨rfl, hl⟩ := hc
        cases do_ with
        | @ref _ a hm =>
          obtain ⟨dx, gs, h1, h2⟩ := rp2.obj hm eo
          obtain ⟨r, p⟩ := rp2.write A.ok (u := .ins (G.cls c') dx (putF (Str.ofString n) v gs)) (o' := .obj c' (putFD n d fs)) hm eo fun H' p h => ⟨dx, _, h, (denF_put (dd.per pe2) h2).per p⟩
          have el : gs.length = fs.length := by have := congrArg List.length h2.1; simpa using this
          exact ⟨a, _, dx, gs, rfl, h1, cl, na, by omega, p2 _ _ _ p r (((en.per pe).per pe2).per p)⟩
      · exact p2.elim
    · exact p2.elim
  · exact p2.elim
/-- x op= e -/
def sAug (i : Nat) (h : F2) (f : FE) : FS := fun ρ S => match ρ[i]? with
  | some (some d) => (f ρ S).go ρ fun e S1 => (h d e S1).go ρ fun z S2 => .nx (ρ.set i (some z)) S2
  | _ => .stuck
theorem ds_aug {i : Nat} {x : Str} {e : Expr} {op : Operator} {pos' pos : Pos} {f : FE} {h : F2} {r : R2} (ho : OpR X (inplaceOp op) r) (o : OpV G W r h) (he : PE X e (TD G W f)) (hN : X.N.Nodup) (hi : X.N[i]? = some x := by rfl) (hx : Loc X.env.scope x := by first | exact Or.inl rfl | exact Or.inr rfl)
    (hf : X.fn x = true ∨ X.env.scope.names.lookup x = some .local := by first | exact .inl rfl | exact .inr rfl) : PS X (.AugAssign (.Name x pos') op e pos) (TDS G W (sAug i h f)) := by
  have hp : PIp X op r := fun pins s σ H x y v u Q I r1 r2 h => ho pins s σ H x y v u Q I r1 r2 h
  refine PS.imp (ps_aug hN hi hx he hp hf) fun Z σ H ⟨μ, ρ, S, en, rp, po⟩ => ?_
  unfold sAug at po
  split at po
  · rename_i d ed
    obtain ⟨v, ev, dv⟩ := en.at_ i d ed
    refine ⟨v, ev, μ, ρ, S, en, rp, (posts_go en po).mono fun w H1 ⟨μ1, e', S1, pe, rp1, dd, p1⟩ => ?_⟩
    refine o _ _ _ _ _ _ _ _ _ rp1 (dv.per pe) dd ((posts_go (en.per pe) p1).mono fun z H2 ⟨μ2, zd, S2, pe2, rp2, dz, p2⟩ => ?_)
    exact PostS.now p2 rp2 (((en.per pe).per pe2).set dz)
  · exact po.elim
theorem ds_augI {i : Nat} {x : Str} {e : Expr} {pos' pos : Pos} {f : FE} (he : PE X e (TD G W f)) (hN : X.N.Nodup) (hi : X.N[i]? = some x := by rfl) (hx : Loc X.env.scope x := by first | exact Or.inl rfl | exact Or.inr rfl)
    (hf : X.fn x = true ∨ X.env.scope.names.lookup x = some .local := by first | exact .inl rfl | exact .inr rfl) : PS X (.AugAssign (.Name x pos') .Add e pos) (TDS G W (sAug i (fI fun i j => .int (i + j)) f)) :=
  ds_aug iop_add (ov_I fun _ _ _ _ => .int _) he hN hi hx hf
end Dx

/-! Dx6: what is walked, for, while, comprehensions, defs and their calls. -/
namespace Dx
open PySem PySem.Spec L2
variable {G : Gx} {X : Cx} {W : WX}

inductive Src where
  | live (n : Nat)
  | its (ds : List D)
def srcAt (S : Sg) : Src → Nat → Option (Option D)
  | .live n, i => match S[n]? with
    | some (.lst xs) => some xs[i]?
    | _ => none
  | .its ds, i => some ds[i]?
def srcLen (S : Sg) : Src → Nat
  | .live n => match S[n]? with
    | some (.lst xs) => xs.length
    | _ => 0
  | .its ds => ds.length
/-- J walks src -/
def SrcOk (G : Gx) (μ : List Addr) (H : Hp) (src : Src) (J : It) : Prop :=
  ∀ μ' H' S' i, Per G μ H μ' H' → Rep G μ' S' H' → (srcAt S' src i = some none → J.stop i H') ∧
    ∀ d, srcAt S' src i = some (some d) → J.go i H' ∧ ∀ x H2, J.yld i H' x H2 → Per G μ' H' μ' H2 ∧ Rep G μ' S' H2 ∧ Den G μ' H2 d x
theorem SrcOk.per {μ μ1 : List Addr} {H H1 : Hp} {src : Src} {J : It} (s : SrcOk G μ H src J) (p : Per G μ H μ1 H1) : SrcOk G μ1 H1 src J := fun μ' H' S' i q r => s μ' H' S' i (p.trans q) r
abbrev FI := Ev → Sg → R Src
def DI (X : Cx) (G : Gx) (W : WX) (tg iter : Expr) (fs : FI) : Prop := ∃ wi, PI X tg iter wi ∧ ∀ σ H R, TDg (SrcOk G) G W fs σ H R → wi σ H R

/-! ### a list or a tuple -/
def iSeq (K : PySem.W.Frag) (tl : TE) : TI := fun σ H R => tl σ H fun x H1 => (∃ a, x = .ref a ∧ (∃ xs, SqL K H1 a xs) ∧ R (Itl K a) H1) ∨ ∃ a, x = .ref a ∧ (∃ xs, SqT K H1 a xs) ∧ R (Itt K a) H1
theorem pi_seq {tg l : Expr} {tl : TE} (hl : PE X l tl) : PI X tg l (iSeq X.K tl) := by
  refine ⟨fun pins s σ H R I h => ?_⟩
  refine thn (hl.run pins s σ H _ I h) fun v s1 ⟨x, H1, I1, r1, q1⟩ => ?_
  rcases q1 with ⟨a, e, ⟨xs, hq⟩, q⟩ | ⟨a, e, ⟨xs, hq⟩, q⟩
  · subst e
    cases r1
    obtain ⟨its, rv, p, hz⟩ := I1.list hq
    refine wpAny_pyIter_list p.isList ?_
    refine ⟨s1.heap.objs.size, [s1.heap.objs.size], _, _, H1, rfl, I1.kept (t' := s1.toks) fun b o e => Heap.get?_push_of_some _ e, turn_list a _, ⟨_, Heap.get?_push_size _ rfl, rfl, rfl⟩, fun b hb => ?_, q⟩
    have e : b = s1.heap.objs.size := by simpa using hb
    subst e
    exact I1.fpOk (Nat.le_refl _) (I1.hok.fresh (Nat.le_refl _))
  · subst e
    cases r1
    obtain ⟨its, rv, p, hz⟩ := I1.tuple hq
    refine wpAny_pyIter_tuple (show s1.heap.IsTuple a its.toArray from p) ?_
    refine ⟨s1.heap.objs.size, [s1.heap.objs.size], _, _, H1, rfl, I1.kept (t' := s1.toks) fun b o e => Heap.get?_push_of_some _ e, turn_tuple a _, ⟨_, Heap.get?_push_size _ rfl, rfl, rfl⟩, fun b hb => ?_, q⟩
    have e : b = s1.heap.objs.size := by simpa using hb
    subst e
    exact I1.fpOk (Nat.le_refl _) (I1.hok.fresh (Nat.le_refl _))
def srcOf (S : Sg) (d : D) : R Src := match d with
  | .tup xs => .ok (.its xs) S
  | .ktup xs => .ok (.its xs) S
  | .clist xs => .ok (.its xs) S
  | .ref n => match S[n]? with
    | some (.lst _) => .ok (.live n) S
    | _ => .stuck
  | _ => .stuck
def iSrc (f : FE) : FI := fun ρ S => (f ρ S).bind fun d S1 => srcOf S1 d
theorem sqL_uniq {μ : List Addr} {H : Hp} {a : Addr} {K : PySem.W.Frag} {xs ys : List V} (h : ∀ H', SqL K H' a xs) : SqL K H a xs := h H
theorem srcOk_tup {μ : List Addr} {H : Hp} {a : Addr} {xs : List D} {vs : List V} (h : ∀ μ' H', Per G μ H μ' H' → SqT G.K H' a vs) (d : DenA G μ H xs vs) : SrcOk G μ H (.its xs) (Itt G.K a) := by
  intro μ' H' S' i p r
  have h' := h μ' H' p
  refine ⟨fun e => ?_, fun dd e => ?_⟩
  · have e2 : xs[i]? = none := Option.some.inj e
    exact ⟨vs, h', by rw [← d.length]; exact List.getElem?_eq_none_iff.mp e2⟩
  · have e2 : xs[i]? = some dd := Option.some.inj e
    obtain ⟨v, h1, h2⟩ := (d.per p).get e2
    refine ⟨⟨vs, v, h', h1⟩, fun x H2 y => ?_⟩
    obtain ⟨y1, y2⟩ := y
    subst y1
    have := y2 vs h'
    rw [h1] at this
    cases this
    exact ⟨.refl, r, h2⟩
theorem srcOk_clist {μ : List Addr} {H : Hp} {a : Addr} {xs : List D} {vs : List V} (h0 : ∃ q, H a = some (.frz q (.lst vs))) (d : DenA G μ H xs vs) : SrcOk G μ H (.its xs) (Itl G.K a) := by
  intro μ' H' S' i p r
  have h : SqL G.K H' a vs := cl_sqL (let ⟨q, e⟩ := h0; ⟨q, p.frz _ _ _ e⟩)
  refine ⟨fun e => ?_, fun dd e => ?_⟩
  · have e2 : xs[i]? = none := Option.some.inj e
    exact ⟨vs, h, by rw [← d.length]; exact List.getElem?_eq_none_iff.mp e2⟩
  · have e2 : xs[i]? = some dd := Option.some.inj e
    obtain ⟨v, h1, h2⟩ := (d.per p).get e2
    refine ⟨⟨vs, v, h, h1⟩, fun x H2 y => ?_⟩
    obtain ⟨y1, y2⟩ := y
    subst y1
    have := y2 vs h
    rw [h1] at this
    cases this
    exact ⟨.refl, r, h2⟩
theorem srcOk_live {μ : List Addr} {H : Hp} {n : Nat} {a : Addr} (hn : μ[n]? = some a) : SrcOk G μ H (.live n) (Itl G.K a) := by
  intro μ' H' S' i p r
  have hn' := p.ext n a hn
  obtain ⟨o, eo, ro⟩ := r.there hn'
  cases o with
  | lst xs =>
    simp only [srcAt, eo]
    obtain ⟨vs, h1, h2⟩ := RepO.sqL ro
    refine ⟨fun e => ⟨vs, h1, by rw [← h2.length]; exact List.getElem?_eq_none_iff.mp (Option.some.inj e)⟩, fun d e => ?_⟩
    obtain ⟨v, h3, h4⟩ := h2.get (Option.some.inj e)
    refine ⟨⟨vs, v, h1, h3⟩, fun x H2 y => ?_⟩
    obtain ⟨y1, y2⟩ := y
    subst y1
    have := y2 vs h1
    rw [h3] at this
    cases this
    exact ⟨.refl, r, h4⟩
  | dct _ => simp only [srcAt, eo]; exact ⟨fun e => (by cases e), fun d e => (by cases e)⟩
  | dtt _ => simp only [srcAt, eo]; exact ⟨fun e => (by cases e), fun d e => (by cases e)⟩
  | obj _ _ => simp only [srcAt, eo]; exact ⟨fun e => (by cases e), fun d e => (by cases e)⟩
theorem di_seq {tg l : Expr} {f : FE} (A : Amb G X W) (hl : PE X l (TD G W f)) : DI X G W tg l (iSrc f) := by
  refine ⟨iSeq G.K (TD G W f), by have := pi_seq (tg := tg) hl; rw [A.hK] at this; exact this, fun σ H R ⟨μ, ρ, S, en, rp, po⟩ => ⟨μ, ρ, S, en, rp, (post_bind po).mono fun x H1 ⟨μ1, d, S1, pe, rp1, dd, p1⟩ => ?_⟩⟩
  unfold srcOf at p1
  cases dd with
  | @tup a xs vs h1 h2 => exact .inr ⟨a, rfl, ⟨vs, SqT.of h1⟩, p1 _ _ _ .refl rp1 (srcOk_tup (fun μ' H' p => SqT.of (p.tup _ _ h1)) h2)⟩
  | @ktup a xs vs h1 h2 => exact .inr ⟨a, rfl, ⟨vs, h1 _⟩, p1 _ _ _ .refl rp1 (srcOk_tup (fun μ' H' p => h1 H') h2)⟩
  | @clist a xs vs h1 h2 => exact .inl ⟨a, rfl, ⟨vs, cl_sqL h1⟩, p1 _ _ _ .refl rp1 (srcOk_clist h1 h2)⟩
  | @ref n a hn =>
    dsimp only at p1
    split at p1
    · rename_i xs eo
      obtain ⟨vs, h1, h2⟩ := RepO.sqL (rp1.obj hn eo)
      exact .inl ⟨a, rfl, ⟨vs, h1⟩, p1 _ _ _ .refl rp1 (srcOk_live hn)⟩
    · exact p1.elim
  | non => exact p1.elim
  | bl _ => exact p1.elim
  | int _ => exact p1.elim
  | str _ => exact p1.elim
  | clo _ => exact p1.elim
  | exv0 => exact p1.elim
  | exv _ _ => exact p1.elim
  | slist _ => exact p1.elim
  | cdict _ _ _ => exact p1.elim
/-! ### ranges -/
def intsD (lo : Int) (n : Nat) : List D := (List.range n).map fun i => .int (lo + (i : Nat))
theorem srcOk_rng {μ : List Addr} {H : Hp} (lo : Int) (n : Nat) : SrcOk G μ H (.its (intsD lo n)) (Itr lo n) := by
  intro μ' H' S' i p r
  refine ⟨fun e => ?_, fun d e => ?_⟩
  · have e2 : (intsD lo n)[i]? = none := Option.some.inj e
    have := List.getElem?_eq_none_iff.mp e2
    simp [intsD] at this
    exact this
  · have e2 : (intsD lo n)[i]? = some d := Option.some.inj e
    have hi : i < n := by have := (List.getElem?_eq_some_iff.mp e2).1; simpa [intsD] using this
    refine ⟨hi, fun x H2 y => ?_⟩
    obtain ⟨y1, y2⟩ := y
    subst y1
    subst y2
    have : d = .int (lo + (i : Nat)) := by
      unfold intsD at e2
      rw [List.getElem?_map, List.getElem?_range hi] at e2
      exact (Option.some.inj e2).symm
    rw [this]
    exact ⟨.refl, r, .int _⟩
def iR1 (g : FA) : FI := fun ρ S => (g ρ S).bind fun ds S1 => match ds with
  | [.int j] => if -(4611686018427387904) ≤ j ∧ j < 4611686018427387904 then .ok (.its (intsD 0 j.toNat)) S1 else .stuck
  | _ => .stuck
def iR2 (g : FA) : FI := fun ρ S => (g ρ S).bind fun ds S1 => match ds with
  | [.int i, .int j] => if -(4611686018427387904) ≤ i ∧ i < 4611686018427387904 ∧ -(4611686018427387904) ≤ j ∧ j < 4611686018427387904 then .ok (.its (intsD i (j - i).toNat)) S1 else .stuck
  | _ => .stuck
theorem di_range1 {tg a : Expr} {p pos : Pos} {g : FA} (hm : X.mg "range" = none) (ha : PA X [a] (TDA G W g)) (hg : Gl X "range" := by rfl) (hs : starEach [a] X.env = [(false, eval a X.env)] := by rfl) : DI X G W tg (.Call (.Name "range" p) [a] [] pos) (iR1 g) := by
  refine ⟨_, pi_range1 hg hm ha hs, fun σ H R ⟨μ, ρ, S, en, rp, po⟩ => ⟨μ, ρ, S, en, rp, (post_bind po).mono fun vs H1 ⟨μ1, ds, S1, pe, rp1, dd, p1⟩ => ?_⟩⟩
  split at p1
  · cases dd with
    | cons d1 t =>
      cases t
      cases d1
      obtain ⟨c, p2⟩ := post_ite p1
      exact ⟨_, rfl, by omega, by omega, p2 _ _ _ .refl rp1 (srcOk_rng _ _)⟩
  · exact p1.elim
theorem di_range2 {tg a b : Expr} {p pos : Pos} {g : FA} (hm : X.mg "range" = none) (ha : PA X [a, b] (TDA G W g)) (hg : Gl X "range" := by rfl) (hs : starEach [a, b] X.env = [(false, eval a X.env), (false, eval b X.env)] := by rfl) (hs2 : starEach [b] X.env = [(false, eval b X.env)] := by rfl) : DI X G W tg (.Call (.Name "range" p) [a, b] [] pos) (iR2 g) := by
  refine ⟨_, pi_range2 hg hm ha hs hs2, fun σ H R ⟨μ, ρ, S, en, rp, po⟩ => ⟨μ, ρ, S, en, rp, (post_bind po).mono fun vs H1 ⟨μ1, ds, S1, pe, rp1, dd, p1⟩ => ?_⟩⟩
  split at p1
  · cases dd with
    | cons d1 t =>
      cases t with
      | cons d2 t =>
        cases t
        cases d1
        cases d2
        obtain ⟨c, p2⟩ := post_ite p1
        exact ⟨_, _, rfl, by omega, p2 _ _ _ .refl rp1 (srcOk_rng _ _)⟩
  · exact p1.elim

/-! ### for -/
def forGo (src : Src) (tg : FG) (g : FS) : Nat → Nat → FS
  | 0, i => fun ρ S => match srcAt S src i with
    | some none => .nx ρ S
    | _ => .stuck
  | k + 1, i => fun ρ S => match srcAt S src i with
    | some (some d) => match tg d ρ with
      | some ρ1 => match g ρ1 S with
        | .nx ρ2 S2 => forGo src tg g k (i + 1) ρ2 S2
        | .ct ρ2 S2 => forGo src tg g k (i + 1) ρ2 S2
        | .bk ρ2 S2 => .nx ρ2 S2
        | o => o
      | none => .stuck
    | some none => .nx ρ S
    | none => .stuck
def sFor (fs : FI) (tg : FG) (g : FS) : FS := fun ρ S => (fs ρ S).go ρ fun src S1 => forGo src tg g (srcLen S1 src) 0 ρ S1
theorem ds_for {vs : List Nat} {tg iter : Expr} {body : List Stmt} {pos : Pos} {fs : FI} {fg : FG} {g : FS} (hc : X.calm = true) (A : Amb G X W) (hi : DI X G W tg iter fs) (hg : DG X G vs tg fg) (hb : PSs X body (TDS G W g))
    (hs : ∀ x, foldedSetIterable iter X.env x = pure x := by intro _; rfl) : PS X (.For tg iter body [] pos) (TDS G W (sFor fs fg g)) := by
  obtain ⟨wi, pi, wi'⟩ := hi
  obtain ⟨t, pg, gt⟩ := hg
  refine PS.imp (ps_for A.po hc pi pg hb hs) fun Z σ H ⟨μ, ρ, S, en, rp, po⟩ => ?_
  refine wi' σ H _ ⟨μ, ρ, S, en, rp, (posts_go (rel := SrcOk G) en po).mono fun J H1 ⟨μ1, src, S1, pe, rp1, so, p1⟩ => ?_⟩
  refine ⟨fun i m σ H => ∃ μ ρ S, EnvD G μ H ρ σ ∧ Rep G μ S H ∧ SrcOk G μ H src J ∧ PostS G W μ H Z (forGo src fg g m i ρ S), ⟨_, μ1, ρ, S1, en.per pe, rp1, so, p1⟩, ?_⟩
  rintro i m σ2 H2 ⟨μ2, ρ2, S2, en2, rp2, so2, p2⟩
  have so3 := so2 μ2 H2 S2 i .refl rp2
  have stop : srcAt S2 src i = some none → PostS G W μ2 H2 Z (.nx ρ2 S2) → (J.stop i H2 ∧ Z.nx σ2 H2) := fun e p => ⟨so3.1 e, PostS.now p rp2 en2⟩
  cases m with
  | zero =>
    simp only [forGo] at p2
    split at p2
    · rename_i e
      exact .inl (stop e p2)
    · exact p2.elim
  | succ k =>
    simp only [forGo] at p2
    split at p2
    · rename_i d e
      split at p2
      · rename_i ρ3 e3
        obtain ⟨go, yl⟩ := so3.2 d e
        refine .inr ⟨go, fun σ' H' => ∃ μ ρ S, EnvD G μ H' ρ σ' ∧ Rep G μ S H' ∧ SrcOk G μ H' src J ∧ PostS G W μ H' Z (forGo src fg g k (i + 1) ρ S), fun σ' H' q => ⟨k, Nat.lt_succ_self k, q⟩, fun x H' y => ?_⟩
        obtain ⟨pe', rp', dx⟩ := yl x H' y
        refine gt μ2 H' ρ2 σ2 S2 d x ρ3 _ (en2.per pe') rp' dx e3 fun σ' en' _ => ⟨μ2, ρ3, S2, en', rp', ?_⟩
        have p3 := PostS.per p2 pe'
        have so' := so2.per pe'
        revert p3
        generalize g ρ3 S2 = fl
        intro p3
        cases fl with
        | nx ρ4 S4 => exact fun μ' H'' σ'' q r e => ⟨μ', ρ4, S4, e, r, so'.per q, PostS.per (f := forGo src fg g k (i + 1) ρ4 S4) p3 q⟩
        | ct ρ4 S4 => exact fun μ' H'' σ'' q r e => ⟨μ', ρ4, S4, e, r, so'.per q, PostS.per (f := forGo src fg g k (i + 1) ρ4 S4) p3 q⟩
        | bk ρ4 S4 => exact p3
        | rt d S => exact p3
        | exc c fs ρ S => exact p3
        | stuck => exact p3
      · exact p2.elim
    · rename_i e
      exact .inl (stop e p2)
    · exact p2.elim

/-! ### while -/
def whGo (c : FT) (g : FS) : Nat → FS
  | 0 => fun _ _ => .stuck
  | k + 1 => fun ρ S => (c ρ S).go ρ fun b S1 => match b with
    | true => match g ρ S1 with
      | .nx ρ2 S2 => whGo c g k ρ2 S2
      | .ct ρ2 S2 => whGo c g k ρ2 S2
      | .bk ρ2 S2 => .nx ρ2 S2
      | o => o
    | false => .nx ρ S1
theorem ds_while (n : Nat) {c : Expr} {body : List Stmt} {pos : Pos} {t : FT} {g : FS} (A : Amb G X W) (hc : PT X c (TDT G W t)) (hb : PSs X body (TDS G W g)) : PS X (.While c body [] pos) (TDS G W (whGo t g n)) := by
  refine PS.imp (ps_while A.po hc hb) fun Z σ H ⟨μ, ρ, S, en, rp, po⟩ => ?_
  refine ⟨fun m σ H => ∃ μ ρ S, EnvD G μ H ρ σ ∧ Rep G μ S H ∧ PostS G W μ H Z (whGo t g m ρ S), ⟨n, μ, ρ, S, en, rp, po⟩, ?_⟩
  rintro m σ2 H2 ⟨μ2, ρ2, S2, en2, rp2, p2⟩
  cases m with
  | zero => exact p2.elim
  | succ k =>
    refine ⟨μ2, ρ2, S2, en2, rp2, (posts_go en2 (show PostS G W μ2 H2 Z ((t ρ2 S2).go ρ2 _) from p2)).mono fun x H3 ⟨μ3, b, S3, pe3, rp3, eb, p3⟩ => ?_⟩
    have ek : b = x := eb
    subst ek
    cases b with
    | false => rw [if_neg Bool.false_ne_true]; exact PostS.now p3 rp3 (en2.per pe3)
    | true =>
      rw [if_pos rfl]
      refine ⟨fun σ' H' => ∃ μ ρ S, EnvD G μ H' ρ σ' ∧ Rep G μ S H' ∧ PostS G W μ H' Z (whGo t g k ρ S), fun σ' H' q => ⟨k, Nat.lt_succ_self k, q⟩, μ3, ρ2, S3, en2.per pe3, rp3, ?_⟩
      revert p3
      show PostS G W μ3 H3 Z (match g ρ2 S3 with
        | .nx ρ2 S2 => whGo t g k ρ2 S2
        | .ct ρ2 S2 => whGo t g k ρ2 S2
        | .bk ρ2 S2 => .nx ρ2 S2
        | o => o) → _
      generalize g ρ2 S3 = fl
      intro p3
      cases fl with
      | nx ρ4 S4 => exact fun μ' H'' σ'' q r e => ⟨μ', ρ4, S4, e, r, PostS.per (f := whGo t g k ρ4 S4) p3 q⟩
      | ct ρ4 S4 => exact fun μ' H'' σ'' q r e => ⟨μ', ρ4, S4, e, r, PostS.per (f := whGo t g k ρ4 S4) p3 q⟩
      | bk ρ4 S4 => exact p3
      | rt d S => exact p3
      | exc c fs ρ S => exact p3
      | stuck => exact p3

/-! ### comprehensions -/
abbrev W0 : WX := fun _ _ _ _ => False
def R.nox {α : Type} : R α → R α
  | .exc _ _ _ => .stuck
  | r => r
def wipeD (ρ : Ev) : List Nat → Ev
  | [] => ρ
  | v :: vs => (wipeD ρ vs).set v none
theorem EnvD.wipe {μ : List Addr} {H : Hp} {ρ : Ev} {σ : L2.St} (e : EnvD G μ H ρ σ) : ∀ vs : List Nat, EnvD G μ H (wipeD ρ vs) (L2.wipe σ vs)
  | [] => e
  | v :: vs => by
    have ih := e.wipe vs
    refine ⟨by simp [wipeD, L2.wipe, ih.len], fun j d h => ?_⟩
    unfold wipeD at h
    unfold L2.wipe
    by_cases hj : j = v
    · subst hj
      by_cases hl : j < (wipeD ρ vs).length
      · rw [List.getElem?_set_self hl] at h; cases h
      · rw [List.getElem?_eq_none (by simp; omega)] at h; cases h
    · rw [List.getElem?_set_ne (Ne.symm hj)] at h ⊢
      exact ih.at_ j d h
def tYesF : FT := fun _ S => .ok true S
def lcGo (src : Src) (tg : FG) (t : FT) (e : FE) (ρ : Ev) : Nat → Nat → List D → Sg → R D
  | 0, i, acc, S => match srcAt S src i with
    | some none => newO (.lst acc) S
    | _ => .stuck
  | k + 1, i, acc, S => match srcAt S src i with
    | some (some d) => match tg d ρ with
      | some ρ1 => (t ρ1 S).nox.bind fun b S2 => match b with
        | true => (e ρ1 S2).nox.bind fun y S3 => if acc.length < 16777216 then lcGo src tg t e ρ k (i + 1) (acc ++ [y]) S3 else .stuck
        | false => lcGo src tg t e ρ k (i + 1) acc S2
      | none => .stuck
    | some none => newO (.lst acc) S
    | none => .stuck
def xLc (vs : List Nat) (fs : FI) (tg : FG) (t : FT) (e : FE) : FE := fun ρ S => (fs ρ S).bind fun src S1 => lcGo src tg t e (wipeD ρ vs) (srcLen S1 src) 0 [] S1
theorem post_base {α β γ δ : Type} {rel : Rel α β} {rel' : Rel γ δ} {μ1 μ : List Addr} {H1 H : Hp} {σ σ' : L2.St} {r : R α} {f : α → Sg → R γ} {Q : δ → Hp → Prop} (h : Post rel' G W μ1 H1 σ (r.nox.bind f) Q) :
    Post rel G W0 μ H σ' r fun b H3 => ∃ μ3 a S3, Per G μ H μ3 H3 ∧ Rep G μ3 S3 H3 ∧ rel μ3 H3 a b ∧ Post rel' G W μ1 H1 σ (f a S3) Q := by
  cases r with
  | ok a S' => exact fun μ' H' b p q d => ⟨μ', a, S', p, q, d, h⟩
  | exc c fs S' => exact h.elim
  | stuck => exact h
theorem per_adopt {μ μ1 : List Addr} {H H1 : Hp} {p : Addr} (pe : Per G μ H μ1 H1) (hp : H p = none) : Per G μ H (μ1 ++ [p]) H1 :=
  ⟨fun n a h => by
    have h1 := pe.ext n a h
    rw [List.getElem?_append_left (List.getElem?_eq_some_iff.mp h1).1]
    exact h1, pe.tup, pe.frz, pe.clo, fun a u h t k => by
    obtain ⟨h1, k1⟩ := pe.fr a u h t k
    refine ⟨h1, fun n z => ?_⟩
    by_cases hn : n < μ1.length
    · rw [List.getElem?_append_left hn] at z
      exact k1 n z
    · rw [List.getElem?_append_right (by omega)] at z
      have := List.mem_of_getElem? z
      have e : a = p := by simpa using this
      rw [e, hp] at h
      cases h⟩
theorem Amb.blk (A : Amb G X W) {s : Shared} {H : Hp} {scope : Scope} {cenv : Env} {fp : List Addr} : Amb G (X.blk s H scope cenv fp) W0 :=
  ⟨A.hK, A.hw, A.ok, takes0, A.hu, PassesOwn.never⟩
structure PTD (X : Cx) (G : Gx) (W : WX) (ifs : List Expr) (t : FT) : Prop where
  p : PTs X ifs (TDT G W t)
theorem dts_nil : PTs X [] (TDT G W tYesF) := ⟨fun pins s σ H Q I h => by
  refine pts_nil.run pins s σ H Q I ?_
  obtain ⟨μ, ρ, S, en, rp, p⟩ := h
  exact p _ _ _ .refl rp rfl⟩
theorem dts_one {c : Expr} {t : FT} (h : PT X c (TDT G W t)) : PTs X [c] (TDT G W t) := pts_one h
/-- the reading of a comprehension -/
theorem lc_read {vs : List Nat} {wi : TI} {fs : FI} {fg : FG} {tgr : TG} {t : FT} {e : FE} {σ : L2.St} {H : Hp} {Q : VK} (ok : G.Ok) (wi' : ∀ σ H R, TDg (SrcOk G) G W fs σ H R → wi σ H R) (gt : GT G vs fg tgr) (q : TD G W (xLc vs fs fg t e) σ H Q) :
    tLc wi tgr (TDT G W0 t) (TD G W0 e) vs σ H Q := by
  obtain ⟨μ, ρ, S, en, rp, po⟩ := q
  refine wi' σ H _ ⟨μ, ρ, S, en, rp, (post_bind (rel := SrcOk G) po).mono fun J H1 ⟨μ1, src, S1, pe, rp1, so, p1⟩ => fun D hD => ?_⟩
  refine ⟨fun i m H => ∃ μ S acc us, Rep G μ S H ∧ Per G μ1 H1 μ H ∧ EnvD G μ H (wipeD ρ vs) (wipe σ vs) ∧ SrcOk G μ H src J ∧ H D = some (.lst us) ∧ (∀ n : Nat, μ[n]? ≠ some D) ∧ DenA G μ H acc us ∧ Post (Den G) G W μ1 H1 σ (lcGo src fg t e (wipeD ρ vs) m i acc S) Q, ⟨srcLen S1 src, μ1, S1, [], [], ?_⟩, ?_⟩
  · have pn : Per G μ1 H1 μ1 (upd H1 D (.lst [])) := per_new ok hD
    refine ⟨rp1.new ok hD, pn, ((en.per pe).per pn).wipe vs, so.per pn, upd_same, fun n z => ?_, .nil, p1⟩
    obtain ⟨o, eo, ro⟩ := rp1.there z
    obtain ⟨w, e, _⟩ := ro.some
    rw [hD] at e; cases e
  · rintro i m H2 ⟨μ2, S2, acc, us, rp2, pe2, en2, so2, hD2, nD2, da2, p2⟩
    have so3 := so2 μ2 H2 S2 i .refl rp2
    have stop : srcAt S2 src i = some none → Post (Den G) G W μ1 H1 σ (newO (.lst acc) S2) Q → (J.stop i H2 ∧ Q (.ref D) H2) := fun e p => by
      refine ⟨so3.1 e, ?_⟩
      refine p (μ2 ++ [D]) H2 _ (per_adopt pe2 hD) (rp2.adopt nD2 fun μ' ex => ⟨us, hD2, da2.up ex⟩) (.ref ?_)
      rw [← rp2.len, List.getElem?_append_right (Nat.le_refl _), Nat.sub_self]
      rfl
    cases m with
    | zero =>
      simp only [lcGo] at p2
      split at p2
      · rename_i e
        exact .inl (stop e p2)
      · exact p2.elim
    | succ k =>
      simp only [lcGo] at p2
      split at p2
      · rename_i d ed
        split at p2
        · rename_i ρ3 e3
          obtain ⟨go, yl⟩ := so3.2 d ed
          refine .inr ⟨go, fun H => ∃ μ S acc us, Rep G μ S H ∧ Per G μ1 H1 μ H ∧ EnvD G μ H (wipeD ρ vs) (wipe σ vs) ∧ SrcOk G μ H src J ∧ H D = some (.lst us) ∧ (∀ n : Nat, μ[n]? ≠ some D) ∧ DenA G μ H acc us ∧ Post (Den G) G W μ1 H1 σ (lcGo src fg t e (wipeD ρ vs) k (i + 1) acc S) Q, fun H' q => ⟨k, Nat.lt_succ_self k, q⟩, fun x H' y => ?_⟩
          obtain ⟨pe', rp', dx⟩ := yl x H' y
          refine gt μ2 H' (wipeD ρ vs) (wipe σ vs) S2 d x ρ3 _ (en2.per pe') rp' dx e3 fun σ' en' hw => ⟨?_, ?_⟩
          · rw [hw]
            have : ∀ (l : List Nat) (τ : L2.St), wipe (wipe τ l) l = wipe τ l := by
              intro l
              have key : ∀ (l : List Nat) (τ : L2.St), (∀ j ∈ l, ∀ o, τ[j]? = some o → o = none) → wipe τ l = τ := by
                intro l
                induction l with
                | nil => intro τ _; rfl
                | cons v l ih =>
                  intro τ h
                  unfold wipe
                  rw [ih τ fun j hj => h j (by simp [hj])]
                  refine List.ext_getElem? fun j => ?_
                  by_cases hj : j = v
                  · subst hj
                    by_cases hl : j < τ.length
                    · rw [List.getElem?_set_self hl]
                      have := h j (by simp) τ[j] (by simp [hl])
                      simp [hl, this]
                    · rw [List.getElem?_eq_none (by simp; omega), List.getElem?_eq_none (by omega)]
                  · rw [List.getElem?_set_ne (Ne.symm hj)]
              intro τ
              refine key l _ fun j hj o ho => ?_
              cases o with
              | none => rfl
              | some x => exact absurd hj (wipe_some ho).2
            exact this vs σ
          · refine ⟨μ2, ρ3, S2, en', rp', (post_base p2).mono fun b H3 ⟨μ3, b', S3, pe3, rp3, eb, p3⟩ => ?_⟩
            have ek : b' = b := eb
            subst ek
            obtain ⟨hD', nD'⟩ := pe'.fr D _ hD2 (fun _ z => nomatch z) nD2
            obtain ⟨hD3, nD3⟩ := pe3.fr D _ hD' (fun _ z => nomatch z) nD'
            have pe13 := (pe2.trans pe').trans pe3
            cases b' with
            | false =>
              rw [if_neg Bool.false_ne_true]
              exact ⟨μ3, S3, acc, us, rp3, pe13, (en2.per pe').per pe3, (so2.per pe').per pe3, hD3, nD3, (da2.per pe').per pe3, p3⟩
            | true =>
              rw [if_pos rfl]
              refine ⟨μ3, ρ3, S3, en'.per pe3, rp3, (post_base p3).mono fun yv H4 ⟨μ4, yd, S4, pe4, rp4, dy, p4⟩ => ?_⟩
              obtain ⟨hl, p5⟩ := post_ite p4
              obtain ⟨hD4, nD4⟩ := pe4.fr D _ hD3 (fun _ z => nomatch z) nD3
              have da4 := ((da2.per pe').per pe3).per pe4
              refine ⟨us, hD4, by rw [sl_eq, ← da2.length]; exact hl, ?_⟩
              have pw : Per G μ4 H4 μ4 (upd H4 D (.lst (us ++ [yv]))) → True := fun _ => trivial
              have ne : ∀ (n : Nat) (a : Addr), μ4[n]? = some a → a ≠ D := fun n a h z => nD4 n (by rw [h, z])
              have stay : ∀ (b : Addr) (u : HO), b ≠ D → H4 b = some u → (upd H4 D (.lst (us ++ [yv]))) b = some u := fun b u hb h => by rw [upd_ne hb]; exact h
              -- the list itself grows: nothing else is touched
              have pe5 : ∀ {μ0 H0}, Per G μ0 H0 μ4 H4 → H0 D = none → Per G μ0 H0 μ4 (upd H4 D (.lst (us ++ [yv]))) := fun {μ0 H0} p h0 =>
                ⟨p.ext, fun a xs h => stay a _ (ne_of_none h h0) (p.tup a xs h), fun a q u h => stay a _ (ne_of_none h h0) (p.frz a q u h), fun n a h => ok.clo_mut n a H4 D _ _ hD4 trivial (fun _ z => nomatch z) (p.clo n a h),
                  fun a u h t k => ⟨stay a _ (ne_of_none h h0) (p.fr a u h t k).1, (p.fr a u h t k).2⟩⟩
              -- what was told at μ4, H4 stands
              have up5 : ∀ {d : Dx.D} {v : V}, Den G μ4 H4 d v → Den G μ4 (upd H4 D (.lst (us ++ [yv]))) d v := fun h => h.heap (fun a xs h => stay a _ (fun z => by rw [z, hD4] at h; cases h) h) (fun a q u h => stay a _ (fun z => by rw [z, hD4] at h; cases h) h) fun n a h => ok.clo_mut n a H4 D _ _ hD4 trivial (fun _ z => nomatch z) h
              have up5A : ∀ {ds : List Dx.D} {vs : List V}, DenA G μ4 H4 ds vs → DenA G μ4 (upd H4 D (.lst (us ++ [yv]))) ds vs := fun h => h.heap (fun a xs h => stay a _ (fun z => by rw [z, hD4] at h; cases h) h) (fun a q u h => stay a _ (fun z => by rw [z, hD4] at h; cases h) h) fun n a h => ok.clo_mut n a H4 D _ _ hD4 trivial (fun _ z => nomatch z) h
              have rp5 : Rep G μ4 S4 (upd H4 D (.lst (us ++ [yv]))) := ⟨rp4.len, rp4.nd, fun n o a h1 h2 => (rp4.at_ n o a h1 h2).heap (upd_ne (ne n a h2)) (fun a q u h => stay a _ (fun z => by rw [z, hD4] at h; cases h) h) (fun a xs h => stay a _ (fun z => by rw [z, hD4] at h; cases h) h) fun n a h => ok.clo_mut n a H4 D _ _ hD4 trivial (fun _ z => nomatch z) h, tabs_mut rp4.tabs hD4 trivial (fun _ z => nomatch z)⟩
              have so5 : SrcOk G μ4 (upd H4 D (.lst (us ++ [yv]))) src J := so.per (pe5 (pe13.trans pe4) hD)
              exact ⟨μ4, S4, acc ++ [yd], us ++ [yv], rp5, pe5 (pe13.trans pe4) hD, ⟨((en2.per pe').per pe3).len, fun j d h => let ⟨v, h1, h2⟩ := (((en2.per pe').per pe3).per pe4).at_ j d h; ⟨v, h1, up5 h2⟩⟩, so5, upd_same, nD4, up5A (da4.snoc dy), p5⟩
        · exact p2.elim
      · rename_i e
        exact .inl (stop e p2)
      · exact p2.elim
end Dx

/-! Dx7: comprehensions as expressions, defs and calls, built-ins. -/
namespace Dx
open PySem PySem.Spec L2
variable {G : Gx} {X : Cx} {W : WX}

theorem de_lc {elt tg iter : Expr} {ifs : List Expr} {scope : Scope} {own : List (Str × Nat)} {pos : Pos} {fs : FI} {fg : FG} {t : FT} {e : FE} (hc : X.calm = true) (hN : X.N.Nodup) (A : Amb G X W) (hi : DI X G W tg iter fs) (ok : BlkOk X.N X.env.scope scope own)
    (gt : ∀ (s : Shared) (H : Hp) (C : Addr) (cl : List (Str × Addr)) (fp : List Addr), DG (X.blk s H scope (compEnvC scope cl C X.env) fp) G (own.map (·.2)) tg fg)
    (ht : ∀ (s : Shared) (H : Hp) (C : Addr) (cl : List (Str × Addr)) (fp : List Addr), PTs (X.blk s H scope (compEnvC scope cl C X.env) fp) ifs (TDT G W0 t))
    (he : ∀ (s : Shared) (H : Hp) (C : Addr) (cl : List (Str × Addr)) (fp : List Addr), PE (X.blk s H scope (compEnvC scope cl C X.env) fp) elt (TD G W0 e)) (hs : ∀ x, foldedSetIterable iter X.env x = pure x := by intro _; rfl) :
    PE X (.ListComp elt [⟨tg, iter, ifs, 0⟩] scope pos) (TD G W (xLc (own.map (·.2)) fs fg t e)) := by
  obtain ⟨wi, pi, wi'⟩ := hi
  have key : ∃ tgr : TG, (∀ (s : Shared) (H : Hp) (C : Addr) (cl : List (Str × Addr)) (fp : List Addr), PG (X.blk s H scope (compEnvC scope cl C X.env) fp) tg tgr) ∧ GT G (own.map (·.2)) fg tgr := by
    refine ⟨fun v σ H Q => ∃ μ ρ S d ρ', EnvD G μ H ρ σ ∧ Rep G μ S H ∧ Den G μ H d v ∧ fg d ρ = some ρ' ∧ ∀ σ', EnvD G μ H ρ' σ' → wipe σ' (own.map (·.2)) = wipe σ (own.map (·.2)) → Q σ' H, fun s H C cl fp => ?_, fun μ H ρ σ S d v ρ' Q en rp dd e1 k => ⟨μ, ρ, S, d, ρ', en, rp, dd, e1, k⟩⟩
    obtain ⟨t0, p0, g0⟩ := gt s H C cl fp
    exact ⟨fun pins s σ H v u Q I r ⟨μ, ρ, S, d, ρ', en, rp, dd, e1, k⟩ => p0.run pins s σ H v u Q I r (g0 μ H ρ σ S d v ρ' Q en rp dd e1 k)⟩
  obtain ⟨tgr, pg, gt'⟩ := key
  exact PE.imp (pe_lc hc hN pi ok pg ht he hs) fun σ H Q q => lc_read A.ok wi' gt' q
/-- y = [.. for ..] on one line, y a local -/
theorem ds_setLc {i : Nat} {y : Str} {py : Pos} {elt tg iter : Expr} {ifs : List Expr} {scope : Scope} {own : List (Str × Nat)} {pos spos : Pos} {fs : FI} {fg : FG} {t : FT} {e : FE} (hc : X.calm = true) (hN : X.N.Nodup) (A : Amb G X W)
    (hsw : swapsWith (.ListComp elt [⟨tg, iter, ifs, 0⟩] scope pos) (some (.Name y py)) spos.line X.env = pure true) (hi : DI X G W tg iter fs) (ok : BlkOk X.N X.env.scope scope own)
    (gt : ∀ (s : Shared) (H : Hp) (C : Addr) (cl : List (Str × Addr)) (fp : List Addr), DG (X.blk s H scope (compEnvC scope cl C X.env) fp) G (own.map (·.2)) tg fg)
    (ht : ∀ (s : Shared) (H : Hp) (C : Addr) (cl : List (Str × Addr)) (fp : List Addr), PTs (X.blk s H scope (compEnvC scope cl C X.env) fp) ifs (TDT G W0 t))
    (he : ∀ (s : Shared) (H : Hp) (C : Addr) (cl : List (Str × Addr)) (fp : List Addr), PE (X.blk s H scope (compEnvC scope cl C X.env) fp) elt (TD G W0 e)) (hs : ∀ x, foldedSetIterable iter X.env x = pure x := by intro _; rfl)
    (hy : X.N[i]? = some y := by rfl) (hyl : X.env.scope.names.lookup y = some .local := by rfl) :
    PS X (.Assign [.Name y py] (.ListComp elt [⟨tg, iter, ifs, 0⟩] scope pos) spos) (TDS G W (sSet i (xLc (own.map (·.2)) fs fg t e))) := by
  obtain ⟨wi, pi, wi'⟩ := hi
  have key : ∃ tgr : TG, (∀ (s : Shared) (H : Hp) (C : Addr) (cl : List (Str × Addr)) (fp : List Addr), PG (X.blk s H scope (compEnvC scope cl C X.env) fp) tg tgr) ∧ GT G (own.map (·.2)) fg tgr := by
    refine ⟨fun v σ H Q => ∃ μ ρ S d ρ', EnvD G μ H ρ σ ∧ Rep G μ S H ∧ Den G μ H d v ∧ fg d ρ = some ρ' ∧ ∀ σ', EnvD G μ H ρ' σ' → wipe σ' (own.map (·.2)) = wipe σ (own.map (·.2)) → Q σ' H, fun s H C cl fp => ?_, fun μ H ρ σ S d v ρ' Q en rp dd e1 k => ⟨μ, ρ, S, d, ρ', en, rp, dd, e1, k⟩⟩
    obtain ⟨t0, p0, g0⟩ := gt s H C cl fp
    exact ⟨fun pins s σ H v u Q I r ⟨μ, ρ, S, d, ρ', en, rp, dd, e1, k⟩ => p0.run pins s σ H v u Q I r (g0 μ H ρ σ S d v ρ' Q en rp dd e1 k)⟩
  obtain ⟨tgr, pg, gt'⟩ := key
  refine PS.imp (ps_setLc hc hN hy hyl hsw pi ok pg ht he hs) fun Z σ H ⟨μ, ρ, S, en, rp, po⟩ => ?_
  exact lc_read A.ok wi' gt' ⟨μ, ρ, S, en, rp, (posts_go en po).mono fun v H1 ⟨μ1, d, S1, pe, rp1, dd, p1⟩ => PostS.now p1 rp1 ((en.per pe).set dd)⟩

/-! ### defs -/
abbrev FF := List D → Sg → R D
def dFun (N n : Nat) (g : FS) : FF := fun ds S => if ds.length = n then (match g (ds.map some ++ List.replicate (N - ds.length) none) S with
  | .nx _ S1 => .ok .non S1
  | .rt d S1 => .ok d S1
  | .exc c fs _ S1 => .exc c fs S1
  | _ => .stuck) else .stuck
def spD (G : Gx) (n : Nat) (F : FF) : Sp := fun vs H Q E => vs.length = n ∧ ∃ μ S ds, Rep G μ S H ∧ DenA G μ H ds vs ∧ Post (Den G) G (fun c d _ H => E c d H) μ H [] (F ds S) Q
theorem start_env {μ : List Addr} {H : Hp} {N : List Str} {ds : List D} {vs : List V} (h : DenA G μ H ds vs) (hl : ds.length ≤ N.length) : EnvD G μ H (ds.map some ++ List.replicate (N.length - ds.length) none) (L2.start N vs) := by
  unfold L2.start
  refine ⟨by simp [h.length], fun i d e => ?_⟩
  by_cases hi : i < ds.length
  · rw [List.getElem?_append_left (by simpa using hi), List.getElem?_map] at e
    obtain ⟨x, e1, e2⟩ := Option.map_eq_some_iff.mp e
    cases e2
    obtain ⟨v, h1, h2⟩ := h.get e1
    refine ⟨v, ?_, h2⟩
    rw [List.getElem?_append_left (by simpa [h.length] using (List.getElem?_eq_some_iff.mp h1).1), List.getElem?_map, h1]
    rfl
  · rw [List.getElem?_append_right (by simpa using hi)] at e
    have := List.mem_of_getElem? e
    have := List.eq_of_mem_replicate this
    cases this
theorem fn_ok {P : Program} {w : World} {K : PySem.W.Frag} {mg : Str → Option Value} {base : Heap} {x qual : Str} {st : Stmt} {f : Addr} {fd : FuncData} {N ps : List Str} {k : Nat} {g : FS} (F : Fun K x qual st f fd) (Sc : FnScope N ps (defScope st)) (hl : ps.length ≤ N.length)
    (hbody : ∀ (cdv : Value) (A : Around) (outer : List Env) (s : Shared) (H : Hp) (E : XK), Room k (A.deeper (PyProof.Rows.envOfC qual (defScope st) s.heap.objs.size f cdv)) →
      PSs (cxOf (L2.CX P w) P w K mg base N qual (defScope st) f cdv A outer s H E) (defBody st) (TDS G (fun c d _ H' => E c d H') g)) :
    FnOk P w K mg base (L2.CX P w) (k + 1) f fd ps (spD G ps.length (dFun N.length ps.length g)) := by
  refine F.okX Sc (fun vs H Q E h => h.1) (fun cdv A outer s H vs Q E hr h => ⟨_, hbody cdv A outer s H E hr, ?_⟩)
  obtain ⟨hv, μ, S, ds, rp, dd, po⟩ := h
  refine ⟨μ, _, S, start_env dd (by rw [dd.length, hv]; exact hl), rp, ?_⟩
  unfold dFun at po
  obtain ⟨c, po⟩ := post_ite po
  revert po
  generalize g (ds.map some ++ List.replicate (N.length - ds.length) none) S = fl
  intro po
  cases fl with
  | nx ρ' S' => exact fun μ' H' σ' p r e => po μ' H' _ p r .non
  | rt d S' => exact po
  | bk ρ' S' => exact po.elim
  | ct ρ' S' => exact po.elim
  | exc c fs ρ' S' => exact fun μ' H' σ' cls dd p r e x => po μ' H' cls dd p r x
  | stuck => exact po.elim
/-- the context of a def's body -/
theorem amb_fn {P : Program} {K : PySem.W.Frag} {mg : Str → Option Value} {base : Heap} {N : List Str} {qual : Str} {scope : Scope} {f : Addr} {cdv : Value} {A : Around} {outer : List Env} {s : Shared} {H : Hp} {E : XK} {k : Nat} {w : World} (hK : K = G.K) (hw : w = G.w) (ok : G.Ok) (hr : Room (k + 1) (A.deeper (PyProof.Rows.envOfC qual scope s.heap.objs.size f cdv))) :
    Amb G (cxOf (L2.CX P w) P w K mg base N qual scope f cdv A outer s H E) (fun c d _ H' => E c d H') :=
  ⟨hK, hw, ok, takes_of rfl rfl rfl rfl, by have h1 := hr.un; show (A.deeper (PyProof.Rows.envOfC qual scope s.heap.objs.size f cdv)).units + 65 < cLine; omega, passes_of rfl⟩
/-- a def as callers know it -/
structure DefD (P : Program) (w : World) (K : PySem.W.Frag) (mg : Str → Option Value) (base : Heap) (G : Gx) (k : Nat) (x : Str) (n : Nat) (F : FF) : Prop where
  ex : ∃ f fd ps, FnOk P w K mg base (L2.CX P w) k f fd ps (spD G n F) ∧ mg x = some (.ref f) ∧ PySem.W.keepIn K (.ref f) = true ∧ Binds K fd ps []
theorem DefD.mono {P : Program} {w : World} {K : PySem.W.Frag} {mg : Str → Option Value} {base : Heap} {j k n : Nat} {x : Str} {F : FF} (d : DefD P w K mg base G j x n F) (h : j ≤ k) : DefD P w K mg base G k x n F := by
  obtain ⟨f, fd, ps, a, b, c, e⟩ := d.ex
  exact ⟨f, fd, ps, a.mono h, b, c, e⟩
def xCall (F : FF) (n : Nat) (g : FA) : FE := fun ρ S => (g ρ S).bind fun ds S1 => if ds.length = n then F ds S1 else .stuck
theorem de_call {x : Str} {p pos : Pos} {e : Expr} {es : List Expr} {g : FA} {F : FF} {k j n : Nat} (A : Amb G X W) (d : DefD X.prog X.w X.K X.mg X.base G j x n F) (hr : Room k X.A) (hk : j ≤ k) (ha : PA X (e :: es) (TDA G W g)) (hg : Gl X x := by rfl)
    (hdb : (x == ("__debug__" : Str)) = false := by decide) (he : starEach (e :: es) X.env = (false, eval e X.env) :: starEach es X.env := by rfl) (hpl : (backTo pos (starEach es X.env)).any (·.1) = false := by rfl) :
    PE X (.Call (.Name x p) (e :: es) [] pos) (TD G W (xCall F n g)) := by
  obtain ⟨f, fd, ps, Fo, hm, hkp, hb⟩ := d.ex
  refine PE.imp (pe_callS Fo (hr.mono hk) hg hm hkp hb (fun σ => passAt A.tk σ) ha hdb he hpl) fun σ H Q ⟨μ, ρ, S, en, rp, po⟩ => ⟨μ, ρ, S, en, rp, (post_bind po).mono fun vs H1 ⟨μ1, ds, S1, pe, rp1, dd, p1⟩ => ?_⟩
  obtain ⟨c, p2⟩ := post_ite p1
  refine ⟨by rw [← dd.length]; exact c, μ1, S1, ds, rp1, dd, ?_⟩
  revert p2
  generalize F ds S1 = r
  intro p2
  cases r with
  | ok a S' => exact p2
  | exc c fs S' => exact p2
  | stuck => exact p2

/-! ### built-ins by values -/
abbrev CV := List D → Sg → R D
def CallV (G : Gx) (W : WX) (r : List V → Hp → VK → Prop) (h : CV) : Prop := ∀ μ S H xs ds σ Q, Rep G μ S H → DenA G μ H ds xs → Post (Den G) G W μ H σ (h ds S) Q → r xs H Q
def xB (h : CV) (g : FA) : FE := fun ρ S => (g ρ S).bind fun ds S1 => h ds S1
theorem td_cb {r : List V → Hp → VK → Prop} {h : CV} {g : FA} (o : CallV G W r h) {σ : L2.St} {H : Hp} {Q : VK} (q : TD G W (xB h g) σ H Q) : tCB r (TDA G W g) σ H Q := by
  obtain ⟨μ, ρ, S, en, rp, po⟩ := q
  exact ⟨μ, ρ, S, en, rp, (post_bind po).mono fun vs H1 ⟨μ1, ds, S1, pe, rp1, dd, p1⟩ => o _ _ _ _ _ _ _ rp1 dd p1⟩
theorem de_callB {x : Str} {id : String} {p pos : Pos} {e : Expr} {es : List Expr} {g : FA} {r : List V → Hp → VK → Prop} {h : CV} (hc : CallR X (.builtin id) r) (o : CallV G W r h) (hm : X.mg x = none) (hv : bootBuiltins x = some (.builtin id)) (ha : PA X (e :: es) (TDA G W g)) (hg : Gl X x := by rfl)
    (hn : x ≠ "__name__" := by decide) (hdb : (x == ("__debug__" : Str)) = false := by decide) (he : starEach (e :: es) X.env = (false, eval e X.env) :: starEach es X.env := by rfl) (hpl : (backTo pos (starEach es X.env)).any (·.1) = false := by rfl) :
    PE X (.Call (.Name x p) (e :: es) [] pos) (TD G W (xB h g)) := PE.imp (pe_callB hc hg hm hv ha hn hdb he hpl) fun σ H Q q => td_cb o q
theorem de_callTy {x : Str} {T : String} {p pos : Pos} {e : Expr} {es : List Expr} {g : FA} {r : List V → Hp → VK → Prop} {h : CV} (hc : CallR X (.type T) r) (o : CallV G W r h) (hm : X.mg x = none) (hv : bootBuiltins x = some (.type T)) (ha : PA X (e :: es) (TDA G W g)) (hg : Gl X x := by rfl)
    (hn : x ≠ "__name__" := by decide) (hdb : (x == ("__debug__" : Str)) = false := by decide) (he : starEach (e :: es) X.env = (false, eval e X.env) :: starEach es X.env := by rfl) (hpl : (backTo pos (starEach es X.env)).any (·.1) = false := by rfl) :
    PE X (.Call (.Name x p) (e :: es) [] pos) (TD G W (xB h g)) := PE.imp (pe_callTy hc hg hm hv ha hn hdb he hpl) fun σ H Q q => td_cb o q
/-- the items of a list or tuple -/
def itemsD (S : Sg) : D → Option (List D)
  | .tup xs => some xs
  | .ktup xs => some xs
  | .slist ns => some (ns.map .int)
  | d => seqOf S d
theorem items_den {μ : List Addr} {H : Hp} {S : Sg} {d : D} {v : V} {xs : List D} (rp : Rep G μ S H) (h : Den G μ H d v) (e : itemsD S d = some xs) : ∃ a vs, v = .ref a ∧ (SqL G.K H a vs ∨ SqT G.K H a vs) ∧ DenA G μ H xs vs := by
  cases h with
  | tup h1 h2 => simp [itemsD] at e; subst e; exact ⟨_, _, rfl, .inr (SqT.of h1), h2⟩
  | ktup h1 h2 => simp [itemsD] at e; subst e; exact ⟨_, _, rfl, .inr (h1 _), h2⟩
  | clist h1 h2 => simp [itemsD, seqOf] at e; subst e; exact ⟨_, _, rfl, .inl (cl_sqL h1), h2⟩
  | slist h1 => simp [itemsD] at e; subst e; exact ⟨_, _, rfl, .inl (sl_sqL h1), den_ints _⟩
  | ref h =>
    simp only [itemsD, seqOf] at e
    split at e
    · rename_i ys eo
      cases e
      obtain ⟨vs, h1, h2⟩ := RepO.sqL (rp.obj h eo)
      exact ⟨_, vs, rfl, .inl h1, h2⟩
    · cases e
  | _ => simp [itemsD, seqOf] at e
theorem seq_den {μ : List Addr} {H : Hp} {S : Sg} {d : D} {v : V} {xs : List D} (rp : Rep G μ S H) (h : Den G μ H d v) (e : seqOf S d = some xs) : ∃ a vs, v = .ref a ∧ SqL G.K H a vs ∧ DenA G μ H xs vs := by
  cases h with
  | clist h1 h2 => simp [seqOf] at e; subst e; exact ⟨_, _, rfl, cl_sqL h1, h2⟩
  | ref h =>
    simp only [seqOf] at e
    split at e
    · rename_i ys eo
      cases e
      obtain ⟨vs, h1, h2⟩ := RepO.sqL (rp.obj h eo)
      exact ⟨_, vs, rfl, h1, h2⟩
    · cases e
  | _ => simp [seqOf] at e
/-- len -/
def cLen : CV := fun ds S => match ds with
  | [.str s] => if s.length ≤ 16777216 then .ok (.int s.length) S else .stuck
  | [d] => match itemsD S d with
    | some xs => .ok (.int xs.length) S
    | none => match d with
      | .ref n => match S[n]? with
        | some (.dct kvs) => .ok (.int kvs.length) S
        | _ => .stuck
      | _ => .stuck
  | _ => .stuck
theorem cv_len : CallV G W (fun xs H Q => (∃ x n, xs = [x] ∧ LenV G.K x H n ∧ Q (.int n) H) ∨ ∃ a kvs, xs = [V.ref a] ∧ H a = some (.dK kvs) ∧ Q (.int kvs.length) H) cLen := by
  intro μ S H xs ds σ Q rp dd po
  unfold cLen at po
  split at po
  · cases dd with
    | cons d1 t =>
      cases t
      cases d1
      obtain ⟨c, p⟩ := post_ite po
      exact .inl ⟨_, _, rfl, ⟨by rw [ofS_len, sl_eq]; exact c, rfl⟩, by rw [ofS_len]; exact post_ok rp p (.int _)⟩
  · cases dd with
    | cons d1 t =>
      cases t
      split at po
      · rename_i ys e
        obtain ⟨a, vs, rfl, h1, h2⟩ := items_den rp d1 e
        refine .inl ⟨_, vs.length, rfl, h1.elim (fun h => .inl ⟨vs, h, rfl⟩) (fun h => .inr ⟨vs, h, rfl⟩), ?_⟩
        rw [← h2.length]
        exact post_ok rp po (.int _)
      · split at po
        · split at po
          · rename_i kvs eo
            cases d1 with
            | ref h =>
              obtain ⟨gs, h1, h2⟩ := rp.obj h eo
              refine .inr ⟨_, gs, rfl, h1, ?_⟩
              rw [← h2.length]
              exact post_ok rp po (.int _)
          · exact po.elim
        · exact po.elim
  · exact po.elim
theorem de_len {e : Expr} {p pos : Pos} {g : FA} (A : Amb G X W) (hm : X.mg "len" = none) (ha : PA X [e] (TDA G W g)) (hg : Gl X "len" := by rfl) (he : starEach [e] X.env = (false, eval e X.env) :: starEach [] X.env := by rfl) (hpl : (backTo pos (starEach [] X.env)).any (·.1) = false := by rfl) : PE X (.Call (.Name "len" p) [e] [] pos) (TD G W (xB cLen g)) :=
  de_callB (r := fun xs H Q => (∃ x n, xs = [x] ∧ LenV G.K x H n ∧ Q (.int n) H) ∨ ∃ a kvs, xs = [V.ref a] ∧ H a = some (.dK kvs) ∧ Q (.int kvs.length) H) (by have := (call_len (X := X)).or call_lenD; rw [A.hK] at this; exact this) cv_len hm PySem.boot_len ha hg (by decide) (by decide) he hpl
/-- int of an int or a bool -/
def cInt : CV := fun ds S => match ds with
  | [.int i] => .ok (.int i) S
  | [.bl b] => .ok (.int (if b then 1 else 0)) S
  | _ => .stuck
theorem cv_int : CallV G W (fun xs H Q => (∃ i, xs = [.int i] ∧ Q (.int i) H) ∨ ∃ k, xs = [.bl k] ∧ Q (.int (if k then 1 else 0)) H) cInt := by
  intro μ S H xs ds σ Q rp dd po
  unfold cInt at po
  split at po
  · cases dd with
    | cons d1 t => cases t; cases d1; exact .inl ⟨_, rfl, post_ok rp po (.int _)⟩
  · cases dd with
    | cons d1 t => cases t; cases d1; exact .inr ⟨_, rfl, post_ok rp po (.int _)⟩
  · exact po.elim
theorem de_int1 {e : Expr} {p pos : Pos} {g : FA} (hm : X.mg "int" = none) (ha : PA X [e] (TDA G W g)) (hg : Gl X "int" := by rfl) (he : starEach [e] X.env = (false, eval e X.env) :: starEach [] X.env := by rfl) (hpl : (backTo pos (starEach [] X.env)).any (·.1) = false := by rfl) : PE X (.Call (.Name "int" p) [e] [] pos) (TD G W (xB cInt g)) :=
  de_callTy call_int1 cv_int hm PyProof.Rows.boot_int ha hg (by decide) (by decide) he hpl
/-- list, tuple of a list or tuple -/
def cList1 : CV := fun ds S => match ds with
  | [d] => match itemsD S d with
    | some xs => newO (.lst xs) S
    | none => .stuck
  | _ => .stuck
def cTuple : CV := fun ds S => match ds with
  | [d] => match tupOf d with
    | some _ => .ok d S
    | none => match seqOf S d with
      | some xs => .ok (.tup xs) S
      | none => .stuck
  | _ => .stuck
theorem cv_list (g : G.Ok) : CallV G W (fun xs H Q => ∃ p ys, xs = [.ref p] ∧ (SqL G.K H p ys ∨ SqT G.K H p ys) ∧ ∀ l, H l = none → Q (.ref l) (upd H l (.lst ys))) cList1 := by
  intro μ S H xs ds σ Q rp dd po
  unfold cList1 at po
  split at po
  · cases dd with
    | cons d1 t =>
      cases t
      split at po
      · rename_i ys e
        obtain ⟨a, vs, rfl, h1, h2⟩ := items_den rp d1 e
        exact ⟨a, vs, rfl, h1, fun l hl => post_lst g rp h2 po hl⟩
      · exact po.elim
  · exact po.elim
theorem cv_tuple (g : G.Ok) : CallV G W (fun xs H Q => ∃ p ys, xs = [.ref p] ∧ ((SqL G.K H p ys ∧ ∀ l, H l = none → Q (.ref l) (upd H l (.tup ys))) ∨ (SqT G.K H p ys ∧ Q (.ref p) H))) cTuple := by
  intro μ S H xs ds σ Q rp dd po
  unfold cTuple at po
  split at po
  · cases dd with
    | cons d1 t =>
      cases t
      split at po
      · rename_i ys e
        obtain ⟨a, vs, rfl, h1, h2⟩ := tup_den d1 e
        exact ⟨a, vs, rfl, .inr ⟨h1, post_ok rp po d1⟩⟩
      · split at po
        · rename_i ys e
          obtain ⟨a, vs, rfl, h1, h2⟩ := seq_den rp d1 e
          exact ⟨a, vs, rfl, .inl ⟨h1, fun l hl => post_tup g rp h2 po hl⟩⟩
        · exact po.elim
  · exact po.elim
theorem de_list {e : Expr} {p pos : Pos} {g : FA} (A : Amb G X W) (hm : X.mg "list" = none) (ha : PA X [e] (TDA G W g)) (hg : Gl X "list" := by rfl) (he : starEach [e] X.env = (false, eval e X.env) :: starEach [] X.env := by rfl) (hpl : (backTo pos (starEach [] X.env)).any (·.1) = false := by rfl) : PE X (.Call (.Name "list" p) [e] [] pos) (TD G W (xB cList1 g)) :=
  de_callTy (r := fun xs H Q => ∃ p ys, xs = [.ref p] ∧ (SqL G.K H p ys ∨ SqT G.K H p ys) ∧ ∀ l, H l = none → Q (.ref l) (upd H l (.lst ys))) (by have := call_list_of (X := X); rw [A.hK] at this; exact this) (cv_list A.ok) hm PyProof.Rows.boot_list ha hg (by decide) (by decide) he hpl
theorem de_tuple {e : Expr} {p pos : Pos} {g : FA} (A : Amb G X W) (hm : X.mg "tuple" = none) (ha : PA X [e] (TDA G W g)) (hg : Gl X "tuple" := by rfl) (he : starEach [e] X.env = (false, eval e X.env) :: starEach [] X.env := by rfl) (hpl : (backTo pos (starEach [] X.env)).any (·.1) = false := by rfl) : PE X (.Call (.Name "tuple" p) [e] [] pos) (TD G W (xB cTuple g)) :=
  de_callTy (r := fun xs H Q => ∃ p ys, xs = [.ref p] ∧ ((SqL G.K H p ys ∧ ∀ l, H l = none → Q (.ref l) (upd H l (.tup ys))) ∨ (SqT G.K H p ys ∧ Q (.ref p) H))) (by have := call_tuple_of (X := X); rw [A.hK] at this; exact this) (cv_tuple A.ok) hm PyProof.Rows.boot_tuple ha hg (by decide) (by decide) he hpl
/-- ints, bools of a list -/
def intsOf : List D → Option (List Int)
  | [] => some []
  | .int i :: r => (intsOf r).map (i :: ·)
  | _ => none
def blsOf : List D → Option (List Bool)
  | [] => some []
  | .bl i :: r => (blsOf r).map (i :: ·)
  | _ => none
theorem ints_den {μ : List Addr} {H : Hp} : ∀ {ds : List D} {vs : List V} {ns : List Int}, DenA G μ H ds vs → intsOf ds = some ns → vs = ns.map V.int
  | [], _, _, .nil, e => by cases e; rfl
  | d :: ds, _, ns, .cons h t, e => by
    cases h <;> simp only [intsOf] at e
    all_goals first
      | (obtain ⟨m, e1, e2⟩ := Option.map_eq_some_iff.mp e; subst e2; rw [List.map_cons, ints_den t e1])
      | cases e
theorem bls_den {μ : List Addr} {H : Hp} : ∀ {ds : List D} {vs : List V} {ns : List Bool}, DenA G μ H ds vs → blsOf ds = some ns → vs = ns.map V.bl
  | [], _, _, .nil, e => by cases e; rfl
  | d :: ds, _, ns, .cons h t, e => by
    cases h <;> simp only [blsOf] at e
    all_goals first
      | (obtain ⟨m, e1, e2⟩ := Option.map_eq_some_iff.mp e; subst e2; rw [List.map_cons, bls_den t e1])
      | cases e
def cSum : CV := fun ds S => match ds with
  | [d] => match (seqOf S d).bind intsOf with
    | some ns => .ok (.int ns.sum) S
    | none => .stuck
  | _ => .stuck
def cAll : CV := fun ds S => match ds with
  | [d] => match (seqOf S d).bind blsOf with
    | some ns => .ok (.bl (ns.all id)) S
    | none => .stuck
  | _ => .stuck
def cAny : CV := fun ds S => match ds with
  | [d] => match (seqOf S d).bind blsOf with
    | some ns => .ok (.bl (ns.any id)) S
    | none => .stuck
  | _ => .stuck
theorem cv_sum : CallV G W (rSum G.K) cSum := by
  intro μ S H xs ds σ Q rp dd po
  unfold cSum at po
  split at po
  · cases dd with
    | cons d1 t =>
      cases t
      split at po
      · rename_i ns e
        obtain ⟨ys, e1, e2⟩ := Option.bind_eq_some_iff.mp e
        obtain ⟨a, vs, rfl, h1, h2⟩ := seq_den rp d1 e1
        have := ints_den h2 e2
        subst this
        exact ⟨a, ns, rfl, h1, post_ok rp po (.int _)⟩
      · exact po.elim
  · exact po.elim
theorem cv_all : CallV G W (rAll G.K) cAll := by
  intro μ S H xs ds σ Q rp dd po
  unfold cAll at po
  split at po
  · cases dd with
    | cons d1 t =>
      cases t
      split at po
      · rename_i ns e
        obtain ⟨ys, e1, e2⟩ := Option.bind_eq_some_iff.mp e
        obtain ⟨a, vs, rfl, h1, h2⟩ := seq_den rp d1 e1
        have := bls_den h2 e2
        subst this
        exact ⟨a, ns, rfl, h1, post_ok rp po (.bl _)⟩
      · exact po.elim
  · exact po.elim
theorem cv_any : CallV G W (rAny G.K) cAny := by
  intro μ S H xs ds σ Q rp dd po
  unfold cAny at po
  split at po
  · cases dd with
    | cons d1 t =>
      cases t
      split at po
      · rename_i ns e
        obtain ⟨ys, e1, e2⟩ := Option.bind_eq_some_iff.mp e
        obtain ⟨a, vs, rfl, h1, h2⟩ := seq_den rp d1 e1
        have := bls_den h2 e2
        subst this
        exact ⟨a, ns, rfl, h1, post_ok rp po (.bl _)⟩
      · exact po.elim
  · exact po.elim
theorem de_sum {e : Expr} {p pos : Pos} {g : FA} (A : Amb G X W) (hc : X.calm = true) (hm : X.mg "sum" = none) (ha : PA X [e] (TDA G W g)) (hg : Gl X "sum" := by rfl) (he : starEach [e] X.env = (false, eval e X.env) :: starEach [] X.env := by rfl) (hpl : (backTo pos (starEach [] X.env)).any (·.1) = false := by rfl) : PE X (.Call (.Name "sum" p) [e] [] pos) (TD G W (xB cSum g)) :=
  de_callB (r := rSum G.K) (by have := cr_sum hc; rw [A.hK] at this; exact this) cv_sum hm PyProof.Rows.boot_sum ha hg (by decide) (by decide) he hpl
theorem de_all {e : Expr} {p pos : Pos} {g : FA} (A : Amb G X W) (hc : X.calm = true) (hm : X.mg "all" = none) (ha : PA X [e] (TDA G W g)) (hg : Gl X "all" := by rfl) (he : starEach [e] X.env = (false, eval e X.env) :: starEach [] X.env := by rfl) (hpl : (backTo pos (starEach [] X.env)).any (·.1) = false := by rfl) : PE X (.Call (.Name "all" p) [e] [] pos) (TD G W (xB cAll g)) :=
  de_callB (r := rAll G.K) (by have := cr_all hc; rw [A.hK] at this; exact this) cv_all hm (by decide +kernel) ha hg (by decide) (by decide) he hpl
theorem de_any {e : Expr} {p pos : Pos} {g : FA} (A : Amb G X W) (hc : X.calm = true) (hm : X.mg "any" = none) (ha : PA X [e] (TDA G W g)) (hg : Gl X "any" := by rfl) (he : starEach [e] X.env = (false, eval e X.env) :: starEach [] X.env := by rfl) (hpl : (backTo pos (starEach [] X.env)).any (·.1) = false := by rfl) : PE X (.Call (.Name "any" p) [e] [] pos) (TD G W (xB cAny g)) :=
  de_callB (r := rAny G.K) (by have := cr_any hc; rw [A.hK] at this; exact this) cv_any hm (by decide +kernel) ha hg (by decide) (by decide) he hpl

/-! ### isinstance with a built-in class, with a tuple of two -/
def tyD (S : Sg) : D → Option String
  | .non => some "NoneType"
  | .bl _ => some "bool"
  | .int _ => some "int"
  | .str _ => some "str"
  | .tup _ => some "tuple"
  | .ktup _ => some "tuple"
  | .clist _ => some "list"
  | .ref n => match S[n]? with
    | some (.lst _) => some "list"
    | some (.dct _) => some "dict"
    | some (.dtt _) => some "dict"
    | _ => none
  | _ => none
def tyNames : List String := ["NoneType", "bool", "int", "str", "tuple", "list", "dict"]
def clNames : List String := ["bool", "int", "str", "tuple", "list", "dict"]
def isaT (t u : String) : Bool := decide (t = u) || (decide (t = "bool") && decide (u = "int"))
theorem isa_all : ∀ t ∈ tyNames, ∀ u ∈ clNames, kitB t u = some (isaT t u) := by decide +kernel
theorem kK {a : Addr} {K : PySem.W.Frag} {vs : List V} (h : ∀ H', SqT K H' a vs) : ∃ o, K.lookup a = some o ∧ o.cls = .type "tuple" := by
  rcases h (fun _ => none) with (z | ⟨q, z⟩) | ⟨o, its, n, h1, h2, _⟩
  · cases z
  · cases z
  · exact ⟨o, h1, h2⟩
theorem kL {a : Addr} {K : PySem.W.Frag} {vs : List V} (h : ∀ H', SqL K H' a vs) : ∃ o, K.lookup a = some o ∧ o.cls = .type "list" := by
  rcases h (fun _ => none) with (z | ⟨q, z⟩) | ⟨o, its, n, h1, h2, _⟩
  · cases z
  · cases z
  · exact ⟨o, h1, h2⟩
theorem ty_den {μ : List Addr} {H : Hp} {S : Sg} {d : D} {v : V} {t : String} (rp : Rep G μ S H) (h : Den G μ H d v) (e : tyD S d = some t) : TyX G.K H v (.type t) ∧ t ∈ tyNames := by
  cases h with
  | non => cases e; exact ⟨.base .non, by decide⟩
  | bl b => cases e; exact ⟨.base (.bl b), by decide⟩
  | int i => cases e; exact ⟨.base (.int i), by decide⟩
  | str s => cases e; exact ⟨.base (.str _), by decide⟩
  | tup h1 h2 => cases e; exact ⟨.base (.tup h1), by decide⟩
  | ktup h1 h2 => cases e; obtain ⟨o, a, b⟩ := kK h1; exact ⟨.kTuple a b, by decide⟩
  | clist h1 h2 =>
    cases e
    obtain ⟨q, h1⟩ := h1
    exact ⟨.base (.frz h1), by decide⟩
  | slist _ => cases e
  | cdict _ _ _ => cases e
  | clo _ => cases e
  | exv0 => cases e
  | exv _ _ => cases e
  | ref h =>
    simp only [tyD] at e
    split at e
    · rename_i xs eo
      cases e
      obtain ⟨vs, h1, _⟩ := rp.obj h eo
      exact ⟨.base (.lst h1), by decide⟩
    · rename_i xs eo
      cases e
      obtain ⟨vs, h1, _⟩ := rp.obj h eo
      exact ⟨.base (.dK h1), by decide⟩
    · rename_i xs eo
      cases e
      obtain ⟨vs, h1, _⟩ := rp.obj h eo
      exact ⟨.base (.dT h1), by decide⟩
    · cases e
def xIsi (f : FE) (us : List String) : FE := fun ρ S => (f ρ S).bind fun d S1 => match tyD S1 d with
  | some t => .ok (.bl (us.any (isaT t))) S1
  | none => .stuck
theorem de_isi {x : Str} {e : Expr} {p q pos : Pos} {f : FE} {u : String} (A : Amb G X W) (hm : X.mg "isinstance" = none) (he : PE X e (TD G W f)) (hx : X.mg x = none) (hv : bootBuiltins x = some (.type u)) (hu : u ∈ clNames := by decide) (hg : Gl X "isinstance" := by rfl) (hg2 : Gl X x := by rfl) (hn : x ≠ "__name__" := by decide) (hdb : (x == ("__debug__" : Str)) = false := by decide)
    (hs : starEach [e, .Name x q] X.env = (false, eval e X.env) :: starEach [.Name x q] X.env := by rfl) (hs2 : starEach [.Name x q] X.env = (false, eval (.Name x q) X.env) :: starEach [] X.env := by rfl) (hpl : (backTo pos (starEach [.Name x q] X.env)).any (·.1) = false := by rfl) :
    PE X (.Call (.Name "isinstance" p) [e, .Name x q] [] pos) (TD G W (xIsi f [u])) := by
  have hc := call_isi (X := X)
  rw [A.hK] at hc
  refine PE.imp (pe_callB hc hg hm PyProof.Rows.boot_isinstance (pa_cons he (pa_cons (pe_bltn (v := .ty u) hg2 hx hv rfl hn hdb) pa_nil hs2) hs) (by decide) (by decide) hs hpl) fun σ H Q ⟨μ, ρ, S, en, rp, po⟩ => ⟨μ, ρ, S, en, rp, (post_bind po).mono fun v H1 ⟨μ1, d, S1, pe, rp1, dd, p1⟩ => ?_⟩
  split at p1
  · rename_i t et
    obtain ⟨h1, h2⟩ := ty_den rp1 dd et
    refine ⟨_, _, _, _, isaT t u, rfl, .ty u, h1, kit_ty (isa_all t h2 u hu), ?_⟩
    have := post_ok rp1 p1 (.bl _)
    simpa using this
  · exact p1.elim
/-! ### methods of lists and dicts -/
def isL (S : Sg) : D → Bool
  | .clist _ => true
  | .ref n => match S[n]? with
    | some (.lst _) => true
    | _ => false
  | _ => false
theorem isL_den {μ : List Addr} {H : Hp} {S : Sg} {d : D} {v : V} (rp : Rep G μ S H) (h : Den G μ H d v) (e : isL S d = true) : tyV G.K "list" v H := by
  cases h with
  | clist h1 h2 => exact .inl ⟨rfl, _, cl_sqL h1⟩
  | ref h =>
    simp only [isL] at e
    split at e
    · rename_i xs eo
      obtain ⟨vs, h1, _⟩ := RepO.sqL (rp.obj h eo)
      exact .inl ⟨rfl, _, h1⟩
    · cases e
  | _ => cases e
abbrev MV := D → List D → Sg → R D
def MtV (G : Gx) (W : WX) (r : V → List V → Hp → VK → Prop) (h : MV) : Prop := ∀ μ S H x d xs ds σ Q, Rep G μ S H → Den G μ H d x → DenA G μ H ds xs → Post (Den G) G W μ H σ (h d ds S) Q → r x xs H Q
def xM (h : MV) (f : FE) (g : FA) : FE := fun ρ S => (f ρ S).bind fun d S1 => if isL S1 d = true then (g ρ S1).bind fun ds S2 => h d ds S2 else .stuck
theorem de_lm {o e : Expr} {es : List Expr} {name : Str} {id : String} {apos cpos : Pos} {r : V → List V → Hp → VK → Prop} {h : MV} {f : FE} {g : FA} (A : Amb G X W) (slot : Slot "list" name id) (hty : typeOf (.builtin id) = pure (.type "method_descriptor")) (hm : MtR X id r) (hv : MtV G W r h) (ho : PE X o (TD G W f)) (ha : PA X (e :: es) (TDA G W g))
    (hbase : attributeBase o name X.env (eval o X.env) = eval o X.env := by rfl)
    (hfew : ((backTo cpos (starEach (e :: es) X.env)).all (fun x => !x.1) && (backToKw cpos (keywordEach [] X.env)).all (fun x => x.1.isSome)
      && decide ((e :: es).length + ([] : List Keyword).length + (if ([] : List Keyword).isEmpty then 0 else 1) < 30)) = true := by rfl)
    (hline : (apos.endLine == cpos.line) = true := by rfl) (hs : starEach (e :: es) X.env = (false, eval e X.env) :: starEach es X.env := by rfl) (hplain : (backTo cpos (starEach es X.env)).any (·.1) = false := by rfl) :
    PE X (.Call (.Attribute o name apos) (e :: es) [] cpos) (TD G W (xM h f g)) := by
  refine PE.imp (pe_bm PySem.F.plainAttrs_list slot hty hm ho ha hbase hfew hline hs hplain) fun σ H Q ⟨μ, ρ, S, en, rp, po⟩ => ⟨μ, ρ, S, en, rp, (post_bind po).mono fun v H1 ⟨μ1, d, S1, pe, rp1, dd, p1⟩ => ?_⟩
  obtain ⟨c, p2⟩ := post_ite p1
  refine ⟨by rw [A.hK]; exact isL_den rp1 dd c, μ1, ρ, S1, en.per pe, rp1, (post_bind p2).mono fun xs H2 ⟨μ2, ds, S2, pe2, rp2, d2, p3⟩ => hv _ _ _ _ _ _ _ _ _ rp2 (dd.per pe2) d2 p3⟩
def mApp : MV := fun d ds S => match d, ds with
  | .ref n, [y] => match S[n]? with
    | some (.lst xs) => if xs.length < 16777216 then .ok .non (S.set n (.lst (xs ++ [y]))) else .stuck
    | _ => .stuck
  | _, _ => .stuck
theorem mv_app (g : G.Ok) : MtV G W rAppend mApp := by
  intro μ S H x d xs ds σ Q rp hx hxs po
  unfold mApp at po
  split at po
  · rename_i n y
    split at po
    · rename_i ys eo
      obtain ⟨c, p⟩ := post_ite po
      cases hx with
      | ref hn =>
        cases hxs with
        | cons d1 t =>
          cases t
          obtain ⟨vs, h1, h2⟩ := rp.obj hn eo
          rename_i a v
          obtain ⟨r, pe⟩ := rp.write g (u := .lst (vs ++ [v])) (o' := .lst (ys ++ [y])) hn eo fun H' p h => ⟨_, h, (h2.snoc d1).per p⟩
          exact ⟨a, vs, v, rfl, rfl, h1, by rw [sl_eq, ← h2.length]; exact c, p _ _ _ pe r .non⟩
    · exact po.elim
  · exact po.elim
theorem de_append {o e : Expr} {apos cpos : Pos} {f : FE} {g : FA} (A : Amb G X W) (ho : PE X o (TD G W f)) (ha : PA X [e] (TDA G W g)) (hbase : attributeBase o "append" X.env (eval o X.env) = eval o X.env := by rfl)
    (hfew : ((backTo cpos (starEach [e] X.env)).all (fun x => !x.1) && (backToKw cpos (keywordEach [] X.env)).all (fun x => x.1.isSome) && decide (([e] : List Expr).length + ([] : List Keyword).length + (if ([] : List Keyword).isEmpty then 0 else 1) < 30)) = true := by rfl)
    (hline : (apos.endLine == cpos.line) = true := by rfl) (hs : starEach [e] X.env = (false, eval e X.env) :: starEach [] X.env := by rfl) (hplain : (backTo cpos (starEach [] X.env)).any (·.1) = false := by rfl) : PE X (.Call (.Attribute o "append" apos) [e] [] cpos) (TD G W (xM mApp f g)) :=
  de_lm A PySem.F.slot_list_append PySem.F.type_list_append mt_append (mv_app A.ok) ho ha hbase hfew hline hs hplain
/-- xs.index(y), flat -/
def mIdx : MV := fun d ds S => match ds with
  | [y] => match seqOf S d with
    | some ys => if flatD y = true ∧ ys.all flatD = true then (match ys.mapM (pyOf 8 S), pyOf 9 S y with
      | some ps, some p => match ps.findIdx? fun z => PyData.eqv z p with
        | some j => .ok (.int (j : Nat)) S
        | none => .stuck
      | _, _ => .stuck) else .stuck
    | none => .stuck
  | _ => .stuck
theorem flat_each {μ : List Addr} {H : Hp} {S : Sg} {d : D} {v : V} {p : PyData} (f : flatD d = true) (h : Den G μ H d v) (e : pyOf 9 S d = some p) :
    ∀ (xs : List D) (vs : List V) (ps : List PyData), xs.all flatD = true → DenA G μ H xs vs → xs.mapM (pyOf 8 S) = some ps → vs.length = ps.length ∧ ∀ (j : Nat) (z : V) (q : PyData), vs[j]? = some z → ps[j]? = some q → eqV z v = PyData.eqv q p
  | [], _, ps, _, .nil, g => by simp at g; subst g; exact ⟨rfl, fun j z q e => by simp at e⟩
  | x :: xs, _, ps, fa, .cons h1 t, g => by
    simp only [List.all_cons, Bool.and_eq_true] at fa
    rw [List.mapM_cons] at g
    obtain ⟨q, e1, e2⟩ := Option.bind_eq_some_iff.mp g
    obtain ⟨qs, e3, e4⟩ := Option.bind_eq_some_iff.mp e2
    cases e4
    obtain ⟨l, a⟩ := flat_each f h e xs _ _ fa.2 t e3
    have e9 : pyOf 9 S x = some q := by rw [flat_pyn fa.1 9 8]; exact e1
    obtain ⟨_, c2⟩ := flat_py f h e
    refine ⟨by simp [l], fun j z r h3 h4 => ?_⟩
    cases j with
    | zero => simp at h3 h4; subst h3; subst h4; exact c2 _ _ _ fa.1 h1 e9
    | succ j => exact a j z r (by simpa using h3) (by simpa using h4)
theorem mv_idx : MtV G W (rIndex G.K) mIdx := by
  intro μ S H x d xs ds σ Q rp hx hxs po
  unfold mIdx at po
  split at po
  · rename_i y
    split at po
    · rename_i ys es
      obtain ⟨⟨c1, c2⟩, p⟩ := post_ite po
      cases hxs with
      | cons d1 t =>
        cases t
        obtain ⟨a, vs, rfl, h1, h2⟩ := seq_den rp hx es
        split at p
        · rename_i ps q e1 e2
          obtain ⟨f1, f2⟩ := flat_all c1 d1 e2 _ _ _ c2 h2 e1
          obtain ⟨l, f3⟩ := flat_each c1 d1 e2 _ _ _ c2 h2 e1
          obtain ⟨b1, _⟩ := flat_py c1 d1 e2
          split at p
          · rename_i j ej
            obtain ⟨hj, g1, g2⟩ := List.findIdx?_eq_some_iff_getElem.mp ej
            have hjv : j < vs.length := by omega
            refine ⟨a, vs, _, j, vs[j], rfl, rfl, h1, b1, f1, by simp [hjv], ?_, fun m z' hm hz => ?_, post_ok rp p (.int _)⟩
            · rw [f3 j vs[j] ps[j] (by simp [hjv]) (by simp [hj])]
              exact g1
            · have hmp : m < ps.length := by omega
              rw [f3 m z' ps[m] hz (by simp [hmp])]
              have := g2 m hm
              simpa using this
          · exact p.elim
        · exact p.elim
    · exact po.elim
  · exact po.elim
theorem de_index {o e : Expr} {apos cpos : Pos} {f : FE} {g : FA} (A : Amb G X W) (ho : PE X o (TD G W f)) (ha : PA X [e] (TDA G W g)) (hbase : attributeBase o "index" X.env (eval o X.env) = eval o X.env := by rfl)
    (hfew : ((backTo cpos (starEach [e] X.env)).all (fun x => !x.1) && (backToKw cpos (keywordEach [] X.env)).all (fun x => x.1.isSome) && decide (([e] : List Expr).length + ([] : List Keyword).length + (if ([] : List Keyword).isEmpty then 0 else 1) < 30)) = true := by rfl)
    (hline : (apos.endLine == cpos.line) = true := by rfl) (hs : starEach [e] X.env = (false, eval e X.env) :: starEach [] X.env := by rfl) (hplain : (backTo cpos (starEach [] X.env)).any (·.1) = false := by rfl) : PE X (.Call (.Attribute o "index" apos) [e] [] cpos) (TD G W (xM mIdx f g)) :=
  de_lm A PySem.F.slot_list_index PySem.F.type_list_index (r := rIndex G.K) (by have := mt_index (X := X); rw [A.hK] at this; exact this) mv_idx ho ha hbase hfew hline hs hplain
end Dx

/-! Dx8: constants of the top, dict displays, get, zip, minus, defs by name. -/
namespace Dx
open PySem PySem.Spec L2
variable {G : Gx} {X : Cx} {W : WX}

/-- a module's constant holds d -/
def GlobD (K : PySem.W.Frag) (mg : Str → Option Value) (G : Gx) (x : Str) (d : D) : Prop := ∃ v u, mg x = some u ∧ RelV v u ∧ ∀ μ H, Den G μ H d v
theorem de_gl {x : Str} {d : D} {pos : Pos} (h : GlobD X.K X.mg G x d) (hg : Gl X x := by rfl) (hd : (x == ("__debug__" : Str)) = false := by decide) : PE X (.Name x pos) (TD G W (xC d)) := by
  obtain ⟨v, u, hm, r, k⟩ := h
  exact de_glob hm r k hg hd
/-! ### minus -/
def xNeg (f : FE) : FE := fun ρ S => (f ρ S).bind fun d S1 => match d with
  | .int i => .ok (.int (-i)) S1
  | _ => .stuck
theorem de_neg {a : Expr} {pos : Pos} {f : FE} (ha : PE X a (TD G W f)) : PE X (.UnaryOp .USub a pos) (TD G W (xNeg f)) := by
  refine PE.imp (pe_un un_neg ha) fun σ H Q ⟨μ, ρ, S, en, rp, po⟩ => ⟨μ, ρ, S, en, rp, (post_bind po).mono fun v H1 ⟨μ1, d, S1, pe, rp1, dd, p1⟩ => ?_⟩
  split at p1
  · cases dd
    exact ⟨_, rfl, post_ok rp1 p1 (.int _)⟩
  · exact p1.elim
/-! ### {..} -/
def kD : Key → D → Key × D := fun k d => (k, d)
def dpGo : List (Key × FE) → Ev → Sg → R (List (Key × D))
  | [], _, S => .ok [] S
  | (k, f) :: r, ρ, S => (f ρ S).bind fun d S1 => (dpGo r ρ S1).bind fun ps S2 => .ok ((k, d) :: ps) S2
def mergeD (kvs : List (Key × D)) : List (Key × D) := kvs.foldl (fun acc kv => putD acc kv.1 kv.2) []
def xDct (fs : List (Key × FE)) : FE := fun ρ S => (dpGo fs ρ S).bind fun ps S1 => newO (.dct (mergeD ps)) S1
def keyE : Key → Const
  | .inl i => .int i
  | .inr s => .str s
/-- the parts of a display: keys written, values by their steps -/
def DPs (X : Cx) (G : Gx) (W : WX) (pos : Pos) (keys : List (Option Expr)) (values : List Expr) (fs : List (Key × FE)) : Prop :=
  PPs X pos keys values (fs.map fun p => (tC (kV p.1), TD G W p.2)) ∧ keys.all (·.isSome) = true ∧ keys.length = values.length ∧ fs.length = keys.length
theorem dps_nil {pos : Pos} : DPs X G W pos [] [] [] := ⟨pps_nil, rfl, rfl, rfl⟩
theorem dps_str {pos : Pos} {k : String} {j : Nat} {p2 : Pos} {v : Expr} {ks : List (Option Expr)} {vs : List Expr} {f : FE} {fs : List (Key × FE)} (hv : PE X v (TD G W f)) (h : DPs X G W pos ks vs fs) :
    DPs X G W pos (some (.Constant (.str (Str.ofString k)) j p2) :: ks) (v :: vs) ((.inr (Str.ofString k), f) :: fs) := ⟨pps_cons pe_str hv h.1, by simp [h.2.1], by simp [h.2.2.1], by simp [h.2.2.2]⟩
theorem dps_int {pos : Pos} {k : Int} {j : Nat} {p2 : Pos} {v : Expr} {ks : List (Option Expr)} {vs : List Expr} {f : FE} {fs : List (Key × FE)} (hv : PE X v (TD G W f)) (h : DPs X G W pos ks vs fs) :
    DPs X G W pos (some (.Constant (.int k) j p2) :: ks) (v :: vs) ((.inl k, f) :: fs) := ⟨pps_cons pe_int hv h.1, by simp [h.2.1], by simp [h.2.2.1], by simp [h.2.2.2]⟩
theorem denK_merge {μ : List Addr} {H : Hp} : ∀ {ps : List (Key × D)} {qs : List (Key × V)} {fs : List (Key × D)} {gs : List (Key × V)}, DenK G μ H ps qs → DenK G μ H fs gs → DenK G μ H (ps.foldl (fun acc kv => putD acc kv.1 kv.2) fs) (qs.foldl (fun acc kv => putK acc kv.1 kv.2) gs)
  | [], qs, _, _, h, k => by
    have : qs = [] := List.map_eq_nil_iff.mp h.1
    subst this
    exact k
  | p :: ps, [], _, _, h, k => by have := h.1; simp at this
  | p :: ps, q :: qs, fs, gs, h, k => by
    obtain ⟨h1, h2⟩ := h
    simp only [List.map_cons, List.cons.injEq] at h1
    cases h2 with
    | cons a b =>
      rw [List.foldl_cons, List.foldl_cons]
      refine denK_merge (ps := ps) (qs := qs) ⟨h1.2, b⟩ ?_
      rw [h1.1]
      exact denK_put k a
/-- the pairs are evaluated beside a tracked thing without a number -/
theorem dp_read {D0 : Addr} {u : HO} {μ0 : List Addr} {H0 : Hp} {σ : L2.St} {Q : VK} {ρ : Ev} (hT : ∀ ps, u ≠ .tbl ps) :
    ∀ (fs : List (Key × FE)) {μ : List Addr} {H : Hp} {S : Sg} (acc : List (Key × D)) (as : List (Key × V)) (RR : List (V × V) → Hp → Prop), Rep G μ S H → EnvD G μ H ρ σ → H D0 = some u → (∀ n : Nat, μ[n]? ≠ some D0) →
      Post (fun μ H ps (_ : Unit) => True) G W μ H σ (dpGo fs ρ S) (fun _ _ => True) → 
      (∀ μ' H' S' ps qs, Per G μ H μ' H' → Rep G μ' S' H' → DenK G μ' H' ps qs → dpGo fs ρ S = .ok ps S' → RR (qs.map fun kv => (kV kv.1, kv.2)) H') →
      tPairs (fs.map fun p => (tC (kV p.1), TD G W p.2)) σ H RR := by
  intro fs
  induction fs with
  | nil => intro μ H S acc as RR rp en hD nD po k; exact k μ H S [] [] .refl rp ⟨rfl, .nil⟩ rfl
  | cons p fs ih =>
    intro μ H S acc as RR rp en hD nD po k
    obtain ⟨key, f⟩ := p
    show TD G W f σ H fun y H2 => tPairs _ σ H2 fun ps H3 => RR ((kV key, y) :: ps) H3
    refine ⟨μ, ρ, S, en, rp, ?_⟩
    unfold dpGo at po k
    revert po k
    generalize f ρ S = r
    intro po k
    cases r with
    | exc c gs S' => exact po
    | stuck => exact po.elim
    | ok d S1 =>
      intro μ1 H1 v pe rp1 dd
      have po' : Post (fun μ H ps (_ : Unit) => True) G W μ H σ ((dpGo fs ρ S1).bind fun ps S2 => R.ok ((key, d) :: ps) S2) (fun _ _ => True) := po
      obtain ⟨hD1, nD1⟩ := pe.fr D0 u hD hT nD
      refine ih acc as _ rp1 (en.per pe) hD1 nD1 ?_ fun μ' H' S' ps qs pe' rp' dk e => ?_
      · have := Post.per po' pe
        revert this
        generalize dpGo fs ρ S1 = r2
        intro this
        cases r2 with
        | ok ps S2 => exact fun _ _ _ _ _ _ => trivial
        | exc c gs S' => exact this
        | stuck => exact this
      · refine k μ' H' S' ((key, d) :: ps) ((key, v) :: qs) (pe.trans pe') rp' ⟨by simp [dk.1], .cons (dd.per pe') dk.2⟩ ?_
        show ((dpGo fs ρ S1).bind fun ps S2 => R.ok ((key, d) :: ps) S2) = _
        rw [e]
        rfl
theorem de_dct {keys : List (Option Expr)} {values : List Expr} {pos : Pos} {fs : List (Key × FE)} (A : Amb G X W) (h : DPs X G W pos keys values fs) (h0 : keys ≠ [] := by intro z; cases z) (h15 : keys.length ≤ 15 := by decide) : PE X (.Dict keys values pos) (TD G W (xDct fs)) := by
  obtain ⟨pp, ha, hl, hf⟩ := h
  refine PE.imp (pe_disp pp ha hl h0 h15) fun σ H Q ⟨μ, ρ, S, en, rp, po⟩ => fun p hp => ?_
  have pn : Per G μ H μ (upd H p (.dK [])) := per_new A.ok hp
  have np : ∀ n : Nat, μ[n]? ≠ some p := fun n z => by
    obtain ⟨o, eo, ro⟩ := rp.there z
    obtain ⟨w, e, _⟩ := ro.some
    rw [hp] at e; cases e
  refine dp_read (D0 := p) (u := .dK []) (μ0 := μ) (H0 := H) (Q := Q) (fun _ z => nomatch z) fs [] [] _ (rp.new A.ok hp) (en.per pn) upd_same np ?_ fun μ' H' S' ps qs pe rp' dk e => ?_
  · have := Post.per po pn
    unfold xDct at this
    revert this
    generalize dpGo fs ρ S = r2
    intro this
    cases r2 with
    | ok ps S2 => exact fun _ _ _ _ _ _ => trivial
    | exc c gs S' => exact this
    | stuck => exact this
  · obtain ⟨hp', np'⟩ := pe.fr p _ upd_same (fun _ z => nomatch z) np
    refine ⟨hp', qs, rfl, ?_, ?_⟩
    · have l1 : ∀ (fs : List (Key × FE)) (S : Sg) (ps : List (Key × D)) (S' : Sg), dpGo fs ρ S = .ok ps S' → ps.length = fs.length := by
        intro fs
        induction fs with
        | nil => intro S ps S' e; cases e; rfl
        | cons q fs ih =>
          intro S ps S' e
          obtain ⟨key, f⟩ := q
          unfold dpGo at e
          cases hr : f ρ S with
          | ok d S1 =>
            rw [hr] at e
            simp only [R.bind] at e
            cases hr2 : dpGo fs ρ S1 with
            | ok ps2 S2 => rw [hr2] at e; cases e; simp [ih S1 ps2 _ hr2]
            | exc c gs S' => rw [hr2] at e; cases e
            | stuck => rw [hr2] at e; cases e
          | exc c gs S' => rw [hr] at e; cases e
          | stuck => rw [hr] at e; cases e
      have := l1 fs S ps S' e
      have := dk.length
      omega
    · unfold xDct at po
      rw [e] at po
      have pw : Per G μ H μ' H' := pn.trans pe
      have dk2 := denK_merge dk (fs := []) (gs := []) ⟨rfl, .nil⟩
      have ne : ∀ (n : Nat) (a : Addr), μ'[n]? = some a → a ≠ p := fun n a h z => np' n (by rw [h, z])
      have stay : ∀ (b : Addr) (u : HO), b ≠ p → H' b = some u → (upd H' p (.dK (mergeK [] qs))) b = some u := fun b u hb h => by rw [upd_ne hb]; exact h
      have up5A : ∀ {ds : List Dx.D} {vs : List V}, DenA G μ' H' ds vs → DenA G μ' (upd H' p (.dK (mergeK [] qs))) ds vs := fun h => h.heap (fun a xs h => stay a _ (fun z => by rw [z, hp'] at h; cases h) h) (fun a q u h => stay a _ (fun z => by rw [z, hp'] at h; cases h) h) fun n a h => A.ok.clo_mut n a H' p _ _ hp' trivial (fun _ z => nomatch z) h
      have rp5 : Rep G μ' S' (upd H' p (.dK (mergeK [] qs))) := ⟨rp'.len, rp'.nd, fun n o a h1 h2 => (rp'.at_ n o a h1 h2).heap (upd_ne (ne n a h2)) (fun a q u h => stay a _ (fun z => by rw [z, hp'] at h; cases h) h) (fun a xs h => stay a _ (fun z => by rw [z, hp'] at h; cases h) h) fun n a h => A.ok.clo_mut n a H' p _ _ hp' trivial (fun _ z => nomatch z) h, tabs_mut rp'.tabs hp' trivial (fun _ z => nomatch z)⟩
      have pe5 : Per G μ H μ' (upd H' p (.dK (mergeK [] qs))) :=
        ⟨pw.ext, fun a xs h => stay a _ (ne_of_none h hp) (pw.tup a xs h), fun a q u h => stay a _ (ne_of_none h hp) (pw.frz a q u h), fun n a h => A.ok.clo_mut n a H' p _ _ hp' trivial (fun _ z => nomatch z) (pw.clo n a h),
          fun a u h t k => ⟨stay a _ (ne_of_none h hp) (pw.fr a u h t k).1, (pw.fr a u h t k).2⟩⟩
      refine po (μ' ++ [p]) _ _ (per_adopt pe5 hp) (rp5.adopt np' fun μ2 ex => ⟨_, upd_same, dk2.1, (up5A dk2.2).up ex⟩) (.ref ?_)
      rw [← rp'.len, List.getElem?_append_right (Nat.le_refl _), Nat.sub_self]
      rfl
/-! ### d.get(k, x) -/
def xGet2 (f g h : FE) : FE := fun ρ S => (f ρ S).bind fun o S1 => (if isDc S1 o = true then (g ρ S1).bind fun k S2 => (h ρ S2).bind fun x S3 => match o with
  | .ref n => match dgetD S3 n k with
    | some (some d) => .ok d S3
    | some none => .ok x S3
    | none => .stuck
  | _ => .stuck else .stuck)
where isDc (S : Sg) : D → Bool
  | .ref n => match S[n]? with
    | some (.dct _) => true
    | some (.dtt _) => true
    | _ => false
  | _ => false
theorem de_get2 {o e f : Expr} {apos cpos : Pos} {fo fe ff : FE} (A : Amb G X W) (ho : PE X o (TD G W fo)) (he : PE X e (TD G W fe)) (hf : PE X f (TD G W ff))
    (m : M2 X o "get" apos e f cpos := by exact ⟨rfl, rfl, rfl, rfl⟩) : PE X (.Call (.Attribute o "get" apos) [e, f] [] cpos) (TD G W (xGet2 fo fe ff)) := by
  refine PE.imp (pe_dget2 (by have := A.hu; omega) ho he hf m) fun σ H Q ⟨μ, ρ, S, en, rp, po⟩ => ⟨μ, ρ, S, en, rp, (post_bind po).mono fun v H1 ⟨μ1, od, S1, pe, rp1, dd, p1⟩ => ?_⟩
  obtain ⟨c, p2⟩ := post_ite p1
  cases dd with
  | @ref n a hn =>
    have isd : IsD H1 a := by
      simp only [xGet2.isDc] at c
      split at c
      · rename_i kvs eo
        obtain ⟨gs, h1, _⟩ := rp1.obj hn eo
        exact .inl ⟨gs, .inl h1⟩
      · rename_i kvs eo
        obtain ⟨gs, h1, _⟩ := rp1.obj hn eo
        exact .inr ⟨gs, .inl h1⟩
      · cases c
    refine ⟨a, rfl, isd, μ1, ρ, S1, en.per pe, rp1, (post_bind p2).mono fun kv H2 ⟨μ2, kd, S2, pe2, rp2, dk, p3⟩ => ?_⟩
    refine ⟨μ2, ρ, S2, (en.per pe).per pe2, rp2, (post_bind p3).mono fun xv H3 ⟨μ3, xd, S3, pe3, rp3, dx, p4⟩ => ?_⟩
    have hn3 := pe3.ext _ _ (pe2.ext _ _ hn)
    dsimp only at p4
    split at p4
    · rename_i d eg
      obtain ⟨r, g, q⟩ := dget_den rp3 hn3 (dk.per pe3) eg
      rcases q with ⟨q1, _⟩ | ⟨x', y', q1, q2, q3⟩
      · cases q1
      · cases q1
        subst q2
        exact ⟨_, g, post_ok rp3 p4 q3⟩
    · rename_i eg
      obtain ⟨r, g, q⟩ := dget_den rp3 hn3 (dk.per pe3) eg
      rcases q with ⟨_, q2⟩ | ⟨x', y', q1, _, _⟩
      · subst q2
        exact ⟨_, g, post_ok rp3 p4 dx⟩
      · cases q1
    · exact p4.elim
  | _ => simp [xGet2.isDc] at c
/-! ### zip -/
def iZp (g : FA) : FI := fun ρ S => (g ρ S).bind fun ds S1 => match ds with
  | [a, b] => match tupOf a, tupOf b with
    | some xs, some ys => .ok (.its ((xs.zip ys).map fun p => .tup [p.1, p.2])) S1
    | _, _ => .stuck
  | _ => .stuck
theorem srcOk_zip (ok : G.Ok) {μ : List Addr} {H : Hp} {a b : Addr} {xs ys : List D} {vs us : List V} (h1 : ∀ μ' H', Per G μ H μ' H' → SqT G.K H' a vs) (h2 : ∀ μ' H', Per G μ H μ' H' → SqT G.K H' b us) (d1 : DenA G μ H xs vs) (d2 : DenA G μ H ys us) :
    SrcOk G μ H (.its ((xs.zip ys).map fun p => .tup [p.1, p.2])) (RZ.ItzT G.K a b) := by
  intro μ' H' S' i p r
  have q1 := h1 μ' H' p
  have q2 := h2 μ' H' p
  refine ⟨fun e => ?_, fun dd e => ?_⟩
  · have e2 := List.getElem?_eq_none_iff.mp (Option.some.inj e)
    simp at e2
    refine ⟨vs, us, q1, q2, ?_⟩
    rw [← d1.length, ← d2.length]
    omega
  · have e2 := Option.some.inj e
    rw [List.getElem?_map] at e2
    obtain ⟨⟨x, y⟩, e3, e4⟩ := Option.map_eq_some_iff.mp e2
    subst e4
    obtain ⟨ex, ey⟩ := List.getElem?_zip_eq_some.mp e3
    obtain ⟨v, g1, g2⟩ := (d1.per p).get ex
    obtain ⟨u, g3, g4⟩ := (d2.per p).get ey
    refine ⟨⟨vs, us, v, u, q1, q2, g1, g3⟩, fun z H2 w => ?_⟩
    obtain ⟨T, v', u', w1, w2, w3, w4, w5⟩ := w
    subst w1
    subst w3
    have a1 := w4 vs q1
    have a2 := w5 us q2
    rw [g1] at a1
    rw [g3] at a2
    cases a1
    cases a2
    have pn : Per G μ' H' μ' (upd H' T (.tup [v, u])) := per_new ok w2
    exact ⟨pn, r.new ok w2, .tup upd_same (.cons (g2.per pn) (.cons (g4.per pn) .nil))⟩
theorem di_zip {e e2 : Expr} {p pos tpos : Pos} {elts : List Expr} {kk : Nat} {g : FA} (A : Amb G X W) (hm : X.mg "zip" = none) (ha : PA X [e, e2] (TDA G W g)) (hg : Gl X "zip" := by rfl)
    (hs : starEach [e, e2] X.env = (false, eval e X.env) :: starEach [e2] X.env := by rfl) (hpl : (backTo pos (starEach [e2] X.env)).any (·.1) = false := by rfl) : DI X G W (.Tuple elts kk tpos) (.Call (.Name "zip" p) [e, e2] [] pos) (iZp g) := by
  refine ⟨RZ.iZipA G.K (TDA G W g), by have := RZ.pi_zipA (p := p) (tpos := tpos) (elts := elts) (kk := kk) hg hm ha hs hpl; rw [A.hK] at this; exact this, fun σ H R ⟨μ, ρ, S, en, rp, po⟩ => ⟨μ, ρ, S, en, rp, (post_bind po).mono fun vs H1 ⟨μ1, ds, S1, pe, rp1, dd, p1⟩ => ?_⟩⟩
  split at p1
  · rename_i x y
    split at p1
    · rename_i xs ys e1 e2
      cases dd with
      | cons a t =>
        cases t with
        | cons b t =>
          cases t
          have tp : ∀ {d : D} {v : V} {zs : List D}, Den G μ1 H1 d v → tupOf d = some zs → ∃ a us, v = .ref a ∧ (∀ μ' H', Per G μ1 H1 μ' H' → SqT G.K H' a us) ∧ DenA G μ1 H1 zs us := fun {d v zs} h e => by
            cases h with
            | tup h1 h2 => simp [tupOf] at e; subst e; exact ⟨_, _, rfl, fun μ' H' p => SqT.of (p.tup _ _ h1), h2⟩
            | ktup h1 h2 => simp [tupOf] at e; subst e; exact ⟨_, _, rfl, fun μ' H' p => h1 H', h2⟩
            | _ => simp [tupOf] at e
          obtain ⟨aa, us, rfl, h1, h2⟩ := tp a e1
          obtain ⟨bb, ws, rfl, h3, h4⟩ := tp b e2
          exact ⟨aa, bb, us, ws, rfl, .inr ⟨h1 _ _ .refl, h3 _ _ .refl, p1 _ _ _ .refl rp1 (srcOk_zip A.ok h1 h3 h2 h4)⟩⟩
    · exact p1.elim
  · exact p1.elim
/-! ### isinstance with two classes -/
theorem de_isi2 {x y : Str} {e : Expr} {p q1 q2 tp pos : Pos} {kt : Nat} {f : FE} {u u2 : String} (A : Amb G X W) (hm : X.mg "isinstance" = none) (he : PE X e (TD G W f)) (hx : X.mg x = none) (hv : bootBuiltins x = some (.type u)) (hy : X.mg y = none) (hv2 : bootBuiltins y = some (.type u2))
    (hu : u ∈ clNames := by decide) (hu2 : u2 ∈ clNames := by decide) (hg : Gl X "isinstance" := by rfl) (hg2 : Gl X x := by rfl) (hg3 : Gl X y := by rfl) (hn : x ≠ "__name__" := by decide) (hdb : (x == ("__debug__" : Str)) = false := by decide) (hn2 : y ≠ "__name__" := by decide) (hdb2 : (y == ("__debug__" : Str)) = false := by decide)
    (hs : starEach [e, .Tuple [.Name x q1, .Name y q2] kt tp] X.env = (false, eval e X.env) :: starEach [.Tuple [.Name x q1, .Name y q2] kt tp] X.env := by rfl) (hs2 : starEach [.Tuple [.Name x q1, .Name y q2] kt tp] X.env = (false, eval (.Tuple [.Name x q1, .Name y q2] kt tp) X.env) :: starEach [] X.env := by rfl)
    (hs3 : starEach [.Name x q1, .Name y q2] X.env = (false, eval (.Name x q1) X.env) :: starEach [.Name y q2] X.env := by rfl) (hs4 : starEach [.Name y q2] X.env = (false, eval (.Name y q2) X.env) :: starEach [] X.env := by rfl)
    (hpl : (backTo pos (starEach [.Tuple [.Name x q1, .Name y q2] kt tp] X.env)).any (·.1) = false := by rfl) :
    PE X (.Call (.Name "isinstance" p) [e, .Tuple [.Name x q1, .Name y q2] kt tp] [] pos) (TD G W (xIsi f [u, u2])) := by
  have hc := call_isiT (X := X)
  rw [A.hK] at hc
  refine PE.imp (pe_callB hc hg hm PyProof.Rows.boot_isinstance (pa_cons he (pa_cons (pe_tup (pa_cons (pe_bltn (v := .ty u) hg2 hx hv rfl hn hdb) (pa_cons (pe_bltn (v := .ty u2) hg3 hy hv2 rfl hn2 hdb2) pa_nil hs4) hs3)) pa_nil hs2) hs) (by decide) (by decide) hs hpl) fun σ H Q ⟨μ, ρ, S, en, rp, po⟩ => ⟨μ, ρ, S, en, rp, (post_bind po).mono fun v H1 ⟨μ1, d, S1, pe, rp1, dd, p1⟩ => ?_⟩
  refine ⟨by show 2 ≤ sizeLine; rw [sl_eq]; decide, fun a ha => ?_⟩
  split at p1
  · rename_i t et
    have pn : Per G μ1 H1 μ1 (upd H1 a (.tup [.ty u, .ty u2])) := per_new A.ok ha
    have rp2 := rp1.new A.ok (u := .tup [.ty u, .ty u2]) ha
    obtain ⟨h1, h2⟩ := ty_den rp2 (dd.per pn) et
    refine ⟨_, a, _, _, [.type u, .type u2], [u, u2].any (isaT t), rfl, upd_same, .cons (.ty u) (.cons (.ty u2) .nil), h1, ?_, post_ok rp2 (Post.per p1 pn) (.bl _)⟩
    refine kitAny_cons (kit_ty (isa_all t h2 u hu)) (fun e1 => kitAny_cons (r := isaT t u2) (kit_ty (isa_all t h2 u2 hu2)) (fun e2 => by rw [e2]; exact kitAny_nil) (fun e2 => e2) |>.trans ?_) (fun e1 => by simp [e1])
    simp [e1]
  · exact p1.elim
/-! ### a def that is never done -/
theorem fn_stuck {P : Program} {w : World} {K : PySem.W.Frag} {mg : Str → Option Value} {base : Heap} {k n : Nat} {f : Addr} {fd : FuncData} {ps : List Str} (h : ps.length = n) : FnOk P w K mg base (L2.CX P w) k f fd ps (spD G n fun _ _ => .stuck) :=
  ⟨fun vs H Q E q => by rw [h]; exact q.1, fun A outer s H args us vs Q E hr e0 hb r q => by obtain ⟨_, μ, S, ds, _, _, p⟩ := q; exact p.elim⟩
structure FunAt (K : PySem.W.Frag) (mg : Str → Option Value) (x : Str) (st : Stmt) (ps : List Str) : Prop where
  ex : ∃ f fd, Fun K x x st f fd ∧ mg x = some (.ref f) ∧ Binds K fd ps []
end Dx

/-! Dx9: enumerate over a tuple. -/
namespace Dx
open PySem PySem.Spec L2
/-- the tuple at a, each item in a new pair with its number -/
def IteT (K : PySem.W.Frag) (a : Addr) : It :=
  ⟨fun i H => ∃ (xs : List V) (x : V), SqT K H a xs ∧ xs[i]? = some x, fun i H v H' => ∃ T x, v = .ref T ∧ H T = none ∧ H' = upd H T (.tup [.int (i : Nat), x]) ∧ ∀ xs, SqT K H a xs → xs[i]? = some x, fun i H => ∃ xs : List V, SqT K H a xs ∧ xs.length ≤ i⟩
theorem turn_enumT {P : Program} {w : World} {K : PySem.W.Frag} {elts : List Expr} {kk : Nat} {tpos : Pos} (a e it : Addr) :
    Turn P w K (.Tuple elts kk tpos) (IteT K a) [e, it] e (fun i h => (∃ old, IsEnum h e it ((i : Nat) : Int) old) ∧ h.IsTupleIter it a i ∧ e ≠ it ∧ e ≠ a ∧ a ≠ it) where
  mem := by simp
  obj := fun i h st b hb => by
    obtain ⟨⟨old, he⟩, ⟨o, ho, hc, hd⟩, _⟩ := st
    have e' : b = e ∨ b = it := by simpa using hb
    rcases e' with z | z
    · rw [z]; exact ⟨_, he, fun v q => nomatch q⟩
    · rw [z]; exact ⟨o, ho, fun v q => by rw [hd] at q; cases q⟩
  keep := fun i h h' st k => let ⟨⟨old, he⟩, hi, hne⟩ := st; ⟨⟨old, k e (by simp) _ he⟩, hi.at fun o q => k it (by simp) o q, hne⟩
  item := by
    intro X hP hw hK hc i pins s σ H E I hf st hg
    subst hP hw hK
    obtain ⟨⟨old, he⟩, hit, hne, hea, hai⟩ := st
    obtain ⟨xs, x, hq, hx⟩ := hg
    obtain ⟨its, rv, p, hz⟩ := I.tuple hq
    obtain ⟨u, hu, ru⟩ := rv.get hx
    have hel : e < s.heap.objs.size := Heap.lt_size he
    have hil : it < s.heap.objs.size := by obtain ⟨_, q, _⟩ := hit; exact Heap.lt_size q
    have hi : i < its.toArray.size := by
      have := (List.getElem?_eq_some_iff.mp hu).1
      simpa using this
    refine wpAny_pyNext_enum_itemD (PySem.Draws.tuple (prog := X.prog) (w := X.w) (A := X.A.in1) (show X.A.handled = none from I.ok.hd hc) it a hai its.toArray) he ⟨hit, p⟩ hi hne (by simp [hne, hea]) fun y h' tk hy ho hst hT hsz hk => ?_
    have ey : y = u := by
      have : its[i]? = some y := by simpa using hy
      rw [hu] at this
      exact (Option.some.inj this).symm
    subst ey
    refine ⟨_, rfl, wpAny_letOwnedTupleGo_enum (s := { s with heap := h', toks := tk + 1 }) ho fun h'' he' sb => ?_⟩
    have hT2 : h''.get? s.heap.objs.size = some { cls := .type "tuple", data := .seq #[.int i tk, y] } := (sb.2 _ (Nat.ne_of_gt hel)).trans hT
    have new : ObjOk X.prog X.w (upd H s.heap.objs.size (.tup [.int (i : Nat), x])) h'' s.heap.objs.size (.tup [.int (i : Nat), x]) :=
      ⟨by show 2 ≤ sizeLine; decide, [.int i tk, y], .cons ⟨_, rfl⟩ (.cons ru .nil), ⟨_, hT2, rfl, _, rfl⟩⟩
    have I1 : Inv X pins σ (upd H s.heap.objs.size (.tup [.int (i : Nat), x])) { s with heap := h'', toks := tk + 1 } :=
      I.turnedNew (ch := [e, it]) (fun b ob hb q => (sb.2 b (fun z => hb (by simp [z]))).trans (hk b ob (fun z => hb (by simp [z])) (fun z => hb (by simp [z])) q)) hf (Nat.le_refl _) new
    refine ⟨.ref s.heap.objs.size, _, I1, rfl, ⟨_, x, rfl, I.hok.fresh (Nat.le_refl _), rfl, fun ys hy => by rw [I.tuple_inj hy hq]; exact hx⟩, ⟨⟨y, ?_⟩, hst.1.at fun o q => (sb.2 it (Ne.symm hne)).trans q, hne, hea, hai⟩, fun b hb => ?_⟩
    · have e1 : ((i + 1 : Nat) : Int) = (i : Int) + 1 := by omega
      rw [e1]; exact he'
    · have hb' : b < s.heap.objs.size := by
        have e' : b = e ∨ b = it := by simpa using hb
        rcases e' with z | z
        · rw [z]; exact hel
        · rw [z]; exact hil
      rw [upd_ne (Nat.ne_of_lt hb')]
      exact (hf b hb).1
  done := by
    intro X hP hw hK hc i pins s σ H E I hf st hg
    subst hP hw hK
    obtain ⟨⟨old, he⟩, hit, hne, hea, hai⟩ := st
    obtain ⟨xs, hq, hx⟩ := hg
    obtain ⟨its, rv, p, hz⟩ := I.tuple hq
    obtain ⟨f0, f1, f2, f3, f4, f5⟩ := hf it (by simp)
    have hl := rv.length
    have D := PySem.Draws.tuple (prog := X.prog) (w := X.w) (A := X.A.in1) (show X.A.handled = none from I.ok.hd hc) it a hai its.toArray
    have nx : its.toArray[i]? = none := by simp; omega
    have hT : s.TypeIs (.ref e) "enumerate" := ⟨_, he, rfl⟩
    unfold pyNext
    refine wpAny_bind (wpAny_attempt (wpAny_callSpecial?_slot (name := Str.ofString "__next__") hT F.slot_enumerate_next
      (wpAny_call_entry F.slot_enumerate_next hT F.entry_enumerate_next ?_ (F.args_enumerate_next_1 _))))
    show wpAny _ _ (field (.ref e) 2 >>= _) _ _ _
    refine wpAny_bind (wpAny_field he rfl (x := .ref it) rfl ?_)
    refine wpAny_bind (RZ.nextOf_tuple_end (A := X.A.in1) (show X.A.handled = none from I.ok.hd hc) hit p nx fun h' x he' hx' => ?_)
    obtain ⟨o, ho, hc'⟩ := hx'
    refine wpAny_bind (wpAny_isInstance (T := "StopIteration") (b := true) ⟨o, ho, hc'⟩ isSubtype_stop ?_)
    exact wpAny_pure ⟨rfl, I.turned (t' := s.toks) (fun b o hb q => he' b o hb q) f0 f1 f3 f4 f5⟩
  self := fun A i s Q E st h => let ⟨⟨_, he⟩, _⟩ := st; wpAny_pyIter_enum he h
theorem meets_enumerate_newT (l : Addr) (items : Array Value) :
    Meets (Builtin.«enumerate.__new__» ⟨[.type "enumerate", .ref l], []⟩) (fun _ R s => s.heap.IsTuple l items ∧
      R (.ok (.ret (.ref (s.heap.push { cls := .type "tuple_iterator", data := .fields #[.ref l, .int 0 0] }).objs.size)))
        { s with heap := (s.heap.push { cls := .type "tuple_iterator", data := .fields #[.ref l, .int 0 0] }).push { cls := .type "enumerate", data := .fields #[.none, .bool false, .ref s.heap.objs.size, rawInt 0, .none, .none] } }) :=
  .of_wp fun prog w A R s h => by
    obtain ⟨hp, g, d, tk, os⟩ := s; obtain ⟨h1, h⟩ := h
    have hsub := sub_enumerate
    have q1 : ∀ {A' : Around} {E : Value → Shared → Prop} {Q : Value → Shared → Prop}, Q (.ref hp.objs.size) ⟨hp.push { cls := .type "tuple_iterator", data := .fields #[.ref l, .int 0 0] }, g, d, tk, os⟩ → wpAny (model prog w) A' (pyIter (.ref l)) Q E ⟨hp, g, d, tk, os⟩ :=
      fun q => (begins_tuple l items).iter prog w _ _ ⟨hp, g, d, tk, os⟩ _ h1 q
    wp_walk using q1
    refine wpAny_stack_any fun st => wpAny_pure ?_
    split
    · rename_i c _ _ _ _ _
      cases (c == Value.type "enumerate")
      · wp_walk using q1
        exact ⟨_, rfl, h⟩
      · wp_walk using q1
        exact ⟨_, rfl, h⟩
    · wp_walk using q1
      exact ⟨_, rfl, h⟩
theorem call_enumerate_tuple {prog : Program} {w : World} {A : Around} {E : Value → Shared → Prop} {s : Shared} {l : Addr} {items : Array Value} {Q : Value → Shared → Prop} (hL : s.heap.IsTuple l items)
    (h : ∀ h', IsEnum h' (s.heap.objs.size + 1) s.heap.objs.size 0 .none → h'.IsTupleIter s.heap.objs.size l 0 → h'.objs.size = s.heap.objs.size + 2 →
      (∀ b o, s.heap.get? b = some o → h'.get? b = some o) → Q (.ref (s.heap.objs.size + 1)) { s with heap := h' }) :
    wpAny (model prog w) A (call (.type "enumerate") [.ref l]) Q E s := by
  refine callType_new F.called_enumerate (by decide) (F.typeCall_enumerate_1 _) (F.newCall_enumerate_1 _) (fun obj => F.args_object_init_2 obj _) F.entry_enumerate_new
    (meets_enumerate_newT l items) ⟨hL, ?_⟩
  have hz : (s.heap.push { cls := .type "tuple_iterator", data := .fields #[.ref l, .int 0 0] }).objs.size = s.heap.objs.size + 1 := Heap.size_push ..
  show _ ∧ _
  rw [hz]
  have he : IsEnum ((s.heap.push { cls := .type "tuple_iterator", data := .fields #[.ref l, .int 0 0] }).push
      { cls := .type "enumerate", data := .fields #[.none, .bool false, .ref s.heap.objs.size, rawInt 0, .none, .none] }) (s.heap.objs.size + 1) s.heap.objs.size 0 .none := by
    have := Heap.get?_push_size (s.heap.push { cls := .type "tuple_iterator", data := .fields #[.ref l, .int 0 0] })
      (o := { cls := .type "enumerate", data := .fields #[.none, .bool false, .ref s.heap.objs.size, rawInt 0, .none, .none] }) rfl
    rw [hz] at this; exact this
  refine ⟨⟨_, he, rfl⟩, h _ he ⟨_, Heap.get?_push_of_some _ (Heap.get?_push_size _ rfl), rfl, rfl⟩ (by rw [Heap.size_push, hz]) fun b o x => Heap.get?_push_of_some _ (Heap.get?_push_of_some _ x)⟩
def iEnumT (K : PySem.W.Frag) (ta : TA) : TI := fun σ H R => ta σ H fun vs H1 => ∃ a xs, vs = [.ref a] ∧ SqT K H1 a xs ∧ R (IteT K a) H1
theorem pi_enumT {X : Cx} {e : Expr} {ta : TA} {p pos tpos : Pos} {elts : List Expr} {kk : Nat} (hg : Gl X "enumerate") (hm : X.mg "enumerate" = none) (ha : PA X [e] ta) (hs : starEach [e] X.env = [(false, eval e X.env)] := by rfl) :
    PI X (.Tuple elts kk tpos) (.Call (.Name "enumerate" p) [e] [] pos) (iEnumT X.K ta) := by
  refine ⟨fun pins s σ H R I h => ?_⟩
  refine PyProof.Rows.Call_ (ld_blt I hg hm PyProof.Rows.boot_enumerate (PyProof.Rows.callWith_type1 (thn (ha.run pos pins s σ H _ I h) fun us s1 ⟨vs, H1, I1, r1, q1⟩ => ?_) hs rfl))
  obtain ⟨a, xs, ex, hq, q⟩ := q1
  subst ex
  cases r1 with
  | cons r rr =>
    cases rr
    cases r
    obtain ⟨its, rv, p', hz⟩ := I1.tuple hq
    have hal : a < s1.heap.objs.size := by obtain ⟨_, q, _⟩ := id p'; exact Heap.lt_size q
    refine call_enumerate_tuple p' fun h' he hit hsz hk => wpAny_pyIter_enum he ?_
    have I2 : Inv X pins σ H1 { s1 with heap := h' } := I1.kept (t' := s1.toks) hk
    refine ⟨s1.heap.objs.size + 1, [s1.heap.objs.size + 1, s1.heap.objs.size], _, _, H1, rfl, I2, turn_enumT a (s1.heap.objs.size + 1) s1.heap.objs.size, ⟨⟨.none, he⟩, hit, Nat.succ_ne_self _, Nat.ne_of_gt (Nat.lt_succ_of_lt hal), Nat.ne_of_lt hal⟩, fun b hb => ?_, q⟩
    have e' : b = s1.heap.objs.size + 1 ∨ b = s1.heap.objs.size := by simpa using hb
    have hle : s1.heap.objs.size ≤ b := by
      rcases e' with z | z
      · rw [z]; exact Nat.le_add_right _ _
      · rw [z]; exact Nat.le_refl _
    exact I1.fpOk hle (I1.hok.fresh hle)
section
variable {G : Gx} {X : Cx} {W : WX}
def enumD (k : Nat) : List D → List D
  | [] => []
  | x :: xs => .tup [.int k, x] :: enumD (k + 1) xs
theorem enumD_get : ∀ {xs : List D} {k i : Nat}, (enumD k xs)[i]? = xs[i]?.map fun x => .tup [.int (k + i : Nat), x]
  | [], _, _ => rfl
  | x :: xs, k, 0 => rfl
  | x :: xs, k, i + 1 => by
    show (enumD (k + 1) xs)[i]? = xs[i]?.map _
    rw [enumD_get, show k + 1 + i = k + (i + 1) by omega]
def iEn (g : FA) : FI := fun ρ S => (g ρ S).bind fun ds S1 => match ds with
  | [a] => match tupOf a with
    | some xs => .ok (.its (enumD 0 xs)) S1
    | _ => .stuck
  | _ => .stuck
theorem srcOk_enum (ok : G.Ok) {μ : List Addr} {H : Hp} {a : Addr} {xs : List D} {vs : List V} (h1 : ∀ μ' H', Per G μ H μ' H' → SqT G.K H' a vs) (d1 : DenA G μ H xs vs) : SrcOk G μ H (.its (enumD 0 xs)) (IteT G.K a) := by
  intro μ' H' S' i p r
  have q1 := h1 μ' H' p
  refine ⟨fun e => ?_, fun dd e => ?_⟩
  · have e2 := Option.some.inj e
    rw [enumD_get, Option.map_eq_none_iff] at e2
    have e3 := List.getElem?_eq_none_iff.mp e2
    exact ⟨vs, q1, by rw [← d1.length]; exact e3⟩
  · have e2 := Option.some.inj e
    rw [enumD_get] at e2
    obtain ⟨x, e3, e4⟩ := Option.map_eq_some_iff.mp e2
    subst e4
    obtain ⟨v, g1, g2⟩ := (d1.per p).get e3
    refine ⟨⟨vs, v, q1, g1⟩, fun z H2 w => ?_⟩
    obtain ⟨T, v', w1, w2, w3, w4⟩ := w
    subst w1
    subst w3
    have a1 := w4 vs q1
    rw [g1] at a1
    cases a1
    have pn : Per G μ' H' μ' (upd H' T (.tup [.int (i : Nat), v])) := per_new ok w2
    refine ⟨pn, r.new ok w2, .tup upd_same (.cons ?_ (.cons (g2.per pn) .nil))⟩
    rw [Nat.zero_add]
    exact .int _
theorem di_enum {e : Expr} {p pos tpos : Pos} {elts : List Expr} {kk : Nat} {g : FA} (A : Amb G X W) (hm : X.mg "enumerate" = none) (ha : PA X [e] (TDA G W g)) (hg : Gl X "enumerate" := by rfl)
    (hs : starEach [e] X.env = [(false, eval e X.env)] := by rfl) : DI X G W (.Tuple elts kk tpos) (.Call (.Name "enumerate" p) [e] [] pos) (iEn g) := by
  refine ⟨iEnumT G.K (TDA G W g), by have := pi_enumT (p := p) (pos := pos) (tpos := tpos) (elts := elts) (kk := kk) hg hm ha hs; rw [A.hK] at this; exact this, fun σ H R ⟨μ, ρ, S, en, rp, po⟩ => ⟨μ, ρ, S, en, rp, (post_bind po).mono fun vs H1 ⟨μ1, ds, S1, pe, rp1, dd, p1⟩ => ?_⟩⟩
  split at p1
  · rename_i x
    split at p1
    · rename_i xs e1
      cases dd with
      | cons a t =>
        cases t
        cases a with
        | tup h1 h2 => simp [tupOf] at e1; subst e1; exact ⟨_, _, rfl, SqT.of h1, p1 _ _ _ .refl rp1 (srcOk_enum A.ok (fun μ' H' p => SqT.of (p.tup _ _ h1)) h2)⟩
        | ktup h1 h2 => simp [tupOf] at e1; subst e1; exact ⟨_, _, rfl, h1 _, p1 _ _ _ .refl rp1 (srcOk_enum A.ok (fun μ' H' p => h1 H') h2)⟩
        | _ => simp [tupOf] at e1
    · exact p1.elim
  · exact p1.elim
end
end Dx

/-! Dx10: sorted. -/
namespace Dx
open PySem PySem.Spec L2 PySem.W
/-! ### insertion -/
section
variable {α β : Type}
def ins (le : α → α → Bool) (x : α) : List α → List α
  | [] => [x]
  | y :: l => if le x y = true then x :: y :: l else y :: ins le x l
def insSort (le : α → α → Bool) : List α → List α
  | [] => []
  | x :: l => ins le x (insSort le l)
theorem ins_perm (le : α → α → Bool) (x : α) : ∀ l, (ins le x l).Perm (x :: l)
  | [] => .refl _
  | y :: l => by
    unfold ins
    split
    · exact .refl _
    · exact ((ins_perm le x l).cons y).trans (.swap x y l)
theorem insSort_perm (le : α → α → Bool) : ∀ l, (insSort le l).Perm l
  | [] => .refl _
  | x :: l => (ins_perm le x _).trans ((insSort_perm le l).cons x)
theorem ins_pair {le : α → α → Bool} (h : TotalLe le) (x : α) : ∀ {l : List α}, l.Pairwise (fun a b => le a b = true) → (ins le x l).Pairwise (fun a b => le a b = true)
  | [], _ => List.pairwise_singleton _ _
  | y :: l, p => by
    obtain ⟨p1, p2⟩ := List.pairwise_cons.mp p
    unfold ins
    split
    · rename_i hxy
      refine List.pairwise_cons.mpr ⟨fun z hz => ?_, p⟩
      rcases List.mem_cons.mp hz with rfl | hz
      · exact hxy
      · exact h.trans _ _ _ hxy (p1 z hz)
    · rename_i hxy
      refine List.pairwise_cons.mpr ⟨fun z hz => ?_, ins_pair h x p2⟩
      rcases List.mem_cons.mp ((ins_perm le x l).mem_iff.mp hz) with rfl | hz
      · exact (h.total _ _).resolve_left hxy
      · exact p1 z hz
theorem insSort_pair {le : α → α → Bool} (h : TotalLe le) : ∀ l : List α, (insSort le l).Pairwise (fun a b => le a b = true)
  | [] => .nil
  | x :: l => ins_pair h x (insSort_pair h l)
theorem ins_filter {le : α → α → Bool} (h : TotalLe le) (c x : α) : ∀ l : List α, (ins le x l).filter (sameRank le c) = (x :: l).filter (sameRank le c)
  | [] => rfl
  | y :: l => by
    unfold ins
    split
    · rfl
    · rename_i hxy
      rw [List.filter_cons, ins_filter h c x l]
      cases hx : sameRank le c x with
      | false => rw [List.filter_cons_of_neg (by rw [hx]; simp), List.filter_cons_of_neg (a := x) (by rw [hx]; simp), List.filter_cons]
      | true =>
        cases hy : sameRank le c y with
        | false => rw [List.filter_cons_of_pos hx, List.filter_cons_of_pos hx, List.filter_cons_of_neg (by rw [hy]; simp)]; simp
        | true =>
          refine absurd ?_ hxy
          unfold sameRank at hx hy
          rw [Bool.and_eq_true] at hx hy
          exact h.trans _ _ _ hx.2 hy.1
theorem insSort_filter {le : α → α → Bool} (h : TotalLe le) (c : α) : ∀ l : List α, (insSort le l).filter (sameRank le c) = l.filter (sameRank le c)
  | [] => rfl
  | x :: l => by
    show (ins le x (insSort le l)).filter _ = _
    rw [ins_filter h, List.filter_cons, insSort_filter h c l, ← List.filter_cons]
theorem insSort_merge {le : α → α → Bool} (h : TotalLe le) (l : List α) : insSort le l = l.mergeSort le := sort_unique h (insSort_pair h l) fun c => insSort_filter h c l
theorem ins_map {le : α → α → Bool} {le' : β → β → Bool} (f : α → β) (x : α) : ∀ l : List α, (∀ y ∈ l, le x y = le' (f x) (f y)) → (ins le x l).map f = ins le' (f x) (l.map f)
  | [], _ => rfl
  | y :: l, h => by
    have e := h y (by simp)
    rw [List.map_cons]
    unfold ins
    rw [e]
    split
    · rfl
    · rw [List.map_cons, ins_map f x l fun z hz => h z (by simp [hz])]
theorem insSort_map {le : α → α → Bool} {le' : β → β → Bool} (f : α → β) : ∀ l : List α, (∀ x ∈ l, ∀ y ∈ l, le x y = le' (f x) (f y)) → (insSort le l).map f = insSort le' (l.map f)
  | [], _ => rfl
  | x :: l, h => by
    show (ins le x (insSort le l)).map f = ins le' (f x) (insSort le' (l.map f))
    rw [ins_map (le' := le') f x _ fun y hy => h x (by simp) y (by simp [(insSort_perm le l).mem_iff.mp hy]), insSort_map f l fun a ha b hb => h a (by simp [ha]) b (by simp [hb])]
end
/-! ### the rule -/
theorem dataLe_total {β : Type} (k : β → PyData) : TotalLe (dataLe false k) := sortLe_total (PyProof.Rows.listOrd PyProof.Rows.itemOrd) false fun b => keyToks (k b)
def rSortedG {κ : Type} (enc : κ → PyData) (le : κ → κ → Bool) (K : PySem.W.Frag) : List V → Hp → VK → Prop := fun vs H Q => ∃ (a : Addr) (bs : List (κ × V)), vs = [V.ref a] ∧ SqL K H a (bs.map (·.2)) ∧ (∀ b ∈ bs, Dp K H b.2 (enc b.1)) ∧
  (∀ x ∈ bs, ∀ y ∈ bs, (!dataLt (enc y.1) (enc x.1)) = le x.1 y.1) ∧ AllAlike (bs.map fun b => enc b.1) ∧ Sortable (bs.map fun b => enc b.1) ∧ (∀ b ∈ bs, (enc b.1).depth ≤ 8) ∧
  ∀ p, H p = none → Q (.ref p) (upd H p (.lst ((insSort (fun x y => le x.1 y.1) bs).map (·.2))))
theorem each_of {κ : Type} {X : Cx} {pins : List (Addr × Obj)} {σ : L2.St} {H : Hp} {s : Shared} {enc : κ → PyData} (I : Inv X pins σ H s) : ∀ {bs : List (κ × V)} {us : List Value}, Vals (bs.map (·.2)) us → (∀ b ∈ bs, Dp X.K H b.2 (enc b.1)) →
    EachIs (fun v (b : κ × V) => RelV b.2 v) us bs ∧ EachIs (fun v (b : κ × V) => ∃ as, Reads s.heap v (enc b.1) as) us bs
  | [], us, r, _ => by cases r; exact ⟨.nil, .nil⟩
  | b :: bs, us, r, h => by
    cases r with
    | cons r1 r2 =>
      obtain ⟨e1, e2⟩ := each_of I r2 fun c hc => h c (by simp [hc])
      exact ⟨.cons r1 e1, .cons (Dp.reads I _ _ _ (h b (by simp)) r1) e2⟩
theorem vals_of {κ : Type} : ∀ {us : List Value} {bs : List (κ × V)}, EachIs (fun v (b : κ × V) => RelV b.2 v) us bs → Vals (bs.map (·.2)) us
  | _, _, .nil => .nil
  | _, _, .cons h t => .cons h (vals_of t)
theorem cr_sortedG {κ : Type} {X : Cx} {enc : κ → PyData} {le : κ → κ → Bool} (hu : X.A.units + 65 < cLine) : CallR X (.builtin "sorted") (rSortedG enc le X.K) := by
  intro pins s σ H vs us Q I r h
  obtain ⟨a, bs, rfl, hs, hd, hle, hal, hso, hdp, q⟩ := h
  obtain ⟨its, rv, hl, hz⟩ := I.list hs
  obtain ⟨u, rfl, ru⟩ := vals1 r
  obtain rfl : u = Value.ref a := ru
  obtain ⟨e1, e2⟩ := each_of I rv hd
  refine sorted_data (R := fun v (b : κ × V) => RelV b.2 v) (enc := fun b : κ × V => enc b.1) hl.isList e1 e2 hal hso (by rw [List.length_map] at hz; exact hz) (fun b hb => by have := hdp b hb; omega) fun out ho eo => ?_
  have em : bs.mergeSort (dataLe false fun b : κ × V => enc b.1) = insSort (fun x y => le x.1 y.1) bs := by
    rw [← insSort_merge (dataLe_total _)]
    have := insSort_map (le := dataLe false fun b : κ × V => enc b.1) (le' := fun x y : κ × V => le x.1 y.1) id bs fun x hx y hy => hle x hx y hy
    simpa using this
  rw [em] at eo
  have hn : ∃ n, (PyProof.Rows.sortedAll s.heap its out.toArray).get? (s.heap.objs.size + 1) = some (PyProof.Rows.seqObj "list" out.toArray n) := PyProof.Rows.sortedAll_at s.heap its out.toArray
  obtain ⟨n, hn⟩ := hn
  refine ⟨.ref (s.heap.objs.size + 1), upd H (s.heap.objs.size + 1) (.lst ((insSort (fun x y => le x.1 y.1) bs).map (·.2))), I.laid (t' := s.toks) (fun b o e => PyProof.Rows.sortedAll_old e) (Nat.le_succ _) ⟨?_, out, n, vals_of eo, hn⟩, rfl, q _ (I.hok.fresh (Nat.le_succ _))⟩
  rw [List.length_map, (insSort_perm _ _).length_eq]
  rw [List.length_map] at hz
  exact hz
/-! ### keys -/
def ltStr (x y : String) : Bool := decide (x.toList.map Char.toNat < y.toList.map Char.toNat)
def ltKs : List String → List String → Bool
  | [], [] => false
  | [], _ :: _ => true
  | _ :: _, [] => false
  | x :: xs, y :: ys => if x = y then ltKs xs ys else ltStr x y
theorem ltStr_ok (x y : String) : dataLt (.str (Str.ofString x)) (.str (Str.ofString y)) = ltStr x y := by
  rw [dataLt_str]
  unfold ltStr
  rw [Str.ofString_eq_toList, Str.ofString_eq_toList]
def encS (s : String) : PyData := .str (Str.ofString s)
def encK (ks : List String) : PyData := .tuple (ks.map encS)
theorem eqv_str (x y : String) : PyData.eqv (encS x) (encS y) = decide (x = y) := by
  by_cases h : x = y
  · subst h
    simp [encS, PyData.eqv]
  · have : Str.ofString x ≠ Str.ofString y := fun z => h (ofS_inj z)
    simp [encS, PyData.eqv, h, this]
theorem ltKs_ok : ∀ xs ys : List String, PyProof.Rows.lexLt PyProof.Rows.itemOrd (keyToksAll (xs.map encS)) (keyToksAll (ys.map encS)) = ltKs xs ys
  | [], [] => by decide +kernel
  | [], y :: ys => by
    simp only [List.map_nil, List.map_cons, ltKs]
    rw [show keyToksAll [] = [Sum.inl 0] by simp [keyToksAll], toks_all_cons]
    exact (PyProof.Rows.lex_diff (O := PyProof.Rows.itemOrd) (x := (Sum.inl 0 : Int ⊕ List Nat)) (y := (Sum.inl 1 : Int ⊕ List Nat)) (by simp)).trans (by decide +kernel)
  | x :: xs, [] => by
    simp only [List.map_nil, List.map_cons, ltKs]
    rw [show keyToksAll [] = [Sum.inl 0] by simp [keyToksAll], toks_all_cons]
    exact (PyProof.Rows.lex_diff (O := PyProof.Rows.itemOrd) (x := (Sum.inl 1 : Int ⊕ List Nat)) (y := (Sum.inl 0 : Int ⊕ List Nat)) (by simp)).trans (by decide +kernel)
  | x :: xs, y :: ys => by
    simp only [List.map_cons, ltKs]
    by_cases h : x = y
    · rw [if_pos h, dataLt_all_yes (by simp [encS, alike]) (by rw [eqv_str]; simp [h]), ltKs_ok xs ys]
    · rw [if_neg h, dataLt_all_no (by simp [encS, alike]) (by rw [eqv_str]; simp [h])]
      exact ltStr_ok x y
theorem encK_lt (xs ys : List String) : dataLt (encK xs) (encK ys) = ltKs xs ys := by
  unfold encK
  rw [dataLt_tuple]
  exact ltKs_ok xs ys
theorem alike_strs : ∀ xs ys : List String, alikeAll (xs.map encS) (ys.map encS) = true
  | [], _ => by simp [alikeAll]
  | _ :: _, [] => by simp [alikeAll]
  | x :: xs, y :: ys => by
    rw [List.map_cons, List.map_cons, alikeAll, alike_strs xs ys]
    simp [encS, alike]
theorem depth_strs : ∀ xs : List String, PyData.depthAll (xs.map encS) = 0
  | [] => by simp [PyData.depthAll]
  | x :: xs => by
    rw [List.map_cons, PyData.depthAll, depth_strs xs]
    simp [encS, PyData.depth]
def strOf : D → Option String
  | .str s => some s
  | _ => none
def keyT : D → Option (List String)
  | .tup xs => xs.mapM strOf
  | .ktup xs => xs.mapM strOf
  | _ => none
def leT (x y : D) : Bool := !ltKs ((keyT y).getD []) ((keyT x).getD [])
def cSorted : CV := fun ds S => match ds with
  | [d] => match seqOf S d with
    | some xs => if xs.all (fun x => match keyT x with
        | some (_ :: _) => true
        | _ => false) = true then newO (.lst (insSort leT xs)) S
      else match intsOf xs with
        | some ns => newO (.lst ((insSort (fun i j => decide (i ≤ j)) ns).map .int)) S
        | none => .stuck
    | none => .stuck
  | _ => .stuck
section
variable {G : Gx} {X : Cx} {W : WX}
theorem str_all {μ : List Addr} {H : Hp} : ∀ {xs : List D} {vs : List V} {ks : List String}, DenA G μ H xs vs → xs.mapM strOf = some ks → DpAll G.K H vs (ks.map encS)
  | [], _, ks, .nil, e => by simp at e; subst e; exact .nil
  | x :: xs, _, ks, .cons h t, e => by
    rw [List.mapM_cons] at e
    obtain ⟨p, e1, e2⟩ := Option.bind_eq_some_iff.mp e
    obtain ⟨q, e3, e4⟩ := Option.bind_eq_some_iff.mp e2
    cases e4
    cases h <;> simp [strOf] at e1
    subst e1
    exact .cons (.str _) (str_all t e3)
theorem keyT_den {μ : List Addr} {H : Hp} {d : D} {v : V} {ks : List String} (h : Den G μ H d v) (e : keyT d = some ks) : Dp G.K H v (encK ks) := by
  cases h with
  | tup h1 h2 => exact .tup (SqT.of h1) (str_all h2 e)
  | ktup h1 h2 => exact .tup (h1 _) (str_all h2 e)
  | _ => cases e
theorem den_zip {μ : List Addr} {H : Hp} : ∀ {xs : List D} {vs : List V}, DenA G μ H xs vs → ∀ p ∈ xs.zip vs, Den G μ H p.1 p.2
  | _, _, .nil, p, hp => by simp at hp
  | _, _, .cons h t, p, hp => by
    rcases List.mem_cons.mp hp with rfl | hp
    · exact h
    · exact den_zip t p hp
theorem zip_den {μ : List Addr} {H : Hp} : ∀ {ps : List (D × V)}, (∀ p ∈ ps, Den G μ H p.1 p.2) → DenA G μ H (ps.map (·.1)) (ps.map (·.2))
  | [], _ => .nil
  | p :: ps, h => .cons (h p (by simp)) (zip_den fun q hq => h q (by simp [hq]))
theorem zip_fst {μ : List Addr} {H : Hp} : ∀ {xs : List D} {vs : List V}, DenA G μ H xs vs → (xs.zip vs).map (·.1) = xs ∧ (xs.zip vs).map (·.2) = vs
  | _, _, .nil => ⟨rfl, rfl⟩
  | _, _, .cons _ t => by obtain ⟨a, b⟩ := zip_fst t; exact ⟨by simp [a], by simp [b]⟩
theorem cv_sorted (g : G.Ok) : CallV G W (fun vs H Q => rSortedG encK (fun x y => !ltKs y x) G.K vs H Q ∨ rSortedG PyData.int (fun x y => decide (x ≤ y)) G.K vs H Q) cSorted := by
  intro μ S H xs ds σ Q rp dd po
  unfold cSorted at po
  split at po
  · cases dd with
    | cons d1 t =>
      cases t
      split at po
      · rename_i ys e
        obtain ⟨a, vs, rfl, h1, h2⟩ := seq_den rp d1 e
        obtain ⟨z1, z2⟩ := zip_fst h2
        split at po
        · rename_i hk
          have hk' : ∀ p ∈ ys.zip vs, ∃ k r, keyT p.1 = some (k :: r) := fun p hp => by
            have hm : p.1 ∈ ys := by rw [← z1]; exact List.mem_map_of_mem hp
            have := List.all_eq_true.mp hk _ hm
            split at this
            · rename_i k r e2; exact ⟨k, r, e2⟩
            · cases this
          let bs : List (List String × V) := (ys.zip vs).map fun p => ((keyT p.1).getD [], p.2)
          have eb2 : bs.map (·.2) = vs := by rw [List.map_map]; exact z2
          refine .inl ⟨a, bs, rfl, by rw [eb2]; exact h1, fun b hb => ?_, fun x _ y _ => by rw [encK_lt], fun d hd d' hd' => ?_, .inl fun d hd => ?_, fun b hb => ?_, fun p hp => ?_⟩
          · obtain ⟨q, hq, rfl⟩ := List.mem_map.mp hb
            obtain ⟨k, r, ek⟩ := hk' q hq
            show Dp G.K H q.2 (encK ((keyT q.1).getD []))
            rw [ek]
            exact keyT_den (den_zip h2 q hq) ek
          · obtain ⟨b, _, rfl⟩ := List.mem_map.mp hd
            obtain ⟨b', _, rfl⟩ := List.mem_map.mp hd'
            show alike (.tuple _) (.tuple _) = true
            rw [alike]
            exact alike_strs _ _
          · obtain ⟨b, hb, rfl⟩ := List.mem_map.mp hd
            obtain ⟨q, hq, rfl⟩ := List.mem_map.mp hb
            obtain ⟨k, r, ek⟩ := hk' q hq
            refine ⟨encS k, r.map encS, ?_⟩
            show encK ((keyT q.1).getD []) = _
            rw [ek]
            rfl
          · show (PyData.tuple _).depth ≤ 8
            rw [PyData.depth, depth_strs]
            decide
          · have em : (insSort (fun x y : List String × V => !ltKs y.1 x.1) bs).map (·.2) = (insSort (fun x y : D × V => leT x.1 y.1) (ys.zip vs)).map (·.2) := by
              rw [← insSort_map (le := fun x y : D × V => leT x.1 y.1) (fun p : D × V => ((keyT p.1).getD [], p.2)) _ fun x _ y _ => rfl, List.map_map]
              rfl
            have ed : insSort leT ys = (insSort (fun x y : D × V => leT x.1 y.1) (ys.zip vs)).map (·.1) := by
              rw [insSort_map (le' := leT) (fun p : D × V => p.1) _ fun x _ y _ => rfl, z1]
            rw [em]
            rw [ed] at po
            exact post_lst g rp (zip_den fun p hp => den_zip h2 p ((insSort_perm _ _).mem_iff.mp hp)) po hp
        · split at po
          · rename_i ns en
            have ev := ints_den h2 en
            refine .inr ⟨a, ns.map fun i => (i, V.int i), rfl, by rw [List.map_map]; rw [ev] at h1; exact h1, fun b hb => ?_, fun x _ y _ => ?_, fun d hd d' hd' => ?_, .inr fun d hd => ?_, fun b hb => ?_, fun p hp => ?_⟩
            · obtain ⟨i, _, rfl⟩ := List.mem_map.mp hb
              exact .int i
            · show (!dataLt (.int y.1) (.int x.1)) = decide (x.1 ≤ y.1)
              rw [dataLt_int, not_lt_int]
            · obtain ⟨b, _, rfl⟩ := List.mem_map.mp hd
              obtain ⟨b', _, rfl⟩ := List.mem_map.mp hd'
              rfl
            · obtain ⟨b, _, rfl⟩ := List.mem_map.mp hd
              exact ⟨fun z => (nomatch z), fun _ z => (nomatch z)⟩
            · show (PyData.int _).depth ≤ 8
              rw [PyData.depth]
              decide
            · have em : (insSort (fun x y : Int × V => decide (x.1 ≤ y.1)) (ns.map fun i => (i, V.int i))).map (·.2) = (insSort (fun i j => decide (i ≤ j)) ns).map V.int := by
                rw [← insSort_map (le := fun i j : Int => decide (i ≤ j)) (fun i : Int => (i, V.int i)) _ fun x _ y _ => rfl, List.map_map]
                rfl
              rw [em]
              refine post_lst g rp ?_ po hp
              have : ∀ l : List Int, DenA G μ H (l.map D.int) (l.map V.int) := fun l => by
                induction l with
                | nil => exact .nil
                | cons i l ih => exact .cons (.int i) ih
              exact this _
          · exact po.elim
      · exact po.elim
  · exact po.elim
theorem de_sorted {e : Expr} {p pos : Pos} {g : FA} (A : Amb G X W) (hm : X.mg "sorted" = none) (ha : PA X [e] (TDA G W g)) (hg : Gl X "sorted" := by rfl) (he : starEach [e] X.env = (false, eval e X.env) :: starEach [] X.env := by rfl) (hpl : (backTo pos (starEach [] X.env)).any (·.1) = false := by rfl) : PE X (.Call (.Name "sorted" p) [e] [] pos) (TD G W (xB cSorted g)) :=
  de_callB (r := fun vs H Q => rSortedG encK (fun x y => !ltKs y x) G.K vs H Q ∨ rSortedG PyData.int (fun x y => decide (x ≤ y)) G.K vs H Q) (by have := (cr_sortedG (X := X) (enc := encK) (le := fun x y => !ltKs y x) A.hu).or (cr_sortedG (enc := PyData.int) (le := fun x y => decide (x ≤ y)) A.hu); rw [A.hK] at this; exact this) (cv_sorted A.ok) hm PyProof.Rows.boot_sorted ha hg (by decide) (by decide) he hpl
end
end Dx

/-! Dx11: dict(pairs) with tuple keys, list(dict). -/
namespace Dx
open PySem PySem.Spec L2 PyProof.Rows
section
variable {prog : Program} {w : World}
theorem dictH_keep {K : Type} [DecidableEq K] {knd : HeapKind prog w K} {h h' : Heap} {d : Addr} {xs : List (K × Addr × Value)} (m : h.DictOfH knd d xs) (kd : ∀ o, h.get? d = some o → h'.get? d = some o) (kk : ∀ x ∈ xs, knd.is h' x.1 x.2.1) : h'.DictOfH knd d xs := by
  obtain ⟨o, es, ep, ho, hc, hd, he, his, hn⟩ := m
  exact ⟨o, es, ep, kd _ ho, hc, hd, he, kk, hn⟩
abbrev TK (prog : Program) (w : World) := tupleKind (mixKind prog w)
theorem tk_keep {h h' : Heap} {k : List Key} {a : Addr} (x : (TK prog w).is h k a) (kp : ∀ o, h.get? a = some o → h'.get? a = some o) : (TK prog w).is h' k a := by
  obtain ⟨o, its, n, h1, h2, h3, h4⟩ := x
  exact ⟨o, its, n, kp _ h1, h2, h3, h4⟩
def mergedH (acc : List (List Key × Addr × Value)) (ps : List (List Key × Addr × Value)) : List (List Key × Addr × Value) := ps.foldl (fun acc q => storedH acc q.1 q.2.1 q.2.2) acc
theorem storedH_len (xs : List (List Key × Addr × Value)) (k : List Key) (a : Addr) (v : Value) : (storedH xs k a v).length ≤ xs.length + 1 := by
  unfold storedH
  split <;> simp
theorem storedH_mem {xs : List (List Key × Addr × Value)} {k : List Key} {a : Addr} {v : Value} {x : List Key × Addr × Value} (h : x ∈ storedH xs k a v) : (x.1, x.2.1) = (k, a) ∨ ∃ y ∈ xs, (x.1, x.2.1) = (y.1, y.2.1) := by
  unfold storedH at h
  split at h
  · obtain ⟨y, hy, e⟩ := List.mem_map.mp h
    refine .inr ⟨y, hy, ?_⟩
    rw [← e]
    unfold putAt
    split <;> rfl
  · rcases List.mem_append.mp h with h | h
    · exact .inr ⟨x, h, rfl⟩
    · rw [List.mem_singleton.mp h]; exact .inl rfl
theorem upd_loopT {A : Around} {R : Result → Shared → Prop} {S I l : Addr} {items : Array Value} {res : Value} (hu : A.units + 1 < cLine) (hh : A.handled = none) (hlI : l ≠ I) (hSI : S ≠ I) (hSl : S ≠ l) :
    ∀ (rest : List (List Key × Addr × Value)) (i : Nat) (acc : List (List Key × Addr × Value)) (ix : Int) (t : Tok) (s : Shared), items.size = i + rest.length → acc.length + rest.length ≤ sizeLine →
      (∀ (j : Nat) (q : List Key × Addr × Value), rest[j]? = some q → ∃ b : Addr, items[i + j]? = some (.ref b) ∧ b ≠ S ∧ b ≠ I ∧ IsTup s.heap b #[.ref q.2.1, q.2.2] ∧ q.2.1 ≠ S ∧ q.2.1 ≠ I ∧ (TK prog w).is s.heap q.1 q.2.1) →
      (∀ x ∈ acc, x.2.1 ≠ S ∧ x.2.1 ≠ I) →
      s.heap.IsListIter I l i → s.heap.IsList l items → s.heap.DictOfH (TK prog w) S acc →
      (∀ h' tk, h'.DictOfH (TK prog w) S (mergedH acc rest) → (∀ b o, b ≠ S → b ≠ I → s.heap.get? b = some o → h'.get? b = some o) → R (.ok (.ret res)) { s with heap := h', toks := tk }) →
      codeAny (model prog w) A (.builtin "dict.update.loop" ⟨[.ref S, .ref I, .int ix t, res], []⟩) R s
  | [], i, acc, ix, t, s, hsz, hln, ht, hac, hit, hl, hm, hR => by
    refine codeAny_builtin ud_entry ?_
    rw [Around.under_plainId ud_plain _]
    show wpAny _ A.in1 (pyNext (.ref I) >>= _) _ _ s
    refine wpAny_bind (wpAny_pyNext_list_end (A := A.in1) hh hit hl (by first | exact Array.getElem?_eq_none (Nat.le_of_eq hsz) | (simp at hsz; simp; omega)) fun h' he => ?_)
    show wpAny _ A.in1 (Builtin.Dict.addKeywords S [] >>= _) _ _ _
    refine wpAny_bind (wpAny_pure (wpAny_pure ?_))
    refine hR h' s.toks (dictH_keep hm (fun o e => he S o hSI e) fun x hx => ?_) fun b o _ hb e => he b o hb e
    obtain ⟨_, _, _, _, _, _, _, his, _⟩ := hm
    exact tk_keep (his x hx) fun o e => he _ o (hac x hx).2 e
  | q :: rest, i, acc, ix, t, s, hsz, hln, ht, hac, hit, hl, hm, hR => by
    obtain ⟨b, hb, hbS, hbI, htup, hkS, hkI, hk⟩ := ht 0 q rfl
    rw [List.length_cons] at hsz hln
    refine codeAny_builtin ud_entry ?_
    rw [Around.under_plainId ud_plain _]
    show wpAny _ A.in1 (pyNext (.ref I) >>= _) _ _ s
    refine wpAny_bind (wpAny_pyNext_list_item (x := .ref b) hit hl (by simpa using hb) fun h1 hit1 hs1 => ?_)
    have ht1 : IsTup h1 b #[.ref q.2.1, q.2.2] := htup.extBut hs1.extBut hbI
    have hl1 : h1.IsList l items := hl.extBut hs1.extBut hlI
    have hm1 : h1.DictOfH (TK prog w) S acc := by
      refine dictH_keep hm (fun o e => hs1.extBut S o hSI e) fun x hx => ?_
      obtain ⟨_, _, _, _, _, _, _, his, _⟩ := hm
      exact tk_keep (his x hx) fun o e => hs1.extBut _ o (hac x hx).2 e
    have hk1 : (TK prog w).is h1 q.1 q.2.1 := tk_keep hk fun o e => hs1.extBut _ o hkI e
    obtain ⟨o, ho, hc, n, hd⟩ := id ht1
    show wpAny _ A.in1 (holding [Value.ref b] _ >>= _) _ _ _
    refine wpAny_bind (wpAny_holding ?_)
    refine wpAny_bind (wpAny_tryCatch ?_)
    unfold Builtin.Dict.pairItems
    refine wpAny_bind (wpAny_typeOf (T := "tuple") ⟨o, ho, hc⟩ ?_)
    rw [if_pos (by first | decide | rfl | simp)]
    refine wpAny_bind (wpAny_seqItems ho hd (wpAny_pure ?_))
    show wpAny _ A.in1 (holding [.ref q.2.1, q.2.2] (dictSet S (.ref q.2.1) q.2.2)) _ _ _
    refine wpAny_holding (wpAny_dictSet_heap (knd := TK prog w) (k := q.1) (tupleKind_room_in1 hu) hk1 hm1 (fun h2 hm2 hs2 => ?_) (by omega))
    refine wpAny_pure ⟨plainId_quiet ud_plain _, upd_loopT (items := items) hu hh hlI hSI hSl rest (i + 1) (storedH acc q.1 q.2.1 q.2.2) (ix + 1) 0 _ (show items.size = i + 1 + rest.length by omega) ?_ (fun j q' e => ?_) (fun x hx => ?_) ?_ ?_ hm2 fun h' tk hd' k => ?_⟩
    · have z := storedH_len acc q.1 q.2.1 q.2.2
      omega
    · obtain ⟨b', hb', hbS', hbI', htup', g1, g2, g3⟩ := ht (j + 1) q' (by simpa using e)
      refine ⟨b', ?_, hbS', hbI', (htup'.extBut hs1.extBut hbI').extBut hs2.extBut hbS', g1, g2, tk_keep g3 fun o e => hs2.extBut _ o g1 (hs1.extBut _ o g2 e)⟩
      rw [show i + 1 + j = i + (j + 1) by omega]
      exact hb'
    · rcases storedH_mem hx with e | ⟨y, hy, e⟩
      · have e2 : x.2.1 = q.2.1 := congrArg Prod.snd e
        rw [e2]; exact ⟨hkS, hkI⟩
      · have e2 : x.2.1 = y.2.1 := congrArg Prod.snd e
        rw [e2]; exact hac y hy
    · exact hit1.at fun o' e => hs2.extBut I o' (Ne.symm hSI) e
    · exact hl1.extBut hs2.extBut (Ne.symm hSl)
    · exact hR h' tk hd' fun c oc h3 h4 e => k c oc h3 h4 (hs2.extBut c oc h3 (hs1.extBut c oc h4 e))
theorem call_dict_pairsT {A : Around} {E : Value → Shared → Prop} {s : Shared} {l : Addr} {ol : Obj} {items : Array Value} {n : Nat} {prs : List (List Key × Addr × Value)} {Q : Value → Shared → Prop} (hu : A.units + 65 < cLine) (hh : A.handled = none) (hl : s.heap.get? l = some ol) (hc : ol.cls = .type "list") (hd : ol.dict = none)
    (hdat : ol.data = .seq items n) (hsz : items.size = prs.length) (hln : prs.length ≤ sizeLine)
    (ht : ∀ (j : Nat) (q : List Key × Addr × Value), prs[j]? = some q → ∃ b : Addr, items[j]? = some (.ref b) ∧ IsTup s.heap b #[.ref q.2.1, q.2.2] ∧ (TK prog w).is s.heap q.1 q.2.1)
    (h : ∀ h' tk, h'.DictOfH (TK prog w) s.heap.objs.size (mergedH [] prs) → (∀ b o, s.heap.get? b = some o → h'.get? b = some o) → Q (.ref s.heap.objs.size) { s with heap := h', toks := tk }) :
    wpAny (model prog w) A (call (.type "dict") [.ref l]) Q E s := by
  refine callType_codes (Q₁ := fun obj s₁ => obj = .ref s.heap.objs.size ∧ s₁ = { s with heap := s.heap.push { cls := .type "dict", data := .dict #[] } }) PySem.F.kt_called_dict (PySem.F.kt_typeCall_dict_1 _) PySem.F.entry_dict_init (kt_code_dict_new _ ⟨rfl, rfl⟩) ?_
  rintro obj s₁ ⟨rfl, rfl⟩
  have hnew : (s.heap.push { cls := .type "dict", data := .dict #[] }).DictOfH (TK prog w) s.heap.objs.size [] := Heap.DictOfH.new s.heap
  have k0 : ∀ b o, s.heap.get? b = some o → (s.heap.push { cls := .type "dict", data := .dict #[] }).get? b = some o := fun b o e => Heap.get?_push_of_some _ e
  refine ⟨hnew.typeIs, PySem.F.args_dict_init_2 _ _, ?_⟩
  unfold Builtin.«dict.__init__»
  refine wpAny_bind ?_
  unfold Builtin.Dict.selfAndRest
  refine wpAny_bind (wpAny_notOrdered_dict hnew.typeIs ?_)
  show wpAny _ _ (pure (s.heap.objs.size, [Value.ref l])) _ _ _
  refine wpAny_pure ?_
  show wpAny _ _ (Builtin.Dict.updateFrom "dict.__init__" s.heap.objs.size (.ref l) [] .none) _ _ _
  unfold Builtin.Dict.updateFrom
  refine wpAny_bind (wpAny_typeOf (T := "list") ⟨ol, k0 _ _ hl, hc⟩ ?_)
  rw [if_pos (by first | decide | rfl | simp)]
  refine wpAny_bind (miss_list (k0 _ _ hl) hc hdat hd hh fun h1 tk1 hk1 => ?_)
  rw [if_pos (show (none : Option Value).isNone = true from rfl)]
  refine wpAny_bind (wpAny_rule ?_)
  have hl1 : h1.IsList l items := ⟨ol, hk1 _ _ (k0 _ _ hl), hc, n, hdat⟩
  have hS1 : s.heap.objs.size < h1.objs.size := by
    have e : (s.heap.push { cls := .type "dict", data := .dict #[] }).get? s.heap.objs.size = some { cls := .type "dict", data := .dict #[] } := Heap.get?_push_size _ rfl
    exact Heap.lt_size (hk1 _ _ e)
  refine wpAny_bind (wpAny_pyIter_list hl1 ?_)
  have k2 : ∀ b o, h1.get? b = some o → (h1.push { cls := .type "list_iterator", data := .fields #[.ref l, .int 0 0] }).get? b = some o := fun b o e => Heap.get?_push_of_some _ e
  have hlt : l < s.heap.objs.size := Heap.lt_size hl
  have key := upd_loopT (prog := prog) (w := w) (A := A.in1) (R := wants (fun r s₂ => r = .none ∧ Q (.ref s.heap.objs.size) s₂) E) (S := s.heap.objs.size) (I := h1.objs.size) (l := l) (items := items) (res := Value.none) (by simp only [Around.in1]; omega) hh
    (Nat.ne_of_lt (Nat.lt_trans hlt hS1)) (Nat.ne_of_lt hS1) (Nat.ne_of_gt hlt) prs 0 [] 0 0
    { s with heap := h1.push { cls := .type "list_iterator", data := .fields #[.ref l, .int 0 0] }, toks := tk1 } (by rw [hsz, Nat.zero_add]) (by rw [List.length_nil, Nat.zero_add]; exact hln)
    (fun j q e => by
      obtain ⟨b, e1, e2, e3⟩ := ht j q e
      have hb : b < s.heap.objs.size := e2.lt
      have hk : q.2.1 < s.heap.objs.size := by obtain ⟨o, _, _, ho, _⟩ := id e3; exact Heap.lt_size ho
      exact ⟨b, by rw [Nat.zero_add]; exact e1, Nat.ne_of_lt hb, Nat.ne_of_lt (Nat.lt_trans hb hS1), e2.keeps fun c o z => k2 _ _ (hk1 _ _ (k0 _ _ z)), Nat.ne_of_lt hk, Nat.ne_of_lt (Nat.lt_trans hk hS1), tk_keep e3 fun o z => k2 _ _ (hk1 _ _ (k0 _ _ z))⟩)
    (fun x hx => by simp at hx)
    ⟨_, Heap.get?_push_size _ rfl, rfl, rfl⟩ (hl1.at fun o e => k2 _ _ e) (dictH_keep (dictH_keep hnew (fun o e => hk1 _ _ e) fun x hx => by simp at hx) (fun o e => k2 _ _ e) fun x hx => by simp at hx)
    (fun h' tk hd' k => ⟨rfl, h h' tk hd' fun b o e => k b o (Nat.ne_of_lt (Heap.lt_size e)) (Nat.ne_of_lt (Nat.lt_trans (Heap.lt_size e) hS1)) (k2 _ _ (hk1 _ _ (k0 _ _ e)))⟩)
  first
    | exact wpAny_pure ⟨plainId_quiet ud_plain _, key⟩
    | exact wpAny_bind (wpAny_pure (wpAny_pure ⟨plainId_quiet ud_plain _, key⟩))
end
section
variable {X : Cx}
def mergeT (ps : List (List Key × V)) : List (List Key × V) := ps.foldl (fun acc kv => putK acc kv.1 kv.2) []
/-- dict(xs) of a list of pairs (tuple, value) -/
def rDictT (K : PySem.W.Frag) : List V → Hp → VK → Prop := fun xs H Q => ∃ (a : Addr) (ps : List (Addr × Addr × List Key × V)), xs = [.ref a] ∧ SqL K H a (ps.map fun p => V.ref p.1) ∧ (∀ p ∈ ps, SqT K H p.1 [.ref p.2.1, p.2.2.2] ∧ H p.2.1 = some (.tup (p.2.2.1.map kV))) ∧
    ∀ p, H p = none → Q (.ref p) (upd H p (.dT (mergeT (ps.map fun p => (p.2.2.1, p.2.2.2)))))
theorem pairsT_of {pins : List (Addr × Obj)} {σ : L2.St} {H : Hp} {s : Shared} (I : Inv X pins σ H s) : ∀ {ps : List (Addr × Addr × List Key × V)}, (∀ p ∈ ps, SqT X.K H p.1 [.ref p.2.1, p.2.2.2] ∧ H p.2.1 = some (.tup (p.2.2.1.map kV))) →
    ∃ prs : List (List Key × Addr × Value), prs.length = ps.length ∧ KT H (ps.map fun p => (p.2.2.1, p.2.2.2)) prs ∧ ∀ (j : Nat) (q : List Key × Addr × Value), prs[j]? = some q → ∃ p, ps[j]? = some p ∧ IsTup s.heap p.1 #[.ref q.2.1, q.2.2] ∧ (TK X.prog X.w).is s.heap q.1 q.2.1
  | [], _ => ⟨[], rfl, .nil, fun j q e => by simp at e⟩
  | p :: ps, h => by
    obtain ⟨prs, hl, r, hp⟩ := pairsT_of I fun q hq => h q (List.mem_cons_of_mem _ hq)
    obtain ⟨h1, h2⟩ := h p (List.mem_cons_self ..)
    obtain ⟨its, rv, ht, _⟩ := I.tuple h1
    obtain ⟨u, y, ei, ru, ry⟩ := vals2 rv
    subst ei
    cases (show u = Value.ref p.2.1 from ru)
    refine ⟨(p.2.2.1, p.2.1, y) :: prs, by simp [hl], .cons ⟨rfl, h2, ry⟩ r, fun j q e => ?_⟩
    cases j with
    | zero =>
      have e' := Option.some.inj e
      subst e'
      exact ⟨p, rfl, ht, key_of I.hok h2⟩
    | succ j =>
      obtain ⟨p', e1, e2⟩ := hp j q (by simpa using e)
      exact ⟨p', by simpa using e1, e2⟩
theorem KT.merge {H : Hp} : ∀ {ps : List (List Key × V)} {prs : List (List Key × Addr × Value)} {acc : List (List Key × V)} {ac2 : List (List Key × Addr × Value)}, KT H ps prs → KT H acc ac2 → KT H (ps.foldl (fun acc kv => putK acc kv.1 kv.2) acc) (mergedH ac2 prs)
  | _, _, _, _, .nil, k => k
  | p :: ps, q :: prs, acc, ac2, .cons h t, k => by
    obtain ⟨h1, h2, h3⟩ := h
    show KT H (ps.foldl _ (putK acc p.1 p.2)) (mergedH (storedH ac2 q.1 q.2.1 q.2.2) prs)
    refine KT.merge t ?_
    rw [← h1]
    exact KT.put k p.1 h2 h3
theorem mergeT_len (ps : List (List Key × V)) : ∀ acc : List (List Key × V), (ps.foldl (fun acc kv => putK acc kv.1 kv.2) acc).length ≤ acc.length + ps.length := by
  induction ps with
  | nil => intro acc; simp
  | cons p ps ih =>
    intro acc
    have h1 := ih (putK acc p.1 p.2)
    have h2 := length_putK acc p.1 p.2
    rw [List.foldl_cons, List.length_cons]
    omega
theorem call_dictT (hcalm : X.calm = true) (hu : X.A.units + 65 < cLine) : CallR X (.type "dict") (rDictT X.K) := by
  intro pins s σ H xs us Q I r q
  obtain ⟨a, ps, ex, hq, hp, q⟩ := q
  subst ex
  obtain ⟨u, eu, rx⟩ := vals1 r
  subst eu
  cases rx
  obtain ⟨its, rv, pl, hz⟩ := I.list hq
  have ei : its = (ps.map fun p => Value.ref p.1) := by
    have := refs_at (ps := ps.map fun p => p.1) (us := its) (by rw [List.map_map]; exact rv)
    rw [this, List.map_map]
    rfl
  subst ei
  rw [List.length_map] at hz
  obtain ⟨prs, hl, rel, hpr⟩ := pairsT_of I hp
  obtain ⟨o, n, ho, hc, hd, hdat⟩ := pl
  refine call_dict_pairsT (prs := prs) hu (I.ok.hd hcalm) ho hc hd hdat (by simp [hl]) (by rw [hl]; exact hz) (fun j q' e => ?_) fun h' tk hd' k => ?_
  · obtain ⟨p, e1, e2, e3⟩ := hpr j q' e
    exact ⟨p.1, by simp [e1], e2, e3⟩
  · have hm : (s.heap.objs.size == sysModules) = false := beq_eq_false_iff_ne.mpr (Nat.ne_of_gt I.big)
    have hlen : (mergeT (ps.map fun p => (p.2.2.1, p.2.2.2))).length ≤ sizeLine := by
      have := mergeT_len (ps.map fun p => (p.2.2.1, p.2.2.2)) []
      rw [List.length_map, List.length_nil] at this
      unfold mergeT
      omega
    have hf := I.hok.fresh (Nat.le_refl s.heap.objs.size)
    obtain ⟨o', es, ep, h1, h2, h3, h4, h5, h6⟩ := hd'
    refine ⟨.ref s.heap.objs.size, upd H s.heap.objs.size (.dT (mergeT (ps.map fun p => (p.2.2.1, p.2.2.2)))), I.laid (t' := tk) k (Nat.le_refl _) ⟨hlen, hm, mergedH [] prs, (KT.merge rel .nil).keeps fun c ys ec => ?_, o', es, ep, h1, h2, h3, h4, h6⟩, rfl, q _ hf⟩
    rw [upd_ne (ne_of_none ec hf)]
    exact ec
end
end Dx

/-! Dx12: dict(pairs), list(dict), min and max of two. -/
namespace Dx
open PySem PySem.Spec L2
variable {G : Gx} {X : Cx} {W : WX}
def mergeDg {κ : Type} [DecidableEq κ] (kvs : List (κ × D)) : List (κ × D) := kvs.foldl (fun acc kv => putD acc kv.1 kv.2) []
theorem denK_mergeG {κ : Type} [DecidableEq κ] {μ : List Addr} {H : Hp} : ∀ {ps : List (κ × D)} {qs : List (κ × V)} {fs : List (κ × D)} {gs : List (κ × V)}, DenK G μ H ps qs → DenK G μ H fs gs → DenK G μ H (ps.foldl (fun acc kv => putD acc kv.1 kv.2) fs) (qs.foldl (fun acc kv => putK acc kv.1 kv.2) gs)
  | [], qs, _, _, h, k => by
    have : qs = [] := List.map_eq_nil_iff.mp h.1
    subst this
    exact k
  | p :: ps, [], _, _, h, k => by have := h.1; simp at this
  | p :: ps, q :: qs, fs, gs, h, k => by
    obtain ⟨h1, h2⟩ := h
    simp only [List.map_cons, List.cons.injEq] at h1
    cases h2 with
    | cons a b =>
      rw [List.foldl_cons, List.foldl_cons]
      refine denK_mergeG (ps := ps) (qs := qs) ⟨h1.2, b⟩ ?_
      rw [h1.1]
      exact denK_put k a
def pairT : D → Option (List Key × D)
  | .tup [.tup ks, v] => (ks.mapM keyD).map fun k => (k, v)
  | _ => none
def pairK : D → Option (Key × D)
  | .tup [k, v] => (keyD k).map fun k => (k, v)
  | _ => none
def cDict : CV := fun ds S => match ds with
  | [d] => match seqOf S d with
    | some xs => match xs.mapM pairT with
      | some ps => newO (.dtt (mergeDg ps)) S
      | none => match xs.mapM pairK with
        | some ps => newO (.dct (mergeDg ps)) S
        | none => .stuck
    | none => .stuck
  | _ => .stuck
theorem pairsT_den {μ : List Addr} {H : Hp} : ∀ {xs : List D} {vs : List V} {ps : List (List Key × D)}, DenA G μ H xs vs → xs.mapM pairT = some ps →
    ∃ qs : List (Addr × Addr × List Key × V), vs = qs.map (fun p => V.ref p.1) ∧ (∀ p ∈ qs, SqT G.K H p.1 [.ref p.2.1, p.2.2.2] ∧ H p.2.1 = some (.tup (p.2.2.1.map kV))) ∧ DenK G μ H ps (qs.map fun p => (p.2.2.1, p.2.2.2))
  | [], _, ps, .nil, e => by simp at e; subst e; exact ⟨[], rfl, fun p hp => by simp at hp, rfl, .nil⟩
  | x :: xs, _, ps, .cons h t, e => by
    rw [List.mapM_cons] at e
    obtain ⟨p, e1, e2⟩ := Option.bind_eq_some_iff.mp e
    obtain ⟨q, e3, e4⟩ := Option.bind_eq_some_iff.mp e2
    cases e4
    obtain ⟨qs, f1, f2, f3⟩ := pairsT_den t e3
    unfold pairT at e1
    split at e1
    · rename_i ks v
      obtain ⟨k, e5, e6⟩ := Option.map_eq_some_iff.mp e1
      subst e6
      cases h with
      | @tup a _ _ h1 h2 =>
        cases h2 with
        | cons d1 d2 =>
          cases d2 with
          | cons d3 d4 =>
            cases d4
            cases d1 with
            | @tup b _ _ g1 g2 =>
              have := keys_den g2 e5
              subst this
              rename_i vv
              refine ⟨(a, b, k, vv) :: qs, by simp [f1], fun p hp => ?_, by simp [f3.1], .cons d3 f3.2⟩
              rcases List.mem_cons.mp hp with rfl | hp
              · exact ⟨SqT.of h1, g1⟩
              · exact f2 p hp
    · cases e1
theorem pairsK_den {μ : List Addr} {H : Hp} : ∀ {xs : List D} {vs : List V} {ps : List (Key × D)}, DenA G μ H xs vs → xs.mapM pairK = some ps →
    ∃ (as : List Addr) (qs : List (Key × V)), vs = as.map V.ref ∧ Paired (fun p kv => SqT G.K H p [kV kv.1, kv.2]) as qs ∧ DenK G μ H ps qs
  | [], _, ps, .nil, e => by simp at e; subst e; exact ⟨[], [], rfl, .nil, rfl, .nil⟩
  | x :: xs, _, ps, .cons h t, e => by
    rw [List.mapM_cons] at e
    obtain ⟨p, e1, e2⟩ := Option.bind_eq_some_iff.mp e
    obtain ⟨q, e3, e4⟩ := Option.bind_eq_some_iff.mp e2
    cases e4
    obtain ⟨as, qs, f1, f2, f3⟩ := pairsK_den t e3
    unfold pairK at e1
    split at e1
    · rename_i kd v
      obtain ⟨k, e5, e6⟩ := Option.map_eq_some_iff.mp e1
      subst e6
      cases h with
      | @tup a _ _ h1 h2 =>
        cases h2 with
        | cons d1 d2 =>
          cases d2 with
          | cons d3 d4 =>
            cases d4
            have := key_den d1 e5
            subst this
            rename_i vv
            exact ⟨a :: as, (k, vv) :: qs, by simp [f1], .cons (SqT.of h1) f2, by simp [f3.1], .cons d3 f3.2⟩
    · cases e1
theorem post_dtt (g : G.Ok) {μ : List Addr} {H : Hp} {σ : L2.St} {S : Sg} {kvs : List (List Key × D)} {gs : List (List Key × V)} {Q : VK} (rp : Rep G μ S H) (d : DenK G μ H kvs gs) (h : Post (Den G) G W μ H σ (newO (.dtt kvs) S) Q) {p : Addr} (hp : H p = none) : Q (.ref p) (upd H p (.dT gs)) := by
  refine h (μ ++ [p]) _ _ (per_push g hp) (rp.push g hp ⟨gs, upd_same, d.per (per_push g hp)⟩) (.ref ?_)
  rw [← rp.len, List.getElem?_append_right (Nat.le_refl _), Nat.sub_self]
  rfl
theorem post_dct (g : G.Ok) {μ : List Addr} {H : Hp} {σ : L2.St} {S : Sg} {kvs : List (Key × D)} {gs : List (Key × V)} {Q : VK} (rp : Rep G μ S H) (d : DenK G μ H kvs gs) (h : Post (Den G) G W μ H σ (newO (.dct kvs) S) Q) {p : Addr} (hp : H p = none) : Q (.ref p) (upd H p (.dK gs)) := by
  refine h (μ ++ [p]) _ _ (per_push g hp) (rp.push g hp ⟨gs, upd_same, d.per (per_push g hp)⟩) (.ref ?_)
  rw [← rp.len, List.getElem?_append_right (Nat.le_refl _), Nat.sub_self]
  rfl
abbrev rDictP (K : PySem.W.Frag) : List V → Hp → VK → Prop := fun xs H Q => ∃ (a : Addr) (ps : List Addr) (kvs : List (Key × V)), xs = [.ref a] ∧ SqL K H a (ps.map V.ref) ∧ Paired (fun p kv => SqT K H p [kV kv.1, kv.2]) ps kvs ∧ ∀ p, H p = none → Q (.ref p) (upd H p (.dK (mergeK [] kvs)))
theorem mergeK_fold (kvs : List (Key × V)) : mergeK [] kvs = kvs.foldl (fun acc kv => putK acc kv.1 kv.2) [] := rfl
theorem cv_dict (g : G.Ok) : CallV G W (fun xs H Q => rDictT G.K xs H Q ∨ rDictP G.K xs H Q) cDict := by
  intro μ S H xs ds σ Q rp dd po
  unfold cDict at po
  split at po
  · cases dd with
    | cons d1 t =>
      cases t
      split at po
      · rename_i ys e
        obtain ⟨a, vs, rfl, h1, h2⟩ := seq_den rp d1 e
        split at po
        · rename_i ps ep
          obtain ⟨qs, f1, f2, f3⟩ := pairsT_den h2 ep
          subst f1
          exact .inl ⟨a, qs, rfl, h1, f2, fun p hp => post_dtt g rp (denK_mergeG f3 ⟨rfl, .nil⟩) po hp⟩
        · split at po
          · rename_i ps ep
            obtain ⟨as, qs, f1, f2, f3⟩ := pairsK_den h2 ep
            subst f1
            exact .inr ⟨a, as, qs, rfl, h1, f2, fun p hp => post_dct g rp (denK_mergeG f3 ⟨rfl, .nil⟩) po hp⟩
          · exact po.elim
      · exact po.elim
  · exact po.elim
theorem de_dict1 {e : Expr} {p pos : Pos} {g : FA} (A : Amb G X W) (hc : X.calm = true) (hm : X.mg "dict" = none) (ha : PA X [e] (TDA G W g)) (hg : Gl X "dict" := by rfl) (he : starEach [e] X.env = (false, eval e X.env) :: starEach [] X.env := by rfl) (hpl : (backTo pos (starEach [] X.env)).any (·.1) = false := by rfl) : PE X (.Call (.Name "dict" p) [e] [] pos) (TD G W (xB cDict g)) :=
  de_callTy (r := fun xs H Q => rDictT G.K xs H Q ∨ rDictP G.K xs H Q) (by have := (call_dictT (X := X) hc A.hu).or (call_dictP hc); rw [A.hK] at this; exact this) (cv_dict A.ok) hm PyProof.Rows.boot_dict ha hg (by decide) (by decide) he hpl
/-! ### list(d) -/
def ofKey : Key → D
  | .inl i => .int i
  | .inr s => .str (String.ofList (s.cps.toList.map Char.ofNat))
def keyOk : Key → Bool
  | .inl _ => true
  | .inr s => decide (Str.ofString (String.ofList (s.cps.toList.map Char.ofNat)) = s)
theorem ofKey_den {μ : List Addr} {H : Hp} {k : Key} (h : keyOk k = true) : Den G μ H (ofKey k) (kV k) := by
  cases k with
  | inl i => exact .int i
  | inr s =>
    have e : Str.ofString (String.ofList (s.cps.toList.map Char.ofNat)) = s := of_decide_eq_true h
    show Den G μ H (.str _) (.str s)
    have := Den.str (G := G) (μ := μ) (H := H) (String.ofList (s.cps.toList.map Char.ofNat))
    rw [e] at this
    exact this
theorem ofKeys_den {μ : List Addr} {H : Hp} : ∀ {ks : List Key}, ks.all keyOk = true → DenA G μ H (ks.map ofKey) (ks.map kV)
  | [], _ => .nil
  | k :: ks, h => by
    rw [List.all_cons, Bool.and_eq_true] at h
    exact .cons (ofKey_den h.1) (ofKeys_den h.2)
def cListD : CV := fun ds S => match ds with
  | [d] => match itemsD S d with
    | some xs => newO (.lst xs) S
    | none => match d with
      | .ref n => match S[n]? with
        | some (.dtt kvs) => if (kvs.all fun kv => kv.1.all keyOk) = true then newO (.lst (kvs.map fun kv => .tup (kv.1.map ofKey))) S else .stuck
        | some (.dct kvs) => if (kvs.all fun kv => keyOk kv.1) = true then newO (.lst (kvs.map fun kv => ofKey kv.1)) S else .stuck
        | _ => .stuck
      | _ => .stuck
  | _ => .stuck
abbrev rListAny (K : PySem.W.Frag) : List V → Hp → VK → Prop := fun xs H Q => (∃ p ys, xs = [.ref p] ∧ (SqL K H p ys ∨ SqT K H p ys) ∧ ∀ l, H l = none → Q (.ref l) (upd H l (.lst ys))) ∨
  (∃ d kvs, xs = [V.ref d] ∧ Rd H d (.dT kvs) ∧ ∀ p bs, H p = none → IsKeys H kvs bs → Q (.ref p) (upd H p (.lst (bs.map V.ref)))) ∨ rListD xs H Q
theorem keysT_den {μ : List Addr} {H : Hp} : ∀ {gs : List (List Key × V)} {bs : List Addr} {kvs : List (List Key × D)}, gs.map (·.1) = kvs.map (·.1) → (kvs.all fun kv => kv.1.all keyOk) = true → IsKeys H gs bs → DenA G μ H (kvs.map fun kv => .tup (kv.1.map ofKey)) (bs.map V.ref)
  | [], _, kvs, e, _, h => by
    have : kvs = [] := List.map_eq_nil_iff.mp e.symm
    subst this
    cases h
    exact .nil
  | g :: gs, bs, [], e, _, h => by simp at e
  | g :: gs, bs, kv :: kvs, e, k, h => by
    cases h with
    | cons h1 h2 =>
      simp only [List.map_cons, List.cons.injEq] at e
      rw [List.all_cons, Bool.and_eq_true] at k
      refine .cons (.tup h1 ?_) (keysT_den e.2 k.2 h2)
      rw [e.1]
      exact ofKeys_den k.1
theorem cv_listD (g : G.Ok) : CallV G W (rListAny G.K) cListD := by
  intro μ S H xs ds σ Q rp dd po
  unfold cListD at po
  split at po
  · cases dd with
    | cons d1 t =>
      cases t
      split at po
      · rename_i ys e
        obtain ⟨a, vs, rfl, h1, h2⟩ := items_den rp d1 e
        exact .inl ⟨a, vs, rfl, h1, fun l hl => post_lst g rp h2 po hl⟩
      · split at po
        · cases d1 with
          | ref hn =>
            split at po
            · rename_i kvs eo
              obtain ⟨c, po⟩ := post_ite po
              obtain ⟨gs, h1, h2, h3⟩ := rp.obj hn eo
              exact .inr (.inl ⟨_, gs, rfl, .inl h1, fun p bs hp ik => post_lst g rp (keysT_den h2 c ik) po hp⟩)
            · rename_i kvs eo
              obtain ⟨c, po⟩ := post_ite po
              obtain ⟨gs, h1, h2, h3⟩ := rp.obj hn eo
              refine .inr (.inr ⟨_, gs, rfl, h1, fun p hp => post_lst g rp ?_ po hp⟩)
              have e1 : gs.map (fun kv => kV kv.1) = (kvs.map (·.1)).map kV := by rw [← h2, List.map_map]; rfl
              have e2 : kvs.map (fun kv => ofKey kv.1) = (kvs.map (·.1)).map ofKey := by rw [List.map_map]; rfl
              rw [e1, e2]
              refine ofKeys_den ?_
              rw [List.all_map]
              exact c
            · exact po.elim
        · exact po.elim
  · exact po.elim
theorem de_listC {e : Expr} {p pos : Pos} {g : FA} (A : Amb G X W) (hc : X.calm = true) (hm : X.mg "list" = none) (ha : PA X [e] (TDA G W g)) (hg : Gl X "list" := by rfl) (he : starEach [e] X.env = (false, eval e X.env) :: starEach [] X.env := by rfl) (hpl : (backTo pos (starEach [] X.env)).any (·.1) = false := by rfl) : PE X (.Call (.Name "list" p) [e] [] pos) (TD G W (xB cListD g)) :=
  de_callTy (r := rListAny G.K) (by have := (call_list_of (X := X)).or ((call_list_dT hc).or (call_list_dK hc)); rw [A.hK] at this; exact this) (cv_listD A.ok) hm PyProof.Rows.boot_list ha hg (by decide) (by decide) he hpl
/-! ### min, max of two ints -/
def cMin2 : CV := fun ds S => match ds with
  | [.int i, .int j] => .ok (.int (if j < i then j else i)) S
  | _ => .stuck
def cMax2 : CV := fun ds S => match ds with
  | [.int i, .int j] => .ok (.int (if j > i then j else i)) S
  | _ => .stuck
theorem cv_min2 : CallV G W (fun xs H Q => ∃ i j, xs = [.int i, .int j] ∧ Q (.int (if j < i then j else i)) H) cMin2 := by
  intro μ S H xs ds σ Q rp dd po
  unfold cMin2 at po
  split at po
  · cases dd with
    | cons a t =>
      cases t with
      | cons b t =>
        cases t
        cases a
        cases b
        exact ⟨_, _, rfl, post_ok rp po (.int _)⟩
  · exact po.elim
theorem cv_max2 : CallV G W (fun xs H Q => ∃ i j, xs = [.int i, .int j] ∧ Q (.int (if j > i then j else i)) H) cMax2 := by
  intro μ S H xs ds σ Q rp dd po
  unfold cMax2 at po
  split at po
  · cases dd with
    | cons a t =>
      cases t with
      | cons b t =>
        cases t
        cases a
        cases b
        exact ⟨_, _, rfl, post_ok rp po (.int _)⟩
  · exact po.elim
theorem de_min2 {e e2 : Expr} {p pos : Pos} {g : FA} (A : Amb G X W) (hc : X.calm = true) (hm : X.mg "min" = none) (ha : PA X [e, e2] (TDA G W g)) (hg : Gl X "min" := by rfl) (he : starEach [e, e2] X.env = (false, eval e X.env) :: starEach [e2] X.env := by rfl) (hpl : (backTo pos (starEach [e2] X.env)).any (·.1) = false := by rfl) : PE X (.Call (.Name "min" p) [e, e2] [] pos) (TD G W (xB cMin2 g)) :=
  de_callB (call_min2 hc) cv_min2 hm PyProof.Rows.boot_min ha hg (by decide) (by decide) he hpl
theorem de_max2 {e e2 : Expr} {p pos : Pos} {g : FA} (A : Amb G X W) (hc : X.calm = true) (hm : X.mg "max" = none) (ha : PA X [e, e2] (TDA G W g)) (hg : Gl X "max" := by rfl) (he : starEach [e, e2] X.env = (false, eval e X.env) :: starEach [e2] X.env := by rfl) (hpl : (backTo pos (starEach [e2] X.env)).any (·.1) = false := by rfl) : PE X (.Call (.Name "max" p) [e, e2] [] pos) (TD G W (xB cMax2 g)) :=
  de_callB (call_max2 hc) cv_max2 hm PyProof.Rows.boot_max ha hg (by decide) (by decide) he hpl
end Dx

/-! Dx13: own classes: made, methods; what the top has written; the law's end. -/
namespace Dx
open PySem PySem.Spec L2
variable {G : Gx} {X : Cx} {W : WX}
/-! ### made -/
theorem run_makeS {CX : CXT} {k : Nat} {f C : Addr} {fd : FuncData} {ps : List Str} {sp : Sp} {E : XK} {pins : List (Addr × Obj)} {σ : L2.St} {H : Hp} {s : Shared} {Q : VK} {us : List Value} {vs : List V} (M : Mk X.K C f) (F : FnOk X.prog X.w X.K X.mg X.base CX k f fd ps sp) (hr : Room (k + 1) X.A) (hb : Binds X.K fd ps [])
    (hx : PassesAt CX X σ E) (I : Inv X pins σ H s) (r : Vals vs us)
    (h : ∀ x dx, H x = none → H dx = none → dx ≠ x → sp (.ref x :: vs) (upd (upd H dx (.own x)) x (.ins C dx [])) (fun v H2 => v = .non ∧ Q (.ref x) H2) E) :
    wpAny (model X.prog X.w) X.A (call (.ref C) us) (EP X pins σ Q) X.xe s := by
  have hq := h (s.heap.objs.size + 1) s.heap.objs.size (I.hok.fresh (Nat.le_succ _)) (I.hok.fresh (Nat.le_refl _)) (Nat.ne_of_lt (Nat.lt_succ_self _))
  have I2 := Inv.made (C := C) I
  have r2 : Vals (V.ref (s.heap.objs.size + 1) :: vs) (Value.ref (s.heap.objs.size + 1) :: us) := .cons rfl r
  have hl : (Value.ref (s.heap.objs.size + 1) :: us).length = ps.length := by
    have e := r2.length
    rw [F.len _ _ _ _ hq] at e
    exact e.symm
  have b := hb ⟨(s.heap.push PySem.W.emptyDict).push (PySem.W.instObj C s.heap.objs.size), s.gens, s.drawn, s.toks, s.os⟩ (Value.ref (s.heap.objs.size + 1) :: us) I2.kIn (by rw [List.append_nil]; exact hl)
  rw [List.append_nil] at b
  refine wpAny_call (make_map (f := f) I.kIn M.makes M.init (beq_iff_eq.mp M.fn) (codeAny_mono (F.run _ X.stack _ _ ⟨Value.ref (s.heap.objs.size + 1) :: us, []⟩ (Value.ref (s.heap.objs.size + 1) :: us) _ _ E (hr.make C us [])
    (I2.env0.make C us []) b r2 hq) fun r s' hq' => ?_))
  cases r with
  | error e => exact hx pins _ _ e s' I2 hq'
  | ok fl =>
    cases fl with
    | ret u =>
      obtain ⟨v, H', I3, rv, ev, q3⟩ := I2.after hq'
      subst ev
      exact ⟨rv, ⟨V.ref (s.heap.objs.size + 1), H', I3, rfl, q3⟩⟩
    | next => exact False.elim hq'
    | brk => exact False.elim hq'
    | cont => exact False.elim hq'
def tMakeS (C : Addr) (sp : Sp) (E : L2.St → XK) (t : TA) : TE := fun σ H Q => t σ H fun vs H1 => ∀ x dx, H1 x = none → H1 dx = none → dx ≠ x →
  sp (.ref x :: vs) (upd (upd H1 dx (.own x)) x (.ins C dx [])) (fun v H2 => v = .non ∧ Q (.ref x) H2) (E σ)
theorem pe_makeS {CX : CXT} {k : Nat} {f C : Addr} {fd : FuncData} {ps : List Str} {sp : Sp} {E : L2.St → XK} {x : Str} {p pos : Pos} {e : Expr} {es : List Expr} {t : TA} (M : Mk X.K C f) (F : FnOk X.prog X.w X.K X.mg X.base CX k f fd ps sp) (hr : Room (k + 1) X.A) (hg : Gl X x) (hm : X.mg x = some (.ref C)) (hb : Binds X.K fd ps []) (hx : ∀ σ, PassesAt CX X σ (E σ))
    (ha : PA X (e :: es) t) (hdb : (x == ("__debug__" : Str)) = false := by decide) (he : starEach (e :: es) X.env = (false, eval e X.env) :: starEach es X.env := by rfl) (hpl : (backTo pos (starEach es X.env)).any (·.1) = false := by rfl) :
    PE X (.Call (.Name x p) (e :: es) [] pos) (tMakeS C sp E t) := by
  refine ⟨fun pins s σ H Q I h => ?_⟩
  refine wpAny_Call_Name_kw (ld_glob I hg hm ?_ hdb)
  refine PySem.W.callWith_K (h₀ := X.base) I.ok.mod.kin M.kp (thn (ha.run pos pins s σ H _ I h) fun us s1 ⟨vs, H1, I1, r, q⟩ => ⟨I1.kIn, ?_⟩) he hpl
  exact run_makeS M F hr hb (hx σ) I1 r q
structure MakD (P : Program) (w : World) (K : PySem.W.Frag) (mg : Str → Option Value) (base : Heap) (G : Gx) (k : Nat) (x : Str) (c n : Nat) (F : FF) : Prop where
  ex : ∃ f fd ps, FnOk P w K mg base (L2.CX P w) k f fd ps (spD G (n + 1) F) ∧ mg x = some (.ref (G.cls c)) ∧ Mk K (G.cls c) f ∧ Binds K fd ps []
def xMake (c n : Nat) (F : FF) (g : FA) : FE := fun ρ S => (g ρ S).bind fun ds S1 => if ds.length = n then
  (match F (.ref S1.length :: ds) (S1 ++ [.obj c []]) with
  | .ok .non S2 => .ok (.ref S1.length) S2
  | .exc c fs S2 => .exc c fs S2
  | _ => .stuck) else .stuck
theorem de_make {x : Str} {p pos : Pos} {e : Expr} {es : List Expr} {g : FA} {F : FF} {k j n c : Nat} (A : Amb G X W) (d : MakD X.prog X.w X.K X.mg X.base G j x c n F) (hr : Room k X.A) (hk : j + 1 ≤ k) (ha : PA X (e :: es) (TDA G W g)) (hg : Gl X x := by rfl)
    (hdb : (x == ("__debug__" : Str)) = false := by decide) (he : starEach (e :: es) X.env = (false, eval e X.env) :: starEach es X.env := by rfl) (hpl : (backTo pos (starEach es X.env)).any (·.1) = false := by rfl) :
    PE X (.Call (.Name x p) (e :: es) [] pos) (TD G W (xMake c n F g)) := by
  obtain ⟨f, fd, ps, Fo, hm, M, hb⟩ := d.ex
  refine PE.imp (pe_makeS M Fo (hr.mono hk) hg hm hb (fun σ => passAt A.tk σ) ha hdb he hpl) fun σ H Q ⟨μ, ρ, S, en, rp, po⟩ => ⟨μ, ρ, S, en, rp, (post_bind po).mono fun vs H1 ⟨μ1, ds, S1, pe, rp1, dd, p1⟩ => ?_⟩
  obtain ⟨c1, p2⟩ := post_ite p1
  intro a dx hx hdx hne
  have p01 : Per G μ1 H1 μ1 (upd H1 dx (.own a)) := per_new A.ok hdx
  have rp2 := rp1.new A.ok (u := .own a) hdx
  have hx2 : upd H1 dx (.own a) a = none := by rw [upd_ne (Ne.symm hne)]; exact hx
  have p02 : Per G μ1 (upd H1 dx (.own a)) (μ1 ++ [a]) (upd (upd H1 dx (.own a)) a (.ins (G.cls c) dx [])) := per_push A.ok hx2
  have rp3 : Rep G (μ1 ++ [a]) (S1 ++ [.obj c []]) (upd (upd H1 dx (.own a)) a (.ins (G.cls c) dx [])) := rp2.push A.ok hx2 ⟨dx, [], upd_same, rfl, .nil⟩
  have per := p01.trans p02
  have hn : (μ1 ++ [a])[S1.length]? = some a := by
    rw [← rp1.len, List.getElem?_append_right (Nat.le_refl _), Nat.sub_self]
    rfl
  refine ⟨by show vs.length + 1 = n + 1; rw [← dd.length, c1], μ1 ++ [a], S1 ++ [.obj c []], .ref S1.length :: ds, rp3, .cons (.ref hn) (dd.per per), ?_⟩
  have p3 := Post.per p2 per
  revert p3
  generalize F (.ref S1.length :: ds) (S1 ++ [.obj c []]) = r
  intro p3
  cases r with
  | exc c fs S' => exact p3
  | stuck => exact p3
  | ok dd' S' =>
    cases dd' with
    | non =>
      intro μ' H' b pe' rp' db
      cases db
      exact ⟨rfl, p3 _ _ _ pe' rp' (.ref (pe'.ext _ _ hn))⟩
    | _ => exact p3.elim
/-! ### methods -/
def tMethS' (C : Addr) (m : Str) (sp : Sp) (E : L2.St → XK) (ta : TE) (t : TA) : TE := fun σ H Q => ta σ H fun x H1 => ∃ a dx fs, x = .ref a ∧ H1 a = some (.ins C dx fs) ∧ fs.lookup m = none ∧
  t σ H1 fun vs H2 => sp (x :: vs) H2 Q (E σ)
theorem pe_methS' {CX : CXT} {k : Nat} {f C : Addr} {fd : FuncData} {ps : List Str} {sp : Sp} {E : L2.St → XK} {m : Str} {pos apos : Pos} {o e : Expr} {es : List Expr} {ta : TE} {t : TA} {pl : Sem Bool} (he : PE X o ta) (c : Cls X.K C) (hm : Meth X.K C m f) (F : FnOk X.prog X.w X.K X.mg X.base CX k f fd ps sp) (hr : Room k X.A) (hb : Binds X.K fd ps []) (hx : ∀ σ, PassesAt CX X σ (E σ)) (ha : PA X (e :: es) t)
    (hst : starEach (e :: es) X.env = (false, eval e X.env) :: starEach es X.env := by rfl) (hpl : (backTo pos (starEach es X.env)).any (·.1) = false := by rfl)
    (ht : eval (.Call (.Attribute o m apos) (e :: es) [] pos) X.env = (do
      let ov ← eval o X.env
      standAt apos.atName
      let (f, first) ← holding [ov] (getMethod ov m pl)
      callWith pos f first (backTo pos (starEach (e :: es) X.env)) (backToKw pos (keywordEach [] X.env))) := by rfl) :
    PE X (.Call (.Attribute o m apos) (e :: es) [] pos) (tMethS' C m sp E ta t) := by
  refine ⟨fun pins s σ H Q I h => ?_⟩
  refine PySem.W.methodCall_KW (pl := pl) (thn (he.run pins s σ H _ I h) fun u s1 ⟨x, H1, I1, rx, a, dx, fs, ex, ea, l, q⟩ => ?_) ht
  subst ex
  obtain rfl : u = Value.ref a := rx
  refine getmeth_ok I1 ea c hm l ?_
  refine PySem.W.callWith_K (first := [.ref a]) (h₀ := X.base) I.ok.mod.kin hm.kp (thn (ha.run pos pins s1 σ H1 _ I1 q) fun us s2 ⟨vs, H2, I2, r, q2⟩ => ⟨I2.kIn, ?_⟩) hst hpl
  exact run_fnS (us := .ref a :: us) (vs := .ref a :: vs) F hr hb (hx σ) I2 (.cons rfl r) q2
theorem pe_methS0 {CX : CXT} {k : Nat} {f C : Addr} {fd : FuncData} {ps : List Str} {sp : Sp} {E : L2.St → XK} {m : Str} {pos apos : Pos} {o : Expr} {ta : TE} {pl : Sem Bool} (he : PE X o ta) (c : Cls X.K C) (hm : Meth X.K C m f) (F : FnOk X.prog X.w X.K X.mg X.base CX k f fd ps sp) (hr : Room k X.A) (hb : Binds X.K fd ps []) (hx : ∀ σ, PassesAt CX X σ (E σ))
    (ht : eval (.Call (.Attribute o m apos) [] [] pos) X.env = (do
      let ov ← eval o X.env
      standAt apos.atName
      let (f, first) ← holding [ov] (getMethod ov m pl)
      callWith pos f first (backTo pos (starEach [] X.env)) (backToKw pos (keywordEach [] X.env))) := by rfl) :
    PE X (.Call (.Attribute o m apos) [] [] pos) (tMethS' C m sp E ta tNil) := by
  refine ⟨fun pins s σ H Q I h => ?_⟩
  refine PySem.W.methodCall_KW (pl := pl) (thn (he.run pins s σ H _ I h) fun u s1 ⟨x, H1, I1, rx, a, dx, fs, ex, ea, l, q⟩ => ?_) ht
  subst ex
  obtain rfl : u = Value.ref a := rx
  refine getmeth_ok I1 ea c hm l ?_
  exact PySem.W.callWith_K0 (first := [.ref a]) I1.kIn hm.kp (run_fnS (us := [.ref a]) (vs := [.ref a]) F hr hb (hx σ) I1 (.cons rfl .nil) q)
structure MetD (P : Program) (w : World) (K : PySem.W.Frag) (mg : Str → Option Value) (base : Heap) (G : Gx) (k c : Nat) (m : Str) (n : Nat) (F : FF) : Prop where
  ex : ∃ f fd ps, FnOk P w K mg base (L2.CX P w) k f fd ps (spD G (n + 1) F) ∧ Meth K (G.cls c) m f ∧ Binds K fd ps []
/-- the instance, none of whose fields has the method's name -/
def insD (S : Sg) (c : Nat) (m : String) : D → Bool
  | .ref n => match S[n]? with
    | some (.obj k fs) => decide (k = c) && fs.all fun p => decide (p.1 ≠ m)
    | _ => false
  | _ => false
theorem denF_none {μ : List Addr} {H : Hp} {m : String} : ∀ {fs : List (String × D)} {gs : List (Str × V)}, gs.map (·.1) = fs.map (fun p => Str.ofString p.1) → (fs.all fun p => decide (p.1 ≠ m)) = true → gs.lookup (Str.ofString m) = none
  | [], gs, e, _ => by
    have : gs = [] := List.map_eq_nil_iff.mp e
    subst this
    rfl
  | p :: fs, [], e, _ => by simp at e
  | p :: fs, g :: gs, e, h => by
    simp only [List.map_cons, List.cons.injEq] at e
    rw [List.all_cons, Bool.and_eq_true] at h
    obtain ⟨g1, g2⟩ := g
    have hne : ¬ Str.ofString m = g1 := fun z => (of_decide_eq_true h.1) (ofS_inj (z.trans e.1).symm)
    have hb : (Str.ofString m == g1) = false := by simpa using hne
    rw [List.lookup_cons, hb]
    exact denF_none (μ := μ) (H := H) e.2 h.2
theorem ins_den {μ : List Addr} {H : Hp} {S : Sg} {c : Nat} {m : String} {d : D} {v : V} (rp : Rep G μ S H) (h : Den G μ H d v) (e : insD S c m d = true) : ∃ a dx fs, v = .ref a ∧ H a = some (.ins (G.cls c) dx fs) ∧ fs.lookup (Str.ofString m) = none := by
  cases h with
  | ref hn =>
    simp only [insD] at e
    split at e
    · rename_i k fs eo
      rw [Bool.and_eq_true] at e
      have ek := of_decide_eq_true e.1
      subst ek
      obtain ⟨dx, gs, h1, h2, h3⟩ := rp.obj hn eo
      exact ⟨_, dx, gs, rfl, h1, denF_none (μ := μ) (H := H) h2 e.2⟩
    · cases e
  | _ => simp [insD] at e
def xMeth (c : Nat) (m : String) (n : Nat) (F : FF) (f : FE) (g : FA) : FE := fun ρ S => (f ρ S).bind fun o S1 => if insD S1 c m o = true then
  (g ρ S1).bind fun ds S2 => if ds.length = n then F (o :: ds) S2 else .stuck else .stuck
theorem meth_read {c n : Nat} {m : String} {F : FF} {f : FE} {g : FA} {σ : L2.St} {H : Hp} {Q : VK} (q : TD G W (xMeth c m n F f g) σ H Q) : tMethS' (G.cls c) (Str.ofString m) (spD G (n + 1) F) (WE W) (TD G W f) (TDA G W g) σ H Q := by
  obtain ⟨μ, ρ, S, en, rp, po⟩ := q
  refine ⟨μ, ρ, S, en, rp, (post_bind po).mono fun x H1 ⟨μ1, o, S1, pe, rp1, dd, p1⟩ => ?_⟩
  obtain ⟨c1, p2⟩ := post_ite p1
  obtain ⟨a, dx, fs, rfl, h1, h2⟩ := ins_den rp1 dd c1
  refine ⟨a, dx, fs, rfl, h1, h2, μ1, ρ, S1, en.per pe, rp1, (post_bind p2).mono fun vs H2 ⟨μ2, ds, S2, pe2, rp2, dv, p3⟩ => ?_⟩
  obtain ⟨c2, p4⟩ := post_ite p3
  refine ⟨by show vs.length + 1 = n + 1; rw [← dv.length, c2], μ2, S2, o :: ds, rp2, .cons (dd.per pe2) dv, ?_⟩
  revert p4
  generalize F (o :: ds) S2 = r
  intro p4
  cases r with
  | ok a S' => exact p4
  | exc c fs S' => exact p4
  | stuck => exact p4
theorem de_meth {m : String} {pos apos : Pos} {o e : Expr} {es : List Expr} {f : FE} {g : FA} {F : FF} {k j n c : Nat} (A : Amb G X W) (cl : Cls X.K (G.cls c)) (d : MetD X.prog X.w X.K X.mg X.base G j c (Str.ofString m) n F) (hr : Room k X.A) (hk : j ≤ k) (ho : PE X o (TD G W f)) (ha : PA X (e :: es) (TDA G W g)) (pl : Sem Bool)
    (hst : starEach (e :: es) X.env = (false, eval e X.env) :: starEach es X.env := by rfl) (hpl : (backTo pos (starEach es X.env)).any (·.1) = false := by rfl)
    (ht : eval (.Call (.Attribute o (Str.ofString m) apos) (e :: es) [] pos) X.env = (do
      let ov ← eval o X.env
      standAt apos.atName
      let (f, first) ← holding [ov] (getMethod ov (Str.ofString m) pl)
      callWith pos f first (backTo pos (starEach (e :: es) X.env)) (backToKw pos (keywordEach [] X.env))) := by rfl) :
    PE X (.Call (.Attribute o (Str.ofString m) apos) (e :: es) [] pos) (TD G W (xMeth c m n F f g)) := by
  obtain ⟨fa, fd, ps, Fo, hm, hb⟩ := d.ex
  exact PE.imp (pe_methS' (pl := pl) ho cl hm Fo (hr.mono hk) hb (fun σ => passAt A.tk σ) ha hst hpl ht) fun σ H Q q => meth_read q
theorem de_meth0 {m : String} {pos apos : Pos} {o : Expr} {f : FE} {F : FF} {k j c : Nat} (A : Amb G X W) (cl : Cls X.K (G.cls c)) (d : MetD X.prog X.w X.K X.mg X.base G j c (Str.ofString m) 0 F) (hr : Room k X.A) (hk : j ≤ k) (ho : PE X o (TD G W f)) (pl : Sem Bool)
    (ht : eval (.Call (.Attribute o (Str.ofString m) apos) [] [] pos) X.env = (do
      let ov ← eval o X.env
      standAt apos.atName
      let (f, first) ← holding [ov] (getMethod ov (Str.ofString m) pl)
      callWith pos f first (backTo pos (starEach [] X.env)) (backToKw pos (keywordEach [] X.env))) := by rfl) :
    PE X (.Call (.Attribute o (Str.ofString m) apos) [] [] pos) (TD G W (xMeth c m 0 F f aNil)) := by
  obtain ⟨fa, fd, ps, Fo, hm, hb⟩ := d.ex
  refine PE.imp (pe_methS0 (pl := pl) ho cl hm Fo (hr.mono hk) hb (fun σ => passAt A.tk σ) ht) fun σ H Q q => ?_
  obtain ⟨μ, ρ, S, en, rp, po⟩ := meth_read q
  exact ⟨μ, ρ, S, en, rp, po.mono fun x H1 ⟨a, dx, fs, e1, e2, e3, q2⟩ => ⟨a, dx, fs, e1, e2, e3, by
    obtain ⟨μ2, ρ2, S2, en2, rp2, p2⟩ := q2
    exact p2 _ _ _ .refl rp2 .nil⟩⟩
/-! ### what the top has written -/
theorem funAt_of {K : PySem.W.Frag} {h : Heap} {mg : Str → Option Value} {x : Str} {st : Stmt} {ps : List Str} {f : Addr} {oc : Value} {od an : Option Addr} {osl : Array (Option Value)} {kV doc pm cdv ct : Value} (X : K.In h) (Gn : h.Ns mainGlobals mg)
    (a : PySem.W.nsIn K mainGlobals x = some (some (.ref f))) (l : K.lookup f = some ⟨oc, od, .func (PySem.W.fnOf x x (defArgs st) (defBody st) (defScope st) .none kV doc pm an cdv ct), osl⟩) (c : PySem.W.codeIn K cdv x = true) (k : PySem.W.keepIn K (.ref f) = true)
    (hb : ∀ (kV doc pm : Value) (an : Option Addr) (cdv ct : Value) (us : List Value), us.length = ps.length → bindArgs (PySem.W.fnOf x x (defArgs st) (defBody st) (defScope st) .none kV doc pm an cdv ct) ⟨us, []⟩ = pure (ps.zip us)) : FunAt K mg x st ps :=
  ⟨f, _, fun_mk l c k, PySem.W.mg_of X Gn a, (fun_mk l c k).binds hb⟩
structure FunOf (K : PySem.W.Frag) (C : Addr) (m qual : Str) (st : Stmt) (ps : List Str) : Prop where
  ex : ∃ f fd, Fun K m qual st f fd ∧ PySem.W.findIn K (.ref C) m = some (some (.ref f)) ∧ PySem.W.isFn K (.ref f) = true ∧ PySem.W.keepIn K (.ref f) = true ∧ Binds K fd ps []
theorem funOf_of {K : PySem.W.Frag} {C : Addr} {y x qual : Str} {st : Stmt} {ps : List Str} {f : Addr} {oc : Value} {od an : Option Addr} {osl : Array (Option Value)} {kV doc pm cdv ct : Value}
    (aC : PySem.W.nsIn K mainGlobals y = some (some (.ref C))) (a : PySem.W.findIn K (.ref C) x = some (some (.ref f))) (i : PySem.W.isFn K (.ref f) = true) (l : K.lookup f = some ⟨oc, od, .func (PySem.W.fnOf x qual (defArgs st) (defBody st) (defScope st) .none kV doc pm an cdv ct), osl⟩) (c : PySem.W.codeIn K cdv qual = true) (k : PySem.W.keepIn K (.ref f) = true)
    (hb : ∀ (kV doc pm : Value) (an : Option Addr) (cdv ct : Value) (us : List Value), us.length = ps.length → bindArgs (PySem.W.fnOf x qual (defArgs st) (defBody st) (defScope st) .none kV doc pm an cdv ct) ⟨us, []⟩ = pure (ps.zip us)) : FunOf K C x qual st ps :=
  ⟨f, _, fun_mk l c k, a, i, k, (fun_mk l c k).binds hb⟩
/-! ### the law's end -/
def baseClo (i : Ci) (a : Addr) (H : Hp) : Prop := i.n = 0 ∧ ∃ gs, H a = some (.xd gs) ∧ gs.map (·.1) = i.ks ∧ gs.map (·.2) = i.vs
def mkG (K : PySem.W.Frag) (w : World) (cs : List Addr) : Gx := ⟨K, w, fun i => cs.getD i 0, baseClo, []⟩
theorem mkG_ok (K : PySem.W.Frag) (w : World) (cs : List Addr) : (mkG K w cs).Ok := by
  refine ⟨fun n a H p o hp ⟨h1, gs, h2, h3⟩ => ⟨h1, gs, ?_, h3⟩, fun ks vs d H => ⟨fun ⟨_, h⟩ => h, fun h => ⟨rfl, h⟩⟩, fun n a H p o o' hp m ne ⟨h1, gs, h2, h3⟩ => ⟨h1, gs, ?_, h3⟩⟩
  · rw [upd_ne (ne_of_none h2 hp)]; exact h2
  · rw [upd_ne fun z => ?_]
    · exact h2
    · rw [z, hp] at h2
      cases h2
      exact m
def spLawD (n : Nat) (K : PySem.W.Frag) : Sp := fun vs H Q E => ∃ (a : Addr) (ns : List Int), vs = [.ref a] ∧ ns.length ≤ n ∧ Only H ∧ SqL K H a (ns.map V.int) ∧ ∀ H', Q (.bl true) H'
theorem law_imp {n : Nat} {F : FF} (hT : ∀ H, NdefX.TabsN G.T H) (hl : ∀ ns : List Int, ns.length ≤ n → ∃ S, F [.slist ns] [] = .ok (.bl true) S) {vs : List V} {H : Hp} {Q : VK} {E : XK} (h : spLawD n G.K vs H Q E) : spD G 1 F vs H Q E := by
  obtain ⟨a, ns, rfl, hn, ho, hs, q⟩ := h
  refine ⟨rfl, [], [], [.slist ns], ⟨rfl, fun i j a z => by simp at z, fun n o a z => by simp at z, hT _⟩, .cons (.slist ?_) .nil, ?_⟩
  · rcases hs with (h | h) | h
    · rcases ho a with e | ⟨o, xs, e⟩
      · rw [h] at e; cases e
      · rw [h] at e; cases e
    · exact .inl h
    · exact .inr fun H' => .inr h
  · obtain ⟨S, e⟩ := hl ns hn
    rw [e]
    intro μ' H' b p r d
    cases d
    exact q H'
theorem law_fn {P : Program} {w : World} {K : PySem.W.Frag} {mg : Str → Option Value} {base : Heap} {k n : Nat} {F : FF} {f : Addr} {fd : FuncData} (hK : G.K = K) (hT : ∀ H, NdefX.TabsN G.T H) (hl : ∀ ns : List Int, ns.length ≤ n → ∃ S, F [.slist ns] [] = .ok (.bl true) S)
    (o : FnOk P w K mg base (L2.CX P w) k f fd ["script"] (spD G 1 F)) : FnOk P w K mg base (L2.CX P w) k f fd ["script"] (spLawD n K) := o.imp fun vs H Q E h => law_imp (G := G) hT hl (by rw [hK]; exact h)
theorem walkD {l : PySem.W.OpenLaw} {q : Program} {loose : List Str} {XP : (Str → Option Value) → Heap → Prop} {YP : World → Heap → Prop} {d : DefRec} {K : Params → PySem.W.Frag} (k : Nat) (hk : Room k callerA) (hn : l.most = some 63) (hdf : d.params.defaults = [])
    (hY : ∀ (w : World) (h : Heap), YP w h → (K w.params).In h)
    (F : ∀ (w : World) (mg : Str → Option Value) (fa : Addr) (h : Heap), (K w.params).In h → h.Ns mainGlobals mg → mg d.name = some (.ref fa) →
      ∃ fd : FuncData, (∀ (s : Shared) (u : Value), BindsTo s fd ⟨[u], []⟩ [("script", u)]) ∧ ∀ base : Heap, (K w.params).In base → base.Ns mainGlobals mg → FnOk l.prog w (K w.params) mg base (L2.CX l.prog w) k fa fd ["script"] (spLawD 63 (K w.params))) :
    PySem.W.WalkO q loose XP YP l.row.toRowW d [] (fun f vs => PySem.call f vs) :=
  L2.walk_of (n := 63) (k := k) (x := "script") (CX := fun w => L2.CX l.prog w) (sp := fun w => spLawD 63 (K w.params)) hn (by decide) hdf hk hY F (fun _ _ a ns hl ho hS => ⟨a, ns, rfl, hl, ho, hS, fun _ => rfl⟩) fun _ _ _ _ _ ⟨_, _, _, _, _, _, _, _, _, _, _, _, z⟩ => z
end Dx

/-! Dx14: what is written at the top. -/
namespace Dx
open PySem PySem.Spec L2
def KDen (G : Gx) (d : D) (u : Value) : Prop := ∃ v, RelV v u ∧ ∀ μ H, Den G μ H d v
def KDenA (G : Gx) (ds : List D) (us : List Value) : Prop := ∃ vs, Vals vs us ∧ ∀ μ H, DenA G μ H ds vs
section
variable {G : Gx}
theorem kden_int {i : Int} {t : Tok} : KDen G (.int i) (.int i t) := ⟨.int i, ⟨t, rfl⟩, fun _ _ => .int i⟩
theorem kden_str {s : String} {t : Tok} : KDen G (.str s) (.str (Str.ofString s) t) := ⟨.str (Str.ofString s), ⟨t, rfl⟩, fun _ _ => .str s⟩
theorem kden_non : KDen G .non .none := ⟨.non, rfl, fun _ _ => .non⟩
theorem kden_bl {b : Bool} : KDen G (.bl b) (.bool b) := ⟨.bl b, rfl, fun _ _ => .bl b⟩
theorem kdena_nil : KDenA G [] [] := ⟨[], .nil, fun _ _ => .nil⟩
theorem kdena_cons {d : D} {ds : List D} {u : Value} {us : List Value} (h : KDen G d u) (t : KDenA G ds us) : KDenA G (d :: ds) (u :: us) := by
  obtain ⟨v, r, k⟩ := h
  obtain ⟨vs, rs, ks⟩ := t
  exact ⟨v :: vs, .cons r rs, fun μ H => .cons (k μ H) (ks μ H)⟩
theorem kdena_len {ds : List D} {us : List Value} (h : KDenA G ds us) : ds.length = us.length := by
  obtain ⟨vs, r, k⟩ := h
  rw [(k [] (fun _ => none)).length, r.length]
theorem kden_tup {a : Addr} {o : Obj} {its : Array Value} {n : Nat} {ds : List D} {K : PySem.W.Frag} {h0 : Heap} (KX : K.In h0) (hK : K = G.K) (l : K.lookup a = some o) (hc : o.cls = .type "tuple") (hd : o.data = .seq its n) (h : KDenA G ds its.toList) (hz : ds.length ≤ 1000000 := by decide) : KDen G (.ktup ds) (.ref a) := by
  subst hK
  have hl : its.size ≤ 1000000 := by rw [← Array.length_toList, ← kdena_len h]; exact hz
  obtain ⟨vs, r, k⟩ := h
  exact ⟨.ref a, rfl, fun μ H => .ktup (fun H' => .inr ⟨o, its, n, l, hc, hd, by rw [sl_eq]; exact Nat.le_trans hl (by decide), r⟩) (k μ H)⟩
def ent (P : Params) (e : String × Tok × Value) : DictEntry := ⟨PyData.keyHash P (Str.ofString e.1), .str (Str.ofString e.1) e.2.1, e.2.2⟩
theorem ent_lit {P : Params} : ∀ El : List (String × Tok × Value), PySem.W.KeysLit P (El.map (ent P))
  | [] => True.intro
  | e :: El => ⟨⟨_, _, rfl, rfl⟩, ent_lit El⟩
theorem ent_key {P : Params} {e : String × Tok × Value} {z : Str} : (ent P e).key.isStr z = decide (Str.ofString e.1 = z) := by
  by_cases h : Str.ofString e.1 = z
  · subst h; simp [ent, Value.isStr]
  · simp [ent, Value.isStr, h]
theorem ent_find {P : Params} : ∀ {El : List (String × Tok × Value)} {e : String × Tok × Value}, (El.map (·.1)).Nodup → e ∈ El → (El.map (ent P)).find? (·.key.isStr (Str.ofString e.1)) = some (ent P e)
  | [], _, _, h => nomatch h
  | f :: El, e, nd, h => by
    rw [List.map_cons, List.nodup_cons] at nd
    rw [List.map_cons, List.find?_cons, ent_key]
    rcases List.mem_cons.mp h with rfl | h
    · simp
    · have hne : f.1 ≠ e.1 := fun z => nd.1 (by rw [z]; exact List.mem_map_of_mem h)
      have : ¬ Str.ofString f.1 = Str.ofString e.1 := fun z => hne (ofS_inj z)
      simp only [this, decide_false]
      exact ent_find nd.2 h
theorem ent_none {P : Params} {z : Str} : ∀ {El : List (String × Tok × Value)}, (∀ e ∈ El, z ≠ Str.ofString e.1) → (El.map (ent P)).find? (·.key.isStr z) = none ∧ (El.map (ent P)).any (·.refKey) = false
  | [], _ => ⟨rfl, rfl⟩
  | e :: El, h => by
    obtain ⟨a, b⟩ := ent_none (P := P) (El := El) fun f hf => h f (by simp [hf])
    have : ¬ Str.ofString e.1 = z := fun q => h e (by simp) q.symm
    refine ⟨?_, ?_⟩
    · rw [List.map_cons, List.find?_cons, ent_key]
      simp only [this, decide_false]
      exact a
    · rw [List.map_cons, List.any_cons, b]
      rfl
theorem kden_dict {a : Addr} {es : Array DictEntry} {n : Nat} {ks : List String} {ds : List D} {K : PySem.W.Frag} {h0 : Heap} (El : List (String × Tok × Value)) (KX : K.In h0) (hK : K = G.K) (l : K.lookup a = some ⟨.type "dict", none, .dict es n, #[]⟩) (he : es.toList = El.map (ent G.w.params)) (hk : El.map (·.1) = ks) (nd : ks.Nodup) (low : (a == sysModules) = false) (h : KDenA G ds (El.map (·.2.2))) : KDen G (.cdict ks ds) (.ref a) := by
  subst hK
  subst hk
  have lit : PySem.W.KeysLit G.w.params es.toList := by rw [he]; exact ent_lit El
  obtain ⟨vs, r, k⟩ := h
  refine ⟨.ref a, rfl, fun μ H => .cdict ⟨low, fun z hz => ⟨es, n, l, lit, low, ?_⟩⟩ (fun p hp => ?_) (k μ H)⟩
  · obtain ⟨f1, f2⟩ := ent_none (P := G.w.params) (El := El) fun e he' => hz _ (List.mem_map_of_mem he')
    unfold PySem.W.nsIn
    rw [l]
    simp only [he, f1, f2]
    rfl
  · have key : ∀ {El : List (String × Tok × Value)} {vs : List V}, Vals vs (El.map (·.2.2)) → ∀ p ∈ (El.map (·.1)).zip vs, ∃ e ∈ El, e.1 = p.1 ∧ RelV p.2 e.2.2 := by
      intro El
      induction El with
      | nil => intro vs _ p hp; simp at hp
      | cons e El ih =>
        intro vs r p hp
        rw [List.map_cons] at r
        cases r with
        | cons r1 r2 =>
          rw [List.map_cons, List.zip_cons_cons] at hp
          rcases List.mem_cons.mp hp with rfl | hp
          · exact ⟨e, by simp, rfl, r1⟩
          · obtain ⟨f, hf, q1, q2⟩ := ih r2 p hp
            exact ⟨f, by simp [hf], q1, q2⟩
    obtain ⟨e, he', e1, e2⟩ := key r p hp
    refine ⟨es, n, e.2.2, l, lit, ?_, e2⟩
    unfold PySem.W.nsIn
    rw [l]
    simp only [he]
    rw [← e1, ent_find nd he']
    rfl
theorem bltn_of {K : PySem.W.Frag} {h : Heap} {mg : Str → Option Value} {x : Str} (X : K.In h) (Gn : h.Ns mainGlobals mg) (a : PySem.W.nsIn K mainGlobals x = some none) : mg x = none := PySem.W.mg_none_of X Gn a
theorem globD_of {K : PySem.W.Frag} {h : Heap} {mg : Str → Option Value} {x : Str} {d : D} {u : Value} (X : K.In h) (Gn : h.Ns mainGlobals mg) (a : PySem.W.nsIn K mainGlobals x = some (some u)) (k : KDen G d u) : GlobD K mg G x d := by
  obtain ⟨v, r, q⟩ := k
  exact ⟨v, u, PySem.W.mg_of X Gn a, r, q⟩
end
abbrev mkGx {K : PySem.W.Frag} {h : Heap} (_ : K.In h) (w : World) (cs : List Addr) : Gx := mkG K w cs
abbrev cAt {K : PySem.W.Frag} {x : Str} {C : Addr} (_ : PySem.W.nsIn K mainGlobals x = some (some (.ref C))) : Addr := C
theorem cls_at {K : PySem.W.Frag} {h : Heap} {x : Str} {C : Addr} (_ : K.In h) (a : PySem.W.nsIn K mainGlobals x = some (some (.ref C))) : PySem.W.nsIn K mainGlobals x = some (some (.ref C)) := a
section
variable {K : PySem.W.Frag} {h : Heap} {x : Str} {C : Addr}
theorem cl_of (aC : PySem.W.nsIn K mainGlobals x = some (some (.ref C))) (a : PySem.W.plainGet K C Str.empty = true) (b : PySem.W.hasDictIn K C = true) (c : PySem.W.plainOver K C = true) (d : PySem.W.findIn K (.ref C) "__setattr__" = some (some (.builtin "object.__setattr__"))) : Cls K C := ⟨a, b, c, d⟩
theorem na_of {f : Str} (aC : PySem.W.nsIn K mainGlobals x = some (some (.ref C))) (a : PySem.W.findIn K (.ref C) f = some none) : NoAttr K C f := a
theorem hm_of (aC : PySem.W.nsIn K mainGlobals x = some (some (.ref C))) (a : PySem.W.makesIn K C = true) : PySem.W.makesIn K C = true := a
theorem hk_of (aC : PySem.W.nsIn K mainGlobals x = some (some (.ref C))) (a : PySem.W.keepIn K (.ref C) = true) : PySem.W.keepIn K (.ref C) = true := a
end
end Dx

/-! Dx15: equality and membership that compute fast; membership in tuples of any kind. -/
namespace Dx
open PySem PySem.Spec L2
inductive Sh where
  | non | bl (b : Bool) | int (i : Int) | str (s : String) | lst (xs : List D) | tup (xs : List D) | bad
def shD (S : Sg) : D → Sh
  | .non => .non
  | .bl b => .bl b
  | .int i => .int i
  | .str s => .str s
  | .tup xs => .tup xs
  | .ktup xs => .tup xs
  | .clist xs => .lst xs
  | .ref n => match S[n]? with
    | some (.lst xs) => .lst xs
    | _ => .bad
  | _ => .bad
def okD : Nat → Sg → D → Bool
  | 0, S, d => match shD S d with
    | .bad => false
    | .lst _ => false
    | .tup _ => false
    | _ => true
  | n + 1, S, d => match shD S d with
    | .bad => false
    | .lst xs => xs.all (okD n S)
    | .tup xs => xs.all (okD n S)
    | _ => true
def eqL (f : D → D → Bool) : List D → List D → Bool
  | [], [] => true
  | x :: xs, y :: ys => f x y && eqL f xs ys
  | _, _ => false
def eqFlat : Sh → Sh → Bool
  | .non, .non => true
  | .bl a, .bl b => a == b
  | .bl a, .int j => decide ((if a = true then (1 : Int) else 0) = j)
  | .int i, .bl b => decide (i = (if b = true then (1 : Int) else 0))
  | .int i, .int j => decide (i = j)
  | .str s, .str t => decide (s = t)
  | _, _ => false
def eqB : Nat → Sg → D → D → Bool
  | 0, S, d, e => eqFlat (shD S d) (shD S e)
  | n + 1, S, d, e => match shD S d, shD S e with
    | .lst xs, .lst ys => eqL (eqB n S) xs ys
    | .tup xs, .tup ys => eqL (eqB n S) xs ys
    | a, b => eqFlat a b
section
variable {S : Sg}
/-- a datum by its shape -/
theorem py_shd (n : Nat) (d : D) : pyOf n S d = match n, shD S d with
    | _, .non => some .none
    | _, .bl b => some (.bool b)
    | _, .int i => some (.int i)
    | _, .str s => some (.str (Str.ofString s))
    | n + 1, .lst xs => (xs.mapM (pyOf n S)).map .list
    | n + 1, .tup xs => (xs.mapM (pyOf n S)).map .tuple
    | _, _ => none := by
  cases n with
  | zero =>
    cases d with
    | ref m =>
      simp only [pyOf, shD]
      cases h : S[m]? with
      | none => rfl
      | some o => cases o <;> rfl
    | _ => simp [pyOf, shD]
  | succ n =>
    cases d with
    | ref m =>
      simp only [pyOf, shD]
      cases h : S[m]? with
      | none => rfl
      | some o => cases o <;> rfl
    | _ => simp [pyOf, shD]
theorem mapM_some {f : D → Option PyData} : ∀ {xs : List D}, (∀ x ∈ xs, ∃ p, f x = some p) → ∃ ps, xs.mapM f = some ps
  | [], _ => ⟨[], rfl⟩
  | x :: xs, h => by
    obtain ⟨p, e⟩ := h x (by simp)
    obtain ⟨ps, es⟩ := mapM_some (xs := xs) fun y hy => h y (by simp [hy])
    exact ⟨p :: ps, by rw [List.mapM_cons, e, es]; rfl⟩
theorem ok_py : ∀ (n : Nat) (d : D), okD n S d = true → ∃ p, pyOf n S d = some p
  | 0, d, h => by
    unfold okD at h
    rw [py_shd]
    cases hs : shD S d <;> simp [hs] at h ⊢
  | n + 1, d, h => by
    unfold okD at h
    rw [py_shd]
    cases hs : shD S d with
    | bad => rw [hs] at h; cases h
    | lst xs =>
      rw [hs] at h
      obtain ⟨ps, e⟩ := mapM_some (f := pyOf n S) (xs := xs) fun x hx => ok_py n x (List.all_eq_true.mp h x hx)
      exact ⟨.list ps, by simp [e]⟩
    | tup xs =>
      rw [hs] at h
      obtain ⟨ps, e⟩ := mapM_some (f := pyOf n S) (xs := xs) fun x hx => ok_py n x (List.all_eq_true.mp h x hx)
      exact ⟨.tuple ps, by simp [e]⟩
    | _ => exact ⟨_, rfl⟩
theorem eqL_ok {n : Nat} (ih : ∀ (d e : D) (a b : PyData), pyOf n S d = some a → pyOf n S e = some b → PyData.eqv a b = eqB n S d e) : ∀ (xs ys : List D) (as bs : List PyData), xs.mapM (pyOf n S) = some as → ys.mapM (pyOf n S) = some bs → PyData.eqvAll as bs = eqL (eqB n S) xs ys
  | [], [], as, bs, e1, e2 => by simp at e1 e2; subst e1; subst e2; simp [PyData.eqvAll, eqL]
  | [], y :: ys, as, bs, e1, e2 => by
    rw [List.mapM_cons] at e2
    obtain ⟨p, f1, f2⟩ := Option.bind_eq_some_iff.mp e2
    obtain ⟨q, f3, f4⟩ := Option.bind_eq_some_iff.mp f2
    cases f4
    simp at e1
    subst e1
    simp [PyData.eqvAll, eqL]
  | x :: xs, [], as, bs, e1, e2 => by
    rw [List.mapM_cons] at e1
    obtain ⟨p, f1, f2⟩ := Option.bind_eq_some_iff.mp e1
    obtain ⟨q, f3, f4⟩ := Option.bind_eq_some_iff.mp f2
    cases f4
    simp at e2
    subst e2
    simp [PyData.eqvAll, eqL]
  | x :: xs, y :: ys, as, bs, e1, e2 => by
    rw [List.mapM_cons] at e1 e2
    obtain ⟨p, f1, f2⟩ := Option.bind_eq_some_iff.mp e1
    obtain ⟨q, f3, f4⟩ := Option.bind_eq_some_iff.mp f2
    cases f4
    obtain ⟨p', g1, g2⟩ := Option.bind_eq_some_iff.mp e2
    obtain ⟨q', g3, g4⟩ := Option.bind_eq_some_iff.mp g2
    cases g4
    rw [PyData.eqvAll, ih x y p p' f1 g1, eqL_ok ih xs ys q q' f3 g3]
    rfl
def ShIs (a : PyData) : Sh → Prop
  | .non => a = .none
  | .bl b => a = .bool b
  | .int i => a = .int i
  | .str s => a = .str (Str.ofString s)
  | .lst _ => ∃ ps, a = .list ps
  | .tup _ => ∃ ps, a = .tuple ps
  | .bad => False
theorem py_flat {n : Nat} {d : D} {a : PyData} (h : pyOf n S d = some a) : ShIs a (shD S d) := by
  rw [py_shd] at h
  cases n with
  | zero => cases hd : shD S d <;> simp [hd] at h <;> subst h <;> rfl
  | succ n =>
    cases hd : shD S d with
    | lst xs =>
      rw [hd] at h
      obtain ⟨p, _, e⟩ := Option.map_eq_some_iff.mp h
      exact ⟨p, e.symm⟩
    | tup xs =>
      rw [hd] at h
      obtain ⟨p, _, e⟩ := Option.map_eq_some_iff.mp h
      exact ⟨p, e.symm⟩
    | _ => simp [hd] at h <;> subst h <;> rfl
theorem eqFlat_ok {n : Nat} {d e : D} {a b : PyData} (h1 : pyOf n S d = some a) (h2 : pyOf n S e = some b) (no : ∀ xs ys, ¬ (shD S d = .lst xs ∧ shD S e = .lst ys) ∧ ¬ (shD S d = .tup xs ∧ shD S e = .tup ys)) : PyData.eqv a b = eqFlat (shD S d) (shD S e) := by
  have p1 := py_flat h1
  have p2 := py_flat h2
  have str : ∀ s t : String, (Str.ofString s == Str.ofString t) = decide (s = t) := fun s t => by
    by_cases h : s = t
    · subst h; simp
    · have : Str.ofString s ≠ Str.ofString t := fun z => h (ofS_inj z)
      simp [h, this]
  generalize shD S d = u at p1 no
  generalize shD S e = v at p2 no
  cases u <;> cases v <;> simp only [ShIs] at p1 p2
  all_goals first
    | exact p1.elim
    | exact p2.elim
    | exact absurd ⟨rfl, rfl⟩ (no _ _).1
    | exact absurd ⟨rfl, rfl⟩ (no _ _).2
    | (subst p1; subst p2; simp only [PyData.eqv, eqFlat, str]; done)
    | (subst p1; subst p2; simp [PyData.eqv, eqFlat, str]; done)
    | (subst p1; obtain ⟨q, rfl⟩ := p2; simp [PyData.eqv, eqFlat]; done)
    | (obtain ⟨q, rfl⟩ := p1; subst p2; simp [PyData.eqv, eqFlat]; done)
    | (obtain ⟨q, rfl⟩ := p1; obtain ⟨q', rfl⟩ := p2; simp [PyData.eqv, eqFlat]; done)
    | (subst p1; subst p2; simp [PyData.eqv, eqFlat]; rfl)
theorem eqB_ok : ∀ (n : Nat) (d e : D) (a b : PyData), pyOf n S d = some a → pyOf n S e = some b → PyData.eqv a b = eqB n S d e
  | 0, d, e, a, b, h1, h2 => by
    unfold eqB
    refine eqFlat_ok h1 h2 fun xs ys => ⟨fun ⟨q1, _⟩ => ?_, fun ⟨q1, _⟩ => ?_⟩
    · rw [py_shd, q1] at h1; cases h1
    · rw [py_shd, q1] at h1; cases h1
  | n + 1, d, e, a, b, h1, h2 => by
    unfold eqB
    split
    · rename_i xs ys q1 q2
      rw [py_shd, q1] at h1
      rw [py_shd, q2] at h2
      obtain ⟨p, e1, e2⟩ := Option.map_eq_some_iff.mp h1
      obtain ⟨p', e3, e4⟩ := Option.map_eq_some_iff.mp h2
      subst e2; subst e4
      rw [PyData.eqv]
      exact eqL_ok (eqB_ok n) _ _ _ _ e1 e3
    · rename_i xs ys q1 q2
      rw [py_shd, q1] at h1
      rw [py_shd, q2] at h2
      obtain ⟨p, e1, e2⟩ := Option.map_eq_some_iff.mp h1
      obtain ⟨p', e3, e4⟩ := Option.map_eq_some_iff.mp h2
      subst e2; subst e4
      rw [PyData.eqv]
      exact eqL_ok (eqB_ok n) _ _ _ _ e1 e3
    · rename_i n1 n2
      exact eqFlat_ok h1 h2 fun xs ys => ⟨fun ⟨q1, q2⟩ => n1 _ _ q1 q2, fun ⟨q1, q2⟩ => n2 _ _ q1 q2⟩
end
def fEqF (neg : Bool) : F2 := fun d e S => if (okD 9 S d && okD 9 S e) = true then .ok (.bl (neg != eqB 9 S d e)) S else .stuck
theorem fEqF_eq {neg : Bool} {d e : D} {S : Sg} (h : (okD 9 S d && okD 9 S e) = true) : fEq neg d e S = .ok (.bl (neg != eqB 9 S d e)) S := by
  rw [Bool.and_eq_true] at h
  obtain ⟨a, ea⟩ := ok_py 9 d h.1
  obtain ⟨b, eb⟩ := ok_py 9 e h.2
  unfold fEq
  rw [ea, eb]
  simp only [eqB_ok 9 d e a b ea eb]
section
variable {G : Gx} {X : Cx} {W : WX}
theorem ov_fast {r : R2} {h h' : F2} (o : OpV G W r h) (k : ∀ d e S, h' d e S = .stuck ∨ h d e S = h' d e S) : OpV G W r h' := by
  intro μ S H x y d e σ Q rp hx hy po
  rcases k d e S with q | q
  · rw [q] at po; exact po.elim
  · rw [← q] at po; exact o _ _ _ _ _ _ _ _ _ rp hx hy po
theorem fEqF_le (neg : Bool) (d e : D) (S : Sg) : fEqF neg d e S = .stuck ∨ fEq neg d e S = fEqF neg d e S := by
  unfold fEqF
  by_cases h : (okD 9 S d && okD 9 S e) = true
  · right; rw [if_pos h, fEqF_eq h]
  · left; rw [if_neg h]
theorem c_eqF (A : Amb G X W) : CmpD X G W .Eq (fEqF false) := by
  obtain ⟨r, h, o⟩ := c_eq (G := G) (X := X) (W := W) A
  exact ⟨r, h, ov_fast o (fEqF_le false)⟩
theorem c_neF (A : Amb G X W) : CmpD X G W .NotEq (fEqF true) := by
  obtain ⟨r, h, o⟩ := c_ne (G := G) (X := X) (W := W) A
  exact ⟨r, h, ov_fast o (fEqF_le true)⟩
/-! ### in -/
def rInDA (K : PySem.W.Frag) (neg : Bool) : R2 := fun x y H Q => ∃ d c ds, Dp K H x d ∧ (c = .list ds ∨ c = .tuple ds) ∧ Dp K H y c ∧ SeqAt.shaped d = true ∧ SeqAt.shaped c = true ∧ Q (.bl (neg != ds.any fun z => PyData.eqv z d)) H
theorem room_inT {X : Cx} {d : PyData} {n : Nat} (sd : SeqAt.shaped d = true) (hu : X.A.units + 65 < cLine) : X.A.units + 1 + min n d.depth < cLine := by
  unfold SeqAt.shaped at sd
  rw [Bool.and_eq_true] at sd
  have := of_decide_eq_true sd.2
  have := Nat.min_le_right n d.depth
  omega
theorem op_inDA (hu : X.A.units + 65 < cLine) : OpR X (compareOp .In) (rInDA X.K false) := by
  intro pins s σ H x y v u Q I rx ry h
  obtain ⟨d, c, ds, hd, hc, he, sd, se, q⟩ := h
  obtain ⟨as, r1⟩ := Dp.reads I d x v hd rx
  obtain ⟨bs, r2⟩ := Dp.reads I c y u he ry
  rw [Bool.false_bne] at q
  rcases hc with rfl | rfl
  · exact SeqAt.in_list_reads r2 r1 (SeqAt.canLay_of_shaped se) (SeqAt.canLay_of_shaped sd) (room_inT sd hu) ⟨.bl _, H, I, rfl, q⟩
  · exact SeqAt.in_tuple_reads r2 r1 (SeqAt.canLay_of_shaped se) (SeqAt.canLay_of_shaped sd) (room_inT sd hu) ⟨.bl _, H, I, rfl, q⟩
theorem op_ninDA (hu : X.A.units + 65 < cLine) : OpR X (compareOp .NotIn) (rInDA X.K true) := by
  intro pins s σ H x y v u Q I rx ry h
  obtain ⟨d, c, ds, hd, hc, he, sd, se, q⟩ := h
  obtain ⟨as, r1⟩ := Dp.reads I d x v hd rx
  obtain ⟨bs, r2⟩ := Dp.reads I c y u he ry
  rw [Bool.true_bne] at q
  rcases hc with rfl | rfl
  · exact SeqAt.notIn_list_reads r2 r1 (SeqAt.canLay_of_shaped se) (SeqAt.canLay_of_shaped sd) (room_inT sd hu) ⟨.bl _, H, I, rfl, q⟩
  · exact SeqAt.notIn_tuple_reads r2 r1 (SeqAt.canLay_of_shaped se) (SeqAt.canLay_of_shaped sd) (room_inT sd hu) ⟨.bl _, H, I, rfl, q⟩
def fInF (neg : Bool) : F2 := fun d e S => match shD S e with
  | .lst xs => if (okD 8 S d && xs.all (okD 8 S)) = true then .ok (.bl (neg != xs.any fun z => eqB 8 S z d)) S else .stuck
  | .tup xs => if (okD 8 S d && xs.all (okD 8 S)) = true then .ok (.bl (neg != xs.any fun z => eqB 8 S z d)) S else .stuck
  | _ => fIn neg d e S
theorem any_eqB {S : Sg} {d : D} {p : PyData} (e : pyOf 8 S d = some p) : ∀ {xs : List D} {ps : List PyData}, xs.mapM (pyOf 8 S) = some ps → (ps.any fun z => PyData.eqv z p) = xs.any fun z => eqB 8 S z d
  | [], ps, h => by simp at h; subst h; rfl
  | x :: xs, ps, h => by
    rw [List.mapM_cons] at h
    obtain ⟨q, f1, f2⟩ := Option.bind_eq_some_iff.mp h
    obtain ⟨qs, f3, f4⟩ := Option.bind_eq_some_iff.mp f2
    cases f4
    rw [List.any_cons, List.any_cons, any_eqB e f3, eqB_ok 8 x d q p f1 e]
theorem ov_inF {neg : Bool} : OpV G W (fun x y H Q => rInAll G.K G.w neg x y H Q ∨ rInDA G.K neg x y H Q) (fInF neg) := by
  intro μ S H x y d e σ Q rp hx hy po
  unfold fInF at po
  have deep : ∀ (xs : List D) (c : List PyData → PyData), (c = .list ∨ c = .tuple) → (∀ ps, xs.mapM (pyOf 8 S) = some ps → pyOf 9 S e = some (c ps)) → Post (Den G) G W μ H σ (if (okD 8 S d && xs.all (okD 8 S)) = true then R.ok (.bl (neg != xs.any fun z => eqB 8 S z d)) S else .stuck) Q → rInDA G.K neg x y H Q := fun xs c hc hs po => by
    obtain ⟨c1, p⟩ := post_ite po
    rw [Bool.and_eq_true] at c1
    obtain ⟨p1, e1⟩ := ok_py 8 d c1.1
    obtain ⟨ps, e2⟩ := mapM_some (f := pyOf 8 S) (xs := xs) fun x hx => ok_py 8 x (List.all_eq_true.mp c1.2 x hx)
    have e3 := hs ps e2
    refine ⟨p1, c ps, ps, py_den rp 8 _ _ _ hx e1, by rcases hc with rfl | rfl <;> simp, py_den rp 9 _ _ _ hy e3, py_shaped (by decide) e1, py_shaped (by decide) e3, ?_⟩
    rw [any_eqB e1 e2]
    exact post_ok rp p (.bl _)
  split at po
  · rename_i xs hs
    exact .inr (deep xs .list (.inl rfl) (fun ps h => by rw [py_shd, hs]; simp [h]) po)
  · rename_i xs hs
    exact .inr (deep xs .tuple (.inr rfl) (fun ps h => by rw [py_shd, hs]; simp [h]) po)
  · exact .inl (ov_in _ _ _ _ _ _ _ _ _ rp hx hy po)
theorem c_inF (A : Amb G X W) : CmpD X G W .In (fInF false) := ⟨_, by
  have h1 := op_inAll (X := X) A.hu
  have h2 := op_inDA (X := X) A.hu
  rw [A.hK, A.hw] at h1
  rw [A.hK] at h2
  exact h1.or h2, ov_inF⟩
theorem c_ninF (A : Amb G X W) : CmpD X G W .NotIn (fInF true) := ⟨_, by
  have h1 := op_ninAll (X := X) A.hu
  have h2 := op_ninDA (X := X) A.hu
  rw [A.hK, A.hw] at h1
  rw [A.hK] at h2
  exact h1.or h2, ov_inF⟩
end
end Dx

/-! Dx16: tuple targets of names and subscripts. -/
namespace Dx
open PySem PySem.Spec L2
variable {G : Gx} {X : Cx} {W : WX}
abbrev FGx := D → Ev → Sg → R Ev
abbrev FGxs := List D → Ev → Sg → R Ev
def PostT (G : Gx) (μ : List Addr) (H : Hp) (r : R Ev) (Q : L2.St → Hp → Prop) : Prop := match r with
  | .ok ρ' S' => ∀ μ' H' σ', Per G μ H μ' H' → Rep G μ' S' H' → EnvD G μ' H' ρ' σ' → Q σ' H'
  | _ => False
theorem PostT.per {μ μ1 : List Addr} {H H1 : Hp} {r : R Ev} {Q : L2.St → Hp → Prop} (h : PostT G μ H r Q) (p : Per G μ H μ1 H1) : PostT G μ1 H1 r Q := by
  cases r with
  | ok ρ S => exact fun μ' H' σ' q => h μ' H' σ' (p.trans q)
  | exc c fs S => exact h
  | stuck => exact h
def GTx (G : Gx) (fg : FGx) (t : TG) : Prop := ∀ μ H ρ σ S d v Q, EnvD G μ H ρ σ → Rep G μ S H → Den G μ H d v → PostT G μ H (fg d ρ S) Q → t v σ H Q
def GTxs (G : Gx) (fg : FGxs) (t : TGs) : Prop := ∀ μ H ρ σ S ds us Q, EnvD G μ H ρ σ → Rep G μ S H → DenA G μ H ds us → PostT G μ H (fg ds ρ S) Q → t us σ H Q
def DGx (X : Cx) (G : Gx) (e : Expr) (fg : FGx) : Prop := ∃ t, PG X e t ∧ GTx G fg t
def DGxs (X : Cx) (G : Gx) (es : List Expr) (fg : FGxs) : Prop := ∃ t, PGs X es t ∧ GTxs G fg t
def gxNm (i : Nat) : FGx := fun d ρ S => .ok (ρ.set i (some d)) S
def gxSub (fo fi : FE) : FGx := fun d ρ S => (fo ρ S).nox.bind fun o S1 => (fi ρ S1).nox.bind fun i S2 => match storeD o i d S2 with
  | some S3 => .ok ρ S3
  | none => .stuck
def gxTp (n : Nat) (fg : FGxs) : FGx := fun d ρ S => match tupOf d with
  | some xs => if xs.length = n then fg xs ρ S else .stuck
  | none => .stuck
def gxsN : FGxs := fun ds ρ S => match ds with
  | [] => .ok ρ S
  | _ => .stuck
def gxsC (g : FGx) (gs : FGxs) : FGxs := fun ds ρ S => match ds with
  | d :: r => (g d ρ S).bind fun ρ1 S1 => gs r ρ1 S1
  | [] => .stuck
theorem dgx_name (i : Nat) {x : Str} {pos : Pos} (hN : X.N.Nodup) (hi : X.N[i]? = some x := by rfl) (hx : Loc X.env.scope x := by first | exact Or.inl rfl | exact Or.inr rfl)
    (hf : X.fn x = true ∨ X.env.scope.names.lookup x = some .local := by first | exact .inl rfl | exact .inr rfl) : DGx X G (.Name x pos) (gxNm i) :=
  ⟨_, pg_name hN hi hx hf, fun μ H ρ σ S d v Q en rp dd p => p _ _ _ .refl rp (en.set dd)⟩
theorem post_nox {α β : Type} {rel : Rel α β} {μ : List Addr} {H : Hp} {σ : L2.St} {r : R α} {Q : β → Hp → Prop} {k : α → Sg → R Ev} {Q' : L2.St → Hp → Prop} (h : PostT G μ H (r.nox.bind k) Q') (q : ∀ a S' μ' H' b, Per G μ H μ' H' → Rep G μ' S' H' → rel μ' H' a b → PostT G μ' H' (k a S') Q' → Q b H') : Post rel G W μ H σ r Q := by
  cases r with
  | ok a S' => exact fun μ' H' b p r d => q a S' μ' H' b p r d (PostT.per (r := k a S') h p)
  | exc c fs S' => exact h.elim
  | stuck => exact h.elim
theorem dgx_sub {o i : Expr} {pos : Pos} {fo fi : FE} (A : Amb G X W) (ho : PE X o (TD G W fo)) (hi : PE X i (TD G W fi))
    (ha : ∀ v, assign (.Subscript o i pos) X.env v = (do
      let ov ← holding [v] (eval o X.env)
      let iv ← holding [v, ov] (eval i X.env)
      standAt pos
      holding [v, ov, iv] (setItem ov iv v)
      release [v, ov, iv] []) := by intro _; rfl) : DGx X G (.Subscript o i pos) (gxSub fo fi) := by
  refine ⟨_, pg_sub ho hi (set_all (by have := A.hu; omega)) ha, fun μ H ρ σ S d v Q en rp dd p => ?_⟩
  refine ⟨μ, ρ, S, en, rp, post_nox (rel := Den G) p fun od S1 μ1 H1 ov pe rp1 do_ p1 => ?_⟩
  refine ⟨μ1, ρ, S1, en.per pe, rp1, post_nox (rel := Den G) p1 fun id S2 μ2 H2 iv pe2 rp2 di p2 => ?_⟩
  split at p2
  · rename_i S3 e3
    exact store_den A.ok rp2 (do_.per pe2) di ((dd.per pe).per pe2) e3 fun H' p r => p2 _ _ _ p r (((en.per pe).per pe2).per p)
  · exact p2.elim
theorem dgxs_nil : DGxs X G [] gxsN := ⟨_, pgs_nil, fun μ H ρ σ S ds us Q en rp dd p => by
  cases dd with
  | nil => exact ⟨rfl, p _ _ _ .refl rp en⟩
  | cons _ _ => exact p.elim⟩
theorem dgxs_cons {e : Expr} {es : List Expr} {g : FGx} {gs : FGxs} (h1 : DGx X G e g) (h2 : DGxs X G es gs) (hs : (assignEach (e :: es) X.env).map (·.2) = assign e X.env :: (assignEach es X.env).map (·.2) := by rfl) : DGxs X G (e :: es) (gxsC g gs) := by
  obtain ⟨t, p, q⟩ := h1
  obtain ⟨u, p', q'⟩ := h2
  refine ⟨_, pgs_cons p p' hs, fun μ H ρ σ S ds us Q en rp dd po => ?_⟩
  cases dd with
  | nil => exact po.elim
  | @cons d ds' v vs' a b =>
    refine ⟨_, _, rfl, q μ H ρ σ S d v _ en rp a ?_⟩
    have po' : PostT G μ H ((g d ρ S).bind fun ρ1 S1 => gs ds' ρ1 S1) Q := po
    revert po'
    generalize g d ρ S = r
    intro po'
    cases r with
    | ok ρ1 S1 => exact fun μ' H' σ' pe rp' en' => q' μ' H' ρ1 σ' S1 ds' vs' Q en' rp' (b.per pe) (PostT.per (r := gs ds' ρ1 S1) po' pe)
    | exc c fs S' => exact po'.elim
    | stuck => exact po'.elim
theorem dgx_tup {es : List Expr} {k n : Nat} {pos : Pos} {fg : FGxs} (hc : X.calm = true) (A : Amb G X W) (h : DGxs X G es fg) (hn : (assignEach es X.env).length = n := by rfl) (hst : (assignEach es X.env).findIdx? (·.1) = none := by rfl) : DGx X G (.Tuple es k pos) (gxTp n fg) := by
  obtain ⟨t, p, q⟩ := h
  refine ⟨gTup G.K n t, by have := pg_tup (k := k) (pos := pos) hc p hn hst; rw [A.hK] at this; exact this, fun μ H ρ σ S d v Q en rp dd po => ?_⟩
  unfold gxTp at po
  split at po
  · rename_i xs e1
    split at po
    · rename_i hl
      obtain ⟨a, us, e2, h1, h2⟩ := tup_den dd e1
      exact ⟨a, us, e2, h1, by rw [← h2.length]; exact hl, q μ H ρ σ S xs us Q en rp h2 po⟩
    · exact po.elim
  · exact po.elim
def sAsgX (fg : FGx) (f : FE) : FS := fun ρ S => (f ρ S).go ρ fun d S1 => match fg d ρ S1 with
  | .ok ρ' S2 => .nx ρ' S2
  | _ => .stuck
theorem ds_asgX {tg e : Expr} {pos : Pos} {fg : FGx} {f : FE} (hg : DGx X G tg fg) (he : PE X e (TD G W f)) (hs : swapsWithSole [tg] e pos.line X.env = pure false := by rfl) (hw : swappedStores [tg] e X.env = pure none := by rfl)
    (h1 : (assignEach [tg] X.env).map (·.2) = [assign tg X.env] := by rfl) : PS X (.Assign [tg] e pos) (TDS G W (sAsgX fg f)) := by
  obtain ⟨t, p, q⟩ := hg
  refine PS.imp (ps_asg he p hs hw h1) fun Z σ H ⟨μ, ρ, S, en, rp, po⟩ => ⟨μ, ρ, S, en, rp, (posts_go en po).mono fun v H1 ⟨μ1, d, S1, pe, rp1, dd, p1⟩ => ?_⟩
  refine q μ1 H1 ρ σ S1 d v _ (en.per pe) rp1 dd ?_
  revert p1
  generalize fg d ρ S1 = r
  intro p1
  cases r with
  | ok ρ' S2 => exact fun μ' H' σ' pe' rp' en' => p1 μ' H' σ' pe' rp' en'
  | exc c fs S' => exact p1.elim
  | stuck => exact p1.elim
/-! ### an empty dict with tuple keys -/
def xDnT : FE := fun _ S => newO (.dtt []) S
theorem de_dnT {pos : Pos} (A : Amb G X W) : PE X (.Dict [] [] pos) (TD G W xDnT) :=
  PE.imp pe_dnewT fun σ H Q ⟨μ, ρ, S, en, rp, po⟩ => fun p hp => post_dtt A.ok rp ⟨rfl, .nil⟩ po hp
/-! ### a call without arguments -/
theorem pe_callS0 {CX : CXT} {k : Nat} {f : Addr} {fd : FuncData} {ps : List Str} {sp : Sp} {E : L2.St → XK} {x : Str} {p pos : Pos} (F : FnOk X.prog X.w X.K X.mg X.base CX k f fd ps sp) (hr : Room k X.A) (hg : Gl X x) (hm : X.mg x = some (.ref f)) (hk : PySem.W.keepIn X.K (.ref f) = true) (hb : Binds X.K fd ps []) (hx : ∀ σ, PassesAt CX X σ (E σ))
    (hdb : (x == ("__debug__" : Str)) = false := by decide) : PE X (.Call (.Name x p) [] [] pos) (tCallS sp E tNil) := by
  refine ⟨fun pins s σ H Q I h => ?_⟩
  refine wpAny_Call_Name_kw (ld_glob I hg hm ?_ hdb)
  exact PySem.W.callWith_K0 I.kIn hk (run_fnS (us := []) F hr hb (hx σ) I .nil h)
theorem de_call0 {x : Str} {p pos : Pos} {F : FF} {k j : Nat} (A : Amb G X W) (d : DefD X.prog X.w X.K X.mg X.base G j x 0 F) (hr : Room k X.A) (hk : j ≤ k) (hg : Gl X x := by rfl)
    (hdb : (x == ("__debug__" : Str)) = false := by decide) : PE X (.Call (.Name x p) [] [] pos) (TD G W (xCall F 0 aNil)) := by
  obtain ⟨f, fd, ps, Fo, hm, hkp, hb⟩ := d.ex
  refine PE.imp (pe_callS0 Fo (hr.mono hk) hg hm hkp hb (fun σ => passAt A.tk σ) hdb) fun σ H Q ⟨μ, ρ, S, en, rp, po⟩ => ?_
  refine ⟨rfl, μ, S, [], rp, .nil, ?_⟩
  have p2 : Post (Den G) G W μ H σ (F [] S) Q := po
  revert p2
  generalize F [] S = r
  intro p2
  cases r with
  | ok a S' => exact p2
  | exc c fs S' => exact p2
  | stuck => exact p2
end Dx

/-! Dx17: a tuple times 0 or 1. -/
namespace Dx
open PySem PySem.Spec L2 PyProof.Rows
theorem tuple_mul1 (l : Addr) (items : Array Value) (n : Nat) (sl : Array (Option Value)) (dd : Option Addr) (u : Tok) :
    Meets (Builtin.«tuple.__mul__» ⟨[.ref l, .int 1 u], []⟩) (fun _ R s => s.heap.get? l = some { cls := .type "tuple", dict := dd, data := .seq items n, slots := sl } ∧ R (.ok (.ret (Value.ref l))) s) :=
  .of_wp fun prog w A R s h => by
    obtain ⟨hp, g, d, tk, os⟩ := s
    obtain ⟨hl, h⟩ := h
    have f1 := AutoSeq1.idx_int
    have c1 : (items.isEmpty || (1 : Int) == 1) = true := by simp
    wp_walk using wpAny_loadPart' hl
    repeat (first
      | (refine wpAny_ite_true (decide_eq_true (by rw [c1])) ?_; wp_walk using wpAny_loadPart' hl)
      | (rw [if_pos c1]; wp_walk using wpAny_loadPart' hl))
    exact ⟨_, rfl, h⟩
theorem tuple_mul0 (l : Addr) (items : Array Value) (n : Nat) (sl : Array (Option Value)) (dd : Option Addr) (u : Tok) (ne : items.isEmpty = false) :
    Meets (Builtin.«tuple.__mul__» ⟨[.ref l, .int 0 u], []⟩) (fun _ R s => s.heap.get? l = some { cls := .type "tuple", dict := dd, data := .seq items n, slots := sl } ∧
      R (.ok (.ret (Value.ref s.heap.objs.size))) { s with heap := s.heap.push { cls := Value.type "tuple", data := Data.seq #[] } }) :=
  .of_wp fun prog w A R s h => by
    obtain ⟨hp, g, d, tk, os⟩ := s
    obtain ⟨hl, h⟩ := h
    have f1 := AutoSeq1.idx_int
    have c1 : (items.isEmpty || (0 : Int) == 1) = false := by rw [ne]; rfl
    have c2 : (decide ((0 : Int) ≤ 0) || items.isEmpty) = true := by simp
    wp_walk using wpAny_loadPart' hl
    repeat (first
      | (refine wpAny_ite_false (decide_eq_false (by rw [c1]; exact Bool.false_ne_true)) ?_; wp_walk using wpAny_loadPart' hl)
      | (refine wpAny_ite_true (decide_eq_true (by rw [c2])) ?_; wp_walk using wpAny_loadPart' hl)
      | (rw [if_neg (by rw [c1]; exact Bool.false_ne_true)]; wp_walk using wpAny_loadPart' hl))
    exact ⟨_, rfl, h⟩
def rRep01 (K : PySem.W.Frag) : R2 := fun x y H Q => ∃ l k xs, x = .ref l ∧ y = .int k ∧ SqT K H l xs ∧ ((k = 1 ∧ Q (.ref l) H) ∨ (k = 0 ∧ xs ≠ [] ∧ ∀ p, H p = none → Q (.ref p) (upd H p (.tup []))))
theorem op_rep01 {X : Cx} : OpR X (binaryOp .Mult) (rRep01 X.K) := by
  intro pins s σ H x y v u Q I rx ry h
  obtain ⟨l, k, xs, rfl, rfl, hT, q⟩ := h
  cases rx
  obtain ⟨t, rfl⟩ := ry
  obtain ⟨its, r, ⟨⟨cls, dd, data, sl⟩, ho, hc, n, hd⟩, hs⟩ := I.tuple hT
  simp only at hc hd
  subst hc hd
  rcases q with ⟨rfl, q⟩ | ⟨rfl, hne, q⟩
  · refine wpAny_binaryOp_repeat_ref (T := "tuple") (U := "int") (by decide) ⟨_, ho, rfl⟩ (fun s' => typeIs_int s' 1 t) noFill_tuple_mul F.fills_int_mul F.slot_int_rmul repeat_tuple F.slot_int_index.lookup
      (call_meets F.slot_int_rmul (typeIs_int s 1 t) F.entry_int_rmul (F.args_int_rmul_2 _ _) (int_rmul_tuple 1 t l its.toArray n dd sl)
        ⟨ho, rfl, ⟨_, ho, rfl⟩, call_meets F.slot_tuple_mul ⟨_, ho, rfl⟩ F.entry_tuple_mul (F.args_tuple_mul_2 _ _) (tuple_mul1 l its.toArray n sl dd t) ⟨ho, ?_⟩⟩)
    exact ⟨.ref l, H, I, rfl, q⟩
  · have hn : its ≠ [] := fun e => hne (by
      have := r.length
      rw [e] at this
      exact List.eq_nil_of_length_eq_zero this)
    have hi : its.toArray.isEmpty = false := by
      cases its with
      | nil => exact absurd rfl hn
      | cons a b => rfl
    refine wpAny_binaryOp_repeat_ref (T := "tuple") (U := "int") (by decide) ⟨_, ho, rfl⟩ (fun s' => typeIs_int s' 0 t) noFill_tuple_mul F.fills_int_mul F.slot_int_rmul repeat_tuple F.slot_int_index.lookup
      (call_meets F.slot_int_rmul (typeIs_int s 0 t) F.entry_int_rmul (F.args_int_rmul_2 _ _) (int_rmul_tuple 0 t l its.toArray n dd sl)
        ⟨ho, rfl, ⟨_, ho, rfl⟩, call_meets F.slot_tuple_mul ⟨_, ho, rfl⟩ F.entry_tuple_mul (F.args_tuple_mul_2 _ _) (tuple_mul0 l its.toArray n sl dd t hi) ⟨ho, ?_⟩⟩)
    refine ⟨.ref s.heap.objs.size, _, I.laid (t' := s.toks) (o := .tup []) (fun b ob q => Heap.get?_push_of_some _ q) (Nat.le_refl _) ?_, rfl, q _ (I.hok.fresh (Nat.le_refl _))⟩
    exact ⟨by rw [sizeLine_eq]; decide, [], .nil, IsTup.new _ _⟩
def fMulF : F2 := fun d e S => match tupOf d, e with
  | some xs, .int k => if k = 1 then .ok d S else if k = 0 ∧ xs ≠ [] then .ok (.tup []) S else fMul d e S
  | _, _ => fMul d e S
section
variable {G : Gx} {X : Cx} {W : WX}
theorem ov_mulF (g : G.Ok) : OpV G W (fun x y H Q => (rI CMul (fun i j => .int (i * j)) x y H Q ∨ rRep x y H Q ∨ rRepT G.K x y H Q) ∨ rRep01 G.K x y H Q) fMulF := by
  intro μ S H x y d e σ Q rp hx hy po
  unfold fMulF at po
  split at po
  · rename_i xs k e1
    cases hy
    obtain ⟨a, us, rfl, h1, h2⟩ := tup_den hx e1
    by_cases h1k : k = 1
    · subst h1k
      rw [if_pos rfl] at po
      exact .inr ⟨a, 1, us, rfl, rfl, h1, .inl ⟨rfl, post_ok rp po hx⟩⟩
    · rw [if_neg h1k] at po
      by_cases h0 : k = 0 ∧ xs ≠ []
      · rw [if_pos h0] at po
        obtain ⟨rfl, hne⟩ := h0
        refine .inr ⟨a, 0, us, rfl, rfl, h1, .inr ⟨rfl, fun z => hne ?_, fun p hp => post_tup g rp .nil po hp⟩⟩
        have := h2.length
        rw [z] at this
        exact List.eq_nil_of_length_eq_zero this
      · rw [if_neg h0] at po
        exact .inl (ov_mul g _ _ _ _ _ _ _ _ _ rp hx (.int k) po)
  · exact .inl (ov_mul g _ _ _ _ _ _ _ _ _ rp hx hy po)
theorem de_mulF {a b : Expr} {pos : Pos} {f g : FE} (A : Amb G X W) (ha : PE X a (TD G W f)) (hb : PE X b (TD G W g)) : PE X (.BinOp a .Mult b pos) (TD G W (x2 fMulF f g)) :=
  de_op (r := fun x y H Q => (rI CMul (fun i j => .int (i * j)) x y H Q ∨ rRep x y H Q ∨ rRepT G.K x y H Q) ∨ rRep01 G.K x y H Q) (by have := ((op_mul (X := X)).or (op_rep.or op_repT)).or op_rep01; rw [A.hK] at this; exact this) (ov_mulF A.ok) ha hb
end
end Dx

/-! Dx18: tuples of texts compared. -/
namespace Dx
open PySem PySem.Spec L2 PySem.W
def rLtK (K : PySem.W.Frag) : R2 := fun x y H Q => ∃ ks ls : List String, Dp K H x (encK ks) ∧ Dp K H y (encK ls) ∧ Q (.bl (ltKs ks ls)) H
theorem op_ltK {X : Cx} (hu : X.A.units + 65 < cLine) : OpR X (compareOp .Lt) (rLtK X.K) := by
  intro pins s σ H x y v u Q I rx ry h
  obtain ⟨ks, ls, hd, he, q⟩ := h
  obtain ⟨as, r1⟩ := Dp.reads I _ x v hd rx
  obtain ⟨bs, r2⟩ := Dp.reads I _ y u he ry
  have hal : alike (encK ks) (encK ls) = true := by
    show alike (.tuple _) (.tuple _) = true
    rw [alike]
    exact alike_strs _ _
  have hdep : ∀ zs : List String, (encK zs).depth = 1 := fun zs => by
    show (PyData.tuple _).depth = 1
    rw [PyData.depth, depth_strs]
  refine rcLt_alike (encK ks) (encK ls) X.A s v u as bs r1 r2 hal (fun z => nomatch z) (by rw [hdep, hdep]; simp; omega) _ _ _ _ ?_
  rw [encK_lt]
  exact ⟨.bl _, H, I, rfl, q⟩
def fLtF : F2 := fun d e S => match keyT d, keyT e with
  | some ks, some ls => .ok (.bl (ltKs ks ls)) S
  | _, _ => fLt d e S
section
variable {G : Gx} {X : Cx} {W : WX}
theorem ov_ltF : OpV G W (fun x y H Q => rI0 (fun i j => V.bl (decide (i < j))) x y H Q ∨ rLtK G.K x y H Q) fLtF := by
  intro μ S H x y d e σ Q rp hx hy po
  unfold fLtF at po
  split at po
  · rename_i ks ls e1 e2
    exact .inr ⟨ks, ls, keyT_den hx e1, keyT_den hy e2, post_ok rp po (.bl _)⟩
  · exact .inl (ov_I (fun _ _ _ _ => .bl _) _ _ _ _ _ _ _ _ _ rp hx hy po)
theorem c_ltF (A : Amb G X W) : CmpD X G W .Lt fLtF := ⟨_, by
  have h1 := op_ltK (X := X) A.hu
  rw [A.hK] at h1
  exact op_lt.or h1, ov_ltF⟩
end
end Dx

/-! Dx19: lists that are locked as soon as they are made: values, no numbered objects. -/
namespace Dx
open PySem PySem.Spec L2 PyProof.Rows PySem.W
variable {G : Gx} {X : Cx} {W : WX}
def FQ (Q : VK) : VK := fun v H => Q v H ∨ ∃ a u, v = .ref a ∧ H a = some u ∧ Mut (some u) ∧ ∀ od, Q v (upd H a (.frz od u))
theorem pe_frz {e : Expr} {t : TE} (h : PE X e t) : PE X e (fun σ H Q => t σ H (FQ Q)) := by
  refine ⟨fun pins s σ H Q I q => ?_⟩
  refine thn (h.run pins s σ H _ I q) fun v s1 ⟨x, H1, I1, r, q1⟩ => ?_
  rcases q1 with q1 | ⟨a, u, rfl, hu, mu, q1⟩
  · exact ⟨x, H1, I1, r, q1⟩
  · obtain ⟨od, I2⟩ := I1.lock hu mu
    exact ⟨_, _, I2, r, q1 od⟩
def FN (N : L2.St → Hp → Prop) : L2.St → Hp → Prop := fun σ H => N σ H ∨ ∃ a u, H a = some u ∧ Mut (some u) ∧ ∀ od, N σ (upd H a (.frz od u))
theorem ps_frz {st : Stmt} {t : TS} (h : PS X st t) : PS X st (fun Z σ H => t { Z with nx := FN Z.nx } σ H) := by
  refine ⟨fun pins s σ H D I q => ?_⟩
  refine thn (h.run pins s σ H _ I q) fun f s1 q1 => ?_
  cases f with
  | next =>
    obtain ⟨σ', H', I1, q1⟩ := q1
    rcases q1 with q1 | ⟨a, u, hu, mu, q1⟩
    · exact ⟨σ', H', I1, q1⟩
    · obtain ⟨od, I2⟩ := I1.lock hu mu
      exact ⟨σ', _, I2, q1 od⟩
  | brk => exact q1
  | cont => exact q1
  | ret v => exact q1
theorem upd_upd {H : Hp} {p : Addr} {u w : HO} : upd (upd H p u) p w = upd H p w := by
  funext a
  by_cases h : a = p
  · subst h; rw [upd_same, upd_same]
  · rw [upd_ne h, upd_ne h, upd_ne h]
theorem post_lstF (g : G.Ok) {μ : List Addr} {H : Hp} {σ : L2.St} {S : Sg} {ds : List D} {vs : List V} {Q : VK} (rp : Rep G μ S H) (d : DenA G μ H ds vs) (h : Post (Den G) G W μ H σ (.ok (.clist ds) S) Q) {p : Addr} (hp : H p = none) : FQ Q (.ref p) (upd H p (.lst vs)) := by
  refine .inr ⟨p, .lst vs, rfl, upd_same, trivial, fun od => ?_⟩
  rw [upd_upd]
  exact h _ _ _ (per_new g hp) (rp.new g hp) (.clist ⟨od, upd_same⟩ (d.per (per_new g hp)))
/-! ### [..] -/
def xLstF (g : FA) : FE := fun ρ S => (g ρ S).bind fun ds S1 => if ds.length ≤ 16777216 then .ok (.clist ds) S1 else .stuck
theorem de_lstF {es : List Expr} {pos : Pos} {g : FA} (A : Amb G X W) (h : PA X es (TDA G W g)) : PE X (.List es pos) (TD G W (xLstF g)) :=
  PE.imp (pe_frz (pe_lst h)) fun σ H Q q => by
    obtain ⟨μ, ρ, S, en, rp, p⟩ := tdg_bind (rel := DenA G) (k := fun ρ ds S1 => if ds.length ≤ 16777216 then R.ok (D.clist ds) S1 else .stuck) q
    refine ⟨μ, ρ, S, en, rp, p.mono fun vs H1 ⟨μ1, ρ1, ds, S1, en1, rp1, d, p1⟩ => ?_⟩
    obtain ⟨hl, p2⟩ := post_ite p1
    exact ⟨by rw [sl_eq, ← d.length]; exact hl, fun a ha => post_lstF A.ok rp1 d p2 ha⟩
/-! ### operators -/
def OpVF (G : Gx) (W : WX) (r : R2) (h : F2) : Prop :=
  ∀ μ S H x y d e σ Q, Rep G μ S H → Den G μ H d x → Den G μ H e y → Post (Den G) G W μ H σ (h d e S) Q → r x y H (FQ Q)
theorem de_opF {a b : Expr} {op : Operator} {pos : Pos} {r : R2} {h : F2} {f g : FE} (ho : OpR X (binaryOp op) r) (o : OpVF G W r h) (ha : PE X a (TD G W f)) (hb : PE X b (TD G W g)) : PE X (.BinOp a op b pos) (TD G W (x2 h f g)) :=
  PE.imp (pe_frz (pe_op ho ha hb)) fun σ H Q q => by
    obtain ⟨μ, ρ, S, en, rp, p⟩ := tdg_bind2 (rel := Den G) (rel2 := Den G) den_pr q
    exact ⟨μ, ρ, S, en, rp, p.mono fun b H1 ⟨μ1, ρ1, S1, en1, rp1, p1⟩ => ⟨μ1, ρ1, S1, en1, rp1, p1.mono fun c H2 ⟨μ2, ρ2, a, c', S2, en2, rp2, d1, d2, q2⟩ => o _ _ _ _ _ _ _ _ _ rp2 d1 d2 q2⟩⟩
theorem post_fq {μ : List Addr} {H : Hp} {σ : L2.St} {r : R D} {Q : VK} (h : Post (Den G) G W μ H σ r Q) : Post (Den G) G W μ H σ r (FQ Q) := h.mono fun _ _ q => .inl q
/-- a list that may be read -/
def rCatR : R2 := fun x y H Q => ∃ l b xs zs, x = .ref l ∧ y = .ref b ∧ Rd H l (.lst xs) ∧ Rd H b (.lst zs) ∧ xs.length + zs.length ≤ sizeLine ∧ ∀ p, H p = none → Q (.ref p) (upd H p (.lst (xs ++ zs)))
theorem op_catR : OpR X (binaryOp .Add) rCatR := by
  intro pins s σ H x y v u Q I rx ry h
  obtain ⟨l, b, xs, zs, rfl, rfl, hH, hB, hz, q⟩ := h
  cases rx
  cases ry
  obtain ⟨z, its, n, r, e⟩ := hH.ok I.hok
  obtain ⟨z2, its2, n2, r2, e2⟩ := hB.ok I.hok
  have hl := r.length
  have hl2 := r2.length
  refine PySem.P.add_list e e2 ?_ (by rw [List.size_toArray, List.size_toArray]; omega)
  have ea : its.toArray ++ its2.toArray = (its ++ its2).toArray := by simp
  rw [ea]
  exact ⟨.ref _, _, I.lnew (t' := s.toks) (r.append r2) (by rw [List.length_append]; omega), rfl, q _ I.fresh⟩
theorem rd_den {μ : List Addr} {H : Hp} {S : Sg} {d : D} {v : V} {xs : List D} (rp : Rep G μ S H) (h : Den G μ H d v) (e : seqOf S d = some xs) : ∃ a vs, v = .ref a ∧ Rd H a (.lst vs) ∧ DenA G μ H xs vs := by
  cases h with
  | clist h1 h2 => simp [seqOf] at e; subst e; exact ⟨_, _, rfl, .inr h1, h2⟩
  | ref h =>
    simp only [seqOf] at e
    split at e
    · rename_i ys eo
      cases e
      obtain ⟨vs, h1, h2⟩ := rp.obj h eo
      exact ⟨_, vs, rfl, .inl h1, h2⟩
    · cases e
  | _ => simp [seqOf] at e
def fAddF : F2 := fun d e S => match seqOf S d, seqOf S e with
  | some xs, some ys => if xs.length + ys.length ≤ 16777216 then .ok (.clist (xs ++ ys)) S else .stuck
  | _, _ => fAdd d e S
theorem ov_addF (g : G.Ok) : OpVF G W (fun x y H Q => (rI0 (fun i j => .int (i + j)) x y H Q ∨ (∃ i j, x = .str i ∧ y = .str j ∧ i.length + j.length ≤ sizeLine ∧ Q (.str (i ++ j)) H) ∨ rCatA G.K x y H Q ∨ rCat x y H Q) ∨ rCatR x y H Q) fAddF := by
  intro μ S H x y d e σ Q rp hx hy po
  unfold fAddF at po
  split at po
  · rename_i xs ys e1 e2
    obtain ⟨c, po⟩ := post_ite po
    obtain ⟨a, vs, rfl, h1, h2⟩ := rd_den rp hx e1
    obtain ⟨b, us, rfl, h3, h4⟩ := rd_den rp hy e2
    exact .inr ⟨a, b, vs, us, rfl, rfl, h1, h3, by rw [sl_eq, ← h2.length, ← h4.length]; exact c, fun p hp => post_lstF g rp (h2.append h4) po hp⟩
  · exact .inl (ov_add g _ _ _ _ _ _ _ _ _ rp hx hy (post_fq po))
theorem de_addF {a b : Expr} {pos : Pos} {f g : FE} (A : Amb G X W) (ha : PE X a (TD G W f)) (hb : PE X b (TD G W g)) : PE X (.BinOp a .Add b pos) (TD G W (x2 fAddF f g)) :=
  de_opF (r := fun x y H Q => (rI0 (fun i j => .int (i + j)) x y H Q ∨ (∃ i j, x = .str i ∧ y = .str j ∧ i.length + j.length ≤ sizeLine ∧ Q (.str (i ++ j)) H) ∨ rCatA G.K x y H Q ∨ rCat x y H Q) ∨ rCatR x y H Q) (by have := (op_addAll (X := X)).or op_catR; rw [A.hK] at this; exact this) (ov_addF A.ok) ha hb
def rRepR : R2 := fun x y H Q => ∃ l k xs, x = .ref l ∧ y = .int k ∧ Rd H l (.lst xs) ∧ -(2 ^ 63) ≤ k ∧ k < 2 ^ 63 ∧ xs.length * k.toNat ≤ sizeLine ∧
  ∀ p, H p = none → Q (.ref p) (upd H p (.lst (List.replicate k.toNat xs).flatten))
theorem op_repR : OpR X (binaryOp .Mult) rRepR := by
  intro pins s σ H x y v u Q I rx ry h
  obtain ⟨l, k, xs, rfl, rfl, hH, h1, h2, hz, q⟩ := h
  cases rx
  obtain ⟨t, rfl⟩ := ry
  obtain ⟨z, its, n, r, e⟩ := hH.ok I.hok
  have hl := r.length
  have hlen : its.toArray.size * k.toNat ≤ sizeLine := by rw [List.size_toArray, ← hl]; exact hz
  have hcap : ¬ its.toArray.size * k.toNat > (2 ^ 63 - 1) / 8 := by
    have : (sizeLine : Nat) ≤ (2 ^ 63 - 1) / 8 := by decide
    omega
  have hfit : ¬ (!Builtin.List.listFitsIndex k) = true := by
    rw [fitsIndex_both h1 h2]
    exact Bool.false_ne_true
  have hlong : ¬ Builtin.List.listTooLong (its.toArray.size * k.toNat) = true := by
    rw [notLongL hlen]
    exact Bool.false_ne_true
  have hnew : List.foldl (fun x1 x2 => x1 ++ x2) #[] (List.replicate (if its.toArray.isEmpty = true then 0 else k.toNat) its.toArray) = (List.replicate k.toNat its).flatten.toArray := by
    have f0 : ∀ m : Nat, List.foldl (fun x1 x2 => x1 ++ x2) #[] (List.replicate m its.toArray) = (List.replicate m its).flatten.toArray := fun m => by
      have := foldl_rep its m []
      rw [List.nil_append] at this
      exact this
    rw [f0]
    cases its with
    | nil => simp
    | cons a r' => rw [if_neg (by simp)]
  refine wpAny_binaryOp_repeat_ref (T := "list") (U := "int") (by decide) ⟨_, e, rfl⟩ (fun s' => typeIs_int s' k t) noFill_list_mul F.fills_int_mul F.slot_int_rmul repeat_list F.slot_int_index.lookup
    (call_meets F.slot_int_rmul (typeIs_int s k t) F.entry_int_rmul (F.args_int_rmul_2 _ _) (int___rmul___int_list k t l its.toArray n)
      ⟨e, rfl, ⟨_, e, rfl⟩, call_meets F.slot_list_mul ⟨_, e, rfl⟩ F.entry_list_mul (F.args_list_mul_2 _ _) (AutoListH.list___mul___list_int_3 l its.toArray n k t hfit hcap hlong) ⟨e, ?_⟩⟩)
  rw [hnew]
  exact ⟨.ref _, _, I.lnew (t' := s.toks) (r.rep k.toNat) (by rw [PyProof.Rows.lm_len_rep_flat, Nat.mul_comm]; exact hz), rfl, q _ I.fresh⟩
def fMulFF : F2 := fun d e S => match seqOf S d, e with
  | some xs, .int k => if -(9223372036854775808) ≤ k ∧ k < 9223372036854775808 ∧ xs.length * k.toNat ≤ 16777216 then .ok (.clist (List.replicate k.toNat xs).flatten) S else .stuck
  | _, _ => fMulF d e S
theorem ov_mulFF (g : G.Ok) : OpVF G W (fun x y H Q => ((rI CMul (fun i j => .int (i * j)) x y H Q ∨ rRep x y H Q ∨ rRepT G.K x y H Q) ∨ rRep01 G.K x y H Q) ∨ rRepR x y H Q) fMulFF := by
  intro μ S H x y d e σ Q rp hx hy po
  unfold fMulFF at po
  split at po
  · rename_i xs k e1
    obtain ⟨⟨c1, c2, c3⟩, po⟩ := post_ite po
    obtain ⟨a, vs, rfl, h1, h2⟩ := rd_den rp hx e1
    cases hy
    exact .inr ⟨a, _, vs, rfl, rfl, h1, c1, c2, by rw [sl_eq, ← h2.length]; exact c3, fun p hp => post_lstF g rp (h2.rep _) po hp⟩
  · exact .inl (ov_mulF g _ _ _ _ _ _ _ _ _ rp hx hy (post_fq po))
theorem de_mulFF {a b : Expr} {pos : Pos} {f g : FE} (A : Amb G X W) (ha : PE X a (TD G W f)) (hb : PE X b (TD G W g)) : PE X (.BinOp a .Mult b pos) (TD G W (x2 fMulFF f g)) :=
  de_opF (r := fun x y H Q => ((rI CMul (fun i j => .int (i * j)) x y H Q ∨ rRep x y H Q ∨ rRepT G.K x y H Q) ∨ rRep01 G.K x y H Q) ∨ rRepR x y H Q) (by have := (((op_mul (X := X)).or (op_rep.or op_repT)).or op_rep01).or op_repR; rw [A.hK] at this; exact this) (ov_mulFF A.ok) ha hb
/-- + that lays a new list -/
def fAddN : F2 := fun d e S => match seqOf S d, seqOf S e with
  | some xs, some ys => if xs.length + ys.length ≤ 16777216 then newO (.lst (xs ++ ys)) S else .stuck
  | _, _ => .stuck
theorem ov_addN (g : G.Ok) : OpV G W rCatR fAddN := by
  intro μ S H x y d e σ Q rp hx hy po
  unfold fAddN at po
  split at po
  · rename_i xs ys e1 e2
    obtain ⟨c, po⟩ := post_ite po
    obtain ⟨a, vs, rfl, h1, h2⟩ := rd_den rp hx e1
    obtain ⟨b, us, rfl, h3, h4⟩ := rd_den rp hy e2
    exact ⟨a, b, vs, us, rfl, rfl, h1, h3, by rw [sl_eq, ← h2.length, ← h4.length]; exact c, fun p hp => post_lst g rp (h2.append h4) po hp⟩
  · exact po.elim
theorem de_addN {a b : Expr} {pos : Pos} {f g : FE} (A : Amb G X W) (ha : PE X a (TD G W f)) (hb : PE X b (TD G W g)) : PE X (.BinOp a .Add b pos) (TD G W (x2 fAddN f g)) := de_op op_catR (ov_addN A.ok) ha hb
/-! ### slices -/
def fSlF (d : D) (lo hi : Option Int) (S : Sg) : R D := match seqOf S d with
  | some xs => .ok (.clist (cutD xs lo hi)) S
  | none => fSl d lo hi S
def xSlF (f : FE) (l h : FO) : FE := fun ρ S => (f ρ S).bind fun d S1 => (l ρ S1).bind fun lo S2 => (h ρ S2).bind fun hi S3 => fSlF d lo hi S3
theorem ov_slF (g : G.Ok) {μ : List Addr} {S : Sg} {H : Hp} {x : V} {d : D} {lo hi : Option Int} {σ : L2.St} {Q : VK} (rp : Rep G μ S H) (hx : Den G μ H d x) (po : Post (Den G) G W μ H σ (fSlF d lo hi S) Q) : rSlL G.K x lo hi H (FQ Q) ∨ rSlA G.K x lo hi H (FQ Q) := by
  unfold fSlF at po
  split at po
  · rename_i xs e1
    obtain ⟨a, vs, rfl, h1, h2⟩ := rd_den rp hx e1
    exact .inl ⟨a, vs, rfl, .inl h1, fun p hp => post_lstF g rp (h2.cut lo hi) po hp⟩
  · exact ov_sl g rp hx (post_fq po)
theorem de_sliceF {e : Expr} {lo hi : Option Expr} {p2 pos : Pos} {f : FE} {l h : FO} (A : Amb G X W) (he : PE X e (TD G W f)) (hl : PO X lo (TDO G W l)) (hh : PO X hi (TDO G W h)) : PE X (.Subscript e (.Slice lo hi none p2) pos) (TD G W (xSlF f l h)) := by
  have hr : SlR X (fun x lo hi H Q => rSlL G.K x lo hi H Q ∨ rSlA G.K x lo hi H Q) := by
    have := (sl_list (X := X)).or sl_tupA
    rw [A.hK] at this
    exact this
  refine PE.imp (pe_frz (pe_slice hr he hl hh)) fun σ H Q q => ?_
  obtain ⟨μ, ρ, S, en, rp, p⟩ := q
  refine ⟨μ, ρ, S, en, rp, (post_bind p).mono fun x H1 ⟨μ1, d, S1, pe1, rp1, dd, p1⟩ => ?_⟩
  refine ⟨μ1, ρ, S1, en.per pe1, rp1, (post_bind p1).mono fun lo' H2 ⟨μ2, lo, S2, pe2, rp2, el, p2⟩ => ?_⟩
  refine ⟨μ2, ρ, S2, (en.per pe1).per pe2, rp2, (post_bind p2).mono fun hi' H3 ⟨μ3, hi, S3, pe3, rp3, eh, p3⟩ => ?_⟩
  cases el
  cases eh
  exact ov_slF A.ok rp3 ((dd.per pe2).per pe3) p3
/-! ### built-ins -/
def CallVF (G : Gx) (W : WX) (r : List V → Hp → VK → Prop) (h : CV) : Prop := ∀ μ S H xs ds σ Q, Rep G μ S H → DenA G μ H ds xs → Post (Den G) G W μ H σ (h ds S) Q → r xs H (FQ Q)
theorem td_cbF {r : List V → Hp → VK → Prop} {h : CV} {g : FA} (o : CallVF G W r h) {σ : L2.St} {H : Hp} {Q : VK} (q : TD G W (xB h g) σ H Q) : tCB r (TDA G W g) σ H (FQ Q) := by
  obtain ⟨μ, ρ, S, en, rp, po⟩ := q
  exact ⟨μ, ρ, S, en, rp, (post_bind po).mono fun vs H1 ⟨μ1, ds, S1, pe, rp1, dd, p1⟩ => o _ _ _ _ _ _ _ rp1 dd p1⟩
theorem de_callBF {x : Str} {id : String} {p pos : Pos} {e : Expr} {es : List Expr} {g : FA} {r : List V → Hp → VK → Prop} {h : CV} (hc : CallR X (.builtin id) r) (o : CallVF G W r h) (hm : X.mg x = none) (hv : bootBuiltins x = some (.builtin id)) (ha : PA X (e :: es) (TDA G W g)) (hg : Gl X x := by rfl)
    (hn : x ≠ "__name__" := by decide) (hdb : (x == ("__debug__" : Str)) = false := by decide) (he : starEach (e :: es) X.env = (false, eval e X.env) :: starEach es X.env := by rfl) (hpl : (backTo pos (starEach es X.env)).any (·.1) = false := by rfl) :
    PE X (.Call (.Name x p) (e :: es) [] pos) (TD G W (xB h g)) := PE.imp (pe_frz (pe_callB hc hg hm hv ha hn hdb he hpl)) fun σ H Q q => td_cbF o q
theorem de_callTyF {x : Str} {T : String} {p pos : Pos} {e : Expr} {es : List Expr} {g : FA} {r : List V → Hp → VK → Prop} {h : CV} (hc : CallR X (.type T) r) (o : CallVF G W r h) (hm : X.mg x = none) (hv : bootBuiltins x = some (.type T)) (ha : PA X (e :: es) (TDA G W g)) (hg : Gl X x := by rfl)
    (hn : x ≠ "__name__" := by decide) (hdb : (x == ("__debug__" : Str)) = false := by decide) (he : starEach (e :: es) X.env = (false, eval e X.env) :: starEach es X.env := by rfl) (hpl : (backTo pos (starEach es X.env)).any (·.1) = false := by rfl) :
    PE X (.Call (.Name x p) (e :: es) [] pos) (TD G W (xB h g)) := PE.imp (pe_frz (pe_callTy hc hg hm hv ha hn hdb he hpl)) fun σ H Q q => td_cbF o q
/-- a new list is locked -/
def frzR (S : Sg) : R D → R D
  | .ok (.ref n) S1 => match S1[n]? with
    | some (.lst xs) => .ok (.clist xs) S
    | _ => .stuck
  | _ => .stuck
def cListF : CV := fun ds S => match ds with
  | [d] => match itemsD S d with
    | some xs => .ok (.clist xs) S
    | none => match d with
      | .ref n => match S[n]? with
        | some (.dtt kvs) => if (kvs.all fun kv => kv.1.all keyOk) = true then .ok (.clist (kvs.map fun kv => .tup (kv.1.map ofKey))) S else .stuck
        | some (.dct kvs) => if (kvs.all fun kv => keyOk kv.1) = true then .ok (.clist (kvs.map fun kv => ofKey kv.1)) S else .stuck
        | _ => .stuck
      | _ => .stuck
  | _ => .stuck
theorem cv_listF (g : G.Ok) : CallVF G W (rListAny G.K) cListF := by
  intro μ S H xs ds σ Q rp dd po
  unfold cListF at po
  split at po
  · cases dd with
    | cons d1 t =>
      cases t
      split at po
      · rename_i ys e
        obtain ⟨a, vs, rfl, h1, h2⟩ := items_den rp d1 e
        exact .inl ⟨a, vs, rfl, h1, fun l hl => post_lstF g rp h2 po hl⟩
      · split at po
        · cases d1 with
          | ref hn =>
            split at po
            · rename_i kvs eo
              obtain ⟨c, po⟩ := post_ite po
              obtain ⟨gs, h1, h2, h3⟩ := rp.obj hn eo
              exact .inr (.inl ⟨_, gs, rfl, .inl h1, fun p bs hp ik => post_lstF g rp (keysT_den h2 c ik) po hp⟩)
            · rename_i kvs eo
              obtain ⟨c, po⟩ := post_ite po
              obtain ⟨gs, h1, h2, h3⟩ := rp.obj hn eo
              refine .inr (.inr ⟨_, gs, rfl, h1, fun p hp => post_lstF g rp ?_ po hp⟩)
              have e1 : gs.map (fun kv => kV kv.1) = (kvs.map (·.1)).map kV := by rw [← h2, List.map_map]; rfl
              have e2 : kvs.map (fun kv => ofKey kv.1) = (kvs.map (·.1)).map ofKey := by rw [List.map_map]; rfl
              rw [e1, e2]
              refine ofKeys_den ?_
              rw [List.all_map]
              exact c
            · exact po.elim
        · exact po.elim
  · exact po.elim
theorem de_listF {e : Expr} {p pos : Pos} {g : FA} (A : Amb G X W) (hc : X.calm = true) (hm : X.mg "list" = none) (ha : PA X [e] (TDA G W g)) (hg : Gl X "list" := by rfl) (he : starEach [e] X.env = (false, eval e X.env) :: starEach [] X.env := by rfl) (hpl : (backTo pos (starEach [] X.env)).any (·.1) = false := by rfl) : PE X (.Call (.Name "list" p) [e] [] pos) (TD G W (xB cListF g)) :=
  de_callTyF (r := rListAny G.K) (by have := (call_list_of (X := X)).or ((call_list_dT hc).or (call_list_dK hc)); rw [A.hK] at this; exact this) (cv_listF A.ok) hm PyProof.Rows.boot_list ha hg (by decide) (by decide) he hpl
def cSortedF : CV := fun ds S => match ds with
  | [d] => match seqOf S d with
    | some xs => if xs.all (fun x => match keyT x with
        | some (_ :: _) => true
        | _ => false) = true then .ok (.clist (insSort leT xs)) S
      else match intsOf xs with
        | some ns => .ok (.clist ((insSort (fun i j => decide (i ≤ j)) ns).map .int)) S
        | none => .stuck
    | none => .stuck
  | _ => .stuck
theorem cv_sortedF (g : G.Ok) : CallVF G W (fun vs H Q => rSortedG encK (fun x y => !ltKs y x) G.K vs H Q ∨ rSortedG PyData.int (fun x y => decide (x ≤ y)) G.K vs H Q) cSortedF := by
  intro μ S H xs ds σ Q rp dd po
  unfold cSortedF at po
  split at po
  · cases dd with
    | cons d1 t =>
      cases t
      split at po
      · rename_i ys e
        obtain ⟨a, vs, rfl, h1, h2⟩ := seq_den rp d1 e
        obtain ⟨z1, z2⟩ := zip_fst h2
        split at po
        · rename_i hk
          have hk' : ∀ p ∈ ys.zip vs, ∃ k r, keyT p.1 = some (k :: r) := fun p hp => by
            have hm : p.1 ∈ ys := by rw [← z1]; exact List.mem_map_of_mem hp
            have := List.all_eq_true.mp hk _ hm
            split at this
            · rename_i k r e2; exact ⟨k, r, e2⟩
            · cases this
          let bs : List (List String × V) := (ys.zip vs).map fun p => ((keyT p.1).getD [], p.2)
          have eb2 : bs.map (·.2) = vs := by rw [List.map_map]; exact z2
          refine .inl ⟨a, bs, rfl, by rw [eb2]; exact h1, fun b hb => ?_, fun x _ y _ => by rw [encK_lt], fun d hd d' hd' => ?_, .inl fun d hd => ?_, fun b hb => ?_, fun p hp => ?_⟩
          · obtain ⟨q, hq, rfl⟩ := List.mem_map.mp hb
            obtain ⟨k, r, ek⟩ := hk' q hq
            show Dp G.K H q.2 (encK ((keyT q.1).getD []))
            rw [ek]
            exact keyT_den (den_zip h2 q hq) ek
          · obtain ⟨b, _, rfl⟩ := List.mem_map.mp hd
            obtain ⟨b', _, rfl⟩ := List.mem_map.mp hd'
            show alike (.tuple _) (.tuple _) = true
            rw [alike]
            exact alike_strs _ _
          · obtain ⟨b, hb, rfl⟩ := List.mem_map.mp hd
            obtain ⟨q, hq, rfl⟩ := List.mem_map.mp hb
            obtain ⟨k, r, ek⟩ := hk' q hq
            refine ⟨encS k, r.map encS, ?_⟩
            show encK ((keyT q.1).getD []) = _
            rw [ek]
            rfl
          · show (PyData.tuple _).depth ≤ 8
            rw [PyData.depth, depth_strs]
            decide
          · have em : (insSort (fun x y : List String × V => !ltKs y.1 x.1) bs).map (·.2) = (insSort (fun x y : D × V => leT x.1 y.1) (ys.zip vs)).map (·.2) := by
              rw [← insSort_map (le := fun x y : D × V => leT x.1 y.1) (fun p : D × V => ((keyT p.1).getD [], p.2)) _ fun x _ y _ => rfl, List.map_map]
              rfl
            have ed : insSort leT ys = (insSort (fun x y : D × V => leT x.1 y.1) (ys.zip vs)).map (·.1) := by
              rw [insSort_map (le' := leT) (fun p : D × V => p.1) _ fun x _ y _ => rfl, z1]
            rw [em]
            rw [ed] at po
            exact post_lstF g rp (zip_den fun p hp => den_zip h2 p ((insSort_perm _ _).mem_iff.mp hp)) po hp
        · split at po
          · rename_i ns en
            have ev := ints_den h2 en
            refine .inr ⟨a, ns.map fun i => (i, V.int i), rfl, by rw [List.map_map]; rw [ev] at h1; exact h1, fun b hb => ?_, fun x _ y _ => ?_, fun d hd d' hd' => ?_, .inr fun d hd => ?_, fun b hb => ?_, fun p hp => ?_⟩
            · obtain ⟨i, _, rfl⟩ := List.mem_map.mp hb
              exact .int i
            · show (!dataLt (.int y.1) (.int x.1)) = decide (x.1 ≤ y.1)
              rw [dataLt_int, not_lt_int]
            · obtain ⟨b, _, rfl⟩ := List.mem_map.mp hd
              obtain ⟨b', _, rfl⟩ := List.mem_map.mp hd'
              rfl
            · obtain ⟨b, _, rfl⟩ := List.mem_map.mp hd
              exact ⟨fun z => (nomatch z), fun _ z => (nomatch z)⟩
            · show (PyData.int _).depth ≤ 8
              rw [PyData.depth]
              decide
            · have em : (insSort (fun x y : Int × V => decide (x.1 ≤ y.1)) (ns.map fun i => (i, V.int i))).map (·.2) = (insSort (fun i j => decide (i ≤ j)) ns).map V.int := by
                rw [← insSort_map (le := fun i j : Int => decide (i ≤ j)) (fun i : Int => (i, V.int i)) _ fun x _ y _ => rfl, List.map_map]
                rfl
              rw [em]
              refine post_lstF g rp ?_ po hp
              have : ∀ l : List Int, DenA G μ H (l.map D.int) (l.map V.int) := fun l => by
                induction l with
                | nil => exact .nil
                | cons i l ih => exact .cons (.int i) ih
              exact this _
          · exact po.elim
      · exact po.elim
  · exact po.elim
theorem de_sortedF {e : Expr} {p pos : Pos} {g : FA} (A : Amb G X W) (hm : X.mg "sorted" = none) (ha : PA X [e] (TDA G W g)) (hg : Gl X "sorted" := by rfl) (he : starEach [e] X.env = (false, eval e X.env) :: starEach [] X.env := by rfl) (hpl : (backTo pos (starEach [] X.env)).any (·.1) = false := by rfl) : PE X (.Call (.Name "sorted" p) [e] [] pos) (TD G W (xB cSortedF g)) :=
  de_callBF (r := fun vs H Q => rSortedG encK (fun x y => !ltKs y x) G.K vs H Q ∨ rSortedG PyData.int (fun x y => decide (x ≤ y)) G.K vs H Q) (by have := (cr_sortedG (X := X) (enc := encK) (le := fun x y => !ltKs y x) A.hu).or (cr_sortedG (enc := PyData.int) (le := fun x y => decide (x ≤ y)) A.hu); rw [A.hK] at this; exact this) (cv_sortedF A.ok) hm PyProof.Rows.boot_sorted ha hg (by decide) (by decide) he hpl
end Dx

/-! Dx20: comprehensions whose list is locked. -/
namespace Dx
open PySem PySem.Spec L2
variable {G : Gx} {X : Cx} {W : WX}
def lcGoF (src : Src) (tg : FG) (t : FT) (e : FE) (ρ : Ev) : Nat → Nat → List D → Sg → R D
  | 0, i, acc, S => match srcAt S src i with
    | some none => .ok (.clist acc) S
    | _ => .stuck
  | k + 1, i, acc, S => match srcAt S src i with
    | some (some d) => match tg d ρ with
      | some ρ1 => (t ρ1 S).nox.bind fun b S2 => match b with
        | true => (e ρ1 S2).nox.bind fun y S3 => if acc.length < 16777216 then lcGoF src tg t e ρ k (i + 1) (acc ++ [y]) S3 else .stuck
        | false => lcGoF src tg t e ρ k (i + 1) acc S2
      | none => .stuck
    | some none => .ok (.clist acc) S
    | none => .stuck
def xLcF (vs : List Nat) (fs : FI) (tg : FG) (t : FT) (e : FE) : FE := fun ρ S => (fs ρ S).bind fun src S1 => lcGoF src tg t e (wipeD ρ vs) (srcLen S1 src) 0 [] S1
/-- the reading of a comprehension -/
theorem lc_readF {vs : List Nat} {wi : TI} {fs : FI} {fg : FG} {tgr : TG} {t : FT} {e : FE} {σ : L2.St} {H : Hp} {Q Q' : VK} (hq : ∀ v H', FQ Q v H' → Q' v H') (ok : G.Ok) (wi' : ∀ σ H R, TDg (SrcOk G) G W fs σ H R → wi σ H R) (gt : GT G vs fg tgr) (q : TD G W (xLcF vs fs fg t e) σ H Q) :
    tLc wi tgr (TDT G W0 t) (TD G W0 e) vs σ H Q' := by
  obtain ⟨μ, ρ, S, en, rp, po⟩ := q
  refine wi' σ H _ ⟨μ, ρ, S, en, rp, (post_bind (rel := SrcOk G) po).mono fun J H1 ⟨μ1, src, S1, pe, rp1, so, p1⟩ => fun D hD => ?_⟩
  refine ⟨fun i m H => ∃ μ S acc us, Rep G μ S H ∧ Per G μ1 H1 μ H ∧ EnvD G μ H (wipeD ρ vs) (wipe σ vs) ∧ SrcOk G μ H src J ∧ H D = some (.lst us) ∧ (∀ n : Nat, μ[n]? ≠ some D) ∧ DenA G μ H acc us ∧ Post (Den G) G W μ1 H1 σ (lcGoF src fg t e (wipeD ρ vs) m i acc S) Q, ⟨srcLen S1 src, μ1, S1, [], [], ?_⟩, ?_⟩
  · have pn : Per G μ1 H1 μ1 (upd H1 D (.lst [])) := per_new ok hD
    refine ⟨rp1.new ok hD, pn, ((en.per pe).per pn).wipe vs, so.per pn, upd_same, fun n z => ?_, .nil, p1⟩
    obtain ⟨o, eo, ro⟩ := rp1.there z
    obtain ⟨w, e, _⟩ := ro.some
    rw [hD] at e; cases e
  · rintro i m H2 ⟨μ2, S2, acc, us, rp2, pe2, en2, so2, hD2, nD2, da2, p2⟩
    have so3 := so2 μ2 H2 S2 i .refl rp2
    have stop : srcAt S2 src i = some none → Post (Den G) G W μ1 H1 σ (.ok (.clist acc) S2) Q → (J.stop i H2 ∧ Q' (.ref D) H2) := fun e p => by
      refine ⟨so3.1 e, hq _ _ (.inr ⟨D, .lst us, rfl, hD2, trivial, fun od => ?_⟩)⟩
      have ne : ∀ (n : Nat) (a : Addr), μ2[n]? = some a → a ≠ D := fun n a h z => nD2 n (by rw [h, z])
      have stay : ∀ (b : Addr) (u : HO), b ≠ D → H2 b = some u → (upd H2 D (.frz od (.lst us))) b = some u := fun b u hb h => by rw [upd_ne hb]; exact h
      have neT : ∀ (a : Addr) (xs : List V), H2 a = some (.tup xs) → (upd H2 D (.frz od (.lst us))) a = some (.tup xs) := fun a xs h => stay a _ (fun z => by rw [z, hD2] at h; cases h) h
      have neF : ∀ (a : Addr) (q : Obj) (u : HO), H2 a = some (.frz q u) → (upd H2 D (.frz od (.lst us))) a = some (.frz q u) := fun a q u h => stay a _ (fun z => by rw [z, hD2] at h; cases h) h
      have neC : ∀ (n : Ci) (a : Addr), G.clo n a H2 → G.clo n a (upd H2 D (.frz od (.lst us))) := fun n a h => ok.clo_mut n a H2 D _ _ hD2 trivial (fun _ z => nomatch z) h
      have pe5 : Per G μ1 H1 μ2 (upd H2 D (.frz od (.lst us))) :=
        ⟨pe2.ext, fun a xs h => stay a _ (ne_of_none h hD) (pe2.tup a xs h), fun a q u h => stay a _ (ne_of_none h hD) (pe2.frz a q u h), fun n a h => neC n a (pe2.clo n a h),
          fun a u h t k => ⟨stay a _ (ne_of_none h hD) (pe2.fr a u h t k).1, (pe2.fr a u h t k).2⟩⟩
      exact p μ2 _ _ pe5 ⟨rp2.len, rp2.nd, fun n o a h1 h2 => (rp2.at_ n o a h1 h2).heap (upd_ne (ne n a h2)) neF neT neC, tabs_mut rp2.tabs hD2 trivial (fun _ z => nomatch z)⟩ (.clist ⟨od, upd_same⟩ (da2.heap neT neF neC))
    cases m with
    | zero =>
      simp only [lcGoF] at p2
      split at p2
      · rename_i e
        exact .inl (stop e p2)
      · exact p2.elim
    | succ k =>
      simp only [lcGoF] at p2
      split at p2
      · rename_i d ed
        split at p2
        · rename_i ρ3 e3
          obtain ⟨go, yl⟩ := so3.2 d ed
          refine .inr ⟨go, fun H => ∃ μ S acc us, Rep G μ S H ∧ Per G μ1 H1 μ H ∧ EnvD G μ H (wipeD ρ vs) (wipe σ vs) ∧ SrcOk G μ H src J ∧ H D = some (.lst us) ∧ (∀ n : Nat, μ[n]? ≠ some D) ∧ DenA G μ H acc us ∧ Post (Den G) G W μ1 H1 σ (lcGoF src fg t e (wipeD ρ vs) k (i + 1) acc S) Q, fun H' q => ⟨k, Nat.lt_succ_self k, q⟩, fun x H' y => ?_⟩
          obtain ⟨pe', rp', dx⟩ := yl x H' y
          refine gt μ2 H' (wipeD ρ vs) (wipe σ vs) S2 d x ρ3 _ (en2.per pe') rp' dx e3 fun σ' en' hw => ⟨?_, ?_⟩
          · rw [hw]
            have : ∀ (l : List Nat) (τ : L2.St), wipe (wipe τ l) l = wipe τ l := by
              intro l
              have key : ∀ (l : List Nat) (τ : L2.St), (∀ j ∈ l, ∀ o, τ[j]? = some o → o = none) → wipe τ l = τ := by
                intro l
                induction l with
                | nil => intro τ _; rfl
                | cons v l ih =>
                  intro τ h
                  unfold wipe
                  rw [ih τ fun j hj => h j (by simp [hj])]
                  refine List.ext_getElem? fun j => ?_
                  by_cases hj : j = v
                  · subst hj
                    by_cases hl : j < τ.length
                    · rw [List.getElem?_set_self hl]
                      have := h j (by simp) τ[j] (by simp [hl])
                      simp [hl, this]
                    · rw [List.getElem?_eq_none (by simp; omega), List.getElem?_eq_none (by omega)]
                  · rw [List.getElem?_set_ne (Ne.symm hj)]
              intro τ
              refine key l _ fun j hj o ho => ?_
              cases o with
              | none => rfl
              | some x => exact absurd hj (wipe_some ho).2
            exact this vs σ
          · refine ⟨μ2, ρ3, S2, en', rp', (post_base p2).mono fun b H3 ⟨μ3, b', S3, pe3, rp3, eb, p3⟩ => ?_⟩
            have ek : b' = b := eb
            subst ek
            obtain ⟨hD', nD'⟩ := pe'.fr D _ hD2 (fun _ z => nomatch z) nD2
            obtain ⟨hD3, nD3⟩ := pe3.fr D _ hD' (fun _ z => nomatch z) nD'
            have pe13 := (pe2.trans pe').trans pe3
            cases b' with
            | false =>
              rw [if_neg Bool.false_ne_true]
              exact ⟨μ3, S3, acc, us, rp3, pe13, (en2.per pe').per pe3, (so2.per pe').per pe3, hD3, nD3, (da2.per pe').per pe3, p3⟩
            | true =>
              rw [if_pos rfl]
              refine ⟨μ3, ρ3, S3, en'.per pe3, rp3, (post_base p3).mono fun yv H4 ⟨μ4, yd, S4, pe4, rp4, dy, p4⟩ => ?_⟩
              obtain ⟨hl, p5⟩ := post_ite p4
              obtain ⟨hD4, nD4⟩ := pe4.fr D _ hD3 (fun _ z => nomatch z) nD3
              have da4 := ((da2.per pe').per pe3).per pe4
              refine ⟨us, hD4, by rw [sl_eq, ← da2.length]; exact hl, ?_⟩
              have pw : Per G μ4 H4 μ4 (upd H4 D (.lst (us ++ [yv]))) → True := fun _ => trivial
              have ne : ∀ (n : Nat) (a : Addr), μ4[n]? = some a → a ≠ D := fun n a h z => nD4 n (by rw [h, z])
              have stay : ∀ (b : Addr) (u : HO), b ≠ D → H4 b = some u → (upd H4 D (.lst (us ++ [yv]))) b = some u := fun b u hb h => by rw [upd_ne hb]; exact h
              -- the list itself grows: nothing else is touched
              have pe5 : ∀ {μ0 H0}, Per G μ0 H0 μ4 H4 → H0 D = none → Per G μ0 H0 μ4 (upd H4 D (.lst (us ++ [yv]))) := fun {μ0 H0} p h0 =>
                ⟨p.ext, fun a xs h => stay a _ (ne_of_none h h0) (p.tup a xs h), fun a q u h => stay a _ (ne_of_none h h0) (p.frz a q u h), fun n a h => ok.clo_mut n a H4 D _ _ hD4 trivial (fun _ z => nomatch z) (p.clo n a h),
                  fun a u h t k => ⟨stay a _ (ne_of_none h h0) (p.fr a u h t k).1, (p.fr a u h t k).2⟩⟩
              -- what was told at μ4, H4 stands
              have up5 : ∀ {d : Dx.D} {v : V}, Den G μ4 H4 d v → Den G μ4 (upd H4 D (.lst (us ++ [yv]))) d v := fun h => h.heap (fun a xs h => stay a _ (fun z => by rw [z, hD4] at h; cases h) h) (fun a q u h => stay a _ (fun z => by rw [z, hD4] at h; cases h) h) fun n a h => ok.clo_mut n a H4 D _ _ hD4 trivial (fun _ z => nomatch z) h
              have up5A : ∀ {ds : List Dx.D} {vs : List V}, DenA G μ4 H4 ds vs → DenA G μ4 (upd H4 D (.lst (us ++ [yv]))) ds vs := fun h => h.heap (fun a xs h => stay a _ (fun z => by rw [z, hD4] at h; cases h) h) (fun a q u h => stay a _ (fun z => by rw [z, hD4] at h; cases h) h) fun n a h => ok.clo_mut n a H4 D _ _ hD4 trivial (fun _ z => nomatch z) h
              have rp5 : Rep G μ4 S4 (upd H4 D (.lst (us ++ [yv]))) := ⟨rp4.len, rp4.nd, fun n o a h1 h2 => (rp4.at_ n o a h1 h2).heap (upd_ne (ne n a h2)) (fun a q u h => stay a _ (fun z => by rw [z, hD4] at h; cases h) h) (fun a xs h => stay a _ (fun z => by rw [z, hD4] at h; cases h) h) fun n a h => ok.clo_mut n a H4 D _ _ hD4 trivial (fun _ z => nomatch z) h, tabs_mut rp4.tabs hD4 trivial (fun _ z => nomatch z)⟩
              have so5 : SrcOk G μ4 (upd H4 D (.lst (us ++ [yv]))) src J := so.per (pe5 (pe13.trans pe4) hD)
              exact ⟨μ4, S4, acc ++ [yd], us ++ [yv], rp5, pe5 (pe13.trans pe4) hD, ⟨((en2.per pe').per pe3).len, fun j d h => let ⟨v, h1, h2⟩ := (((en2.per pe').per pe3).per pe4).at_ j d h; ⟨v, h1, up5 h2⟩⟩, so5, upd_same, nD4, up5A (da4.snoc dy), p5⟩
        · exact p2.elim
      · rename_i e
        exact .inl (stop e p2)
      · exact p2.elim

theorem de_lcF {elt tg iter : Expr} {ifs : List Expr} {scope : Scope} {own : List (Str × Nat)} {pos : Pos} {fs : FI} {fg : FG} {t : FT} {e : FE} (hc : X.calm = true) (hN : X.N.Nodup) (A : Amb G X W) (hi : DI X G W tg iter fs) (ok : BlkOk X.N X.env.scope scope own)
    (gt : ∀ (s : Shared) (H : Hp) (C : Addr) (cl : List (Str × Addr)) (fp : List Addr), DG (X.blk s H scope (compEnvC scope cl C X.env) fp) G (own.map (·.2)) tg fg)
    (ht : ∀ (s : Shared) (H : Hp) (C : Addr) (cl : List (Str × Addr)) (fp : List Addr), PTs (X.blk s H scope (compEnvC scope cl C X.env) fp) ifs (TDT G W0 t))
    (he : ∀ (s : Shared) (H : Hp) (C : Addr) (cl : List (Str × Addr)) (fp : List Addr), PE (X.blk s H scope (compEnvC scope cl C X.env) fp) elt (TD G W0 e)) (hs : ∀ x, foldedSetIterable iter X.env x = pure x := by intro _; rfl) :
    PE X (.ListComp elt [⟨tg, iter, ifs, 0⟩] scope pos) (TD G W (xLcF (own.map (·.2)) fs fg t e)) := by
  obtain ⟨wi, pi, wi'⟩ := hi
  have key : ∃ tgr : TG, (∀ (s : Shared) (H : Hp) (C : Addr) (cl : List (Str × Addr)) (fp : List Addr), PG (X.blk s H scope (compEnvC scope cl C X.env) fp) tg tgr) ∧ GT G (own.map (·.2)) fg tgr := by
    refine ⟨fun v σ H Q => ∃ μ ρ S d ρ', EnvD G μ H ρ σ ∧ Rep G μ S H ∧ Den G μ H d v ∧ fg d ρ = some ρ' ∧ ∀ σ', EnvD G μ H ρ' σ' → wipe σ' (own.map (·.2)) = wipe σ (own.map (·.2)) → Q σ' H, fun s H C cl fp => ?_, fun μ H ρ σ S d v ρ' Q en rp dd e1 k => ⟨μ, ρ, S, d, ρ', en, rp, dd, e1, k⟩⟩
    obtain ⟨t0, p0, g0⟩ := gt s H C cl fp
    exact ⟨fun pins s σ H v u Q I r ⟨μ, ρ, S, d, ρ', en, rp, dd, e1, k⟩ => p0.run pins s σ H v u Q I r (g0 μ H ρ σ S d v ρ' Q en rp dd e1 k)⟩
  obtain ⟨tgr, pg, gt'⟩ := key
  exact PE.imp (pe_frz (pe_lc hc hN pi ok pg ht he hs)) fun σ H Q q => lc_readF (fun _ _ h => h) A.ok wi' gt' q
/-- y = [.. for ..] on one line, y a local -/
theorem ds_setLcF {i : Nat} {y : Str} {py : Pos} {elt tg iter : Expr} {ifs : List Expr} {scope : Scope} {own : List (Str × Nat)} {pos spos : Pos} {fs : FI} {fg : FG} {t : FT} {e : FE} (hc : X.calm = true) (hN : X.N.Nodup) (A : Amb G X W)
    (hsw : swapsWith (.ListComp elt [⟨tg, iter, ifs, 0⟩] scope pos) (some (.Name y py)) spos.line X.env = pure true) (hi : DI X G W tg iter fs) (ok : BlkOk X.N X.env.scope scope own)
    (gt : ∀ (s : Shared) (H : Hp) (C : Addr) (cl : List (Str × Addr)) (fp : List Addr), DG (X.blk s H scope (compEnvC scope cl C X.env) fp) G (own.map (·.2)) tg fg)
    (ht : ∀ (s : Shared) (H : Hp) (C : Addr) (cl : List (Str × Addr)) (fp : List Addr), PTs (X.blk s H scope (compEnvC scope cl C X.env) fp) ifs (TDT G W0 t))
    (he : ∀ (s : Shared) (H : Hp) (C : Addr) (cl : List (Str × Addr)) (fp : List Addr), PE (X.blk s H scope (compEnvC scope cl C X.env) fp) elt (TD G W0 e)) (hs : ∀ x, foldedSetIterable iter X.env x = pure x := by intro _; rfl)
    (hy : X.N[i]? = some y := by rfl) (hyl : X.env.scope.names.lookup y = some .local := by rfl) :
    PS X (.Assign [.Name y py] (.ListComp elt [⟨tg, iter, ifs, 0⟩] scope pos) spos) (TDS G W (sSet i (xLcF (own.map (·.2)) fs fg t e))) := by
  obtain ⟨wi, pi, wi'⟩ := hi
  have key : ∃ tgr : TG, (∀ (s : Shared) (H : Hp) (C : Addr) (cl : List (Str × Addr)) (fp : List Addr), PG (X.blk s H scope (compEnvC scope cl C X.env) fp) tg tgr) ∧ GT G (own.map (·.2)) fg tgr := by
    refine ⟨fun v σ H Q => ∃ μ ρ S d ρ', EnvD G μ H ρ σ ∧ Rep G μ S H ∧ Den G μ H d v ∧ fg d ρ = some ρ' ∧ ∀ σ', EnvD G μ H ρ' σ' → wipe σ' (own.map (·.2)) = wipe σ (own.map (·.2)) → Q σ' H, fun s H C cl fp => ?_, fun μ H ρ σ S d v ρ' Q en rp dd e1 k => ⟨μ, ρ, S, d, ρ', en, rp, dd, e1, k⟩⟩
    obtain ⟨t0, p0, g0⟩ := gt s H C cl fp
    exact ⟨fun pins s σ H v u Q I r ⟨μ, ρ, S, d, ρ', en, rp, dd, e1, k⟩ => p0.run pins s σ H v u Q I r (g0 μ H ρ σ S d v ρ' Q en rp dd e1 k)⟩
  obtain ⟨tgr, pg, gt'⟩ := key
  refine PS.imp (ps_frz (ps_setLc hc hN hy hyl hsw pi ok pg ht he hs)) fun Z σ H ⟨μ, ρ, S, en, rp, po⟩ => ?_
  exact lc_readF (Q := fun v H' => Z.nx (σ.set i (some v)) H') (fun v H' q => q.imp id fun ⟨a, u, _, h1, h2, h3⟩ => ⟨a, u, h1, h2, h3⟩) A.ok wi' gt' ⟨μ, ρ, S, en, rp, (posts_go en po).mono fun v H1 ⟨μ1, d, S1, pe, rp1, dd, p1⟩ => PostS.now p1 rp1 ((en.per pe).set dd)⟩

end Dx

/-! Dx21: what a call has laid and nobody keeps is forgotten; dict displays that are used at once. -/
namespace Dx
open PySem PySem.Spec L2
variable {G : Gx} {X : Cx} {W : WX}
mutual
def bel (n : Nat) : D → Bool
  | .ref m => decide (m < n)
  | .tup xs => belA n xs
  | .ktup xs => belA n xs
  | .clist xs => belA n xs
  | .cdict _ xs => belA n xs
  | .non => true
  | .bl _ => true
  | .int _ => true
  | .str _ => true
  | .slist _ => true
  | .clo _ => true
  | .exv _ _ _ xs => belA n xs
def belA (n : Nat) : List D → Bool
  | [] => true
  | x :: xs => bel n x && belA n xs
end
def belO (n : Nat) : O → Bool
  | .lst xs => belA n xs
  | .dct kvs => belA n (kvs.map (·.2))
  | .dtt kvs => belA n (kvs.map (·.2))
  | .obj _ fs => belA n (fs.map (·.2))
section
variable {μ μ' : List Addr} {H H' : Hp}
mutual
theorem Den.bel : ∀ {d : D} {v : V}, Den G μ H d v → bel μ.length d = true
  | _, _, .non => by simp [Dx.bel]
  | _, _, .bl b => by simp [Dx.bel]
  | _, _, .int i => by simp [Dx.bel]
  | _, _, .str s => by simp [Dx.bel]
  | _, _, .tup h1 h2 => by simp only [Dx.bel]; exact DenA.bel h2
  | _, _, .ktup h1 h2 => by simp only [Dx.bel]; exact DenA.bel h2
  | _, _, .ref h => by simp only [Dx.bel]; exact decide_eq_true (List.getElem?_eq_some_iff.mp h).1
  | _, _, .clist h1 h2 => by simp only [Dx.bel]; exact DenA.bel h2
  | _, _, .slist h1 => by simp [Dx.bel]
  | _, _, .cdict h0 h1 h2 => by simp only [Dx.bel]; exact DenA.bel h2
  | _, _, .clo h => by simp [Dx.bel]
  | _, _, .exv0 => by simp [Dx.bel, belA]
  | _, _, .exv h1 h2 => by simp only [Dx.bel]; exact DenA.bel h2
theorem DenA.bel : ∀ {ds : List D} {vs : List V}, DenA G μ H ds vs → belA μ.length ds = true
  | _, _, .nil => by simp [belA]
  | _, _, .cons h t => by simp [belA, Den.bel h, DenA.bel t]
end
mutual
theorem Den.cut {n : Nat} : ∀ {d : D} {v : V}, Den G μ H d v → Dx.bel n d = true → Den G (μ.take n) H d v
  | _, _, .non, _ => .non
  | _, _, .bl b, _ => .bl b
  | _, _, .int i, _ => .int i
  | _, _, .str s, _ => .str s
  | _, _, .tup h1 h2, e => .tup h1 (DenA.cutN h2 (by simpa only [Dx.bel] using e))
  | _, _, .ktup h1 h2, e => .ktup h1 (DenA.cutN h2 (by simpa only [Dx.bel] using e))
  | _, _, .ref h, e => .ref (by rw [List.getElem?_take_of_lt (by simpa only [Dx.bel, decide_eq_true_eq] using e)]; exact h)
  | _, _, .clist h1 h2, e => .clist h1 (DenA.cutN h2 (by simpa only [Dx.bel] using e))
  | _, _, .slist h1, _ => .slist h1
  | _, _, .cdict h0 h1 h2, e => .cdict h0 h1 (DenA.cutN h2 (by simpa only [Dx.bel] using e))
  | _, _, .clo h, _ => .clo h
  | _, _, .exv0, _ => .exv0
  | _, _, .exv h1 h2, e => .exv h1 (DenA.cutN h2 (by simpa only [Dx.bel] using e))
theorem DenA.cutN {n : Nat} : ∀ {ds : List D} {vs : List V}, DenA G μ H ds vs → belA n ds = true → DenA G (μ.take n) H ds vs
  | _, _, .nil, _ => .nil
  | _, _, .cons h t, e => by
    simp only [belA, Bool.and_eq_true] at e
    exact .cons (Den.cut h e.1) (DenA.cutN t e.2)
end
theorem RepO.bel {a : Addr} : ∀ {o : O}, RepO G μ H a o → belO μ.length o = true
  | .lst _, ⟨vs, h, d⟩ => d.bel
  | .dct _, ⟨gs, h, d⟩ => d.2.bel
  | .dtt _, ⟨gs, h, d⟩ => d.2.bel
  | .obj _ _, ⟨dx, gs, h, d⟩ => d.2.bel
theorem RepO.cut {a : Addr} {n : Nat} : ∀ {o : O}, RepO G μ H a o → belO n o = true → RepO G (μ.take n) H a o
  | .lst _, ⟨vs, h, d⟩, e => ⟨vs, h, d.cutN e⟩
  | .dct _, ⟨gs, h, d⟩, e => ⟨gs, h, d.1, d.2.cutN e⟩
  | .dtt _, ⟨gs, h, d⟩, e => ⟨gs, h, d.1, d.2.cutN e⟩
  | .obj _ _, ⟨dx, gs, h, d⟩, e => ⟨dx, gs, h, d.1, d.2.cutN e⟩
end
/-- the older objects are what they were, or tell of older ones alone -/
def Keeps (S S1 : Sg) : Prop := ∀ (i : Nat) (o : O), S[i]? = some o → ∃ o', S1[i]? = some o' ∧ (o' = o ∨ belO S.length o' = true)
def frzN (n : Nat) (S1 : Sg) : D → R D
  | .ref k => match S1[k]? with
    | some (.lst xs) => if n ≤ k ∧ belA n xs = true then .ok (.clist xs) (S1.take n) else .stuck
    | _ => .stuck
  | _ => .stuck
open Classical in
noncomputable def gcR (S : Sg) : R D → R D
  | .ok d S1 => if S1.length = S.length then .ok d S1 else if Keeps S S1 then (if bel S.length d = true then .ok d (S1.take S.length) else frzN S.length S1 d) else .stuck
  | .exc c fs S1 => if S1.length = S.length then .exc c fs S1 else if Keeps S S1 ∧ belA S.length (fs.map (·.2)) = true then .exc c fs (S1.take S.length) else .stuck
  | .stuck => .stuck
noncomputable def gcF (F : FF) : FF := fun ds S => gcR S (F ds S)
section
variable {μ μ' : List Addr} {H H' : Hp} {S S1 : Sg} {σ : L2.St}
theorem per_cut (rp : Rep G μ S H) (pe : Per G μ H μ' H') : Per G μ H (μ'.take S.length) H' :=
  ⟨fun n a h => by rw [List.getElem?_take_of_lt (by rw [← rp.len]; exact (List.getElem?_eq_some_iff.mp h).1)]; exact pe.ext n a h, pe.tup, pe.frz, pe.clo, fun a u h t k => ⟨(pe.fr a u h t k).1, fun n z => by
    by_cases hn : n < S.length
    · rw [List.getElem?_take_of_lt hn] at z; exact (pe.fr a u h t k).2 n z
    · rw [List.getElem?_eq_none (by simp; omega)] at z; cases z⟩⟩
theorem rep_cut (rp : Rep G μ S H) (rp' : Rep G μ' S1 H') (k : Keeps S S1) (hl : S.length ≤ S1.length) : Rep G (μ'.take S.length) (S1.take S.length) H' := by
  have lt : ∀ {n : Nat} {α : Type} {l : List α} {x : α}, (l.take S.length)[n]? = some x → n < S.length ∧ l[n]? = some x := fun {n α l x} h => by
    by_cases hn : n < S.length
    · rw [List.getElem?_take_of_lt hn] at h; exact ⟨hn, h⟩
    · rw [List.getElem?_eq_none (by simp; omega)] at h; cases h
  refine ⟨by simp [rp'.len], fun i j a h1 h2 => rp'.nd i j a (lt h1).2 (lt h2).2, fun n o a h1 h2 => ?_, rp'.tabs⟩
  obtain ⟨hn, e1⟩ := lt h1
  obtain ⟨_, e2⟩ := lt h2
  have ro := rp'.at_ n o a e1 e2
  obtain ⟨o', e3, e4⟩ := k n S[n] (by simp [hn])
  rw [e1] at e3
  cases e3
  refine ro.cut ?_
  rcases e4 with e4 | e4
  · subst e4
    obtain ⟨b, _, rb⟩ := rp.addr (show S[n]? = some S[n] by simp [hn])
    have := rb.bel
    rw [rp.len] at this
    exact this
  · exact e4
theorem keeps_len (k : Keeps S S1) : S.length ≤ S1.length := by
  by_cases h : S.length = 0
  · omega
  · obtain ⟨o, e, _⟩ := k (S.length - 1) S[S.length - 1] (by simp)
    have := (List.getElem?_eq_some_iff.mp e).1
    omega
theorem gc_post {r : R D} {Q : VK} (rp : Rep G μ S H) (ok : G.Ok) (h : Post (Den G) G W μ H σ (gcR S r) Q) : Post (Den G) G W μ H σ r (FQ Q) := by
  cases r with
  | stuck => exact h
  | ok d S1 =>
    simp only [gcR] at h
    split at h
    · exact post_fq (r := .ok d S1) h
    · obtain ⟨k, h⟩ : Keeps S S1 ∧ Post (Den G) G W μ H σ (if bel S.length d = true then .ok d (S1.take S.length) else frzN S.length S1 d) Q := by
        by_cases hc : Keeps S S1
        · rw [if_pos hc] at h; exact ⟨hc, h⟩
        · rw [if_neg hc] at h; exact h.elim
      intro μ' H' b pe rp' db
      have pe2 := per_cut rp pe
      have rp2 := rep_cut rp rp' k (keeps_len k)
      split at h
      · rename_i hb
        exact .inl (h _ _ _ pe2 rp2 (db.cut hb))
      · unfold frzN at h
        split at h
        · rename_i m _ _
          split at h
          · rename_i xs e
            obtain ⟨⟨hk, hx⟩, h⟩ := post_ite h
            cases db with
            | @ref _ a hm =>
              obtain ⟨vs, h1, h2⟩ := rp'.obj hm e
              refine .inr ⟨a, .lst vs, rfl, h1, trivial, fun od => ?_⟩
              have nD : ∀ n : Nat, (μ'.take S.length)[n]? ≠ some a := fun n z => by
                by_cases hn : n < S.length
                · rw [List.getElem?_take_of_lt hn] at z
                  have := rp'.nd n m a z hm
                  omega
                · rw [List.getElem?_eq_none (by simp; omega)] at z; cases z
              have stay : ∀ (b : Addr) (u : HO), b ≠ a → H' b = some u → (upd H' a (.frz od (.lst vs))) b = some u := fun b u hb h => by rw [upd_ne hb]; exact h
              have neT : ∀ (b : Addr) (xs : List V), H' b = some (.tup xs) → (upd H' a (.frz od (.lst vs))) b = some (.tup xs) := fun b xs h => stay b _ (fun z => by rw [z, h1] at h; cases h) h
              have neF : ∀ (b : Addr) (q : Obj) (u : HO), H' b = some (.frz q u) → (upd H' a (.frz od (.lst vs))) b = some (.frz q u) := fun b q u h => stay b _ (fun z => by rw [z, h1] at h; cases h) h
              have neC : ∀ (n : Ci) (b : Addr), G.clo n b H' → G.clo n b (upd H' a (.frz od (.lst vs))) := fun n b h => ok.clo_mut n b H' a _ _ h1 trivial (fun _ z => nomatch z) h
              refine h (μ'.take S.length) _ _ ⟨pe2.ext, fun b xs h => neT b xs (pe2.tup b xs h), fun b q u h => neF b q u (pe2.frz b q u h), fun n b h => neC n b (pe2.clo n b h), fun b u h t k => ?_⟩ ⟨rp2.len, rp2.nd, fun n o b e1 e2 => (rp2.at_ n o b e1 e2).heap (upd_ne (fun z => nD n (by rw [e2, z]))) neF neT neC, tabs_mut rp2.tabs h1 trivial (fun _ z => nomatch z)⟩ (.clist ⟨od, upd_same⟩ ((h2.cutN hx).heap neT neF neC))
              obtain ⟨f1, f2⟩ := pe.fr b u h t k
              exact ⟨stay b u (fun z => f2 m (by rw [z]; exact hm)) f1, (pe2.fr b u h t k).2⟩
          · exact h.elim
        · exact h.elim
  | exc c fs S1 =>
    simp only [gcR] at h
    split at h
    · exact h
    · obtain ⟨⟨k, hb⟩, h⟩ : (Keeps S S1 ∧ belA S.length (fs.map (·.2)) = true) ∧ Post (Den G) G W μ H σ (.exc c fs (S1.take S.length)) Q := by
        by_cases hc : Keeps S S1 ∧ belA S.length (fs.map (·.2)) = true
        · rw [if_pos hc] at h; exact ⟨hc, h⟩
        · rw [if_neg hc] at h; exact h.elim
      intro μ' H' cls dd pe rp' ed
      refine h _ _ _ _ (per_cut rp pe) (rep_cut rp rp' k (keeps_len k)) ⟨ed.1, ed.2.imp id fun ⟨n, d, gs, e1, e2, e3⟩ => ⟨n, d, gs, e1, e2, e3.1, e3.2.cutN hb⟩⟩
end
theorem de_callG {x : Str} {p pos : Pos} {e : Expr} {es : List Expr} {g : FA} {F : FF} {k j n : Nat} (A : Amb G X W) (d : DefD X.prog X.w X.K X.mg X.base G j x n F) (hr : Room k X.A) (hk : j ≤ k) (ha : PA X (e :: es) (TDA G W g)) (hg : Gl X x := by rfl)
    (hdb : (x == ("__debug__" : Str)) = false := by decide) (he : starEach (e :: es) X.env = (false, eval e X.env) :: starEach es X.env := by rfl) (hpl : (backTo pos (starEach es X.env)).any (·.1) = false := by rfl) :
    PE X (.Call (.Name x p) (e :: es) [] pos) (TD G W (xCall (gcF F) n g)) := by
  obtain ⟨f, fd, ps, Fo, hm, hkp, hb⟩ := d.ex
  refine PE.imp (pe_frz (pe_callS Fo (hr.mono hk) hg hm hkp hb (fun σ => passAt A.tk σ) ha hdb he hpl)) fun σ H Q ⟨μ, ρ, S, en, rp, po⟩ => ⟨μ, ρ, S, en, rp, (post_bind po).mono fun vs H1 ⟨μ1, ds, S1, pe, rp1, dd, p1⟩ => ?_⟩
  obtain ⟨c, p2⟩ := post_ite p1
  refine ⟨by rw [← dd.length]; exact c, μ1, S1, ds, rp1, dd, ?_⟩
  have p3 := gc_post rp1 A.ok p2
  revert p3
  generalize F ds S1 = r
  intro p3
  cases r with
  | ok a S' => exact p3
  | exc c fs S' => exact p3
  | stuck => exact p3
theorem meth_readG {c n : Nat} {m : String} {F : FF} {f : FE} {g : FA} {σ : L2.St} {H : Hp} {Q : VK} (ok : G.Ok) (q : TD G W (xMeth c m n (gcF F) f g) σ H Q) : tMethS' (G.cls c) (Str.ofString m) (spD G (n + 1) F) (WE W) (TD G W f) (TDA G W g) σ H (FQ Q) := by
  obtain ⟨μ, ρ, S, en, rp, po⟩ := q
  refine ⟨μ, ρ, S, en, rp, (post_bind po).mono fun x H1 ⟨μ1, o, S1, pe, rp1, dd, p1⟩ => ?_⟩
  obtain ⟨c1, p2⟩ := post_ite p1
  obtain ⟨a, dx, fs, rfl, h1, h2⟩ := ins_den rp1 dd c1
  refine ⟨a, dx, fs, rfl, h1, h2, μ1, ρ, S1, en.per pe, rp1, (post_bind p2).mono fun vs H2 ⟨μ2, ds, S2, pe2, rp2, dv, p3⟩ => ?_⟩
  obtain ⟨c2, p4⟩ := post_ite p3
  refine ⟨by show vs.length + 1 = n + 1; rw [← dv.length, c2], μ2, S2, o :: ds, rp2, .cons (dd.per pe2) dv, ?_⟩
  have p5 := gc_post rp2 ok p4
  revert p5
  generalize F (o :: ds) S2 = r
  intro p5
  cases r with
  | ok a S' => exact p5
  | exc c fs S' => exact p5
  | stuck => exact p5
theorem de_methG {m : String} {pos apos : Pos} {o e : Expr} {es : List Expr} {f : FE} {g : FA} {F : FF} {k j n c : Nat} (A : Amb G X W) (cl : Cls X.K (G.cls c)) (d : MetD X.prog X.w X.K X.mg X.base G j c (Str.ofString m) n F) (hr : Room k X.A) (hk : j ≤ k) (ho : PE X o (TD G W f)) (ha : PA X (e :: es) (TDA G W g)) (pl : Sem Bool)
    (hst : starEach (e :: es) X.env = (false, eval e X.env) :: starEach es X.env := by rfl) (hpl : (backTo pos (starEach es X.env)).any (·.1) = false := by rfl)
    (ht : eval (.Call (.Attribute o (Str.ofString m) apos) (e :: es) [] pos) X.env = (do
      let ov ← eval o X.env
      standAt apos.atName
      let (f, first) ← holding [ov] (getMethod ov (Str.ofString m) pl)
      callWith pos f first (backTo pos (starEach (e :: es) X.env)) (backToKw pos (keywordEach [] X.env))) := by rfl) :
    PE X (.Call (.Attribute o (Str.ofString m) apos) (e :: es) [] pos) (TD G W (xMeth c m n (gcF F) f g)) := by
  obtain ⟨fa, fd, ps, Fo, hm, hb⟩ := d.ex
  exact PE.imp (pe_frz (pe_methS' (pl := pl) ho cl hm Fo (hr.mono hk) hb (fun σ => passAt A.tk σ) ha hst hpl ht)) fun σ H Q q => meth_readG A.ok q
theorem de_methG0 {m : String} {pos apos : Pos} {o : Expr} {f : FE} {F : FF} {k j c : Nat} (A : Amb G X W) (cl : Cls X.K (G.cls c)) (d : MetD X.prog X.w X.K X.mg X.base G j c (Str.ofString m) 0 F) (hr : Room k X.A) (hk : j ≤ k) (ho : PE X o (TD G W f)) (pl : Sem Bool)
    (ht : eval (.Call (.Attribute o (Str.ofString m) apos) [] [] pos) X.env = (do
      let ov ← eval o X.env
      standAt apos.atName
      let (f, first) ← holding [ov] (getMethod ov (Str.ofString m) pl)
      callWith pos f first (backTo pos (starEach [] X.env)) (backToKw pos (keywordEach [] X.env))) := by rfl) :
    PE X (.Call (.Attribute o (Str.ofString m) apos) [] [] pos) (TD G W (xMeth c m 0 (gcF F) f aNil)) := by
  obtain ⟨fa, fd, ps, Fo, hm, hb⟩ := d.ex
  refine PE.imp (pe_frz (pe_methS0 (pl := pl) ho cl hm Fo (hr.mono hk) hb (fun σ => passAt A.tk σ) ht)) fun σ H Q q => ?_
  obtain ⟨μ, ρ, S, en, rp, po⟩ := meth_readG A.ok q
  exact ⟨μ, ρ, S, en, rp, po.mono fun x H1 ⟨a, dx, fs, e1, e2, e3, q2⟩ => ⟨a, dx, fs, e1, e2, e3, by
    obtain ⟨μ2, ρ2, S2, en2, rp2, p2⟩ := q2
    exact p2 _ _ _ .refl rp2 .nil⟩⟩
/-! ### {..}[k], {..}.get(k, x) -/
def DcR (G : Gx) : Rel (List (Key × D)) V := fun μ H ps v => ∃ p gs, v = .ref p ∧ (∀ n : Nat, μ[n]? ≠ some p) ∧ H p = some (.dK gs) ∧ DenK G μ H (mergeD ps) gs
theorem de_dctR {keys : List (Option Expr)} {values : List Expr} {pos : Pos} {fs : List (Key × FE)} (A : Amb G X W) (h : DPs X G W pos keys values fs) (h0 : keys ≠ [] := by intro z; cases z) (h15 : keys.length ≤ 15 := by decide) : PE X (.Dict keys values pos) (TDg (DcR G) G W (dpGo fs)) := by
  obtain ⟨pp, ha, hl, hf⟩ := h
  refine PE.imp (pe_disp pp ha hl h0 h15) fun σ H Q ⟨μ, ρ, S, en, rp, po⟩ => fun p hp => ?_
  have pn : Per G μ H μ (upd H p (.dK [])) := per_new A.ok hp
  have np : ∀ n : Nat, μ[n]? ≠ some p := fun n z => by
    obtain ⟨o, eo, ro⟩ := rp.there z
    obtain ⟨w, e, _⟩ := ro.some
    rw [hp] at e; cases e
  refine dp_read (D0 := p) (u := .dK []) (μ0 := μ) (H0 := H) (Q := Q) (fun _ z => nomatch z) fs [] [] _ (rp.new A.ok hp) (en.per pn) upd_same np ?_ fun μ' H' S' ps qs pe rp' dk e => ?_
  · have := Post.per po pn
    revert this
    generalize dpGo fs ρ S = r2
    intro this
    cases r2 with
    | ok ps S2 => exact fun _ _ _ _ _ _ => trivial
    | exc c gs S' => exact this
    | stuck => exact this
  · obtain ⟨hp', np'⟩ := pe.fr p _ upd_same (fun _ z => nomatch z) np
    refine ⟨hp', qs, rfl, ?_, ?_⟩
    · have l1 : ∀ (fs : List (Key × FE)) (S : Sg) (ps : List (Key × D)) (S' : Sg), dpGo fs ρ S = .ok ps S' → ps.length = fs.length := by
        intro fs
        induction fs with
        | nil => intro S ps S' e; cases e; rfl
        | cons q fs ih =>
          intro S ps S' e
          obtain ⟨key, f⟩ := q
          unfold dpGo at e
          cases hr : f ρ S with
          | ok d S1 =>
            rw [hr] at e
            simp only [R.bind] at e
            cases hr2 : dpGo fs ρ S1 with
            | ok ps2 S2 => rw [hr2] at e; cases e; simp [ih S1 ps2 _ hr2]
            | exc c gs S' => rw [hr2] at e; cases e
            | stuck => rw [hr2] at e; cases e
          | exc c gs S' => rw [hr] at e; cases e
          | stuck => rw [hr] at e; cases e
      have := l1 fs S ps S' e
      have := dk.length
      omega
    · rw [e] at po
      have pw : Per G μ H μ' H' := pn.trans pe
      have dk2 := denK_merge dk (fs := []) (gs := []) ⟨rfl, .nil⟩
      have ne : ∀ (n : Nat) (a : Addr), μ'[n]? = some a → a ≠ p := fun n a h z => np' n (by rw [h, z])
      have stay : ∀ (b : Addr) (u : HO), b ≠ p → H' b = some u → (upd H' p (.dK (mergeK [] qs))) b = some u := fun b u hb h => by rw [upd_ne hb]; exact h
      have up5A : ∀ {ds : List Dx.D} {vs : List V}, DenA G μ' H' ds vs → DenA G μ' (upd H' p (.dK (mergeK [] qs))) ds vs := fun h => h.heap (fun a xs h => stay a _ (fun z => by rw [z, hp'] at h; cases h) h) (fun a q u h => stay a _ (fun z => by rw [z, hp'] at h; cases h) h) fun n a h => A.ok.clo_mut n a H' p _ _ hp' trivial (fun _ z => nomatch z) h
      have rp5 : Rep G μ' S' (upd H' p (.dK (mergeK [] qs))) := ⟨rp'.len, rp'.nd, fun n o a h1 h2 => (rp'.at_ n o a h1 h2).heap (upd_ne (ne n a h2)) (fun a q u h => stay a _ (fun z => by rw [z, hp'] at h; cases h) h) (fun a xs h => stay a _ (fun z => by rw [z, hp'] at h; cases h) h) fun n a h => A.ok.clo_mut n a H' p _ _ hp' trivial (fun _ z => nomatch z) h, tabs_mut rp'.tabs hp' trivial (fun _ z => nomatch z)⟩
      have pe5 : Per G μ H μ' (upd H' p (.dK (mergeK [] qs))) :=
        ⟨pw.ext, fun a xs h => stay a _ (ne_of_none h hp) (pw.tup a xs h), fun a q u h => stay a _ (ne_of_none h hp) (pw.frz a q u h), fun n a h => A.ok.clo_mut n a H' p _ _ hp' trivial (fun _ z => nomatch z) (pw.clo n a h),
          fun a u h t k => ⟨stay a _ (ne_of_none h hp) (pw.fr a u h t k).1, (pw.fr a u h t k).2⟩⟩
      exact po μ' _ _ pe5 rp5 ⟨p, _, rfl, np', upd_same, dk2.1, up5A dk2.2⟩
def xDcIx (fs : List (Key × FE)) (g : FE) : FE := fun ρ S => (dpGo fs ρ S).bind fun ps S1 => (g ρ S1).bind fun k S2 => outD S2 ((keyD k).bind (getK (mergeD ps)))
theorem de_dcIx {keys : List (Option Expr)} {values : List Expr} {b : Expr} {pos pos2 : Pos} {fs : List (Key × FE)} {g : FE} (A : Amb G X W) (h : DPs X G W pos keys values fs) (hb : PE X b (TD G W g)) (h0 : keys ≠ [] := by intro z; cases z) (h15 : keys.length ≤ 15 := by decide) (hs : PlainIx b := by exact fun _ _ => rfl) :
    PE X (.Subscript (.Dict keys values pos) b pos2) (TD G W (xDcIx fs g)) := by
  have hix : IxR X (rIxAll G.K G.w) := by have := ix_all (X := X) (by have := A.hu; omega); rw [A.hK, A.hw] at this; exact this
  refine PE.imp (pe_ix hix (de_dctR A h h0 h15) hb hs) fun σ H Q ⟨μ, ρ, S, en, rp, po⟩ => ⟨μ, ρ, S, en, rp, (post_bind po).mono fun v H1 ⟨μ1, ps, S1, pe, rp1, dc, p1⟩ => ?_⟩
  refine ⟨μ1, ρ, S1, en.per pe, rp1, (post_bind p1).mono fun y H2 ⟨μ2, k, S2, pe2, rp2, dk, p2⟩ => ?_⟩
  obtain ⟨p, gs, rfl, np, hp, dK⟩ := dc
  obtain ⟨hp2, np2⟩ := pe2.fr p _ hp (fun _ z => nomatch z) np
  obtain ⟨r, e1, p3⟩ := post_out p2
  obtain ⟨kk, e2, e3⟩ := Option.bind_eq_some_iff.mp e1
  have ek := key_den dk e2
  subst ek
  rcases denK_get kk (dK.per pe2) with ⟨a1, _⟩ | ⟨x, y, a1, a2, a3⟩
  · rw [e3] at a1; cases a1
  · rw [e3] at a1; cases a1
    exact .inr (.inl ⟨p, y, rfl, by rw [← a2]; exact DGet.k hp2, post_ok rp2 p3 a3⟩)
def xDcGet (fs : List (Key × FE)) (g h : FE) : FE := fun ρ S => (dpGo fs ρ S).bind fun ps S1 => (g ρ S1).bind fun k S2 => (h ρ S2).bind fun x S3 => match keyD k with
  | some kk => .ok ((getK (mergeD ps) kk).getD x) S3
  | none => .stuck
theorem de_dcGet {keys : List (Option Expr)} {values : List Expr} {e f : Expr} {pos apos cpos : Pos} {fs : List (Key × FE)} {fe ff : FE} (A : Amb G X W) (h : DPs X G W pos keys values fs) (he : PE X e (TD G W fe)) (hf : PE X f (TD G W ff)) (h0 : keys ≠ [] := by intro z; cases z) (h15 : keys.length ≤ 15 := by decide)
    (m : M2 X (.Dict keys values pos) "get" apos e f cpos := by exact ⟨rfl, rfl, rfl, rfl⟩) : PE X (.Call (.Attribute (.Dict keys values pos) "get" apos) [e, f] [] cpos) (TD G W (xDcGet fs fe ff)) := by
  refine PE.imp (pe_dget2 (by have := A.hu; omega) (de_dctR A h h0 h15) he hf m) fun σ H Q ⟨μ, ρ, S, en, rp, po⟩ => ⟨μ, ρ, S, en, rp, (post_bind po).mono fun v H1 ⟨μ1, ps, S1, pe, rp1, dc, p1⟩ => ?_⟩
  obtain ⟨p, gs, rfl, np, hp, dK⟩ := dc
  refine ⟨p, rfl, .inl ⟨gs, .inl hp⟩, μ1, ρ, S1, en.per pe, rp1, (post_bind p1).mono fun kv H2 ⟨μ2, kd, S2, pe2, rp2, dk, p3⟩ => ?_⟩
  refine ⟨μ2, ρ, S2, (en.per pe).per pe2, rp2, (post_bind p3).mono fun xv H3 ⟨μ3, xd, S3, pe3, rp3, dx, p4⟩ => ?_⟩
  obtain ⟨hp2, np2⟩ := pe2.fr p _ hp (fun _ z => nomatch z) np
  obtain ⟨hp3, np3⟩ := pe3.fr p _ hp2 (fun _ z => nomatch z) np2
  split at p4
  · rename_i kk e2
    have ek := key_den dk e2
    subst ek
    refine ⟨_, DGet.k hp3, ?_⟩
    rcases denK_get kk ((dK.per pe2).per pe3) with ⟨a1, a2⟩ | ⟨x, y, a1, a2, a3⟩
    · rw [a1] at p4; rw [a2]; exact post_ok rp3 p4 dx
    · rw [a1] at p4; rw [a2]; exact post_ok rp3 p4 a3
  · exact p4.elim
end Dx

/-! Dx22: T.index(x), T a tuple of texts that is written at the top. -/
namespace Dx
open PySem PySem.Spec L2
variable {G : Gx} {X : Cx} {W : WX}
def strV (s : String) : V := .str (Str.ofString s)
structure TupG (K : PySem.W.Frag) (mg : Str → Option Value) (x : Str) (ss : List String) : Prop where
  ex : ∃ (a : Addr) (o : Obj) (its : Array Value) (n : Nat), mg x = some (.ref a) ∧ K.lookup a = some o ∧ o.cls = .type "tuple" ∧ o.dict = none ∧ o.data = .seq its n ∧ its.size ≤ sizeLine ∧ Vals (ss.map strV) its.toList
def KStrs (ss : List String) (us : List Value) : Prop := Vals (ss.map strV) us
theorem kstrs_nil : KStrs [] [] := .nil
theorem kstrs_cons {s : String} {ss : List String} {t : Tok} {us : List Value} (h : KStrs ss us) : KStrs (s :: ss) (.str (Str.ofString s) t :: us) := .cons ⟨t, rfl⟩ h
theorem tupG_of {K : PySem.W.Frag} {h : Heap} {mg : Str → Option Value} {x : Str} {ss : List String} {a : Addr} {o : Obj} {its : Array Value} {n : Nat} (KX : K.In h) (Gn : h.Ns mainGlobals mg) (e : PySem.W.nsIn K mainGlobals x = some (some (.ref a))) (l : K.lookup a = some o) (hc : o.cls = .type "tuple") (hn : o.dict = none) (hd : o.data = .seq its n) (k : KStrs ss its.toList) (hz : ss.length ≤ 1000000 := by decide) : TupG K mg x ss :=
  ⟨a, o, its, n, PySem.W.mg_of KX Gn e, l, hc, hn, hd, by
    rw [sl_eq, ← Array.length_toList, ← Vals.length k, List.length_map]
    exact Nat.le_trans hz (by decide), k⟩
def idxAt (S : Sg) : Option Nat → R D
  | some j => .ok (.int j) S
  | none => .stuck
def kIdxG (ss : List String) : D → Sg → R D
  | .str s, S => idxAt S (ss.findIdx? fun t => decide (t = s))
  | _, _ => .stuck
def xIdxG (ss : List String) (f : FE) : FE := fun ρ S => (f ρ S).bind (kIdxG ss)
@[simp] theorem xIdxG_at {ss : List String} {f : FE} {ρ : Ev} {S : Sg} : xIdxG ss f ρ S = (f ρ S).bind (kIdxG ss) := rfl
@[simp] theorem kIdxG_str {ss : List String} {s : String} {S : Sg} : kIdxG ss (.str s) S = idxAt S (ss.findIdx? fun t => decide (t = s)) := rfl
@[simp] theorem idxAt_some {j : Nat} {S : Sg} : idxAt S (some j) = .ok (.int j) S := rfl
theorem de_idxG {x : Str} {ss : List String} {e : Expr} {p apos cpos : Pos} {f : FE} (h : TupG X.K X.mg x ss) (he : PE X e (TD G W f)) (hg : Gl X x := by rfl) (hd : (x == ("__debug__" : Str)) = false := by decide)
    (hbase : attributeBase (.Name x p) "index" X.env (eval (.Name x p) X.env) = eval (.Name x p) X.env := by rfl)
    (hfew : ((backTo cpos (starEach [e] X.env)).all (fun x => !x.1) && (backToKw cpos (keywordEach [] X.env)).all (fun x => x.1.isSome) && decide (([e] : List Expr).length + ([] : List Keyword).length + (if ([] : List Keyword).isEmpty then 0 else 1) < 30)) = true := by rfl)
    (hline : (apos.endLine == cpos.line) = true := by rfl) (hs : starEach [e] X.env = (false, eval e X.env) :: starEach [] X.env := by rfl) (hplain : (backTo cpos (starEach [] X.env)).any (·.1) = false := by rfl) :
    PE X (.Call (.Attribute (.Name x p) "index" apos) [e] [] cpos) (TD G W (xIdxG ss f)) := by
  obtain ⟨a, o, its, n, hm, l, hc, hn, hdt, hz, hv⟩ := h.ex
  refine PE.imp (pe_bm PySem.F.plainAttrs_tuple PySem.F.slot_tuple_index PySem.F.type_tuple_index mt_tup_index (pe_glob hg hm (v := .ref a) rfl hd) (pa_cons he pa_nil hs) hbase hfew hline hs hplain) fun σ H Q ⟨μ, ρ, S, en, rp, po⟩ => ?_
  refine ⟨.inr (.inl ⟨rfl, o, l, hc, hn⟩), ⟨μ, ρ, S, en, rp, (post_bind po).mono fun v H1 ⟨μ1, d, S1, pe, rp1, dd, p1⟩ => ?_⟩⟩
  cases dd with
  | str s =>
    simp only [kIdxG_str] at p1
    cases hj : ss.findIdx? fun t => decide (t = s) with
    | none => rw [hj] at p1; exact p1.elim
    | some j =>
      rw [hj] at p1
      obtain ⟨hl, g1, g2⟩ := List.findIdx?_eq_some_iff_getElem.mp hj
      refine ⟨a, ss.map Str.ofString, Str.ofString s, j, rfl, rfl, .inr ⟨o, its, n, l, hc, hdt, hz, ?_⟩, ?_, fun m hm e => ?_, p1 _ _ _ .refl rp1 (.int _)⟩
      · rw [List.map_map]; exact hv
      · have : ss[j] = s := by simpa using g1
        simp [hl, this]
      · have hml : m < ss.length := by omega
        have := g2 m hm
        simp [hml] at e
        exact this (by simpa using ofS_inj e)
  | _ => exact p1.elim
end Dx

/-! Dx23: own errors raised; try .. except X as e. -/
namespace Dx
open PySem PySem.Spec L2
variable {G : Gx} {X : Cx} {W : WX}
abbrev bmVE : List Value := [.type "ValueError", .type "Exception", .type "BaseException", .type "object"]
/-- what is written of an own error that is made as it comes -/
structure ErrG (K : PySem.W.Frag) (mg : Str → Option Value) (C : Addr) (x : Str) : Prop where
  q : PySem.W.excIn K C bmVE "ValueError.__new__" = true
  gC : mg x = some (.ref C)
  kC : PySem.W.keepIn K (.ref C) = true
  sb : PySem.W.subIn K (.ref C) (.type "BaseException") = some true
  ty : PySem.W.typeIn K (.ref C) = some (.type "type")
theorem dss_stuck {sts : List Stmt} : PSs X sts (TDS G W sStuck) := PSs.imp pss_never fun Z σ H ⟨μ, ρ, S, en, rp, p⟩ => p.elim
def sRaise (c : Nat) : FS := fun ρ S => .exc c [] ρ S
@[simp] theorem sRaise_at {c : Nat} {ρ : Ev} {S : Sg} : sRaise c ρ S = .exc c [] ρ S := rfl
theorem ds_raise {c : Nat} {x m : Str} {j : Nat} {p p2 pos pos' : Pos} (hc : X.calm = true) (A : Amb G X W) (E : ErrG X.K X.mg (G.cls c) x) (hg : Gl X x := by rfl) (hdb : (x == ("__debug__" : Str)) = false := by decide) :
    PS X (.Raise (some (.Call (.Name x p) [.Constant (.str m) j p2] [] pos)) none pos') (TDS G W (sRaise c)) :=
  PS.imp (ps_raise hc A.tk (pmk_own F.excBase_ValueError E.q E.gC E.kC (raises_own E.sb E.ty) hg hdb)) fun Z σ H ⟨μ, ρ, S, en, rp, p⟩ => p _ _ _ _ _ .refl rp en ⟨rfl, .inl ⟨rfl, rfl⟩⟩
/-! ### try: .. except X as e: .. -/
def Fl.dropE (i : Nat) : Fl → Fl
  | .nx ρ S => .nx (ρ.set i none) S
  | .rt d S => .rt d S
  | .bk ρ S => .bk (ρ.set i none) S
  | .ct ρ S => .ct (ρ.set i none) S
  | _ => .stuck
@[simp] theorem dropE_nx {i : Nat} {ρ : Ev} {S : Sg} : (Fl.nx ρ S).dropE i = .nx (ρ.set i none) S := rfl
@[simp] theorem dropE_rt {i : Nat} {d : D} {S : Sg} : (Fl.rt d S).dropE i = .rt d S := rfl
/-- an outcome that is the same wherever the error lies -/
def AllE (has : Bool) (f : Nat → Option Nat → Fl) (r : Fl) : Prop := ∀ (a : Nat) (d : Option Nat), d.isSome = has → f a d = r
noncomputable def anyE (has : Bool) (f : Nat → Option Nat → Fl) : Fl := by
  classical
  exact if h : ∃ r, AllE has f r then Classical.choose h else .stuck
theorem anyE_eq {has : Bool} {f : Nat → Option Nat → Fl} {r : Fl} (h : AllE has f r) : anyE has f = r := by
  have hx : ∃ r, AllE has f r := ⟨r, h⟩
  unfold anyE
  rw [dif_pos hx]
  have h2 := Classical.choose_spec hx
  cases has with
  | true => rw [← h2 0 (some 0) rfl, h 0 (some 0) rfl]
  | false => rw [← h2 0 none rfl, h 0 none rfl]
noncomputable def tryH (i : Nat) (suite : Nat → Nat → Option Nat → FS) (c : Nat) (fs : List (String × D)) (ρ : Ev) (S : Sg) : Option Bool → Fl
  | some true => anyE (!fs.isEmpty) fun a d => (suite c a d (ρ.set i (some (.exv a d (fs.map (·.1)) (fs.map (·.2))))) S).dropE i
  | some false => .exc c fs ρ S
  | none => .stuck
noncomputable def tryAt (i : Nat) (sup : Nat → Option Bool) (suite : Nat → Nat → Option Nat → FS) : Fl → Fl
  | .exc c fs ρ S => tryH i suite c fs ρ S (sup c)
  | o => o
noncomputable def sTry (body : FS) (i : Nat) (sup : Nat → Option Bool) (suite : Nat → Nat → Option Nat → FS) : FS := fun ρ S => tryAt i sup suite (body ρ S)
@[simp] theorem sTry_at {body : FS} {i : Nat} {sup : Nat → Option Bool} {suite : Nat → Nat → Option Nat → FS} {ρ : Ev} {S : Sg} : sTry body i sup suite ρ S = tryAt i sup suite (body ρ S) := rfl
@[simp] theorem tryAt_nx {i : Nat} {sup : Nat → Option Bool} {suite : Nat → Nat → Option Nat → FS} {ρ : Ev} {S : Sg} : tryAt i sup suite (.nx ρ S) = .nx ρ S := rfl
@[simp] theorem tryAt_rt {i : Nat} {sup : Nat → Option Bool} {suite : Nat → Nat → Option Nat → FS} {d : D} {S : Sg} : tryAt i sup suite (.rt d S) = .rt d S := rfl
@[simp] theorem tryAt_exc {i : Nat} {sup : Nat → Option Bool} {suite : Nat → Nat → Option Nat → FS} {c : Nat} {fs : List (String × D)} {ρ : Ev} {S : Sg} : tryAt i sup suite (.exc c fs ρ S) = tryH i suite c fs ρ S (sup c) := rfl
@[simp] theorem tryH_f {i : Nat} {suite : Nat → Nat → Option Nat → FS} {c : Nat} {fs : List (String × D)} {ρ : Ev} {S : Sg} : tryH i suite c fs ρ S (some false) = .exc c fs ρ S := rfl
theorem tryH_t {i : Nat} {suite : Nat → Nat → Option Nat → FS} {c : Nat} {fs : List (String × D)} {ρ : Ev} {S : Sg} {r : Fl} (h : ∀ (a : Nat) (d : Option Nat), d.isSome = !fs.isEmpty → (suite c a d (ρ.set i (some (.exv a d (fs.map (·.1)) (fs.map (·.2))))) S).dropE i = r) : tryH i suite c fs ρ S (some true) = r := anyE_eq h
theorem EnvD.setN {μ : List Addr} {H : Hp} {ρ : Ev} {σ : L2.St} (e : EnvD G μ H ρ σ) {i : Nat} {v : Option V} : EnvD G μ H (ρ.set i none) (σ.set i v) := by
  refine ⟨by simp [e.len], fun j d' h' => ?_⟩
  by_cases hj : j = i
  · subst hj
    by_cases hl : j < ρ.length
    · rw [List.getElem?_set_self hl] at h'
      cases h'
    · rw [List.getElem?_eq_none (by simp; omega)] at h'
      cases h'
  · rw [List.getElem?_set_ne (Ne.symm hj)] at h' ⊢
    exact e.at_ j d' h'
theorem post_drop {i : Nat} {μ : List Addr} {H : Hp} {Z : Ends} {f : Fl} (h : PostS G W μ H Z (f.dropE i)) :
    PostS G W0 μ H { nx := fun σ' H' => Z.nx (σ'.set i none) H', rt := Z.rt, bk := fun σ' H' => Z.bk (σ'.set i none) H', ct := fun σ' H' => Z.ct (σ'.set i none) H' } f := by
  cases f with
  | nx ρ S => exact fun μ' H' σ' p r e => h μ' H' _ p r e.setN
  | rt d S => exact h
  | bk ρ S => exact fun μ' H' σ' p r e => h μ' H' _ p r e.setN
  | ct ρ S => exact fun μ' H' σ' p r e => h μ' H' _ p r e.setN
  | exc c fs ρ S => exact h.elim
  | stuck => exact h
theorem Amb.tr (A : Amb G X W) {W' : WX} {pn : List (Addr × Obj)} {xe : Value → Shared → Prop} (tk : Takes (X.tr pn xe) W') (po : PassesOwn (model X.prog X.w) X.A X.env xe) : Amb G (X.tr pn xe) W' := ⟨A.hK, A.hw, A.ok, tk, A.hu, po⟩
theorem Amb.suite (A : Amb G X W) {a : Addr} {pn : List (Addr × Obj)} : Amb G (X.suite a pn) W0 := ⟨A.hK, A.hw, A.ok, takes0, A.hu, PassesOwn.never⟩
theorem try_post {μ : List Addr} {H : Hp} {Z : Ends} {i k : Nat} {sup : Nat → Option Bool} {gs : Nat → Nat → Option Nat → FS} {fl : Fl} (A : Amb G X W) (hsup : ∀ c b, sup c = some b → PySem.W.exmOne X.K (.ref (G.cls c)) (.ref (G.cls k)) = some b) (p : PostS G W μ H Z (tryAt i sup gs fl)) :
    PostS G (wAs X.K (.ref (G.cls k)) i (fun a cls d => fun Z σ H => ∃ c, cls = .ref (G.cls c) ∧ sup c = some true ∧ TDS G W0 (gs c a d) Z σ H) W Z) μ H Z fl := by
  cases fl with
  | nx ρ S => exact p
  | rt d S => exact p
  | bk ρ S => exact p
  | ct ρ S => exact p
  | stuck => exact p
  | exc c fs ρ1 S1 =>
    intro μ' H' σ' cls dd pe rp' en' ex
    obtain ⟨ec, hd⟩ := ex
    subst ec
    simp only [tryAt_exc] at p
    cases hc : sup c with
    | none => rw [hc] at p; exact p.elim
    | some b =>
      rw [hc] at p
      refine ⟨b, hsup c b hc, fun hb a ha => ?_, fun hb => ?_⟩
      · subst hb
        have hex : ∃ r, AllE (!fs.isEmpty) (fun a d => (gs c a d (ρ1.set i (some (.exv a d (fs.map (·.1)) (fs.map (·.2))))) S1).dropE i) r := by
          by_cases q : ∃ r, AllE (!fs.isEmpty) (fun a d => (gs c a d (ρ1.set i (some (.exv a d (fs.map (·.1)) (fs.map (·.2))))) S1).dropE i) r
          · exact q
          · have z : tryH i gs c fs ρ1 S1 (some true) = .stuck := by
              show anyE _ _ = _
              unfold anyE
              rw [dif_neg q]
            rw [z] at p
            exact p.elim
        obtain ⟨r, hr⟩ := hex
        rw [tryH_t hr] at p
        have hdd : dd.isSome = !fs.isEmpty ∧ Den G μ' H' (.exv a dd (fs.map (·.1)) (fs.map (·.2))) (.ref a) := by
          rcases hd with ⟨e1, e2⟩ | ⟨ne, d, gs', e1, e2, e3⟩
          · subst e1 e2
            exact ⟨rfl, .exv0⟩
          · subst e1
            cases fs with
            | nil => exact absurd rfl ne
            | cons f fs =>
              refine ⟨rfl, .exv ((A.ok.xd _ _ _ _).mpr ⟨gs', e2, ?_, rfl⟩) e3.2⟩
              rw [e3.1, List.map_map]
              rfl
        refine ⟨c, rfl, hc, μ', _, S1, en'.set hdd.2, rp', post_drop (W := W) ?_⟩
        have e := hr a dd hdd.1
        dsimp only at e
        rw [e]
        exact PostS.per p pe
      · subst hb
        exact p μ' H' σ' _ dd pe rp' en' ⟨rfl, hd⟩
theorem ds_tryAs {i k : Nat} {sup : Nat → Option Bool} {x n : Str} {body suite : List Stmt} {b₀ : Stmt} {np pos pos' : Pos} {gb : FS} {gs : Nat → Nat → Option Nat → FS} (A : Amb G X W) (hN : X.N.Nodup) (hx : X.mg x = some (.ref (G.cls k))) (hsup : ∀ c b, sup c = some b → PySem.W.exmOne X.K (.ref (G.cls c)) (.ref (G.cls k)) = some b)
    (hb : ∀ (W' : WX) (pn : List (Addr × Obj)) (xe : Value → Shared → Prop), Amb G (X.tr pn xe) W' → PSs (X.tr pn xe) body (TDS G W' gb))
    (hsu : ∀ (a : Addr) (oe : Obj) (c : Nat) (d : Option Addr) (pn : List (Addr × Obj)), Zc (.ref (G.cls c)) d oe → (∃ vs, oe.data = .fields vs) → sup c = some true → Amb G (X.suite a ((a, oe) :: pn)) W0 → PSs (X.suite a ((a, oe) :: pn)) (b₀ :: suite) (TDS G W0 (gs c a d)))
    (hi : X.N[i]? = some n := by rfl) (hln : X.env.kindOf n = some .local := by rfl) (hg : Gl X x := by rfl) (hdb : (x == ("__debug__" : Str)) = false := by decide) (hs : X.stack = X.env :: X.outer := by rfl) (hf : X.env.frame = some X.env.locals := by rfl) :
    PS X (.Try body [.ExceptHandler (some (.Name x np)) (some n) (b₀ :: suite) pos'] [] [] pos) (TDS G W (sTry gb i sup gs)) := by
  refine PS.imp (ps_try_as hs hf hN hi hln ⟨hg, hdb, .inl hx⟩ A.tk (tb := fun W' => TDS G W' gb)
    (ts := fun a cls d => fun Z σ H => ∃ c, cls = .ref (G.cls c) ∧ sup c = some true ∧ TDS G W0 (gs c a d) Z σ H) (fun W' pn xe tk po => hb W' pn xe (A.tr tk po)) (fun a oe cls d pn hz hf => ?_)) fun Z σ H ⟨μ, ρ, S, en, rp, p⟩ => ⟨μ, ρ, S, en, rp, ?_⟩
  · refine ⟨fun pins s σ H D I ⟨c, e, h1, h2⟩ => ?_⟩
    subst e
    exact (hsu a oe c d pn hz hf h1 A.suite).run pins s σ H D I h2
  · exact try_post A hsup p
/-- isinstance(e, X), e the error that the suite holds -/
def kIsE (i a : Nat) (b : Bool) (S : Sg) : Option (Option D) → R D
  | some (some (.exv a' _ _ _)) => if a' = a then .ok (.bl b) S else .stuck
  | _ => .stuck
def xIsE (i a : Nat) (b : Bool) : FE := fun ρ S => kIsE i a b S ρ[i]?
@[simp] theorem xIsE_at {i a : Nat} {b : Bool} {ρ : Ev} {S : Sg} : xIsE i a b ρ S = kIsE i a b S ρ[i]? := rfl
@[simp] theorem kIsE_at {i a a' : Nat} {b : Bool} {d : Option Nat} {ks : List String} {xs : List D} {S : Sg} : kIsE i a b S (some (some (.exv a' d ks xs))) = if a' = a then .ok (.bl b) S else .stuck := rfl
theorem de_isE {i a c k : Nat} {oe : Obj} {pn : List (Addr × Obj)} {b : Bool} {e x : Str} {p q1 q2 pos : Pos} (A : Amb G (X.suite a ((a, oe) :: pn)) W) (C : ExcC X.K (G.cls c)) (hz : Zc (.ref (G.cls c)) none oe) (hf : ∃ vs, oe.data = .fields vs) (hx : X.mg x = some (.ref (G.cls k))) (hk : PySem.W.kitOne X.K (.ref (G.cls c)) (.ref (G.cls k)) = some b) (hm : X.mg "isinstance" = none)
    (hN : X.N[i]? = some e := by rfl) (hv : Vis X.env.scope e := by first | exact Or.inl rfl | exact Or.inr (Or.inl rfl) | exact Or.inr (Or.inr rfl)) (hd : (e == ("__debug__" : Str)) = false := by decide) (hcd : (e == ("__classdict__" : Str)) = false := by decide)
    (hg : Gl X "isinstance" := by rfl) (hg2 : Gl X x := by rfl) (hdx : (x == ("__debug__" : Str)) = false := by decide)
    (hs : starEach [.Name e q1, .Name x q2] X.env = (false, eval (.Name e q1) X.env) :: starEach [.Name x q2] X.env := by rfl) (hs2 : starEach [.Name x q2] X.env = (false, eval (.Name x q2) X.env) :: starEach [] X.env := by rfl)
    (hpl : (backTo pos (starEach [.Name x q2] X.env)).any (·.1) = false := by rfl) :
    PE (X.suite a ((a, oe) :: pn)) (.Call (.Name "isinstance" p) [.Name e q1, .Name x q2] [] pos) (TD G W (xIsE i a b)) := by
  have hc := call_isE (X := X) (a := a) (pn := pn) C hz hf
  refine PE.imp (pe_callB (X := X.suite a ((a, oe) :: pn)) hc hg hm PyProof.Rows.boot_isinstance (pa_cons (pe_var (i := i) hN hv hd hcd) (pa_cons (pe_glob hg2 hx (v := .ref (G.cls k)) rfl hdx) pa_nil hs2) hs) (by decide) (by decide) hs hpl) fun σ H Q ⟨μ, ρ, S, en, rp, po⟩ => ?_
  unfold xIsE at po
  cases hr : ρ[i]? with
  | none => rw [hr] at po; exact po.elim
  | some o =>
    rw [hr] at po
    cases o with
    | none => exact po.elim
    | some d =>
      obtain ⟨v, h1, h2⟩ := en.at_ i d hr
      cases d with
      | exv a' d ks xs =>
        simp only [kIsE_at] at po
        obtain ⟨ha, po2⟩ := post_ite po
        subst ha
        have hv : v = .ref a' := by cases h2 <;> rfl
        subst hv
        exact ⟨_, h1, .ref (G.cls k), .ref (G.cls k), b, rfl, fun u hu => hu, hk, po2 _ _ _ .refl rp (.bl b)⟩
      | _ => exact po.elim
end Dx

set_option maxHeartbeats 2000000
/-! Dx24: lambdas made in a def, handed to a def that calls them. -/
namespace Dx
open PySem PySem.Spec L2 LamX NdefX PyProof.Rows
structure LSpec where
  params : Arguments
  body : Expr
  scope : Scope
abbrev lamFd (q : Str) (L : LSpec) (cl : List (Str × Addr)) (c' : Addr) (dV doc pm ctv : Value) : FuncData := PySem.W.kdv_fn "<lambda>" q L.params (.expr L.body) L.scope cl dV doc pm (.ref c') ctv
/-- the object at f is the lambda L -/
def LamO (f : Addr) (q : Str) (L : LSpec) (cl : List (Str × Addr)) (c' : Addr) (dV : Value) : HO :=
  .ext fun h => ∃ (od : Option Addr) (sl : Array (Option Value)) (doc pm ctv : Value), h.get? f = some (⟨.type "function", od, .func (lamFd q L cl c' dV doc pm ctv), sl⟩ : Obj)
theorem lamO_ne {f : Addr} {q : Str} {L : LSpec} {cl : List (Str × Addr)} {c' : Addr} {dV : Value} (ps : Array Value) : LamO f q L cl c' dV ≠ .tbl ps := fun z => by
  unfold LamO at z
  cases z
theorem lamO_at {P : Program} {w : World} {H : Hp} {h : Heap} {f : Addr} {q : Str} {L : LSpec} {cl : List (Str × Addr)} {c' : Addr} {dV : Value} (hok : HOk P w H h) (e : H f = some (LamO f q L cl c' dV)) :
    ∃ (od : Option Addr) (sl : Array (Option Value)) (doc pm ctv : Value), h.get? f = some (⟨.type "function", od, .func (lamFd q L cl c' dV doc pm ctv), sl⟩ : Obj) := by
  obtain ⟨z, _, _⟩ := hok f _ e
  exact z
section
variable {X : Cx} {pins : List (Addr × Obj)} {σ : L2.St} {H : Hp} {s : Shared}
theorem inv_lam {q : Str} {L : LSpec} {cl : List (Str × Addr)} {c' : Addr} {dV doc pm ctv : Value} {o : Obj} {t' : Nat} (I : Inv X pins σ H s) (ho : o = { cls := .type "function", data := .func (lamFd q L cl c' dV doc pm ctv) }) :
    Inv X pins σ (upd H s.heap.objs.size (LamO s.heap.objs.size q L cl c' dV)) { s with heap := s.heap.push o, toks := t' } := by
  subst ho
  refine I.laid (a := s.heap.objs.size) (fun b u e => Heap.get?_push_of_some _ e) (Nat.le_refl _) ?_
  have e : (s.heap.push ({ cls := .type "function", data := .func (lamFd q L cl c' dV doc pm ctv) } : Obj)).get? s.heap.objs.size = some ({ cls := .type "function", data := .func (lamFd q L cl c' dV doc pm ctv) } : Obj) := Heap.get?_push_size _ rfl
  exact ⟨⟨_, _, doc, pm, ctv, e⟩, ⟨_, e⟩, fun h1 h2 ⟨od, sl, d, p, t, z⟩ st => ⟨od, sl, d, p, t, st _ z⟩⟩
/-- the lambda's object is made, its defaults being dV -/
theorem lam_make3 {T : List NTab} {q : Str} {L : LSpec} {c P : Addr} {dV : Value} {pos : Pos} {E : Value → Shared → Prop} {Q : Value → Shared → Prop} (I : Inv X pins σ H s) (TB : TabB X.base X.mg c P) (hcode : X.env.code = .ref c)
    (hm : (P, fun _ _ => q) ∈ T) (hu : ∀ p ∈ T, p.1 = P → p.2 = fun _ _ => q) (hT : TabsN T H) (hfree : ∀ y ∈ L.scope.names, y.2 = .free → ∃ c, X.env.cells.lookup y.1 = some c)
    (h : ∀ (f c' : Addr) (H1 : Hp) (s' : Shared), Inv X pins σ H1 s' → ExtN H H1 → TabsN T H1 → H f = none → H1 f = some (LamO f q L (cloFrom X.env.cells L.scope.names []) c' dV) → H1 c' = some (CodeO c' q) → Q (.ref f) s') :
    wpAny (model X.prog X.w) X.A (PySem.makeTail "<lambda>" q L.params (.expr L.body) L.scope X.env dV .none none pos pos.line) Q E s := by
  obtain ⟨ps, hP, ht, ha⟩ := (show TabN H P (fun _ _ => q) from hT _ hm)
  have bP : s.heap.BuiltinsAt X.mg P := TB.bm.keeps I.bk
  have hP' : s.heap.get? P = some { cls := .none, data := .fields ps } := I.hok P _ hP
  cases hc : codeAmong pos ps.toList with
  | none =>
    refine PySem.W.kdv_makeTail (mg := X.mg) (c := c) (P := P) (ps := ps) (closure_ok hfree) I.ok.glob (I.mod.glob.keeps I.bk) hcode (TB.code.keeps I.bk) hP' ht hc TB.gP bP fun c' ctv doc h' tk hx hge hlt hrec htb => ?_
    obtain ⟨c2, oc, vs, t, e2, hoc, hd, hv⟩ := hrec
    cases e2
    have nC : H c' = none := I.hok.fresh hge
    have I1 := inv_table (t' := tk) (more := #[rawInt pos.line, rawInt pos.col, .ref c']) (h' := h') I hP (fun b o hb e => hx b o hb e) htb hge ⟨oc, vs, t, hoc, hd, hv⟩
    have hE : ExtN H (upd (upd H P (.tbl (ps ++ #[rawInt pos.line, rawInt pos.col, .ref c']))) c' (CodeO c' q)) := fun b o e n => by
      rw [upd_ne (ne_of_none e nC), upd_ne (fun z => n ps (Option.some.inj (e.symm.trans (by rw [z]; exact hP))))]
      exact e
    have eL : (ps ++ #[rawInt pos.line, rawInt pos.col, .ref c']).toList = ps.toList ++ [rawInt pos.line, rawInt pos.col, .ref c'] := by simp
    have T1 : TabsN T (upd (upd H P (.tbl (ps ++ #[rawInt pos.line, rawInt pos.col, .ref c']))) c' (CodeO c' q)) := fun p hp => by
      by_cases hb : p.1 = P
      · rw [hu p hp hb, hb]
        refine ⟨_, by rw [upd_ne (ne_of_none hP nC), upd_same], by rw [eL]; exact PySem.TriplesOk_snoc _ _ _ _ ht, fun p' cv hcv => ?_⟩
        rw [eL] at hcv
        rcases among_app2 _ ht hcv with z | ⟨z, z1, z2⟩
        · obtain ⟨c0, e1, e2⟩ := ha p' cv z
          exact ⟨c0, e1, hE _ _ e2 codeO_ne⟩
        · exact ⟨c', z, upd_same⟩
      · obtain ⟨ps', a1, a2, a3⟩ := hT p hp
        refine ⟨ps', by rw [upd_ne (ne_of_none a1 nC), upd_ne hb]; exact a1, a2, fun p' cv hcv => ?_⟩
        obtain ⟨c0, e1, e2⟩ := a3 p' cv hcv
        exact ⟨c0, e1, hE _ _ e2 codeO_ne⟩
    have nF := I1.hok.fresh (Nat.le_refl _)
    have I2 := inv_lam (q := q) (L := L) (cl := cloFrom X.env.cells L.scope.names []) (c' := c') (dV := dV) (t' := tk) (doc := doc) (pm := (X.mg "__name__").getD .none) (ctv := ctv) I1 rfl
    refine h h'.objs.size c' _ _ I2 (fun b o e n => ?_) (T1.ext fun b o e => ?_) (I.hok.fresh (Nat.le_trans hge (Nat.le_of_lt hlt))) upd_same ?_
    · have e1 := hE b o e n
      exact (upd_ne (ne_of_none e1 nF)).trans e1
    · exact (upd_ne (ne_of_none e nF)).trans e
    · exact (upd_ne (Nat.ne_of_lt hlt)).trans upd_same
  | some cv =>
    obtain ⟨c', e, hco⟩ := ha pos cv hc
    subst e
    refine PySem.W.kdv_makeTailHit (mg := X.mg) (c := c) (P := P) (ps := ps) (closure_ok hfree) I.ok.glob (I.mod.glob.keeps I.bk) hcode (TB.code.keeps I.bk) hP' ht hc bP fun ctv doc h' tk hx hsz => ?_
    have I1 : Inv X pins σ H { s with heap := h', toks := tk } := I.kept hx
    have nF : H h'.objs.size = none := I1.hok.fresh (Nat.le_refl _)
    have I2 := inv_lam (q := q) (L := L) (cl := cloFrom X.env.cells L.scope.names []) (c' := c') (dV := dV) (t' := tk) (doc := doc) (pm := (X.mg "__name__").getD .none) (ctv := ctv) I1 rfl
    refine h h'.objs.size c' _ _ I2 (fun b o e n => ?_) (hT.ext fun b o e => ?_) nF upd_same ?_
    · exact (upd_ne (ne_of_none e nF)).trans e
    · exact (upd_ne (ne_of_none e nF)).trans e
    · exact (upd_ne (ne_of_none hco nF)).trans hco
end
/-! ### what is known of a made lambda -/
/-- the defaults: none, or a tuple of one 0 -/
def DfT (L : LSpec) (dV : Value) (H : Hp) : Prop := (L.params.defaults = [] ∧ dV = .none) ∨ (L.params.defaults ≠ [] ∧ ∃ t : Addr, dV = .ref t ∧ H t = some (.tup [V.int 0]))
theorem DfT.ext {L : LSpec} {dV : Value} {H H' : Hp} (h : DfT L dV H) (e : ExtN H H') : DfT L dV H' := h.imp id fun ⟨n, t, a, b⟩ => ⟨n, t, a, e _ _ b fun _ z => nomatch z⟩
def LamAt (q : Str) (cells : List (Str × Addr)) (L : LSpec) (f : Addr) (H : Hp) : Prop := ∃ (c' : Addr) (dV : Value), H f = some (LamO f q L (cloFrom cells L.scope.names []) c' dV) ∧ H c' = some (CodeO c' q) ∧ DfT L dV H
theorem LamAt.ext {q : Str} {cells : List (Str × Addr)} {L : LSpec} {f : Addr} {H H' : Hp} (h : LamAt q cells L f H) (e : ExtN H H') : LamAt q cells L f H' := by
  obtain ⟨c', dV, h1, h2, h3⟩ := h
  exact ⟨c', dV, e _ _ h1 lamO_ne, e _ _ h2 codeO_ne, h3.ext e⟩
def lamClo (q : Str) (cells : List (Str × Addr)) (spec : List LSpec) (i : Ci) (a : Addr) (H : Hp) : Prop := baseClo i a H ∨ ∃ m L, i.n = m + 1 ∧ spec[m]? = some L ∧ LamAt q cells L a H
/-- what stands around, lambdas known -/
def lamG (K : PySem.W.Frag) (w : World) (cls : Nat → Addr) (q : Str) (P : Addr) (cells : List (Str × Addr)) (spec : List LSpec) : Gx := ⟨K, w, cls, lamClo q cells spec, [(P, fun _ _ => q)]⟩
theorem ext_new {H : Hp} {p : Addr} {o : HO} (hp : H p = none) : ExtN H (upd H p o) := fun b u e _ => by rw [upd_ne (ne_of_none e hp)]; exact e
theorem lamAt_mut {q : Str} {cells : List (Str × Addr)} {L : LSpec} {f p : Addr} {H : Hp} {o o' : HO} (h : LamAt q cells L f H) (hp : H p = some o) (m : Mut (some o)) (ne : ∀ φ, o ≠ .ext φ) : LamAt q cells L f (upd H p o') := by
  obtain ⟨c', dV, h1, h2, h3⟩ := h
  have n1 : f ≠ p := fun z => by rw [z, hp] at h1; cases h1; exact ne _ rfl
  have n2 : c' ≠ p := fun z => by rw [z, hp] at h2; cases h2; exact ne _ rfl
  refine ⟨c', dV, by rw [upd_ne n1]; exact h1, by rw [upd_ne n2]; exact h2, h3.imp id fun ⟨n, t, a, b⟩ => ⟨n, t, a, ?_⟩⟩
  rw [upd_ne fun z => ?_]
  · exact b
  · rw [z, hp] at b; cases b; exact m
theorem lamG_ok (K : PySem.W.Frag) (w : World) (cls : Nat → Addr) (q : Str) (P : Addr) (cells : List (Str × Addr)) (spec : List LSpec) : (lamG K w cls q P cells spec).Ok := by
  refine ⟨fun n a H p o hp h => ?_, fun ks vs d H => ⟨fun h => ?_, fun h => .inl ⟨rfl, h⟩⟩, fun n a H p o o' hp m ne h => ?_⟩
  · rcases h with ⟨h1, gs, h2, h3⟩ | ⟨m, L, h1, h2, h3⟩
    · exact .inl ⟨h1, gs, by rw [upd_ne (ne_of_none h2 hp)]; exact h2, h3⟩
    · exact .inr ⟨m, L, h1, h2, h3.ext (ext_new hp)⟩
  · rcases h with ⟨_, h⟩ | ⟨m, L, h1, _⟩
    · exact h
    · cases h1
  · rcases h with ⟨h1, gs, h2, h3⟩ | ⟨k, L, h1, h2, h3⟩
    · refine .inl ⟨h1, gs, ?_, h3⟩
      rw [upd_ne fun z => ?_]
      · exact h2
      · rw [z, hp] at h2
        cases h2
        exact m
    · exact .inr ⟨k, L, h1, h2, lamAt_mut h3 hp m ne⟩
/-- a step that leaves all but tables as it is -/
theorem per_ext {K : PySem.W.Frag} {w : World} {cls : Nat → Addr} {q : Str} {P : Addr} {cells : List (Str × Addr)} {spec : List LSpec} {μ : List Addr} {H H' : Hp} (e : ExtN H H') : Per (lamG K w cls q P cells spec) μ H μ H' := by
  refine ⟨fun _ _ h => h, fun a xs h => e _ _ h fun _ z => (nomatch z), fun a q u h => e _ _ h fun _ z => (nomatch z), fun n a h => ?_, fun a u h t k => ⟨e _ _ h t, k⟩⟩
  rcases h with ⟨h1, gs, h2, h3⟩ | ⟨m, L, h1, h2, h3⟩
  · exact .inl ⟨h1, gs, e _ _ h2 fun _ z => (nomatch z), h3⟩
  · exact .inr ⟨m, L, h1, h2, h3.ext e⟩
theorem rep_ext {K : PySem.W.Frag} {w : World} {cls : Nat → Addr} {q : Str} {P : Addr} {cells : List (Str × Addr)} {spec : List LSpec} {μ : List Addr} {S : Sg} {H H' : Hp} (r : Rep (lamG K w cls q P cells spec) μ S H) (e : ExtN H H') (t : TabsN [(P, fun _ _ => q)] H') : Rep (lamG K w cls q P cells spec) μ S H' := by
  refine ⟨r.len, r.nd, fun n o a h1 h2 => ?_, t⟩
  obtain ⟨u, hu, m, _⟩ := (r.at_ n o a h1 h2).some
  exact (r.at_ n o a h1 h2).per (per_ext e) (by rw [hu]; exact e _ _ hu fun ps z => by subst z; exact m)
/-- names of a lambda: its own ones are none of the maker's -/
structure LamP (N : List Str) (sc scope : Scope) : Prop where
  kind : scope.kind = .function
  co : scope.isCoroutine = false
  gen : scope.isGenerator = false
  own : ∀ y ∈ scope.names, y.2 ≠ .cell ∧ (y.2 = .local → y.1 ∉ N)
  free : ∀ y ∈ scope.names, y.2 = .free → sc.names.lookup y.1 = some .cell ∨ sc.names.lookup y.1 = some .free
def lamPB (N : List Str) (sc scope : Scope) : Bool :=
  decide (scope.kind = .function) && !scope.isCoroutine && !scope.isGenerator && scope.names.all fun y => !decide (y.2 = .cell) && (!decide (y.2 = .local) || !decide (y.1 ∈ N)) && (!decide (y.2 = .free) || decide (sc.names.lookup y.1 = some .cell) || decide (sc.names.lookup y.1 = some .free))
theorem lamP_by {N : List Str} {sc scope : Scope} (h : lamPB N sc scope = true) : LamP N sc scope := by
  unfold lamPB at h
  simp only [Bool.and_eq_true, Bool.or_eq_true, Bool.not_eq_true', decide_eq_true_eq, decide_eq_false_iff_not, List.all_eq_true] at h
  obtain ⟨⟨⟨h1, h2⟩, h3⟩, h4⟩ := h
  refine ⟨h1, h2, h3, fun y hy => ⟨(h4 y hy).1.1, fun e => ?_⟩, fun y hy e => ?_⟩
  · exact (h4 y hy).1.2.elim (fun z => absurd e z) id
  · rcases (h4 y hy).2 with (z | z) | z
    · exact absurd e z
    · exact .inl z
    · exact .inr z
theorem LamP.has {X : Cx} {N : List Str} {scope : Scope} (L : LamP N X.env.scope scope) (ok : X.Ok) : ∀ y ∈ scope.names, y.2 = .free → ∃ c, X.env.cells.lookup y.1 = some c := fun y hy e => by
  rcases L.free y hy e with k | k
  · exact ok.has _ (.inl k)
  · exact ok.has _ (.inr k)
/-- a lambda of the list, without defaults or with one 0 -/
structure LamW (L : LSpec) : Prop where
  kw : L.params.kw_defaults = []
  df : L.params.defaults = [] ∨ ∃ (j : Nat) (p : Pos), L.params.defaults = [.Constant (.int 0) j p]
theorem de_lam {X : Cx} {W : WX} {K : PySem.W.Frag} {w : World} {cls : Nat → Addr} {q : Str} {P c : Addr} {cells : List (Str × Addr)} {spec : List LSpec} {L : LSpec} {m : Nat} {params : Arguments} {body : Expr} {scope : Scope} {pos : Pos} (hL : spec[m]? = some L) (e1 : L = ⟨params, body, scope⟩) (LW : LamW L) (LP : LamP X.N X.env.scope L.scope)
    (TB : TabB X.base X.mg c P) (hcode : X.env.code = .ref c) (hq : q = X.env.qual ++ "<lambda>") (hcl : cells = X.env.cells) :
    PE X (.Lambda params body scope pos) (TD (lamG K w cls q P cells spec) W (xC (.clo m))) := by
  subst hcl
  subst e1
  refine ⟨fun pins s σ H Q I ⟨μ, ρ, S, en, rp, po⟩ => ?_⟩
  have fin : ∀ (dV : Value) (H0 : Hp) (s0 : Shared), Inv X pins σ H0 s0 → ExtN H H0 → TabsN [(P, fun _ _ => q)] H0 → DfT ⟨params, body, scope⟩ dV H0 →
      wpAny (model X.prog X.w) X.A (PySem.makeTail "<lambda>" q params (.expr body) scope X.env dV .none none pos pos.line) (EP X pins σ Q) X.xe s0 := fun dV H0 s0 I0 e0 t0 d0 => by
    refine lam_make3 (L := ⟨params, body, scope⟩) (T := [(P, fun _ _ => q)]) I0 TB hcode (by simp) (fun p hp _ => by simp at hp; rw [hp]) t0 (LP.has I.ok) fun f c' H1 s' I1 eN T1 hf h1 h2 => ?_
    have e2 : ExtN H H1 := e0.trans eN
    exact ⟨.ref f, H1, I1, rfl, po μ H1 _ (per_ext e2) (rep_ext rp e2 T1) (.clo (.inr ⟨m, _, rfl, hL, c', dV, h1, h2, d0.ext eN⟩))⟩
  rcases LW.df with hd | ⟨j, p, hd⟩
  · refine PySem.W.kla_eval ?_ ?_
    · rw [PySem.defaultsOf_eq, show params.kw_defaults = [] from LW.kw, show params.defaults = [] from hd]
      rfl
    · rw [makeFunction_eq, ← hq]
      simp only [List.zip_nil_right, List.filterMap_nil, List.isEmpty_nil, if_true, pure_bind]
      exact fin .none H s I (.refl H) rp.tabs (.inl ⟨hd, rfl⟩)
  · refine PySem.W.kdv_lam (by rw [show params.defaults = _ from hd]; rfl) LW.kw ?_
    rw [show params.defaults = _ from hd]
    refine PySem.W.kdv_all1 (thn ((pe_int (X := X)).run pins s σ H (fun v H1 => v = V.int 0 ∧ H1 = H) I ⟨rfl, rfl⟩) fun u s1 ⟨v, H1, I1, r1, ev, eH⟩ => PySem.W.kdv_all0 ?_)
    subst ev
    rw [eH] at I1
    rw [makeFunction_eq, ← hq]
    simp only [List.zip_nil_right, List.filterMap_nil, List.isEmpty_nil, List.isEmpty_cons, if_true, pure_bind, Bool.false_eq_true, if_false]
    refine wpAny_bind (wpAny_newTextTuple ?_)
    have hf : H s1.heap.objs.size = none := I1.hok.fresh (Nat.le_refl _)
    have I2 : Inv X pins σ (upd H s1.heap.objs.size (.tup [V.int 0])) { s1 with heap := s1.heap.push { cls := .type "tuple", data := .seq #[u] }, toks := s1.toks } :=
      I1.laid (t' := s1.toks) (fun b u e => Heap.get?_push_of_some _ e) (Nat.le_refl _) ⟨by show 1 ≤ sizeLine; rw [sl_eq]; decide, [u], .cons r1 .nil, ⟨_, Heap.get?_push_size _ rfl, rfl, _, rfl⟩⟩
    exact fin (.ref s1.heap.objs.size) _ _ I2 (ext_new hf) (tabs_new rp.tabs hf) (.inr ⟨by rw [show params.defaults = _ from hd]; simp, _, rfl, upd_same⟩)
/-! ### the lambda is called, in the def that got it -/
theorem lam_start3 {X : Cx} {pins : List (Addr × Obj)} {σ : L2.St} {H HZ : Hp} {s s1 : Shared} {A : Around} {outer : List Env} {E : XK} {scope : Scope} {f c' : Addr} {h₁ : Heap} {tk : Nat} {binds : List (Str × Value)} (I : Inv X pins σ H s) (L : LamP X.N X.env.scope scope) (e0 : Env0 X.prog X.w X.K X.mg X.base A outer s1 HZ) (hd : A.handled = none)
    (un : Un (frs X.stack) [] H HZ s.heap s1.heap) (hns : h₁.Ns s1.heap.objs.size fun y => binds.reverse.lookup y) (kp : ∀ b o, s1.heap.get? b = some o → h₁.get? b = some o) :
    Inv (lamCx X A outer s1 HZ E scope f c') [] σ HZ { s1 with heap := h₁, toks := tk } := by
  have hfree := L.has I.ok
  have cm : ∀ {y c}, (cloFrom X.env.cells scope.names []).lookup y = some c → X.env.cells.lookup y = some c := fun {y c} e => by
    rcases cloFrom_mem (PySem.mem_of_lookup e) with hm | ⟨h1, h2⟩
    · cases hm
    · obtain ⟨c1, hc⟩ := hfree _ h1 rfl
      have hc : X.env.cells.lookup y = some c1 := hc
      have e2 : c = c1 := by
        rw [h2, hc] <;> rfl
      rw [e2]
      exact hc
  have look : ∀ {y}, scope.names.lookup y = some .free → ∃ c, (cloFrom X.env.cells scope.names []).lookup y = some c := fun {y} hl => by
    have hy : (y, NameKind.free) ∈ scope.names := PySem.mem_of_lookup hl
    exact mem_lookup (cloFrom_has (cells := X.env.cells) (acc := []) hy)
  have cellK : ∀ {c : Addr} {v : Option Value}, H c = none → s.heap.IsCell c v → h₁.IsCell c v := fun {c v} n ⟨o, ho, hd⟩ => by
    obtain ⟨sl, q⟩ := un.any ho n (by simp)
    exact ⟨_, kp _ _ q, hd⟩
  have noA : ∀ b : Addr, b ∉ (lamCx X A outer s1 HZ E scope f c').ex := fun b z => absurd (show b ∈ ([] : List Addr) from z) (by simp)
  refine ⟨⟨e0.mod, L.kind, rfl, rfl, Nat.le_refl _, fun y z c e1 e2 => I.ok.inj y z c (cm e1) (cm e2), fun y hy => ?_, fun y c z _ => ?_, fun _ => hd, Around.frames_deeper e0.frames, .inr ⟨rfl, rfl⟩, fun b z => absurd z (noA b), e0.bs, e0.bsz, fun b _ _ => noA b,
      fun b z => absurd z (noA b), e0.funs, e0.frf⟩,
    rfl, e0.bare, Un.kept kp, ⟨_, hns, fun i y v e1 e2 e3 => ?_⟩, fun y c e => ?_, e0.hok.fresh (Nat.le_refl _), fun y c e => ?_, fun q hq => absurd (show q ∈ ([] : List (Addr × Obj)) ++ [] from hq) (by simp), e0.hok.kept kp, I.len⟩
  · have hy : scope.names.lookup y = some .cell ∨ scope.names.lookup y = some .free := hy
    rcases hy with hy | hy
    · exact absurd rfl (L.own _ (PySem.mem_of_lookup hy)).1
    · exact look hy
  · have z : false = true := z
    cases z
  · have e3 : Vis scope y := e3
    rcases e3 with k | k | k
    · exact absurd (List.mem_of_getElem? (show X.N[i]? = some y from e1)) ((L.own _ (PySem.mem_of_lookup k)).2 rfl)
    · exact absurd rfl (L.own _ (PySem.mem_of_lookup k)).1
    · obtain ⟨m, hn, hl⟩ := I.loc
      have hvis : Vis X.env.scope y := (L.free _ (PySem.mem_of_lookup k) rfl).elim (fun k => .inr (.inl k)) (fun k => .inr (.inr k))
      obtain ⟨w', r, q⟩ := hl i y v e1 e2 hvis
      obtain ⟨c2, h2⟩ := look k
      refine ⟨w', r, .inr ⟨.inr k, c2, h2, ?_⟩⟩
      have c1 := cm h2
      rcases q with ⟨k', _⟩ | ⟨_, c3, e', z⟩
      · have k' : X.env.scope.names.lookup y = some .local := k'
        rcases L.free _ (PySem.mem_of_lookup k) rfl with k2 | k2 <;> rw [show X.env.scope.names.lookup y = _ from k2] at k' <;> cases k'
      · rw [c1] at e'
        cases e'
        exact cellK (I.freeC y _ c1) z
  · obtain ⟨w', z⟩ := I.cell y c (cm e)
    exact ⟨w', cellK (I.freeC y c (cm e)) z⟩
  · obtain ⟨v, o, ho, hd⟩ := I.cell y c (cm e)
    exact un.free c o ho (I.freeC y c (cm e)) (by simp)
/-- a reading beside which another frame's slots are told -/
def TDx (G : Gx) (W : WX) (ρX : Ev) (σX : L2.St) (f : FE) : TE := fun σ H Q => ∃ μ ρ S, EnvD G μ H ρ σ ∧ EnvD G μ H ρX σX ∧ Rep G μ S H ∧ Post (Den G) G W μ H σ (f ρ S) Q
def TDSx (G : Gx) (W : WX) (ρX : Ev) (σX : L2.St) (g : FS) : TS := fun Z σ H => ∃ μ ρ S, EnvD G μ H ρ σ ∧ EnvD G μ H ρX σX ∧ Rep G μ S H ∧ PostS G W μ H Z (g ρ S)
/-- work(): the lambda that a slot holds -/
def kAct (act : Nat → Sg → R D) (S : Sg) : Option (Option D) → R D
  | some (some (.clo n)) => act n S
  | _ => .stuck
def xAct (i : Nat) (act : Nat → Sg → R D) : FE := fun ρ S => kAct act S ρ[i]?
@[simp] theorem xAct_at {i : Nat} {act : Nat → Sg → R D} {ρ : Ev} {S : Sg} : xAct i act ρ S = kAct act S ρ[i]? := rfl
@[simp] theorem kAct_clo {act : Nat → Sg → R D} {n : Nat} {S : Sg} : kAct act S (some (some (.clo n))) = act n S := rfl
/-- what binding asks of a lambda called without arguments -/
structure LamB (q : Str) (L : LSpec) : Prop where
  b0 : L.params.defaults = [] → ∀ (cl : List (Str × Addr)) (c' : Addr) (doc pm ctv : Value), bindArgs (lamFd q L cl c' .none doc pm ctv) ⟨[], []⟩ = pure []
  b1 : L.params.defaults ≠ [] → ∀ (cl : List (Str × Addr)) (c' t : Addr) (doc pm ctv v : Value), ∃ (y : Str) (k : Option (Array Value) → Sem (List (Str × Value))), bindArgs (lamFd q L cl c' (.ref t) doc pm ctv) ⟨[], []⟩ = seqItems? (.ref t) >>= k ∧ k (some #[v]) = pure [(y, v)] ∧ L.scope.names.lookup y = some .local
theorem pe_act3 {X : Cx} {pins : List (Addr × Obj)} {σX : L2.St} {H : Hp} {s : Shared} {K : PySem.W.Frag} {w : World} {cls : Nat → Addr} {q : Str} {P : Addr} {cells : List (Str × Addr)} {spec : List LSpec} {CXg : CXT} {Eg : XK} {Ng : List Str} {qg : Str} {sg : Scope} {g : Addr} {cdg : Value} {k i : Nat} {a : Str} {pn : List (Addr × Obj)} {xe : Value → Shared → Prop} {W : WX} {ρX : Ev} {bodies : Nat → FE} {p1 p2 : Pos}
    (I : Inv X pins σX H s) (hcl : cells = X.env.cells) (hq : q = X.env.qual ++ "<lambda>") (hL : ∀ (n : Nat) (L : LSpec), spec[n]? = some L → LamP X.N X.env.scope L.scope ∧ LamB q L)
    (tk : Takes ((cxOf CXg X.prog X.w X.K X.mg X.base Ng qg sg g cdg X.A X.stack s H Eg).tr pn xe) W) (hr : Room (k + 1) (X.A.deeper (envOfC qg sg s.heap.objs.size g cdg)))
    (hbody : ∀ (n : Nat) (L : LSpec), spec[n]? = some L → ∀ (A : Around) (outer : List Env) (s : Shared) (H : Hp) (E : XK) (f c' : Addr), Room k (A.deeper (lamEnv X L.scope s.heap.objs.size f c')) → PE (lamCx X A outer s H E L.scope f c') L.body (TD (lamG K w cls q P cells spec) (fun c d _ H' => E c d H') (bodies n)))
    (hN : Ng[i]? = some a) (hv : Vis sg a) (hd : (a == ("__debug__" : Str)) = false := by decide) (hcd : (a == ("__classdict__" : Str)) = false := by decide) :
    PE ((cxOf CXg X.prog X.w X.K X.mg X.base Ng qg sg g cdg X.A X.stack s H Eg).tr pn xe) (.Call (.Name a p1) [] [] p2) (TDx (lamG K w cls q P cells spec) W ρX σX (xAct i fun n S => bodies n ρX S)) := by
  refine ⟨fun pinsZ sZ σZ HZ Q IZ ⟨μ, ρ, S, en, enX, rp, po⟩ => ?_⟩
  unfold xAct at po
  cases hρ : ρ[i]? with
  | none => rw [hρ] at po; exact po.elim
  | some o =>
    rw [hρ] at po
    cases o with
    | none => exact po.elim
    | some d =>
      obtain ⟨v, hs, dv⟩ := en.at_ i d hρ
      cases d with
      | clo n =>
        simp only [kAct_clo] at po
        cases dv with
        | clo hc =>
          rename_i f
          rcases hc with ⟨z, _⟩ | ⟨m, L, e1, e2, c', dV, h1, h2, h3⟩
          · cases z
          · obtain rfl : n = m := Nat.succ.inj e1
            obtain ⟨LP, LB⟩ := hL n L e2
            refine wpAny_Call_Name_kw (thn ((pe_var (pos := p1) (i := i) hN hv hd hcd).run pinsZ sZ σZ HZ (fun v H1 => v = .ref f ∧ H1 = HZ) IZ ⟨.ref f, hs, rfl, rfl⟩) fun u s1 ⟨v, H1, I1, r1, q1⟩ => ?_)
            obtain ⟨ev, eH⟩ := q1
            subst ev
            rw [eH] at I1
            obtain rfl : u = Value.ref f := r1
            obtain ⟨od, sl, doc, pm, ctv, of1⟩ := lamO_at I1.hok h1
            refine PySem.W.callWith_F0 ⟨_, _, _, _, of1⟩ ?_
            have un : Un (frs X.stack) [] H HZ s.heap s1.heap := I1.base
            obtain ⟨⟨oc, vs, t, hoc, hdc, hvc⟩, _, _⟩ := I1.hok c' _ h2
            obtain ⟨binds, hb, hbl⟩ : ∃ binds : List (Str × Value), BindsTo s1 (lamFd q L (cloFrom cells L.scope.names []) c' dV doc pm ctv) ⟨[], []⟩ binds ∧ ∀ y ∈ binds, L.scope.names.lookup y.1 = some .local := by
              rcases h3 with ⟨d0, e3⟩ | ⟨d0, tt, e3, e4⟩
              · subst e3
                exact ⟨[], .of_eq (LB.b0 d0 _ _ _ _ _), by simp⟩
              · subst e3
                obtain ⟨hz, its, rv, ⟨ot, ho, hct, nn, hdt⟩⟩ := I1.hok tt _ e4
                cases rv with
                | cons rx rt =>
                  cases rt
                  rename_i uu
                  obtain ⟨y, kk, b1, b2, b3⟩ := LB.b1 d0 (cloFrom cells L.scope.names []) c' tt doc pm ctv uu
                  refine ⟨[(y, uu)], BindsTo.of_defaults rfl ho hdt b1 b2, fun z hz => ?_⟩
                  simp at hz
                  rw [hz]
                  exact b3
            have rc : codeAny (model X.prog X.w) (X.A.deeper (envOfC qg sg s.heap.objs.size g cdg)) (.call (.ref f) ⟨[], []⟩) (CR (L2.CX X.prog X.w) (envOfC qg sg s.heap.objs.size g cdg :: X.stack) X.prog X.w HZ s1 Q (WE W σZ)) s1 := by
              refine PySem.W.kla_callFunE hr.depth of1 rfl LP.co LP.gen rfl ⟨c', oc, vs, t, rfl, hoc, hdc, hvc⟩ (hb _ _ _ _ ?_)
              refine wpAny_newFunctionEnv (fun y hy => (LP.own y hy).1) hbl (fun h₁ hns hsb => ⟨I1.nolimit.fresh _ hsb, ?_⟩) LP.kind
              subst hcl
              show codeAny _ _ (.expr L.body (PySem.W.envX q L.scope s1.heap.objs.size f (.ref c') (cloFrom X.env.cells L.scope.names []))) _ _
              rw [hq]
              show codeAny _ _ (.expr L.body (lamEnv X L.scope s1.heap.objs.size f c')) _ _
              have kp : ∀ b o, s1.heap.get? b = some o → h₁.get? b = some o := fun b o e => hsb.extBut b o (Nat.ne_of_lt (Heap.lt_size e)) (Heap.get?_push_of_some _ e)
              have J : Inv (lamCx X (X.A.deeper (envOfC qg sg s.heap.objs.size g cdg)) (envOfC qg sg s.heap.objs.size g cdg :: X.stack) s1 HZ (WE W σZ) L.scope f c') [] σX HZ { s1 with heap := h₁, toks := s1.toks + binds.length } :=
                lam_start3 I LP I1.env0 hr.hd un hns kp
              refine PySem.W.kla_codeExpr (wpAny_mono ((hbody n L e2 _ _ s1 HZ (WE W σZ) f c' (hr.deeper _)).run [] _ _ HZ Q J ⟨μ, ρX, S, enX, rp, ?_⟩) (fun v s' hq => ?_) fun e s' hq => hq)
              · revert po
                generalize bodies n ρX S = r
                intro po
                cases r with
                | ok a S' => exact po
                | exc c fs S' => exact po
                | stuck => exact po
              · obtain ⟨w', H', J', rv, q⟩ := hq
                exact ⟨w', H', J'.os, J'.bare, J'.base, J'.hok, rv, q⟩
            refine wpAny_call (codeAny_mono rc fun r s' hq => ?_)
            cases r with
            | error e => exact passAt tk σZ pinsZ HZ s1 e s' I1 hq
            | ok fl =>
              cases fl with
              | ret u => exact I1.after hq
              | next => exact False.elim hq
              | brk => exact False.elim hq
              | cont => exact False.elim hq
      | _ => exact po.elim
end Dx

set_option maxHeartbeats 2000000
/-! Dx25: defs that call what they got; their calls. -/
namespace Dx
open PySem PySem.Spec L2 LamX NdefX PyProof.Rows
section
variable {G : Gx} {X : Cx} {W : WX} {ρX : Ev} {σX : L2.St}
theorem dsx_expr {e : Expr} {pos : Pos} {f : FE} (he : PE X e (TDx G W ρX σX f)) (hs : swapsWith e none pos.line X.env = pure false := by rfl) : PS X (.Expr e pos) (TDSx G W ρX σX (sExpr f)) :=
  PS.imp (ps_expr he hs) fun Z σ H ⟨μ, ρ, S, en, enX, rp, p⟩ => ⟨μ, ρ, S, en, enX, rp, (posts_go en p).mono fun v H1 ⟨μ1, d, S1, pe, rp1, dd, p1⟩ => PostS.now p1 rp1 (en.per pe)⟩
theorem dsx_ret {e : Expr} {pos : Pos} {f : FE} (he : PE X e (TDx G W ρX σX f)) : PS X (.Return (some e) pos) (TDSx G W ρX σX (sRet f)) :=
  PS.imp (ps_ret he) fun Z σ H ⟨μ, ρ, S, en, enX, rp, p⟩ => ⟨μ, ρ, S, en, enX, rp, (posts_go en p).mono fun v H1 ⟨μ1, d, S1, pe, rp1, dd, p1⟩ => p1 _ _ _ .refl rp1 dd⟩
theorem dsx_one {st : Stmt} {g : FS} (h1 : PS X st (TDSx G W ρX σX g)) : PSs X [st] (TDSx G W ρX σX g) := pss_one h1
theorem dsx_cons {st : Stmt} {rest : List Stmt} {g h : FS} (h1 : PS X st (TDSx G W ρX σX g)) (h2 : PSs X rest (TDS G W h)) : PSs X (st :: rest) (TDSx G W ρX σX (sSeq g h)) :=
  PSs.imp (pss_cons h1 h2) fun Z σ H ⟨μ, ρ, S, en, enX, rp, p⟩ => ⟨μ, ρ, S, en, enX, rp, posts_seq p⟩
/-- the handler's part, shared by both forms of clauses -/
theorem dsx_tryAs {i k : Nat} {sup : Nat → Option Bool} {x n : Str} {body suite : List Stmt} {b₀ : Stmt} {np pos pos' : Pos} {gb : FS} {gs : Nat → Nat → Option Nat → FS} (A : Amb G X W) (hN : X.N.Nodup) (hx : X.mg x = some (.ref (G.cls k))) (hsup : ∀ c b, sup c = some b → PySem.W.exmOne X.K (.ref (G.cls c)) (.ref (G.cls k)) = some b)
    (hb : ∀ (W' : WX) (pn : List (Addr × Obj)) (xe : Value → Shared → Prop), Amb G (X.tr pn xe) W' → PSs (X.tr pn xe) body (TDSx G W' ρX σX gb))
    (hsu : ∀ (a : Addr) (oe : Obj) (c : Nat) (d : Option Addr) (pn : List (Addr × Obj)), Zc (.ref (G.cls c)) d oe → (∃ vs, oe.data = .fields vs) → sup c = some true → Amb G (X.suite a ((a, oe) :: pn)) W0 → PSs (X.suite a ((a, oe) :: pn)) (b₀ :: suite) (TDS G W0 (gs c a d)))
    (hi : X.N[i]? = some n := by rfl) (hln : X.env.kindOf n = some .local := by rfl) (hg : Gl X x := by rfl) (hdb : (x == ("__debug__" : Str)) = false := by decide) (hs : X.stack = X.env :: X.outer := by rfl) (hf : X.env.frame = some X.env.locals := by rfl) :
    PS X (.Try body [.ExceptHandler (some (.Name x np)) (some n) (b₀ :: suite) pos'] [] [] pos) (TDSx G W ρX σX (sTry gb i sup gs)) := by
  refine PS.imp (ps_try_as hs hf hN hi hln ⟨hg, hdb, .inl hx⟩ A.tk (tb := fun W' => TDSx G W' ρX σX gb)
    (ts := fun a cls d => fun Z σ H => ∃ c, cls = .ref (G.cls c) ∧ sup c = some true ∧ TDS G W0 (gs c a d) Z σ H) (fun W' pn xe tk po => hb W' pn xe (A.tr tk po)) (fun a oe cls d pn hz hf => ?_)) fun Z σ H ⟨μ, ρ, S, en, enX, rp, p⟩ => ⟨μ, ρ, S, en, enX, rp, ?_⟩
  · refine ⟨fun pins s σ H D I ⟨c, e, h1, h2⟩ => ?_⟩
    subst e
    exact (hsu a oe c d pn hz hf h1 A.suite).run pins s σ H D I h2
  · exact try_post A hsup p
/-- try: .. except X: .., nothing being kept -/
noncomputable def tryO (suite : FS) (c : Nat) (fs : List (String × D)) (ρ : Ev) (S : Sg) : Option Bool → Fl
  | some true => match suite ρ S with
    | .exc _ _ _ _ => .stuck
    | o => o
  | some false => .exc c fs ρ S
  | none => .stuck
noncomputable def tryOAt (sup : Nat → Option Bool) (suite : FS) : Fl → Fl
  | .exc c fs ρ S => tryO suite c fs ρ S (sup c)
  | o => o
noncomputable def sTryO (body : FS) (sup : Nat → Option Bool) (suite : FS) : FS := fun ρ S => tryOAt sup suite (body ρ S)
@[simp] theorem sTryO_at {body suite : FS} {sup : Nat → Option Bool} {ρ : Ev} {S : Sg} : sTryO body sup suite ρ S = tryOAt sup suite (body ρ S) := rfl
@[simp] theorem tryOAt_nx {suite : FS} {sup : Nat → Option Bool} {ρ : Ev} {S : Sg} : tryOAt sup suite (.nx ρ S) = .nx ρ S := rfl
@[simp] theorem tryOAt_rt {suite : FS} {sup : Nat → Option Bool} {d : D} {S : Sg} : tryOAt sup suite (.rt d S) = .rt d S := rfl
@[simp] theorem tryOAt_exc {suite : FS} {sup : Nat → Option Bool} {c : Nat} {fs : List (String × D)} {ρ : Ev} {S : Sg} : tryOAt sup suite (.exc c fs ρ S) = tryO suite c fs ρ S (sup c) := rfl
@[simp] theorem tryO_f {suite : FS} {c : Nat} {fs : List (String × D)} {ρ : Ev} {S : Sg} : tryO suite c fs ρ S (some false) = .exc c fs ρ S := rfl
theorem tryO_rt {suite : FS} {c : Nat} {fs : List (String × D)} {ρ : Ev} {S S1 : Sg} {d : D} (h : suite ρ S = .rt d S1) : tryO suite c fs ρ S (some true) = .rt d S1 := by
  simp [tryO, h]
theorem tryO_post {μ : List Addr} {H : Hp} {Z : Ends} {suite : FS} {sup : Nat → Option Bool} {k : Nat} {f : Fl} (hsup : ∀ c b, sup c = some b → PySem.W.exmOne X.K (.ref (G.cls c)) (.ref (G.cls k)) = some b) (p : PostS G W μ H Z (tryOAt sup suite f)) :
    PostS G (wOnly X.K (.ref (G.cls k)) (fun _ _ _ => TDS G W0 suite) W Z) μ H Z f := by
  cases f with
  | nx ρ S => exact p
  | rt d S => exact p
  | bk ρ S => exact p
  | ct ρ S => exact p
  | stuck => exact p
  | exc c fs ρ1 S1 =>
    intro μ' H' σ' cls dd pe rp' en' ex
    obtain ⟨ec, hd⟩ := ex
    subst ec
    simp only [tryOAt_exc] at p
    cases hc : sup c with
    | none => rw [hc] at p; exact p.elim
    | some b =>
      rw [hc] at p
      refine ⟨b, hsup c b hc, fun hb a ha => ?_, fun hb => ?_⟩
      · subst hb
        refine ⟨μ', ρ1, S1, en', rp', PostS.per (H := H) (μ := μ) ?_ pe⟩
        unfold tryO at p
        dsimp only at p
        revert p
        generalize suite ρ1 S1 = fl
        intro p
        cases fl with
        | exc c fs ρ S => exact p.elim
        | nx ρ S => exact p
        | rt d S => exact p
        | bk ρ S => exact p
        | ct ρ S => exact p
        | stuck => exact p
      · subst hb
        exact p μ' H' σ' _ dd pe rp' en' ⟨rfl, hd⟩
theorem dsx_tryO {k : Nat} {sup : Nat → Option Bool} {x : Str} {body suite : List Stmt} {b₀ : Stmt} {np pos pos' : Pos} {gb gs : FS} (A : Amb G X W) (hx : X.mg x = some (.ref (G.cls k))) (hsup : ∀ c b, sup c = some b → PySem.W.exmOne X.K (.ref (G.cls c)) (.ref (G.cls k)) = some b)
    (hb : ∀ (W' : WX) (pn : List (Addr × Obj)) (xe : Value → Shared → Prop), Amb G (X.tr pn xe) W' → PSs (X.tr pn xe) body (TDSx G W' ρX σX gb))
    (hsu : ∀ (a : Addr) (oe : Obj) (pn : List (Addr × Obj)), Amb G (X.suite a ((a, oe) :: pn)) W0 → PSs (X.suite a ((a, oe) :: pn)) (b₀ :: suite) (TDS G W0 gs))
    (hg : Gl X x := by rfl) (hdb : (x == ("__debug__" : Str)) = false := by decide) (hs : X.stack = X.env :: X.outer := by rfl) (hf : X.env.frame = some X.env.locals := by rfl) :
    PS X (.Try body [.ExceptHandler (some (.Name x np)) none (b₀ :: suite) pos'] [] [] pos) (TDSx G W ρX σX (sTryO gb sup gs)) :=
  PS.imp (ps_try_only hs hf ⟨hg, hdb, .inl hx⟩ A.tk (tb := fun W' => TDSx G W' ρX σX gb) (ts := fun _ _ _ => TDS G W0 gs) (fun W' pn xe tk po => hb W' pn xe (A.tr tk po)) (fun a oe cls d pn hz hf => hsu a oe pn A.suite))
    fun Z σ H ⟨μ, ρ, S, en, enX, rp, p⟩ => ⟨μ, ρ, S, en, enX, rp, tryO_post hsup p⟩
end
/-! ### a def that calls its parameter -/
structure ActD (P : Program) (w : World) (K : PySem.W.Frag) (mg : Str → Option Value) (base : Heap) (G : Gx) (k : Nat) (x : Str) (F : (Nat → Sg → R D) → FF) : Prop where
  ex : ∃ (g : Addr) (pg : Arguments) (bg : List Stmt) (sg : Scope) (dV kV doc pm cdv ct oc : Value) (an od : Option Addr) (osl : Array (Option Value)) (Ng : List Str) (a : Str) (Sf : (Nat → Sg → R D) → FS),
    K.lookup g = some ⟨oc, od, .func (PySem.W.fnOf x x pg bg sg dV kV doc pm an cdv ct), osl⟩ ∧ PySem.W.codeIn K cdv x = true ∧ mg x = some (.ref g) ∧ PySem.W.keepIn K (.ref g) = true ∧ L2.Binds K (PySem.W.fnOf x x pg bg sg dV kV doc pm an cdv ct) [a] [] ∧ FnScope Ng [a] sg ∧
    Ng[0]? = some a ∧ Vis sg a ∧ (a == ("__debug__" : Str)) = false ∧ (a == ("__classdict__" : Str)) = false ∧ (∀ act, F act = dFun Ng.length 1 (Sf act)) ∧
    ∀ (A : Around) (outer : List Env) (s : Shared) (H : Hp) (E : XK) (ρX : Ev) (σX : L2.St) (act : Nat → Sg → R D), Room k (A.deeper (envOfC x sg s.heap.objs.size g cdv)) →
      (∀ (W : WX) (pn : List (Addr × Obj)) (xe : Value → Shared → Prop) (p1 p2 : Pos), Takes ((cxOf (L2.CX P w) P w K mg base Ng x sg g cdv A outer s H E).tr pn xe) W →
        PE ((cxOf (L2.CX P w) P w K mg base Ng x sg g cdv A outer s H E).tr pn xe) (.Call (.Name a p1) [] [] p2) (TDx G W ρX σX (xAct 0 act))) →
      PSs (cxOf (L2.CX P w) P w K mg base Ng x sg g cdv A outer s H E) bg (TDSx G (fun c d _ H' => E c d H') ρX σX (Sf act))
def xCallA (F : (Nat → Sg → R D) → FF) (bodies : Nat → FE) (g : FA) : FE := fun ρ S => (g ρ S).bind fun ds S1 => if ds.length = 1 then F (fun n S => bodies n ρ S) ds S1 else .stuck
theorem de_callAct {X : Cx} {W : WX} {K : PySem.W.Frag} {w : World} {cls : Nat → Addr} {q : Str} {P : Addr} {cells : List (Str × Addr)} {spec : List LSpec} {x : Str} {F : (Nat → Sg → R D) → FF} {bodies : Nat → FE} {k : Nat} {e : Expr} {g : FA} {p pos : Pos} (A : Amb (lamG K w cls q P cells spec) X W)
    (d : ActD X.prog X.w X.K X.mg X.base (lamG K w cls q P cells spec) (k + 1) x F) (hr : Room (k + 2) X.A) (hcl : cells = X.env.cells) (hq : q = X.env.qual ++ "<lambda>") (hL : ∀ (n : Nat) (L : LSpec), spec[n]? = some L → LamP X.N X.env.scope L.scope ∧ LamB q L)
    (hbody : ∀ (n : Nat) (L : LSpec), spec[n]? = some L → ∀ (A : Around) (outer : List Env) (s : Shared) (H : Hp) (E : XK) (f c' : Addr), Room k (A.deeper (lamEnv X L.scope s.heap.objs.size f c')) → PE (lamCx X A outer s H E L.scope f c') L.body (TD (lamG K w cls q P cells spec) (fun c d _ H' => E c d H') (bodies n)))
    (ha : PA X [e] (TDA (lamG K w cls q P cells spec) W g)) (hg : Gl X x := by rfl) (hdb : (x == ("__debug__" : Str)) = false := by decide) (he : starEach [e] X.env = (false, eval e X.env) :: starEach [] X.env := by rfl) (hpl : (backTo pos (starEach [] X.env)).any (·.1) = false := by rfl) :
    PE X (.Call (.Name x p) [e] [] pos) (TD (lamG K w cls q P cells spec) W (xCallA F bodies g)) := by
  obtain ⟨ga, pg, bg, sg, dV, kV, doc, pm, cdv, ct, oc, an, od, osl, Ng, a, Sf, lk, hcg, hm, hk, hb, Sc, hN, hv, hd, hcd, hF, body⟩ := d.ex
  refine ⟨fun pins s σ H Q I ⟨μ, ρ, S, en, rp, po⟩ => ?_⟩
  refine wpAny_Call_Name_kw (ld_glob I hg hm ?_ hdb)
  refine PySem.W.callWith_K (h₀ := X.base) I.ok.mod.kin hk (thn (ha.run pos pins s σ H _ I ⟨μ, ρ, S, en, rp, post_bind po⟩) fun us s1 ⟨vs, H1, I1, r1, μ1, ds, S1, pe, rp1, dd, p1⟩ => ⟨I1.kIn, ?_⟩) he hpl
  obtain ⟨hl, p2⟩ := post_ite p1
  have hvl : vs.length = 1 := by rw [← dd.length]; exact hl
  have hul : us.length = 1 := by rw [← r1.length]; exact hvl
  have rc : codeAny (model X.prog X.w) X.A (.call (.ref ga) ⟨us, []⟩) (CR (L2.CX X.prog X.w) X.stack X.prog X.w H1 s1 Q (WE W σ)) s1 := by
    have hb1 := hb s1 us I1.kIn (by simpa using hul)
    rw [List.append_nil] at hb1
    refine run_ofS (N := Ng) (ps := [a]) (us := us) (vs := vs) lk hcg Sc hr I1.env0 hb1 r1 (by simpa using hvl) fun hr' => ?_
    refine ⟨_, body X.A X.stack s1 H1 (WE W σ) ρ σ (fun n S => bodies n ρ S) hr' fun W' pn xe p1 p2 tk => pe_act3 I1 hcl hq hL tk hr' hbody hN hv hd hcd, ?_⟩
    refine ⟨μ1, _, S1, start_env dd (by rw [hl]; exact Nat.succ_le_of_lt (List.getElem?_eq_some_iff.mp hN).1), en.per pe, rp1, ?_⟩
    rw [hF] at p2
    unfold dFun at p2
    rw [if_pos hl] at p2
    revert p2
    generalize Sf (fun n S => bodies n ρ S) (ds.map some ++ List.replicate (Ng.length - ds.length) none) S1 = fl
    intro p2
    cases fl with
    | nx ρ' S' => exact fun μ' H' σ' p r e => p2 μ' H' _ p r .non
    | rt d S' => exact p2
    | bk ρ' S' => exact p2.elim
    | ct ρ' S' => exact p2.elim
    | exc c fs ρ' S' => exact fun μ' H' σ' cls dd p r e x => p2 μ' H' cls dd p r x
    | stuck => exact p2.elim
  refine wpAny_call (codeAny_mono rc fun r s' hq => ?_)
  cases r with
  | error e => exact passAt A.tk σ pins H1 s1 e s' I1 hq
  | ok fl =>
    cases fl with
    | ret u => exact I1.after hq
    | next => exact False.elim hq
    | brk => exact False.elim hq
    | cont => exact False.elim hq
end Dx

set_option maxHeartbeats 2000000
/-! Dx26: a law that makes lambdas: its entry, its end; defs that call their parameter. -/
namespace Dx
open PySem PySem.Spec L2 LamX NdefX PyProof.Rows
theorem pss_frz {X : Cx} {body : List Stmt} {t : TS} (h : PSs X body t) : PSs X body (fun Z σ H => t Z σ H ∨ ∃ a u, H a = some u ∧ Mut (some u) ∧ ∀ od, t Z σ (upd H a (.frz od u))) := by
  refine ⟨fun pins s σ H D I q => ?_⟩
  rcases q with q | ⟨a, u, hu, mu, q⟩
  · exact h.run pins s σ H D I q
  · obtain ⟨od, I2⟩ := I.lock hu mu
    exact h.run pins s σ _ D I2 (q od)
/-- the script, and an empty table of code objects -/
def spLawT (n : Nat) (K : PySem.W.Frag) (P : Addr) : Sp := fun vs H Q E => ∃ (a : Addr) (ns : List Int), vs = [.ref a] ∧ ns.length ≤ n ∧ H P = some (.tbl #[]) ∧ SqL K H a (ns.map V.int) ∧ ∀ H', Q (.bl true) H'
theorem law_fnL {P : Program} {w : World} {K : PySem.W.Frag} {mg : Str → Option Value} {base : Heap} {k n : Nat} {x : Str} {st : Stmt} {f c Pt : Addr} {fd : FuncData} {N : List Str} {g : FS} {cls : Nat → Addr} {q : Str} {spec : List LSpec} (F : Fun K x x st f fd) (Sc : FnScope N ["script"] (defScope st)) (hcode : fd.code = .ref c)
    (hN : 1 ≤ N.length) (hl : ∀ ns : List Int, ns.length ≤ n → ∃ S, dFun N.length 1 g [.slist ns] [] = .ok (.bl true) S)
    (hbody : ∀ (A : Around) (outer : List Env) (s : Shared) (H : Hp) (E : XK), Room k (A.deeper (envOfC x (defScope st) s.heap.objs.size f (.ref c))) →
      PSs (cxOf (L2.CX P w) P w K mg base N x (defScope st) f (.ref c) A outer s H E) (defBody st) (TDS (lamG K w cls q Pt (cxOf (L2.CX P w) P w K mg base N x (defScope st) f (.ref c) A outer s H E).env.cells spec) (fun c d _ H' => E c d H') g)) :
    FnOk P w K mg base (L2.CX P w) (k + 1) f fd ["script"] (spLawT n K Pt) := by
  obtain ⟨oc, od, kV, doc, pm, an, cdv, ct, osl, rfl, lk, hcd⟩ := F.ex
  have hcdv : cdv = .ref c := hcode
  subst hcdv
  refine fn_of lk hcd Sc (fun vs H Q E h => by obtain ⟨a, ns, rfl, _⟩ := h; rfl) fun A outer s H vs Q E hr h => ⟨_, pss_frz (hbody A outer s H E hr), ?_⟩
  obtain ⟨a, ns, rfl, hn, hP, hs, hQ⟩ := h
  obtain ⟨S1, e⟩ := hl ns hn
  have key : ∀ H0 : Hp, H0 Pt = some (.tbl #[]) → ((∃ z, H0 a = some (.frz z (.lst (ns.map V.int)))) ∨ ∀ H', SqL K H' a (ns.map V.int)) →
      TDS (lamG K w cls q Pt (cxOf (L2.CX P w) P w K mg base N x (defScope st) f (.ref c) A outer s H E).env.cells spec) (fun c d _ H' => E c d H') g { nx := fun _ H' => Q .non H', rt := Q } (L2.start N [.ref a]) H0 := by
    intro H0 h1 h2
    refine ⟨[], _, [], start_env (ds := [.slist ns]) (.cons (.slist h2) .nil) (by simpa using hN), ⟨rfl, fun i j a z => by simp at z, fun n o a z => by simp at z, fun p hp => ?_⟩, ?_⟩
    · simp [lamG] at hp
      subst hp
      exact TabN.of (TabS.nil h1)
    · unfold dFun at e
      rw [if_pos (show [D.slist ns].length = 1 from rfl)] at e
      revert e
      generalize g ([D.slist ns].map some ++ List.replicate (N.length - [D.slist ns].length) none) [] = fl
      intro e
      cases fl with
      | nx ρ' S' => simp at e
      | rt d S' =>
        simp only [R.ok.injEq] at e
        obtain ⟨e1, e2⟩ := e
        subst e1
        intro μ' H' v p r dv
        cases dv
        exact hQ H'
      | bk ρ' S' => simp at e
      | ct ρ' S' => simp at e
      | exc c fs ρ' S' => simp at e
      | stuck => simp at e
  rcases hs with (hs | ⟨z, hs⟩) | hs
  · refine .inr ⟨a, .lst (ns.map V.int), hs, trivial, fun od => key _ ?_ (.inl ⟨od, upd_same⟩)⟩
    rw [upd_ne fun z => by rw [z, hs] at hP; cases hP]
    exact hP
  · exact .inl (key H hP (.inl ⟨z, hs⟩))
  · exact .inl (key H hP (.inr fun H' => .inr hs))
theorem walkL {l : PySem.W.OpenLaw} {q : Program} {loose : List Str} {XP : (Str → Option Value) → Heap → Prop} {YP : World → Heap → Prop} {d : DefRec} {K : Params → PySem.W.Frag} (k : Nat) (hk : Room k callerA) (hn : l.most = some 63) (hdf : d.params.defaults = [])
    (hY : ∀ (w : World) (h : Heap), YP w h → (K w.params).In h)
    (F : ∀ (w : World) (mg : Str → Option Value) (fa : Addr) (h : Heap), YP w h → (K w.params).In h → h.Ns mainGlobals mg → mg d.name = some (.ref fa) →
      ∃ (fd : FuncData) (c Pt : Addr), h.get? Pt = some { cls := .none, data := .fields #[] } ∧ (K w.params).lookup Pt = none ∧ PySem.W.CodeHd h c Pt ∧ (∀ (s : Shared) (u : Value), BindsTo s fd ⟨[u], []⟩ [("script", u)]) ∧
        ∀ base : Heap, (K w.params).In base → base.Ns mainGlobals mg → TabB base mg c Pt → FnOk l.prog w (K w.params) mg base (L2.CX l.prog w) k fa fd ["script"] (spLawT 63 (K w.params) Pt)) :
    PySem.W.WalkO q loose XP YP l.row.toRowW d [] (fun f vs => PySem.call f vs) := by
  refine walk_ofTs (n := 63) (k := k) (x := "script") (CX := fun w => L2.CX l.prog w) hn (by decide) hdf hk hY (fun w mg fa h Y KX Gn hm => ?_) fun _ _ _ _ _ ⟨_, _, _, _, _, _, _, _, _, _, _, _, z⟩ => z
  obtain ⟨fd, c, Pt, h1, h2, h3, h4, h5⟩ := F w mg fa h Y KX Gn hm
  refine ⟨fd, [(c, Pt)], spLawT 63 (K w.params) Pt, ?_, ?_, ?_, h4, ?_, fun base b1 b2 b3 => h5 base b1 b2 (b3 (c, Pt) (by simp))⟩
  · intro p hp; simp at hp; subst hp; exact h1
  · intro p hp; simp at hp; subst hp; exact h2
  · intro p hp; simp at hp; subst hp; exact h3
  · exact fun H a ns hl _ hT hS => ⟨a, ns, rfl, hl, hT _ (List.mem_singleton.mpr rfl), hS, fun _ => rfl⟩
/-- a def of one parameter that calls it -/
theorem act_of {P : Program} {w : World} {K : PySem.W.Frag} {mg : Str → Option Value} {base : Heap} {G : Gx} {k : Nat} {x a : Str} {st : Stmt} {Ng : List Str} {Sf : (Nat → Sg → R D) → FS} (h : FunAt K mg x st [a]) (Sc : FnScope Ng [a] (defScope st)) (hN : Ng[0]? = some a)
    (hv : Vis (defScope st) a) (hd : (a == ("__debug__" : Str)) = false) (hcd : (a == ("__classdict__" : Str)) = false)
    (body : ∀ (g : Addr) (cdg : Value) (A : Around) (outer : List Env) (s : Shared) (H : Hp) (E : XK) (ρX : Ev) (σX : L2.St) (act : Nat → Sg → R D), Room k (A.deeper (envOfC x (defScope st) s.heap.objs.size g cdg)) →
      (∀ (W : WX) (pn : List (Addr × Obj)) (xe : Value → Shared → Prop) (p1 p2 : Pos), Takes ((cxOf (L2.CX P w) P w K mg base Ng x (defScope st) g cdg A outer s H E).tr pn xe) W →
        PE ((cxOf (L2.CX P w) P w K mg base Ng x (defScope st) g cdg A outer s H E).tr pn xe) (.Call (.Name a p1) [] [] p2) (TDx G W ρX σX (xAct 0 act))) →
      PSs (cxOf (L2.CX P w) P w K mg base Ng x (defScope st) g cdg A outer s H E) (defBody st) (TDSx G (fun c d _ H' => E c d H') ρX σX (Sf act))) :
    ActD P w K mg base G k x (fun act => dFun Ng.length 1 (Sf act)) := by
  obtain ⟨f, fd, F, hm, hb⟩ := h.ex
  obtain ⟨oc, od, kV, doc, pm, an, cdv, ct, osl, rfl, lk, hcd'⟩ := F.ex
  exact ⟨f, _, _, _, _, _, _, _, _, _, _, _, _, _, Ng, a, Sf, lk, hcd', hm, F.kp, hb, Sc, hN, hv, hd, hcd, fun _ => rfl, fun A outer s H E ρX σX act hr hact => body f cdv A outer s H E ρX σX act hr hact⟩
end Dx

/-! Dx27: where a lambda stands in a text; classes of errors; the context of a lambda's body. -/
namespace Dx
open PySem PySem.Spec L2 LamX NdefX PyProof.Rows
/-! ### ways through a text -/
def xNone : Expr := .Constant .none 0 ⟨0, 0, 0, 0⟩
def stNone : Stmt := .Pass ⟨0, 0, 0, 0⟩
def wS (b : List Stmt) (i : Nat) : Stmt := b.getD i stNone
def wE (b : List Expr) (i : Nat) : Expr := b.getD i xNone
def wBody : Stmt → List Stmt
  | .If _ b _ _ => b
  | .For _ _ b _ _ => b
  | .While _ b _ _ => b
  | _ => []
def wAsg : Stmt → Expr
  | .Assign _ e _ => e
  | _ => xNone
def wTest : Stmt → Expr
  | .If e _ _ _ => e
  | _ => xNone
def wRet : Stmt → Expr
  | .Return (some e) _ => e
  | _ => xNone
def wBool : Expr → List Expr
  | .BoolOp _ es _ => es
  | _ => []
def wCmpL : Expr → Expr
  | .Compare e _ _ _ => e
  | _ => xNone
def wArgs : Expr → List Expr
  | .Call _ es _ _ => es
  | _ => []
def wElts : Expr → List Expr
  | .List es _ => es
  | .Tuple es _ _ => es
  | _ => []
def wBinL : Expr → Expr
  | .BinOp a _ _ _ => a
  | _ => xNone
def wBinR : Expr → Expr
  | .BinOp _ _ b _ => b
  | _ => xNone
def wNot : Expr → Expr
  | .UnaryOp _ e _ => e
  | _ => xNone
def wLam : Expr → LSpec
  | .Lambda p b s _ => ⟨p, b, s⟩
  | _ => ⟨default, xNone, default⟩
/-! ### a lambda's body -/
theorem amb_lam {G : Gx} {X : Cx} {A : Around} {outer : List Env} {s : Shared} {H : Hp} {E : XK} {scope : Scope} {f c' : Addr} {k : Nat} (hK : X.K = G.K) (hw : X.w = G.w) (ok : G.Ok) (hr : Room (k + 1) (A.deeper (lamEnv X scope s.heap.objs.size f c'))) :
    Amb G (lamCx X A outer s H E scope f c') (fun c d _ H' => E c d H') :=
  ⟨hK, hw, ok, takes_of rfl rfl rfl rfl, by have h1 := hr.un; show (A.deeper (lamEnv X scope s.heap.objs.size f c')).units + 65 < cLine; omega, passes_of rfl⟩
/-! ### classes of errors -/
theorem kit_sub {K : PySem.W.Frag} {C D : Addr} {b : Bool} (hd : PySem.W.hasDictIn K D = true) (ht : PySem.W.typeIn K (.ref D) = some (.type "type")) (hs : PySem.W.subIn K (.ref C) (.ref D) = some b) (hb : C = D → b = true) : PySem.W.kitOne K (.ref C) (.ref D) = some b := by
  unfold PySem.W.kitOne
  by_cases h : C = D
  · subst h
    rw [if_pos (by simp), hb rfl]
  · rw [if_neg (by simpa using h)]
    obtain ⟨cd, hc, _⟩ := PySem.W.any_some hd
    unfold PySem.W.kitCls
    dsimp only
    rw [if_pos (by rw [hc, ht]; rfl)]
    exact hs
theorem em_base {K : PySem.W.Frag} {x : Str} {C : Addr} (_ : PySem.W.nsIn K mainGlobals x = some (some (.ref C))) (a : PySem.W.subIn K (.ref C) (.type "BaseException") = some true) (b : PySem.W.hasDictIn K C = true) (c : PySem.W.typeIn K (.ref C) = some (.type "type")) : PySem.W.subIn K (.ref C) (.type "BaseException") = some true ∧ PySem.W.hasDictIn K C = true ∧ PySem.W.typeIn K (.ref C) = some (.type "type") := ⟨a, b, c⟩
theorem em_of {K : PySem.W.Frag} {x y : Str} {C D : Addr} {b : Bool} (_ : PySem.W.nsIn K mainGlobals x = some (some (.ref C))) (_ : PySem.W.nsIn K mainGlobals y = some (some (.ref D))) (t : PySem.W.subIn K (.ref D) (.type "BaseException") = some true ∧ PySem.W.hasDictIn K D = true ∧ PySem.W.typeIn K (.ref D) = some (.type "type")) (h : PySem.W.subIn K (.ref C) (.ref D) = some b) : PySem.W.exmOne K (.ref C) (.ref D) = some b := PySem.W.exm_ref t.1 t.2.1 t.2.2 h
theorem ty_base {K : PySem.W.Frag} {x : Str} {C : Addr} (_ : PySem.W.nsIn K mainGlobals x = some (some (.ref C))) (b : PySem.W.hasDictIn K C = true) (c : PySem.W.typeIn K (.ref C) = some (.type "type")) : PySem.W.hasDictIn K C = true ∧ PySem.W.typeIn K (.ref C) = some (.type "type") := ⟨b, c⟩
theorem kit_of {K : PySem.W.Frag} {x y : Str} {C D : Addr} {b : Bool} (_ : PySem.W.nsIn K mainGlobals x = some (some (.ref C))) (_ : PySem.W.nsIn K mainGlobals y = some (some (.ref D))) (t : PySem.W.hasDictIn K D = true ∧ PySem.W.typeIn K (.ref D) = some (.type "type")) (h : PySem.W.subIn K (.ref C) (.ref D) = some b) (hb : C = D → b = true) : PySem.W.kitOne K (.ref C) (.ref D) = some b := kit_sub t.1 t.2 h hb
theorem errG_of {K : PySem.W.Frag} {h : Heap} {mg : Str → Option Value} {C : Addr} {x : Str} (X : K.In h) (Gn : h.Ns mainGlobals mg) (aC : PySem.W.nsIn K mainGlobals x = some (some (.ref C))) (a : PySem.W.excIn K C bmVE "ValueError.__new__" = true) (b : PySem.W.keepIn K (.ref C) = true)
    (c : PySem.W.subIn K (.ref C) (.type "BaseException") = some true) (d : PySem.W.typeIn K (.ref C) = some (.type "type")) : ErrG K mg C x := ⟨a, PySem.W.mg_of X Gn aC, b, c, d⟩
theorem excC_of {K : PySem.W.Frag} {C : Addr} {x : Str} (aC : PySem.W.nsIn K mainGlobals x = some (some (.ref C))) (a : PySem.W.findIn K (.ref C) "__getattribute__" = some (some (.builtin "BaseException.__getattribute__"))) (b : PySem.W.findIn K (.ref C) "__getattr__" = some none) (c : PySem.W.subIn K (.ref C) (.type "BaseException") = some true)
    (d : PySem.W.hasDictIn K C = true) (e : PySem.W.findIn K (.ref C) "__class__" = some (some (.builtin "object.__class__"))) (f : PySem.W.specialIn K (.builtin "object.__class__") "__get__" = some (some (.builtin "getset_descriptor.__get__"))) (g : PySem.W.takesIn K (.builtin "object.__class__") = some true) (h : PySem.W.mroIn K C (.type "object") = some true) : ExcC K C := ⟨a, b, c, d, e, f, g, h⟩
theorem lawFun_of {K : PySem.W.Frag} {h : Heap} {x : Str} {st : Stmt} {f c : Addr} {oc : Value} {od an : Option Addr} {osl : Array (Option Value)} {kV doc pm ct : Value} (_ : K.In h) (_ : PySem.W.nsIn K mainGlobals x = some (some (.ref f)))
    (l : K.lookup f = some ⟨oc, od, .func (PySem.W.fnOf x x (defArgs st) (defBody st) (defScope st) .none kV doc pm an (.ref c) ct), osl⟩) (e : PySem.W.codeIn K (.ref c) x = true) (k : PySem.W.keepIn K (.ref f) = true) : ∃ fd : FuncData, Fun K x x st f fd ∧ fd.code = .ref c := ⟨_, fun_mk l e k, rfl⟩
/-! ### what stands around a law that makes lambdas -/
abbrev mkGL {K : PySem.W.Frag} {h : Heap} (_ : K.In h) (w : World) (cs : List Addr) (q : Str) (P : Addr) (cells : List (Str × Addr)) (spec : List LSpec) : Gx := lamG K w (fun i => cs.getD i 0) q P cells spec
abbrev tAt {h : Heap} {P : Addr} (_ : h.get? P = some { cls := .none, data := .fields #[] }) : Addr := P
theorem fn_at {K : PySem.W.Frag} {h : Heap} {x : Str} {f : Addr} (_ : K.In h) (a : PySem.W.nsIn K mainGlobals x = some (some (.ref f))) : PySem.W.nsIn K mainGlobals x = some (some (.ref f)) := a
abbrev fAt {K : PySem.W.Frag} {x : Str} {f : Addr} (_ : PySem.W.nsIn K mainGlobals x = some (some (.ref f))) : Addr := f
/-! ### list.count of bools -/
theorem bl_countP {b : Bool} : ∀ {bs : List Bool} {us : List Value}, Vals (bs.map V.bl) us → us.countP (eqU (V.bl b)) = bs.count b
  | [], _, .nil => rfl
  | c :: bs, _, .cons r t => by
    cases r
    rw [List.countP_cons, List.count_cons, bl_countP t]
    rfl
theorem mt_countB {X : Cx} : MtR X "list.count" (fun x xs H Q => ∃ (p : Addr) (bs : List Bool) (b : Bool), x = .ref p ∧ xs = [.bl b] ∧ SqL X.K H p (bs.map V.bl) ∧ Q (.int (bs.count b : Nat)) H) := by
  intro pins s σ H x xs v us Q I rx rv ⟨p, bs, b, hx, hxs, hs, q⟩
  subst hx hxs
  cases rx
  cases rv with
  | cons ru rt =>
    cases rt
    cases ru
    obtain ⟨its, rits, pl, _⟩ := I.list hs
    obtain ⟨ob, n, ho, hc, hdn, hdt⟩ := pl
    obtain ⟨cl, dd, dt, sl⟩ := ob
    cases hc
    cases hdt
    refine call_meets PySem.F.slot_list_count ⟨_, ho, rfl⟩ PySem.F.entry_list_count (PySem.F.args_list_count_2 _ _) (SeqAt.list_countAt p its.toArray n dd sl (.bool b) (eqU (V.bl b)))
      ⟨ho, fun y hy => mem_eqAt (x := V.bl b) rfl rfl rits (by rw [List.all_map]; exact List.all_eq_true.mpr fun _ _ => rfl) y (by simpa using hy), .int (bs.count b : Nat), H, I.tok _, ⟨s.toks, ?_⟩, q⟩
    show Value.int ((its.countP (eqU (V.bl b)) : Nat) : Int) s.toks = _
    rw [bl_countP rits]
def cntAt (S : Sg) (b : Bool) : Option (List Bool) → R D
  | some bs => .ok (.int (bs.count b : Nat)) S
  | none => .stuck
def mCnt : MV := fun d ds S => match ds with
  | [.bl b] => cntAt S b ((seqOf S d).bind blsOf)
  | _ => .stuck
theorem mv_cnt {G : Gx} {W : WX} : MtV G W (fun x xs H Q => ∃ (p : Addr) (bs : List Bool) (b : Bool), x = .ref p ∧ xs = [.bl b] ∧ SqL G.K H p (bs.map V.bl) ∧ Q (.int (bs.count b : Nat)) H) mCnt := by
  intro μ S H x d xs ds σ Q rp hx hxs po
  unfold mCnt at po
  split at po
  · rename_i b
    cases hxs with
    | cons d1 t =>
      cases t
      cases d1
      cases hb : (seqOf S d).bind blsOf with
      | none => rw [hb] at po; exact po.elim
      | some bs =>
        rw [hb] at po
        obtain ⟨ys, e1, e2⟩ := Option.bind_eq_some_iff.mp hb
        obtain ⟨p, vs, rfl, h1, h2⟩ := seq_den rp hx e1
        have := bls_den h2 e2
        subst this
        exact ⟨p, bs, b, rfl, rfl, h1, post_ok rp po (.int _)⟩
  · exact po.elim
theorem de_count {G : Gx} {X : Cx} {W : WX} {o e : Expr} {apos cpos : Pos} {f : FE} {g : FA} (A : Amb G X W) (ho : PE X o (TD G W f)) (ha : PA X [e] (TDA G W g)) (hbase : attributeBase o "count" X.env (eval o X.env) = eval o X.env := by rfl)
    (hfew : ((backTo cpos (starEach [e] X.env)).all (fun x => !x.1) && (backToKw cpos (keywordEach [] X.env)).all (fun x => x.1.isSome) && decide (([e] : List Expr).length + ([] : List Keyword).length + (if ([] : List Keyword).isEmpty then 0 else 1) < 30)) = true := by rfl)
    (hline : (apos.endLine == cpos.line) = true := by rfl) (hs : starEach [e] X.env = (false, eval e X.env) :: starEach [] X.env := by rfl) (hplain : (backTo cpos (starEach [] X.env)).any (·.1) = false := by rfl) : PE X (.Call (.Attribute o "count" apos) [e] [] cpos) (TD G W (xM mCnt f g)) :=
  de_lm A PySem.F.slot_list_count PySem.F.type_list_count (r := fun x xs H Q => ∃ (p : Addr) (bs : List Bool) (b : Bool), x = .ref p ∧ xs = [.bl b] ∧ SqL G.K H p (bs.map V.bl) ∧ Q (.int (bs.count b : Nat)) H) (by have := mt_countB (X := X); rw [A.hK] at this; exact this) mv_cnt ho ha hbase hfew hline hs hplain
/-! ### rows for errors -/
section
variable {α β : Type} {c : Nat} {fs : List (String × D)} {ρ : Ev} {S : Sg}
@[simp] theorem exc_bind {k : α → Sg → R β} : (R.exc c fs S : R α).bind k = .exc c fs S := rfl
end
end Dx

/-! Dx28: own errors whose __init__ says super().__init__(f'..') and keeps one value. -/
namespace Dx
open PySem PySem.Spec L2
/-- the parts of the text that is told: written ones, and the value -/
inductive Tells (y : Str) : List Expr → Nat → Prop
  | nil : Tells y [] 0
  | word {m : Str} {j : Nat} {p : Pos} {r : List Expr} {n : Nat} (h : Tells y r n) : Tells y (.Constant (.str m) j p :: r) (m.length + n)
  | value {p q : Pos} {r : List Expr} {n : Nat} (h : Tells y r n) : Tells y (.FormattedValue (.Name y p) (-1) none q :: r) (2000 + n)
/-- None or a number that is no giant -/
def Small (v : V) : Prop := v = .non ∨ ∃ i : Int, v = .int i ∧ i.natAbs.log2 < 1920
section
variable {P : Program} {w : World} {A : Around} {E : Value → Shared → Prop}
theorem tells_join {env : Env} {m : Str → Option Value} {y : Str} {u : Value} {v : V} {R : Value → Shared → Prop} (hk : env.scope.kind = .function) (hl : env.kindOf y = some .local) (hd : (y == ("__debug__" : Str)) = false) (hm : m y = some u) (rv : RelV v u) (sm : Small v) :
    ∀ {es : List Expr} {n : Nat}, Tells y es n → ∀ (out : Str) (s : Shared), s.heap.Ns env.locals m → out.length + n ≤ sizeLine → (∀ z t tk, R (.str z t) { s with toks := tk }) → wpAny (model P w) A (joinParts out (evalEach es env)) R E s := by
  intro es n T
  induction T with
  | nil =>
    intro out s _ hz q
    exact PyProof.Rows.joinParts_nil (q _ _ _) (by omega)
  | @word t j p r n T ih =>
    intro out s hn hz q
    refine PyProof.Rows.joinParts_cons (PySem.Calls.Constant_str ?_)
    have e : (out ++ t).length = out.length + t.length := by rw [PySem.strLen_append]
    exact ⟨by rw [e]; omega, ih _ _ hn (by rw [e]; omega) fun z t' tk' => q z t' tk'⟩
  | @value p p' r n T ih =>
    intro out s hn hz q
    refine PyProof.Rows.joinParts_cons (wpAny_FormattedValue_plain (PySem.ESX.ldL hn hm ?_ hk hl hd))
    rcases sm with rfl | ⟨i, rfl, hi⟩
    · cases rv
      refine wpAny_formatField_none ?_
      have e : (out ++ ("None" : Str)).length = out.length + 4 := by rw [PySem.strLen_append]; rfl
      exact ⟨by rw [e]; omega, ih _ _ hn (by rw [e]; omega) fun z t' tk' => q z t' tk'⟩
    · obtain ⟨k, rfl⟩ := rv
      refine wpAny_formatField_int hi ?_
      have e : (out ++ (toString i : Str)).length = out.length + (toString i : Str).length := by rw [PySem.strLen_append]
      have hs : (toString i : Str).length ≤ 2000 := by
        have := int_text_length_le (k := 1920) (by decide) hi
        rw [show (toString i : Str) = Str.ofString (toString i) from rfl, ofString_length]
        omega
      exact ⟨by rw [e]; omega, ih _ _ hn (by rw [e]; omega) fun z t' tk' => q z t' tk'⟩

/-- super() in a def of a class, self an instance -/
theorem at_super {K : PySem.W.Frag} {mg : Str → Option Value} {base h₀ : Heap} {s : Shared} {L x C D f cc cda : Addr} {m : Str → Option Value} {news : List (Addr × Obj)} {ox : Obj} {odx : Option Obj} {body : List Stmt} {q slf : Str} {scope : Scope} {p0 p1 : Pos} {attr : Str} {whole : Sem Value} {fd : FuncData} {ar : Arg}
    {vs : Array Value} {file : Str} {tf : Tok} {oc ccl cl : Value} {od cdd cld : Option Addr} {osl ccs csl : Array (Option Value)} {cdD : ClassData} {Q : Value → Shared → Prop} (F : PyProof.Rows.Fr h₀ L s.heap m) (X₀ : K.In h₀) (N : PyProof.Rows.News h₀ L s.heap news) (M : L2.Mod K mg base) (bk : ∀ b o, base.get? b = some o → h₀.get? b = some o)
    (hf : K.lookup f = some ⟨oc, od, .func fd, osl⟩) (hp : (fd.params.posonlyargs ++ fd.params.args).head? = some ar) (hs : ar.arg = slf) (hv : m slf = some (.ref x)) (I : PySem.W.InstAt s.heap x ox C odx) (hc : K.lookup cda = some ⟨ccl, cdd, .fields vs, ccs⟩) (hvs : vs[2]? = some (.str file tf)) (hfile : ((P.main.file : Str) == file) = true)
    (hcell : K.lookup cc = some ⟨cl, cld, .cell (some (.ref D)), csl⟩) (hD : PySem.W.clsIn K D = some cdD) (hsub : PySem.W.mroIn K C (.ref D) = some true) (hg : mg "super" = none) (hat : (attr == ("__class__" : Str)) = false) (hks : scope.names.lookup ("super" : Str) = some .globalImplicit) (hkc : scope.names.lookup ("__class__" : Str) = some .free)
    (hka : scope.names.lookup slf = some .local) (hk : scope.kind = .function) (htop : (P.main.scope.names.lookup ("super" : Str)).isSome = false)
    (h : ∀ so h', PyProof.Rows.Fr h₀ L h' m → PyProof.Rows.News h₀ L h' ((so, PySem.W.ks_superObj D x C) :: news) → (∀ p ∈ news, p.1 < so) → Q (.ref so) { s with heap := h' }) :
    _root_.PySem.wpAt (model P w) A (.func body (PySem.W.ksEnv q scope L f (.ref cda) cc)) (attributeBase (.Call (.Name "super" p0) [] [] p1) attr (PySem.W.ksEnv q scope L f (.ref cda) cc) whole) Q E s := by
  have XK : K.In s.heap := X₀.keeps F.keep
  have up : ∀ b o, base.get? b = some o → s.heap.get? b = some o := fun b o e => F.keep b o (bk b o e)
  obtain ⟨mb, hb, hbb⟩ := M.blt
  have hsup : mb "super" = some (.type "super") := (hbb _ (by decide +kernel)).trans (by decide +kernel)
  obtain ⟨oD, hD1, hD2⟩ : ∃ oD, s.heap.get? D = some oD ∧ oD.data = .cls cdD := by
    revert hD
    unfold PySem.W.clsIn
    intro hD
    split at hD
    · next hl => exact ⟨_, XK _ _ hl, by cases hD; rfl⟩
    · cases hD
  refine PySem.ks_wpAt_super_base (env := PySem.W.ksEnv q scope L f (.ref cda) cc) hks hkc hat rfl (XK _ _ hf) rfl hp rfl (XK _ _ hc) rfl hvs hfile htop ?_
  rw [hs]
  refine PySem.W.ks_loadName_global hk hks (PySem.Calls.loadGlobal_builtin (env := PySem.W.ksEnv q scope L f (.ref cda) cc) (M.glob.keeps up) hg (hb.keeps up) hsup ⟨rfl, ?_⟩)
  refine wpAny_loadName_free hk hkc rfl ⟨_, XK _ _ hcell, rfl⟩ (wpAny_loadName_local hk hka F.ns hv ?_)
  obtain ⟨hh, gs, dr, tk, os⟩ := s
  refine PySem.ks_wpAny_isType_cls hD1 hD2 ⟨rfl, PySem.ks_wpAny_call_super hD1 hD2 I.at_ I.cls (fun c z => ?_) (PySem.W.looks_mroIn XK hsub) fun h' e k => ?_⟩
  · have n := I.no
    unfold PySem.W.notCls at n
    rw [z] at n
    cases n
  · exact (fun ⟨F', N', l'⟩ => h _ _ F' N' l') (PySem.W.ks_newsPush (s := ⟨hh, gs, dr, tk, os⟩) F N rfl e k)

/-- what is written of a class's own __init__ -/
structure IniC (P : Program) (K : PySem.W.Frag) (C fI cc cda : Addr) (fld slf y : Str) (params : Arguments) (scope : Scope) (qual : Str) : Prop where
  T : L2.OexC K C
  fd : ∃ (nm : Str) (dV kV doc pm ct oc : Value) (an od : Option Addr) (osl : Array (Option Value)) (v1 v2 : Expr) (rest : List Expr) (n : Nat) (p0 p1 p2 p3 p4 p5 p6 p7 p8 p9 : Pos),
    K.lookup fI = some ⟨oc, od, .func (PySem.W.ksFn nm qual params [.Expr (.Call (.Attribute (.Call (.Name "super" p0) [] [] p1) "__init__" p2) [.JoinedStr (v1 :: v2 :: rest) p3] [] p4) p5, .Assign [.Attribute (.Name slf p6) fld p7] (.Name y p8) p9] scope dV kV doc pm an (.ref cda) ct cc), osl⟩ ∧
    Tells y (v1 :: v2 :: rest) n ∧ n ≤ 100000 ∧ (∃ pl : Sem Bool, ∀ env : Env, eval (.Call (.Attribute (.Call (.Name "super" p0) [] [] p1) "__init__" p2) [.JoinedStr (v1 :: v2 :: rest) p3] [] p4) env = (do
      let ov ← attributeBase (.Call (.Name "super" p0) [] [] p1) "__init__" env (eval (.Call (.Name "super" p0) [] [] p1) env)
      standAt p2.atName
      let (f, first) ← holding [ov] (getMethod ov "__init__" pl)
      callWith p4 f first (backTo p4 (starEach [.JoinedStr (v1 :: v2 :: rest) p3] env)) [])) ∧
    (∀ env : Env, swapsWith (.Call (.Attribute (.Call (.Name "super" p0) [] [] p1) "__init__" p2) [.JoinedStr (v1 :: v2 :: rest) p3] [] p4) none p5.line env = pure false) ∧ (∀ env : Env, swapsWith (.Name y p8) (some (.Attribute (.Name slf p6) fld p7)) p9.line env = pure false) ∧ L2.Binds K (PySem.W.ksFn nm qual params [.Expr (.Call (.Attribute (.Call (.Name "super" p0) [] [] p1) "__init__" p2) [.JoinedStr (v1 :: v2 :: rest) p3] [] p4) p5, .Assign [.Attribute (.Name slf p6) fld p7] (.Name y p8) p9] scope dV kV doc pm an (.ref cda) ct cc) [slf, y] []
  code : PySem.W.codeIn K (.ref cda) qual = true
  head : ∃ ar, (params.posonlyargs ++ params.args).head? = some ar ∧ ar.arg = slf
  file : ∃ ccl cdd vs ccs file tf, K.lookup cda = some ⟨ccl, cdd, .fields vs, ccs⟩ ∧ vs[2]? = some (.str file tf) ∧ ((P.main.file : Str) == file) = true
  cell : ∃ cl cld csl, K.lookup cc = some ⟨cl, cld, .cell (some (.ref C)), csl⟩
  mro : PySem.W.mroIn K C (.ref C) = some true
  up : PySem.W.ks_superIn K C C "__init__" = some (some (.builtin "ValueError.__init__"))
  sub : PySem.W.subIn K (.ref C) (.type "ValueError") = some true
  ini : PySem.W.excInitIn K C bmVE "ValueError.__new__" = true
  op : PySem.W.nsIn K cStatics "thirdparty.any" = some none
  nofld : PySem.W.findIn K (.ref C) fld = some none
  sup : scope.names.lookup ("super" : Str) = some .globalImplicit
  lcls : scope.names.lookup ("__class__" : Str) = some .free
  lslf : scope.names.lookup slf = some .local
  lval : scope.names.lookup y = some .local
  kind : scope.kind = .function
  co : scope.isCoroutine = false
  gen : scope.isGenerator = false
  nocell : ∀ x ∈ scope.names, x.2 ≠ .cell
  ne : y ≠ slf
  dbs : (slf == ("__debug__" : Str)) = false
  dbv : (y == ("__debug__" : Str)) = false
  top : (P.main.scope.names.lookup ("super" : Str)).isSome = false
theorem init_call {K : PySem.W.Frag} {mg : Str → Option Value} {base h₀ : Heap} {s : Shared} {C fI cc cda a t0 : Addr} {fld slf y qual : Str} {params : Arguments} {scope : Scope} {u : Value} {v : V} {R : Result → Shared → Prop} (J : IniC P K C fI cc cda fld slf y params scope qual) (M : L2.Mod K mg base) (hg : mg "super" = none) (bk : ∀ b o, base.get? b = some o → h₀.get? b = some o)
    (kp : ∀ b o, h₀.get? b = some o → s.heap.get? b = some o) (hz : h₀.objs.size ≤ s.heap.objs.size) (ha : h₀.get? a = none) (hs : s.heap.get? a = some (PySem.HandSPX.excO C t0)) (hr : A.depth < recursionLimit) (rv : RelV v u) (sm : Small v)
    (h : ∀ dx h' tk, (∀ b o, h₀.get? b = some o → h'.get? b = some o) → h₀.objs.size ≤ dx → dx ≠ a → (∃ t1 : Addr, h'.get? a = some ({ cls := .ref C, dict := some dx, data := .fields #[.ref t1, .none, .none, .none, .bool false, .none] } : Obj)) → h'.Ns1 dx (fun z => if z = fld then some u else none) → R (.ok (.ret .none)) { s with heap := h', toks := tk }) :
    codeAny (model P w) A (.call (.ref fI) ⟨[.ref a, u], []⟩) R s := by
  obtain ⟨nm, dV, kV, doc, pm, ct, oc, an, od, osl, v1, v2, rest, n, p0, p1, p2, p3, p4, p5, p6, p7, p8, p9, lk, tl, hn, ⟨pl, hev⟩, hs1, hs2, hb⟩ := J.fd
  obtain ⟨ar, hh, har⟩ := J.head
  obtain ⟨ccl, cdd, vs, ccs, file, tf, hc, hvs, hfile⟩ := J.file
  obtain ⟨cl, cld, csl, hcell⟩ := J.cell
  obtain ⟨nmC, qC, NC, bs, bm, sn, sub, ab, col, dd, k0, k1, k2, k3, k5, hC, hbm⟩ := J.T.cls
  have hD : PySem.W.clsIn K C = some { name := nmC, bases := bs, mro := .ref C :: bm, ns := NC, qualname := qC, hasDict := true, slotNames := sn, subclasses := sub, abstract := ab, collection := col, hasDel := false } := by
    unfold PySem.W.clsIn
    rw [hC] <;> rfl
  have X₀ : K.In h₀ := M.kin.keeps bk
  have XK : K.In s.heap := X₀.keeps kp
  have bks : ∀ b o, base.get? b = some o → s.heap.get? b = some o := fun b o e => kp b o (bk b o e)
  have hbn := hb s [.ref a, u] XK rfl
  rw [List.append_nil] at hbn
  refine PySem.ks_codeAny_call_defAt (binds := [(slf, .ref a), (y, u)]) hr (XK _ _ lk) rfl (M.nolimit.keeps bks) (PySem.W.codeRec_of XK J.code) rfl hbn J.nocell (fun z hz => ?_) (fun h₁ hns hk₁ => ?_) J.co J.gen J.kind
  · simp only [List.mem_cons, List.not_mem_nil, or_false] at hz
    rcases hz with rfl | rfl
    · exact J.lslf
    · exact J.lval
  have la : a < s.heap.objs.size := Heap.lt_size hs
  have F1 : PyProof.Rows.Fr h₀ s.heap.objs.size h₁ (fun z => ([(slf, .ref a), (y, u)] : List (Str × Value)).reverse.lookup z) := ⟨hns, fun b o e => hk₁ b o (kp b o e), hz⟩
  have N1 : PyProof.Rows.News h₀ s.heap.objs.size h₁ [(a, PySem.W.excObj C t0 none .none)] := fun p hp => by
    obtain rfl := List.mem_singleton.mp hp
    exact ⟨hk₁ _ _ hs, Nat.ne_of_lt la, ha⟩
  have I1 : PySem.W.InstAt h₁ a (PySem.W.excObj C t0 none .none) C none := ⟨hk₁ _ _ hs, rfl, rfl, trivial⟩
  have m1 : ([(slf, .ref a), (y, u)] : List (Str × Value)).reverse.lookup slf = some (.ref a) := by
    have : (slf == y) = false := by simpa using fun z => J.ne z.symm
    simp [List.lookup, this]
  have m2 : ([(slf, .ref a), (y, u)] : List (Str × Value)).reverse.lookup y = some u := by simp [List.lookup]
  refine PySem.ks_wpAt_execs_cons (PySem.ks_wpAt_Expr_any (PySem.ks_wpAt_MethodCall (pl := pl) ?_ (hev _)) (by unfold interactive; simp [callEnv, newEnv, J.kind]) (hs1 _))
  refine at_super (s := ⟨h₁, s.gens, s.drawn, _, s.os⟩) F1 X₀ N1 M bk lk hh har m1 I1 hc hvs hfile hcell hD J.mro hg rfl J.sup J.lcls J.lslf J.kind J.top fun so h2 F2 N2 l2 => ?_
  have I2 : PySem.W.InstAt h2 a (PySem.W.excObj C t0 none .none) C none := ⟨(N2 (a, PySem.W.excObj C t0 none .none) (by simp)).1, rfl, rfl, trivial⟩
  refine PySem.W.kxs_method PySem.W.kxs_ValueError F2 X₀ N2 (by simp) I2 J.op J.up J.sub (by decide) fun q h3 F3 N3 l3 => ?_
  have ma : (a, PySem.W.excObj C t0 none .none) ∈ (q, PySem.W.kxs_mw "ValueError.__init__" a) :: (so, PySem.W.ks_superObj C a C) :: [(a, PySem.W.excObj C t0 none .none)] := by simp
  have qa : q ≠ a := Nat.ne_of_gt (l3 (a, PySem.W.excObj C t0 none .none) (by simp))
  have sa : so ≠ a := Nat.ne_of_gt (l2 (a, PySem.W.excObj C t0 none .none) (by simp))
  refine PySem.W.kxs_callWith1 (i := "ValueError.__init__") (x := a) N3 (by simp) (PyProof.Rows.spliced_more (PyProof.Rows.JoinedStr_many ?_))
  refine tells_join (env := PySem.W.ksEnv qual scope s.heap.objs.size fI (.ref cda) cc) (m := fun z => ([(slf, .ref a), (y, u)] : List (Str × Value)).reverse.lookup z) J.kind J.lval J.dbv m2 rv sm tl Str.empty _ F3.ns (by show 0 + n ≤ sizeLine; rw [sizeLine_eq]; omega) fun z t tk => PyProof.Rows.spliced_none ⟨PySem.W.kxs_at N3 (by simp), ?_⟩
  refine PySem.W.kxs_call F3 X₀ N3 F.excBase_ValueError J.ini (by simp) (.tail qa (.tail sa (.head (fun p hp => nomatch hp)))) (by show 1 ≤ sizeLine; rw [sizeLine_eq]; omega) fun t' h4 F4 N4 l4 => ?_
  have hx4 : h4.get? a = some (PySem.W.excObj C t' none .none) := (N4 (a, PySem.W.excObj C t' none .none) (by simp)).1
  have X4 : K.In h4 := X₀.keeps F4.keep
  refine PySem.ks_wpAt_execs_cons (PySem.ks_wpAt_Assign_Attr ?_ (hs2 _))
  refine wpAt_of_wpAny (PySem.ESX.ldL F4.ns m2 (PySem.ESX.ldL F4.ns m1 ?_ J.kind J.lslf J.dbs) J.kind J.lval J.dbv)
  refine PySem.W.set_plain (od := none) X4 (show PySem.W.InstAt h4 a (PySem.W.excObj C t' none .none) C none from ⟨hx4, rfl, rfl, trivial⟩) J.T.sa ?_
  refine PySem.HandSPX.exc_osa X4 hx4 hD (show PySem.HandSPX.refsVE (.ref C :: bm) = true from hbm) rfl J.nofld fun h' tk' dx k dn dne hx hn => ?_
  have hL : s.heap.objs.size ≤ h4.objs.size := by
    obtain ⟨o, es, ep, e, _⟩ := F4.ns
    exact Nat.le_of_lt (Heap.lt_size e)
  refine wpAt_of_wpAny ?_
  simp only [execs]
  refine wpAny_pure ?_
  exact h dx h' tk' (fun b o e => k b o (fun z => by rw [z, ha] at e; cases e) (F4.keep b o e)) (Nat.le_trans hz (Nat.le_trans hL dn)) dne ⟨_, hx⟩ hn
end
/-- X(e), the error made, its value kept -/
def tIni (C : Addr) (fld : Str) (te : TE) : L2.St → Hp → XK → Prop := fun σ H Q => te σ H fun v H1 => Small v ∧ ∀ d, H1 d = none → Q (.ref C) (some d) (upd H1 d (.xd [(fld, v)]))
theorem pmk_init {X : Cx} {C fI cc cda : Addr} {x fld slf y qual : Str} {params : Arguments} {scope : Scope} {k : Nat} {e : Expr} {te : TE} {p pos : Pos} (J : IniC X.prog X.K C fI cc cda fld slf y params scope qual) (iC : PySem.W.findIn X.K (.ref C) "__init__" = some (some (.ref fI))) (tI : PySem.W.typeIn X.K (.ref fI) = some (.type "function"))
    (hsu : X.mg "super" = none) (hr : Room (k + 1) X.A) (hg : Gl X x) (hm : X.mg x = some (.ref C)) (ha : PE X e te) (hdb : (x == ("__debug__" : Str)) = false := by decide)
    (he : starEach [e] X.env = (false, eval e X.env) :: starEach [] X.env := by rfl) (hpl : (backTo pos (starEach [] X.env)).any (·.1) = false := by rfl) : PMk X (.Call (.Name x p) [e] [] pos) (tIni C fld te) := by
  intro pins s σ H Q I h
  obtain ⟨nm, q, N, bs, bm, sn, sub, ab, col, dd, k0, k1, k2, k3, k5, hC, hbm⟩ := J.T.cls
  have hP : PA X [e] (fun σ H Q => te σ H fun v H1 => Q [v] H1) := PA.imp (pa_cons ha pa_nil he) fun σ H Q z => z
  refine wpAny_Call_Name_kw (ld_glob I hg hm ?_ hdb)
  let Q' : List V → Hp → Prop := fun vs H1 => match vs with
    | [v] => Small v ∧ ∀ d, H1 d = none → Q (.ref C) (some d) (upd H1 d (.xd [(fld, v)]))
    | _ => False
  refine PySem.W.callWith_K (h₀ := X.base) I.ok.mod.kin J.T.kC (thn (hP.run pos pins s σ H Q' I h) ?_) he hpl
  rintro us s1 ⟨vs, H1, I1, r1, hq⟩
  obtain ⟨v, rfl, sm, hq⟩ : ∃ v, vs = [v] ∧ Small v ∧ ∀ d, H1 d = none → Q (.ref C) (some d) (upd H1 d (.xd [(fld, v)])) := by
    match vs, hq with
    | [v], hq => exact ⟨v, rfl, hq.1, hq.2⟩
  obtain ⟨u, rfl, rv⟩ : ∃ u, us = [u] ∧ RelV v u := by
    cases r1 with
    | cons a b => cases b; exact ⟨_, rfl, a⟩
  refine ⟨I1.kIn, ?_⟩
  obtain ⟨hp, gs, dr, tk, os⟩ := s1
  have ha0 : hp.get? (hp.objs.size + 1) = none := by
    cases z : hp.get? (hp.objs.size + 1) with
    | none => rfl
    | some o => exact absurd (Heap.lt_size z) (Nat.not_lt.mpr (Nat.le_succ _))
  have hget : ((hp.push (PySem.W.kdv_tup [u])).push (PySem.HandSPX.excO C hp.objs.size)).get? (hp.objs.size + 1) = some (PySem.HandSPX.excO C hp.objs.size) := by heap_get
  have up : ∀ b o, hp.get? b = some o → ((hp.push (PySem.W.kdv_tup [u])).push (PySem.HandSPX.excO C hp.objs.size)).get? b = some o := fun b o z => Heap.get?_push_of_some _ (Heap.get?_push_of_some _ z)
  have hsz : hp.objs.size ≤ ((hp.push (PySem.W.kdv_tup [u])).push (PySem.HandSPX.excO C hp.objs.size)).objs.size :=
    Nat.le_of_lt (Nat.lt_trans (Nat.lt_succ_self _) (Heap.lt_size hget))
  refine wpAny_call (PySem.HandSPX.call_own F.excBase_ValueError (fun Y => PySem.HandSPX.refsVE_contains Y bm hbm) (I1.kIn _ _ hC) (PySem.W.looks_findIn I1.kIn iC) (fun self => PySem.W.bind_fn I1.kIn self tI) (by show 1 ≤ sizeLine; rw [sizeLine_eq]; omega) ?_)
  refine init_call (h₀ := hp) J I1.ok.mod hsu I1.bk up hsz ha0 hget (by rw [L2.make_depth]; have := hr.dp; omega) rv sm fun dx h' tk' kp hz ne hx hn => ⟨rfl, ?_⟩
  obtain ⟨t1, hx⟩ := hx
  obtain ⟨GH, g1, g2⟩ := restrict h' fun b => decide (b ≠ hp.objs.size + 1)
  have gk : ∀ b, b ≠ hp.objs.size + 1 → GH.get? b = h'.get? b := fun b z => g1 b (decide_eq_true z)
  have ge : GH.get? (hp.objs.size + 1) = none := g2 _ (by simp)
  have nd : H1 dx = none := I1.hok.fresh hz
  have na : H1 (hp.objs.size + 1) = none := I1.hok.fresh (Nat.le_succ _)
  have J1 : Inv X pins σ (upd H1 dx (.xd [(fld, v)])) ⟨GH, gs, dr, tk', os⟩ := I1.laid (t' := tk') (h' := GH) (fun b o z => by rw [gk b (fun y => by rw [y, ha0] at z; cases z)]; exact kp b o z) hz
    ⟨_, hn.at fun o z => (gk dx ne).trans z, L2.relO_put (fs := []) rv fun _ => True.intro⟩
  refine ⟨hp.objs.size + 1, _, _, ⟨GH, gs, dr, tk', os⟩, _, .ref C, some dx, rfl, J1, fun b o z => ?_, ge, hx, ⟨rfl, rfl⟩, rfl, rfl, ?_, rfl, I1.bare, raises_own J.T.exC J.T.tyC, hq dx nd⟩
  · by_cases y : b = hp.objs.size + 1
    · rw [y, ge] at z; cases z
    · exact (gk b y).symm.trans z
  · rw [upd_ne (fun z => ne z.symm)]
    exact na
end Dx

/-! Dx29: raise X(e), the value kept; what a suite asks of such an error. -/
namespace Dx
open PySem PySem.Spec L2
variable {G : Gx} {X : Cx} {W : WX}
def kRaiseI (c : Nat) (fld : String) (ρ : Ev) : D → Sg → Fl
  | .non, S => .exc c [(fld, .non)] ρ S
  | .int i, S => if -4611686018427387904 < i ∧ i < 4611686018427387904 then .exc c [(fld, .int i)] ρ S else .stuck
  | _, _ => .stuck
def sRaiseI (c : Nat) (fld : String) (f : FE) : FS := fun ρ S => (f ρ S).go ρ (kRaiseI c fld ρ)
@[simp] theorem sRaiseI_at {c : Nat} {fld : String} {f : FE} {ρ : Ev} {S : Sg} : sRaiseI c fld f ρ S = (f ρ S).go ρ (kRaiseI c fld ρ) := rfl
@[simp] theorem kRaiseI_non {c : Nat} {fld : String} {ρ : Ev} {S : Sg} : kRaiseI c fld ρ .non S = .exc c [(fld, .non)] ρ S := rfl
@[simp] theorem kRaiseI_int {c : Nat} {fld : String} {ρ : Ev} {S : Sg} {i : Int} : kRaiseI c fld ρ (.int i) S = if -4611686018427387904 < i ∧ i < 4611686018427387904 then .exc c [(fld, .int i)] ρ S else .stuck := rfl
theorem small_int {i : Int} (h : -4611686018427387904 < i ∧ i < 4611686018427387904) : i.natAbs.log2 < 1920 := by
  have h1 : i.natAbs < 2 ^ 1920 := Nat.lt_of_lt_of_le (show i.natAbs < 4611686018427387904 by omega) (by decide +kernel)
  by_cases z : i.natAbs = 0
  · rw [z]; decide
  · exact (Nat.log2_lt z).mpr h1
theorem ds_raiseI {c : Nat} {fI cc cda : Addr} {x fld0 slf y qual : Str} {fld : String} {params : Arguments} {scope : Scope} {k : Nat} {e : Expr} {f : FE} {p pos pos' : Pos} (hc : X.calm = true) (A : Amb G X W) (J : IniC X.prog X.K (G.cls c) fI cc cda fld0 slf y params scope qual) (ef : fld0 = Str.ofString fld)
    (iC : PySem.W.findIn X.K (.ref (G.cls c)) "__init__" = some (some (.ref fI))) (tI : PySem.W.typeIn X.K (.ref fI) = some (.type "function")) (hsu : X.mg "super" = none) (hm : X.mg x = some (.ref (G.cls c))) (hr : Room (k + 1) X.A) (he : PE X e (TD G W f)) (hg : Gl X x := by rfl) (hdb : (x == ("__debug__" : Str)) = false := by decide)
    (hst : starEach [e] X.env = (false, eval e X.env) :: starEach [] X.env := by rfl) (hpl : (backTo pos (starEach [] X.env)).any (·.1) = false := by rfl) : PS X (.Raise (some (.Call (.Name x p) [e] [] pos)) none pos') (TDS G W (sRaiseI c fld f)) := by
  refine PS.imp (ps_raise hc A.tk (pmk_init J iC tI hsu hr hg hm he hdb hst hpl)) fun Z σ H ⟨μ, ρ, S, en, rp, po⟩ => ?_
  refine ⟨μ, ρ, S, en, rp, (posts_go en po).mono fun v H1 ⟨μ1, d, S1, pe, rp1, dd, p1⟩ => ?_⟩
  subst ef
  have fin : ∀ (d : D) (v : V) (ρ : Ev), Den G μ1 H1 d v → EnvD G μ1 H1 ρ σ → PostS G W μ1 H1 Z (.exc c [(fld, d)] ρ S1) → ∀ dx, H1 dx = none → W (.ref (G.cls c)) (some dx) σ (upd H1 dx (.xd [(Str.ofString fld, v)])) := fun d v ρ dv e1 q dx hn => by
    have pn := per_new (μ := μ1) A.ok (o := .xd [(Str.ofString fld, v)]) hn
    exact q μ1 _ σ _ _ pn (rp1.new A.ok hn) (e1.per pn) ⟨rfl, .inr ⟨by simp, dx, _, rfl, upd_same, rfl, .cons (dv.per pn) .nil⟩⟩
  have e1 := en.per pe
  cases d with
  | non =>
    cases dd
    exact ⟨.inl rfl, fin .non _ ρ .non e1 p1⟩
  | int i =>
    cases dd
    rw [kRaiseI_int] at p1
    split at p1
    · next h => exact ⟨.inr ⟨i, rfl, small_int h⟩, fin (.int i) _ ρ (.int i) e1 p1⟩
    · exact p1.elim
  | _ => exact p1.elim
/-! ### isinstance of a caught error that has a dict -/
section
open PySem.W
variable {K : PySem.W.Frag} {P : Program} {w : World} {A : Around} {E : Value → Shared → Prop} {x D : Addr} {ox od : Obj}
set_option maxHeartbeats 2000000 in
theorem ask_classD {s : Shared} {Q : Option Value → Shared → Prop} (C : L2.ExcC K D) (X : K.In s.heap) (I : InstAt s.heap x ox D (some od)) (h : Q (some (.ref D)) { s with toks := s.toks + 1 }) : wpAny (model P w) A (getAttr? (.ref x) "__class__") Q E s := by
  obtain ⟨cd, hcd, _⟩ := any_some C.hd
  have found : findObj K D (some od) "__class__" = some (.bind (.builtin "getset_descriptor.__get__") (.builtin "object.__class__")) :=
    findObj_data (by rw [hcd]; rfl) C.ha C.hn C.ht
  obtain ⟨hp, g, d, t, os⟩ := s
  have ty := I.type (M := model P w)
  have ga := looks_findIn (M := model P w) X C.hg
  have gg := looks_findIn (M := model P w) X C.hk
  have fo := looks_find (M := model P w) X I found
  have isE : Looks (model P w) hp (isInstance (.ref x) (.type "BaseException")) true := ty.andThen (looks_subIn X C.hs)
  have no1 : (Value.builtin "BaseException.__getattribute__" == Value.builtin "object.__getattribute__") = false := by decide +kernel
  have no2 : (onTheHeap (Value.ref D) && Value.builtin "BaseException.__getattribute__" == Value.builtin "object.__getattribute__") = false := by
    rw [no1]; rfl
  unfold getAttr? getAttrBy? getAttrBy
  refine wpAny_bind (wpAny_mkText (wpAny_bind (wpAny_attempt (wpAny_holding ?_))))
  refine wpAny_bind (ty.at (wpAny_bind (ga.at ?_)))
  show wpAny _ _ (if (onTheHeap (Value.ref D) && (Value.builtin "BaseException.__getattribute__" == Value.builtin "object.__getattribute__")) = true then _ else _) _ _ _
  rw [no2, if_neg Bool.false_ne_true]
  unfold getAttrByItsOwn hookBefore
  refine wpAny_bind ?_
  rw [if_pos (show onTheHeap (Value.ref D) = true by rfl)]
  refine gg.at (wpAny_bind (wpAny_attempt (wpAny_holding ?_)))
  unfold callGetattribute
  rw [show (false && onTheHeap (Value.builtin "BaseException.__getattribute__")) = false by rfl, if_neg Bool.false_ne_true]
  unfold boundAndCalled
  rw [PySem.F.excAttr_ValueError.ga.bind (.ref x)]
  refine wpAny_bind (wpAny_pure ?_)
  show wpAny _ _ (call (.builtin "BaseException.__getattribute__") [Value.ref x, Value.str "__class__" t]) _ _ _
  refine wpAny_call ?_
  refine codeAny_call_builtin PySem.F.excAttr_ValueError.ga.plain PySem.F.entry_bexc_ga ?_
  have args := PySem.F.args_bexc_ga (.ref x) (.str "__class__" t)
  refine @check_slot (model P w) _ _ ⟨hp, g, d, t + 1, os⟩ "BaseException.__getattribute__"
    "BaseException" "__getattribute__" (.ref x) [.str "__class__" t] [] _
    (by decide +kernel) (by decide +kernel) isE args ?_
  unfold Builtin.«object.__getattribute__»
  refine wpAny_bind (wpAny_of_eq (a := ((Value.ref x : Value), [Value.str "__class__" t])) (by first | (simp only [slotArgs]; rfl) | rfl) ?_)
  refine wpAny_bind (wpAny_pure (wpAny_bind (ty.at (wpAny_bind (fo.at ?_)))))
  show wpAny _ _ (holding [Value.builtin "object.__class__"] (call (.builtin "getset_descriptor.__get__") [Value.builtin "object.__class__", Value.ref x, Value.ref D]) >>= ret) _ _ _
  refine wpAny_bind (wpAny_holding (wpAny_call (class_get (s := ⟨hp, g, d, t + 1, os⟩) (ox := ox) (od := some od) X I C.hm (wpAny_pure ?_))))
  show wpAny _ _ (handedOut (.ref D)) _ _ _
  rw [handedOut_of (v := .ref D) rfl]
  first
    | exact wpAny_pure h
    | exact wpAny_pure (wpAny_pure h)
    | exact wpAny_pure (wpAny_bind (wpAny_pure (wpAny_pure h)))
theorem kit_excD (C : L2.ExcC K D) : KitX K (.ref x) (.ref D) (fun h => InstAt h x ox D (some od)) where
  ty _ _ _ I := I.type
  it M h X _ := by
    obtain ⟨cd, hcd, _⟩ := any_some C.hd
    revert hcd
    unfold clsIn
    intro hcd
    split at hcd
    · next hl =>
      intro A' Q' E' s' k q
      unfold isType loadHead
      refine wpAny_bind ?_
      refine wpAny_loadPart (k _ _ (X _ _ hl)) ?_
      exact wpAny_pure q
    · cases hcd
  ne h tp dd its n sl X htp := by
    obtain ⟨cd, hcd, _⟩ := any_some C.hd
    revert hcd
    unfold clsIn
    intro hcd
    split at hcd
    · next hl =>
      by_cases e : D = tp
      · subst e
        have z := X _ _ hl
        rw [htp] at z
        cases z
      · simpa using e
    · cases hcd
  ca X I k := ask_classD C X I k
end
theorem ns1_get {h : Heap} {d : Addr} {m : Str → Option Value} (n : h.Ns1 d m) : ∃ o, h.get? d = some o := by
  obtain ⟨o, _, _, e, _⟩ := n
  exact ⟨o, e⟩
def rIsD (K : PySem.W.Frag) (D a dd : Addr) : List V → Hp → VK → Prop := fun xs H Q => ∃ (C : Addr) (b : Bool) (gs : List (Str × V)), xs = [.ref a, .ref C] ∧ H dd = some (.xd gs) ∧ PySem.W.kitOne K (.ref D) (.ref C) = some b ∧ Q (.bl b) H
theorem call_isD {a D dd : Addr} {oe : Obj} {pn : List (Addr × Obj)} (C : ExcC X.K D) (hz : Zc (.ref D) (some dd) oe) (hf : ∃ vs, oe.data = .fields vs) : CallR (X.suite a ((a, oe) :: pn)) (.builtin "isinstance") (rIsD X.K D a dd) := by
  rintro pins s σ H xs us Q I r ⟨c, b, gs, rfl, hd, hk, q⟩
  match us, r with
  | [_, _], .cons r1 (.cons r2 .nil) =>
    cases r1
    cases r2
    have at_ := (I.pin (a, oe) (List.mem_append.mpr (.inl List.mem_cons_self))).1
    obtain ⟨vs, hv⟩ := hf
    have hx : ObjOk X.prog X.w H s.heap dd (.xd gs) := I.hok dd _ hd
    obtain ⟨mA, hns, _⟩ := hx
    obtain ⟨o, ho⟩ := ns1_get hns
    have J : PySem.W.InstAt s.heap a oe D (some o) := ⟨at_, hz.1, by unfold PySem.W.notCls; rw [hv], by rw [hz.2]; exact ho⟩
    exact PySem.W.kia_one (kit_excD C) I.kIn J hk (fun z => nomatch z) fun tk => ⟨.bl b, H, I.kept (t' := tk) fun _ _ z => z, rfl, q⟩
theorem exv_den {μ : List Addr} {H : Hp} {a dd : Nat} {ks : List String} {xs : List D} {v : V} (g : G.Ok) (h : Den G μ H (.exv a (some dd) ks xs) v) : v = .ref a ∧ ∃ gs, H dd = some (.xd gs) ∧ gs.map (·.1) = ks.map Str.ofString ∧ DenA G μ H xs (gs.map (·.2)) := by
  cases h with
  | exv h1 h2 =>
    obtain ⟨gs, e1, e2, e3⟩ := (g.xd _ _ _ _).mp h1
    exact ⟨rfl, gs, e1, e2, by rw [e3]; exact h2⟩
/-- a suite for errors with a dict, one for those without -/
def byDict (d : Option Nat) (g : Nat → FS) (h : FS) : FS := match d with
  | some dd => g dd
  | none => h
@[simp] theorem byDict_some {dd : Nat} {g : Nat → FS} {h : FS} : byDict (some dd) g h = g dd := rfl
@[simp] theorem byDict_none {g : Nat → FS} {h : FS} : byDict none g h = h := rfl
def kIsD (a dd : Nat) (b : Bool) (S : Sg) : Option (Option D) → R D
  | some (some (.exv a' (some d') _ _)) => if a' = a ∧ d' = dd then .ok (.bl b) S else .stuck
  | _ => .stuck
def xIsD (i a dd : Nat) (b : Bool) : FE := fun ρ S => kIsD a dd b S ρ[i]?
@[simp] theorem xIsD_at {i a dd : Nat} {b : Bool} {ρ : Ev} {S : Sg} : xIsD i a dd b ρ S = kIsD a dd b S ρ[i]? := rfl
@[simp] theorem kIsD_at {a dd a' d' : Nat} {b : Bool} {ks : List String} {xs : List D} {S : Sg} : kIsD a dd b S (some (some (.exv a' (some d') ks xs))) = if a' = a ∧ d' = dd then .ok (.bl b) S else .stuck := rfl
theorem de_isD {i a c k dd : Nat} {oe : Obj} {pn : List (Addr × Obj)} {b : Bool} {e x : Str} {p q1 q2 pos : Pos} (A : Amb G (X.suite a ((a, oe) :: pn)) W) (C : ExcC X.K (G.cls c)) (hz : Zc (.ref (G.cls c)) (some dd) oe) (hf : ∃ vs, oe.data = .fields vs) (hx : X.mg x = some (.ref (G.cls k))) (hk : PySem.W.kitOne X.K (.ref (G.cls c)) (.ref (G.cls k)) = some b)
    (hm : X.mg "isinstance" = none) (hN : X.N[i]? = some e := by rfl) (hv : Vis X.env.scope e := by first | exact Or.inl rfl | exact Or.inr (Or.inl rfl) | exact Or.inr (Or.inr rfl)) (hd : (e == ("__debug__" : Str)) = false := by decide) (hcd : (e == ("__classdict__" : Str)) = false := by decide) (hg : Gl X "isinstance" := by rfl) (hg2 : Gl X x := by rfl)
    (hdx : (x == ("__debug__" : Str)) = false := by decide) (hs : starEach [.Name e q1, .Name x q2] X.env = (false, eval (.Name e q1) X.env) :: starEach [.Name x q2] X.env := by rfl) (hs2 : starEach [.Name x q2] X.env = (false, eval (.Name x q2) X.env) :: starEach [] X.env := by rfl) (hpl : (backTo pos (starEach [.Name x q2] X.env)).any (·.1) = false := by rfl) :
    PE (X.suite a ((a, oe) :: pn)) (.Call (.Name "isinstance" p) [.Name e q1, .Name x q2] [] pos) (TD G W (xIsD i a dd b)) := by
  have ve := pe_var (X := X.suite a ((a, oe) :: pn)) (i := i) hN hv hd hcd (pos := q1)
  have vx := pe_glob (X := X.suite a ((a, oe) :: pn)) hg2 hx (v := .ref (G.cls k)) rfl hdx (pos := q2)
  refine PE.imp (pe_callB (X := X.suite a ((a, oe) :: pn)) (call_isD C hz hf) hg hm PyProof.Rows.boot_isinstance (pa_cons ve (pa_cons vx pa_nil hs2) hs) (by decide) (by decide) hs hpl) ?_
  rintro σ H Q ⟨μ, ρ, S, en, rp, po⟩
  rw [xIsD_at] at po
  cases hr : ρ[i]? with
  | none => rw [hr] at po; exact po.elim
  | some o =>
    rw [hr] at po
    match o, hr, po with
    | some (.exv a' (some d') ks xs), hr, po =>
      obtain ⟨v, h1, h2⟩ := en.at_ i _ hr
      rw [kIsD_at] at po
      obtain ⟨⟨ea, ed⟩, p2⟩ := post_ite po
      subst ea
      subst ed
      obtain ⟨rfl, gs, e1, _, _⟩ := exv_den A.ok h2
      exact ⟨_, h1, G.cls k, b, gs, rfl, e1, hk, p2 _ _ _ .refl rp (.bl b)⟩
def kEf (a dd : Nat) (f : String) (S : Sg) : Option (Option D) → R D
  | some (some (.exv a' (some d') ks xs)) => if a' = a ∧ d' = dd then (match getCd ks xs f with
    | some x => .ok x S
    | none => .stuck) else .stuck
  | _ => .stuck
def xEf (i a dd : Nat) (f : String) : FE := fun ρ S => kEf a dd f S ρ[i]?
@[simp] theorem xEf_at {i a dd : Nat} {f : String} {ρ : Ev} {S : Sg} : xEf i a dd f ρ S = kEf a dd f S ρ[i]? := rfl
theorem kEf_at {a dd a' d' : Nat} {f : String} {ks : List String} {xs : List D} {S : Sg} : kEf a dd f S (some (some (.exv a' (some d') ks xs))) = if a' = a ∧ d' = dd then (match getCd ks xs f with
    | some x => .ok x S
    | none => .stuck) else .stuck := rfl
@[simp] theorem kEf_one {a dd : Nat} {f : String} {x : D} {S : Sg} : kEf a dd f S (some (some (.exv a (some dd) [f] [x]))) = .ok x S := by
  rw [kEf_at, if_pos ⟨rfl, rfl⟩]
  have : getCd [f] [x] f = some x := by simp [getCd]
  rw [this]
theorem lookup_getCd {μ : List Addr} {H : Hp} {f : String} {x : D} : ∀ {ks : List String} {xs : List D} {gs : List (Str × V)}, gs.map (·.1) = ks.map Str.ofString → DenA G μ H xs (gs.map (·.2)) → getCd ks xs f = some x → ∃ v, gs.lookup (Str.ofString f) = some v ∧ Den G μ H x v := by
  intro ks
  induction ks with
  | nil => intro xs gs h1 h2 h3; simp [getCd] at h3
  | cons k ks ih =>
    intro xs gs h1 h2 h3
    match gs, h1, xs, h2, h3 with
    | (k', v) :: gs, h1, y :: xs, .cons d1 d2, h3 =>
      simp only [List.map_cons, List.cons.injEq] at h1
      obtain ⟨rfl, h1⟩ := h1
      by_cases e : k = f
      · subst e
        have : y = x := by simpa [getCd] using h3
        subst this
        exact ⟨v, by simp [List.lookup], d1⟩
      · have h4 : getCd ks xs f = some x := by
          simpa [getCd, e] using h3
        obtain ⟨w, e1, e2⟩ := ih h1 d2 h4
        have ne : (Str.ofString f == Str.ofString k) = false := by
          simpa using fun z => e (ofS_inj z).symm
        exact ⟨w, by rw [List.lookup, ne]; exact e1, e2⟩
theorem de_ef {i a c dd : Nat} {oe : Obj} {pn : List (Addr × Obj)} {f : String} {e fs : Str} {q1 pos : Pos} (A : Amb G (X.suite a ((a, oe) :: pn)) W) (T : XfC X.K (G.cls c)) (hno : PySem.W.findIn X.K (.ref (G.cls c)) fs = some none) (hz : Zc (.ref (G.cls c)) (some dd) oe) (hf : ∃ vs, oe.data = .fields vs) (ef : fs = Str.ofString f := by rfl)
    (hN : X.N[i]? = some e := by rfl) (hv : Vis X.env.scope e := by first | exact Or.inl rfl | exact Or.inr (Or.inl rfl) | exact Or.inr (Or.inr rfl)) (hd : (e == ("__debug__" : Str)) = false := by decide) (hcd : (e == ("__classdict__" : Str)) = false := by decide)
    (hb : attributeBase (.Name e q1) fs X.env (eval (.Name e q1) X.env) = eval (.Name e q1) X.env := by rfl) : PE (X.suite a ((a, oe) :: pn)) (.Attribute (.Name e q1) fs pos) (TD G W (xEf i a dd f)) := by
  have ve := pe_var (X := X.suite a ((a, oe) :: pn)) (i := i) hN hv hd hcd (pos := q1)
  refine PE.imp (pe_xf T hno hz hf ve hb) ?_
  rintro σ H Q ⟨μ, ρ, S, en, rp, po⟩
  rw [xEf_at] at po
  subst ef
  cases hr : ρ[i]? with
  | none => rw [hr] at po; exact po.elim
  | some o =>
    rw [hr] at po
    match o, hr, po with
    | some (.exv a' (some d') ks xs), hr, po =>
      obtain ⟨v, h1, h2⟩ := en.at_ i _ hr
      rw [kEf_at] at po
      obtain ⟨⟨ea, ed⟩, p2⟩ := post_ite po
      subst ea
      subst ed
      obtain ⟨rfl, gs, e1, e2, e3⟩ := exv_den A.ok h2
      cases hx : getCd ks xs f with
      | none => rw [hx] at p2; exact p2.elim
      | some x =>
        rw [hx] at p2
        obtain ⟨v, l1, l2⟩ := lookup_getCd e2 e3 hx
        exact ⟨_, h1, rfl, rfl, d', gs, v, rfl, e1, l1, p2 _ _ _ .refl rp l2⟩
end Dx

/-! Dx30: such a class, as its written part tells it. -/
namespace Dx
open PySem PySem.Spec L2
structure IniX (P : Program) (K : PySem.W.Frag) (mg : Str → Option Value) (C : Addr) (x : Str) (fld : String) : Prop where
  ex : ∃ (fI cc cda : Addr) (fld0 slf y : Str) (params : Arguments) (scope : Scope) (qual : Str), IniC P K C fI cc cda fld0 slf y params scope qual ∧ fld0 = Str.ofString fld ∧ PySem.W.findIn K (.ref C) "__init__" = some (some (.ref fI)) ∧ PySem.W.typeIn K (.ref fI) = some (.type "function")
  gC : mg x = some (.ref C)
  su : mg "super" = none
theorem ds_raiseX {G : Gx} {X : Cx} {W : WX} {c : Nat} {x : Str} {fld : String} {e : Expr} {f : FE} {p pos pos' : Pos} (hc : X.calm = true) (A : Amb G X W) (J : IniX X.prog X.K X.mg (G.cls c) x fld) (hr : Room 1 X.A) (he : PE X e (TD G W f)) (hg : Gl X x := by rfl) (hdb : (x == ("__debug__" : Str)) = false := by decide)
    (hst : starEach [e] X.env = (false, eval e X.env) :: starEach [] X.env := by rfl) (hpl : (backTo pos (starEach [] X.env)).any (·.1) = false := by rfl) : PS X (.Raise (some (.Call (.Name x p) [e] [] pos)) none pos') (TDS G W (sRaiseI c fld f)) := by
  obtain ⟨fI, cc, cda, fld0, slf, y, params, scope, qual, I, ef, iC, tI⟩ := J.ex
  exact ds_raiseI (k := 0) hc A I ef iC tI J.su J.gC hr he hg hdb hst hpl
def xStk : FE := fun _ _ => .stuck
theorem de_stk {G : Gx} {X : Cx} {W : WX} {e : Expr} : PE X e (TD G W xStk) := ⟨fun pins s σ H Q I ⟨μ, ρ, S, en, rp, po⟩ => po.elim⟩
theorem xfOf {K : PySem.W.Frag} {C : Addr} (h : ExcC K C) : XfC K C := ⟨h.hg, h.hk, h.hs, h.hd⟩
theorem oexC_of {K : PySem.W.Frag} {C : Addr} {y : Str} {nm q : Str} {N : Addr} {bs bm : List Value} {sn : List Str} {sub : List Value} {ab : Bool} {col : Option Bool} {dd : Option Addr} {k0 k1 k2 k3 k5 : Option Value} (_ : PySem.W.nsIn K mainGlobals y = some (some (.ref C)))
    (l : K.lookup C = some (excClassObj nm q C N bs bm true sn sub ab col dd k0 k1 k2 k3 k5 "ValueError.__new__")) (r : PySem.HandSPX.refsVE bm = true) (a : PySem.W.findIn K (.ref C) "__setattr__" = some (some (.builtin "object.__setattr__"))) (b : PySem.W.subIn K (.ref C) (.type "BaseException") = some true) (c : PySem.W.typeIn K (.ref C) = some (.type "type")) (d : PySem.W.keepIn K (.ref C) = true) : OexC K C :=
  ⟨⟨_, _, _, _, _, _, _, _, _, _, _, _, _, _, _, l, r⟩, a, b, c, d⟩
theorem iniX_of {P : Program} {K : PySem.W.Frag} {h : Heap} {mg : Str → Option Value} {st : Stmt} {x fld0 slf y nm qual : Str} {fld : String} {C fI cc cda : Addr} {dV kV doc pm ct oc ccl cl : Value} {an od cdd cld : Option Addr} {osl ccs csl : Array (Option Value)} {vs : Array Value} {file : Str} {tf : Tok} {v1 v2 : Expr} {rest : List Expr} {n : Nat} {p0 p1 p2 p3 p4 p5 p6 p7 p8 p9 : Pos} {ar : Arg} {pl : Sem Bool}
    (X : K.In h) (Gn : h.Ns mainGlobals mg) (aC : PySem.W.nsIn K mainGlobals x = some (some (.ref C))) (T : OexC K C) (iC : PySem.W.findIn K (.ref C) "__init__" = some (some (.ref fI))) (tI : PySem.W.typeIn K (.ref fI) = some (.type "function"))
    (lk : K.lookup fI = some ⟨oc, od, .func (PySem.W.ksFn nm qual (defArgs st) (defBody st) (defScope st) dV kV doc pm an (.ref cda) ct cc), osl⟩)
    (hbody : defBody st = [.Expr (.Call (.Attribute (.Call (.Name "super" p0) [] [] p1) "__init__" p2) [.JoinedStr (v1 :: v2 :: rest) p3] [] p4) p5, .Assign [.Attribute (.Name slf p6) fld0 p7] (.Name y p8) p9])
    (tl : Tells y (v1 :: v2 :: rest) n) (hn : n ≤ 100000) (hev : ∀ env : Env, eval (.Call (.Attribute (.Call (.Name "super" p0) [] [] p1) "__init__" p2) [.JoinedStr (v1 :: v2 :: rest) p3] [] p4) env = (do
      let ov ← attributeBase (.Call (.Name "super" p0) [] [] p1) "__init__" env (eval (.Call (.Name "super" p0) [] [] p1) env)
      standAt p2.atName
      let (f, first) ← holding [ov] (getMethod ov "__init__" pl)
      callWith p4 f first (backTo p4 (starEach [.JoinedStr (v1 :: v2 :: rest) p3] env)) []))
    (hs1 : ∀ env : Env, swapsWith (.Call (.Attribute (.Call (.Name "super" p0) [] [] p1) "__init__" p2) [.JoinedStr (v1 :: v2 :: rest) p3] [] p4) none p5.line env = pure false) (hs2 : ∀ env : Env, swapsWith (.Name y p8) (some (.Attribute (.Name slf p6) fld0 p7)) p9.line env = pure false)
    (hb : ∀ us : List Value, us.length = [slf, y].length → bindArgs (PySem.W.ksFn nm qual (defArgs st) (defBody st) (defScope st) dV kV doc pm an (.ref cda) ct cc) ⟨us, []⟩ = pure ([slf, y].zip us))
    (code : PySem.W.codeIn K (.ref cda) qual = true) (hd1 : ((defArgs st).posonlyargs ++ (defArgs st).args).head? = some ar) (hd2 : ar.arg = slf) (lc : K.lookup cda = some ⟨ccl, cdd, .fields vs, ccs⟩) (hvs : vs[2]? = some (.str file tf)) (hfile : ((P.main.file : Str) == file) = true) (lcc : K.lookup cc = some ⟨cl, cld, .cell (some (.ref C)), csl⟩)
    (mro : PySem.W.mroIn K C (.ref C) = some true) (up : PySem.W.ks_superIn K C C "__init__" = some (some (.builtin "ValueError.__init__"))) (sub : PySem.W.subIn K (.ref C) (.type "ValueError") = some true) (ini : PySem.W.excInitIn K C bmVE "ValueError.__new__" = true) (op : PySem.W.nsIn K cStatics "thirdparty.any" = some none) (nofld : PySem.W.findIn K (.ref C) fld0 = some none) (su : PySem.W.nsIn K mainGlobals "super" = some none)
    (ef : fld0 = Str.ofString fld) (c1 : (defScope st).names.lookup ("super" : Str) = some .globalImplicit) (c2 : (defScope st).names.lookup ("__class__" : Str) = some .free) (c3 : (defScope st).names.lookup slf = some .local) (c4 : (defScope st).names.lookup y = some .local) (c5 : (defScope st).kind = .function) (c6 : (defScope st).isCoroutine = false) (c7 : (defScope st).isGenerator = false)
    (c8 : ((defScope st).names.all fun x => decide (x.2 ≠ .cell)) = true) (c9 : y ≠ slf) (ca : (slf == ("__debug__" : Str)) = false) (cb : (y == ("__debug__" : Str)) = false) (top : (P.main.scope.names.lookup ("super" : Str)).isSome = false) : IniX P K mg C x fld := by
  refine ⟨⟨fI, cc, cda, fld0, slf, y, defArgs st, defScope st, qual, ?_, ef, iC, tI⟩, PySem.W.mg_of X Gn aC, PySem.W.mg_none_of X Gn su⟩
  have c8' : ∀ z ∈ (defScope st).names, z.2 ≠ .cell := fun z hz => of_decide_eq_true (List.all_eq_true.mp c8 z hz)
  rw [hbody] at lk hb
  exact ⟨T, ⟨nm, dV, kV, doc, pm, ct, oc, an, od, osl, v1, v2, rest, n, p0, p1, p2, p3, p4, p5, p6, p7, p8, p9, lk, tl, hn, ⟨pl, hev⟩, hs1, hs2, L2.Binds.all hb⟩, code, ⟨ar, hd1, hd2⟩, ⟨_, _, _, _, _, _, lc, hvs, hfile⟩, ⟨_, _, _, lcc⟩, mro, up, sub, ini, op, nofld, c1, c2, c3, c4, c5, c6, c7, c8', c9, ca, cb, top⟩
end Dx

set_option maxHeartbeats 4000000
noncomputable section
namespace Law
open PySem PySem.Spec L2 Dx LamX
def top (i : Nat) : Stmt := PySem.Challenge.pw_windowbelt_k03_whole_plain.main.body.getD i (.Pass ⟨0, 0, 0, 0⟩)
abbrev wfuel : Nat := 600
abbrev rfuel : Nat := 6
def k_MOST_INSTRUCTIONS : D := (.int 40)
def k_GREATEST : D := (.cdict ["set", "sum", "get", "put", "if", "show"] [(.ktup [(.int 7), (.int 255)]), (.ktup [(.int 7), (.int 7), (.int 7), (.int 255)]), (.ktup [(.int 7), (.int 7), (.int 7)]), (.ktup [(.int 7), (.int 7), (.int 7)]), (.ktup [(.int 7), (.int 40)]), (.ktup [(.int 7)])])
def k_WRITING_KINDS : D := (.ktup [(.str "set"), (.str "sum"), (.str "get")])
def k_USED_PLACES : D := (.cdict ["set", "sum", "get", "put", "if", "show"] [(.ktup []), (.ktup [(.int 2), (.int 3)]), (.ktup [(.int 2)]), (.ktup [(.int 2), (.int 1)]), (.ktup [(.int 1)]), (.ktup [(.int 1)])])
def k_REGISTERS : D := (.int 8)
def k_CELLS : D := (.int 8)
def k_MOST_SHOWN : D := (.int 500)
def k_WORDS : D := (.int 256)
def k_MOST_DONE : D := (.int 500)
def raisedL : List Nat := [3, 2, 4, 5, 6]
def testedL : List Nat := [2, 3, 4, 5]
def subT (c k : Nat) : Bool := decide ((c, k) ∈ ([(3, 1), (3, 3), (2, 1), (2, 2), (4, 1), (4, 4), (5, 1), (5, 5), (6, 1), (6, 6)] : List (Nat × Nat)))
def sup_TooLong (c : Nat) : Option Bool := if c ∈ raisedL then some (subT c 6) else none
theorem sup_TooLong_r {c : Nat} {b : Bool} (h : sup_TooLong c = some b) : c ∈ raisedL := by
  unfold sup_TooLong at h
  split at h
  · assumption
  · cases h
def sup_WindowError (c : Nat) : Option Bool := if c ∈ raisedL then some (subT c 1) else none
theorem sup_WindowError_r {c : Nat} {b : Bool} (h : sup_WindowError c = some b) : c ∈ raisedL := by
  unfold sup_WindowError at h
  split at h
  · assumption
  · cases h
structure Tx (P : Program) (K : PySem.W.Frag) (mg : Str → Option Value) (G : Gx) : Prop where
  c_CELLS : GlobD K mg G "CELLS" k_CELLS
  c_GREATEST : GlobD K mg G "GREATEST" k_GREATEST
  c_MOST_DONE : GlobD K mg G "MOST_DONE" k_MOST_DONE
  c_MOST_INSTRUCTIONS : GlobD K mg G "MOST_INSTRUCTIONS" k_MOST_INSTRUCTIONS
  c_MOST_SHOWN : GlobD K mg G "MOST_SHOWN" k_MOST_SHOWN
  c_REGISTERS : GlobD K mg G "REGISTERS" k_REGISTERS
  c_USED_PLACES : GlobD K mg G "USED_PLACES" k_USED_PLACES
  c_WORDS : GlobD K mg G "WORDS" k_WORDS
  c_WRITING_KINDS : GlobD K mg G "WRITING_KINDS" k_WRITING_KINDS
  b_all : mg "all" = none
  na_Store_cells : NoAttr K (G.cls 0) (Str.ofString "cells")
  na_Store_registers : NoAttr K (G.cls 0) (Str.ofString "registers")
  na_Store_shown : NoAttr K (G.cls 0) (Str.ofString "shown")
  b_bool : mg "bool" = none
  cl_Store : Cls K (G.cls 0)
  em_TooLong : ∀ c b, sup_TooLong c = some b → PySem.W.exmOne K (.ref (G.cls c)) (.ref (G.cls 6)) = some b
  em_WindowError : ∀ c b, sup_WindowError c = some b → PySem.W.exmOne K (.ref (G.cls c)) (.ref (G.cls 1)) = some b
  b_enumerate : mg "enumerate" = none
  er_BadInstruction : ErrG K mg (G.cls 3) "BadInstruction"
  er_BadNumber : ErrG K mg (G.cls 5) "BadNumber"
  er_BadState : ErrG K mg (G.cls 4) "BadState"
  gc_BadInstruction : mg "BadInstruction" = some (.ref (G.cls 3))
  gc_BadNumber : mg "BadNumber" = some (.ref (G.cls 5))
  gc_BadProgram : mg "BadProgram" = some (.ref (G.cls 2))
  gc_BadState : mg "BadState" = some (.ref (G.cls 4))
  gc_TooLong : mg "TooLong" = some (.ref (G.cls 6))
  gc_WindowError : mg "WindowError" = some (.ref (G.cls 1))
  in_BadProgram : IniX P K mg (G.cls 2) "BadProgram" "index"
  in_TooLong : IniX P K mg (G.cls 6) "TooLong" "most"
  b_int : mg "int" = none
  b_isinstance : mg "isinstance" = none
  b_len : mg "len" = none
  b_list : mg "list" = none
  b_range : mg "range" = none
  b_str : mg "str" = none
  b_sum : mg "sum" = none
  b_tuple : mg "tuple" = none
  b_zip : mg "zip" = none
  ex_all : ∀ c, c ∈ raisedL → ExcC K (G.cls c)
  kit_all : ∀ c k, c ∈ raisedL → k ∈ testedL → PySem.W.kitOne K (.ref (G.cls c)) (.ref (G.cls k)) = some (subT c k)
  nf_index : ∀ c, c ∈ raisedL → PySem.W.findIn K (.ref (G.cls c)) "index" = some none
abbrev s_is_integer : Stmt := top 8
def S_is_integer : FS := sRet (xAnd (xIsi (xVar 0) ["int"]) (xNot (xIsi (xVar 0) ["bool"])))
def F_is_integer : FF := dFun 1 1 S_is_integer
theorem sc_is_integer : FnScope ["value"] ["value"] (defScope s_is_integer) := ⟨rfl, rfl, rfl, by decide +kernel, rfl, by decide +kernel, by decide +kernel⟩
theorem ok_is_integer {P : Program} {w : World} {K : PySem.W.Frag} {mg : Str → Option Value} {base : Heap} {G : Gx} (hK : K = G.K) (hw : w = G.w) (gok : G.Ok) (T : Tx P K mg G)  (h : FunAt K mg "is_integer" s_is_integer ["value"]) : DefD P w K mg base G 2 "is_integer" 1 F_is_integer := by
  obtain ⟨f, fd, F, hm, hb⟩ := h.ex
  exact ⟨f, fd, ["value"], fn_ok (k := 1) F sc_is_integer (by decide) (fun cdv A outer s H E hr => have A : Amb G _ _ := amb_fn (k := 0) hK hw gok hr
    ds_one (ds_ret (de_and A (de_isi (u := "int") A T.b_isinstance (de_var 0) T.b_int (by first | exact PyProof.Rows.boot_int | decide +kernel)) (de_one (de_not A (de_isi (u := "bool") A T.b_isinstance (de_var 0) T.b_bool (by first | exact PyProof.Rows.boot_bool | decide +kernel))))))), hm, F.kp, hb⟩
abbrev s_register_written : Stmt := top 21
def S_register_written : FS := sSeq (sIf (tBl (x2 (fInF false) (x2 fIx (xVar 0) (xC (.int 0))) (xC k_WRITING_KINDS)))
  (sRet (x2 fIx (xVar 0) (xC (.int 1))))
  (sNil))
  (sRet (xC .non))
def F_register_written : FF := dFun 1 1 S_register_written
theorem sc_register_written : FnScope ["instruction"] ["instruction"] (defScope s_register_written) := ⟨rfl, rfl, rfl, by decide +kernel, rfl, by decide +kernel, by decide +kernel⟩
theorem ok_register_written {P : Program} {w : World} {K : PySem.W.Frag} {mg : Str → Option Value} {base : Heap} {G : Gx} (hK : K = G.K) (hw : w = G.w) (gok : G.Ok) (T : Tx P K mg G)  (h : FunAt K mg "register_written" s_register_written ["instruction"]) : DefD P w K mg base G 2 "register_written" 1 F_register_written := by
  obtain ⟨f, fd, F, hm, hb⟩ := h.ex
  exact ⟨f, fd, ["instruction"], fn_ok (k := 1) F sc_register_written (by decide) (fun cdv A outer s H E hr => have A : Amb G _ _ := amb_fn (k := 0) hK hw gok hr
    ds_cons (ds_if (dt_c (c_inF A) (de_sub' A (de_var 0) (de_int)) (de_gl T.c_WRITING_KINDS))
    (ds_one (ds_ret (de_sub' A (de_var 0) (de_int))))
    (ds_nil))
    (ds_one (ds_ret (de_non)))), hm, F.kp, hb⟩
abbrev s_registers_used : Stmt := top 22
def S_registers_used : FS := sRet (xB cTuple (aCons (xLcF [1] (iSrc (x2 fIx (xC k_USED_PLACES) (x2 fIx (xVar 0) (xC (.int 0))))) (gNm 1) (tYesF) (x2 fIx (xVar 0) (xVar 1))) (aNil)))
def F_registers_used : FF := dFun 2 1 S_registers_used
theorem sc_registers_used : FnScope ["instruction", "place"] ["instruction"] (defScope s_registers_used) := ⟨rfl, rfl, rfl, by decide +kernel, rfl, by decide +kernel, by decide +kernel⟩
theorem ok_registers_used {P : Program} {w : World} {K : PySem.W.Frag} {mg : Str → Option Value} {base : Heap} {G : Gx} (hK : K = G.K) (hw : w = G.w) (gok : G.Ok) (T : Tx P K mg G)  (h : FunAt K mg "registers_used" s_registers_used ["instruction"]) : DefD P w K mg base G 2 "registers_used" 1 F_registers_used := by
  obtain ⟨f, fd, F, hm, hb⟩ := h.ex
  exact ⟨f, fd, ["instruction"], fn_ok (k := 1) F sc_registers_used (by decide) (fun cdv A outer s H E hr => have A : Amb G _ _ := amb_fn (k := 0) hK hw gok hr
    ds_one (ds_ret (de_tuple A T.b_tuple (da_cons (de_lcF (own := [("place", 1)]) rfl sc_registers_used.nd A (di_seq A (de_sub' A (de_gl T.c_USED_PLACES) (de_sub' A (de_var 0) (de_int)))) (blkOk_by (N := ["instruction", "place"]) (sc := defScope s_registers_used) (by decide +kernel)) (fun _ _ _ _ _ => dg_name 1 sc_registers_used.nd) (fun _ _ _ _ _ => dts_nil) (fun _ _ _ _ _ => de_sub' A.blk (de_var 0) (de_var 1))) (da_nil))))), hm, F.kp, hb⟩
abbrev s_cell_told : Stmt := top 39
def S_cell_told : FS := sRet (x2 fMod (x2 fAddF (x2 fIx (xVar 1) (xC (.int 0))) (x2 fIx (xVar 0) (xC (.int 3)))) (xC k_CELLS))
def F_cell_told : FF := dFun 2 2 S_cell_told
theorem sc_cell_told : FnScope ["instruction", "words"] ["instruction", "words"] (defScope s_cell_told) := ⟨rfl, rfl, rfl, by decide +kernel, rfl, by decide +kernel, by decide +kernel⟩
theorem ok_cell_told {P : Program} {w : World} {K : PySem.W.Frag} {mg : Str → Option Value} {base : Heap} {G : Gx} (hK : K = G.K) (hw : w = G.w) (gok : G.Ok) (T : Tx P K mg G)  (h : FunAt K mg "cell_told" s_cell_told ["instruction", "words"]) : DefD P w K mg base G 2 "cell_told" 2 F_cell_told := by
  obtain ⟨f, fd, F, hm, hb⟩ := h.ex
  exact ⟨f, fd, ["instruction", "words"], fn_ok (k := 1) F sc_cell_told (by decide) (fun cdv A outer s H E hr => have A : Amb G _ _ := amb_fn (k := 0) hK hw gok hr
    ds_one (ds_ret (de_mod (de_addF A (de_sub' A (de_var 1) (de_int)) (de_sub' A (de_var 0) (de_int))) (de_gl T.c_CELLS)))), hm, F.kp, hb⟩
abbrev s__law_taken : Stmt := top 41
def S__law_taken : FS := sSeq (sIf (tBl (x2 (fGt) (x2 fIx (xVar 0) (xC (.int 3))) (xC (.int 0))))
  (sSeq (sSet 2 (x2 fMod (xB cInt (aCons (x2 fIx (xVar 0) (xC (.int 3))) (aNil))) (xVar 1)))
  (sSeq (sSto (x2 fDiv (x2 fIx (xVar 0) (xC (.int 3))) (xVar 1)) (xVar 0) (xC (.int 3)))
  (sRet (xVar 2))))
  (sNil))
  (sSeq (sSto (x2 fAddF (x2 fIx (xVar 0) (xC (.int 1))) (xC (.int 1))) (xVar 0) (xC (.int 1)))
  (sSeq (sIf (tBl (x2 (fGt) (x2 fIx (xVar 0) (xC (.int 1))) (xB cLen (aCons (x2 fIx (xVar 0) (xC (.int 0))) (aNil)))))
  (sSeq (sSto (x2 fMod (xB cInt (aCons (x2 fAddF (x2 fMulFF (x2 fIx (xVar 0) (xC (.int 2))) (xC (.int 48271))) (xC (.int 11))) (aNil))) (xC (.int 2147483647))) (xVar 0) (xC (.int 2)))
  (sRet (x2 fMod (xB cInt (aCons (x2 fDiv (x2 fIx (xVar 0) (xC (.int 2))) (xC (.int 7))) (aNil))) (xVar 1))))
  (sNil))
  (sSeq (sSet 3 (x2 fIx (x2 fIx (xVar 0) (xC (.int 0))) (x2 fSub (x2 fIx (xVar 0) (xC (.int 1))) (xC (.int 1)))))
  (sSeq (sSto (x2 fMod (xB cInt (aCons (x2 fAddF (x2 fAddF (x2 fMulFF (x2 fIx (xVar 0) (xC (.int 2))) (xC (.int 48271))) (xVar 3)) (xC (.int 11))) (aNil))) (xC (.int 2147483647))) (xVar 0) (xC (.int 2)))
  (sSeq (sIf (tBl (x2 (fGe) (xVar 3) (x2 fPow (xC (.int 10)) (xC (.int 18)))))
  (sSto (x2 fDiv (xVar 3) (xVar 1)) (xVar 0) (xC (.int 3)))
  (sNil))
  (sRet (x2 fMod (xB cInt (aCons (xVar 3) (aNil))) (xVar 1))))))))
def F__law_taken : FF := dFun 4 2 S__law_taken
theorem sc__law_taken : FnScope ["row", "many", "found", "cell"] ["row", "many"] (defScope s__law_taken) := ⟨rfl, rfl, rfl, by decide +kernel, rfl, by decide +kernel, by decide +kernel⟩
theorem ok__law_taken {P : Program} {w : World} {K : PySem.W.Frag} {mg : Str → Option Value} {base : Heap} {G : Gx} (hK : K = G.K) (hw : w = G.w) (gok : G.Ok) (T : Tx P K mg G)  (h : FunAt K mg "_law_taken" s__law_taken ["row", "many"]) : DefD P w K mg base G 2 "_law_taken" 2 F__law_taken := by
  obtain ⟨f, fd, F, hm, hb⟩ := h.ex
  exact ⟨f, fd, ["row", "many"], fn_ok (k := 1) F sc__law_taken (by decide) (fun cdv A outer s H E hr => have A : Amb G _ _ := amb_fn (k := 0) hK hw gok hr
    ds_cons (ds_if (dt_c (c_gt A) (de_sub' A (de_var 0) (de_int)) (de_int))
    (ds_cons (ds_set (i := 2) (de_mod (de_int1 T.b_int (da_cons (de_sub' A (de_var 0) (de_int)) (da_nil))) (de_var 1)) sc__law_taken.nd)
    (ds_cons (ds_sto A (de_div (de_sub' A (de_var 0) (de_int)) (de_var 1)) (de_var 0) (de_int))
    (ds_one (ds_ret (de_var 2)))))
    (ds_nil))
    (ds_cons (ds_sto A (de_addF A (de_sub' A (de_var 0) (de_int)) (de_int)) (de_var 0) (de_int))
    (ds_cons (ds_if (dt_c (c_gt A) (de_sub' A (de_var 0) (de_int)) (de_len A T.b_len (da_cons (de_sub' A (de_var 0) (de_int)) (da_nil))))
    (ds_cons (ds_sto A (de_mod (de_int1 T.b_int (da_cons (de_addF A (de_mulFF A (de_sub' A (de_var 0) (de_int)) (de_int)) (de_int)) (da_nil))) (de_int)) (de_var 0) (de_int))
    (ds_one (ds_ret (de_mod (de_int1 T.b_int (da_cons (de_div (de_sub' A (de_var 0) (de_int)) (de_int)) (da_nil))) (de_var 1)))))
    (ds_nil))
    (ds_cons (ds_set (i := 3) (de_sub' A (de_sub' A (de_var 0) (de_int)) (de_sub (de_sub' A (de_var 0) (de_int)) (de_int))) sc__law_taken.nd)
    (ds_cons (ds_sto A (de_mod (de_int1 T.b_int (da_cons (de_addF A (de_addF A (de_mulFF A (de_sub' A (de_var 0) (de_int)) (de_int)) (de_var 3)) (de_int)) (da_nil))) (de_int)) (de_var 0) (de_int))
    (ds_cons (ds_if (dt_c (c_ge A) (de_var 3) (de_pow (de_int) (de_int)))
    (ds_one (ds_sto A (de_div (de_var 3) (de_var 1)) (de_var 0) (de_int)))
    (ds_nil))
    (ds_one (ds_ret (de_mod (de_int1 T.b_int (da_cons (de_var 3) (da_nil))) (de_var 1)))))))))), hm, F.kp, hb⟩
abbrev s__law_writes : Stmt := top 47
def S__law_writes : FS := sRet (xIf (tBl (x2 (fInF false) (x2 fIx (xVar 0) (xC (.int 0))) (xLstF (aCons (xC (.str "set")) (aCons (xC (.str "sum")) (aCons (xC (.str "get")) (aNil))))))) (x2 fIx (xVar 0) (xC (.int 1))) (xC .non))
def F__law_writes : FF := dFun 1 1 S__law_writes
theorem sc__law_writes : FnScope ["one"] ["one"] (defScope s__law_writes) := ⟨rfl, rfl, rfl, by decide +kernel, rfl, by decide +kernel, by decide +kernel⟩
theorem ok__law_writes {P : Program} {w : World} {K : PySem.W.Frag} {mg : Str → Option Value} {base : Heap} {G : Gx} (hK : K = G.K) (hw : w = G.w) (gok : G.Ok) (T : Tx P K mg G)  (h : FunAt K mg "_law_writes" s__law_writes ["one"]) : DefD P w K mg base G 2 "_law_writes" 1 F__law_writes := by
  obtain ⟨f, fd, F, hm, hb⟩ := h.ex
  exact ⟨f, fd, ["one"], fn_ok (k := 1) F sc__law_writes (by decide) (fun cdv A outer s H E hr => have A : Amb G _ _ := amb_fn (k := 0) hK hw gok hr
    ds_one (ds_ret (de_if (dt_c (c_inF A) (de_sub' A (de_var 0) (de_int)) (de_lstF A (da_cons (de_str) (da_cons (de_str) (da_cons (de_str) (da_nil)))))) (de_sub' A (de_var 0) (de_int)) (de_non)))), hm, F.kp, hb⟩
abbrev s__law_uses : Stmt := top 48
def S__law_uses : FS := sSeq (sIf (tBl (x2 (fEqF false) (x2 fIx (xVar 0) (xC (.int 0))) (xC (.str "sum"))))
  (sRet (xLstF (aCons (x2 fIx (xVar 0) (xC (.int 2))) (aCons (x2 fIx (xVar 0) (xC (.int 3))) (aNil)))))
  (sNil))
  (sSeq (sIf (tBl (x2 (fEqF false) (x2 fIx (xVar 0) (xC (.int 0))) (xC (.str "put"))))
  (sRet (xLstF (aCons (x2 fIx (xVar 0) (xC (.int 2))) (aCons (x2 fIx (xVar 0) (xC (.int 1))) (aNil)))))
  (sNil))
  (sRet (xDcIx [(.inr (Str.ofString "set"), xLstF (aNil)), (.inr (Str.ofString "get"), xLstF (aCons (x2 fIx (xVar 0) (xNeg (xC (.int 2)))) (aNil))), (.inr (Str.ofString "if"), xLstF (aCons (x2 fIx (xVar 0) (xC (.int 1))) (aNil))), (.inr (Str.ofString "show"), xLstF (aCons (x2 fIx (xVar 0) (xC (.int 1))) (aNil)))] (x2 fIx (xVar 0) (xC (.int 0))))))
def F__law_uses : FF := dFun 1 1 S__law_uses
theorem sc__law_uses : FnScope ["one"] ["one"] (defScope s__law_uses) := ⟨rfl, rfl, rfl, by decide +kernel, rfl, by decide +kernel, by decide +kernel⟩
theorem ok__law_uses {P : Program} {w : World} {K : PySem.W.Frag} {mg : Str → Option Value} {base : Heap} {G : Gx} (hK : K = G.K) (hw : w = G.w) (gok : G.Ok) (T : Tx P K mg G)  (h : FunAt K mg "_law_uses" s__law_uses ["one"]) : DefD P w K mg base G 2 "_law_uses" 1 F__law_uses := by
  obtain ⟨f, fd, F, hm, hb⟩ := h.ex
  exact ⟨f, fd, ["one"], fn_ok (k := 1) F sc__law_uses (by decide) (fun cdv A outer s H E hr => have A : Amb G _ _ := amb_fn (k := 0) hK hw gok hr
    ds_cons (ds_if (dt_c (c_eqF A) (de_sub' A (de_var 0) (de_int)) (de_str))
    (ds_one (ds_ret (de_lstF A (da_cons (de_sub' A (de_var 0) (de_int)) (da_cons (de_sub' A (de_var 0) (de_int)) (da_nil))))))
    (ds_nil))
    (ds_cons (ds_if (dt_c (c_eqF A) (de_sub' A (de_var 0) (de_int)) (de_str))
    (ds_one (ds_ret (de_lstF A (da_cons (de_sub' A (de_var 0) (de_int)) (da_cons (de_sub' A (de_var 0) (de_int)) (da_nil))))))
    (ds_nil))
    (ds_one (ds_ret (de_dcIx A (dps_str (de_lstF A (da_nil)) (dps_str (de_lstF A (da_cons (de_sub' A (de_var 0) (de_neg de_int)) (da_nil))) (dps_str (de_lstF A (da_cons (de_sub' A (de_var 0) (de_int)) (da_nil))) (dps_str (de_lstF A (da_cons (de_sub' A (de_var 0) (de_int)) (da_nil))) (dps_nil))))) (de_sub' A (de_var 0) (de_int))))))), hm, F.kp, hb⟩
abbrev s__law_told : Stmt := top 50
noncomputable def S__law_told (act : Nat → Sg → R D) : FS := sTryO (sRet (xAct 0 act)) sup_TooLong
  (sRet (xC (.str "long")))
noncomputable def F__law_told (act : Nat → Sg → R D) : FF := dFun 1 1 (S__law_told act)
theorem sc__law_told : FnScope ["work"] ["work"] (defScope s__law_told) := ⟨rfl, rfl, rfl, by decide +kernel, rfl, by decide +kernel, by decide +kernel⟩
theorem ok__law_told {P : Program} {w : World} {K : PySem.W.Frag} {mg : Str → Option Value} {base : Heap} {G : Gx} (hK : K = G.K) (hw : w = G.w) (gok : G.Ok) (T : Tx P K mg G) {k : Nat} (h : FunAt K mg "_law_told" s__law_told ["work"]) : ActD P w K mg base G (k + 1) "_law_told" F__law_told :=
  act_of (Sf := S__law_told) h sc__law_told rfl (by first | exact Or.inl rfl | exact Or.inr (Or.inl rfl)) (by decide) (by decide) (fun ga cdg Ar outer s H E ρX σX act hr hact => (have A : Amb G _ _ := (amb_fn (k := k) hK hw gok hr); dsx_one (dsx_tryO (k := 6) A T.gc_TooLong T.em_TooLong (fun W' pn xe A' => dsx_one (dsx_ret (hact W' pn xe _ _ A'.tk))) (fun ea oe pn A =>
    ds_one (ds_ret (de_str))))))
abbrev s__law_wrong : Stmt := top 51
noncomputable def S__law_wrong (act : Nat → Sg → R D) : FS := sSeq (sTry (sExpr (xAct 0 act)) 1 sup_WindowError (fun ec ea ed => byDict ed (fun ed => sSeq (sIf (tTru (xIsD 1 ea ed (subT ec 2)))
  (sRet (xTup (aCons (xC (.str "program")) (aCons (xEf 1 ea ed "index") (aNil)))))
  (sNil))
  (sSeq (sSet 2 (xLstF (aCons (xIsD 1 ea ed (subT ec 3)) (aCons (xIsD 1 ea ed (subT ec 5)) (aCons (xIsD 1 ea ed (subT ec 4)) (aNil))))))
  (sRet (xIf (tBl (x2 (fEqF false) (xM mCnt (xVar 2) (aCons (xC (.bl true)) (aNil))) (xC (.int 1)))) (x2 fIx (xLstF (aCons (xC (.str "instruction")) (aCons (xC (.str "number")) (aCons (xC (.str "state")) (aNil))))) (xM mIdx (xVar 2) (aCons (xC (.bl true)) (aNil)))) (xC (.str "other"))))))
  (sSeq (sIf (tTru (xIsE 1 ea (subT ec 2)))
  (sRet (xTup (aCons (xC (.str "program")) (aCons (xStk) (aNil)))))
  (sNil))
  (sSeq (sSet 2 (xLstF (aCons (xIsE 1 ea (subT ec 3)) (aCons (xIsE 1 ea (subT ec 5)) (aCons (xIsE 1 ea (subT ec 4)) (aNil))))))
  (sRet (xIf (tBl (x2 (fEqF false) (xM mCnt (xVar 2) (aCons (xC (.bl true)) (aNil))) (xC (.int 1)))) (x2 fIx (xLstF (aCons (xC (.str "instruction")) (aCons (xC (.str "number")) (aCons (xC (.str "state")) (aNil))))) (xM mIdx (xVar 2) (aCons (xC (.bl true)) (aNil)))) (xC (.str "other"))))))))
  (sRet (xC (.str "")))
noncomputable def F__law_wrong (act : Nat → Sg → R D) : FF := dFun 3 1 (S__law_wrong act)
theorem sc__law_wrong : FnScope ["work", "e", "known"] ["work"] (defScope s__law_wrong) := ⟨rfl, rfl, rfl, by decide +kernel, rfl, by decide +kernel, by decide +kernel⟩
theorem ok__law_wrong {P : Program} {w : World} {K : PySem.W.Frag} {mg : Str → Option Value} {base : Heap} {G : Gx} (hK : K = G.K) (hw : w = G.w) (gok : G.Ok) (T : Tx P K mg G) {k : Nat} (h : FunAt K mg "_law_wrong" s__law_wrong ["work"]) : ActD P w K mg base G (k + 1) "_law_wrong" F__law_wrong :=
  act_of (Sf := S__law_wrong) h sc__law_wrong rfl (by first | exact Or.inl rfl | exact Or.inr (Or.inl rfl)) (by decide) (by decide) (fun ga cdg Ar outer s H E ρX σX act hr hact => (have A : Amb G _ _ := (amb_fn (k := k) hK hw gok hr); dsx_cons (dsx_tryAs (i := 1) (k := 1) A sc__law_wrong.nd T.gc_WindowError T.em_WindowError (fun W' pn xe A' => dsx_one (dsx_expr (hact W' pn xe _ _ A'.tk))) (fun ea oe ec d pn hz hzf hsup A => match d, hz with
      | some ed, hz1 => (have hraised := (sup_WindowError_r hsup); (ds_cons (ds_if (dt_truth A (de_isD (i := 1) (k := 2) A (T.ex_all _ hraised) hz1 hzf T.gc_BadProgram (T.kit_all _ 2 hraised (by decide)) T.b_isinstance))
    (ds_one (ds_ret (de_tup A (da_cons (de_str) (da_cons (de_ef (i := 1) (f := "index") A (xfOf (T.ex_all _ hraised)) (T.nf_index _ hraised) hz1 hzf) (da_nil))))))
    (ds_nil))
    (ds_cons (ds_set (i := 2) (de_lstF A (da_cons (de_isD (i := 1) (k := 3) A (T.ex_all _ hraised) hz1 hzf T.gc_BadInstruction (T.kit_all _ 3 hraised (by decide)) T.b_isinstance) (da_cons (de_isD (i := 1) (k := 5) A (T.ex_all _ hraised) hz1 hzf T.gc_BadNumber (T.kit_all _ 5 hraised (by decide)) T.b_isinstance) (da_cons (de_isD (i := 1) (k := 4) A (T.ex_all _ hraised) hz1 hzf T.gc_BadState (T.kit_all _ 4 hraised (by decide)) T.b_isinstance) (da_nil))))) sc__law_wrong.nd)
    (ds_one (ds_ret (de_if (dt_c (c_eqF A) (de_count A (de_var 2) (da_cons (de_bl) (da_nil))) (de_int)) (de_sub' A (de_lstF A (da_cons (de_str) (da_cons (de_str) (da_cons (de_str) (da_nil))))) (de_index A (de_var 2) (da_cons (de_bl) (da_nil)))) (de_str)))))))
      | none, hz0 => (have hraised := (sup_WindowError_r hsup); (ds_cons (ds_if (dt_truth A (de_isE (i := 1) (k := 2) A (T.ex_all _ hraised) hz0 hzf T.gc_BadProgram (T.kit_all _ 2 hraised (by decide)) T.b_isinstance))
    (ds_one (ds_ret (de_tup A (da_cons (de_str) (da_cons (de_stk) (da_nil))))))
    (ds_nil))
    (ds_cons (ds_set (i := 2) (de_lstF A (da_cons (de_isE (i := 1) (k := 3) A (T.ex_all _ hraised) hz0 hzf T.gc_BadInstruction (T.kit_all _ 3 hraised (by decide)) T.b_isinstance) (da_cons (de_isE (i := 1) (k := 5) A (T.ex_all _ hraised) hz0 hzf T.gc_BadNumber (T.kit_all _ 5 hraised (by decide)) T.b_isinstance) (da_cons (de_isE (i := 1) (k := 4) A (T.ex_all _ hraised) hz0 hzf T.gc_BadState (T.kit_all _ 4 hraised (by decide)) T.b_isinstance) (da_nil))))) sc__law_wrong.nd)
    (ds_one (ds_ret (de_if (dt_c (c_eqF A) (de_count A (de_var 2) (da_cons (de_bl) (da_nil))) (de_int)) (de_sub' A (de_lstF A (da_cons (de_str) (da_cons (de_str) (da_cons (de_str) (da_nil))))) (de_index A (de_var 2) (da_cons (de_bl) (da_nil)))) (de_str)))))))))
    (ds_one (ds_ret (de_str)))))
abbrev s_Store___init__ : Stmt := inClass (top 31) 0
def S_Store___init__ : FS := sSeq (sAsg (gTp 3 (gsC (gNm 2) (gsC (gNm 3) (gsC (gNm 4) (gsN))))) (xVar 1))
  (sSeq (sFldS 0 (xB cListD (aCons (xVar 2) (aNil))) (xVar 0) "registers")
  (sSeq (sFldS 0 (xB cListD (aCons (xVar 3) (aNil))) (xVar 0) "cells")
  (sFldS 0 (xVar 4) (xVar 0) "shown")))
def F_Store___init__ : FF := dFun 5 2 S_Store___init__
theorem sc_Store___init__ : FnScope ["self", "state", "registers", "cells", "shown"] ["self", "state"] (defScope s_Store___init__) := ⟨rfl, rfl, rfl, by decide +kernel, rfl, by decide +kernel, by decide +kernel⟩
theorem ok_Store___init__ {P : Program} {w : World} {K : PySem.W.Frag} {mg : Str → Option Value} {base : Heap} {G : Gx} (hK : K = G.K) (hw : w = G.w) (gok : G.Ok) (T : Tx P K mg G)  (h : FunOf K (G.cls 0) "__init__" "Store.__init__" s_Store___init__ ["self", "state"]) (hc : mg "Store" = some (.ref (G.cls 0))) (hm : PySem.W.makesIn K (G.cls 0) = true) (hk : PySem.W.keepIn K (.ref (G.cls 0)) = true) : MakD P w K mg base G 2 "Store" 0 1 F_Store___init__ := by
  obtain ⟨f, fd, F, h1, h2, h3, hb⟩ := h.ex
  exact ⟨f, fd, ["self", "state"], fn_ok (k := 1) F sc_Store___init__ (by decide) (fun cdv A outer s H E hr => have A : Amb G _ _ := amb_fn (k := 0) hK hw gok hr
    ds_cons (ds_asg (vs := [2, 3, 4]) (dg_tup rfl A (dgs_cons (dg_name 2 sc_Store___init__.nd) (dgs_cons (dg_name 3 sc_Store___init__.nd) (dgs_cons (dg_name 4 sc_Store___init__.nd) (dgs_nil))))) (de_var 1))
    (ds_cons (ds_fld 0 A T.cl_Store T.na_Store_registers (de_listC A rfl T.b_list (da_cons (de_var 2) (da_nil))) (de_var 0))
    (ds_cons (ds_fld 0 A T.cl_Store T.na_Store_cells (de_listC A rfl T.b_list (da_cons (de_var 3) (da_nil))) (de_var 0))
    (ds_one (ds_fld 0 A T.cl_Store T.na_Store_shown (de_var 4) (de_var 0)))))), hc, ⟨hm, h1, h2, hk⟩, hb⟩
abbrev s_Store_show : Stmt := inClass (top 31) 1
def S_Store_show : FS := sFldS 0 (x2 fAddF (xFld 0 (xVar 0) "shown") (xTup (aCons (xVar 1) (aNil)))) (xVar 0) "shown"
def F_Store_show : FF := dFun 2 2 S_Store_show
theorem sc_Store_show : FnScope ["self", "word"] ["self", "word"] (defScope s_Store_show) := ⟨rfl, rfl, rfl, by decide +kernel, rfl, by decide +kernel, by decide +kernel⟩
theorem ok_Store_show {P : Program} {w : World} {K : PySem.W.Frag} {mg : Str → Option Value} {base : Heap} {G : Gx} (hK : K = G.K) (hw : w = G.w) (gok : G.Ok) (T : Tx P K mg G)  (h : FunOf K (G.cls 0) "show" "Store.show" s_Store_show ["self", "word"]) : MetD P w K mg base G 2 0 (Str.ofString "show") 1 F_Store_show := by
  obtain ⟨f, fd, F, h1, h2, h3, hb⟩ := h.ex
  exact ⟨f, fd, ["self", "word"], fn_ok (k := 1) F sc_Store_show (by decide) (fun cdv A outer s H E hr => have A : Amb G _ _ := amb_fn (k := 0) hK hw gok hr
    ds_one (ds_fld 0 A T.cl_Store T.na_Store_shown (de_addF A (de_fld 0 A T.cl_Store T.na_Store_shown (de_var 0)) (de_tup A (da_cons (de_var 1) (da_nil)))) (de_var 0))), ⟨h1, h2, h3⟩, hb⟩
abbrev s_Store_told : Stmt := inClass (top 31) 2
def S_Store_told : FS := sRet (xTup (aCons (xB cTuple (aCons (xFld 0 (xVar 0) "registers") (aNil))) (aCons (xB cTuple (aCons (xFld 0 (xVar 0) "cells") (aNil))) (aCons (xFld 0 (xVar 0) "shown") (aNil)))))
def F_Store_told : FF := dFun 1 1 S_Store_told
theorem sc_Store_told : FnScope ["self"] ["self"] (defScope s_Store_told) := ⟨rfl, rfl, rfl, by decide +kernel, rfl, by decide +kernel, by decide +kernel⟩
theorem ok_Store_told {P : Program} {w : World} {K : PySem.W.Frag} {mg : Str → Option Value} {base : Heap} {G : Gx} (hK : K = G.K) (hw : w = G.w) (gok : G.Ok) (T : Tx P K mg G)  (h : FunOf K (G.cls 0) "told" "Store.told" s_Store_told ["self"]) : MetD P w K mg base G 2 0 (Str.ofString "told") 0 F_Store_told := by
  obtain ⟨f, fd, F, h1, h2, h3, hb⟩ := h.ex
  exact ⟨f, fd, ["self"], fn_ok (k := 1) F sc_Store_told (by decide) (fun cdv A outer s H E hr => have A : Amb G _ _ := amb_fn (k := 0) hK hw gok hr
    ds_one (ds_ret (de_tup A (da_cons (de_tuple A T.b_tuple (da_cons (de_fld 0 A T.cl_Store T.na_Store_registers (de_var 0)) (da_nil))) (da_cons (de_tuple A T.b_tuple (da_cons (de_fld 0 A T.cl_Store T.na_Store_cells (de_var 0)) (da_nil))) (da_cons (de_fld 0 A T.cl_Store T.na_Store_shown (de_var 0)) (da_nil))))))), ⟨h1, h2, h3⟩, hb⟩
abbrev s_is_from_to : Stmt := top 9
def S_is_from_to : FS := sRet (xAnd (xCall F_is_integer 1 (aCons (xVar 0) (aNil))) (xChain (fLe) (fLe) (xVar 1) (xVar 0) (xVar 2)))
def F_is_from_to : FF := dFun 3 3 S_is_from_to
theorem sc_is_from_to : FnScope ["value", "least", "most"] ["value", "least", "most"] (defScope s_is_from_to) := ⟨rfl, rfl, rfl, by decide +kernel, rfl, by decide +kernel, by decide +kernel⟩
theorem ok_is_from_to {P : Program} {w : World} {K : PySem.W.Frag} {mg : Str → Option Value} {base : Heap} {G : Gx} (hK : K = G.K) (hw : w = G.w) (gok : G.Ok) (T : Tx P K mg G) (d_is_integer : DefD P w K mg base G 2 "is_integer" 1 F_is_integer) (h : FunAt K mg "is_from_to" s_is_from_to ["value", "least", "most"]) : DefD P w K mg base G 3 "is_from_to" 3 F_is_from_to := by
  obtain ⟨f, fd, F, hm, hb⟩ := h.ex
  exact ⟨f, fd, ["value", "least", "most"], fn_ok (k := 2) F sc_is_from_to (by decide) (fun cdv A outer s H E hr => have A : Amb G _ _ := amb_fn (k := 1) hK hw gok hr
    ds_one (ds_ret (de_and A (de_call A d_is_integer hr (by decide) (da_cons (de_var 0) (da_nil))) (de_one (de_chain (c_le A) (c_le A) (de_var 1) (de_var 0) (de_var 2)))))), hm, F.kp, hb⟩
abbrev s_result : Stmt := top 38
def S_result : FS := sSeq (sSet 3 (x2 fIx (xVar 1) (xC (.int 0))))
  (sSeq (sIf (tBl (x2 (fEqF false) (xVar 3) (xC (.str "get"))))
  (sRet (x2 fIx (xFld 0 (xVar 0) "cells") (xCall F_cell_told 2 (aCons (xVar 1) (aCons (xVar 2) (aNil))))))
  (sNil))
  (sSeq (sIf (tBl (x2 (fEqF false) (xVar 3) (xC (.str "sum"))))
  (sRet (x2 fMod (x2 fAddF (x2 fAddF (x2 fIx (xVar 2) (xC (.int 0))) (x2 fIx (xVar 2) (xC (.int 1)))) (x2 fIx (xVar 1) (xC (.int 4)))) (xC k_WORDS)))
  (sNil))
  (sRet (x2 fIx (xVar 1) (xC (.int 2))))))
def F_result : FF := dFun 4 3 S_result
theorem sc_result : FnScope ["store", "instruction", "words", "kind"] ["store", "instruction", "words"] (defScope s_result) := ⟨rfl, rfl, rfl, by decide +kernel, rfl, by decide +kernel, by decide +kernel⟩
theorem ok_result {P : Program} {w : World} {K : PySem.W.Frag} {mg : Str → Option Value} {base : Heap} {G : Gx} (hK : K = G.K) (hw : w = G.w) (gok : G.Ok) (T : Tx P K mg G) (d_cell_told : DefD P w K mg base G 2 "cell_told" 2 F_cell_told) (h : FunAt K mg "result" s_result ["store", "instruction", "words"]) : DefD P w K mg base G 3 "result" 3 F_result := by
  obtain ⟨f, fd, F, hm, hb⟩ := h.ex
  exact ⟨f, fd, ["store", "instruction", "words"], fn_ok (k := 2) F sc_result (by decide) (fun cdv A outer s H E hr => have A : Amb G _ _ := amb_fn (k := 1) hK hw gok hr
    ds_cons (ds_set (i := 3) (de_sub' A (de_var 1) (de_int)) sc_result.nd)
    (ds_cons (ds_if (dt_c (c_eqF A) (de_var 3) (de_str))
    (ds_one (ds_ret (de_sub' A (de_fld 0 A T.cl_Store T.na_Store_cells (de_var 0)) (de_call A d_cell_told hr (by decide) (da_cons (de_var 1) (da_cons (de_var 2) (da_nil)))))))
    (ds_nil))
    (ds_cons (ds_if (dt_c (c_eqF A) (de_var 3) (de_str))
    (ds_one (ds_ret (de_mod (de_addF A (de_addF A (de_sub' A (de_var 2) (de_int)) (de_sub' A (de_var 2) (de_int))) (de_sub' A (de_var 1) (de_int))) (de_gl T.c_WORDS))))
    (ds_nil))
    (ds_one (ds_ret (de_sub' A (de_var 1) (de_int))))))), hm, F.kp, hb⟩
abbrev s__law_pick : Stmt := top 42
def S__law_pick : FS := sRet (x2 fIx (xVar 1) (xCall F__law_taken 2 (aCons (xVar 0) (aCons (xB cLen (aCons (xVar 1) (aNil))) (aNil)))))
def F__law_pick : FF := dFun 2 2 S__law_pick
theorem sc__law_pick : FnScope ["row", "kinds"] ["row", "kinds"] (defScope s__law_pick) := ⟨rfl, rfl, rfl, by decide +kernel, rfl, by decide +kernel, by decide +kernel⟩
theorem ok__law_pick {P : Program} {w : World} {K : PySem.W.Frag} {mg : Str → Option Value} {base : Heap} {G : Gx} (hK : K = G.K) (hw : w = G.w) (gok : G.Ok) (T : Tx P K mg G) (d__law_taken : DefD P w K mg base G 2 "_law_taken" 2 F__law_taken) (h : FunAt K mg "_law_pick" s__law_pick ["row", "kinds"]) : DefD P w K mg base G 3 "_law_pick" 2 F__law_pick := by
  obtain ⟨f, fd, F, hm, hb⟩ := h.ex
  exact ⟨f, fd, ["row", "kinds"], fn_ok (k := 2) F sc__law_pick (by decide) (fun cdv A outer s H E hr => have A : Amb G _ _ := amb_fn (k := 1) hK hw gok hr
    ds_one (ds_ret (de_sub' A (de_var 1) (de_call A d__law_taken hr (by decide) (da_cons (de_var 0) (da_cons (de_len A T.b_len (da_cons (de_var 1) (da_nil))) (da_nil))))))), hm, F.kp, hb⟩
abbrev s__law_plain : Stmt := top 49
def S__law_plain : FS := sSeq (sAsg (gTp 3 (gsC (gNm 3) (gsC (gNm 4) (gsC (gNm 5) (gsN))))) (xTup (aCons (xB cListD (aCons (x2 fIx (xVar 1) (xC (.int 0))) (aNil))) (aCons (xB cListD (aCons (x2 fIx (xVar 1) (xC (.int 1))) (aNil))) (aCons (xB cListD (aCons (x2 fIx (xVar 1) (xC (.int 2))) (aNil))) (aNil))))))
  (sSeq (sAsg (gTp 2 (gsC (gNm 6) (gsC (gNm 7) (gsN)))) (xTup (aCons (xC (.int 0)) (aCons (xC (.int 0)) (aNil)))))
  (sSeq (whGo (tAndF (tBl (x2 (fLtF) (xVar 6) (xB cLen (aCons (xVar 0) (aNil))))) (tBl (x2 (fLtF) (xVar 7) (xVar 2))))
  (sSeq (sSet 8 (x2 fIx (xVar 0) (xVar 6)))
  (sSeq (sSet 9 (xLcF [10] (iSrc (xCall F__law_uses 1 (aCons (xVar 8) (aNil)))) (gNm 10) (tYesF) (x2 fIx (xVar 3) (xVar 10))))
  (sSeq (sPar2 6 7 (aCons (x2 fAddF (xVar 6) (xC (.int 1))) (aCons (x2 fAddF (xVar 7) (xC (.int 1))) (aNil))))
  (sSeq (sIf (tBl (x2 (fEqF false) (x2 fIx (xVar 8) (xC (.int 0))) (xC (.str "set"))))
  (sSto (x2 fIx (xVar 8) (xC (.int 2))) (xVar 3) (x2 fIx (xVar 8) (xC (.int 1))))
  (sNil))
  (sSeq (sIf (tBl (x2 (fEqF false) (x2 fIx (xVar 8) (xC (.int 0))) (xC (.str "sum"))))
  (sSto (x2 fMod (xB cInt (aCons (x2 fAddF (xB cSum (aCons (xVar 9) (aNil))) (x2 fIx (xVar 8) (xC (.int 4)))) (aNil))) (xC (.int 256))) (xVar 3) (x2 fIx (xVar 8) (xC (.int 1))))
  (sNil))
  (sSeq (sIf (tBl (x2 (fEqF false) (x2 fIx (xVar 8) (xC (.int 0))) (xC (.str "get"))))
  (sSto (x2 fIx (xVar 4) (x2 fMod (xB cInt (aCons (x2 fAddF (x2 fIx (xVar 9) (xC (.int 0))) (x2 fIx (xVar 8) (xC (.int 3)))) (aNil))) (xC (.int 8)))) (xVar 3) (x2 fIx (xVar 8) (xC (.int 1))))
  (sNil))
  (sSeq (sIf (tBl (x2 (fEqF false) (x2 fIx (xVar 8) (xC (.int 0))) (xC (.str "put"))))
  (sSto (x2 fIx (xVar 9) (xC (.int 1))) (xVar 4) (x2 fMod (xB cInt (aCons (x2 fAddF (x2 fIx (xVar 9) (xC (.int 0))) (x2 fIx (xVar 8) (xC (.int 3)))) (aNil))) (xC (.int 8))))
  (sNil))
  (sSeq (sIf (tBl (x2 (fEqF false) (x2 fIx (xVar 8) (xC (.int 0))) (xC (.str "show"))))
  (sExpr (xM mApp (xVar 5) (aCons (x2 fIx (xVar 9) (xC (.int 0))) (aNil))))
  (sNil))
  (sIf (tAndF (tBl (x2 (fEqF false) (x2 fIx (xVar 8) (xC (.int 0))) (xC (.str "if")))) (tBl (x2 (fEqF false) (x2 fIx (xVar 9) (xC (.int 0))) (xC (.int 0)))))
  (sSet 6 (x2 fIx (xVar 8) (xC (.int 2))))
  (sNil)))))))))) wfuel)
  (sRet (xTup (aCons (xTup (aCons (xB cTuple (aCons (xVar 3) (aNil))) (aCons (xB cTuple (aCons (xVar 4) (aNil))) (aCons (xB cTuple (aCons (xVar 5) (aNil))) (aNil))))) (aCons (xVar 6) (aCons (xVar 7) (aNil))))))))
def F__law_plain : FF := dFun 11 3 S__law_plain
theorem sc__law_plain : FnScope ["program", "state", "most", "names", "cells", "outs", "at", "done", "one", "words", "used"] ["program", "state", "most"] (defScope s__law_plain) := ⟨rfl, rfl, rfl, by decide +kernel, rfl, by decide +kernel, by decide +kernel⟩
theorem ok__law_plain {P : Program} {w : World} {K : PySem.W.Frag} {mg : Str → Option Value} {base : Heap} {G : Gx} (hK : K = G.K) (hw : w = G.w) (gok : G.Ok) (T : Tx P K mg G) (d__law_uses : DefD P w K mg base G 2 "_law_uses" 1 F__law_uses) (h : FunAt K mg "_law_plain" s__law_plain ["program", "state", "most"]) : DefD P w K mg base G 3 "_law_plain" 3 F__law_plain := by
  obtain ⟨f, fd, F, hm, hb⟩ := h.ex
  exact ⟨f, fd, ["program", "state", "most"], fn_ok (k := 2) F sc__law_plain (by decide) (fun cdv A outer s H E hr => have A : Amb G _ _ := amb_fn (k := 1) hK hw gok hr
    ds_cons (ds_asg (vs := [3, 4, 5]) (dg_tup rfl A (dgs_cons (dg_name 3 sc__law_plain.nd) (dgs_cons (dg_name 4 sc__law_plain.nd) (dgs_cons (dg_name 5 sc__law_plain.nd) (dgs_nil))))) (de_tup A (da_cons (de_listC A rfl T.b_list (da_cons (de_sub' A (de_var 1) (de_int)) (da_nil))) (da_cons (de_listC A rfl T.b_list (da_cons (de_sub' A (de_var 1) (de_int)) (da_nil))) (da_cons (de_listC A rfl T.b_list (da_cons (de_sub' A (de_var 1) (de_int)) (da_nil))) (da_nil))))))
    (ds_cons (ds_asg (vs := [6, 7]) (dg_tup rfl A (dgs_cons (dg_name 6 sc__law_plain.nd) (dgs_cons (dg_name 7 sc__law_plain.nd) (dgs_nil)))) (de_tup A (da_cons (de_int) (da_cons (de_int) (da_nil)))))
    (ds_cons (ds_while wfuel A (dt_w (dw_and (dt_c (c_ltF A) (de_var 6) (de_len A T.b_len (da_cons (de_var 0) (da_nil)))) (dw_and1 (dt_c (c_ltF A) (de_var 7) (de_var 2)))))
    (ds_cons (ds_set (i := 8) (de_sub' A (de_var 0) (de_var 6)) sc__law_plain.nd)
    (ds_cons (ds_setLcF (i := 9) (own := [("used", 10)]) rfl sc__law_plain.nd A (sw_true rfl rfl rfl (by decide +kernel)) (di_seq A (de_call A d__law_uses hr (by decide) (da_cons (de_var 8) (da_nil)))) (blkOk_by (N := ["program", "state", "most", "names", "cells", "outs", "at", "done", "one", "words", "used"]) (sc := defScope s__law_plain) (by decide +kernel)) (fun _ _ _ _ _ => dg_name 10 sc__law_plain.nd) (fun _ _ _ _ _ => dts_nil) (fun _ _ _ _ _ => de_sub' A.blk (de_var 3) (de_var 10)))
    (ds_cons (ds_par2 (i := 6) (j := 7) rfl sc__law_plain.nd (da_cons (de_addF A (de_var 6) (de_int)) (da_cons (de_addF A (de_var 7) (de_int)) (da_nil))))
    (ds_cons (ds_if (dt_c (c_eqF A) (de_sub' A (de_var 8) (de_int)) (de_str))
    (ds_one (ds_sto A (de_sub' A (de_var 8) (de_int)) (de_var 3) (de_sub' A (de_var 8) (de_int))))
    (ds_nil))
    (ds_cons (ds_if (dt_c (c_eqF A) (de_sub' A (de_var 8) (de_int)) (de_str))
    (ds_one (ds_sto A (de_mod (de_int1 T.b_int (da_cons (de_addF A (de_sum A rfl T.b_sum (da_cons (de_var 9) (da_nil))) (de_sub' A (de_var 8) (de_int))) (da_nil))) (de_int)) (de_var 3) (de_sub' A (de_var 8) (de_int))))
    (ds_nil))
    (ds_cons (ds_if (dt_c (c_eqF A) (de_sub' A (de_var 8) (de_int)) (de_str))
    (ds_one (ds_sto A (de_sub' A (de_var 4) (de_mod (de_int1 T.b_int (da_cons (de_addF A (de_sub' A (de_var 9) (de_int)) (de_sub' A (de_var 8) (de_int))) (da_nil))) (de_int))) (de_var 3) (de_sub' A (de_var 8) (de_int))))
    (ds_nil))
    (ds_cons (ds_if (dt_c (c_eqF A) (de_sub' A (de_var 8) (de_int)) (de_str))
    (ds_one (ds_sto A (de_sub' A (de_var 9) (de_int)) (de_var 4) (de_mod (de_int1 T.b_int (da_cons (de_addF A (de_sub' A (de_var 9) (de_int)) (de_sub' A (de_var 8) (de_int))) (da_nil))) (de_int))))
    (ds_nil))
    (ds_cons (ds_if (dt_c (c_eqF A) (de_sub' A (de_var 8) (de_int)) (de_str))
    (ds_one (ds_expr (de_append A (de_var 5) (da_cons (de_sub' A (de_var 9) (de_int)) (da_nil)))))
    (ds_nil))
    (ds_one (ds_if (dt_w (dw_and (dt_c (c_eqF A) (de_sub' A (de_var 8) (de_int)) (de_str)) (dw_and1 (dt_c (c_eqF A) (de_sub' A (de_var 9) (de_int)) (de_int)))))
    (ds_one (ds_set (i := 6) (de_sub' A (de_var 8) (de_int)) sc__law_plain.nd))
    (ds_nil))))))))))))
    (ds_one (ds_ret (de_tup A (da_cons (de_tup A (da_cons (de_tuple A T.b_tuple (da_cons (de_var 3) (da_nil))) (da_cons (de_tuple A T.b_tuple (da_cons (de_var 4) (da_nil))) (da_cons (de_tuple A T.b_tuple (da_cons (de_var 5) (da_nil))) (da_nil))))) (da_cons (de_var 6) (da_cons (de_var 7) (da_nil)))))))))), hm, F.kp, hb⟩
abbrev s_is_instruction_among : Stmt := top 16
def S_is_instruction_among : FS := sSeq (sIf (tOrF (tNotF (tTru (xIsi (xVar 0) ["tuple"]))) (tBl (x2 (fEqF false) (xB cLen (aCons (xVar 0) (aNil))) (xC (.int 0)))))
  (sRet (xC (.bl false)))
  (sNil))
  (sSeq (sSet 2 (x2 fIx (xVar 0) (xC (.int 0))))
  (sSeq (sIf (tOrF (tNotF (tTru (xIsi (xVar 2) ["str"]))) (tBl (x2 (fInF true) (xVar 2) (xC k_GREATEST))))
  (sRet (xC (.bl false)))
  (sNil))
  (sSeq (sSet 3 (x2 fIx (xC k_GREATEST) (xVar 2)))
  (sSeq (sIf (tBl (x2 (fEqF true) (xB cLen (aCons (xVar 0) (aNil))) (x2 fAddF (xC (.int 1)) (xB cLen (aCons (xVar 3) (aNil))))))
  (sRet (xC (.bl false)))
  (sNil))
  (sSeq (sIf (tNotF (tTru (xB cAll (aCons (xLcF [4, 5] (iZp (aCons (xSlF (xVar 0) (oSome (xC (.int 1))) (oNone)) (aCons (xVar 3) (aNil)))) (gTp 2 (gsC (gNm 4) (gsC (gNm 5) (gsN)))) (tYesF) (xCall F_is_from_to 3 (aCons (xVar 4) (aCons (xC (.int 0)) (aCons (xVar 5) (aNil)))))) (aNil)))))
  (sRet (xC (.bl false)))
  (sNil))
  (sRet (xOr (x2 (fEqF true) (xVar 2) (xC (.str "if"))) (x2 (fLe) (x2 fIx (xVar 0) (xC (.int 2))) (xVar 1)))))))))
def F_is_instruction_among : FF := dFun 6 2 S_is_instruction_among
theorem sc_is_instruction_among : FnScope ["value", "many", "kind", "greatest", "number", "top"] ["value", "many"] (defScope s_is_instruction_among) := ⟨rfl, rfl, rfl, by decide +kernel, rfl, by decide +kernel, by decide +kernel⟩
theorem ok_is_instruction_among {P : Program} {w : World} {K : PySem.W.Frag} {mg : Str → Option Value} {base : Heap} {G : Gx} (hK : K = G.K) (hw : w = G.w) (gok : G.Ok) (T : Tx P K mg G) (d_is_from_to : DefD P w K mg base G 3 "is_from_to" 3 F_is_from_to) (h : FunAt K mg "is_instruction_among" s_is_instruction_among ["value", "many"]) : DefD P w K mg base G 4 "is_instruction_among" 2 F_is_instruction_among := by
  obtain ⟨f, fd, F, hm, hb⟩ := h.ex
  exact ⟨f, fd, ["value", "many"], fn_ok (k := 3) F sc_is_instruction_among (by decide) (fun cdv A outer s H E hr => have A : Amb G _ _ := amb_fn (k := 2) hK hw gok hr
    ds_cons (ds_if (dt_w (dw_or (dt_not (dt_truth A (de_isi (u := "tuple") A T.b_isinstance (de_var 0) T.b_tuple (by first | exact PyProof.Rows.boot_tuple | decide +kernel)))) (dw_or1 (dt_c (c_eqF A) (de_len A T.b_len (da_cons (de_var 0) (da_nil))) (de_int)))))
    (ds_one (ds_ret (de_bl)))
    (ds_nil))
    (ds_cons (ds_set (i := 2) (de_sub' A (de_var 0) (de_int)) sc_is_instruction_among.nd)
    (ds_cons (ds_if (dt_w (dw_or (dt_not (dt_truth A (de_isi (u := "str") A T.b_isinstance (de_var 2) T.b_str (by first | exact PyProof.Rows.boot_str | decide +kernel)))) (dw_or1 (dt_c (c_ninF A) (de_var 2) (de_gl T.c_GREATEST)))))
    (ds_one (ds_ret (de_bl)))
    (ds_nil))
    (ds_cons (ds_set (i := 3) (de_sub' A (de_gl T.c_GREATEST) (de_var 2)) sc_is_instruction_among.nd)
    (ds_cons (ds_if (dt_c (c_neF A) (de_len A T.b_len (da_cons (de_var 0) (da_nil))) (de_addF A (de_int) (de_len A T.b_len (da_cons (de_var 3) (da_nil)))))
    (ds_one (ds_ret (de_bl)))
    (ds_nil))
    (ds_cons (ds_if (dt_not (dt_truth A (de_all A rfl T.b_all (da_cons (de_lcF (own := [("number", 4), ("top", 5)]) rfl sc_is_instruction_among.nd A (di_zip A T.b_zip (da_cons (de_sliceF A (de_var 0) (do_some (de_int)) (do_none)) (da_cons (de_var 3) (da_nil)))) (blkOk_by (N := ["value", "many", "kind", "greatest", "number", "top"]) (sc := defScope s_is_instruction_among) (by decide +kernel)) (fun _ _ _ _ _ => dg_tup rfl A.blk (dgs_cons (dg_name 4 sc_is_instruction_among.nd) (dgs_cons (dg_name 5 sc_is_instruction_among.nd) (dgs_nil)))) (fun _ _ _ _ _ => dts_nil) (fun _ _ _ _ _ => de_call A.blk d_is_from_to hr (by decide) (da_cons (de_var 4) (da_cons (de_int) (da_cons (de_var 5) (da_nil)))))) (da_nil)))))
    (ds_one (ds_ret (de_bl)))
    (ds_nil))
    (ds_one (ds_ret (de_or A (de_c (c_neF A) (de_var 2) (de_str)) (de_one (de_c (c_le A) (de_sub' A (de_var 0) (de_int)) (de_var 1)))))))))))), hm, F.kp, hb⟩
abbrev s_are_words : Stmt := top 28
def S_are_words : FS := sSeq (sIf (tOrF (tNotF (tTru (xIsi (xVar 0) ["tuple"]))) (tNotF (tBl (xChain (fLe) (fLe) (xVar 1) (xB cLen (aCons (xVar 0) (aNil))) (xVar 2)))))
  (sRet (xC (.bl false)))
  (sNil))
  (sRet (xB cAll (aCons (xLcF [3] (iSrc (xVar 0)) (gNm 3) (tYesF) (xCall F_is_from_to 3 (aCons (xVar 3) (aCons (xC (.int 0)) (aCons (x2 fSub (xC k_WORDS) (xC (.int 1))) (aNil)))))) (aNil))))
def F_are_words : FF := dFun 4 3 S_are_words
theorem sc_are_words : FnScope ["value", "least", "most", "word"] ["value", "least", "most"] (defScope s_are_words) := ⟨rfl, rfl, rfl, by decide +kernel, rfl, by decide +kernel, by decide +kernel⟩
theorem ok_are_words {P : Program} {w : World} {K : PySem.W.Frag} {mg : Str → Option Value} {base : Heap} {G : Gx} (hK : K = G.K) (hw : w = G.w) (gok : G.Ok) (T : Tx P K mg G) (d_is_from_to : DefD P w K mg base G 3 "is_from_to" 3 F_is_from_to) (h : FunAt K mg "are_words" s_are_words ["value", "least", "most"]) : DefD P w K mg base G 4 "are_words" 3 F_are_words := by
  obtain ⟨f, fd, F, hm, hb⟩ := h.ex
  exact ⟨f, fd, ["value", "least", "most"], fn_ok (k := 3) F sc_are_words (by decide) (fun cdv A outer s H E hr => have A : Amb G _ _ := amb_fn (k := 2) hK hw gok hr
    ds_cons (ds_if (dt_w (dw_or (dt_not (dt_truth A (de_isi (u := "tuple") A T.b_isinstance (de_var 0) T.b_tuple (by first | exact PyProof.Rows.boot_tuple | decide +kernel)))) (dw_or1 (dt_not (dt_chain (c_le A) (c_le A) (de_var 1) (de_len A T.b_len (da_cons (de_var 0) (da_nil))) (de_var 2))))))
    (ds_one (ds_ret (de_bl)))
    (ds_nil))
    (ds_one (ds_ret (de_all A rfl T.b_all (da_cons (de_lcF (own := [("word", 3)]) rfl sc_are_words.nd A (di_seq A (de_var 0)) (blkOk_by (N := ["value", "least", "most", "word"]) (sc := defScope s_are_words) (by decide +kernel)) (fun _ _ _ _ _ => dg_name 3 sc_are_words.nd) (fun _ _ _ _ _ => dts_nil) (fun _ _ _ _ _ => de_call A.blk d_is_from_to hr (by decide) (da_cons (de_var 3) (da_cons (de_int) (da_cons (de_sub (de_gl T.c_WORDS) (de_int)) (da_nil)))))) (da_nil)))))), hm, F.kp, hb⟩
abbrev s_step : Stmt := top 37
def S_step : FS := sSeq (sSet 3 (x2 fIx (xVar 1) (xC (.int 0))))
  (sSeq (sSet 4 (xLcF [5] (iSrc (xCall F_registers_used 1 (aCons (xVar 1) (aNil)))) (gNm 5) (tYesF) (x2 fIx (xFld 0 (xVar 0) "registers") (xVar 5))))
  (sSeq (sIf (tBl (x2 (fEqF false) (xVar 3) (xC (.str "if"))))
  (sRet (xIf (tBl (x2 (fEqF false) (x2 fIx (xVar 4) (xC (.int 0))) (xC (.int 0)))) (x2 fIx (xVar 1) (xC (.int 2))) (x2 fAddF (xVar 2) (xC (.int 1)))))
  (sNil))
  (sSeq (sIf (tBl (x2 (fEqF false) (xVar 3) (xC (.str "put"))))
  (sSto (x2 fIx (xVar 4) (xC (.int 1))) (xFld 0 (xVar 0) "cells") (xCall F_cell_told 2 (aCons (xVar 1) (aCons (xVar 4) (aNil)))))
  (sIf (tBl (x2 (fEqF false) (xVar 3) (xC (.str "show"))))
  (sExpr (xMeth 0 "show" 1 F_Store_show (xVar 0) (aCons (x2 fIx (xVar 4) (xC (.int 0))) (aNil))))
  (sSto (xCall F_result 3 (aCons (xVar 0) (aCons (xVar 1) (aCons (xVar 4) (aNil))))) (xFld 0 (xVar 0) "registers") (xCall F_register_written 1 (aCons (xVar 1) (aNil))))))
  (sRet (x2 fAddF (xVar 2) (xC (.int 1)))))))
def F_step : FF := dFun 6 3 S_step
theorem sc_step : FnScope ["store", "instruction", "number", "kind", "words", "a"] ["store", "instruction", "number"] (defScope s_step) := ⟨rfl, rfl, rfl, by decide +kernel, rfl, by decide +kernel, by decide +kernel⟩
theorem ok_step {P : Program} {w : World} {K : PySem.W.Frag} {mg : Str → Option Value} {base : Heap} {G : Gx} (hK : K = G.K) (hw : w = G.w) (gok : G.Ok) (T : Tx P K mg G) (d_Store_show : MetD P w K mg base G 2 0 (Str.ofString "show") 1 F_Store_show) (d_cell_told : DefD P w K mg base G 2 "cell_told" 2 F_cell_told) (d_register_written : DefD P w K mg base G 2 "register_written" 1 F_register_written) (d_registers_used : DefD P w K mg base G 2 "registers_used" 1 F_registers_used) (d_result : DefD P w K mg base G 3 "result" 3 F_result) (h : FunAt K mg "step" s_step ["store", "instruction", "number"]) : DefD P w K mg base G 4 "step" 3 F_step := by
  obtain ⟨f, fd, F, hm, hb⟩ := h.ex
  exact ⟨f, fd, ["store", "instruction", "number"], fn_ok (k := 3) F sc_step (by decide) (fun cdv A outer s H E hr => have A : Amb G _ _ := amb_fn (k := 2) hK hw gok hr
    ds_cons (ds_set (i := 3) (de_sub' A (de_var 1) (de_int)) sc_step.nd)
    (ds_cons (ds_setLcF (i := 4) (own := [("a", 5)]) rfl sc_step.nd A (sw_true rfl rfl rfl (by decide +kernel)) (di_seq A (de_call A d_registers_used hr (by decide) (da_cons (de_var 1) (da_nil)))) (blkOk_by (N := ["store", "instruction", "number", "kind", "words", "a"]) (sc := defScope s_step) (by decide +kernel)) (fun _ _ _ _ _ => dg_name 5 sc_step.nd) (fun _ _ _ _ _ => dts_nil) (fun _ _ _ _ _ => de_sub' A.blk (de_fld 0 A.blk T.cl_Store T.na_Store_registers (de_var 0)) (de_var 5)))
    (ds_cons (ds_if (dt_c (c_eqF A) (de_var 3) (de_str))
    (ds_one (ds_ret (de_if (dt_c (c_eqF A) (de_sub' A (de_var 4) (de_int)) (de_int)) (de_sub' A (de_var 1) (de_int)) (de_addF A (de_var 2) (de_int)))))
    (ds_nil))
    (ds_cons (ds_if (dt_c (c_eqF A) (de_var 3) (de_str))
    (ds_one (ds_sto A (de_sub' A (de_var 4) (de_int)) (de_fld 0 A T.cl_Store T.na_Store_cells (de_var 0)) (de_call A d_cell_told hr (by decide) (da_cons (de_var 1) (da_cons (de_var 4) (da_nil))))))
    (ds_one (ds_if (dt_c (c_eqF A) (de_var 3) (de_str))
    (ds_one (ds_expr (de_meth A T.cl_Store d_Store_show hr (by decide) (de_var 0) (da_cons (de_sub' A (de_var 4) (de_int)) (da_nil)) _)))
    (ds_one (ds_sto A (de_call A d_result hr (by decide) (da_cons (de_var 0) (da_cons (de_var 1) (da_cons (de_var 4) (da_nil))))) (de_fld 0 A T.cl_Store T.na_Store_registers (de_var 0)) (de_call A d_register_written hr (by decide) (da_cons (de_var 1) (da_nil))))))))
    (ds_one (ds_ret (de_addF A (de_var 2) (de_int)))))))), hm, F.kp, hb⟩
abbrev s__law_instruction : Stmt := top 44
def S__law_instruction : FS := sSeq (sSet 2 (xCall F__law_pick 2 (aCons (xVar 0) (aCons (xLstF (aCons (xC (.str "set")) (aCons (xC (.str "sum")) (aCons (xC (.str "sum")) (aCons (xC (.str "get")) (aCons (xC (.str "get")) (aCons (xC (.str "put")) (aCons (xC (.str "put")) (aCons (xC (.str "if")) (aCons (xC (.str "show")) (aNil))))))))))) (aNil)))))
  (sSeq (sPar3 3 4 5 (aCons (xCall F__law_taken 2 (aCons (xVar 0) (aCons (xC (.int 3)) (aNil)))) (aCons (xCall F__law_taken 2 (aCons (xVar 0) (aCons (xC (.int 3)) (aNil)))) (aCons (xCall F__law_taken 2 (aCons (xVar 0) (aCons (xC (.int 3)) (aNil)))) (aNil)))))
  (sSeq (sIf (tBl (x2 (fEqF false) (xVar 2) (xC (.str "set"))))
  (sRet (xTup (aCons (xC (.str "set")) (aCons (xVar 3) (aCons (xCall F__law_pick 2 (aCons (xVar 0) (aCons (xLstF (aCons (xC (.int 0)) (aCons (xC (.int 1)) (aCons (xC (.int 2)) (aCons (xC (.int 255)) (aCons (xCall F__law_taken 2 (aCons (xVar 0) (aCons (xC (.int 256)) (aNil)))) (aNil))))))) (aNil)))) (aNil))))))
  (sNil))
  (sSeq (sIf (tBl (x2 (fEqF false) (xVar 2) (xC (.str "sum"))))
  (sRet (xTup (aCons (xC (.str "sum")) (aCons (xVar 3) (aCons (xVar 4) (aCons (xVar 5) (aCons (xCall F__law_pick 2 (aCons (xVar 0) (aCons (xLstF (aCons (xC (.int 0)) (aCons (xC (.int 0)) (aCons (xC (.int 1)) (aCons (xC (.int 255)) (aNil)))))) (aNil)))) (aNil))))))))
  (sNil))
  (sSeq (sIf (tBl (x2 (fInF false) (xVar 2) (xLstF (aCons (xC (.str "get")) (aCons (xC (.str "put")) (aNil))))))
  (sRet (xTup (aCons (xVar 2) (aCons (xVar 3) (aCons (xVar 4) (aCons (xCall F__law_taken 2 (aCons (xVar 0) (aCons (xC (.int 3)) (aNil)))) (aNil)))))))
  (sNil))
  (sRet (xIf (tBl (x2 (fEqF false) (xVar 2) (xC (.str "if")))) (xTup (aCons (xC (.str "if")) (aCons (xVar 4) (aCons (xCall F__law_taken 2 (aCons (xVar 0) (aCons (x2 fAddF (xVar 1) (xC (.int 1))) (aNil)))) (aNil))))) (xTup (aCons (xC (.str "show")) (aCons (xVar 4) (aNil))))))))))
def F__law_instruction : FF := dFun 6 2 S__law_instruction
theorem sc__law_instruction : FnScope ["row", "most", "kind", "d", "a", "b"] ["row", "most"] (defScope s__law_instruction) := ⟨rfl, rfl, rfl, by decide +kernel, rfl, by decide +kernel, by decide +kernel⟩
theorem ok__law_instruction {P : Program} {w : World} {K : PySem.W.Frag} {mg : Str → Option Value} {base : Heap} {G : Gx} (hK : K = G.K) (hw : w = G.w) (gok : G.Ok) (T : Tx P K mg G) (d__law_pick : DefD P w K mg base G 3 "_law_pick" 2 F__law_pick) (d__law_taken : DefD P w K mg base G 2 "_law_taken" 2 F__law_taken) (h : FunAt K mg "_law_instruction" s__law_instruction ["row", "most"]) : DefD P w K mg base G 4 "_law_instruction" 2 F__law_instruction := by
  obtain ⟨f, fd, F, hm, hb⟩ := h.ex
  exact ⟨f, fd, ["row", "most"], fn_ok (k := 3) F sc__law_instruction (by decide) (fun cdv A outer s H E hr => have A : Amb G _ _ := amb_fn (k := 2) hK hw gok hr
    ds_cons (ds_set (i := 2) (de_call A d__law_pick hr (by decide) (da_cons (de_var 0) (da_cons (de_lstF A (da_cons (de_str) (da_cons (de_str) (da_cons (de_str) (da_cons (de_str) (da_cons (de_str) (da_cons (de_str) (da_cons (de_str) (da_cons (de_str) (da_cons (de_str) (da_nil))))))))))) (da_nil)))) sc__law_instruction.nd)
    (ds_cons (ds_par3 (i := 3) (j := 4) (l := 5) rfl sc__law_instruction.nd (da_cons (de_call A d__law_taken hr (by decide) (da_cons (de_var 0) (da_cons (de_int) (da_nil)))) (da_cons (de_call A d__law_taken hr (by decide) (da_cons (de_var 0) (da_cons (de_int) (da_nil)))) (da_cons (de_call A d__law_taken hr (by decide) (da_cons (de_var 0) (da_cons (de_int) (da_nil)))) (da_nil)))))
    (ds_cons (ds_if (dt_c (c_eqF A) (de_var 2) (de_str))
    (ds_one (ds_ret (de_tup A (da_cons (de_str) (da_cons (de_var 3) (da_cons (de_call A d__law_pick hr (by decide) (da_cons (de_var 0) (da_cons (de_lstF A (da_cons (de_int) (da_cons (de_int) (da_cons (de_int) (da_cons (de_int) (da_cons (de_call A d__law_taken hr (by decide) (da_cons (de_var 0) (da_cons (de_int) (da_nil)))) (da_nil))))))) (da_nil)))) (da_nil)))))))
    (ds_nil))
    (ds_cons (ds_if (dt_c (c_eqF A) (de_var 2) (de_str))
    (ds_one (ds_ret (de_tup A (da_cons (de_str) (da_cons (de_var 3) (da_cons (de_var 4) (da_cons (de_var 5) (da_cons (de_call A d__law_pick hr (by decide) (da_cons (de_var 0) (da_cons (de_lstF A (da_cons (de_int) (da_cons (de_int) (da_cons (de_int) (da_cons (de_int) (da_nil)))))) (da_nil)))) (da_nil)))))))))
    (ds_nil))
    (ds_cons (ds_if (dt_c (c_inF A) (de_var 2) (de_lstF A (da_cons (de_str) (da_cons (de_str) (da_nil)))))
    (ds_one (ds_ret (de_tup A (da_cons (de_var 2) (da_cons (de_var 3) (da_cons (de_var 4) (da_cons (de_call A d__law_taken hr (by decide) (da_cons (de_var 0) (da_cons (de_int) (da_nil)))) (da_nil))))))))
    (ds_nil))
    (ds_one (ds_ret (de_if (dt_c (c_eqF A) (de_var 2) (de_str)) (de_tup A (da_cons (de_str) (da_cons (de_var 4) (da_cons (de_call A d__law_taken hr (by decide) (da_cons (de_var 0) (da_cons (de_addF A (de_var 1) (de_int)) (da_nil)))) (da_nil))))) (de_tup A (da_cons (de_str) (da_cons (de_var 4) (da_nil)))))))))))), hm, F.kp, hb⟩
abbrev s__law_state : Stmt := top 46
def S__law_state : FS := sSeq (sSet 1 (x2 fAddF (xB cTuple (aCons (xLcF [2] (iR1 (aCons (xC (.int 3)) (aNil))) (gNm 2) (tYesF) (xCall F__law_pick 2 (aCons (xVar 0) (aCons (xLstF (aCons (xC (.int 0)) (aCons (xC (.int 0)) (aCons (xC (.int 1)) (aCons (xC (.int 2)) (aCons (xC (.int 7)) (aCons (xC (.int 255)) (aNil)))))))) (aNil))))) (aNil))) (xTup (aCons (xC (.int 1)) (aCons (xC (.int 2)) (aCons (xC (.int 3)) (aCons (xC (.int 4)) (aCons (xC (.int 0)) (aNil)))))))))
  (sRet (xTup (aCons (xVar 1) (aCons (xB cTuple (aCons (xLcF [2] (iR1 (aCons (xC (.int 8)) (aNil))) (gNm 2) (tYesF) (xCall F__law_taken 2 (aCons (xVar 0) (aCons (xC (.int 256)) (aNil))))) (aNil))) (aCons (x2 fMulFF (xTup (aCons (xC (.int 9)) (aNil))) (xCall F__law_taken 2 (aCons (xVar 0) (aCons (xC (.int 2)) (aNil))))) (aNil))))))
def F__law_state : FF := dFun 3 1 S__law_state
theorem sc__law_state : FnScope ["row", "names", "turn"] ["row"] (defScope s__law_state) := ⟨rfl, rfl, rfl, by decide +kernel, rfl, by decide +kernel, by decide +kernel⟩
theorem ok__law_state {P : Program} {w : World} {K : PySem.W.Frag} {mg : Str → Option Value} {base : Heap} {G : Gx} (hK : K = G.K) (hw : w = G.w) (gok : G.Ok) (T : Tx P K mg G) (d__law_pick : DefD P w K mg base G 3 "_law_pick" 2 F__law_pick) (d__law_taken : DefD P w K mg base G 2 "_law_taken" 2 F__law_taken) (h : FunAt K mg "_law_state" s__law_state ["row"]) : DefD P w K mg base G 4 "_law_state" 1 F__law_state := by
  obtain ⟨f, fd, F, hm, hb⟩ := h.ex
  exact ⟨f, fd, ["row"], fn_ok (k := 3) F sc__law_state (by decide) (fun cdv A outer s H E hr => have A : Amb G _ _ := amb_fn (k := 2) hK hw gok hr
    ds_cons (ds_set (i := 1) (de_addF A (de_tuple A T.b_tuple (da_cons (de_lcF (own := [("turn", 2)]) rfl sc__law_state.nd A (di_range1 T.b_range (da_cons (de_int) (da_nil))) (blkOk_by (N := ["row", "names", "turn"]) (sc := defScope s__law_state) (by decide +kernel)) (fun _ _ _ _ _ => dg_name 2 sc__law_state.nd) (fun _ _ _ _ _ => dts_nil) (fun _ _ _ _ _ => de_call A.blk d__law_pick hr (by decide) (da_cons (de_var 0) (da_cons (de_lstF A.blk (da_cons (de_int) (da_cons (de_int) (da_cons (de_int) (da_cons (de_int) (da_cons (de_int) (da_cons (de_int) (da_nil)))))))) (da_nil))))) (da_nil))) (de_tup A (da_cons (de_int) (da_cons (de_int) (da_cons (de_int) (da_cons (de_int) (da_cons (de_int) (da_nil)))))))) sc__law_state.nd)
    (ds_one (ds_ret (de_tup A (da_cons (de_var 1) (da_cons (de_tuple A T.b_tuple (da_cons (de_lcF (own := [("turn", 2)]) rfl sc__law_state.nd A (di_range1 T.b_range (da_cons (de_int) (da_nil))) (blkOk_by (N := ["row", "names", "turn"]) (sc := defScope s__law_state) (by decide +kernel)) (fun _ _ _ _ _ => dg_name 2 sc__law_state.nd) (fun _ _ _ _ _ => dts_nil) (fun _ _ _ _ _ => de_call A.blk d__law_taken hr (by decide) (da_cons (de_var 0) (da_cons (de_int) (da_nil))))) (da_nil))) (da_cons (de_mulFF A (de_tup A (da_cons (de_int) (da_nil))) (de_call A d__law_taken hr (by decide) (da_cons (de_var 0) (da_cons (de_int) (da_nil))))) (da_nil)))))))), hm, F.kp, hb⟩
abbrev s_is_instruction : Stmt := top 15
def S_is_instruction : FS := sRet (xCall F_is_instruction_among 2 (aCons (xVar 0) (aCons (xC k_MOST_INSTRUCTIONS) (aNil))))
def F_is_instruction : FF := dFun 1 1 S_is_instruction
theorem sc_is_instruction : FnScope ["value"] ["value"] (defScope s_is_instruction) := ⟨rfl, rfl, rfl, by decide +kernel, rfl, by decide +kernel, by decide +kernel⟩
theorem ok_is_instruction {P : Program} {w : World} {K : PySem.W.Frag} {mg : Str → Option Value} {base : Heap} {G : Gx} (hK : K = G.K) (hw : w = G.w) (gok : G.Ok) (T : Tx P K mg G) (d_is_instruction_among : DefD P w K mg base G 4 "is_instruction_among" 2 F_is_instruction_among) (h : FunAt K mg "is_instruction" s_is_instruction ["value"]) : DefD P w K mg base G 5 "is_instruction" 1 F_is_instruction := by
  obtain ⟨f, fd, F, hm, hb⟩ := h.ex
  exact ⟨f, fd, ["value"], fn_ok (k := 4) F sc_is_instruction (by decide) (fun cdv A outer s H E hr => have A : Amb G _ _ := amb_fn (k := 3) hK hw gok hr
    ds_one (ds_ret (de_call A d_is_instruction_among hr (by decide) (da_cons (de_var 0) (da_cons (de_gl T.c_MOST_INSTRUCTIONS) (da_nil)))))), hm, F.kp, hb⟩
abbrev s_check_program : Stmt := top 18
def S_check_program : FS := sSeq (sIf (tOrF (tNotF (tTru (xIsi (xVar 0) ["tuple"]))) (tBl (x2 (fGt) (xB cLen (aCons (xVar 0) (aNil))) (xC k_MOST_INSTRUCTIONS))))
  (sRaiseI 2 "index" (xC .non))
  (sNil))
  (sFor (iEn (aCons (xVar 0) (aNil))) (gTp 2 (gsC (gNm 1) (gsC (gNm 2) (gsN))))
  (sIf (tNotF (tTru (xCall F_is_instruction_among 2 (aCons (xVar 2) (aCons (xB cLen (aCons (xVar 0) (aNil))) (aNil))))))
  (sRaiseI 2 "index" (xVar 1))
  (sNil)))
def F_check_program : FF := dFun 3 1 S_check_program
theorem sc_check_program : FnScope ["value", "index", "item"] ["value"] (defScope s_check_program) := ⟨rfl, rfl, rfl, by decide +kernel, rfl, by decide +kernel, by decide +kernel⟩
theorem ok_check_program {P : Program} {w : World} {K : PySem.W.Frag} {mg : Str → Option Value} {base : Heap} {G : Gx} (hK : K = G.K) (hw : w = G.w) (gok : G.Ok) (T : Tx P K mg G) (d_is_instruction_among : DefD P w K mg base G 4 "is_instruction_among" 2 F_is_instruction_among) (h : FunAt K mg "check_program" s_check_program ["value"]) : DefD P w K mg base G 5 "check_program" 1 F_check_program := by
  obtain ⟨f, fd, F, hm, hb⟩ := h.ex
  exact ⟨f, fd, ["value"], fn_ok (k := 4) F sc_check_program (by decide) (fun cdv A outer s H E hr => have A : Amb G _ _ := amb_fn (k := 3) hK hw gok hr
    ds_cons (ds_if (dt_w (dw_or (dt_not (dt_truth A (de_isi (u := "tuple") A T.b_isinstance (de_var 0) T.b_tuple (by first | exact PyProof.Rows.boot_tuple | decide +kernel)))) (dw_or1 (dt_c (c_gt A) (de_len A T.b_len (da_cons (de_var 0) (da_nil))) (de_gl T.c_MOST_INSTRUCTIONS)))))
    (ds_one (ds_raiseX (c := 2) rfl A T.in_BadProgram (hr.mono (by decide)) (de_non)))
    (ds_nil))
    (ds_one (ds_for (vs := [1, 2]) rfl A (di_enum A T.b_enumerate (da_cons (de_var 0) (da_nil))) (dg_tup rfl A (dgs_cons (dg_name 1 sc_check_program.nd) (dgs_cons (dg_name 2 sc_check_program.nd) (dgs_nil))))
    (ds_one (ds_if (dt_not (dt_truth A (de_call A d_is_instruction_among hr (by decide) (da_cons (de_var 2) (da_cons (de_len A T.b_len (da_cons (de_var 0) (da_nil))) (da_nil))))))
    (ds_one (ds_raiseX (c := 2) rfl A T.in_BadProgram (hr.mono (by decide)) (de_var 1)))
    (ds_nil)))))), hm, F.kp, hb⟩
abbrev s_is_state : Stmt := top 29
def S_is_state : FS := sSeq (sIf (tOrF (tNotF (tTru (xIsi (xVar 0) ["tuple"]))) (tBl (x2 (fEqF true) (xB cLen (aCons (xVar 0) (aNil))) (xC (.int 3)))))
  (sRet (xC (.bl false)))
  (sNil))
  (sSeq (sAsg (gTp 3 (gsC (gNm 1) (gsC (gNm 2) (gsC (gNm 3) (gsN))))) (xVar 0))
  (sRet (xAnd (xCall F_are_words 3 (aCons (xVar 1) (aCons (xC k_REGISTERS) (aCons (xC k_REGISTERS) (aNil))))) (xAnd (xCall F_are_words 3 (aCons (xVar 2) (aCons (xC k_CELLS) (aCons (xC k_CELLS) (aNil))))) (xCall F_are_words 3 (aCons (xVar 3) (aCons (xC (.int 0)) (aCons (xC k_MOST_SHOWN) (aNil)))))))))
def F_is_state : FF := dFun 4 1 S_is_state
theorem sc_is_state : FnScope ["value", "registers", "cells", "shown"] ["value"] (defScope s_is_state) := ⟨rfl, rfl, rfl, by decide +kernel, rfl, by decide +kernel, by decide +kernel⟩
theorem ok_is_state {P : Program} {w : World} {K : PySem.W.Frag} {mg : Str → Option Value} {base : Heap} {G : Gx} (hK : K = G.K) (hw : w = G.w) (gok : G.Ok) (T : Tx P K mg G) (d_are_words : DefD P w K mg base G 4 "are_words" 3 F_are_words) (h : FunAt K mg "is_state" s_is_state ["value"]) : DefD P w K mg base G 5 "is_state" 1 F_is_state := by
  obtain ⟨f, fd, F, hm, hb⟩ := h.ex
  exact ⟨f, fd, ["value"], fn_ok (k := 4) F sc_is_state (by decide) (fun cdv A outer s H E hr => have A : Amb G _ _ := amb_fn (k := 3) hK hw gok hr
    ds_cons (ds_if (dt_w (dw_or (dt_not (dt_truth A (de_isi (u := "tuple") A T.b_isinstance (de_var 0) T.b_tuple (by first | exact PyProof.Rows.boot_tuple | decide +kernel)))) (dw_or1 (dt_c (c_neF A) (de_len A T.b_len (da_cons (de_var 0) (da_nil))) (de_int)))))
    (ds_one (ds_ret (de_bl)))
    (ds_nil))
    (ds_cons (ds_asg (vs := [1, 2, 3]) (dg_tup rfl A (dgs_cons (dg_name 1 sc_is_state.nd) (dgs_cons (dg_name 2 sc_is_state.nd) (dgs_cons (dg_name 3 sc_is_state.nd) (dgs_nil))))) (de_var 0))
    (ds_one (ds_ret (de_and A (de_call A d_are_words hr (by decide) (da_cons (de_var 1) (da_cons (de_gl T.c_REGISTERS) (da_cons (de_gl T.c_REGISTERS) (da_nil))))) (de_and A (de_call A d_are_words hr (by decide) (da_cons (de_var 2) (da_cons (de_gl T.c_CELLS) (da_cons (de_gl T.c_CELLS) (da_nil))))) (de_one (de_call A d_are_words hr (by decide) (da_cons (de_var 3) (da_cons (de_int) (da_cons (de_gl T.c_MOST_SHOWN) (da_nil)))))))))))), hm, F.kp, hb⟩
abbrev s_after : Stmt := top 36
def S_after : FS := sSeq (sSet 3 (xMake 0 1 F_Store___init__ (aCons (xVar 1) (aNil))))
  (sSeq (sSet 4 (xC (.int 0)))
  (sSeq (sSet 5 (xC (.int 0)))
  (sSeq (whGo (tAndF (tBl (x2 (fLtF) (xVar 5) (xVar 2))) (tBl (x2 (fLtF) (xVar 4) (xB cLen (aCons (xVar 0) (aNil))))))
  (sSeq (sSet 4 (xCall F_step 3 (aCons (xVar 3) (aCons (x2 fIx (xVar 0) (xVar 4)) (aCons (xVar 4) (aNil))))))
  (sAug 5 (fI fun i j => .int (i + j)) (xC (.int 1)))) wfuel)
  (sRet (xTup (aCons (xMeth 0 "told" 0 F_Store_told (xVar 3) aNil) (aCons (xVar 4) (aCons (xVar 5) (aNil)))))))))
def F_after : FF := dFun 6 3 S_after
theorem sc_after : FnScope ["program", "state", "most", "store", "coming", "done"] ["program", "state", "most"] (defScope s_after) := ⟨rfl, rfl, rfl, by decide +kernel, rfl, by decide +kernel, by decide +kernel⟩
theorem ok_after {P : Program} {w : World} {K : PySem.W.Frag} {mg : Str → Option Value} {base : Heap} {G : Gx} (hK : K = G.K) (hw : w = G.w) (gok : G.Ok) (T : Tx P K mg G) (d_Store___init__ : MakD P w K mg base G 2 "Store" 0 1 F_Store___init__) (d_Store_told : MetD P w K mg base G 2 0 (Str.ofString "told") 0 F_Store_told) (d_step : DefD P w K mg base G 4 "step" 3 F_step) (h : FunAt K mg "after" s_after ["program", "state", "most"]) : DefD P w K mg base G 5 "after" 3 F_after := by
  obtain ⟨f, fd, F, hm, hb⟩ := h.ex
  exact ⟨f, fd, ["program", "state", "most"], fn_ok (k := 4) F sc_after (by decide) (fun cdv A outer s H E hr => have A : Amb G _ _ := amb_fn (k := 3) hK hw gok hr
    ds_cons (ds_set (i := 3) (de_make A d_Store___init__ hr (by decide) (da_cons (de_var 1) (da_nil))) sc_after.nd)
    (ds_cons (ds_set (i := 4) (de_int) sc_after.nd)
    (ds_cons (ds_set (i := 5) (de_int) sc_after.nd)
    (ds_cons (ds_while wfuel A (dt_w (dw_and (dt_c (c_ltF A) (de_var 5) (de_var 2)) (dw_and1 (dt_c (c_ltF A) (de_var 4) (de_len A T.b_len (da_cons (de_var 0) (da_nil)))))))
    (ds_cons (ds_set (i := 4) (de_call A d_step hr (by decide) (da_cons (de_var 3) (da_cons (de_sub' A (de_var 0) (de_var 4)) (da_cons (de_var 4) (da_nil))))) sc_after.nd)
    (ds_one (ds_augI (i := 5) (de_int) sc_after.nd))))
    (ds_one (ds_ret (de_tup A (da_cons (de_meth0 A T.cl_Store d_Store_told hr (by decide) (de_var 3) _) (da_cons (de_var 4) (da_cons (de_var 5) (da_nil))))))))))), hm, F.kp, hb⟩
abbrev s__law_program : Stmt := top 45
def S__law_program : FS := sSeq (sSet 2 (xCall F__law_taken 2 (aCons (xVar 0) (aCons (x2 fAddF (xVar 1) (xC (.int 1))) (aNil)))))
  (sRet (xB cTuple (aCons (xLcF [3] (iR1 (aCons (xVar 2) (aNil))) (gNm 3) (tYesF) (xCall F__law_instruction 2 (aCons (xVar 0) (aCons (xVar 2) (aNil))))) (aNil))))
def F__law_program : FF := dFun 4 2 S__law_program
theorem sc__law_program : FnScope ["row", "most", "many", "turn"] ["row", "most"] (defScope s__law_program) := ⟨rfl, rfl, rfl, by decide +kernel, rfl, by decide +kernel, by decide +kernel⟩
theorem ok__law_program {P : Program} {w : World} {K : PySem.W.Frag} {mg : Str → Option Value} {base : Heap} {G : Gx} (hK : K = G.K) (hw : w = G.w) (gok : G.Ok) (T : Tx P K mg G) (d__law_instruction : DefD P w K mg base G 4 "_law_instruction" 2 F__law_instruction) (d__law_taken : DefD P w K mg base G 2 "_law_taken" 2 F__law_taken) (h : FunAt K mg "_law_program" s__law_program ["row", "most"]) : DefD P w K mg base G 5 "_law_program" 2 F__law_program := by
  obtain ⟨f, fd, F, hm, hb⟩ := h.ex
  exact ⟨f, fd, ["row", "most"], fn_ok (k := 4) F sc__law_program (by decide) (fun cdv A outer s H E hr => have A : Amb G _ _ := amb_fn (k := 3) hK hw gok hr
    ds_cons (ds_set (i := 2) (de_call A d__law_taken hr (by decide) (da_cons (de_var 0) (da_cons (de_addF A (de_var 1) (de_int)) (da_nil)))) sc__law_program.nd)
    (ds_one (ds_ret (de_tuple A T.b_tuple (da_cons (de_lcF (own := [("turn", 3)]) rfl sc__law_program.nd A (di_range1 T.b_range (da_cons (de_var 2) (da_nil))) (blkOk_by (N := ["row", "most", "many", "turn"]) (sc := defScope s__law_program) (by decide +kernel)) (fun _ _ _ _ _ => dg_name 3 sc__law_program.nd) (fun _ _ _ _ _ => dts_nil) (fun _ _ _ _ _ => de_call A.blk d__law_instruction hr (by decide) (da_cons (de_var 0) (da_cons (de_var 2) (da_nil))))) (da_nil)))))), hm, F.kp, hb⟩
abbrev s_check_instruction : Stmt := top 17
def S_check_instruction : FS := sIf (tNotF (tTru (xCall F_is_instruction 1 (aCons (xVar 0) (aNil)))))
  (sRaise 3)
  (sNil)
def F_check_instruction : FF := dFun 1 1 S_check_instruction
theorem sc_check_instruction : FnScope ["value"] ["value"] (defScope s_check_instruction) := ⟨rfl, rfl, rfl, by decide +kernel, rfl, by decide +kernel, by decide +kernel⟩
theorem ok_check_instruction {P : Program} {w : World} {K : PySem.W.Frag} {mg : Str → Option Value} {base : Heap} {G : Gx} (hK : K = G.K) (hw : w = G.w) (gok : G.Ok) (T : Tx P K mg G) (d_is_instruction : DefD P w K mg base G 5 "is_instruction" 1 F_is_instruction) (h : FunAt K mg "check_instruction" s_check_instruction ["value"]) : DefD P w K mg base G 6 "check_instruction" 1 F_check_instruction := by
  obtain ⟨f, fd, F, hm, hb⟩ := h.ex
  exact ⟨f, fd, ["value"], fn_ok (k := 5) F sc_check_instruction (by decide) (fun cdv A outer s H E hr => have A : Amb G _ _ := amb_fn (k := 4) hK hw gok hr
    ds_one (ds_if (dt_not (dt_truth A (de_call A d_is_instruction hr (by decide) (da_cons (de_var 0) (da_nil)))))
    (ds_one (ds_raise (c := 3) rfl A T.er_BadInstruction))
    (ds_nil))), hm, F.kp, hb⟩
abbrev s_check_state : Stmt := top 30
def S_check_state : FS := sIf (tNotF (tTru (xCall F_is_state 1 (aCons (xVar 0) (aNil)))))
  (sRaise 4)
  (sNil)
def F_check_state : FF := dFun 1 1 S_check_state
theorem sc_check_state : FnScope ["value"] ["value"] (defScope s_check_state) := ⟨rfl, rfl, rfl, by decide +kernel, rfl, by decide +kernel, by decide +kernel⟩
theorem ok_check_state {P : Program} {w : World} {K : PySem.W.Frag} {mg : Str → Option Value} {base : Heap} {G : Gx} (hK : K = G.K) (hw : w = G.w) (gok : G.Ok) (T : Tx P K mg G) (d_is_state : DefD P w K mg base G 5 "is_state" 1 F_is_state) (h : FunAt K mg "check_state" s_check_state ["value"]) : DefD P w K mg base G 6 "check_state" 1 F_check_state := by
  obtain ⟨f, fd, F, hm, hb⟩ := h.ex
  exact ⟨f, fd, ["value"], fn_ok (k := 5) F sc_check_state (by decide) (fun cdv A outer s H E hr => have A : Amb G _ _ := amb_fn (k := 4) hK hw gok hr
    ds_one (ds_if (dt_not (dt_truth A (de_call A d_is_state hr (by decide) (da_cons (de_var 0) (da_nil)))))
    (ds_one (ds_raise (c := 4) rfl A T.er_BadState))
    (ds_nil))), hm, F.kp, hb⟩
abbrev s_written_by : Stmt := top 19
def S_written_by : FS := sSeq (sExpr (xCall F_check_instruction 1 (aCons (xVar 0) (aNil))))
  (sRet (xCall F_register_written 1 (aCons (xVar 0) (aNil))))
def F_written_by : FF := dFun 1 1 S_written_by
theorem sc_written_by : FnScope ["instruction"] ["instruction"] (defScope s_written_by) := ⟨rfl, rfl, rfl, by decide +kernel, rfl, by decide +kernel, by decide +kernel⟩
theorem ok_written_by {P : Program} {w : World} {K : PySem.W.Frag} {mg : Str → Option Value} {base : Heap} {G : Gx} (hK : K = G.K) (hw : w = G.w) (gok : G.Ok) (T : Tx P K mg G) (d_check_instruction : DefD P w K mg base G 6 "check_instruction" 1 F_check_instruction) (d_register_written : DefD P w K mg base G 2 "register_written" 1 F_register_written) (h : FunAt K mg "written_by" s_written_by ["instruction"]) : DefD P w K mg base G 7 "written_by" 1 F_written_by := by
  obtain ⟨f, fd, F, hm, hb⟩ := h.ex
  exact ⟨f, fd, ["instruction"], fn_ok (k := 6) F sc_written_by (by decide) (fun cdv A outer s H E hr => have A : Amb G _ _ := amb_fn (k := 5) hK hw gok hr
    ds_cons (ds_expr (de_call A d_check_instruction hr (by decide) (da_cons (de_var 0) (da_nil))))
    (ds_one (ds_ret (de_call A d_register_written hr (by decide) (da_cons (de_var 0) (da_nil)))))), hm, F.kp, hb⟩
abbrev s_used_by : Stmt := top 20
def S_used_by : FS := sSeq (sExpr (xCall F_check_instruction 1 (aCons (xVar 0) (aNil))))
  (sRet (xCall F_registers_used 1 (aCons (xVar 0) (aNil))))
def F_used_by : FF := dFun 1 1 S_used_by
theorem sc_used_by : FnScope ["instruction"] ["instruction"] (defScope s_used_by) := ⟨rfl, rfl, rfl, by decide +kernel, rfl, by decide +kernel, by decide +kernel⟩
theorem ok_used_by {P : Program} {w : World} {K : PySem.W.Frag} {mg : Str → Option Value} {base : Heap} {G : Gx} (hK : K = G.K) (hw : w = G.w) (gok : G.Ok) (T : Tx P K mg G) (d_check_instruction : DefD P w K mg base G 6 "check_instruction" 1 F_check_instruction) (d_registers_used : DefD P w K mg base G 2 "registers_used" 1 F_registers_used) (h : FunAt K mg "used_by" s_used_by ["instruction"]) : DefD P w K mg base G 7 "used_by" 1 F_used_by := by
  obtain ⟨f, fd, F, hm, hb⟩ := h.ex
  exact ⟨f, fd, ["instruction"], fn_ok (k := 6) F sc_used_by (by decide) (fun cdv A outer s H E hr => have A : Amb G _ _ := amb_fn (k := 5) hK hw gok hr
    ds_cons (ds_expr (de_call A d_check_instruction hr (by decide) (da_cons (de_var 0) (da_nil))))
    (ds_one (ds_ret (de_call A d_registers_used hr (by decide) (da_cons (de_var 0) (da_nil)))))), hm, F.kp, hb⟩
abbrev s_ran : Stmt := top 34
def S_ran : FS := sSeq (sExpr (xCall F_check_program 1 (aCons (xVar 0) (aNil))))
  (sSeq (sExpr (xCall F_check_state 1 (aCons (xVar 1) (aNil))))
  (sSeq (sIf (tNotF (tTru (xCall F_is_from_to 3 (aCons (xVar 2) (aCons (xC (.int 0)) (aCons (xC k_MOST_DONE) (aNil)))))))
  (sRaise 5)
  (sNil))
  (sRet (xCall (gcF F_after) 3 (aCons (xVar 0) (aCons (xVar 1) (aCons (xVar 2) (aNil))))))))
def F_ran : FF := dFun 3 3 S_ran
theorem sc_ran : FnScope ["program", "state", "most"] ["program", "state", "most"] (defScope s_ran) := ⟨rfl, rfl, rfl, by decide +kernel, rfl, by decide +kernel, by decide +kernel⟩
theorem ok_ran {P : Program} {w : World} {K : PySem.W.Frag} {mg : Str → Option Value} {base : Heap} {G : Gx} (hK : K = G.K) (hw : w = G.w) (gok : G.Ok) (T : Tx P K mg G) (d_after : DefD P w K mg base G 5 "after" 3 F_after) (d_check_program : DefD P w K mg base G 5 "check_program" 1 F_check_program) (d_check_state : DefD P w K mg base G 6 "check_state" 1 F_check_state) (d_is_from_to : DefD P w K mg base G 3 "is_from_to" 3 F_is_from_to) (h : FunAt K mg "ran" s_ran ["program", "state", "most"]) : DefD P w K mg base G 7 "ran" 3 F_ran := by
  obtain ⟨f, fd, F, hm, hb⟩ := h.ex
  exact ⟨f, fd, ["program", "state", "most"], fn_ok (k := 6) F sc_ran (by decide) (fun cdv A outer s H E hr => have A : Amb G _ _ := amb_fn (k := 5) hK hw gok hr
    ds_cons (ds_expr (de_call A d_check_program hr (by decide) (da_cons (de_var 0) (da_nil))))
    (ds_cons (ds_expr (de_call A d_check_state hr (by decide) (da_cons (de_var 1) (da_nil))))
    (ds_cons (ds_if (dt_not (dt_truth A (de_call A d_is_from_to hr (by decide) (da_cons (de_var 2) (da_cons (de_int) (da_cons (de_gl T.c_MOST_DONE) (da_nil)))))))
    (ds_one (ds_raise (c := 5) rfl A T.er_BadNumber))
    (ds_nil))
    (ds_one (ds_ret (de_callG A d_after hr (by decide) (da_cons (de_var 0) (da_cons (de_var 1) (da_cons (de_var 2) (da_nil)))))))))), hm, F.kp, hb⟩
abbrev s_ended : Stmt := top 35
def S_ended : FS := sSeq (sExpr (xCall F_check_program 1 (aCons (xVar 0) (aNil))))
  (sSeq (sExpr (xCall F_check_state 1 (aCons (xVar 1) (aNil))))
  (sSeq (sAsg (gTp 3 (gsC (gNm 2) (gsC (gNm 3) (gsC (gNm 4) (gsN))))) (xCall (gcF F_after) 3 (aCons (xVar 0) (aCons (xVar 1) (aCons (xC k_MOST_DONE) (aNil))))))
  (sSeq (sIf (tBl (x2 (fLtF) (xVar 3) (xB cLen (aCons (xVar 0) (aNil)))))
  (sRaiseI 6 "most" (xC k_MOST_DONE))
  (sNil))
  (sRet (xTup (aCons (xVar 2) (aCons (xVar 4) (aNil))))))))
def F_ended : FF := dFun 5 2 S_ended
theorem sc_ended : FnScope ["program", "state", "last", "coming", "done"] ["program", "state"] (defScope s_ended) := ⟨rfl, rfl, rfl, by decide +kernel, rfl, by decide +kernel, by decide +kernel⟩
theorem ok_ended {P : Program} {w : World} {K : PySem.W.Frag} {mg : Str → Option Value} {base : Heap} {G : Gx} (hK : K = G.K) (hw : w = G.w) (gok : G.Ok) (T : Tx P K mg G) (d_after : DefD P w K mg base G 5 "after" 3 F_after) (d_check_program : DefD P w K mg base G 5 "check_program" 1 F_check_program) (d_check_state : DefD P w K mg base G 6 "check_state" 1 F_check_state) (h : FunAt K mg "ended" s_ended ["program", "state"]) : DefD P w K mg base G 7 "ended" 2 F_ended := by
  obtain ⟨f, fd, F, hm, hb⟩ := h.ex
  exact ⟨f, fd, ["program", "state"], fn_ok (k := 6) F sc_ended (by decide) (fun cdv A outer s H E hr => have A : Amb G _ _ := amb_fn (k := 5) hK hw gok hr
    ds_cons (ds_expr (de_call A d_check_program hr (by decide) (da_cons (de_var 0) (da_nil))))
    (ds_cons (ds_expr (de_call A d_check_state hr (by decide) (da_cons (de_var 1) (da_nil))))
    (ds_cons (ds_asg (vs := [2, 3, 4]) (dg_tup rfl A (dgs_cons (dg_name 2 sc_ended.nd) (dgs_cons (dg_name 3 sc_ended.nd) (dgs_cons (dg_name 4 sc_ended.nd) (dgs_nil))))) (de_callG A d_after hr (by decide) (da_cons (de_var 0) (da_cons (de_var 1) (da_cons (de_gl T.c_MOST_DONE) (da_nil))))))
    (ds_cons (ds_if (dt_c (c_ltF A) (de_var 3) (de_len A T.b_len (da_cons (de_var 0) (da_nil))))
    (ds_one (ds_raiseX (c := 6) rfl A T.in_TooLong (hr.mono (by decide)) (de_gl T.c_MOST_DONE)))
    (ds_nil))
    (ds_one (ds_ret (de_tup A (da_cons (de_var 2) (da_cons (de_var 4) (da_nil)))))))))), hm, F.kp, hb⟩
abbrev s__law_alike : Stmt := top 43
def S__law_alike (F : FF) : FS := sSeq (sIf (tTru (xIsi (xVar 1) ["tuple", "list"]))
  (sSeq (sIf (tOrF (tNotF (tTru (xIsi (xVar 0) ["tuple", "list"]))) (tBl (x2 (fEqF true) (xIsi (xVar 0) ["list"]) (xIsi (xVar 1) ["list"]))))
  (sRet (xC (.bl false)))
  (sNil))
  (sSeq (sIf (tBl (x2 (fEqF true) (xB cLen (aCons (xVar 0) (aNil))) (xB cLen (aCons (xVar 1) (aNil)))))
  (sRet (xC (.bl false)))
  (sNil))
  (sRet (x2 (fEqF false) (xLcF [2] (iR1 (aCons (xB cLen (aCons (xVar 1) (aNil))) (aNil))) (gNm 2) (tNotF (tTru (xCall F 2 (aCons (x2 fIx (xVar 0) (xVar 2)) (aCons (x2 fIx (xVar 1) (xVar 2)) (aNil)))))) (xVar 2)) (xLstF (aNil))))))
  (sNil))
  (sSeq (sIf (tOrF (tBl (x2 (fIs false) (xVar 1) (xC .non))) (tTru (xIsi (xVar 1) ["str"])))
  (sRet (xAnd (x2 (fEqF false) (xVar 0) (xVar 1)) (x2 (fEqF false) (xIsi (xVar 0) ["str"]) (xIsi (xVar 1) ["str"]))))
  (sNil))
  (sRet (xAnd (xIsi (xVar 0) ["int"]) (xAnd (x2 (fEqF false) (xIsi (xVar 0) ["bool"]) (xIsi (xVar 1) ["bool"])) (x2 (fEqF false) (xVar 0) (xVar 1))))))
def F__law_alike : Nat → FF
  | 0 => fun _ _ => .stuck
  | fuel + 1 => dFun 3 2 (S__law_alike (F__law_alike fuel))
theorem sc__law_alike : FnScope ["found", "due", "k"] ["found", "due"] (defScope s__law_alike) := ⟨rfl, rfl, rfl, by decide +kernel, rfl, by decide +kernel, by decide +kernel⟩
theorem ok__law_alike {P : Program} {w : World} {K : PySem.W.Frag} {mg : Str → Option Value} {base : Heap} {G : Gx} (hK : K = G.K) (hw : w = G.w) (gok : G.Ok) (T : Tx P K mg G)  (h : FunAt K mg "_law_alike" s__law_alike ["found", "due"]) : ∀ fuel : Nat, DefD P w K mg base G (2 + fuel) "_law_alike" 2 (F__law_alike fuel)
  | 0 => by
    obtain ⟨f, fd, F, hm, hb⟩ := h.ex
    exact ⟨f, fd, ["found", "due"], fn_stuck rfl, hm, F.kp, hb⟩
  | fuel + 1 => by
    have d__law_alike := ok__law_alike (P := P) (w := w) (base := base) hK hw gok T  h fuel
    obtain ⟨f, fd, F, hm, hb⟩ := h.ex
    exact ⟨f, fd, ["found", "due"], fn_ok (k := 2 + fuel) F sc__law_alike (by decide) (fun cdv A outer s H E hr => have A : Amb G _ _ := amb_fn (k := 1 + fuel) hK hw gok (hr.mono (by omega))
    ds_cons (ds_if (dt_truth A (de_isi2 (u := "tuple") (u2 := "list") A T.b_isinstance (de_var 1) T.b_tuple (by exact PyProof.Rows.boot_tuple) T.b_list (by exact PyProof.Rows.boot_list)))
    (ds_cons (ds_if (dt_w (dw_or (dt_not (dt_truth A (de_isi2 (u := "tuple") (u2 := "list") A T.b_isinstance (de_var 0) T.b_tuple (by exact PyProof.Rows.boot_tuple) T.b_list (by exact PyProof.Rows.boot_list)))) (dw_or1 (dt_c (c_neF A) (de_isi (u := "list") A T.b_isinstance (de_var 0) T.b_list (by first | exact PyProof.Rows.boot_list | decide +kernel)) (de_isi (u := "list") A T.b_isinstance (de_var 1) T.b_list (by first | exact PyProof.Rows.boot_list | decide +kernel))))))
    (ds_one (ds_ret (de_bl)))
    (ds_nil))
    (ds_cons (ds_if (dt_c (c_neF A) (de_len A T.b_len (da_cons (de_var 0) (da_nil))) (de_len A T.b_len (da_cons (de_var 1) (da_nil))))
    (ds_one (ds_ret (de_bl)))
    (ds_nil))
    (ds_one (ds_ret (de_c (c_eqF A) (de_lcF (own := [("k", 2)]) rfl sc__law_alike.nd A (di_range1 T.b_range (da_cons (de_len A T.b_len (da_cons (de_var 1) (da_nil))) (da_nil))) (blkOk_by (N := ["found", "due", "k"]) (sc := defScope s__law_alike) (by decide +kernel)) (fun _ _ _ _ _ => dg_name 2 sc__law_alike.nd) (fun _ _ _ _ _ => dts_one (dt_not (dt_truth A.blk (de_call A.blk d__law_alike hr (Nat.le_refl _) (da_cons (de_sub' A.blk (de_var 0) (de_var 2)) (da_cons (de_sub' A.blk (de_var 1) (de_var 2)) (da_nil))))))) (fun _ _ _ _ _ => de_var 2)) (de_lstF A (da_nil)))))))
    (ds_nil))
    (ds_cons (ds_if (dt_w (dw_or (dt_c (c_is A) (de_var 1) (de_non)) (dw_or1 (dt_truth A (de_isi (u := "str") A T.b_isinstance (de_var 1) T.b_str (by first | exact PyProof.Rows.boot_str | decide +kernel))))))
    (ds_one (ds_ret (de_and A (de_c (c_eqF A) (de_var 0) (de_var 1)) (de_one (de_c (c_eqF A) (de_isi (u := "str") A T.b_isinstance (de_var 0) T.b_str (by first | exact PyProof.Rows.boot_str | decide +kernel)) (de_isi (u := "str") A T.b_isinstance (de_var 1) T.b_str (by first | exact PyProof.Rows.boot_str | decide +kernel)))))))
    (ds_nil))
    (ds_one (ds_ret (de_and A (de_isi (u := "int") A T.b_isinstance (de_var 0) T.b_int (by first | exact PyProof.Rows.boot_int | decide +kernel)) (de_and A (de_c (c_eqF A) (de_isi (u := "bool") A T.b_isinstance (de_var 0) T.b_bool (by first | exact PyProof.Rows.boot_bool | decide +kernel)) (de_isi (u := "bool") A T.b_isinstance (de_var 1) T.b_bool (by first | exact PyProof.Rows.boot_bool | decide +kernel))) (de_one (de_c (c_eqF A) (de_var 0) (de_var 1))))))))), hm, F.kp, hb⟩
abbrev s_law : Stmt := top 52
noncomputable def bodies_law : Nat → FE
  | 0 => xCall F_written_by 1 (aCons (xVar 10) (aNil))
  | 1 => xCall F_used_by 1 (aCons (xVar 10) (aNil))
  | 2 => xCall F_ran 3 (aCons (x2 fAddF (x2 fAddF (xSlF (xVar 2) (oNone) (oSome (xVar 12))) (xTup (aCons (xVar 10) (aNil)))) (xSlF (xVar 2) (oSome (xVar 12)) (oNone))) (aCons (xC .non) (aCons (xC (.int 0)) (aNil))))
  | 3 => xCall F_ended 2 (aCons (x2 fAddF (xSlF (xVar 2) (oNone) (oSome (xVar 12))) (xTup (aCons (xVar 10) (aNil)))) (aCons (xC .non) (aNil)))
  | 4 => xCall F_ended 2 (aCons (xVar 2) (aCons (xVar 3) (aNil)))
  | 5 => xCall F_ran 3 (aCons (xCall F__law_pick 2 (aCons (xVar 1) (aCons (xLstF (aCons (xC .non) (aCons (xLstF (aNil)) (aCons (x2 fMulFF (xTup (aCons (xTup (aCons (xC (.str "show")) (aCons (xC (.int 0)) (aNil)))) (aNil))) (xC (.int 41))) (aNil))))) (aNil)))) (aCons (xC .non) (aCons (xC (.int 0)) (aNil))))
  | 6 => xCall F_ran 3 (aCons (xVar 2) (aCons (x2 fIx (xVar 9) (xCall F__law_taken 2 (aCons (xVar 1) (aCons (xC (.int 7)) (aNil))))) (aCons (xC (.int 0)) (aNil))))
  | 7 => xCall F_ran 3 (aCons (xVar 2) (aCons (xVar 3) (aCons (xCall F__law_pick 2 (aCons (xVar 1) (aCons (xLstF (aCons (xNeg (xC (.int 1))) (aCons (xC (.int 501)) (aCons (xC .non) (aCons (xC (.bl true)) (aCons (xC (.str "1")) (aNil))))))) (aNil)))) (aNil))))
  | _ => fun _ _ => .stuck
noncomputable def S_law : FS := sSeq (sSet 1 (xLst (aCons (xVar 0) (aCons (xC (.int 0)) (aCons (xC (.int 14393)) (aCons (xC (.int 0)) (aNil)))))))
  (sSeq (sAsg (gTp 2 (gsC (gNm 2) (gsC (gNm 3) (gsN)))) (xTup (aCons (xCall F__law_program 2 (aCons (xVar 1) (aCons (xC (.int 20)) (aNil)))) (aCons (xCall F__law_state 1 (aCons (xVar 1) (aNil))) (aNil)))))
  (sSeq (sSet 4 (xCall F__law_pick 2 (aCons (xVar 1) (aCons (xLstF (aCons (xC (.int 0)) (aCons (xC (.int 1)) (aCons (xC (.int 7)) (aCons (xC (.int 40)) (aCons (xC (.int 500)) (aNil))))))) (aNil)))))
  (sSeq (sIf (tNotF (tTru (xCall (F__law_alike rfuel) 2 (aCons (xCall F_ran 3 (aCons (xVar 2) (aCons (xVar 3) (aCons (xVar 4) (aNil))))) (aCons (xCall (gcF F__law_plain) 3 (aCons (xVar 2) (aCons (xVar 3) (aCons (xVar 4) (aNil))))) (aNil))))))
  (sRet (xC (.bl false)))
  (sNil))
  (sSeq (sAsg (gTp 3 (gsC (gNm 5) (gsC (gNm 6) (gsC (gNm 7) (gsN))))) (xCall (gcF F__law_plain) 3 (aCons (xVar 2) (aCons (xVar 3) (aCons (xC (.int 500)) (aNil))))))
  (sSeq (sIf (tBl (x2 (fEqF true) (xCallA F__law_told bodies_law (aCons (xC (.clo 4)) (aNil))) (xIf (tBl (x2 (fLtF) (xVar 6) (xB cLen (aCons (xVar 2) (aNil))))) (xC (.str "long")) (xTup (aCons (xVar 5) (aCons (xVar 7) (aNil)))))))
  (sRet (xC (.bl false)))
  (sNil))
  (sSeq (sFor (iSrc (xVar 2)) (gNm 8)
  (sSeq (sIf (tOrF (tBl (x2 (fIs true) (xCall F_is_instruction 1 (aCons (xVar 8) (aNil))) (xC (.bl true)))) (tNotF (tTru (xCall (F__law_alike rfuel) 2 (aCons (xCall F_written_by 1 (aCons (xVar 8) (aNil))) (aCons (xCall F__law_writes 1 (aCons (xVar 8) (aNil))) (aNil)))))))
  (sRet (xC (.bl false)))
  (sNil))
  (sIf (tNotF (tTru (xCall (F__law_alike rfuel) 2 (aCons (xCall F_used_by 1 (aCons (xVar 8) (aNil))) (aCons (xB cTuple (aCons (xCall F__law_uses 1 (aCons (xVar 8) (aNil))) (aNil))) (aNil))))))
  (sRet (xC (.bl false)))
  (sNil))))
  (sSeq (sSet 9 (xLstF (aCons (xC .non) (aCons (xTup (aNil)) (aCons (xTup (aCons (xC (.str "set")) (aCons (xC (.int 0)) (aNil)))) (aCons (xTup (aCons (xC (.str "set")) (aCons (xC (.int 8)) (aCons (xC (.int 0)) (aNil))))) (aCons (xTup (aCons (xC (.str "set")) (aCons (xC (.int 0)) (aCons (xC (.int 256)) (aNil))))) (aCons (xTup (aCons (xC (.str "sum")) (aCons (xC (.int 0)) (aCons (xC (.int 1)) (aCons (xC (.int 2)) (aNil)))))) (aCons (xTup (aCons (xC (.str "sum")) (aCons (xC (.int 0)) (aCons (xC (.int 1)) (aCons (xC (.int 8)) (aCons (xC (.int 0)) (aNil))))))) (aCons (xTup (aCons (xC (.str "get")) (aCons (xC (.int 0)) (aCons (xC (.int 1)) (aCons (xC (.int 8)) (aNil)))))) (aCons (xTup (aCons (xC (.str "put")) (aCons (xC (.int 0)) (aCons (xC (.int 1)) (aNil))))) (aNil))))))))))))
  (sSeq (sSet 9 (x2 fAddF (xVar 9) (xLstF (aCons (xTup (aCons (xC (.str "if")) (aCons (xC (.int 0)) (aCons (xC (.int 41)) (aNil))))) (aCons (xTup (aCons (xC (.str "if")) (aCons (xC (.int 0)) (aCons (xNeg (xC (.int 1))) (aNil))))) (aCons (xTup (aCons (xC (.str "show")) (aNil))) (aCons (xTup (aCons (xC (.str "show")) (aCons (xC (.int 8)) (aNil)))) (aCons (xLstF (aCons (xC (.str "show")) (aCons (xC (.int 0)) (aNil)))) (aCons (xTup (aCons (xC (.str "hop")) (aCons (xC (.int 0)) (aNil)))) (aCons (xC (.str "set")) (aCons (xTup (aCons (xC (.str "show")) (aCons (xC (.bl true)) (aNil)))) (aCons (xTup (aCons (xC (.str "sum")) (aCons (xC (.int 0)) (aCons (xC (.int 0)) (aCons (xC (.int 0)) (aCons (xC .non) (aNil))))))) (aNil)))))))))))))
  (sSeq (sSet 10 (x2 fIx (xVar 9) (xCall F__law_taken 2 (aCons (xVar 1) (aCons (xB cLen (aCons (xVar 9) (aNil))) (aNil))))))
  (sSeq (sSet 11 (xLstF (aCons (xC (.clo 0)) (aCons (xC (.clo 1)) (aNil)))))
  (sSeq (sIf (tOrF (tBl (x2 (fIs true) (xCall F_is_instruction 1 (aCons (xVar 10) (aNil))) (xC (.bl false)))) (tBl (x2 (fEqF true) (xCallA F__law_wrong bodies_law (aCons (x2 fIx (xVar 11) (xCall F__law_taken 2 (aCons (xVar 1) (aCons (xC (.int 2)) (aNil))))) (aNil))) (xC (.str "instruction")))))
  (sRet (xC (.bl false)))
  (sNil))
  (sSeq (sSet 12 (xCall F__law_taken 2 (aCons (xVar 1) (aCons (x2 fAddF (xB cLen (aCons (xVar 2) (aNil))) (xC (.int 1))) (aNil)))))
  (sSeq (sSet 11 (xLstF (aCons (xC (.clo 2)) (aCons (xC (.clo 3)) (aNil)))))
  (sSeq (sIf (tAndF (tBl (x2 (fEqF true) (xCallA F__law_wrong bodies_law (aCons (x2 fIx (xVar 11) (xCall F__law_taken 2 (aCons (xVar 1) (aCons (xC (.int 2)) (aNil))))) (aNil))) (xTup (aCons (xC (.str "program")) (aCons (xVar 12) (aNil)))))) (tNotF (tTru (xLcF [8] (iSrc (xVar 2)) (gNm 8) (tBl (x2 (fEqF false) (x2 fIx (xVar 8) (xC (.int 0))) (xC (.str "if")))) (xVar 8)))))
  (sRet (xC (.bl false)))
  (sNil))
  (sSeq (sIf (tBl (x2 (fEqF true) (xCallA F__law_wrong bodies_law (aCons (xC (.clo 5)) (aNil))) (xTup (aCons (xC (.str "program")) (aCons (xC .non) (aNil))))))
  (sRet (xC (.bl false)))
  (sNil))
  (sSeq (sSet 9 (xLstF (aCons (xC .non) (aCons (xTup (aNil)) (aCons (xSlF (xVar 3) (oNone) (oSome (xC (.int 2)))) (aCons (x2 fAddF (xTup (aCons (xSlF (x2 fIx (xVar 3) (xC (.int 0))) (oNone) (oSome (xC (.int 7)))) (aNil))) (xSlF (xVar 3) (oSome (xC (.int 1))) (oNone))) (aCons (xTup (aCons (x2 fIx (xVar 3) (xC (.int 0))) (aCons (xSlF (x2 fIx (xVar 3) (xC (.int 1))) (oNone) (oSome (xC (.int 7)))) (aCons (xTup (aNil)) (aNil))))) (aCons (xTup (aCons (x2 fIx (xVar 3) (xC (.int 0))) (aCons (x2 fIx (xVar 3) (xC (.int 1))) (aCons (xTup (aCons (xC (.int 256)) (aNil))) (aNil))))) (aCons (xB cListF (aCons (xVar 3) (aNil))) (aNil))))))))))
  (sSeq (sIf (tBl (x2 (fEqF true) (xCallA F__law_wrong bodies_law (aCons (xC (.clo 6)) (aNil))) (xC (.str "state"))))
  (sRet (xC (.bl false)))
  (sNil))
  (sRet (x2 (fEqF false) (xCallA F__law_wrong bodies_law (aCons (xC (.clo 7)) (aNil))) (xC (.str "number")))))))))))))))))))))
noncomputable def F_law : FF := dFun 13 1 S_law
def spec_law : List LSpec := [wLam (wE (wElts (wAsg (wS (defBody s_law) 10))) 0), wLam (wE (wElts (wAsg (wS (defBody s_law) 10))) 1), wLam (wE (wElts (wAsg (wS (defBody s_law) 13))) 0), wLam (wE (wElts (wAsg (wS (defBody s_law) 13))) 1), wLam (wE (wArgs (wCmpL (wTest (wS (defBody s_law) 5)))) 0), wLam (wE (wArgs (wCmpL (wTest (wS (defBody s_law) 15)))) 0), wLam (wE (wArgs (wCmpL (wTest (wS (defBody s_law) 17)))) 0), wLam (wE (wArgs (wCmpL (wRet (wS (defBody s_law) 18)))) 0)]
def qL : Str := (PyProof.Rows.envOfC "law" (defScope s_law) 0 0 .none).qual ++ "<lambda>"
theorem sc_law : FnScope ["script", "row", "program", "state", "most", "last", "at", "done", "one", "odd", "bad", "works", "spot"] ["script"] (defScope s_law) := ⟨rfl, rfl, rfl, by decide +kernel, rfl, by decide +kernel, by decide +kernel⟩
theorem ok_law {P : Program} {w : World} {K : PySem.W.Frag} {mg : Str → Option Value} {base : Heap} {cls : Nat → Addr} {Pt c : Addr} (TB0 : TabB base mg c Pt) (T : ∀ cells, Tx P K mg (lamG K w cls qL Pt cells spec_law))
  (h_is_integer : FunAt K mg "is_integer" s_is_integer ["value"])
  (h_register_written : FunAt K mg "register_written" s_register_written ["instruction"])
  (h_registers_used : FunAt K mg "registers_used" s_registers_used ["instruction"])
  (h_cell_told : FunAt K mg "cell_told" s_cell_told ["instruction", "words"])
  (h__law_taken : FunAt K mg "_law_taken" s__law_taken ["row", "many"])
  (h__law_writes : FunAt K mg "_law_writes" s__law_writes ["one"])
  (h__law_uses : FunAt K mg "_law_uses" s__law_uses ["one"])
  (h__law_told : FunAt K mg "_law_told" s__law_told ["work"])
  (h__law_wrong : FunAt K mg "_law_wrong" s__law_wrong ["work"])
  (h_Store___init__ : FunOf K (cls 0) "__init__" "Store.__init__" s_Store___init__ ["self", "state"])
  (hc_Store : mg "Store" = some (.ref (cls 0))) (hm_Store : PySem.W.makesIn K (cls 0) = true) (hk_Store : PySem.W.keepIn K (.ref (cls 0)) = true)
  (h_Store_show : FunOf K (cls 0) "show" "Store.show" s_Store_show ["self", "word"])
  (h_Store_told : FunOf K (cls 0) "told" "Store.told" s_Store_told ["self"])
  (h_is_from_to : FunAt K mg "is_from_to" s_is_from_to ["value", "least", "most"])
  (h_result : FunAt K mg "result" s_result ["store", "instruction", "words"])
  (h__law_pick : FunAt K mg "_law_pick" s__law_pick ["row", "kinds"])
  (h__law_plain : FunAt K mg "_law_plain" s__law_plain ["program", "state", "most"])
  (h_is_instruction_among : FunAt K mg "is_instruction_among" s_is_instruction_among ["value", "many"])
  (h_are_words : FunAt K mg "are_words" s_are_words ["value", "least", "most"])
  (h_step : FunAt K mg "step" s_step ["store", "instruction", "number"])
  (h__law_instruction : FunAt K mg "_law_instruction" s__law_instruction ["row", "most"])
  (h__law_state : FunAt K mg "_law_state" s__law_state ["row"])
  (h_is_instruction : FunAt K mg "is_instruction" s_is_instruction ["value"])
  (h_check_program : FunAt K mg "check_program" s_check_program ["value"])
  (h_is_state : FunAt K mg "is_state" s_is_state ["value"])
  (h_after : FunAt K mg "after" s_after ["program", "state", "most"])
  (h__law_program : FunAt K mg "_law_program" s__law_program ["row", "most"])
  (h_check_instruction : FunAt K mg "check_instruction" s_check_instruction ["value"])
  (h_check_state : FunAt K mg "check_state" s_check_state ["value"])
  (h_written_by : FunAt K mg "written_by" s_written_by ["instruction"])
  (h_used_by : FunAt K mg "used_by" s_used_by ["instruction"])
  (h_ran : FunAt K mg "ran" s_ran ["program", "state", "most"])
  (h_ended : FunAt K mg "ended" s_ended ["program", "state"])
  (h__law_alike : FunAt K mg "_law_alike" s__law_alike ["found", "due"])
  {f : Addr} {fd : FuncData} (F : Fun K "law" "law" s_law f fd) (hcode : fd.code = .ref c) (hl : ∀ ns : List Int, ns.length ≤ 63 → ∃ S, F_law [.slist ns] [] = .ok (.bl true) S) : FnOk P w K mg base (L2.CX P w) 10 f fd ["script"] (spLawT 63 K Pt) := by
  refine law_fnL (k := 9) (q := qL) (spec := spec_law) (cls := cls) (N := ["script", "row", "program", "state", "most", "last", "at", "done", "one", "odd", "bad", "works", "spot"]) F sc_law hcode (by decide) hl fun Ar outer s H E hr => ?_
  have gok := lamG_ok K w cls qL Pt (cxOf (L2.CX P w) P w K mg base ["script", "row", "program", "state", "most", "last", "at", "done", "one", "odd", "bad", "works", "spot"] "law" (defScope s_law) f (.ref c) Ar outer s H E).env.cells spec_law
  have T := T (cxOf (L2.CX P w) P w K mg base ["script", "row", "program", "state", "most", "last", "at", "done", "one", "odd", "bad", "works", "spot"] "law" (defScope s_law) f (.ref c) Ar outer s H E).env.cells
  have d_is_integer := ok_is_integer (P := P) (w := w) (base := base) (G := (lamG K w cls qL Pt (cxOf (L2.CX P w) P w K mg base ["script", "row", "program", "state", "most", "last", "at", "done", "one", "odd", "bad", "works", "spot"] "law" (defScope s_law) f (.ref c) Ar outer s H E).env.cells spec_law)) rfl rfl gok T  h_is_integer
  have d_register_written := ok_register_written (P := P) (w := w) (base := base) (G := (lamG K w cls qL Pt (cxOf (L2.CX P w) P w K mg base ["script", "row", "program", "state", "most", "last", "at", "done", "one", "odd", "bad", "works", "spot"] "law" (defScope s_law) f (.ref c) Ar outer s H E).env.cells spec_law)) rfl rfl gok T  h_register_written
  have d_registers_used := ok_registers_used (P := P) (w := w) (base := base) (G := (lamG K w cls qL Pt (cxOf (L2.CX P w) P w K mg base ["script", "row", "program", "state", "most", "last", "at", "done", "one", "odd", "bad", "works", "spot"] "law" (defScope s_law) f (.ref c) Ar outer s H E).env.cells spec_law)) rfl rfl gok T  h_registers_used
  have d_cell_told := ok_cell_told (P := P) (w := w) (base := base) (G := (lamG K w cls qL Pt (cxOf (L2.CX P w) P w K mg base ["script", "row", "program", "state", "most", "last", "at", "done", "one", "odd", "bad", "works", "spot"] "law" (defScope s_law) f (.ref c) Ar outer s H E).env.cells spec_law)) rfl rfl gok T  h_cell_told
  have d__law_taken := ok__law_taken (P := P) (w := w) (base := base) (G := (lamG K w cls qL Pt (cxOf (L2.CX P w) P w K mg base ["script", "row", "program", "state", "most", "last", "at", "done", "one", "odd", "bad", "works", "spot"] "law" (defScope s_law) f (.ref c) Ar outer s H E).env.cells spec_law)) rfl rfl gok T  h__law_taken
  have d__law_writes := ok__law_writes (P := P) (w := w) (base := base) (G := (lamG K w cls qL Pt (cxOf (L2.CX P w) P w K mg base ["script", "row", "program", "state", "most", "last", "at", "done", "one", "odd", "bad", "works", "spot"] "law" (defScope s_law) f (.ref c) Ar outer s H E).env.cells spec_law)) rfl rfl gok T  h__law_writes
  have d__law_uses := ok__law_uses (P := P) (w := w) (base := base) (G := (lamG K w cls qL Pt (cxOf (L2.CX P w) P w K mg base ["script", "row", "program", "state", "most", "last", "at", "done", "one", "odd", "bad", "works", "spot"] "law" (defScope s_law) f (.ref c) Ar outer s H E).env.cells spec_law)) rfl rfl gok T  h__law_uses
  have d__law_told := ok__law_told (P := P) (w := w) (base := base) (G := (lamG K w cls qL Pt (cxOf (L2.CX P w) P w K mg base ["script", "row", "program", "state", "most", "last", "at", "done", "one", "odd", "bad", "works", "spot"] "law" (defScope s_law) f (.ref c) Ar outer s H E).env.cells spec_law)) (k := 7) rfl rfl gok T  h__law_told
  have d__law_wrong := ok__law_wrong (P := P) (w := w) (base := base) (G := (lamG K w cls qL Pt (cxOf (L2.CX P w) P w K mg base ["script", "row", "program", "state", "most", "last", "at", "done", "one", "odd", "bad", "works", "spot"] "law" (defScope s_law) f (.ref c) Ar outer s H E).env.cells spec_law)) (k := 7) rfl rfl gok T  h__law_wrong
  have d_Store___init__ := ok_Store___init__ (P := P) (w := w) (base := base) (G := (lamG K w cls qL Pt (cxOf (L2.CX P w) P w K mg base ["script", "row", "program", "state", "most", "last", "at", "done", "one", "odd", "bad", "works", "spot"] "law" (defScope s_law) f (.ref c) Ar outer s H E).env.cells spec_law)) rfl rfl gok T  h_Store___init__ hc_Store hm_Store hk_Store
  have d_Store_show := ok_Store_show (P := P) (w := w) (base := base) (G := (lamG K w cls qL Pt (cxOf (L2.CX P w) P w K mg base ["script", "row", "program", "state", "most", "last", "at", "done", "one", "odd", "bad", "works", "spot"] "law" (defScope s_law) f (.ref c) Ar outer s H E).env.cells spec_law)) rfl rfl gok T  h_Store_show
  have d_Store_told := ok_Store_told (P := P) (w := w) (base := base) (G := (lamG K w cls qL Pt (cxOf (L2.CX P w) P w K mg base ["script", "row", "program", "state", "most", "last", "at", "done", "one", "odd", "bad", "works", "spot"] "law" (defScope s_law) f (.ref c) Ar outer s H E).env.cells spec_law)) rfl rfl gok T  h_Store_told
  have d_is_from_to := ok_is_from_to (P := P) (w := w) (base := base) (G := (lamG K w cls qL Pt (cxOf (L2.CX P w) P w K mg base ["script", "row", "program", "state", "most", "last", "at", "done", "one", "odd", "bad", "works", "spot"] "law" (defScope s_law) f (.ref c) Ar outer s H E).env.cells spec_law)) rfl rfl gok T d_is_integer h_is_from_to
  have d_result := ok_result (P := P) (w := w) (base := base) (G := (lamG K w cls qL Pt (cxOf (L2.CX P w) P w K mg base ["script", "row", "program", "state", "most", "last", "at", "done", "one", "odd", "bad", "works", "spot"] "law" (defScope s_law) f (.ref c) Ar outer s H E).env.cells spec_law)) rfl rfl gok T d_cell_told h_result
  have d__law_pick := ok__law_pick (P := P) (w := w) (base := base) (G := (lamG K w cls qL Pt (cxOf (L2.CX P w) P w K mg base ["script", "row", "program", "state", "most", "last", "at", "done", "one", "odd", "bad", "works", "spot"] "law" (defScope s_law) f (.ref c) Ar outer s H E).env.cells spec_law)) rfl rfl gok T d__law_taken h__law_pick
  have d__law_plain := ok__law_plain (P := P) (w := w) (base := base) (G := (lamG K w cls qL Pt (cxOf (L2.CX P w) P w K mg base ["script", "row", "program", "state", "most", "last", "at", "done", "one", "odd", "bad", "works", "spot"] "law" (defScope s_law) f (.ref c) Ar outer s H E).env.cells spec_law)) rfl rfl gok T d__law_uses h__law_plain
  have d_is_instruction_among := ok_is_instruction_among (P := P) (w := w) (base := base) (G := (lamG K w cls qL Pt (cxOf (L2.CX P w) P w K mg base ["script", "row", "program", "state", "most", "last", "at", "done", "one", "odd", "bad", "works", "spot"] "law" (defScope s_law) f (.ref c) Ar outer s H E).env.cells spec_law)) rfl rfl gok T d_is_from_to h_is_instruction_among
  have d_are_words := ok_are_words (P := P) (w := w) (base := base) (G := (lamG K w cls qL Pt (cxOf (L2.CX P w) P w K mg base ["script", "row", "program", "state", "most", "last", "at", "done", "one", "odd", "bad", "works", "spot"] "law" (defScope s_law) f (.ref c) Ar outer s H E).env.cells spec_law)) rfl rfl gok T d_is_from_to h_are_words
  have d_step := ok_step (P := P) (w := w) (base := base) (G := (lamG K w cls qL Pt (cxOf (L2.CX P w) P w K mg base ["script", "row", "program", "state", "most", "last", "at", "done", "one", "odd", "bad", "works", "spot"] "law" (defScope s_law) f (.ref c) Ar outer s H E).env.cells spec_law)) rfl rfl gok T d_Store_show d_cell_told d_register_written d_registers_used d_result h_step
  have d__law_instruction := ok__law_instruction (P := P) (w := w) (base := base) (G := (lamG K w cls qL Pt (cxOf (L2.CX P w) P w K mg base ["script", "row", "program", "state", "most", "last", "at", "done", "one", "odd", "bad", "works", "spot"] "law" (defScope s_law) f (.ref c) Ar outer s H E).env.cells spec_law)) rfl rfl gok T d__law_pick d__law_taken h__law_instruction
  have d__law_state := ok__law_state (P := P) (w := w) (base := base) (G := (lamG K w cls qL Pt (cxOf (L2.CX P w) P w K mg base ["script", "row", "program", "state", "most", "last", "at", "done", "one", "odd", "bad", "works", "spot"] "law" (defScope s_law) f (.ref c) Ar outer s H E).env.cells spec_law)) rfl rfl gok T d__law_pick d__law_taken h__law_state
  have d_is_instruction := ok_is_instruction (P := P) (w := w) (base := base) (G := (lamG K w cls qL Pt (cxOf (L2.CX P w) P w K mg base ["script", "row", "program", "state", "most", "last", "at", "done", "one", "odd", "bad", "works", "spot"] "law" (defScope s_law) f (.ref c) Ar outer s H E).env.cells spec_law)) rfl rfl gok T d_is_instruction_among h_is_instruction
  have d_check_program := ok_check_program (P := P) (w := w) (base := base) (G := (lamG K w cls qL Pt (cxOf (L2.CX P w) P w K mg base ["script", "row", "program", "state", "most", "last", "at", "done", "one", "odd", "bad", "works", "spot"] "law" (defScope s_law) f (.ref c) Ar outer s H E).env.cells spec_law)) rfl rfl gok T d_is_instruction_among h_check_program
  have d_is_state := ok_is_state (P := P) (w := w) (base := base) (G := (lamG K w cls qL Pt (cxOf (L2.CX P w) P w K mg base ["script", "row", "program", "state", "most", "last", "at", "done", "one", "odd", "bad", "works", "spot"] "law" (defScope s_law) f (.ref c) Ar outer s H E).env.cells spec_law)) rfl rfl gok T d_are_words h_is_state
  have d_after := ok_after (P := P) (w := w) (base := base) (G := (lamG K w cls qL Pt (cxOf (L2.CX P w) P w K mg base ["script", "row", "program", "state", "most", "last", "at", "done", "one", "odd", "bad", "works", "spot"] "law" (defScope s_law) f (.ref c) Ar outer s H E).env.cells spec_law)) rfl rfl gok T d_Store___init__ d_Store_told d_step h_after
  have d__law_program := ok__law_program (P := P) (w := w) (base := base) (G := (lamG K w cls qL Pt (cxOf (L2.CX P w) P w K mg base ["script", "row", "program", "state", "most", "last", "at", "done", "one", "odd", "bad", "works", "spot"] "law" (defScope s_law) f (.ref c) Ar outer s H E).env.cells spec_law)) rfl rfl gok T d__law_instruction d__law_taken h__law_program
  have d_check_instruction := ok_check_instruction (P := P) (w := w) (base := base) (G := (lamG K w cls qL Pt (cxOf (L2.CX P w) P w K mg base ["script", "row", "program", "state", "most", "last", "at", "done", "one", "odd", "bad", "works", "spot"] "law" (defScope s_law) f (.ref c) Ar outer s H E).env.cells spec_law)) rfl rfl gok T d_is_instruction h_check_instruction
  have d_check_state := ok_check_state (P := P) (w := w) (base := base) (G := (lamG K w cls qL Pt (cxOf (L2.CX P w) P w K mg base ["script", "row", "program", "state", "most", "last", "at", "done", "one", "odd", "bad", "works", "spot"] "law" (defScope s_law) f (.ref c) Ar outer s H E).env.cells spec_law)) rfl rfl gok T d_is_state h_check_state
  have d_written_by := ok_written_by (P := P) (w := w) (base := base) (G := (lamG K w cls qL Pt (cxOf (L2.CX P w) P w K mg base ["script", "row", "program", "state", "most", "last", "at", "done", "one", "odd", "bad", "works", "spot"] "law" (defScope s_law) f (.ref c) Ar outer s H E).env.cells spec_law)) rfl rfl gok T d_check_instruction d_register_written h_written_by
  have d_used_by := ok_used_by (P := P) (w := w) (base := base) (G := (lamG K w cls qL Pt (cxOf (L2.CX P w) P w K mg base ["script", "row", "program", "state", "most", "last", "at", "done", "one", "odd", "bad", "works", "spot"] "law" (defScope s_law) f (.ref c) Ar outer s H E).env.cells spec_law)) rfl rfl gok T d_check_instruction d_registers_used h_used_by
  have d_ran := ok_ran (P := P) (w := w) (base := base) (G := (lamG K w cls qL Pt (cxOf (L2.CX P w) P w K mg base ["script", "row", "program", "state", "most", "last", "at", "done", "one", "odd", "bad", "works", "spot"] "law" (defScope s_law) f (.ref c) Ar outer s H E).env.cells spec_law)) rfl rfl gok T d_after d_check_program d_check_state d_is_from_to h_ran
  have d_ended := ok_ended (P := P) (w := w) (base := base) (G := (lamG K w cls qL Pt (cxOf (L2.CX P w) P w K mg base ["script", "row", "program", "state", "most", "last", "at", "done", "one", "odd", "bad", "works", "spot"] "law" (defScope s_law) f (.ref c) Ar outer s H E).env.cells spec_law)) rfl rfl gok T d_after d_check_program d_check_state h_ended
  have d__law_alike := ok__law_alike (P := P) (w := w) (base := base) (G := (lamG K w cls qL Pt (cxOf (L2.CX P w) P w K mg base ["script", "row", "program", "state", "most", "last", "at", "done", "one", "odd", "bad", "works", "spot"] "law" (defScope s_law) f (.ref c) Ar outer s H E).env.cells spec_law)) rfl rfl gok T  h__law_alike rfuel
  have lw0 : LamW (wLam (wE (wElts (wAsg (wS (defBody s_law) 10))) 0)) := ⟨rfl, .inl rfl⟩
  have lp0 : LamP ["script", "row", "program", "state", "most", "last", "at", "done", "one", "odd", "bad", "works", "spot"] (defScope s_law) (wLam (wE (wElts (wAsg (wS (defBody s_law) 10))) 0)).scope := lamP_by (by decide +kernel)
  have lw1 : LamW (wLam (wE (wElts (wAsg (wS (defBody s_law) 10))) 1)) := ⟨rfl, .inr ⟨_, _, rfl⟩⟩
  have lp1 : LamP ["script", "row", "program", "state", "most", "last", "at", "done", "one", "odd", "bad", "works", "spot"] (defScope s_law) (wLam (wE (wElts (wAsg (wS (defBody s_law) 10))) 1)).scope := lamP_by (by decide +kernel)
  have lw2 : LamW (wLam (wE (wElts (wAsg (wS (defBody s_law) 13))) 0)) := ⟨rfl, .inl rfl⟩
  have lp2 : LamP ["script", "row", "program", "state", "most", "last", "at", "done", "one", "odd", "bad", "works", "spot"] (defScope s_law) (wLam (wE (wElts (wAsg (wS (defBody s_law) 13))) 0)).scope := lamP_by (by decide +kernel)
  have lw3 : LamW (wLam (wE (wElts (wAsg (wS (defBody s_law) 13))) 1)) := ⟨rfl, .inr ⟨_, _, rfl⟩⟩
  have lp3 : LamP ["script", "row", "program", "state", "most", "last", "at", "done", "one", "odd", "bad", "works", "spot"] (defScope s_law) (wLam (wE (wElts (wAsg (wS (defBody s_law) 13))) 1)).scope := lamP_by (by decide +kernel)
  have lw4 : LamW (wLam (wE (wArgs (wCmpL (wTest (wS (defBody s_law) 5)))) 0)) := ⟨rfl, .inl rfl⟩
  have lp4 : LamP ["script", "row", "program", "state", "most", "last", "at", "done", "one", "odd", "bad", "works", "spot"] (defScope s_law) (wLam (wE (wArgs (wCmpL (wTest (wS (defBody s_law) 5)))) 0)).scope := lamP_by (by decide +kernel)
  have lw5 : LamW (wLam (wE (wArgs (wCmpL (wTest (wS (defBody s_law) 15)))) 0)) := ⟨rfl, .inl rfl⟩
  have lp5 : LamP ["script", "row", "program", "state", "most", "last", "at", "done", "one", "odd", "bad", "works", "spot"] (defScope s_law) (wLam (wE (wArgs (wCmpL (wTest (wS (defBody s_law) 15)))) 0)).scope := lamP_by (by decide +kernel)
  have lw6 : LamW (wLam (wE (wArgs (wCmpL (wTest (wS (defBody s_law) 17)))) 0)) := ⟨rfl, .inl rfl⟩
  have lp6 : LamP ["script", "row", "program", "state", "most", "last", "at", "done", "one", "odd", "bad", "works", "spot"] (defScope s_law) (wLam (wE (wArgs (wCmpL (wTest (wS (defBody s_law) 17)))) 0)).scope := lamP_by (by decide +kernel)
  have lw7 : LamW (wLam (wE (wArgs (wCmpL (wRet (wS (defBody s_law) 18)))) 0)) := ⟨rfl, .inl rfl⟩
  have lp7 : LamP ["script", "row", "program", "state", "most", "last", "at", "done", "one", "odd", "bad", "works", "spot"] (defScope s_law) (wLam (wE (wArgs (wCmpL (wRet (wS (defBody s_law) 18)))) 0)).scope := lamP_by (by decide +kernel)
  have hL : ∀ (n : Nat) (L : LSpec), spec_law[n]? = some L → LamP (cxOf (L2.CX P w) P w K mg base ["script", "row", "program", "state", "most", "last", "at", "done", "one", "odd", "bad", "works", "spot"] "law" (defScope s_law) f (.ref c) Ar outer s H E).N (cxOf (L2.CX P w) P w K mg base ["script", "row", "program", "state", "most", "last", "at", "done", "one", "odd", "bad", "works", "spot"] "law" (defScope s_law) f (.ref c) Ar outer s H E).env.scope L.scope ∧ LamB qL L := by
    intro n L h
    match n, h with
    | 0, h => cases h; exact ⟨lp0, ⟨fun _ _ _ _ _ _ => rfl, fun h => absurd rfl h⟩⟩
    | 1, h => cases h; exact ⟨lp1, ⟨fun h => (nomatch h), fun _ cl c' t doc pm ctv v => ⟨"a", _, rfl, rfl, rfl⟩⟩⟩
    | 2, h => cases h; exact ⟨lp2, ⟨fun _ _ _ _ _ _ => rfl, fun h => absurd rfl h⟩⟩
    | 3, h => cases h; exact ⟨lp3, ⟨fun h => (nomatch h), fun _ cl c' t doc pm ctv v => ⟨"a", _, rfl, rfl, rfl⟩⟩⟩
    | 4, h => cases h; exact ⟨lp4, ⟨fun _ _ _ _ _ _ => rfl, fun h => absurd rfl h⟩⟩
    | 5, h => cases h; exact ⟨lp5, ⟨fun _ _ _ _ _ _ => rfl, fun h => absurd rfl h⟩⟩
    | 6, h => cases h; exact ⟨lp6, ⟨fun _ _ _ _ _ _ => rfl, fun h => absurd rfl h⟩⟩
    | 7, h => cases h; exact ⟨lp7, ⟨fun _ _ _ _ _ _ => rfl, fun h => absurd rfl h⟩⟩
    | n + 8, h => exact absurd h (by simp [spec_law])
  have hbody : ∀ (n : Nat) (L : LSpec), spec_law[n]? = some L → ∀ (Al : Around) (outl : List Env) (sl : Shared) (Hl : Hp) (El : XK) (fl cl : Addr), Room 7 (Al.deeper (LamX.lamEnv (cxOf (L2.CX P w) P w K mg base ["script", "row", "program", "state", "most", "last", "at", "done", "one", "odd", "bad", "works", "spot"] "law" (defScope s_law) f (.ref c) Ar outer s H E) L.scope sl.heap.objs.size fl cl)) → PE (LamX.lamCx (cxOf (L2.CX P w) P w K mg base ["script", "row", "program", "state", "most", "last", "at", "done", "one", "odd", "bad", "works", "spot"] "law" (defScope s_law) f (.ref c) Ar outer s H E) Al outl sl Hl El L.scope fl cl) L.body (TD (lamG K w cls qL Pt (cxOf (L2.CX P w) P w K mg base ["script", "row", "program", "state", "most", "last", "at", "done", "one", "odd", "bad", "works", "spot"] "law" (defScope s_law) f (.ref c) Ar outer s H E).env.cells spec_law) (fun c d _ H' => El c d H') (bodies_law n)) := by
    intro n L h Al outl sl Hl El fl cl hr
    match n, h with
    | 0, h =>
      cases h
      have A := amb_lam (X := (cxOf (L2.CX P w) P w K mg base ["script", "row", "program", "state", "most", "last", "at", "done", "one", "odd", "bad", "works", "spot"] "law" (defScope s_law) f (.ref c) Ar outer s H E)) (A := Al) (outer := outl) (s := sl) (H := Hl) (E := El) (scope := (wLam (wE (wElts (wAsg (wS (defBody s_law) 10))) 0)).scope) (f := fl) (c' := cl) (k := 6) (G := (lamG K w cls qL Pt (cxOf (L2.CX P w) P w K mg base ["script", "row", "program", "state", "most", "last", "at", "done", "one", "odd", "bad", "works", "spot"] "law" (defScope s_law) f (.ref c) Ar outer s H E).env.cells spec_law)) rfl rfl gok hr
      exact de_call A d_written_by hr (by decide) (da_cons (de_var 10) (da_nil))
    | 1, h =>
      cases h
      have A := amb_lam (X := (cxOf (L2.CX P w) P w K mg base ["script", "row", "program", "state", "most", "last", "at", "done", "one", "odd", "bad", "works", "spot"] "law" (defScope s_law) f (.ref c) Ar outer s H E)) (A := Al) (outer := outl) (s := sl) (H := Hl) (E := El) (scope := (wLam (wE (wElts (wAsg (wS (defBody s_law) 10))) 1)).scope) (f := fl) (c' := cl) (k := 6) (G := (lamG K w cls qL Pt (cxOf (L2.CX P w) P w K mg base ["script", "row", "program", "state", "most", "last", "at", "done", "one", "odd", "bad", "works", "spot"] "law" (defScope s_law) f (.ref c) Ar outer s H E).env.cells spec_law)) rfl rfl gok hr
      exact de_call A d_used_by hr (by decide) (da_cons (de_var 10) (da_nil))
    | 2, h =>
      cases h
      have A := amb_lam (X := (cxOf (L2.CX P w) P w K mg base ["script", "row", "program", "state", "most", "last", "at", "done", "one", "odd", "bad", "works", "spot"] "law" (defScope s_law) f (.ref c) Ar outer s H E)) (A := Al) (outer := outl) (s := sl) (H := Hl) (E := El) (scope := (wLam (wE (wElts (wAsg (wS (defBody s_law) 13))) 0)).scope) (f := fl) (c' := cl) (k := 6) (G := (lamG K w cls qL Pt (cxOf (L2.CX P w) P w K mg base ["script", "row", "program", "state", "most", "last", "at", "done", "one", "odd", "bad", "works", "spot"] "law" (defScope s_law) f (.ref c) Ar outer s H E).env.cells spec_law)) rfl rfl gok hr
      exact de_call A d_ran hr (by decide) (da_cons (de_addF A (de_addF A (de_sliceF A (de_var 2) (do_none) (do_some (de_var 12))) (de_tup A (da_cons (de_var 10) (da_nil)))) (de_sliceF A (de_var 2) (do_some (de_var 12)) (do_none))) (da_cons (de_non) (da_cons (de_int) (da_nil))))
    | 3, h =>
      cases h
      have A := amb_lam (X := (cxOf (L2.CX P w) P w K mg base ["script", "row", "program", "state", "most", "last", "at", "done", "one", "odd", "bad", "works", "spot"] "law" (defScope s_law) f (.ref c) Ar outer s H E)) (A := Al) (outer := outl) (s := sl) (H := Hl) (E := El) (scope := (wLam (wE (wElts (wAsg (wS (defBody s_law) 13))) 1)).scope) (f := fl) (c' := cl) (k := 6) (G := (lamG K w cls qL Pt (cxOf (L2.CX P w) P w K mg base ["script", "row", "program", "state", "most", "last", "at", "done", "one", "odd", "bad", "works", "spot"] "law" (defScope s_law) f (.ref c) Ar outer s H E).env.cells spec_law)) rfl rfl gok hr
      exact de_call A d_ended hr (by decide) (da_cons (de_addF A (de_sliceF A (de_var 2) (do_none) (do_some (de_var 12))) (de_tup A (da_cons (de_var 10) (da_nil)))) (da_cons (de_non) (da_nil)))
    | 4, h =>
      cases h
      have A := amb_lam (X := (cxOf (L2.CX P w) P w K mg base ["script", "row", "program", "state", "most", "last", "at", "done", "one", "odd", "bad", "works", "spot"] "law" (defScope s_law) f (.ref c) Ar outer s H E)) (A := Al) (outer := outl) (s := sl) (H := Hl) (E := El) (scope := (wLam (wE (wArgs (wCmpL (wTest (wS (defBody s_law) 5)))) 0)).scope) (f := fl) (c' := cl) (k := 6) (G := (lamG K w cls qL Pt (cxOf (L2.CX P w) P w K mg base ["script", "row", "program", "state", "most", "last", "at", "done", "one", "odd", "bad", "works", "spot"] "law" (defScope s_law) f (.ref c) Ar outer s H E).env.cells spec_law)) rfl rfl gok hr
      exact de_call A d_ended hr (by decide) (da_cons (de_var 2) (da_cons (de_var 3) (da_nil)))
    | 5, h =>
      cases h
      have A := amb_lam (X := (cxOf (L2.CX P w) P w K mg base ["script", "row", "program", "state", "most", "last", "at", "done", "one", "odd", "bad", "works", "spot"] "law" (defScope s_law) f (.ref c) Ar outer s H E)) (A := Al) (outer := outl) (s := sl) (H := Hl) (E := El) (scope := (wLam (wE (wArgs (wCmpL (wTest (wS (defBody s_law) 15)))) 0)).scope) (f := fl) (c' := cl) (k := 6) (G := (lamG K w cls qL Pt (cxOf (L2.CX P w) P w K mg base ["script", "row", "program", "state", "most", "last", "at", "done", "one", "odd", "bad", "works", "spot"] "law" (defScope s_law) f (.ref c) Ar outer s H E).env.cells spec_law)) rfl rfl gok hr
      exact de_call A d_ran hr (by decide) (da_cons (de_call A d__law_pick hr (by decide) (da_cons (de_var 1) (da_cons (de_lstF A (da_cons (de_non) (da_cons (de_lstF A (da_nil)) (da_cons (de_mulFF A (de_tup A (da_cons (de_tup A (da_cons (de_str) (da_cons (de_int) (da_nil)))) (da_nil))) (de_int)) (da_nil))))) (da_nil)))) (da_cons (de_non) (da_cons (de_int) (da_nil))))
    | 6, h =>
      cases h
      have A := amb_lam (X := (cxOf (L2.CX P w) P w K mg base ["script", "row", "program", "state", "most", "last", "at", "done", "one", "odd", "bad", "works", "spot"] "law" (defScope s_law) f (.ref c) Ar outer s H E)) (A := Al) (outer := outl) (s := sl) (H := Hl) (E := El) (scope := (wLam (wE (wArgs (wCmpL (wTest (wS (defBody s_law) 17)))) 0)).scope) (f := fl) (c' := cl) (k := 6) (G := (lamG K w cls qL Pt (cxOf (L2.CX P w) P w K mg base ["script", "row", "program", "state", "most", "last", "at", "done", "one", "odd", "bad", "works", "spot"] "law" (defScope s_law) f (.ref c) Ar outer s H E).env.cells spec_law)) rfl rfl gok hr
      exact de_call A d_ran hr (by decide) (da_cons (de_var 2) (da_cons (de_sub' A (de_var 9) (de_call A d__law_taken hr (by decide) (da_cons (de_var 1) (da_cons (de_int) (da_nil))))) (da_cons (de_int) (da_nil))))
    | 7, h =>
      cases h
      have A := amb_lam (X := (cxOf (L2.CX P w) P w K mg base ["script", "row", "program", "state", "most", "last", "at", "done", "one", "odd", "bad", "works", "spot"] "law" (defScope s_law) f (.ref c) Ar outer s H E)) (A := Al) (outer := outl) (s := sl) (H := Hl) (E := El) (scope := (wLam (wE (wArgs (wCmpL (wRet (wS (defBody s_law) 18)))) 0)).scope) (f := fl) (c' := cl) (k := 6) (G := (lamG K w cls qL Pt (cxOf (L2.CX P w) P w K mg base ["script", "row", "program", "state", "most", "last", "at", "done", "one", "odd", "bad", "works", "spot"] "law" (defScope s_law) f (.ref c) Ar outer s H E).env.cells spec_law)) rfl rfl gok hr
      exact de_call A d_ran hr (by decide) (da_cons (de_var 2) (da_cons (de_var 3) (da_cons (de_call A d__law_pick hr (by decide) (da_cons (de_var 1) (da_cons (de_lstF A (da_cons (de_neg de_int) (da_cons (de_int) (da_cons (de_non) (da_cons (de_bl) (da_cons (de_str) (da_nil))))))) (da_nil)))) (da_nil))))
    | n + 8, h => exact absurd h (by simp [spec_law])
  have TB := TB0
  have A := amb_fn (G := (lamG K w cls qL Pt (cxOf (L2.CX P w) P w K mg base ["script", "row", "program", "state", "most", "last", "at", "done", "one", "odd", "bad", "works", "spot"] "law" (defScope s_law) f (.ref c) Ar outer s H E).env.cells spec_law)) (P := P) (K := K) (w := w) (mg := mg) (base := base) (N := ["script", "row", "program", "state", "most", "last", "at", "done", "one", "odd", "bad", "works", "spot"]) (qual := "law") (scope := defScope s_law) (f := f) (cdv := .ref c) (A := Ar) (outer := outer) (s := s) (H := H) (E := E) (k := 8) rfl rfl gok hr
  exact ds_cons (ds_set (i := 1) (de_lst A (da_cons (de_var 0) (da_cons (de_int) (da_cons (de_int) (da_cons (de_int) (da_nil)))))) sc_law.nd)
    (ds_cons (ds_asg (vs := [2, 3]) (dg_tup rfl A (dgs_cons (dg_name 2 sc_law.nd) (dgs_cons (dg_name 3 sc_law.nd) (dgs_nil)))) (de_tup A (da_cons (de_call A d__law_program hr (by decide) (da_cons (de_var 1) (da_cons (de_int) (da_nil)))) (da_cons (de_call A d__law_state hr (by decide) (da_cons (de_var 1) (da_nil))) (da_nil)))))
    (ds_cons (ds_set (i := 4) (de_call A d__law_pick hr (by decide) (da_cons (de_var 1) (da_cons (de_lstF A (da_cons (de_int) (da_cons (de_int) (da_cons (de_int) (da_cons (de_int) (da_cons (de_int) (da_nil))))))) (da_nil)))) sc_law.nd)
    (ds_cons (ds_if (dt_not (dt_truth A (de_call A d__law_alike hr (by decide) (da_cons (de_call A d_ran hr (by decide) (da_cons (de_var 2) (da_cons (de_var 3) (da_cons (de_var 4) (da_nil))))) (da_cons (de_callG A d__law_plain hr (by decide) (da_cons (de_var 2) (da_cons (de_var 3) (da_cons (de_var 4) (da_nil))))) (da_nil))))))
    (ds_one (ds_ret (de_bl)))
    (ds_nil))
    (ds_cons (ds_asg (vs := [5, 6, 7]) (dg_tup rfl A (dgs_cons (dg_name 5 sc_law.nd) (dgs_cons (dg_name 6 sc_law.nd) (dgs_cons (dg_name 7 sc_law.nd) (dgs_nil))))) (de_callG A d__law_plain hr (by decide) (da_cons (de_var 2) (da_cons (de_var 3) (da_cons (de_int) (da_nil))))))
    (ds_cons (ds_if (dt_c (c_neF A) (de_callAct A d__law_told (hr.mono (by decide)) rfl rfl hL hbody (da_cons (de_lam (m := 4) rfl rfl lw4 lp4 TB rfl rfl rfl) (da_nil))) (de_if (dt_c (c_ltF A) (de_var 6) (de_len A T.b_len (da_cons (de_var 2) (da_nil)))) (de_str) (de_tup A (da_cons (de_var 5) (da_cons (de_var 7) (da_nil))))))
    (ds_one (ds_ret (de_bl)))
    (ds_nil))
    (ds_cons (ds_for (vs := [8]) rfl A (di_seq A (de_var 2)) (dg_name 8 sc_law.nd)
    (ds_cons (ds_if (dt_w (dw_or (dt_c (c_isnot A) (de_call A d_is_instruction hr (by decide) (da_cons (de_var 8) (da_nil))) (de_bl)) (dw_or1 (dt_not (dt_truth A (de_call A d__law_alike hr (by decide) (da_cons (de_call A d_written_by hr (by decide) (da_cons (de_var 8) (da_nil))) (da_cons (de_call A d__law_writes hr (by decide) (da_cons (de_var 8) (da_nil))) (da_nil)))))))))
    (ds_one (ds_ret (de_bl)))
    (ds_nil))
    (ds_one (ds_if (dt_not (dt_truth A (de_call A d__law_alike hr (by decide) (da_cons (de_call A d_used_by hr (by decide) (da_cons (de_var 8) (da_nil))) (da_cons (de_tuple A T.b_tuple (da_cons (de_call A d__law_uses hr (by decide) (da_cons (de_var 8) (da_nil))) (da_nil))) (da_nil))))))
    (ds_one (ds_ret (de_bl)))
    (ds_nil)))))
    (ds_cons (ds_set (i := 9) (de_lstF A (da_cons (de_non) (da_cons (de_tup A (da_nil)) (da_cons (de_tup A (da_cons (de_str) (da_cons (de_int) (da_nil)))) (da_cons (de_tup A (da_cons (de_str) (da_cons (de_int) (da_cons (de_int) (da_nil))))) (da_cons (de_tup A (da_cons (de_str) (da_cons (de_int) (da_cons (de_int) (da_nil))))) (da_cons (de_tup A (da_cons (de_str) (da_cons (de_int) (da_cons (de_int) (da_cons (de_int) (da_nil)))))) (da_cons (de_tup A (da_cons (de_str) (da_cons (de_int) (da_cons (de_int) (da_cons (de_int) (da_cons (de_int) (da_nil))))))) (da_cons (de_tup A (da_cons (de_str) (da_cons (de_int) (da_cons (de_int) (da_cons (de_int) (da_nil)))))) (da_cons (de_tup A (da_cons (de_str) (da_cons (de_int) (da_cons (de_int) (da_nil))))) (da_nil))))))))))) sc_law.nd)
    (ds_cons (ds_set (i := 9) (de_addF A (de_var 9) (de_lstF A (da_cons (de_tup A (da_cons (de_str) (da_cons (de_int) (da_cons (de_int) (da_nil))))) (da_cons (de_tup A (da_cons (de_str) (da_cons (de_int) (da_cons (de_neg de_int) (da_nil))))) (da_cons (de_tup A (da_cons (de_str) (da_nil))) (da_cons (de_tup A (da_cons (de_str) (da_cons (de_int) (da_nil)))) (da_cons (de_lstF A (da_cons (de_str) (da_cons (de_int) (da_nil)))) (da_cons (de_tup A (da_cons (de_str) (da_cons (de_int) (da_nil)))) (da_cons (de_str) (da_cons (de_tup A (da_cons (de_str) (da_cons (de_bl) (da_nil)))) (da_cons (de_tup A (da_cons (de_str) (da_cons (de_int) (da_cons (de_int) (da_cons (de_int) (da_cons (de_non) (da_nil))))))) (da_nil)))))))))))) sc_law.nd)
    (ds_cons (ds_set (i := 10) (de_sub' A (de_var 9) (de_call A d__law_taken hr (by decide) (da_cons (de_var 1) (da_cons (de_len A T.b_len (da_cons (de_var 9) (da_nil))) (da_nil))))) sc_law.nd)
    (ds_cons (ds_set (i := 11) (de_lstF A (da_cons (de_lam (m := 0) rfl rfl lw0 lp0 TB rfl rfl rfl) (da_cons (de_lam (m := 1) rfl rfl lw1 lp1 TB rfl rfl rfl) (da_nil)))) sc_law.nd)
    (ds_cons (ds_if (dt_w (dw_or (dt_c (c_isnot A) (de_call A d_is_instruction hr (by decide) (da_cons (de_var 10) (da_nil))) (de_bl)) (dw_or1 (dt_c (c_neF A) (de_callAct A d__law_wrong (hr.mono (by decide)) rfl rfl hL hbody (da_cons (de_sub' A (de_var 11) (de_call A d__law_taken hr (by decide) (da_cons (de_var 1) (da_cons (de_int) (da_nil))))) (da_nil))) (de_str)))))
    (ds_one (ds_ret (de_bl)))
    (ds_nil))
    (ds_cons (ds_set (i := 12) (de_call A d__law_taken hr (by decide) (da_cons (de_var 1) (da_cons (de_addF A (de_len A T.b_len (da_cons (de_var 2) (da_nil))) (de_int)) (da_nil)))) sc_law.nd)
    (ds_cons (ds_set (i := 11) (de_lstF A (da_cons (de_lam (m := 2) rfl rfl lw2 lp2 TB rfl rfl rfl) (da_cons (de_lam (m := 3) rfl rfl lw3 lp3 TB rfl rfl rfl) (da_nil)))) sc_law.nd)
    (ds_cons (ds_if (dt_w (dw_and (dt_c (c_neF A) (de_callAct A d__law_wrong (hr.mono (by decide)) rfl rfl hL hbody (da_cons (de_sub' A (de_var 11) (de_call A d__law_taken hr (by decide) (da_cons (de_var 1) (da_cons (de_int) (da_nil))))) (da_nil))) (de_tup A (da_cons (de_str) (da_cons (de_var 12) (da_nil))))) (dw_and1 (dt_not (dt_truth A (de_lcF (own := [("one", 8)]) rfl sc_law.nd A (di_seq A (de_var 2)) (blkOk_by (N := ["script", "row", "program", "state", "most", "last", "at", "done", "one", "odd", "bad", "works", "spot"]) (sc := defScope s_law) (by decide +kernel)) (fun _ _ _ _ _ => dg_name 8 sc_law.nd) (fun _ _ _ _ _ => dts_one (dt_c (c_eqF A.blk) (de_sub' A.blk (de_var 8) (de_int)) (de_str))) (fun _ _ _ _ _ => de_var 8)))))))
    (ds_one (ds_ret (de_bl)))
    (ds_nil))
    (ds_cons (ds_if (dt_c (c_neF A) (de_callAct A d__law_wrong (hr.mono (by decide)) rfl rfl hL hbody (da_cons (de_lam (m := 5) rfl rfl lw5 lp5 TB rfl rfl rfl) (da_nil))) (de_tup A (da_cons (de_str) (da_cons (de_non) (da_nil)))))
    (ds_one (ds_ret (de_bl)))
    (ds_nil))
    (ds_cons (ds_set (i := 9) (de_lstF A (da_cons (de_non) (da_cons (de_tup A (da_nil)) (da_cons (de_sliceF A (de_var 3) (do_none) (do_some (de_int))) (da_cons (de_addF A (de_tup A (da_cons (de_sliceF A (de_sub' A (de_var 3) (de_int)) (do_none) (do_some (de_int))) (da_nil))) (de_sliceF A (de_var 3) (do_some (de_int)) (do_none))) (da_cons (de_tup A (da_cons (de_sub' A (de_var 3) (de_int)) (da_cons (de_sliceF A (de_sub' A (de_var 3) (de_int)) (do_none) (do_some (de_int))) (da_cons (de_tup A (da_nil)) (da_nil))))) (da_cons (de_tup A (da_cons (de_sub' A (de_var 3) (de_int)) (da_cons (de_sub' A (de_var 3) (de_int)) (da_cons (de_tup A (da_cons (de_int) (da_nil))) (da_nil))))) (da_cons (de_listF A rfl T.b_list (da_cons (de_var 3) (da_nil))) (da_nil))))))))) sc_law.nd)
    (ds_cons (ds_if (dt_c (c_neF A) (de_callAct A d__law_wrong (hr.mono (by decide)) rfl rfl hL hbody (da_cons (de_lam (m := 6) rfl rfl lw6 lp6 TB rfl rfl rfl) (da_nil))) (de_str))
    (ds_one (ds_ret (de_bl)))
    (ds_nil))
    (ds_one (ds_ret (de_c (c_eqF A) (de_callAct A d__law_wrong (hr.mono (by decide)) rfl rfl hL hbody (da_cons (de_lam (m := 7) rfl rfl lw7 lp7 TB rfl rfl rfl) (da_nil))) (de_str)))))))))))))))))))))
end Law

/-! Sx: the steps as rows that simp follows from the left, nothing being looked at ahead of its turn. -/
namespace Dx
open PySem L2
section
variable {α β : Type} {a : α} {S : Sg} {ρ : Ev}
@[simp] theorem ok_bind {k : α → Sg → R β} : (R.ok a S).bind k = k a S := rfl
@[simp] theorem ok_go {k : α → Sg → Fl} : (R.ok a S).go ρ k = k a S := rfl
@[simp] theorem ok_nox : (R.ok a S).nox = .ok a S := rfl
end
section
variable {ρ : Ev} {S : Sg}
def vAt : Option (Option D) → Sg → R D
  | some (some d), S => .ok d S
  | _, _ => .stuck
@[simp] theorem xVar_at {i : Nat} : xVar i ρ S = vAt ρ[i]? S := by unfold xVar vAt; split <;> simp_all
@[simp] theorem vAt_some {d : D} : vAt (some (some d)) S = .ok d S := rfl
@[simp] theorem xC_at {d : D} : xC d ρ S = .ok d S := rfl
def kx2 (h : F2) (g : FE) (ρ : Ev) (d : D) (S : Sg) : R D := (g ρ S).bind (h d)
@[simp] theorem x2_at {h : F2} {f g : FE} : x2 h f g ρ S = (f ρ S).bind (kx2 h g ρ) := rfl
@[simp] theorem kx2_at {h : F2} {g : FE} {d : D} : kx2 h g ρ d S = (g ρ S).bind (h d) := rfl
@[simp] theorem aNil_at : aNil ρ S = .ok [] S := rfl
def kaC1 (g : FA) (ρ : Ev) (d : D) (S : Sg) : R (List D) := (g ρ S).bind fun ds S2 => .ok (d :: ds) S2
def kaC2 (d : D) (ds : List D) (S : Sg) : R (List D) := .ok (d :: ds) S
@[simp] theorem aCons_at {f : FE} {g : FA} : aCons f g ρ S = (f ρ S).bind (kaC1 g ρ) := rfl
@[simp] theorem kaC1_at {g : FA} {d : D} : kaC1 g ρ d S = (g ρ S).bind (kaC2 d) := rfl
@[simp] theorem kaC2_at {d : D} {ds : List D} : kaC2 d ds S = .ok (d :: ds) S := rfl
def kTup (ds : List D) (S : Sg) : R D := if ds.length ≤ 16777216 then .ok (.tup ds) S else .stuck
@[simp] theorem xTup_at {g : FA} : xTup g ρ S = (g ρ S).bind kTup := rfl
@[simp] theorem kTup_at {ds : List D} : kTup ds S = if ds.length ≤ 16777216 then .ok (.tup ds) S else .stuck := rfl
def kLst (ds : List D) (S : Sg) : R D := if ds.length ≤ 16777216 then newO (.lst ds) S else .stuck
@[simp] theorem xLst_at {g : FA} : xLst g ρ S = (g ρ S).bind kLst := rfl
@[simp] theorem kLst_at {ds : List D} : kLst ds S = if ds.length ≤ 16777216 then newO (.lst ds) S else .stuck := rfl
@[simp] theorem newO_at {o : O} : newO o S = .ok (.ref S.length) (S ++ [o]) := rfl
@[simp] theorem xB_at {h : CV} {g : FA} : xB h g ρ S = (g ρ S).bind h := rfl
def kCall (F : FF) (n : Nat) (ds : List D) (S : Sg) : R D := if ds.length = n then F ds S else .stuck
@[simp] theorem xCall_at {F : FF} {n : Nat} {g : FA} : xCall F n g ρ S = (g ρ S).bind (kCall F n) := rfl
@[simp] theorem kCall_at {F : FF} {n : Nat} {ds : List D} : kCall F n ds S = if ds.length = n then F ds S else .stuck := rfl
def kM (h : MV) (g : FA) (ρ : Ev) (d : D) (S : Sg) : R D := if isL S d = true then (g ρ S).bind (h d) else .stuck
@[simp] theorem xM_at {h : MV} {f : FE} {g : FA} : xM h f g ρ S = (f ρ S).bind (kM h g ρ) := rfl
@[simp] theorem kM_at {h : MV} {g : FA} {d : D} : kM h g ρ d S = if isL S d = true then (g ρ S).bind (h d) else .stuck := rfl
/-! tests -/
def kBl : D → Sg → R Bool
  | .bl b, S => .ok b S
  | _, _ => .stuck
@[simp] theorem tBl_at {f : FE} : tBl f ρ S = (f ρ S).bind kBl := by
  unfold tBl
  first
  | rfl
  | congr 1
    funext d S
    cases d <;> rfl
@[simp] theorem kBl_at {b : Bool} : kBl (.bl b) S = .ok b S := rfl
def truAt (S : Sg) : Option Bool → R Bool
  | some b => .ok b S
  | none => .stuck
def kTru (d : D) (S : Sg) : R Bool := truAt S (truD S d)
@[simp] theorem tTru_at {f : FE} : tTru f ρ S = (f ρ S).bind kTru := by
  unfold tTru
  first
  | rfl
  | congr 1
    funext d S
    unfold kTru
    cases truD S d <;> rfl
@[simp] theorem kTru_at {d : D} : kTru d S = truAt S (truD S d) := rfl
@[simp] theorem truAt_some {b : Bool} : truAt S (some b) = .ok b S := rfl
def kAndF (g : FT) (ρ : Ev) : Bool → Sg → R Bool
  | true, S => g ρ S
  | false, S => .ok false S
@[simp] theorem tAndF_at {f g : FT} : tAndF f g ρ S = (f ρ S).bind (kAndF g ρ) := by
  unfold tAndF
  first
  | rfl
  | congr 1
    funext b S
    cases b <;> rfl
@[simp] theorem kAndF_t {g : FT} : kAndF g ρ true S = g ρ S := rfl
@[simp] theorem kAndF_f {g : FT} : kAndF g ρ false S = .ok false S := rfl
def kOrF (g : FT) (ρ : Ev) : Bool → Sg → R Bool
  | true, S => .ok true S
  | false, S => g ρ S
@[simp] theorem tOrF_at {f g : FT} : tOrF f g ρ S = (f ρ S).bind (kOrF g ρ) := by
  unfold tOrF
  first
  | rfl
  | congr 1
    funext b S
    cases b <;> rfl
@[simp] theorem kOrF_t {g : FT} : kOrF g ρ true S = .ok true S := rfl
@[simp] theorem kOrF_f {g : FT} : kOrF g ρ false S = g ρ S := rfl
def kNotF (b : Bool) (S : Sg) : R Bool := .ok (!b) S
@[simp] theorem tNotF_at {f : FT} : tNotF f ρ S = (f ρ S).bind kNotF := rfl
@[simp] theorem kNotF_at {b : Bool} : kNotF b S = .ok (!b) S := rfl
def andAt (g : FE) (ρ : Ev) (d : D) (S : Sg) : Option Bool → R D
  | some true => g ρ S
  | some false => .ok d S
  | none => .stuck
def kAnd (g : FE) (ρ : Ev) (d : D) (S : Sg) : R D := andAt g ρ d S (truD S d)
@[simp] theorem xAnd_at {f g : FE} : xAnd f g ρ S = (f ρ S).bind (kAnd g ρ) := by
  unfold xAnd
  first
  | rfl
  | congr 1
    funext d S
    unfold kAnd
    cases truD S d with
    | none => rfl
    | some b => cases b <;> rfl
@[simp] theorem kAnd_at {g : FE} {d : D} : kAnd g ρ d S = andAt g ρ d S (truD S d) := rfl
@[simp] theorem andAt_t {g : FE} {d : D} : andAt g ρ d S (some true) = g ρ S := rfl
@[simp] theorem andAt_f {g : FE} {d : D} : andAt g ρ d S (some false) = .ok d S := rfl
def orAt (g : FE) (ρ : Ev) (d : D) (S : Sg) : Option Bool → R D
  | some true => .ok d S
  | some false => g ρ S
  | none => .stuck
def kOr (g : FE) (ρ : Ev) (d : D) (S : Sg) : R D := orAt g ρ d S (truD S d)
@[simp] theorem xOr_at {f g : FE} : xOr f g ρ S = (f ρ S).bind (kOr g ρ) := by
  unfold xOr
  first
  | rfl
  | congr 1
    funext d S
    unfold kOr
    cases truD S d with
    | none => rfl
    | some b => cases b <;> rfl
@[simp] theorem kOr_at {g : FE} {d : D} : kOr g ρ d S = orAt g ρ d S (truD S d) := rfl
@[simp] theorem orAt_t {g : FE} {d : D} : orAt g ρ d S (some true) = .ok d S := rfl
@[simp] theorem orAt_f {g : FE} {d : D} : orAt g ρ d S (some false) = g ρ S := rfl
def notAt (S : Sg) : Option Bool → R D
  | some b => .ok (.bl (!b)) S
  | none => .stuck
def kNot (d : D) (S : Sg) : R D := notAt S (truD S d)
@[simp] theorem xNot_at {f : FE} : xNot f ρ S = (f ρ S).bind kNot := by
  unfold xNot
  first
  | rfl
  | congr 1
    funext d S
    unfold kNot
    cases truD S d <;> rfl
@[simp] theorem kNot_at {d : D} : kNot d S = notAt S (truD S d) := rfl
@[simp] theorem notAt_some {b : Bool} : notAt S (some b) = .ok (.bl (!b)) S := rfl
def kXif (f g : FE) (ρ : Ev) : Bool → Sg → R D
  | true, S => f ρ S
  | false, S => g ρ S
@[simp] theorem xIf_at {c : FT} {f g : FE} : xIf c f g ρ S = (c ρ S).bind (kXif f g ρ) := by
  unfold xIf
  first
  | rfl
  | congr 1
    funext b S
    cases b <;> rfl
@[simp] theorem kXif_t {f g : FE} : kXif f g ρ true S = f ρ S := rfl
@[simp] theorem kXif_f {f g : FE} : kXif f g ρ false S = g ρ S := rfl
/-! chains -/
def kCh3 (h' : F2) (k : FE) (ρ : Ev) (e : D) : D → Sg → R D
  | .bl true, S => (k ρ S).bind (h' e)
  | .bl false, S => .ok (.bl false) S
  | _, _ => .stuck
def kCh2 (h h' : F2) (k : FE) (ρ : Ev) (d e : D) (S : Sg) : R D := (h d e S).bind (kCh3 h' k ρ e)
def kCh1 (h h' : F2) (g k : FE) (ρ : Ev) (d : D) (S : Sg) : R D := (g ρ S).bind (kCh2 h h' k ρ d)
@[simp] theorem xChain_at {h h' : F2} {f g k : FE} : xChain h h' f g k ρ S = (f ρ S).bind (kCh1 h h' g k ρ) := by
  unfold xChain
  first
  | rfl
  | congr 1
    funext d S
    unfold kCh1
    congr 1
    funext e S
    unfold kCh2
    congr 1
    funext z S
    cases z with
    | bl b => cases b <;> rfl
    | _ => rfl
@[simp] theorem kCh1_at {h h' : F2} {g k : FE} {d : D} : kCh1 h h' g k ρ d S = (g ρ S).bind (kCh2 h h' k ρ d) := rfl
@[simp] theorem kCh2_at {h h' : F2} {k : FE} {d e : D} : kCh2 h h' k ρ d e S = (h d e S).bind (kCh3 h' k ρ e) := rfl
@[simp] theorem kCh3_t {h' : F2} {k : FE} {e : D} : kCh3 h' k ρ e (.bl true) S = (k ρ S).bind (h' e) := rfl
@[simp] theorem kCh3_f {h' : F2} {k : FE} {e : D} : kCh3 h' k ρ e (.bl false) S = .ok (.bl false) S := rfl
/-! slices -/
@[simp] theorem oNone_at : oNone ρ S = .ok none S := rfl
def kOs : D → Sg → R (Option Int)
  | .int i, S => .ok (some i) S
  | _, _ => .stuck
@[simp] theorem oSome_at {f : FE} : oSome f ρ S = (f ρ S).bind kOs := by
  unfold oSome
  first
  | rfl
  | congr 1
    funext d S
    cases d <;> rfl
@[simp] theorem kOs_at {i : Int} : kOs (.int i) S = .ok (some i) S := rfl
def kSl3 (d : D) (lo hi : Option Int) (S : Sg) : R D := fSl d lo hi S
def kSl2 (h : FO) (ρ : Ev) (d : D) (lo : Option Int) (S : Sg) : R D := (h ρ S).bind (kSl3 d lo)
def kSl1 (l h : FO) (ρ : Ev) (d : D) (S : Sg) : R D := (l ρ S).bind (kSl2 h ρ d)
@[simp] theorem xSl_at {f : FE} {l h : FO} : xSl f l h ρ S = (f ρ S).bind (kSl1 l h ρ) := rfl
@[simp] theorem kSl1_at {l h : FO} {d : D} : kSl1 l h ρ d S = (l ρ S).bind (kSl2 h ρ d) := rfl
@[simp] theorem kSl2_at {h : FO} {d : D} {lo : Option Int} : kSl2 h ρ d lo S = (h ρ S).bind (kSl3 d lo) := rfl
@[simp] theorem kSl3_at {d : D} {lo hi : Option Int} : kSl3 d lo hi S = fSl d lo hi S := rfl
/-! statements -/
def Fl.seq : Fl → FS → Fl
  | .nx ρ S, h => h ρ S
  | o, _ => o
@[simp] theorem sNil_at : sNil ρ S = .nx ρ S := rfl
@[simp] theorem sSeq_at {g h : FS} : sSeq g h ρ S = (g ρ S).seq h := by unfold sSeq Fl.seq; cases g ρ S <;> rfl
@[simp] theorem seq_nx {h : FS} : (Fl.nx ρ S).seq h = h ρ S := rfl
@[simp] theorem seq_rt {d : D} {h : FS} : (Fl.rt d S).seq h = .rt d S := rfl
@[simp] theorem seq_bk {h : FS} : (Fl.bk ρ S).seq h = .bk ρ S := rfl
@[simp] theorem seq_ct {h : FS} : (Fl.ct ρ S).seq h = .ct ρ S := rfl
def kSet (i : Nat) (ρ : Ev) (d : D) (S : Sg) : Fl := .nx (ρ.set i (some d)) S
@[simp] theorem sSet_at {i : Nat} {f : FE} : sSet i f ρ S = (f ρ S).go ρ (kSet i ρ) := rfl
@[simp] theorem kSet_at {i : Nat} {d : D} : kSet i ρ d S = .nx (ρ.set i (some d)) S := rfl
def kRet (d : D) (S : Sg) : Fl := .rt d S
@[simp] theorem sRet_at {f : FE} : sRet f ρ S = (f ρ S).go ρ kRet := rfl
@[simp] theorem kRet_at {d : D} : kRet d S = .rt d S := rfl
@[simp] theorem sRetN_at : sRetN ρ S = .rt .non S := rfl
def kExpr (ρ : Ev) (_ : D) (S : Sg) : Fl := .nx ρ S
@[simp] theorem sExpr_at {f : FE} : sExpr f ρ S = (f ρ S).go ρ (kExpr ρ) := rfl
@[simp] theorem kExpr_at {d : D} : kExpr ρ d S = .nx ρ S := rfl
def kIf (g h : FS) (ρ : Ev) : Bool → Sg → Fl
  | true, S => g ρ S
  | false, S => h ρ S
@[simp] theorem sIf_at {c : FT} {g h : FS} : sIf c g h ρ S = (c ρ S).go ρ (kIf g h ρ) := by
  unfold sIf
  first
  | rfl
  | congr 1
    funext b S
    cases b <;> rfl
@[simp] theorem kIf_t {g h : FS} : kIf g h ρ true S = g ρ S := rfl
@[simp] theorem kIf_f {g h : FS} : kIf g h ρ false S = h ρ S := rfl
def stoAt (ρ : Ev) : Option Sg → Fl
  | some S => .nx ρ S
  | none => .stuck
def kSto3 (ρ : Ev) (d o i : D) (S : Sg) : Fl := stoAt ρ (storeD o i d S)
def kSto2 (fi : FE) (ρ : Ev) (d o : D) (S : Sg) : Fl := (fi ρ S).go ρ (kSto3 ρ d o)
def kSto1 (fo fi : FE) (ρ : Ev) (d : D) (S : Sg) : Fl := (fo ρ S).go ρ (kSto2 fi ρ d)
@[simp] theorem sSto_at {f fo fi : FE} : sSto f fo fi ρ S = (f ρ S).go ρ (kSto1 fo fi ρ) := by
  unfold sSto
  first
  | rfl
  | congr 1
    funext d S
    unfold kSto1
    congr 1
    funext o S
    unfold kSto2
    congr 1
    funext i S
    unfold kSto3
    cases storeD o i d S <;> rfl
@[simp] theorem kSto1_at {fo fi : FE} {d : D} : kSto1 fo fi ρ d S = (fo ρ S).go ρ (kSto2 fi ρ d) := rfl
@[simp] theorem kSto2_at {fi : FE} {d o : D} : kSto2 fi ρ d o S = (fi ρ S).go ρ (kSto3 ρ d o) := rfl
@[simp] theorem kSto3_at {d o i : D} : kSto3 ρ d o i S = stoAt ρ (storeD o i d S) := rfl
@[simp] theorem stoAt_some : stoAt ρ (some S) = .nx ρ S := rfl
/-! a def's end -/
def Fl.ret : Fl → R D
  | .nx _ S => .ok .non S
  | .rt d S => .ok d S
  | .exc c fs _ S => .exc c fs S
  | _ => .stuck
@[simp] theorem dFun_at {N n : Nat} {g : FS} {ds : List D} : dFun N n g ds S = if ds.length = n then (g (ds.map some ++ List.replicate (N - ds.length) none) S).ret else .stuck := by
  unfold dFun Fl.ret
  split
  · cases g (ds.map some ++ List.replicate (N - ds.length) none) S <;> rfl
  · rfl
@[simp] theorem ret_nx : (Fl.nx ρ S).ret = .ok .non S := rfl
@[simp] theorem ret_rt {d : D} : (Fl.rt d S).ret = .ok d S := rfl
/-! subscripts -/
def ixO : Option O → D → Sg → R D
  | some (.lst xs), e, S => ixSeq S xs e
  | some (.dct kvs), e, S => outD S ((keyD e).bind (getK kvs))
  | some (.dtt kvs), e, S => outD S ((keysD e).bind (getK kvs))
  | _, _, _ => .stuck
@[simp] theorem ixSeq_int {xs : List D} {i : Int} : ixSeq S xs (.int i) = outD S (atI xs i) := rfl
@[simp] theorem outD_some {d : D} : outD S (some d) = .ok d S := rfl
@[simp] theorem fIx_tup {xs : List D} {e : D} : fIx (.tup xs) e S = ixSeq S xs e := rfl
@[simp] theorem fIx_ktup {xs : List D} {e : D} : fIx (.ktup xs) e S = ixSeq S xs e := rfl
@[simp] theorem fIx_clist {xs : List D} {e : D} : fIx (.clist xs) e S = ixSeq S xs e := rfl
@[simp] theorem fIx_ref {n : Nat} {e : D} : fIx (.ref n) e S = ixO S[n]? e S := by
  have : ∀ o : Option O, (match o with
    | some (.lst xs) => ixSeq S xs e
    | some (.dct kvs) => outD S ((keyD e).bind (getK kvs))
    | some (.dtt kvs) => outD S ((keysD e).bind (getK kvs))
    | _ => .stuck) = ixO o e S := fun o => by
    cases o with
    | none => rfl
    | some o => cases o <;> rfl
  exact this S[n]?
@[simp] theorem ixO_lst {xs : List D} {e : D} : ixO (some (.lst xs)) e S = ixSeq S xs e := rfl
@[simp] theorem ixO_dct {kvs : List (Key × D)} {e : D} : ixO (some (.dct kvs)) e S = outD S ((keyD e).bind (getK kvs)) := rfl
@[simp] theorem atI0 {α : Type} {xs : List α} : atI xs 0 = xs[0]? := by
  unfold atI ixN
  cases xs <;> simp
theorem atI_cast {α : Type} {xs : List α} {n : Nat} : atI xs (n : Int) = xs[n]? := by
  unfold atI ixN
  rw [if_pos (by omega)]
  by_cases h : (n : Int) < (xs.length : Int)
  · rw [if_pos h]; simp
  · rw [if_neg h, List.getElem?_eq_none (by omega)]; rfl
@[simp] theorem atI1 {α : Type} {xs : List α} : atI xs 1 = xs[1]? := atI_cast (n := 1)
@[simp] theorem atI2 {α : Type} {xs : List α} : atI xs 2 = xs[2]? := atI_cast (n := 2)
@[simp] theorem atI3 {α : Type} {xs : List α} : atI xs 3 = xs[3]? := atI_cast (n := 3)
@[simp] theorem atI4 {α : Type} {xs : List α} : atI xs 4 = xs[4]? := atI_cast (n := 4)
/-! operators on ints -/
section
variable {i j : Int}
@[simp] theorem fLt_int : fLt (.int i) (.int j) S = .ok (.bl (decide (i < j))) S := rfl
@[simp] theorem fLtF_int : fLtF (.int i) (.int j) S = .ok (.bl (decide (i < j))) S := rfl
@[simp] theorem fLe_int : fLe (.int i) (.int j) S = .ok (.bl (decide (i ≤ j))) S := rfl
@[simp] theorem fGt_int : fGt (.int i) (.int j) S = .ok (.bl (decide (j < i))) S := rfl
@[simp] theorem fGe_int : fGe (.int i) (.int j) S = .ok (.bl (decide (j ≤ i))) S := rfl
@[simp] theorem fAdd_int : fAdd (.int i) (.int j) S = .ok (.int (i + j)) S := rfl
@[simp] theorem fSub_int : fSub (.int i) (.int j) S = .ok (.int (i - j)) S := rfl
@[simp] theorem fMod_int (h : 0 < j) : fMod (.int i) (.int j) S = .ok (.int (i % j)) S := by simp [fMod, fIC, h]
@[simp] theorem fDiv_int (h : 0 < j) (h2 : j < 1073741824) : fDiv (.int i) (.int j) S = .ok (.int (i / j)) S := by simp [fDiv, fIC, h, h2]
@[simp] theorem fMulF_int (h : -(18446744073709551616) < j ∧ j < 18446744073709551616) : fMulF (.int i) (.int j) S = .ok (.int (i * j)) S := by
  show fMul (.int i) (.int j) S = _
  simp [fMul, h]
@[simp] theorem fPow_10 : fPow (.int 10) (.int 18) S = .ok (.int 1000000000000000000) S := rfl
@[simp] theorem cInt_int : cInt [.int i] S = .ok (.int i) S := rfl
@[simp] theorem cInt_bl {b : Bool} : cInt [.bl b] S = .ok (.int (if b then 1 else 0)) S := rfl
@[simp] theorem cLen_clist {xs : List D} : cLen [.clist xs] S = .ok (.int xs.length) S := rfl
@[simp] theorem cLen_tup {xs : List D} : cLen [.tup xs] S = .ok (.int xs.length) S := rfl
@[simp] theorem cLen_ktup {xs : List D} : cLen [.ktup xs] S = .ok (.int xs.length) S := rfl
def stoO (n : Nat) (i d : D) (S : Sg) : Option O → Option Sg
  | some (.lst xs) => match i with
    | .int k => (ixN xs.length k).map fun j => S.set n (.lst (xs.set j d))
    | _ => none
  | some (.dct kvs) => match keyD i with
    | some k => if kvs.length < 16777216 then some (S.set n (.dct (putD kvs k d))) else none
    | none => none
  | some (.dtt kvs) => match keysD i with
    | some k => if kvs.length < 16777216 then some (S.set n (.dtt (putD kvs k d))) else none
    | none => none
  | _ => none
@[simp] theorem storeD_ref {n : Nat} {k d : D} : storeD (.ref n) k d S = stoO n k d S S[n]? := by
  unfold storeD stoO
  rfl
@[simp] theorem stoO_lst {n : Nat} {k : Int} {d : D} {xs : List D} : stoO n (.int k) d S (some (.lst xs)) = (ixN xs.length k).map fun j => S.set n (.lst (xs.set j d)) := rfl
theorem ixN_nat {l n : Nat} (h : n < l) : ixN l (n : Int) = some n := by
  unfold ixN
  rw [if_pos (by omega), if_pos (by omega)]
  simp
@[simp] theorem ixN0 {l : Nat} (h : 0 < l) : ixN l 0 = some 0 := ixN_nat h
@[simp] theorem ixN1 {l : Nat} (h : 1 < l) : ixN l 1 = some 1 := ixN_nat h
@[simp] theorem ixN2 {l : Nat} (h : 2 < l) : ixN l 2 = some 2 := ixN_nat h
@[simp] theorem ixN3 {l : Nat} (h : 3 < l) : ixN l 3 = some 3 := ixN_nat h
@[simp] theorem ixN4 {l : Nat} (h : 4 < l) : ixN l 4 = some 4 := ixN_nat h
end
end
end Dx

/-! Sx2: isinstance, comprehensions and loops by an invariant. -/
namespace Dx
open PySem L2
section
variable {ρ : Ev} {S : Sg}
def isiAt (us : List String) (S : Sg) : Option String → R D
  | some t => .ok (.bl (us.any (isaT t))) S
  | none => .stuck
def kIsi (us : List String) (d : D) (S : Sg) : R D := isiAt us S (tyD S d)
@[simp] theorem xIsi_at {f : FE} {us : List String} : xIsi f us ρ S = (f ρ S).bind (kIsi us) := by
  unfold xIsi
  first
  | rfl
  | congr 1
    funext d S
    unfold kIsi
    cases tyD S d <;> rfl
@[simp] theorem kIsi_at {us : List String} {d : D} : kIsi us d S = isiAt us S (tyD S d) := rfl
@[simp] theorem isiAt_some {us : List String} {t : String} : isiAt us S (some t) = .ok (.bl (us.any (isaT t))) S := rfl
@[simp] theorem tyD_non : tyD S .non = some "NoneType" := rfl
@[simp] theorem tyD_bl {b : Bool} : tyD S (.bl b) = some "bool" := rfl
@[simp] theorem tyD_int {i : Int} : tyD S (.int i) = some "int" := rfl
@[simp] theorem tyD_str {s : String} : tyD S (.str s) = some "str" := rfl
@[simp] theorem tyD_tup {xs : List D} : tyD S (.tup xs) = some "tuple" := rfl
@[simp] theorem tyD_ktup {xs : List D} : tyD S (.ktup xs) = some "tuple" := rfl
@[simp] theorem tyD_clist {xs : List D} : tyD S (.clist xs) = some "list" := rfl
theorem tyD_lst {n : Nat} {xs : List D} (h : S[n]? = some (.lst xs)) : tyD S (.ref n) = some "list" := by simp only [tyD, h]
@[simp] theorem truD_bl {b : Bool} : truD S (.bl b) = some b := rfl
@[simp] theorem truD_non : truD S .non = some false := rfl
@[simp] theorem truD_tup {xs : List D} : truD S (.tup xs) = some (!xs.isEmpty) := rfl
@[simp] theorem truD_int {i : Int} : truD S (.int i) = some (i != 0) := rfl
@[simp] theorem fIs_non {neg : Bool} {d : D} : fIs neg d .non S = .ok (.bl (neg != isNonD d)) S := rfl
@[simp] theorem fIs_bl {neg a b : Bool} : fIs neg (.bl a) (.bl b) S = .ok (.bl (neg != decide (a = b))) S := rfl
theorem cLen_lst {n : Nat} {xs : List D} (h : S[n]? = some (.lst xs)) : cLen [.ref n] S = .ok (.int xs.length) S := by
  unfold cLen
  simp [itemsD, seqOf, h]
def eqAtF (neg : Bool) (d e : D) (S : Sg) : Bool → R D
  | true => .ok (.bl (neg != eqB 9 S d e)) S
  | false => .stuck
theorem fEqF_ok {neg : Bool} {d e : D} (h1 : okD 9 S d = true) (h2 : okD 9 S e = true) : fEqF neg d e S = .ok (.bl (neg != eqB 9 S d e)) S := by
  unfold fEqF
  rw [h1, h2]
  rfl
@[simp] theorem fEqF_int {neg : Bool} {i j : Int} : fEqF neg (.int i) (.int j) S = .ok (.bl (neg != decide (i = j))) S := rfl
@[simp] theorem fEqF_str {neg : Bool} {s t : String} : fEqF neg (.str s) (.str t) S = .ok (.bl (neg != decide (s = t))) S := rfl
@[simp] theorem fEqF_bl {neg a b : Bool} : fEqF neg (.bl a) (.bl b) S = .ok (.bl (neg != (a == b))) S := rfl
@[simp] theorem fEqF_non {neg : Bool} : fEqF neg .non .non S = .ok (.bl (neg != true)) S := rfl
/-! sources -/
def kSrc (d : D) (S : Sg) : R Src := srcOf S d
@[simp] theorem iSrc_at {f : FE} : iSrc f ρ S = (f ρ S).bind kSrc := rfl
@[simp] theorem kSrc_tup {xs : List D} : kSrc (.tup xs) S = .ok (.its xs) S := rfl
@[simp] theorem kSrc_ktup {xs : List D} : kSrc (.ktup xs) S = .ok (.its xs) S := rfl
@[simp] theorem kSrc_clist {xs : List D} : kSrc (.clist xs) S = .ok (.its xs) S := rfl
theorem kSrc_lst {n : Nat} {xs : List D} (h : S[n]? = some (.lst xs)) : kSrc (.ref n) S = .ok (.live n) S := by
  unfold kSrc srcOf
  simp [h]
def kR1 : List D → Sg → R Src
  | [.int j], S => if -(4611686018427387904) ≤ j ∧ j < 4611686018427387904 then .ok (.its (intsD 0 j.toNat)) S else .stuck
  | _, _ => .stuck
@[simp] theorem iR1_at {g : FA} : iR1 g ρ S = (g ρ S).bind kR1 := by
  unfold iR1
  first
  | rfl
  | congr 1
    funext d S
    unfold kR1
    split
    · rfl
    · rename_i h
      split
      · exact absurd rfl (h _)
      · rfl
theorem kR1_nat {j : Nat} (h : j < 4611686018427387904) : kR1 [.int j] S = .ok (.its (intsD 0 j)) S := by
  have h1 : -(4611686018427387904) ≤ (j : Int) ∧ (j : Int) < 4611686018427387904 := by omega
  simp only [kR1, h1, and_self, if_true, Int.toNat_natCast]
def kLc (vs : List Nat) (tg : FG) (t : FT) (e : FE) (ρ : Ev) (src : Src) (S : Sg) : R D := lcGo src tg t e (wipeD ρ vs) (srcLen S src) 0 [] S
@[simp] theorem xLc_at {vs : List Nat} {fs : FI} {tg : FG} {t : FT} {e : FE} : xLc vs fs tg t e ρ S = (fs ρ S).bind (kLc vs tg t e ρ) := rfl
theorem lc_go {ds : List D} {tg : FG} {t : FT} {e : FE} {ρ : Ev} (I : Nat → List D → Sg → Prop)
    (step : ∀ i d acc S, ds[i]? = some d → I i acc S → ∃ ρ1, tg d ρ = some ρ1 ∧ ∃ b S2, t ρ1 S = .ok b S2 ∧ (b = true → ∃ y S3, e ρ1 S2 = .ok y S3 ∧ acc.length < 16777216 ∧ I (i + 1) (acc ++ [y]) S3) ∧ (b = false → I (i + 1) acc S2)) :
    ∀ (k i : Nat) (acc : List D) (S : Sg), i + k = ds.length → I i acc S → ∃ acc' S', I ds.length acc' S' ∧ lcGo (.its ds) tg t e ρ k i acc S = newO (.lst acc') S'
  | 0, i, acc, S, hk, h => by
    have hi : i = ds.length := by omega
    subst hi
    refine ⟨acc, S, h, ?_⟩
    unfold lcGo
    simp [srcAt]
  | k + 1, i, acc, S, hk, h => by
    have hi : i < ds.length := by omega
    obtain ⟨ρ1, e1, b, S2, e2, ht, hf⟩ := step i ds[i] acc S (by simp [hi]) h
    unfold lcGo
    have hs : srcAt S (.its ds) i = some (some ds[i]) := by simp [srcAt, hi]
    simp only [hs, e1, e2, ok_nox, ok_bind]
    cases b with
    | true =>
      obtain ⟨y, S3, e3, hl, h3⟩ := ht rfl
      simp only [e3, ok_nox, ok_bind, if_pos hl]
      exact lc_go I step k (i + 1) _ S3 (by omega) h3
    | false => exact lc_go I step k (i + 1) acc S2 (by omega) (hf rfl)
theorem lc_inv {vs : List Nat} {ds : List D} {tg : FG} {t : FT} {e : FE} {ρ : Ev} {S : Sg} (I : Nat → List D → Sg → Prop) (h0 : I 0 [] S)
    (step : ∀ i d acc S, ds[i]? = some d → I i acc S → ∃ ρ1, tg d (wipeD ρ vs) = some ρ1 ∧ ∃ b S2, t ρ1 S = .ok b S2 ∧ (b = true → ∃ y S3, e ρ1 S2 = .ok y S3 ∧ acc.length < 16777216 ∧ I (i + 1) (acc ++ [y]) S3) ∧ (b = false → I (i + 1) acc S2)) :
    ∃ acc S', I ds.length acc S' ∧ kLc vs tg t e ρ (.its ds) S = .ok (.ref S'.length) (S' ++ [.lst acc]) := by
  obtain ⟨acc, S', h1, h2⟩ := lc_go I step ds.length 0 [] S (by omega) h0
  exact ⟨acc, S', h1, h2⟩
/-! loops -/
def kFor (tg : FG) (g : FS) (ρ : Ev) (src : Src) (S : Sg) : Fl := forGo src tg g (srcLen S src) 0 ρ S
@[simp] theorem sFor_at {fs : FI} {tg : FG} {g : FS} : sFor fs tg g ρ S = (fs ρ S).go ρ (kFor tg g ρ) := rfl
/-- a loop over given items: I holds ahead of each turn; a turn goes on, or ends the loop with an outcome that is wanted -/
theorem for_go {ds : List D} {tg : FG} {g : FS} (I : Nat → Ev → Sg → Prop) (Z : Fl → Prop) (done : ∀ ρ S, I ds.length ρ S → Z (.nx ρ S))
    (step : ∀ i d ρ S, ds[i]? = some d → I i ρ S → ∃ ρ1, tg d ρ = some ρ1 ∧ ((∃ ρ2 S2, (g ρ1 S = .nx ρ2 S2 ∨ g ρ1 S = .ct ρ2 S2) ∧ I (i + 1) ρ2 S2) ∨ (∃ ρ2 S2, g ρ1 S = .bk ρ2 S2 ∧ Z (.nx ρ2 S2)) ∨ (∃ d S2, g ρ1 S = .rt d S2 ∧ Z (.rt d S2)))) :
    ∀ (k i : Nat) (ρ : Ev) (S : Sg), i + k = ds.length → I i ρ S → Z (forGo (.its ds) tg g k i ρ S)
  | 0, i, ρ, S, hk, h => by
    have hi : i = ds.length := by omega
    subst hi
    unfold forGo
    simp only [srcAt]
    rw [List.getElem?_eq_none (Nat.le_refl _)]
    exact done ρ S h
  | k + 1, i, ρ, S, hk, h => by
    have hi : i < ds.length := by omega
    obtain ⟨ρ1, e1, hr⟩ := step i ds[i] ρ S (by simp [hi]) h
    unfold forGo
    have hs : srcAt S (.its ds) i = some (some ds[i]) := by simp [srcAt, hi]
    simp only [hs, e1]
    rcases hr with ⟨ρ2, S2, e2 | e2, h2⟩ | ⟨ρ2, S2, e2, h2⟩ | ⟨d, S2, e2, h2⟩
    · rw [e2]; exact for_go I Z done step k (i + 1) ρ2 S2 (by omega) h2
    · rw [e2]; exact for_go I Z done step k (i + 1) ρ2 S2 (by omega) h2
    · rw [e2]; exact h2
    · rw [e2]; exact h2
theorem for_inv {ds : List D} {tg : FG} {g : FS} {ρ : Ev} {S : Sg} (I : Nat → Ev → Sg → Prop) (Z : Fl → Prop) (h0 : I 0 ρ S) (done : ∀ ρ S, I ds.length ρ S → Z (.nx ρ S))
    (step : ∀ i d ρ S, ds[i]? = some d → I i ρ S → ∃ ρ1, tg d ρ = some ρ1 ∧ ((∃ ρ2 S2, (g ρ1 S = .nx ρ2 S2 ∨ g ρ1 S = .ct ρ2 S2) ∧ I (i + 1) ρ2 S2) ∨ (∃ ρ2 S2, g ρ1 S = .bk ρ2 S2 ∧ Z (.nx ρ2 S2)) ∨ (∃ d S2, g ρ1 S = .rt d S2 ∧ Z (.rt d S2)))) :
    Z (kFor tg g ρ (.its ds) S) := for_go I Z done step ds.length 0 ρ S (by omega) h0
/-- a while by a measure -/
theorem wh_inv {c : FT} {g : FS} (I : Nat → Ev → Sg → Prop) (Z : Fl → Prop)
    (step : ∀ m ρ S, I m ρ S → (∃ S1, c ρ S = .ok false S1 ∧ Z (.nx ρ S1)) ∨ (∃ S1, c ρ S = .ok true S1 ∧ ((∃ ρ2 S2 m', (g ρ S1 = .nx ρ2 S2 ∨ g ρ S1 = .ct ρ2 S2) ∧ m' < m ∧ I m' ρ2 S2) ∨ (∃ ρ2 S2, g ρ S1 = .bk ρ2 S2 ∧ Z (.nx ρ2 S2)) ∨ (∃ d S2, g ρ S1 = .rt d S2 ∧ Z (.rt d S2))))) :
    ∀ (n m : Nat) (ρ : Ev) (S : Sg), m < n → I m ρ S → Z (whGo c g n ρ S)
  | 0, m, ρ, S, h, _ => absurd h (Nat.not_lt_zero _)
  | n + 1, m, ρ, S, h, hi => by
    unfold whGo
    rcases step m ρ S hi with ⟨S1, e1, z⟩ | ⟨S1, e1, hr⟩
    · rw [e1]; exact z
    · rw [e1]
      simp only [ok_go]
      rcases hr with ⟨ρ2, S2, m', e2 | e2, hm, h2⟩ | ⟨ρ2, S2, e2, h2⟩ | ⟨d, S2, e2, h2⟩
      · rw [e2]; exact wh_inv I Z step n m' ρ2 S2 (by omega) h2
      · rw [e2]; exact wh_inv I Z step n m' ρ2 S2 (by omega) h2
      · rw [e2]; exact h2
      · rw [e2]; exact h2
end
end Dx

/-! Sy: rows for the locked lists, the calls that forget, comprehensions and loops over given items. -/
namespace Dx
open PySem L2
section
variable {ρ : Ev} {S : Sg}
def kLstF (ds : List D) (S : Sg) : R D := if ds.length ≤ 16777216 then .ok (.clist ds) S else .stuck
@[simp] theorem xLstF_at {g : FA} : xLstF g ρ S = (g ρ S).bind kLstF := rfl
@[simp] theorem kLstF_at {ds : List D} : kLstF ds S = if ds.length ≤ 16777216 then .ok (.clist ds) S else .stuck := rfl
/-! + * -/
@[simp] theorem fAddF_int {i j : Int} : fAddF (.int i) (.int j) S = .ok (.int (i + j)) S := rfl
@[simp] theorem fAddF_lst {xs ys : List D} : fAddF (.clist xs) (.clist ys) S = if xs.length + ys.length ≤ 16777216 then .ok (.clist (xs ++ ys)) S else .stuck := rfl
@[simp] theorem fAddF_str {a b : String} : fAddF (.str a) (.str b) S = if a.length + b.length ≤ 16777216 then .ok (.str (a ++ b)) S else .stuck := rfl
@[simp] theorem fAddF_tup {xs ys : List D} : fAddF (.tup xs) (.tup ys) S = if xs.length + ys.length ≤ 16777216 then .ok (.tup (xs ++ ys)) S else .stuck := rfl
@[simp] theorem fAddN_lst {xs ys : List D} : fAddN (.clist xs) (.clist ys) S = if xs.length + ys.length ≤ 16777216 then newO (.lst (xs ++ ys)) S else .stuck := rfl
@[simp] theorem fMulFF_int {i j : Int} : fMulFF (.int i) (.int j) S = fMulF (.int i) (.int j) S := rfl
@[simp] theorem fMulFF_tup {xs : List D} {j : Int} : fMulFF (.tup xs) (.int j) S = fMulF (.tup xs) (.int j) S := rfl
theorem fMulFF_bl {xs : List D} {b : Bool} (h : xs.length ≤ 1000) : fMulFF (.clist xs) (.int (if b then 1 else 0)) S = .ok (.clist (if b then xs else [])) S := by
  have h1 : xs.length ≤ 16777216 := by omega
  cases b <;> simp [fMulFF, seqOf, h1]
/-! slices -/
def kSlF3 (d : D) (lo hi : Option Int) (S : Sg) : R D := fSlF d lo hi S
def kSlF2 (h : FO) (ρ : Ev) (d : D) (lo : Option Int) (S : Sg) : R D := (h ρ S).bind (kSlF3 d lo)
def kSlF1 (l h : FO) (ρ : Ev) (d : D) (S : Sg) : R D := (l ρ S).bind (kSlF2 h ρ d)
@[simp] theorem xSlF_at {f : FE} {l h : FO} : xSlF f l h ρ S = (f ρ S).bind (kSlF1 l h ρ) := rfl
@[simp] theorem kSlF1_at {l h : FO} {d : D} : kSlF1 l h ρ d S = (l ρ S).bind (kSlF2 h ρ d) := rfl
@[simp] theorem kSlF2_at {h : FO} {d : D} {lo : Option Int} : kSlF2 h ρ d lo S = (h ρ S).bind (kSlF3 d lo) := rfl
@[simp] theorem kSlF3_at {d : D} {lo hi : Option Int} : kSlF3 d lo hi S = fSlF d lo hi S := rfl
@[simp] theorem slF13 {a b c d e : D} : fSlF (.tup [a, b, c, d, e]) (some 1) (some 3) S = .ok (.tup [b, c]) S := rfl
@[simp] theorem slF04 {a b c d e : D} : fSlF (.tup [a, b, c, d, e]) none (some 4) S = .ok (.tup [a, b, c, d]) S := rfl
@[simp] theorem slF02 {a b c d e : D} : fSlF (.tup [a, b, c, d, e]) none (some 2) S = .ok (.tup [a, b]) S := rfl
/-! displays used at once -/
def kDp1 (k : Key) (r : List (Key × FE)) (ρ : Ev) (d : D) (S : Sg) : R (List (Key × D)) := (dpGo r ρ S).bind fun ps S2 => .ok ((k, d) :: ps) S2
def kDp2 (k : Key) (d : D) (ps : List (Key × D)) (S : Sg) : R (List (Key × D)) := .ok ((k, d) :: ps) S
@[simp] theorem dpGo_nil : dpGo [] ρ S = .ok [] S := rfl
@[simp] theorem dpGo_cons {k : Key} {f : FE} {r : List (Key × FE)} : dpGo ((k, f) :: r) ρ S = (f ρ S).bind (kDp1 k r ρ) := rfl
@[simp] theorem kDp1_at {k : Key} {r : List (Key × FE)} {d : D} : kDp1 k r ρ d S = (dpGo r ρ S).bind (kDp2 k d) := rfl
@[simp] theorem kDp2_at {k : Key} {ps : List (Key × D)} {d : D} : kDp2 k d ps S = .ok ((k, d) :: ps) S := rfl
def kDx2 (ps : List (Key × D)) (k : D) (S : Sg) : R D := outD S ((keyD k).bind (getK (mergeD ps)))
def kDx1 (g : FE) (ρ : Ev) (ps : List (Key × D)) (S : Sg) : R D := (g ρ S).bind (kDx2 ps)
@[simp] theorem xDcIx_at {fs : List (Key × FE)} {g : FE} : xDcIx fs g ρ S = (dpGo fs ρ S).bind (kDx1 g ρ) := rfl
@[simp] theorem kDx1_at {g : FE} {ps : List (Key × D)} : kDx1 g ρ ps S = (g ρ S).bind (kDx2 ps) := rfl
@[simp] theorem kDx2_str {ps : List (Key × D)} {s : String} : kDx2 ps (.str s) S = outD S (getK (mergeD ps) (.inr (Str.ofString s))) := rfl
@[simp] theorem kDx2_int {ps : List (Key × D)} {i : Int} : kDx2 ps (.int i) S = outD S (getK (mergeD ps) (.inl i)) := rfl
def kDg3 (ps : List (Key × D)) (k x : D) (S : Sg) : R D := match keyD k with
  | some kk => .ok ((getK (mergeD ps) kk).getD x) S
  | none => .stuck
def kDg2 (h : FE) (ρ : Ev) (ps : List (Key × D)) (k : D) (S : Sg) : R D := (h ρ S).bind (kDg3 ps k)
def kDg1 (g h : FE) (ρ : Ev) (ps : List (Key × D)) (S : Sg) : R D := (g ρ S).bind (kDg2 h ρ ps)
@[simp] theorem xDcGet_at {fs : List (Key × FE)} {g h : FE} : xDcGet fs g h ρ S = (dpGo fs ρ S).bind (kDg1 g h ρ) := rfl
@[simp] theorem kDg1_at {g h : FE} {ps : List (Key × D)} : kDg1 g h ρ ps S = (g ρ S).bind (kDg2 h ρ ps) := rfl
@[simp] theorem kDg2_at {h : FE} {ps : List (Key × D)} {k : D} : kDg2 h ρ ps k S = (h ρ S).bind (kDg3 ps k) := rfl
@[simp] theorem kDg3_str {ps : List (Key × D)} {s : String} {x : D} : kDg3 ps (.str s) x S = .ok ((getK (mergeD ps) (.inr (Str.ofString s))).getD x) S := rfl
@[simp] theorem kDg3_int {ps : List (Key × D)} {i : Int} {x : D} : kDg3 ps (.int i) x S = .ok ((getK (mergeD ps) (.inl i)).getD x) S := rfl
/-! comprehensions -/
def lcRun (tg : FG) (t : FT) (e : FE) (ρ : Ev) : List D → List D → Sg → R D
  | [], acc, S => .ok (.clist acc) S
  | d :: ds, acc, S => match tg d ρ with
    | some ρ1 => (t ρ1 S).nox.bind fun b S2 => match b with
      | true => (e ρ1 S2).nox.bind fun y S3 => if acc.length < 16777216 then lcRun tg t e ρ ds (acc ++ [y]) S3 else .stuck
      | false => lcRun tg t e ρ ds acc S2
    | none => .stuck
theorem lcGoF_run {tg : FG} {t : FT} {e : FE} {ds : List D} : ∀ (k i : Nat) (acc : List D) (S : Sg), i + k = ds.length → lcGoF (.its ds) tg t e ρ k i acc S = lcRun tg t e ρ (ds.drop i) acc S
  | 0, i, acc, S, h => by
    have hi : i = ds.length := by omega
    subst hi
    unfold lcGoF
    simp [srcAt, lcRun]
  | k + 1, i, acc, S, h => by
    have hi : i < ds.length := by omega
    have hs : srcAt S (.its ds) i = some (some ds[i]) := by simp [srcAt, hi]
    unfold lcGoF
    rw [List.drop_eq_getElem_cons hi]
    simp only [hs, lcRun]
    cases tg ds[i] ρ with
    | none => rfl
    | some ρ1 =>
      simp only
      congr 1
      funext b S2
      cases b with
      | true =>
        simp only
        congr 1
        funext y S3
        split
        · exact lcGoF_run k (i + 1) _ S3 (by omega)
        · rfl
      | false => exact lcGoF_run k (i + 1) acc S2 (by omega)
def kLcF (vs : List Nat) (tg : FG) (t : FT) (e : FE) (ρ : Ev) (src : Src) (S : Sg) : R D := lcGoF src tg t e (wipeD ρ vs) (srcLen S src) 0 [] S
@[simp] theorem xLcF_at {vs : List Nat} {fs : FI} {tg : FG} {t : FT} {e : FE} : xLcF vs fs tg t e ρ S = (fs ρ S).bind (kLcF vs tg t e ρ) := rfl
@[simp] theorem kLcF_its {vs : List Nat} {tg : FG} {t : FT} {e : FE} {ds : List D} : kLcF vs tg t e ρ (.its ds) S = lcRun tg t e (wipeD ρ vs) ds [] S := lcGoF_run ds.length 0 [] S (by omega)
def lcA (tg : FG) (t : FT) (e : FE) (ρ : Ev) (ds acc : List D) (S : Sg) : Option Ev → R D
  | some ρ1 => (t ρ1 S).nox.bind fun b S2 => match b with
    | true => (e ρ1 S2).nox.bind fun y S3 => if acc.length < 16777216 then lcRun tg t e ρ ds (acc ++ [y]) S3 else .stuck
    | false => lcRun tg t e ρ ds acc S2
  | none => .stuck
def lcC (tg : FG) (t : FT) (e : FE) (ρ : Ev) (ds acc : List D) (y : D) (S : Sg) : R D := if acc.length < 16777216 then lcRun tg t e ρ ds (acc ++ [y]) S else .stuck
def lcB (tg : FG) (t : FT) (e : FE) (ρ ρ1 : Ev) (ds acc : List D) : Bool → Sg → R D
  | true, S => (e ρ1 S).nox.bind (lcC tg t e ρ ds acc)
  | false, S => lcRun tg t e ρ ds acc S
@[simp] theorem lcRun_nil {tg : FG} {t : FT} {e : FE} {acc : List D} : lcRun tg t e ρ [] acc S = .ok (.clist acc) S := rfl
@[simp] theorem lcRun_cons {tg : FG} {t : FT} {e : FE} {d : D} {ds acc : List D} : lcRun tg t e ρ (d :: ds) acc S = lcA tg t e ρ ds acc S (tg d ρ) := by
  unfold lcA
  rw [lcRun]
@[simp] theorem lcA_some {tg : FG} {t : FT} {e : FE} {ds acc : List D} {ρ1 : Ev} : lcA tg t e ρ ds acc S (some ρ1) = (t ρ1 S).nox.bind (lcB tg t e ρ ρ1 ds acc) := by
  unfold lcA
  simp only
  congr 1
  funext b S2
  cases b <;> rfl
@[simp] theorem lcB_t {tg : FG} {t : FT} {e : FE} {ds acc : List D} {ρ1 : Ev} : lcB tg t e ρ ρ1 ds acc true S = (e ρ1 S).nox.bind (lcC tg t e ρ ds acc) := rfl
@[simp] theorem lcB_f {tg : FG} {t : FT} {e : FE} {ds acc : List D} {ρ1 : Ev} : lcB tg t e ρ ρ1 ds acc false S = lcRun tg t e ρ ds acc S := rfl
@[simp] theorem lcC_at {tg : FG} {t : FT} {e : FE} {ds acc : List D} {y : D} : lcC tg t e ρ ds acc y S = if acc.length < 16777216 then lcRun tg t e ρ ds (acc ++ [y]) S else .stuck := rfl
@[simp] theorem tYesF_at : tYesF ρ S = .ok true S := rfl
@[simp] theorem gNm_at {i : Nat} {d : D} : gNm i d ρ = some (ρ.set i (some d)) := rfl
/-- over the pictures of things, nothing being changed -/
theorem lcRun_map {α : Type} {tg : FG} {t : FT} {e : FE} (enc : α → D) (P : α → Bool) (f : α → D) : ∀ (xs : List α) (acc : List D), (∀ x ∈ xs, ∃ ρ1, tg (enc x) ρ = some ρ1 ∧ t ρ1 S = .ok (P x) S ∧ (P x = true → e ρ1 S = .ok (f x) S)) → acc.length + xs.length ≤ 16777216 →
    lcRun tg t e ρ (xs.map enc) acc S = .ok (.clist (acc ++ (xs.filter P).map f)) S
  | [], acc, _, _ => by simp
  | x :: xs, acc, h, hl => by
    obtain ⟨ρ1, e1, e2, e3⟩ := h x (by simp)
    rw [List.length_cons] at hl
    rw [List.map_cons, lcRun_cons, e1, lcA_some, e2, ok_nox, ok_bind]
    cases hp : P x with
    | true =>
      rw [lcB_t, e3 hp, ok_nox, ok_bind, lcC_at, if_pos (by omega), lcRun_map enc P f xs _ (fun y hy => h y (by simp [hy])) (by simp; omega), List.filter_cons_of_pos hp]
      simp
    | false =>
      rw [lcB_f, lcRun_map enc P f xs _ (fun y hy => h y (by simp [hy])) (by omega), List.filter_cons_of_neg (by simp [hp])]
/-- with an invariant -/
theorem lcRun_inv {tg : FG} {t : FT} {e : FE} (I : List D → List D → Sg → Prop)
    (step : ∀ d ds acc S, I (d :: ds) acc S → ∃ ρ1, tg d ρ = some ρ1 ∧ ∃ b S2, t ρ1 S = .ok b S2 ∧ (b = true → ∃ y S3, e ρ1 S2 = .ok y S3 ∧ acc.length < 16777216 ∧ I ds (acc ++ [y]) S3) ∧ (b = false → I ds acc S2)) :
    ∀ (ds acc : List D) (S : Sg), I ds acc S → ∃ acc' S', I [] acc' S' ∧ lcRun tg t e ρ ds acc S = .ok (.clist acc') S'
  | [], acc, S, h => ⟨acc, S, h, rfl⟩
  | d :: ds, acc, S, h => by
    obtain ⟨ρ1, e1, b, S2, e2, ht, hf⟩ := step d ds acc S h
    rw [lcRun_cons, e1, lcA_some, e2, ok_nox, ok_bind]
    cases b with
    | true =>
      obtain ⟨y, S3, e3, hl, h3⟩ := ht rfl
      rw [lcB_t, e3, ok_nox, ok_bind, lcC_at, if_pos hl]
      exact lcRun_inv I step ds _ S3 h3
    | false => rw [lcB_f]; exact lcRun_inv I step ds _ S2 (hf rfl)
/-! loops over given items -/
def forRun (tg : FG) (g : FS) : List D → FS
  | [], ρ, S => .nx ρ S
  | d :: ds, ρ, S => match tg d ρ with
    | some ρ1 => match g ρ1 S with
      | .nx ρ2 S2 => forRun tg g ds ρ2 S2
      | .ct ρ2 S2 => forRun tg g ds ρ2 S2
      | .bk ρ2 S2 => .nx ρ2 S2
      | o => o
    | none => .stuck
theorem forGo_run {tg : FG} {g : FS} {ds : List D} : ∀ (k i : Nat) (ρ : Ev) (S : Sg), i + k = ds.length → forGo (.its ds) tg g k i ρ S = forRun tg g (ds.drop i) ρ S
  | 0, i, ρ, S, h => by
    have hi : i = ds.length := by omega
    subst hi
    unfold forGo
    simp [srcAt, forRun]
  | k + 1, i, ρ, S, h => by
    have hi : i < ds.length := by omega
    have hs : srcAt S (.its ds) i = some (some ds[i]) := by simp [srcAt, hi]
    unfold forGo
    rw [List.drop_eq_getElem_cons hi]
    simp only [hs, forRun]
    cases tg ds[i] ρ with
    | none => rfl
    | some ρ1 =>
      simp only
      cases g ρ1 S with
      | nx ρ2 S2 => exact forGo_run k (i + 1) ρ2 S2 (by omega)
      | ct ρ2 S2 => exact forGo_run k (i + 1) ρ2 S2 (by omega)
      | _ => rfl
@[simp] theorem kFor_its {tg : FG} {g : FS} {ds : List D} : kFor tg g ρ (.its ds) S = forRun tg g ds ρ S := forGo_run ds.length 0 ρ S (by omega)
def frB (tg : FG) (g : FS) (ds : List D) : Fl → Fl
  | .nx ρ2 S2 => forRun tg g ds ρ2 S2
  | .ct ρ2 S2 => forRun tg g ds ρ2 S2
  | .bk ρ2 S2 => .nx ρ2 S2
  | o => o
def frA (tg : FG) (g : FS) (ds : List D) (S : Sg) : Option Ev → Fl
  | some ρ1 => frB tg g ds (g ρ1 S)
  | none => .stuck
@[simp] theorem forRun_nil {tg : FG} {g : FS} : forRun tg g [] ρ S = .nx ρ S := rfl
@[simp] theorem forRun_cons {tg : FG} {g : FS} {d : D} {ds : List D} : forRun tg g (d :: ds) ρ S = frA tg g ds S (tg d ρ) := by
  unfold frA frB
  rw [forRun]
  first
  | done
  | (cases tg d ρ with
    | none => rfl
    | some ρ1 => cases g ρ1 S <;> rfl)
@[simp] theorem frA_some {tg : FG} {g : FS} {ds : List D} {ρ1 : Ev} : frA tg g ds S (some ρ1) = frB tg g ds (g ρ1 S) := rfl
@[simp] theorem frB_nx {tg : FG} {g : FS} {ds : List D} : frB tg g ds (.nx ρ S) = forRun tg g ds ρ S := rfl
@[simp] theorem frB_ct {tg : FG} {g : FS} {ds : List D} : frB tg g ds (.ct ρ S) = forRun tg g ds ρ S := rfl
@[simp] theorem frB_bk {tg : FG} {g : FS} {ds : List D} : frB tg g ds (.bk ρ S) = .nx ρ S := rfl
@[simp] theorem frB_rt {tg : FG} {g : FS} {ds : List D} {d : D} : frB tg g ds (.rt d S) = .rt d S := rfl
/-- a loop that ends in a wanted way: I ahead of the rest of the items -/
theorem forRun_inv {tg : FG} {g : FS} (I : List D → Ev → Sg → Prop) (Z : Fl → Prop) (done : ∀ ρ S, I [] ρ S → Z (.nx ρ S))
    (step : ∀ d ds ρ S, I (d :: ds) ρ S → ∃ ρ1, tg d ρ = some ρ1 ∧ ((∃ ρ2 S2, (g ρ1 S = .nx ρ2 S2 ∨ g ρ1 S = .ct ρ2 S2) ∧ I ds ρ2 S2) ∨ (∃ ρ2 S2, g ρ1 S = .bk ρ2 S2 ∧ Z (.nx ρ2 S2)) ∨ (∃ d S2, g ρ1 S = .rt d S2 ∧ Z (.rt d S2)))) :
    ∀ (ds : List D) (ρ : Ev) (S : Sg), I ds ρ S → Z (forRun tg g ds ρ S)
  | [], ρ, S, h => done ρ S h
  | d :: ds, ρ, S, h => by
    obtain ⟨ρ1, e1, hr⟩ := step d ds ρ S h
    rw [forRun_cons, e1, frA_some]
    rcases hr with ⟨ρ2, S2, e2 | e2, h2⟩ | ⟨ρ2, S2, e2, h2⟩ | ⟨d, S2, e2, h2⟩
    · rw [e2]; exact forRun_inv I Z done step ds ρ2 S2 h2
    · rw [e2]; exact forRun_inv I Z done step ds ρ2 S2 h2
    · rw [e2]; exact h2
    · rw [e2]; exact h2
/-! targets -/
def asgAt (S : Sg) : Option Ev → Fl
  | some ρ => .nx ρ S
  | none => .stuck
def kAsg (fg : FG) (ρ : Ev) (d : D) (S : Sg) : Fl := asgAt S (fg d ρ)
@[simp] theorem sAsg_at {fg : FG} {f : FE} : sAsg fg f ρ S = (f ρ S).go ρ (kAsg fg ρ) := by
  unfold sAsg
  first
  | rfl
  | congr 1
    funext d S
    unfold kAsg asgAt
    cases fg d ρ <;> rfl
@[simp] theorem kAsg_at {fg : FG} {d : D} : kAsg fg ρ d S = asgAt S (fg d ρ) := rfl
@[simp] theorem asgAt_some : asgAt S (some ρ) = .nx ρ S := rfl
@[simp] theorem gTp_tup {n : Nat} {fg : FGs} {xs : List D} : gTp n fg (.tup xs) ρ = if xs.length = n then fg xs ρ else none := rfl
@[simp] theorem gTp_ktup {n : Nat} {fg : FGs} {xs : List D} : gTp n fg (.ktup xs) ρ = if xs.length = n then fg xs ρ else none := rfl
@[simp] theorem gsN_nil : gsN [] ρ = some ρ := rfl
@[simp] theorem gsC_cons {g : FG} {gs : FGs} {d : D} {r : List D} : gsC g gs (d :: r) ρ = (g d ρ).bind (gs r) := rfl
def asgXAt : R Ev → Fl
  | .ok ρ S => .nx ρ S
  | _ => .stuck
def kAsgX (fg : FGx) (ρ : Ev) (d : D) (S : Sg) : Fl := asgXAt (fg d ρ S)
@[simp] theorem sAsgX_at {fg : FGx} {f : FE} : sAsgX fg f ρ S = (f ρ S).go ρ (kAsgX fg ρ) := by
  unfold sAsgX
  first
  | rfl
  | congr 1
    funext d S
    unfold kAsgX asgXAt
    cases fg d ρ S <;> rfl
@[simp] theorem kAsgX_at {fg : FGx} {d : D} : kAsgX fg ρ d S = asgXAt (fg d ρ S) := rfl
@[simp] theorem asgXAt_ok : asgXAt (.ok ρ S) = .nx ρ S := rfl
@[simp] theorem gxNm_at {i : Nat} {d : D} : gxNm i d ρ S = .ok (ρ.set i (some d)) S := rfl
@[simp] theorem gxTp_tup {n : Nat} {fg : FGxs} {xs : List D} : gxTp n fg (.tup xs) ρ S = if xs.length = n then fg xs ρ S else .stuck := rfl
@[simp] theorem gxsN_nil : gxsN [] ρ S = .ok ρ S := rfl
@[simp] theorem gxsC_cons {g : FGx} {gs : FGxs} {d : D} {r : List D} : gxsC g gs (d :: r) ρ S = (g d ρ S).bind (gs r) := rfl
def sxAt (ρ : Ev) : Option Sg → R Ev
  | some S => .ok ρ S
  | none => .stuck
def kSx2 (ρ : Ev) (d o i : D) (S : Sg) : R Ev := sxAt ρ (storeD o i d S)
def kSx1 (fi : FE) (ρ : Ev) (d o : D) (S : Sg) : R Ev := (fi ρ S).nox.bind (kSx2 ρ d o)
@[simp] theorem gxSub_at {fo fi : FE} {d : D} : gxSub fo fi d ρ S = (fo ρ S).nox.bind (kSx1 fi ρ d) := by
  unfold gxSub
  first
  | rfl
  | congr 1
    funext o S
    unfold kSx1
    congr 1
    funext i S
    unfold kSx2 sxAt
    cases storeD o i d S <;> rfl
@[simp] theorem kSx1_at {fi : FE} {d o : D} : kSx1 fi ρ d o S = (fi ρ S).nox.bind (kSx2 ρ d o) := rfl
@[simp] theorem kSx2_at {d o i : D} : kSx2 ρ d o i S = sxAt ρ (storeD o i d S) := rfl
@[simp] theorem sxAt_some : sxAt ρ (some S) = .ok ρ S := rfl
/-! several names at once -/
def kPar2 (i j : Nat) (ρ : Ev) : List D → Sg → Fl
  | [a, b], S => .nx ((ρ.set i (some a)).set j (some b)) S
  | _, _ => .stuck
@[simp] theorem sPar2_at {i j : Nat} {g : FA} : sPar2 i j g ρ S = (g ρ S).go ρ (kPar2 i j ρ) := by
  unfold sPar2
  first
  | rfl
  | congr 1
    funext ds S
    unfold kPar2
    split <;> first | rfl | (split <;> simp_all)
@[simp] theorem kPar2_at {i j : Nat} {a b : D} : kPar2 i j ρ [a, b] S = .nx ((ρ.set i (some a)).set j (some b)) S := rfl
def kPar3 (i j l : Nat) (ρ : Ev) : List D → Sg → Fl
  | [a, b, c], S => .nx (((ρ.set i (some a)).set j (some b)).set l (some c)) S
  | _, _ => .stuck
@[simp] theorem sPar3_at {i j l : Nat} {g : FA} : sPar3 i j l g ρ S = (g ρ S).go ρ (kPar3 i j l ρ) := by
  unfold sPar3
  first
  | rfl
  | congr 1
    funext ds S
    unfold kPar3
    split <;> first | rfl | (split <;> simp_all)
@[simp] theorem kPar3_at {i j l : Nat} {a b c : D} : kPar3 i j l ρ [a, b, c] S = .nx (((ρ.set i (some a)).set j (some b)).set l (some c)) S := rfl
def augAt (i : Nat) (h : F2) (f : FE) (ρ : Ev) (S : Sg) : Option (Option D) → Fl
  | some (some d) => (f ρ S).go ρ fun e S1 => (h d e S1).go ρ fun z S2 => .nx (ρ.set i (some z)) S2
  | _ => .stuck
def kAug2 (i : Nat) (ρ : Ev) (z : D) (S : Sg) : Fl := .nx (ρ.set i (some z)) S
def kAug1 (i : Nat) (h : F2) (ρ : Ev) (d e : D) (S : Sg) : Fl := (h d e S).go ρ (kAug2 i ρ)
@[simp] theorem sAug_at {i : Nat} {h : F2} {f : FE} : sAug i h f ρ S = augAt i h f ρ S ρ[i]? := by
  unfold sAug augAt
  split <;> simp_all
@[simp] theorem augAt_some {i : Nat} {h : F2} {f : FE} {d : D} : augAt i h f ρ S (some (some d)) = (f ρ S).go ρ (kAug1 i h ρ d) := rfl
@[simp] theorem kAug1_at {i : Nat} {h : F2} {d e : D} : kAug1 i h ρ d e S = (h d e S).go ρ (kAug2 i ρ) := rfl
@[simp] theorem kAug2_at {i : Nat} {z : D} : kAug2 i ρ z S = .nx (ρ.set i (some z)) S := rfl
@[simp] theorem fI_int {p : Int → Int → D} {i j : Int} : fI p (.int i) (.int j) S = .ok (p i j) S := rfl
/-! dicts by written keys -/
@[simp] theorem ofS_iff {s t : String} : (Str.ofString s = Str.ofString t) ↔ s = t := ⟨ofS_inj, fun h => by rw [h]⟩
@[simp] theorem getK_nil {κ : Type} [DecidableEq κ] {k : κ} : getK ([] : List (κ × D)) k = none := rfl
@[simp] theorem getK_cons {κ : Type} [DecidableEq κ] {k k' : κ} {d : D} {r : List (κ × D)} : getK ((k', d) :: r) k = if k' = k then some d else getK r k := by
  unfold getK
  by_cases h : k' = k <;> simp [h]
@[simp] theorem mergeD_1 {k : Key} {x : D} : mergeD [(k, x)] = [(k, x)] := rfl
@[simp] theorem mergeD_s2 {a b : String} {x y : D} (h : a ≠ b) : mergeD [(.inr (Str.ofString a), x), (.inr (Str.ofString b), y)] = [(.inr (Str.ofString a), x), (.inr (Str.ofString b), y)] := by
  simp [mergeD, putD, h]
@[simp] theorem mergeD_s3 {a b c : String} {x y z : D} (h : a ≠ b) (h1 : a ≠ c) (h2 : b ≠ c) : mergeD [(.inr (Str.ofString a), x), (.inr (Str.ofString b), y), (.inr (Str.ofString c), z)] = [(.inr (Str.ofString a), x), (.inr (Str.ofString b), y), (.inr (Str.ofString c), z)] := by
  simp [mergeD, putD, h, h1, h2]
@[simp] theorem mergeD_s4 {a b c d : String} {x y z w : D} (h : a ≠ b) (h1 : a ≠ c) (h2 : b ≠ c) (h3 : a ≠ d) (h4 : b ≠ d) (h5 : c ≠ d) : mergeD [(.inr (Str.ofString a), x), (.inr (Str.ofString b), y), (.inr (Str.ofString c), z), (.inr (Str.ofString d), w)] = [(.inr (Str.ofString a), x), (.inr (Str.ofString b), y), (.inr (Str.ofString c), z), (.inr (Str.ofString d), w)] := by
  simp [mergeD, putD, h, h1, h2, h3, h4, h5]
@[simp] theorem mergeD_i2 {a b : Int} {x y : D} (h : a ≠ b) : mergeD [(.inl a, x), (.inl b, y)] = [(.inl a, x), (.inl b, y)] := by
  simp [mergeD, putD, h]
/-! built-ins -/
@[simp] theorem cTuple_clist {xs : List D} : cTuple [.clist xs] S = .ok (.tup xs) S := rfl
@[simp] theorem cTuple_tup {xs : List D} : cTuple [.tup xs] S = .ok (.tup xs) S := rfl
theorem cLen_slist {ns : List Int} : cLen [.slist ns] S = .ok (.int ns.length) S := by
  simp [cLen, itemsD]
@[simp] theorem fIx_slist {ns : List Int} {e : D} : fIx (.slist ns) e S = ixSeq S (ns.map .int) e := rfl
@[simp] theorem isL_clist {xs : List D} : isL S (.clist xs) = true := rfl
@[simp] theorem truD_clist {xs : List D} : truD S (.clist xs) = some (!xs.isEmpty) := rfl
@[simp] theorem truD_ktup {xs : List D} : truD S (.ktup xs) = some (!xs.isEmpty) := rfl
theorem okD_str {n : Nat} {a : String} : okD n S (.str a) = true := by cases n <;> rfl
theorem eqB_str {n : Nat} {a b : String} : eqB n S (.str a) (.str b) = decide (a = b) := by cases n <;> rfl
theorem inF_lst {neg : Bool} {a : String} {ss : List String} : fInF neg (.str a) (.clist (ss.map D.str)) S = .ok (.bl (neg != ss.any fun b => decide (b = a))) S := by
  unfold fInF
  simp only [shD, okD_str, Bool.true_and, List.all_map, List.any_map, Function.comp_def, eqB_str]
  rw [if_pos (by simp)]
theorem inF_ktup {neg : Bool} {a : String} {ss : List String} : fInF neg (.str a) (.ktup (ss.map D.str)) S = .ok (.bl (neg != ss.any fun b => decide (b = a))) S := by
  unfold fInF
  simp only [shD, okD_str, Bool.true_and, List.all_map, List.any_map, Function.comp_def, eqB_str]
  rw [if_pos (by simp)]
theorem inF_tup {neg : Bool} {a : String} {ss : List String} : fInF neg (.str a) (.tup (ss.map D.str)) S = .ok (.bl (neg != ss.any fun b => decide (b = a))) S := by
  unfold fInF
  simp only [shD, okD_str, Bool.true_and, List.all_map, List.any_map, Function.comp_def, eqB_str]
  rw [if_pos (by simp)]
/-! undecided bools -/
section
variable {α β : Type} {c : Prop} [Decidable c]
@[simp] theorem ite_bind {x y : R α} {k : α → Sg → R β} : (if c then x else y).bind k = if c then x.bind k else y.bind k := by split <;> rfl
@[simp] theorem ite_go {x y : R α} {k : α → Sg → Fl} : (if c then x else y).go ρ k = if c then x.go ρ k else y.go ρ k := by split <;> rfl
@[simp] theorem ite_nox {x y : R α} : (if c then x else y).nox = if c then x.nox else y.nox := by split <;> rfl
@[simp] theorem ite_seq {x y : Fl} {h : FS} : (if c then x else y).seq h = if c then x.seq h else y.seq h := by split <;> rfl
@[simp] theorem ite_ret {x y : Fl} : (if c then x else y).ret = if c then x.ret else y.ret := by split <;> rfl
@[simp] theorem ite_frB {tg : FG} {g : FS} {ds : List D} {x y : Fl} : frB tg g ds (if c then x else y) = if c then frB tg g ds x else frB tg g ds y := by split <;> rfl
@[simp] theorem ite_ok {x y : α} : (if c then R.ok x S else R.ok y S) = R.ok (if c then x else y) S := by split <;> rfl
@[simp] theorem ite_bl {x y : Bool} : (if c then D.bl x else D.bl y) = D.bl (if c then x else y) := by split <;> rfl
@[simp] theorem ite_str {x y : String} : (if c then D.str x else D.str y) = D.str (if c then x else y) := by split <;> rfl
end
@[simp] theorem kIf_b {g h : FS} {b : Bool} : kIf g h ρ b S = if b = true then g ρ S else h ρ S := by cases b <;> rfl
@[simp] theorem kXif_b {f g : FE} {b : Bool} : kXif f g ρ b S = if b = true then f ρ S else g ρ S := by cases b <;> rfl
@[simp] theorem kAndF_b {g : FT} {b : Bool} : kAndF g ρ b S = if b = true then g ρ S else .ok false S := by cases b <;> rfl
@[simp] theorem kOrF_b {g : FT} {b : Bool} : kOrF g ρ b S = if b = true then .ok true S else g ρ S := by cases b <;> rfl
@[simp] theorem andAt_b {g : FE} {d : D} {b : Bool} : andAt g ρ d S (some b) = if b = true then g ρ S else .ok d S := by cases b <;> rfl
@[simp] theorem orAt_b {g : FE} {d : D} {b : Bool} : orAt g ρ d S (some b) = if b = true then .ok d S else g ρ S := by cases b <;> rfl
@[simp] theorem kCh3_b {h' : F2} {k : FE} {e : D} {b : Bool} : kCh3 h' k ρ e (.bl b) S = if b = true then (k ρ S).bind (h' e) else .ok (.bl false) S := by cases b <;> rfl
@[simp] theorem lcB_b {tg : FG} {t : FT} {e : FE} {ds acc : List D} {ρ1 : Ev} {b : Bool} : lcB tg t e ρ ρ1 ds acc b S = if b = true then (e ρ1 S).nox.bind (lcC tg t e ρ ds acc) else lcRun tg t e ρ ds acc S := by cases b <;> rfl
@[simp] theorem len_ite {α : Type} {c : Prop} [Decidable c] {xs ys : List α} : (if c then xs else ys).length = if c then xs.length else ys.length := by split <;> rfl
@[simp] theorem add_iteN {c : Prop} [Decidable c] {a x y : Nat} : a + (if c then x else y) = if c then a + x else a + y := by split <;> rfl
@[simp] theorem ite_addN {c : Prop} [Decidable c] {a x y : Nat} : (if c then x else y) + a = if c then x + a else y + a := by split <;> rfl
@[simp] theorem ite_leN {c : Prop} [Decidable c] {a x y : Nat} : ((if c then x else y) ≤ a) = if c then x ≤ a else y ≤ a := by split <;> rfl
@[simp] theorem fMulFF_p {c : Prop} [Decidable c] {d : D} : fMulFF (.clist [d]) (.int (if c then 1 else 0)) S = .ok (.clist (if c then [d] else [])) S := by split <;> rfl
/-- a loop that answers True at the first thing of a kind, and False behind it -/
theorem for_any {α : Type} {tg : FG} {g : FS} (enc : α → D) (P : α → Bool) (I : Ev → Prop) : ∀ (xs : List α) (ρ : Ev), I ρ → (∀ x ∈ xs, ∀ ρ, I ρ → ∃ ρ1, tg (enc x) ρ = some ρ1 ∧ (P x = true → g ρ1 S = .rt (.bl true) S) ∧ (P x = false → ∃ ρ2, g ρ1 S = .nx ρ2 S ∧ I ρ2)) →
    (xs.any P = true ∧ forRun tg g (xs.map enc) ρ S = .rt (.bl true) S) ∨ (xs.any P = false ∧ ∃ ρ', I ρ' ∧ forRun tg g (xs.map enc) ρ S = .nx ρ' S)
  | [], ρ, h, _ => .inr ⟨rfl, ρ, h, rfl⟩
  | x :: xs, ρ, h, k => by
    obtain ⟨ρ1, e1, e2, e3⟩ := k x (by simp) ρ h
    rw [List.map_cons, forRun_cons, e1, frA_some, List.any_cons]
    cases hp : P x with
    | true => rw [e2 hp]; exact .inl ⟨rfl, rfl⟩
    | false =>
      obtain ⟨ρ2, e4, h2⟩ := e3 hp
      rw [e4, frB_nx]
      simpa using for_any enc P I xs ρ2 h2 fun y hy => k y (by simp [hy])
theorem for_any_ret {α : Type} {tg : FG} {g : FS} {enc : α → D} {xs : List α} (P : α → Bool) (I : Ev → Prop) (h : I ρ) (k : ∀ x ∈ xs, ∀ ρ, I ρ → ∃ ρ1, tg (enc x) ρ = some ρ1 ∧ (P x = true → g ρ1 S = .rt (.bl true) S) ∧ (P x = false → ∃ ρ2, g ρ1 S = .nx ρ2 S ∧ I ρ2)) :
    ((forRun tg g (xs.map enc) ρ S).seq (sRet (xC (.bl false)))).ret = .ok (.bl (xs.any P)) S := by
  rcases for_any enc P I xs ρ h k with ⟨a, b⟩ | ⟨a, ρ', _, b⟩ <;> rw [a, b] <;> rfl
/-! calls that forget -/
theorem Keeps.refl : Keeps S S := fun i o h => ⟨o, h, .inl rfl⟩
theorem Keeps.app {T : Sg} : Keeps S (S ++ T) := fun i o h => ⟨o, by rw [List.getElem?_append_left (List.getElem?_eq_some_iff.mp h).1]; exact h, .inl rfl⟩
theorem gcF_same {F : FF} {ds : List D} {d : D} {S1 : Sg} (h : F ds S = .ok d S1) (hl : S1.length = S.length) : gcF F ds S = .ok d S1 := by
  unfold gcF
  rw [h]
  simp only [gcR, if_pos hl]
theorem gcF_drop {F : FF} {ds : List D} {d : D} {T : Sg} (h : F ds S = .ok d (S ++ T)) (hb : bel S.length d = true) : gcF F ds S = .ok d S := by
  unfold gcF
  rw [h]
  simp only [gcR]
  split
  · rename_i hl
    have : T = [] := by simpa using hl
    subst this
    simp
  · simp [Keeps.app, hb]
theorem gcF_list {F : FF} {ds : List D} {T : Sg} {k : Nat} {xs : List D} (h : F ds S = .ok (.ref k) (S ++ T)) (hk : S.length ≤ k) (hx : (S ++ T)[k]? = some (.lst xs)) (hb : belA S.length xs = true) : gcF F ds S = .ok (.clist xs) S := by
  unfold gcF
  rw [h]
  simp only [gcR]
  split
  · rename_i hl
    have : T = [] := by simpa using hl
    subst this
    rw [List.getElem?_eq_none (by simpa using hk)] at hx
    cases hx
  · rw [if_pos Keeps.app, if_neg (by simp only [bel, decide_eq_true_eq]; omega)]
    simp only [frzN, hx]
    rw [if_pos ⟨hk, hb⟩]
    simp
/-- older objects may have changed -/
theorem gcF_keep {F : FF} {ds : List D} {d : D} {S1 : Sg} (h : F ds S = .ok d S1) (k : Keeps S S1) (hb : bel S.length d = true) : gcF F ds S = .ok d (S1.take S.length) := by
  unfold gcF
  rw [h]
  simp only [gcR]
  split
  · rename_i hl
    rw [← hl, List.take_length]
  · simp [k, hb]
end
end Dx

/-! Sz: rows for errors, lambdas. -/
namespace Dx
open PySem L2
section
variable {α β : Type} {c : Nat} {fs : List (String × D)} {ρ ρ' : Ev} {S : Sg}
@[simp] theorem exc_go {k : α → Sg → Fl} : (R.exc c fs S : R α).go ρ k = .exc c fs ρ S := rfl
@[simp] theorem seq_exc {h : FS} : (Fl.exc c fs ρ S).seq h = .exc c fs ρ S := rfl
@[simp] theorem ret_exc : (Fl.exc c fs ρ S).ret = .exc c fs S := rfl
@[simp] theorem frB_exc {tg : FG} {g : FS} {ds : List D} : frB tg g ds (.exc c fs ρ S) = .exc c fs ρ S := rfl
def kCallA (F : (Nat → Sg → R D) → FF) (bodies : Nat → FE) (ρ : Ev) (ds : List D) (S : Sg) : R D := if ds.length = 1 then F (fun n S => bodies n ρ S) ds S else .stuck
@[simp] theorem xCallA_at {F : (Nat → Sg → R D) → FF} {bodies : Nat → FE} {g : FA} : xCallA F bodies g ρ S = (g ρ S).bind (kCallA F bodies ρ) := rfl
@[simp] theorem kCallA_at {F : (Nat → Sg → R D) → FF} {bodies : Nat → FE} {d : D} : kCallA F bodies ρ [d] S = F (fun n S => bodies n ρ S) [d] S := rfl
end
theorem nf_of {K : PySem.W.Frag} {x f : Str} {C : Addr} (_ : PySem.W.nsIn K mainGlobals x = some (some (.ref C))) (h : PySem.W.findIn K (.ref C) f = some none) : PySem.W.findIn K (.ref C) f = some none := h
@[simp] theorem kEf_none {a dd : Nat} {f : String} {S : Sg} {o : Option (Option D)} (h : ∀ a' d ks xs, o ≠ some (some (.exv a' d ks xs))) : kEf a dd f S o = .stuck := by
  match o with
  | none => rfl
  | some none => rfl
  | some (some d) => cases d <;> first | rfl | exact absurd rfl (h _ _ _ _)
end Dx

/-! So: rows for own objects, lists laid, minus. -/
namespace Dx
open PySem L2
section
variable {ρ : Ev} {S : Sg}
def fldAt (n : String) (c : Nat) (S : Sg) : Option O → R D
  | some (.obj c' fs) => if c' = c then outD S (getF fs n) else .stuck
  | _ => .stuck
def kFld1 (c : Nat) (n : String) : D → Sg → R D
  | .ref m, S => fldAt n c S S[m]?
  | _, _ => .stuck
@[simp] theorem xFld_at {c : Nat} {f : FE} {n : String} : xFld c f n ρ S = (f ρ S).bind (kFld1 c n) := by
  unfold xFld
  congr 1
  funext d S
  cases d <;> first | rfl | (simp only [kFld1, fldAt]; split <;> rename_i h <;> simp [h])
@[simp] theorem kFld1_ref {c m : Nat} {n : String} : kFld1 c n (.ref m) S = fldAt n c S S[m]? := rfl
@[simp] theorem fldAt_obj {n : String} {c : Nat} {fs : List (String × D)} : fldAt n c S (some (.obj c fs)) = outD S (getF fs n) := by simp [fldAt]
def fldSAt (n : String) (c : Nat) (ρ : Ev) (d : D) (m : Nat) (S : Sg) : Option O → Fl
  | some (.obj c' fs) => if c' = c ∧ fs.length < 1000 then .nx ρ (S.set m (.obj c' (putFD n d fs))) else .stuck
  | _ => .stuck
def kFldS2 (n : String) (c : Nat) (ρ : Ev) (d : D) : D → Sg → Fl
  | .ref m, S => fldSAt n c ρ d m S S[m]?
  | _, _ => .stuck
def kFldS1 (n : String) (c : Nat) (fo : FE) (ρ : Ev) (d : D) (S : Sg) : Fl := (fo ρ S).go ρ (kFldS2 n c ρ d)
@[simp] theorem sFldS_at {c : Nat} {f fo : FE} {n : String} : sFldS c f fo n ρ S = (f ρ S).go ρ (kFldS1 n c fo ρ) := by
  unfold sFldS
  congr 1
  funext d S
  unfold kFldS1
  congr 1
  funext o S
  cases o <;> first | rfl | (simp only [kFldS2, fldSAt]; split <;> rename_i h <;> simp [h])
@[simp] theorem kFldS1_at {n : String} {c : Nat} {fo : FE} {d : D} : kFldS1 n c fo ρ d S = (fo ρ S).go ρ (kFldS2 n c ρ d) := rfl
@[simp] theorem kFldS2_ref {n : String} {c m : Nat} {d : D} : kFldS2 n c ρ d (.ref m) S = fldSAt n c ρ d m S S[m]? := rfl
@[simp] theorem fldSAt_obj {n : String} {c m : Nat} {d : D} {fs : List (String × D)} (h : fs.length < 1000) : fldSAt n c ρ d m S (some (.obj c fs)) = .nx ρ (S.set m (.obj c (putFD n d fs))) := by simp [fldSAt, h]
def mkR (m : Nat) : R D → R D
  | .ok .non S => .ok (.ref m) S
  | .exc c fs S => .exc c fs S
  | _ => .stuck
def kMk (c n : Nat) (F : FF) (ds : List D) (S : Sg) : R D := if ds.length = n then mkR S.length (F (.ref S.length :: ds) (S ++ [.obj c []])) else .stuck
@[simp] theorem xMake_at {c n : Nat} {F : FF} {g : FA} : xMake c n F g ρ S = (g ρ S).bind (kMk c n F) := by
  unfold xMake
  congr 1
@[simp] theorem mkR_ok {m : Nat} : mkR m (.ok .non S) = .ok (.ref m) S := rfl
def kMe2 (n : Nat) (F : FF) (o : D) (ds : List D) (S : Sg) : R D := if ds.length = n then F (o :: ds) S else .stuck
def kMe1 (c : Nat) (m : String) (n : Nat) (F : FF) (g : FA) (ρ : Ev) (o : D) (S : Sg) : R D := if insD S c m o = true then (g ρ S).bind (kMe2 n F o) else .stuck
@[simp] theorem xMeth_at {c n : Nat} {m : String} {F : FF} {f : FE} {g : FA} : xMeth c m n F f g ρ S = (f ρ S).bind (kMe1 c m n F g ρ) := rfl
@[simp] theorem kMe1_at {c n : Nat} {m : String} {F : FF} {g : FA} {o : D} : kMe1 c m n F g ρ o S = if insD S c m o = true then (g ρ S).bind (kMe2 n F o) else .stuck := rfl
@[simp] theorem kMe2_at {n : Nat} {F : FF} {o : D} {ds : List D} : kMe2 n F o ds S = if ds.length = n then F (o :: ds) S else .stuck := rfl
@[simp] theorem cListD_tup {xs : List D} : cListD [.tup xs] S = newO (.lst xs) S := rfl
theorem mApp_at {n : Nat} {y : D} {xs : List D} (h : S[n]? = some (.lst xs)) (hl : xs.length < 16777216) : mApp (.ref n) [y] S = .ok .non (S.set n (.lst (xs ++ [y]))) := by
  unfold mApp
  simp [h, hl]
def kNeg : D → Sg → R D
  | .int i, S => .ok (.int (-i)) S
  | _, _ => .stuck
@[simp] theorem xNeg_at {f : FE} : xNeg f ρ S = (f ρ S).bind kNeg := by
  unfold xNeg
  congr 1
  funext d S
  cases d <;> rfl
@[simp] theorem kNeg_int {i : Int} : kNeg (.int i) S = .ok (.int (-i)) S := rfl
end
end Dx

/-! A1: the draws; values alike. -/
namespace Law
open Dx L2
/-! ### the row of draws -/
def RowO (ns : List Int) (p s r : Int) : O := .lst [.slist ns, .int p, .int s, .int r]
def IsRow (n : Nat) (S : Sg) : Prop := ∃ (ns : List Int) (p s r : Int), 0 ≤ p ∧ S[n]? = some (RowO ns p s r) ∧ ns.length ≤ 63
theorem IsRow.lt {n : Nat} {S : Sg} (h : IsRow n S) : n < S.length := by
  obtain ⟨ns, p, s, r, _, h, _⟩ := h
  exact (List.getElem?_eq_some_iff.mp h).1
/-- what a draw does to a store: the row stays a row, nothing else is changed -/
structure Dr (n : Nat) (S S' : Sg) : Prop where
  row : IsRow n S'
  len : S'.length = S.length
  keep : ∀ (i : Nat), i ≠ n → S'[i]? = S[i]?
theorem Dr.refl {n : Nat} {S : Sg} (h : IsRow n S) : Dr n S S := ⟨h, rfl, fun _ _ => rfl⟩
theorem Dr.trans {n : Nat} {S S1 S2 : Sg} (h : Dr n S S1) (k : Dr n S1 S2) : Dr n S S2 := ⟨k.row, k.len.trans h.len, fun i a => (k.keep i a).trans (h.keep i a)⟩
theorem Dr.set {n : Nat} {S : Sg} {o : O} (h : IsRow n (S.set n o)) : Dr n S (S.set n o) := ⟨h, by simp, fun i a => by rw [List.getElem?_set_ne (Ne.symm a)]⟩
theorem IsRow.app {n : Nat} {S T : Sg} (h : IsRow n S) : IsRow n (S ++ T) := by
  obtain ⟨ns, p, s, r, a, h, b⟩ := h
  exact ⟨ns, p, s, r, a, by rw [List.getElem?_append_left (List.getElem?_eq_some_iff.mp h).1]; exact h, b⟩
/-- a call that draws, and leaves things behind -/
theorem gcF_dr {n : Nat} {F : FF} {ds : List D} {d : D} {S S1 : Sg} (h : F ds S = .ok d S1) (hr : IsRow n S1) (hn : n < S.length) (hl : S.length ≤ S1.length) (keep : ∀ i, i < S.length → i ≠ n → S1[i]? = S[i]?) (hb : bel S.length d = true) : ∃ S', gcF F ds S = .ok d S' ∧ Dr n S S' := by
  refine ⟨S1.take S.length, gcF_keep h (fun i o ho => ?_) hb, ?_, ?_, fun i hi => ?_⟩
  · have hi := (List.getElem?_eq_some_iff.mp ho).1
    by_cases e : i = n
    · subst e
      obtain ⟨ns, p, s, r, _, h1, _⟩ := hr
      exact ⟨_, h1, .inr (by simp [RowO, belO, belA, bel])⟩
    · exact ⟨o, by rw [keep i hi e]; exact ho, .inl rfl⟩
  · obtain ⟨ns, p, s, r, a, h1, b⟩ := hr
    exact ⟨ns, p, s, r, a, by rw [List.getElem?_take_of_lt hn]; exact h1, b⟩
  · simp; omega
  · by_cases h2 : i < S.length
    · rw [List.getElem?_take_of_lt h2]; exact keep i h2 hi
    · rw [List.getElem?_eq_none (by simp; omega), List.getElem?_eq_none (by omega)]
theorem taken_spec {n : Nat} {S : Sg} {m : Int} (h : IsRow n S) (hm : 0 < m) (hm2 : m < 1073741824) : ∃ (i : Int) (o : O), 0 ≤ i ∧ i < m ∧ F__law_taken [.ref n, .int m] S = .ok (.int i) (S.set n o) ∧ IsRow n (S.set n o) := by
  obtain ⟨ns, p0, s, r, hp, hS, hl⟩ := h
  obtain ⟨p, rfl⟩ := Int.eq_ofNat_of_zero_le hp
  unfold RowO at hS
  have hn : n < S.length := (List.getElem?_eq_some_iff.mp hS).1
  have hset : ∀ o : O, (S.set n o)[n]? = some o := fun o => by simp [hn]
  by_cases h0 : 0 < r
  · refine ⟨r % m, .lst [.slist ns, .int p, .int s, .int (r / m)], Int.emod_nonneg _ (by omega), Int.emod_lt_of_pos _ hm, ?_, ?_⟩
    · unfold F__law_taken S__law_taken
      simp [hS, h0, hm, hm2]
    · exact ⟨ns, p, s, r / m, hp, hset _, hl⟩
  · by_cases h1 : (ns.length : Int) < p + 1
    · refine ⟨(s * 48271 + 11) % 2147483647 / 7 % m, .lst [.slist ns, .int (p + 1), .int ((s * 48271 + 11) % 2147483647), .int r], Int.emod_nonneg _ (by omega), Int.emod_lt_of_pos _ hm, ?_, ?_⟩
      · unfold F__law_taken S__law_taken
        simp [hS, h0, hm, hm2, hset, h1, cLen_slist]
      · exact ⟨ns, p + 1, (s * 48271 + 11) % 2147483647, r, by omega, hset _, hl⟩
    · have hlt : p < ns.length := by omega
      have hat : atI (ns.map D.int) p = some (.int ns[p]) := by
        rw [atI_cast]
        simp [hlt]
      generalize hc : ns[p] = c at hat
      by_cases h2 : 1000000000000000000 ≤ c
      · refine ⟨c % m, .lst [.slist ns, .int (p + 1), .int ((s * 48271 + c + 11) % 2147483647), .int (c / m)], Int.emod_nonneg _ (by omega), Int.emod_lt_of_pos _ hm, ?_, ?_⟩
        · unfold F__law_taken S__law_taken
          simp [hS, h0, hm, hm2, hset, h1, hat, h2, cLen_slist]
        · exact ⟨ns, p + 1, _, c / m, by omega, hset _, hl⟩
      · refine ⟨c % m, .lst [.slist ns, .int (p + 1), .int ((s * 48271 + c + 11) % 2147483647), .int r], Int.emod_nonneg _ (by omega), Int.emod_lt_of_pos _ hm, ?_, ?_⟩
        · unfold F__law_taken S__law_taken
          simp [hS, h0, hm, hm2, hset, h1, hat, h2, cLen_slist]
        · exact ⟨ns, p + 1, _, r, by omega, hset _, hl⟩
theorem taken_dr {n : Nat} {S : Sg} {m : Int} (h : IsRow n S) (hm : 0 < m) (hm2 : m < 1073741824) : ∃ (i : Nat) (S' : Sg), (i : Int) < m ∧ F__law_taken [.ref n, .int m] S = .ok (.int (i : Int)) S' ∧ Dr n S S' := by
  obtain ⟨i, o, h0, h1, h2, h3⟩ := taken_spec h hm hm2
  obtain ⟨j, rfl⟩ := Int.eq_ofNat_of_zero_le h0
  exact ⟨j, _, h1, h2, Dr.set h3⟩
theorem pick_lst {n : Nat} {S : Sg} {xs : List D} (h : IsRow n S) (h0 : 0 < xs.length) (h1 : xs.length < 1073741824) : ∃ (x : D) (S' : Sg), x ∈ xs ∧ F__law_pick [.ref n, .clist xs] S = .ok x S' ∧ Dr n S S' := by
  obtain ⟨i, S', a, b, c⟩ := taken_dr (m := xs.length) h (by omega) (by omega)
  have hi : i < xs.length := by omega
  refine ⟨xs[i], S', List.getElem_mem hi, ?_, c⟩
  unfold F__law_pick S__law_pick
  simp -implicitDefEqProofs [b, atI_cast, hi]
theorem pick_enc {α : Type} (enc : α → D) {n : Nat} {S : Sg} (xs : List α) (h : IsRow n S) (h0 : 0 < xs.length := by decide) (h1 : xs.length < 1073741824 := by decide) : ∃ (x : α) (S' : Sg), x ∈ xs ∧ F__law_pick [.ref n, .clist (xs.map enc)] S = .ok (enc x) S' ∧ Dr n S S' := by
  obtain ⟨x, S', a, b, c⟩ := pick_lst (xs := xs.map enc) h (by simpa using h0) (by simpa using h1)
  obtain ⟨y, hy, rfl⟩ := List.mem_map.mp a
  exact ⟨y, S', hy, b, c⟩
/-! ### alike -/
inductive Alk : Nat → D → D → Prop
  | non {n : Nat} : Alk n .non .non
  | bl {n : Nat} (b : Bool) : Alk n (.bl b) (.bl b)
  | int {n : Nat} (i : Int) : Alk n (.int i) (.int i)
  | str {n : Nat} (s : String) : Alk n (.str s) (.str s)
  | tup {n : Nat} {d e : D} {xs ys : List D} : tupOf d = some xs → tupOf e = some ys → xs.length = ys.length → (∀ (i : Nat) (x y : D), xs[i]? = some x → ys[i]? = some y → Alk n x y) → ys.length < 1000000 → Alk (n + 1) d e
  | lst {n : Nat} {xs ys : List D} : xs.length = ys.length → (∀ (i : Nat) (x y : D), xs[i]? = some x → ys[i]? = some y → Alk n x y) → ys.length < 1000000 → Alk (n + 1) (.clist xs) (.clist ys)
theorem ixSeq_get {S : Sg} {xs : List D} {i : Nat} {x : D} (h : xs[i]? = some x) : ixSeq S xs (.int i) = .ok x S := by
  rw [ixSeq_int, atI_cast, h]
  rfl
theorem intsD_map (n : Nat) : intsD 0 n = (List.range n).map fun i => D.int (i : Nat) := by
  unfold intsD
  simp
theorem alike_seq {n : Nat} {S : Sg} {d e : D} {xs ys : List D} (ih : ∀ (d e : D), Alk n d e → F__law_alike (n + 1) [d, e] S = .ok (.bl true) S) (hx : ∀ (i : Nat) (x : D), xs[i]? = some x → fIx d (.int (i : Nat)) S = .ok x S) (hy : ∀ (i : Nat) (y : D), ys[i]? = some y → fIx e (.int (i : Nat)) S = .ok y S) (hl : xs.length = ys.length)
    (hk : ∀ (i : Nat) (x y : D), xs[i]? = some x → ys[i]? = some y → Alk n x y) (hb : ys.length < 1000000) :
    kLcF [2] (gNm 2) (tNotF (tTru (xCall (F__law_alike (n + 1)) 2 (aCons (x2 fIx (xVar 0) (xVar 2)) (aCons (x2 fIx (xVar 1) (xVar 2)) aNil))))) (xVar 2) [some d, some e, none] (.its (intsD 0 ys.length)) S = .ok (.clist []) S := by
  rw [kLcF_its, intsD_map, lcRun_map (fun i : Nat => D.int i) (fun _ => false) (fun _ => .non)]
  · simp
  · intro i hi
    have hi := List.mem_range.mp hi
    have ex : xs[i]? = some xs[i] := by simp [hl, hi]
    have ey : ys[i]? = some ys[i] := by simp [hi]
    refine ⟨[some d, some e, some (.int i)], rfl, ?_, fun z => nomatch z⟩
    simp [hx _ _ ex, hy _ _ ey, ih _ _ (hk i _ _ ex ey)]
  · simp; omega
theorem tup_facts {d : D} {xs : List D} (h : tupOf d = some xs) : (∀ T : Sg, tyD T d = some "tuple") ∧ (∀ T : Sg, cLen [d] T = .ok (.int xs.length) T) ∧ ∀ (T : Sg) (e : D), fIx d e T = ixSeq T xs e := by
  cases d <;> simp [tupOf] at h <;> subst h <;> exact ⟨fun _ => rfl, fun _ => rfl, fun _ _ => rfl⟩
theorem eq_nil {V : Sg} : fEqF false (.clist []) (.clist []) V = .ok (.bl true) V := rfl
theorem alike_ok : ∀ (n : Nat) (S : Sg) (d e : D), Alk n d e → F__law_alike (n + 1) [d, e] S = .ok (.bl true) S := by
  intro n
  induction n with
  | zero =>
    intro S d e h
    unfold F__law_alike S__law_alike
    cases h <;> simp -implicitDefEqProofs [isaT, isNonD]
  | succ n ih =>
    intro S d e h
    cases h with
    | non => unfold F__law_alike S__law_alike; simp -implicitDefEqProofs [isaT, isNonD]
    | bl b => unfold F__law_alike S__law_alike; simp -implicitDefEqProofs [isaT, isNonD]
    | int i => unfold F__law_alike S__law_alike; simp -implicitDefEqProofs [isaT, isNonD]
    | str s => unfold F__law_alike S__law_alike; simp -implicitDefEqProofs [isaT, isNonD]
    | @tup _ _ _ xs ys a b c k l =>
      obtain ⟨d1, d2, d3⟩ := tup_facts a
      obtain ⟨e1, e2, e3⟩ := tup_facts b
      have hT := alike_seq (d := d) (e := e) (ih S) (fun i x hx => by rw [d3, ixSeq_get hx]) (fun i y hy => by rw [e3, ixSeq_get hy]) c k l
      have hk1 : ∀ S : Sg, kR1 [.int (ys.length : Nat)] S = .ok (.its (intsD 0 ys.length)) S := fun S => kR1_nat (by omega)
      unfold F__law_alike S__law_alike
      simp -implicitDefEqProofs [-kLcF_its, d1, e1, isaT, d2, e2, c, hk1, hT, eq_nil]
    | @lst _ xs ys c k l =>
      have hT := alike_seq (d := .clist xs) (e := .clist ys) (ih S) (fun i x hx => ixSeq_get hx) (fun i y hy => ixSeq_get hy) c k l
      have hk1 : ∀ S : Sg, kR1 [.int (ys.length : Nat)] S = .ok (.its (intsD 0 ys.length)) S := fun S => kR1_nat (by omega)
      unfold F__law_alike S__law_alike
      simp -implicitDefEqProofs [-kLcF_its, isaT, c, hk1, hT, eq_nil]
end Law

/-! C1: instructions, states, one step. -/
namespace Law
open Dx L2
inductive In where
  | set (d v : Nat)
  | sum (d a b v : Nat)
  | get (d a k : Nat)
  | put (d a k : Nat)
  | iff (a t : Nat)
  | shw (a : Nat)
  deriving DecidableEq, Inhabited
def In.d : In → D
  | .set d v => .tup [.str "set", .int d, .int v]
  | .sum d a b v => .tup [.str "sum", .int d, .int a, .int b, .int v]
  | .get d a k => .tup [.str "get", .int d, .int a, .int k]
  | .put d a k => .tup [.str "put", .int d, .int a, .int k]
  | .iff a t => .tup [.str "if", .int a, .int t]
  | .shw a => .tup [.str "show", .int a]
/-- as an instruction of a program of n may be -/
def In.ok (n : Nat) : In → Prop
  | .set d v => d < 8 ∧ v < 256
  | .sum d a b v => d < 8 ∧ a < 8 ∧ b < 8 ∧ v < 256
  | .get d a k => d < 8 ∧ a < 8 ∧ k < 8
  | .put d a k => d < 8 ∧ a < 8 ∧ k < 8
  | .iff a t => a < 8 ∧ t ≤ n ∧ t ≤ 40
  | .shw a => a < 8
/-- the i-th, 0 behind the end -/
def at0 (l : List Int) (i : Nat) : Int := l.getD i 0
structure Stt where
  n : List Int
  c : List Int
  o : List Int
structure Stt.ok (s : Stt) : Prop where
  n8 : s.n.length = 8
  c8 : s.c.length = 8
def cellM (s : Stt) (a k : Nat) : Nat := ((at0 s.n a + k) % 8).toNat
def stepM (s : Stt) (at_ : Nat) : In → Stt × Nat
  | .set d v => ({ s with n := s.n.set d v }, at_ + 1)
  | .sum d a b v => ({ s with n := s.n.set d ((at0 s.n a + at0 s.n b + v) % 256) }, at_ + 1)
  | .get d a k => ({ s with n := s.n.set d (at0 s.c (cellM s a k)) }, at_ + 1)
  | .put d a k => ({ s with c := s.c.set (cellM s a k) (at0 s.n d) }, at_ + 1)
  | .iff a t => (s, if at0 s.n a = 0 then t else at_ + 1)
  | .shw a => ({ s with o := s.o ++ [at0 s.n a] }, at_ + 1)
theorem stepM_ok {s : Stt} {at_ : Nat} {i : In} (h : s.ok) : (stepM s at_ i).1.ok := by
  cases i <;> exact ⟨by simp [stepM, h.n8], by simp [stepM, h.c8]⟩
theorem cellM_lt {s : Stt} {a k : Nat} : cellM s a k < 8 := by
  unfold cellM
  have := Int.emod_lt_of_pos (at0 s.n a + k) (show (0 : Int) < 8 by decide)
  have := Int.emod_nonneg (at0 s.n a + k) (show (8 : Int) ≠ 0 by decide)
  omega
theorem cellM_int {s : Stt} {a k : Nat} : ((cellM s a k : Nat) : Int) = (at0 s.n a + k) % 8 := by
  unfold cellM
  have := Int.emod_nonneg (at0 s.n a + k) (show (8 : Int) ≠ 0 by decide)
  omega
/-! ### readings -/
theorem ints_get {S : Sg} {n : Nat} {xs : List Int} {i : Nat} (h : S[n]? = some (.lst (xs.map .int))) (hi : i < xs.length) : fIx (.ref n) (.int (i : Int)) S = .ok (.int (at0 xs i)) S := by
  simp [h, atI_cast, hi, at0]
theorem up_set {S : Sg} : fIx k_USED_PLACES (.str "set") S = .ok (.ktup []) S := rfl
theorem up_sum {S : Sg} : fIx k_USED_PLACES (.str "sum") S = .ok (.ktup [.int 2, .int 3]) S := rfl
theorem up_get {S : Sg} : fIx k_USED_PLACES (.str "get") S = .ok (.ktup [.int 2]) S := rfl
theorem up_put {S : Sg} : fIx k_USED_PLACES (.str "put") S = .ok (.ktup [.int 2, .int 1]) S := rfl
theorem up_if {S : Sg} : fIx k_USED_PLACES (.str "if") S = .ok (.ktup [.int 1]) S := rfl
theorem up_show {S : Sg} : fIx k_USED_PLACES (.str "show") S = .ok (.ktup [.int 1]) S := rfl
/-- the registers that an instruction uses -/
def In.us : In → List Nat
  | .set _ _ => []
  | .sum _ a b _ => [a, b]
  | .get _ a _ => [a]
  | .put d a _ => [a, d]
  | .iff a _ => [a]
  | .shw a => [a]
def numsD (l : List Nat) : List D := l.map fun i => .int (i : Nat)
theorem used_ok {S : Sg} (i : In) : F_registers_used [i.d] S = .ok (.tup (numsD i.us)) S := by
  unfold F_registers_used S_registers_used
  cases i <;> simp -implicitDefEqProofs [In.d, up_set, up_sum, up_get, up_put, up_if, up_show, wipeD, In.us, numsD]
theorem at_m2 {a b : D} : atI [a, b] (-2) = some a := rfl
theorem at_m3 {a b c : D} : atI [a, b, c] (-2) = some b := rfl
theorem at_m4 {a b c d : D} : atI [a, b, c, d] (-2) = some c := rfl
theorem uses_ok {S : Sg} (i : In) : F__law_uses [i.d] S = .ok (.clist (numsD i.us)) S := by
  unfold F__law_uses S__law_uses
  cases i <;> simp -implicitDefEqProofs [In.d, In.us, numsD, at_m2, at_m3, at_m4]
theorem in_wk {S : Sg} {a : String} : fInF false (.str a) k_WRITING_KINDS S = .ok (.bl (decide (a = "set") || decide (a = "sum") || decide (a = "get"))) S := by
  have := inF_ktup (neg := false) (a := a) (ss := ["set", "sum", "get"]) (S := S)
  simp only [List.map_cons, List.map_nil] at this
  unfold k_WRITING_KINDS
  rw [this]
  simp [eq_comm, Bool.or_assoc]
theorem in_wl {S : Sg} {a : String} : fInF false (.str a) (.clist [.str "set", .str "sum", .str "get"]) S = .ok (.bl (decide (a = "set") || decide (a = "sum") || decide (a = "get"))) S := by
  have := inF_lst (neg := false) (a := a) (ss := ["set", "sum", "get"]) (S := S)
  simp only [List.map_cons, List.map_nil] at this
  rw [this]
  simp [eq_comm, Bool.or_assoc]
/-- what it writes -/
def In.wr : In → D
  | .set d _ => .int d
  | .sum d _ _ _ => .int d
  | .get d _ _ => .int d
  | _ => .non
theorem written_ok {S : Sg} (i : In) : F_register_written [i.d] S = .ok i.wr S := by
  unfold F_register_written S_register_written
  cases i <;> simp -implicitDefEqProofs [In.d, in_wk, In.wr]
theorem writes_ok {S : Sg} (i : In) : F__law_writes [i.d] S = .ok i.wr S := by
  unfold F__law_writes S__law_writes
  cases i <;> simp -implicitDefEqProofs [In.d, in_wl, In.wr]
end Law

/-! C2: one step of the program. -/
namespace Law
open Dx L2
theorem used_set {S : Sg} {d v : Nat} : F_registers_used [.tup [.str "set", .int d, .int v]] S = .ok (.tup []) S := used_ok (.set d v)
theorem used_sum {S : Sg} {d a b v : Nat} : F_registers_used [.tup [.str "sum", .int d, .int a, .int b, .int v]] S = .ok (.tup [.int a, .int b]) S := used_ok (.sum d a b v)
theorem used_get {S : Sg} {d a k : Nat} : F_registers_used [.tup [.str "get", .int d, .int a, .int k]] S = .ok (.tup [.int a]) S := used_ok (.get d a k)
theorem used_put {S : Sg} {d a k : Nat} : F_registers_used [.tup [.str "put", .int d, .int a, .int k]] S = .ok (.tup [.int a, .int d]) S := used_ok (.put d a k)
theorem used_iff {S : Sg} {a t : Nat} : F_registers_used [.tup [.str "if", .int a, .int t]] S = .ok (.tup [.int a]) S := used_ok (.iff a t)
theorem used_shw {S : Sg} {a : Nat} : F_registers_used [.tup [.str "show", .int a]] S = .ok (.tup [.int a]) S := used_ok (.shw a)
theorem wr_set {S : Sg} {d v : Nat} : F_register_written [.tup [.str "set", .int d, .int v]] S = .ok (.int d) S := written_ok (.set d v)
theorem wr_sum {S : Sg} {d a b v : Nat} : F_register_written [.tup [.str "sum", .int d, .int a, .int b, .int v]] S = .ok (.int d) S := written_ok (.sum d a b v)
theorem wr_get {S : Sg} {d a k : Nat} : F_register_written [.tup [.str "get", .int d, .int a, .int k]] S = .ok (.int d) S := written_ok (.get d a k)
theorem cell_ok {S : Sg} {x y z : D} {w : Int} {k : Nat} {r : List D} : F_cell_told [.tup [x, y, z, .int k], .clist (.int w :: r)] S = .ok (.int ((w + k) % 8)) S := by
  unfold F_cell_told S_cell_told
  simp -implicitDefEqProofs [k_CELLS]
def objA (m : Nat) (s : Stt) : O := .obj 0 [("registers", .ref (m + 1)), ("cells", .ref (m + 2)), ("shown", .tup (s.o.map .int))]
def stA (T : Sg) (s : Stt) : Sg := T ++ [objA T.length s, .lst (s.n.map .int), .lst (s.c.map .int)]
theorem stA_0 {T : Sg} {s : Stt} : (stA T s)[T.length]? = some (.obj 0 [("registers", .ref (T.length + 1)), ("cells", .ref (T.length + 2)), ("shown", .tup (s.o.map .int))]) := by simp [stA, objA]
theorem stA_1 {T : Sg} {s : Stt} : (stA T s)[T.length + 1]? = some (.lst (s.n.map .int)) := by simp [stA]
theorem stA_2 {T : Sg} {s : Stt} : (stA T s)[T.length + 2]? = some (.lst (s.c.map .int)) := by simp [stA]
theorem stA_sn {T : Sg} {s : Stt} {l : List Int} : (stA T s).set (T.length + 1) (.lst (l.map .int)) = stA T { s with n := l } := by simp [stA, objA]
theorem stA_sc {T : Sg} {s : Stt} {l : List Int} : (stA T s).set (T.length + 2) (.lst (l.map .int)) = stA T { s with c := l } := by simp [stA, objA]
theorem stA_so {T : Sg} {s : Stt} {l : List Int} : (stA T s).set T.length (.obj 0 [("registers", .ref (T.length + 1)), ("cells", .ref (T.length + 2)), ("shown", .tup (l.map .int))]) = stA T { s with o := l } := by simp [stA, objA]
theorem gf_r {x y z : D} : getF [("registers", x), ("cells", y), ("shown", z)] "registers" = some x := by simp [getF]
theorem gf_c {x y z : D} : getF [("registers", x), ("cells", y), ("shown", z)] "cells" = some y := by simp [getF]
theorem gf_s {x y z : D} : getF [("registers", x), ("cells", y), ("shown", z)] "shown" = some z := by simp [getF]
theorem pf_s {x y z w : D} : putFD "shown" w [("registers", x), ("cells", y), ("shown", z)] = [("registers", x), ("cells", y), ("shown", w)] := by simp [putFD]
theorem ix8 {xs : List D} {i : Nat} (h : xs.length = 8) (hi : i < 8) : ixN xs.length (i : Int) = some i := by
  unfold ixN
  simp [h]
  omega
theorem show_ok {T : Sg} {s : Stt} {w : Int} (hl : s.o.length < 100000) : F_Store_show [.ref T.length, .int w] (stA T s) = .ok .non (stA T { s with o := s.o ++ [w] }) := by
  unfold F_Store_show S_Store_show
  have hlen : s.o.length + 1 ≤ 16777216 := by omega
  have e := stA_so (T := T) (s := s) (l := s.o ++ [w])
  simp only [List.map_append, List.map_cons, List.map_nil] at e
  simp -implicitDefEqProofs [stA_0, gf_s, pf_s, hlen, e]
end Law

/-! C3: step, after. -/
namespace Law
open Dx L2
theorem stA_sn' {T : Sg} {s : Stt} {d : Nat} {w : Int} : (stA T s).set (T.length + 1) (.lst ((s.n.map .int).set d (.int w))) = stA T { s with n := s.n.set d w } := by
  have := stA_sn (T := T) (s := s) (l := s.n.set d w)
  rw [List.map_set] at this
  exact this
theorem stA_sc' {T : Sg} {s : Stt} {d : Nat} {w : Int} : (stA T s).set (T.length + 2) (.lst ((s.c.map .int).set d (.int w))) = stA T { s with c := s.c.set d w } := by
  have := stA_sc (T := T) (s := s) (l := s.c.set d w)
  rw [List.map_set] at this
  exact this
theorem atI_ints {l : List Int} {i : Nat} (hi : i < l.length) : atI (l.map D.int) (i : Int) = some (.int (at0 l i)) := by
  rw [atI_cast]
  simp [hi, at0]
structure StR (s : Stt) : Prop where
  an : ∀ a : Nat, a < 8 → atI (s.n.map D.int) (a : Int) = some (.int (at0 s.n a))
  ac : ∀ a k : Nat, atI (s.c.map D.int) ((at0 s.n a + k) % 8) = some (.int (at0 s.c (cellM s a k)))
  xn : ∀ a : Nat, a < 8 → ixN s.n.length (a : Int) = some a
  xc : ∀ a k : Nat, ixN s.c.length ((at0 s.n a + k) % 8) = some (cellM s a k)
theorem stR {s : Stt} (hs : s.ok) : StR s where
  an a h := atI_ints (by rw [hs.n8]; exact h)
  ac a k := by
    rw [← cellM_int]
    exact atI_ints (by rw [hs.c8]; exact cellM_lt)
  xn a h := by
    have := ix8 (xs := s.n.map D.int) (by simp [hs.n8]) h
    rw [List.length_map] at this
    exact this
  xc a k := by
    rw [← cellM_int]
    have := ix8 (xs := s.c.map D.int) (by simp [hs.c8]) (cellM_lt (s := s) (a := a) (k := k))
    rw [List.length_map] at this
    exact this
theorem step_ok {T : Sg} {s : Stt} {n at_ : Nat} {i : In} (hs : s.ok) (hi : i.ok n) (hl : s.o.length < 100000) : F_step [.ref T.length, i.d, .int at_] (stA T s) = .ok (.int (stepM s at_ i).2) (stA T (stepM s at_ i).1) := by
  have r := stR hs
  have so := fun w => show_ok (T := T) (s := s) (w := w) hl
  have ins : insD (stA T s) 0 "show" (.ref T.length) = true := by
    unfold insD
    simp [stA_0]
  unfold F_step S_step
  cases i with
  | set d v =>
    obtain ⟨h1, h2⟩ := hi
    have hr : F_result [.ref T.length, .tup [.str "set", .int d, .int v], .clist []] (stA T s) = .ok (.int v) (stA T s) := by
      unfold F_result S_result
      simp -implicitDefEqProofs
    simp -implicitDefEqProofs [In.d, used_set, wr_set, wipeD, hr, stA_0, stA_1, gf_r, stoO, r.xn d h1, stA_sn', stepM]
  | sum d a b v =>
    obtain ⟨h1, h2, h3, h4⟩ := hi
    have hr : F_result [.ref T.length, .tup [.str "sum", .int d, .int a, .int b, .int v], .clist [.int (at0 s.n a), .int (at0 s.n b)]] (stA T s) = .ok (.int ((at0 s.n a + at0 s.n b + v) % 256)) (stA T s) := by
      unfold F_result S_result
      simp -implicitDefEqProofs [k_WORDS]
    simp -implicitDefEqProofs [In.d, used_sum, wr_sum, wipeD, hr, stA_0, stA_1, gf_r, r.an a h2, r.an b h3, stoO, r.xn d h1, stA_sn', stepM]
  | get d a k =>
    obtain ⟨h1, h2, h3⟩ := hi
    have hr : F_result [.ref T.length, .tup [.str "get", .int d, .int a, .int k], .clist [.int (at0 s.n a)]] (stA T s) = .ok (.int (at0 s.c (cellM s a k))) (stA T s) := by
      unfold F_result S_result
      simp -implicitDefEqProofs [stA_0, stA_2, gf_c, cell_ok, r.ac a k]
    simp -implicitDefEqProofs [In.d, used_get, wr_get, wipeD, hr, stA_0, stA_1, gf_r, r.an a h2, stoO, r.xn d h1, stA_sn', stepM]
  | put d a k =>
    obtain ⟨h1, h2, h3⟩ := hi
    simp -implicitDefEqProofs [In.d, used_put, wipeD, stA_0, stA_1, stA_2, gf_r, gf_c, r.an a h2, r.an d h1, cell_ok, stoO, r.xc a k, stA_sc', stepM]
  | iff a t =>
    obtain ⟨h1, h2, h3⟩ := hi
    simp -implicitDefEqProofs [In.d, used_iff, wipeD, stA_0, stA_1, gf_r, r.an a h1, stepM]
    by_cases h : at0 s.n a = 0 <;> simp [h]
  | shw a =>
    have h1 : a < 8 := hi
    simp -implicitDefEqProofs [In.d, used_shw, wipeD, stA_0, stA_1, gf_r, r.an a h1, so, ins, stepM]
end Law

/-! C4: a run. -/
namespace Law
open Dx L2
def Stt.d (s : Stt) : D := .tup [.tup (s.n.map .int), .tup (s.c.map .int), .tup (s.o.map .int)]
def pD (P : List In) : D := .tup (P.map In.d)
/-- at most so many further steps -/
def runM (P : List In) : Nat → Stt → Nat → Nat → Stt × Nat × Nat
  | 0, s, a, dn => (s, a, dn)
  | k + 1, s, a, dn => match P[a]? with
    | some i => runM P k (stepM s a i).1 (stepM s a i).2 (dn + 1)
    | none => (s, a, dn)
theorem init_ok {T : Sg} {s : Stt} : F_Store___init__ [.ref T.length, s.d] (T ++ [.obj 0 []]) = .ok .non (stA T s) := by
  unfold F_Store___init__ S_Store___init__
  simp -implicitDefEqProofs [Stt.d, stA, objA, putFD, newO]
theorem tup_ref {S : Sg} {n : Nat} {xs : List D} (h : S[n]? = some (.lst xs)) : cTuple [.ref n] S = .ok (.tup xs) S := by
  unfold cTuple
  simp only [seqOf, h, tupOf]
theorem told_ok {T : Sg} {s : Stt} : F_Store_told [.ref T.length] (stA T s) = .ok s.d (stA T s) := by
  unfold F_Store_told S_Store_told
  simp -implicitDefEqProofs [stA_0, gf_r, gf_c, gf_s, tup_ref stA_1, tup_ref stA_2, Stt.d]
theorem stepM_o {s : Stt} {a : Nat} {i : In} : (stepM s a i).1.o.length ≤ s.o.length + 1 := by
  cases i <;> simp [stepM]
theorem after_run {T : Sg} {s0 : Stt} (P : List In) (most : Nat) (hm : most < 600) (hP : ∀ i ∈ P, i.ok P.length) (hs : s0.ok) (ho : s0.o.length ≤ 1000) :
    F_after [pD P, s0.d, .int most] T = .ok (.tup [(runM P most s0 0 0).1.d, .int (runM P most s0 0 0).2.1, .int (runM P most s0 0 0).2.2]) (stA T (runM P most s0 0 0).1) := by
  have key : ∃ s a dn, whGo (tAndF (tBl (x2 fLtF (xVar 5) (xVar 2))) (tBl (x2 fLtF (xVar 4) (xB cLen (aCons (xVar 0) aNil)))))
      (sSeq (sSet 4 (xCall F_step 3 (aCons (xVar 3) (aCons (x2 fIx (xVar 0) (xVar 4)) (aCons (xVar 4) aNil))))) (sAug 5 (fI fun i j => .int (i + j)) (xC (.int 1)))) wfuel
      [some (pD P), some s0.d, some (.int most), some (.ref T.length), some (.int 0), some (.int 0)] (stA T s0) = .nx [some (pD P), some s0.d, some (.int most), some (.ref T.length), some (.int (a : Nat)), some (.int (dn : Nat))] (stA T s) ∧ (s, a, dn) = runM P most s0 0 0 := by
    refine wh_inv (fun m ρ S => ∃ (s : Stt) (a dn : Nat), ρ = [some (pD P), some s0.d, some (.int most), some (.ref T.length), some (.int (a : Nat)), some (.int (dn : Nat))] ∧ S = stA T s ∧ s.ok ∧ s.o.length + m ≤ 2000 ∧ dn + m = most ∧ runM P m s a dn = runM P most s0 0 0)
      (fun fl => ∃ s a dn, fl = .nx [some (pD P), some s0.d, some (.int most), some (.ref T.length), some (.int (a : Nat)), some (.int (dn : Nat))] (stA T s) ∧ (s, a, dn) = runM P most s0 0 0) ?_ wfuel most _ _ hm ⟨s0, 0, 0, rfl, rfl, hs, by omega, by omega, rfl⟩
    rintro m ρ S ⟨s, a, dn, rfl, rfl, ok, ol, dm, hr⟩
    cases m with
    | zero =>
      refine .inl ⟨stA T s, ?_, s, a, dn, rfl, hr⟩
      have : ¬ (dn : Int) < most := by omega
      simp -implicitDefEqProofs [this, pD]
    | succ m =>
      have h1 : (dn : Int) < most := by omega
      by_cases hl : a < P.length
      · refine .inr ⟨stA T s, ?_, .inl ⟨[some (pD P), some s0.d, some (.int most), some (.ref T.length), some (.int ((stepM s a P[a]).2 : Nat)), some (.int ((dn + 1 : Nat) : Int))], stA T (stepM s a P[a]).1, m, .inl ?_, by omega, (stepM s a P[a]).1, (stepM s a P[a]).2, dn + 1, rfl, rfl, stepM_ok ok, ?_, by omega, ?_⟩⟩
        · simp -implicitDefEqProofs [h1, hl, pD]
        · have st := step_ok (T := T) (at_ := a) ok (hP _ (List.getElem_mem hl)) (by omega)
          have ix : fIx (pD P) (.int (a : Nat)) (stA T s) = .ok (P[a]).d (stA T s) := by
            unfold pD
            simp [atI_cast, hl]
          simp -implicitDefEqProofs [ix, st]
        · have := stepM_o (s := s) (a := a) (i := P[a])
          omega
        · rw [← hr, runM, List.getElem?_eq_getElem hl]
      · refine .inl ⟨stA T s, ?_, s, a, dn, rfl, ?_⟩
        · simp -implicitDefEqProofs [h1, hl, pD]
        · rw [← hr, runM, List.getElem?_eq_none (by omega)]
  obtain ⟨s, a, dn, e, er⟩ := key
  rw [← er]
  unfold F_after S_after
  have ins : insD (stA T s) 0 "told" (.ref T.length) = true := by
    unfold insD
    simp [stA_0]
  have mk : kMk 0 1 F_Store___init__ [s0.d] T = .ok (.ref T.length) (stA T s0) := by
    unfold kMk
    rw [if_pos (show [s0.d].length = 1 from rfl), init_ok]
    rfl
  simp -implicitDefEqProofs [mk, e, ins, told_ok]
end Law

/-! C5: the law's own run. -/
namespace Law
open Dx L2
theorem uses_set {S : Sg} {d v : Nat} : F__law_uses [.tup [.str "set", .int d, .int v]] S = .ok (.clist []) S := uses_ok (.set d v)
theorem uses_sum {S : Sg} {d a b v : Nat} : F__law_uses [.tup [.str "sum", .int d, .int a, .int b, .int v]] S = .ok (.clist [.int a, .int b]) S := uses_ok (.sum d a b v)
theorem uses_get {S : Sg} {d a k : Nat} : F__law_uses [.tup [.str "get", .int d, .int a, .int k]] S = .ok (.clist [.int a]) S := uses_ok (.get d a k)
theorem uses_put {S : Sg} {d a k : Nat} : F__law_uses [.tup [.str "put", .int d, .int a, .int k]] S = .ok (.clist [.int a, .int d]) S := uses_ok (.put d a k)
theorem uses_iff {S : Sg} {a t : Nat} : F__law_uses [.tup [.str "if", .int a, .int t]] S = .ok (.clist [.int a]) S := uses_ok (.iff a t)
theorem uses_shw {S : Sg} {a : Nat} : F__law_uses [.tup [.str "show", .int a]] S = .ok (.clist [.int a]) S := uses_ok (.shw a)
def stB (T : Sg) (s : Stt) : Sg := T ++ [.lst (s.n.map .int), .lst (s.c.map .int), .lst (s.o.map .int)]
theorem stB_0 {T : Sg} {s : Stt} : (stB T s)[T.length]? = some (.lst (s.n.map .int)) := by simp [stB]
theorem stB_1 {T : Sg} {s : Stt} : (stB T s)[T.length + 1]? = some (.lst (s.c.map .int)) := by simp [stB]
theorem stB_2 {T : Sg} {s : Stt} : (stB T s)[T.length + 2]? = some (.lst (s.o.map .int)) := by simp [stB]
theorem stB_sn {T : Sg} {s : Stt} {d : Nat} {w : Int} : (stB T s).set T.length (.lst ((s.n.map .int).set d (.int w))) = stB T { s with n := s.n.set d w } := by simp [stB]
theorem stB_sc {T : Sg} {s : Stt} {d : Nat} {w : Int} : (stB T s).set (T.length + 1) (.lst ((s.c.map .int).set d (.int w))) = stB T { s with c := s.c.set d w } := by simp [stB]
theorem stB_so {T : Sg} {s : Stt} {w : Int} : (stB T s).set (T.length + 2) (.lst (s.o.map .int ++ [.int w])) = stB T { s with o := s.o ++ [w] } := by simp [stB]
def envB (P : List In) (s0 : Stt) (most : Nat) (m : Nat) (a dn : Nat) (x y : Option D) : Ev := [some (pD P), some s0.d, some (.int most), some (.ref m), some (.ref (m + 1)), some (.ref (m + 2)), some (.int (a : Nat)), some (.int (dn : Nat)), x, y, none]
def bodyB : FS := (sSeq (sSet 8 (x2 fIx (xVar 0) (xVar 6)))
  (sSeq (sSet 9 (xLcF [10] (iSrc (xCall F__law_uses 1 (aCons (xVar 8) (aNil)))) (gNm 10) (tYesF) (x2 fIx (xVar 3) (xVar 10))))
  (sSeq (sPar2 6 7 (aCons (x2 fAddF (xVar 6) (xC (.int 1))) (aCons (x2 fAddF (xVar 7) (xC (.int 1))) (aNil))))
  (sSeq (sIf (tBl (x2 (fEqF false) (x2 fIx (xVar 8) (xC (.int 0))) (xC (.str "set"))))
  (sSto (x2 fIx (xVar 8) (xC (.int 2))) (xVar 3) (x2 fIx (xVar 8) (xC (.int 1))))
  (sNil))
  (sSeq (sIf (tBl (x2 (fEqF false) (x2 fIx (xVar 8) (xC (.int 0))) (xC (.str "sum"))))
  (sSto (x2 fMod (xB cInt (aCons (x2 fAddF (xB cSum (aCons (xVar 9) (aNil))) (x2 fIx (xVar 8) (xC (.int 4)))) (aNil))) (xC (.int 256))) (xVar 3) (x2 fIx (xVar 8) (xC (.int 1))))
  (sNil))
  (sSeq (sIf (tBl (x2 (fEqF false) (x2 fIx (xVar 8) (xC (.int 0))) (xC (.str "get"))))
  (sSto (x2 fIx (xVar 4) (x2 fMod (xB cInt (aCons (x2 fAddF (x2 fIx (xVar 9) (xC (.int 0))) (x2 fIx (xVar 8) (xC (.int 3)))) (aNil))) (xC (.int 8)))) (xVar 3) (x2 fIx (xVar 8) (xC (.int 1))))
  (sNil))
  (sSeq (sIf (tBl (x2 (fEqF false) (x2 fIx (xVar 8) (xC (.int 0))) (xC (.str "put"))))
  (sSto (x2 fIx (xVar 9) (xC (.int 1))) (xVar 4) (x2 fMod (xB cInt (aCons (x2 fAddF (x2 fIx (xVar 9) (xC (.int 0))) (x2 fIx (xVar 8) (xC (.int 3)))) (aNil))) (xC (.int 8))))
  (sNil))
  (sSeq (sIf (tBl (x2 (fEqF false) (x2 fIx (xVar 8) (xC (.int 0))) (xC (.str "show"))))
  (sExpr (xM mApp (xVar 5) (aCons (x2 fIx (xVar 9) (xC (.int 0))) (aNil))))
  (sNil))
  (sIf (tAndF (tBl (x2 (fEqF false) (x2 fIx (xVar 8) (xC (.int 0))) (xC (.str "if")))) (tBl (x2 (fEqF false) (x2 fIx (xVar 9) (xC (.int 0))) (xC (.int 0)))))
  (sSet 6 (x2 fIx (xVar 8) (xC (.int 2))))
  (sNil))))))))))
theorem sum2 {S : Sg} {i j : Int} : cSum [.clist [.int i, .int j]] S = .ok (.int (i + j)) S := by
  unfold cSum
  simp [seqOf, intsOf]
theorem isL_ref {S : Sg} {n : Nat} {xs : List D} (h : S[n]? = some (.lst xs)) : isL S (.ref n) = true := by
  unfold isL
  simp [h]
theorem bodyB_ok {T : Sg} {P : List In} {s0 s : Stt} {most n a dn : Nat} {x y : Option D} {i : In} (hp : P[a]? = some i) (hs : s.ok) (hi : i.ok n) (hl : s.o.length < 100000) :
    ∃ x' y', bodyB (envB P s0 most T.length a dn x y) (stB T s) = .nx (envB P s0 most T.length (stepM s a i).2 (dn + 1) x' y') (stB T (stepM s a i).1) := by
  have r := stR hs
  have ix : ∀ S, fIx (pD P) (.int (a : Nat)) S = .ok i.d S := fun S => by
    unfold pD
    simp [atI_cast, hp]
  refine ⟨some i.d, some (.clist (i.us.map fun a => .int (at0 s.n a))), ?_⟩
  have lo : (s.o.map D.int).length < 16777216 := by simp; omega
  unfold bodyB envB
  cases i with
  | set d v =>
    obtain ⟨h1, h2⟩ := hi
    simp -implicitDefEqProofs [ix, In.d, In.us, uses_set, wipeD, stB_0, stoO, r.xn d h1, stB_sn, stepM]
  | sum d a b v =>
    obtain ⟨h1, h2, h3, h4⟩ := hi
    simp -implicitDefEqProofs [ix, In.d, In.us, uses_sum, wipeD, stB_0, r.an a h2, r.an b h3, sum2, stoO, r.xn d h1, stB_sn, stepM]
  | get d a k =>
    obtain ⟨h1, h2, h3⟩ := hi
    simp -implicitDefEqProofs [ix, In.d, In.us, uses_get, wipeD, stB_0, stB_1, r.an a h2, r.ac a k, stoO, r.xn d h1, stB_sn, stepM]
  | put d a k =>
    obtain ⟨h1, h2, h3⟩ := hi
    simp -implicitDefEqProofs [ix, In.d, In.us, uses_put, wipeD, stB_0, stB_1, r.an a h2, r.an d h1, stoO, r.xc a k, stB_sc, stepM]
  | iff a t =>
    obtain ⟨h1, h2, h3⟩ := hi
    by_cases h : at0 s.n a = 0 <;> simp -implicitDefEqProofs [ix, In.d, In.us, uses_iff, wipeD, stB_0, r.an a h1, stepM, h]
  | shw a =>
    have h1 : a < 8 := hi
    simp -implicitDefEqProofs [ix, In.d, In.us, uses_shw, wipeD, stB_0, stB_2, r.an a h1, isL_ref stB_2, mApp_at stB_2 lo, stB_so, stepM]
end Law

namespace Law
open Dx L2
def outD3 (r : Stt × Nat × Nat) : D := .tup [r.1.d, .int (r.2.1 : Nat), .int (r.2.2 : Nat)]
theorem plain_run {T : Sg} {s0 : Stt} (P : List In) (most : Nat) (hm : most < 600) (hP : ∀ i ∈ P, i.ok P.length) (hs : s0.ok) (ho : s0.o.length ≤ 1000) :
    F__law_plain [pD P, s0.d, .int most] T = .ok (outD3 (runM P most s0 0 0)) (stB T (runM P most s0 0 0).1) := by
  have key : ∃ s a dn x y, whGo (tAndF (tBl (x2 (fLtF) (xVar 6) (xB cLen (aCons (xVar 0) (aNil))))) (tBl (x2 (fLtF) (xVar 7) (xVar 2)))) bodyB wfuel (envB P s0 most T.length 0 0 none none) (stB T s0) = .nx (envB P s0 most T.length a dn x y) (stB T s) ∧ (s, a, dn) = runM P most s0 0 0 := by
    refine wh_inv (fun m ρ S => ∃ (s : Stt) (a dn : Nat) (x y : Option D), ρ = envB P s0 most T.length a dn x y ∧ S = stB T s ∧ s.ok ∧ s.o.length + m ≤ 2000 ∧ dn + m = most ∧ runM P m s a dn = runM P most s0 0 0)
      (fun fl => ∃ s a dn x y, fl = .nx (envB P s0 most T.length a dn x y) (stB T s) ∧ (s, a, dn) = runM P most s0 0 0) ?_ wfuel most _ _ hm ⟨s0, 0, 0, none, none, rfl, rfl, hs, by omega, by omega, rfl⟩
    rintro m ρ S ⟨s, a, dn, x, y, rfl, rfl, ok, ol, dm, hr⟩
    by_cases hl : a < P.length
    · cases m with
      | zero =>
        refine .inl ⟨stB T s, ?_, s, a, dn, x, y, rfl, hr⟩
        have : ¬ (dn : Int) < most := by omega
        unfold envB
        simp -implicitDefEqProofs [this, hl, pD]
      | succ m =>
        have h1 : (dn : Int) < most := by omega
        obtain ⟨x', y', e⟩ := bodyB_ok (T := T) (s0 := s0) (most := most) (dn := dn) (x := x) (y := y) (List.getElem?_eq_getElem hl) ok (hP _ (List.getElem_mem hl)) (by omega)
        refine .inr ⟨stB T s, ?_, .inl ⟨_, _, m, .inl e, by omega, (stepM s a P[a]).1, (stepM s a P[a]).2, dn + 1, x', y', rfl, rfl, stepM_ok ok, ?_, by omega, ?_⟩⟩
        · unfold envB
          simp -implicitDefEqProofs [h1, hl, pD]
        · have := stepM_o (s := s) (a := a) (i := P[a])
          omega
        · rw [← hr, runM, List.getElem?_eq_getElem hl]
    · refine .inl ⟨stB T s, ?_, s, a, dn, x, y, rfl, ?_⟩
      · unfold envB
        simp -implicitDefEqProofs [hl, pD]
      · rw [← hr]
        cases m with
        | zero => rfl
        | succ m => rw [runM, List.getElem?_eq_none (by omega)]
  obtain ⟨s, a, dn, x, y, e, er⟩ := key
  rw [← er]
  have hst : T ++ [O.lst (s0.n.map .int)] ++ [O.lst (s0.c.map .int)] ++ [O.lst (s0.o.map .int)] = stB T s0 := by simp [stB]
  have e1 : fIx s0.d (.int 0) T = .ok (.tup (s0.n.map .int)) T := rfl
  have e2 : ∀ S, fIx s0.d (.int 1) S = .ok (.tup (s0.c.map .int)) S := fun _ => rfl
  have e3 : ∀ S, fIx s0.d (.int 2) S = .ok (.tup (s0.o.map .int)) S := fun _ => rfl
  unfold F__law_plain S__law_plain
  unfold envB bodyB at e
  simp -implicitDefEqProofs [e1, e2, e3, newO, -List.append_assoc, hst]
  rw [show ((0 : Nat) : Int) = 0 from rfl] at e
  have two : List.length T + 1 + 1 = List.length T + 2 := rfl
  simp -implicitDefEqProofs [two, e, tup_ref stB_0, tup_ref stB_1, tup_ref stB_2, outD3]
  rfl
theorem bel_ints (n : Nat) (l : List Int) : belA n (l.map .int) = true := by
  induction l with
  | nil => simp [belA]
  | cons i l ih => simp [belA, bel, ih]
theorem bel_s (n : Nat) (s : Stt) : bel n s.d = true := by simp [Stt.d, bel, belA, bel_ints]
theorem plain_gc {T : Sg} {s0 : Stt} (P : List In) (most : Nat) (hm : most < 600) (hP : ∀ i ∈ P, i.ok P.length) (hs : s0.ok) (ho : s0.o.length ≤ 1000) : gcF F__law_plain [pD P, s0.d, .int most] T = .ok (outD3 (runM P most s0 0 0)) T := by
  refine gcF_drop (T := [.lst ((runM P most s0 0 0).1.n.map .int), .lst ((runM P most s0 0 0).1.c.map .int), .lst ((runM P most s0 0 0).1.o.map .int)]) (plain_run P most hm hP hs ho) ?_
  simp [outD3, bel, belA, bel_s]
theorem after_gc {T : Sg} {s0 : Stt} (P : List In) (most : Nat) (hm : most < 600) (hP : ∀ i ∈ P, i.ok P.length) (hs : s0.ok) (ho : s0.o.length ≤ 1000) : gcF F_after [pD P, s0.d, .int most] T = .ok (outD3 (runM P most s0 0 0)) T := by
  refine gcF_drop (T := [objA T.length (runM P most s0 0 0).1, .lst ((runM P most s0 0 0).1.n.map .int), .lst ((runM P most s0 0 0).1.c.map .int)]) (after_run P most hm hP hs ho) ?_
  simp [outD3, bel, belA, bel_s]
end Law

/-! C7: what is an instruction. -/
namespace Law
open Dx L2
theorem all_bls {S : Sg} (bs : List Bool) : cAll [.clist (bs.map D.bl)] S = .ok (.bl (bs.all id)) S := by
  unfold cAll
  have : blsOf (bs.map D.bl) = some bs := by
    induction bs with
    | nil => rfl
    | cons b bs ih => simp [blsOf, ih]
  simp [seqOf, this]
def kZp : List D → Sg → R Src
  | [.tup xs, .tup ys], S => .ok (.its ((xs.zip ys).map fun p => .tup [p.1, p.2])) S
  | [.tup xs, .ktup ys], S => .ok (.its ((xs.zip ys).map fun p => .tup [p.1, p.2])) S
  | [.ktup xs, .tup ys], S => .ok (.its ((xs.zip ys).map fun p => .tup [p.1, p.2])) S
  | [.ktup xs, .ktup ys], S => .ok (.its ((xs.zip ys).map fun p => .tup [p.1, p.2])) S
  | _, _ => .stuck
@[simp] theorem iZp_at {g : FA} {ρ : Ev} {S : Sg} : iZp g ρ S = (g ρ S).bind kZp := by
  unfold iZp
  congr 1
  funext ds S
  match ds with
  | [] => rfl
  | [a] => cases a <;> rfl
  | [a, b] => cases a <;> cases b <;> rfl
  | a :: b :: c :: r => cases a <;> cases b <;> rfl
@[simp] theorem kZp_tt {xs ys : List D} {S : Sg} : kZp [.tup xs, .tup ys] S = .ok (.its ((xs.zip ys).map fun p => .tup [p.1, p.2])) S := rfl
theorem slF_1 {xs : List D} {S : Sg} : fSlF (.tup xs) (some 1) none S = .ok (.tup (xs.drop 1)) S := by
  cases xs with
  | nil => rfl
  | cons x xs =>
    have h1 : HT.sIx (xs.length + 1) 0 (some 1) = 1 := by simp [HT.sIx]
    have h2 : HT.sIx (xs.length + 1) (xs.length + 1) none = xs.length + 1 := rfl
    simp [fSlF, seqOf, fSl, cutD, h1, h2]

theorem is_int_ok {S : Sg} (i : Int) : F_is_integer [.int i] S = .ok (.bl true) S := by
  unfold F_is_integer S_is_integer
  simp -implicitDefEqProofs [isaT]
theorem from_to_ok {S : Sg} (i a b : Int) : F_is_from_to [.int i, .int a, .int b] S = .ok (.bl (decide (a ≤ i) && decide (i ≤ b))) S := by
  unfold F_is_from_to S_is_from_to
  simp -implicitDefEqProofs [is_int_ok]
theorem from_to_bl {S : Sg} (b : Bool) (i j : D) : F_is_from_to [.bl b, i, j] S = .ok (.bl false) S := by
  unfold F_is_from_to S_is_from_to
  have : F_is_integer [.bl b] S = .ok (.bl false) S := by
    unfold F_is_integer S_is_integer
    simp -implicitDefEqProofs [isaT]
  simp -implicitDefEqProofs [this]
theorem from_to_non {S : Sg} (i j : D) : F_is_from_to [.non, i, j] S = .ok (.bl false) S := by
  unfold F_is_from_to S_is_from_to
  have : F_is_integer [.non] S = .ok (.bl false) S := by
    unfold F_is_integer S_is_integer
    simp -implicitDefEqProofs [isaT]
  simp -implicitDefEqProofs [this]
theorem from_to_str {S : Sg} (s : String) (i j : D) : F_is_from_to [.str s, i, j] S = .ok (.bl false) S := by
  unfold F_is_from_to S_is_from_to
  have : F_is_integer [.str s] S = .ok (.bl false) S := by
    unfold F_is_integer S_is_integer
    simp -implicitDefEqProofs [isaT]
  simp -implicitDefEqProofs [this]
theorem gi_set {S : Sg} : fInF true (.str "set") k_GREATEST S = .ok (.bl false) S := rfl
theorem gi_sum {S : Sg} : fInF true (.str "sum") k_GREATEST S = .ok (.bl false) S := rfl
theorem gi_get {S : Sg} : fInF true (.str "get") k_GREATEST S = .ok (.bl false) S := rfl
theorem gi_put {S : Sg} : fInF true (.str "put") k_GREATEST S = .ok (.bl false) S := rfl
theorem gi_if {S : Sg} : fInF true (.str "if") k_GREATEST S = .ok (.bl false) S := rfl
theorem gi_show {S : Sg} : fInF true (.str "show") k_GREATEST S = .ok (.bl false) S := rfl
theorem gi_hop {S : Sg} : fInF true (.str "hop") k_GREATEST S = .ok (.bl true) S := rfl
theorem gx_set {S : Sg} : fIx k_GREATEST (.str "set") S = .ok (.ktup [.int 7, .int 255]) S := rfl
theorem gx_sum {S : Sg} : fIx k_GREATEST (.str "sum") S = .ok (.ktup [.int 7, .int 7, .int 7, .int 255]) S := rfl
theorem gx_get {S : Sg} : fIx k_GREATEST (.str "get") S = .ok (.ktup [.int 7, .int 7, .int 7]) S := rfl
theorem gx_put {S : Sg} : fIx k_GREATEST (.str "put") S = .ok (.ktup [.int 7, .int 7, .int 7]) S := rfl
theorem gx_if {S : Sg} : fIx k_GREATEST (.str "if") S = .ok (.ktup [.int 7, .int 40]) S := rfl
theorem gx_show {S : Sg} : fIx k_GREATEST (.str "show") S = .ok (.ktup [.int 7]) S := rfl
@[simp] theorem kZp_tk {S : Sg} {xs ys : List D} : kZp [.tup xs, .ktup ys] S = .ok (.its ((xs.zip ys).map fun p => .tup [p.1, p.2])) S := rfl
theorem all1 {S : Sg} {a : Bool} : cAll [.clist [.bl a]] S = .ok (.bl a) S := by simpa using all_bls (S := S) [a]
theorem all2 {S : Sg} {a b : Bool} : cAll [.clist [.bl a, .bl b]] S = .ok (.bl (a && b)) S := by simpa using all_bls (S := S) [a, b]
theorem all3 {S : Sg} {a b c : Bool} : cAll [.clist [.bl a, .bl b, .bl c]] S = .ok (.bl (a && (b && c))) S := by simpa using all_bls (S := S) [a, b, c]
theorem all4 {S : Sg} {a b c d : Bool} : cAll [.clist [.bl a, .bl b, .bl c, .bl d]] S = .ok (.bl (a && (b && (c && d)))) S := by simpa using all_bls (S := S) [a, b, c, d]
theorem le_int {S : Sg} {i j : Int} : fLe (.int i) (.int j) S = .ok (.bl (decide (i ≤ j))) S := rfl
theorem gt_int {S : Sg} {i j : Int} : fGt (.int i) (.int j) S = .ok (.bl (decide (j < i))) S := rfl
theorem ia_ok {S : Sg} (n : Nat) (i : In) (h : i.ok n) : F_is_instruction_among [i.d, .int n] S = .ok (.bl true) S := by
  unfold F_is_instruction_among S_is_instruction_among
  cases i with
  | set d v =>
    obtain ⟨h1, h2⟩ := h
    have a1 : (d : Int) ≤ 7 := by omega
    have a2 : (v : Int) ≤ 255 := by omega
    simp -implicitDefEqProofs [In.d, isaT, gi_set, gx_set, slF_1, wipeD, from_to_ok, all2, a1, a2]
  | sum d a b v =>
    obtain ⟨h1, h2, h3, h4⟩ := h
    have a1 : (d : Int) ≤ 7 := by omega
    have a2 : (a : Int) ≤ 7 := by omega
    have a3 : (b : Int) ≤ 7 := by omega
    have a4 : (v : Int) ≤ 255 := by omega
    simp -implicitDefEqProofs [In.d, isaT, gi_sum, gx_sum, slF_1, wipeD, from_to_ok, all4, a1, a2, a3, a4]
  | get d a k =>
    obtain ⟨h1, h2, h3⟩ := h
    have a1 : (d : Int) ≤ 7 := by omega
    have a2 : (a : Int) ≤ 7 := by omega
    have a3 : (k : Int) ≤ 7 := by omega
    simp -implicitDefEqProofs [In.d, isaT, gi_get, gx_get, slF_1, wipeD, from_to_ok, all3, a1, a2, a3]
  | put d a k =>
    obtain ⟨h1, h2, h3⟩ := h
    have a1 : (d : Int) ≤ 7 := by omega
    have a2 : (a : Int) ≤ 7 := by omega
    have a3 : (k : Int) ≤ 7 := by omega
    simp -implicitDefEqProofs [In.d, isaT, gi_put, gx_put, slF_1, wipeD, from_to_ok, all3, a1, a2, a3]
  | iff a t =>
    obtain ⟨h1, h2, h3⟩ := h
    have a1 : (a : Int) ≤ 7 := by omega
    have a2 : (t : Int) ≤ 40 := by omega
    have a3 : (t : Int) ≤ n := by omega
    simp -implicitDefEqProofs [In.d, isaT, gi_if, gx_if, slF_1, wipeD, from_to_ok, all2, a1, a2, a3, le_int]
  | shw a =>
    have h1 : a < 8 := h
    have a1 : (a : Int) ≤ 7 := by omega
    simp -implicitDefEqProofs [In.d, isaT, gi_show, gx_show, slF_1, wipeD, from_to_ok, all1, a1]
def oddI1 : List D := [.non, .tup [], .tup [.str "set", .int 0], .tup [.str "set", .int 8, .int 0], .tup [.str "set", .int 0, .int 256], .tup [.str "sum", .int 0, .int 1, .int 2], .tup [.str "sum", .int 0, .int 1, .int 8, .int 0], .tup [.str "get", .int 0, .int 1, .int 8], .tup [.str "put", .int 0, .int 1]]
def oddI2 : List D := [.tup [.str "if", .int 0, .int 41], .tup [.str "if", .int 0, .int (-1)], .tup [.str "show"], .tup [.str "show", .int 8], .clist [.str "show", .int 0], .tup [.str "hop", .int 0], .str "set", .tup [.str "show", .bl true], .tup [.str "sum", .int 0, .int 0, .int 0, .non]]
theorem odd_ia (d : D) (hd : d ∈ oddI1 ++ oddI2) (n : Nat) (S : Sg) : F_is_instruction_among [d, .int n] S = .ok (.bl false) S := by
  unfold oddI1 oddI2 at hd
  simp only [List.cons_append, List.nil_append, List.mem_cons, List.not_mem_nil, or_false] at hd
  unfold F_is_instruction_among S_is_instruction_among
  rcases hd with rfl | rfl | rfl | rfl | rfl | rfl | rfl | rfl | rfl | rfl | rfl | rfl | rfl | rfl | rfl | rfl | rfl | rfl <;> simp -implicitDefEqProofs [isaT, gi_set, gx_set, gi_sum, gx_sum, gi_get, gx_get, gi_put, gx_put, gi_if, gx_if, gi_show, gx_show, gi_hop, slF_1, wipeD, from_to_ok, from_to_bl, from_to_non, all1, all2, all3, all4]
end Law

/-! C8: programs and states drawn. -/
namespace Law
open Dx L2
theorem in_gp {S : Sg} {a : String} : fInF false (.str a) (.clist [.str "get", .str "put"]) S = .ok (.bl (decide (a = "get") || decide (a = "put"))) S := by
  have := inF_lst (neg := false) (a := a) (ss := ["get", "put"]) (S := S)
  simp only [List.map_cons, List.map_nil] at this
  rw [this]
  simp [eq_comm]
set_option maxHeartbeats 2000000 in
theorem instr_ok {n m : Nat} {S : Sg} (h : IsRow n S) (hm : m ≤ 20) : ∃ (i : In) (S' : Sg), i.ok m ∧ F__law_instruction [.ref n, .int m] S = .ok i.d S' ∧ Dr n S S' := by
  obtain ⟨k, S1, hk, e1, d1⟩ := pick_enc D.str ["set", "sum", "sum", "get", "get", "put", "put", "if", "show"] h
  obtain ⟨d, S2, hd, e2, d2⟩ := taken_dr (m := 3) d1.row (by decide) (by decide)
  obtain ⟨a, S3, ha, e3, d3⟩ := taken_dr (m := 3) d2.row (by decide) (by decide)
  obtain ⟨b, S4, hb, e4, d4⟩ := taken_dr (m := 3) d3.row (by decide) (by decide)
  simp only [List.map_cons, List.map_nil] at e1
  have rr := d1.trans (d2.trans (d3.trans d4))
  have hk : k = "set" ∨ k = "sum" ∨ k = "get" ∨ k = "put" ∨ k = "if" ∨ k = "show" := by
    simp only [List.mem_cons, List.not_mem_nil, or_false] at hk
    grind
  rcases hk with rfl | rfl | rfl | rfl | rfl | rfl
  · obtain ⟨v, S5, hv, e5, d5⟩ := taken_dr (m := 256) d4.row (by decide) (by decide)
    obtain ⟨w, S6, hw, e6, d6⟩ := pick_enc (fun k : Nat => D.int k) [0, 1, 2, 255, v] d5.row (by simp) (by simp)
    refine ⟨.set d w, S6, ⟨by omega, by simp at hw; omega⟩, ?_, rr.trans (d5.trans d6)⟩
    have e6 : F__law_pick [.ref n, .clist [.int 0, .int 1, .int 2, .int 255, .int v]] S5 = .ok (.int w) S6 := e6
    unfold F__law_instruction S__law_instruction
    simp -implicitDefEqProofs [e1, e2, e3, e4, e5, e6, In.d]
  · obtain ⟨w, S6, hw, e6, d6⟩ := pick_enc (fun k : Nat => D.int k) [0, 0, 1, 255] d4.row
    refine ⟨.sum d a b w, S6, ⟨by omega, by omega, by omega, by simp at hw; omega⟩, ?_, rr.trans d6⟩
    have e6 : F__law_pick [.ref n, .clist [.int 0, .int 0, .int 1, .int 255]] S4 = .ok (.int w) S6 := e6
    unfold F__law_instruction S__law_instruction
    simp -implicitDefEqProofs [e1, e2, e3, e4, e6, In.d]
  · obtain ⟨v, S5, hv, e5, d5⟩ := taken_dr (m := 3) d4.row (by decide) (by decide)
    refine ⟨.get d a v, S5, ⟨by omega, by omega, by omega⟩, ?_, rr.trans d5⟩
    unfold F__law_instruction S__law_instruction
    simp -implicitDefEqProofs [e1, e2, e3, e4, e5, in_gp, In.d]
  · obtain ⟨v, S5, hv, e5, d5⟩ := taken_dr (m := 3) d4.row (by decide) (by decide)
    refine ⟨.put d a v, S5, ⟨by omega, by omega, by omega⟩, ?_, rr.trans d5⟩
    unfold F__law_instruction S__law_instruction
    simp -implicitDefEqProofs [e1, e2, e3, e4, e5, in_gp, In.d]
  · obtain ⟨v, S5, hv, e5, d5⟩ := taken_dr (m := (m : Int) + 1) d4.row (by omega) (by omega)
    refine ⟨.iff a v, S5, ⟨by omega, by omega, by omega⟩, ?_, rr.trans d5⟩
    unfold F__law_instruction S__law_instruction
    simp -implicitDefEqProofs [e1, e2, e3, e4, e5, in_gp, In.d]
  · refine ⟨.shw a, S4, show a < 8 by omega, ?_, rr⟩
    unfold F__law_instruction S__law_instruction
    simp -implicitDefEqProofs [e1, e2, e3, e4, in_gp, In.d]
theorem prog_ok {n : Nat} {S : Sg} (h : IsRow n S) : ∃ (P : List In) (S' : Sg), P.length ≤ 20 ∧ (∀ i ∈ P, i.ok P.length) ∧ F__law_program [.ref n, .int 20] S = .ok (pD P) S' ∧ Dr n S S' := by
  obtain ⟨m, S1, hm, e1, d1⟩ := taken_dr (m := 21) h (by decide) (by decide)
  have hm : m ≤ 20 := by omega
  obtain ⟨acc, S2, ⟨P, rfl, hP, hl, d2⟩, e2⟩ := lcRun_inv (tg := gNm 3) (t := tYesF) (e := xCall F__law_instruction 2 (aCons (xVar 0) (aCons (xVar 2) aNil))) (ρ := [some (.ref n), some (.int 20), some (.int m), none])
    (fun ds acc S' => ∃ P : List In, acc = P.map In.d ∧ (∀ i ∈ P, i.ok m) ∧ P.length + ds.length = m ∧ Dr n S1 S')
    (fun d ds acc S' ⟨P, ea, hP, hl, dr⟩ => by
      obtain ⟨i, S3, ok, e3, d3⟩ := instr_ok dr.row hm
      refine ⟨_, rfl, true, S', rfl, fun _ => ⟨i.d, S3, ?_, ?_, P ++ [i], by simp [ea], ?_, by simp at hl ⊢; omega, dr.trans d3⟩, fun z => nomatch z⟩
      · simp -implicitDefEqProofs [e3]
      · simp [ea] at hl ⊢
        omega
      · intro j hj
        rcases List.mem_append.mp hj with hj | hj
        · exact hP j hj
        · rw [List.mem_singleton.mp hj]; exact ok)
    (intsD 0 m) [] S1 ⟨[], rfl, by simp, by simp [intsD], Dr.refl d1.row⟩
  have hl : P.length = m := by simpa using hl
  refine ⟨P, S2, by omega, by rw [hl]; exact hP, ?_, d1.trans d2⟩
  have hk : kR1 [.int (m : Int)] S1 = .ok (.its (intsD 0 m)) S1 := kR1_nat (by omega)
  unfold F__law_program S__law_program
  simp -implicitDefEqProofs [e1, hk, e2, wipeD, pD]
theorem mul9 {S : Sg} {k : Nat} (h : k < 2) : fMulFF (.tup [.int 9]) (.int k) S = .ok (.tup ((List.replicate k (9 : Int)).map .int)) S := by
  match k, h with
  | 0, _ => rfl
  | 1, _ => rfl
structure Stt.wd (s : Stt) : Prop where
  n : ∀ x ∈ s.n, 0 ≤ x ∧ x ≤ 255
  c : ∀ x ∈ s.c, 0 ≤ x ∧ x ≤ 255
  o : ∀ x ∈ s.o, 0 ≤ x ∧ x ≤ 255
set_option maxHeartbeats 2000000 in
theorem state_ok {n : Nat} {S : Sg} (h : IsRow n S) : ∃ (s : Stt) (S' : Sg), s.ok ∧ s.wd ∧ s.o.length ≤ 1 ∧ F__law_state [.ref n] S = .ok s.d S' ∧ Dr n S S' := by
  obtain ⟨a, S1, ha, e1, d1⟩ := pick_enc (fun k : Nat => D.int k) [0, 0, 1, 2, 7, 255] h
  obtain ⟨b, S2, hb, e2, d2⟩ := pick_enc (fun k : Nat => D.int k) [0, 0, 1, 2, 7, 255] d1.row
  obtain ⟨c, S3, hc, e3, d3⟩ := pick_enc (fun k : Nat => D.int k) [0, 0, 1, 2, 7, 255] d2.row
  obtain ⟨x1, T1, h1, f1, g1⟩ := taken_dr (m := 256) d3.row (by decide) (by decide)
  obtain ⟨x2, T2, h2, f2, g2⟩ := taken_dr (m := 256) g1.row (by decide) (by decide)
  obtain ⟨x3, T3, h3, f3, g3⟩ := taken_dr (m := 256) g2.row (by decide) (by decide)
  obtain ⟨x4, T4, h4, f4, g4⟩ := taken_dr (m := 256) g3.row (by decide) (by decide)
  obtain ⟨x5, T5, h5, f5, g5⟩ := taken_dr (m := 256) g4.row (by decide) (by decide)
  obtain ⟨x6, T6, h6, f6, g6⟩ := taken_dr (m := 256) g5.row (by decide) (by decide)
  obtain ⟨x7, T7, h7, f7, g7⟩ := taken_dr (m := 256) g6.row (by decide) (by decide)
  obtain ⟨x8, T8, h8, f8, g8⟩ := taken_dr (m := 256) g7.row (by decide) (by decide)
  obtain ⟨t, T9, h9, f9, g9⟩ := taken_dr (m := 2) g8.row (by decide) (by decide)
  have m9 := fun S => mul9 (S := S) (k := t) (by omega)
  have e1 : F__law_pick [.ref n, .clist [.int 0, .int 0, .int 1, .int 2, .int 7, .int 255]] S = .ok (.int a) S1 := e1
  have e2 : F__law_pick [.ref n, .clist [.int 0, .int 0, .int 1, .int 2, .int 7, .int 255]] S1 = .ok (.int b) S2 := e2
  have e3 : F__law_pick [.ref n, .clist [.int 0, .int 0, .int 1, .int 2, .int 7, .int 255]] S2 = .ok (.int c) S3 := e3
  have k3 : ∀ S : Sg, kR1 [.int 3] S = .ok (.its [.int 0, .int 1, .int 2]) S := fun S => rfl
  have k8 : ∀ S : Sg, kR1 [.int 8] S = .ok (.its [.int 0, .int 1, .int 2, .int 3, .int 4, .int 5, .int 6, .int 7]) S := fun S => rfl
  simp at ha hb hc
  refine ⟨⟨[a, b, c, 1, 2, 3, 4, 0], [x1, x2, x3, x4, x5, x6, x7, x8], List.replicate t 9⟩, T9, ⟨rfl, rfl⟩, ⟨?_, ?_, ?_⟩, by simp; omega, ?_, d1.trans (d2.trans (d3.trans (g1.trans (g2.trans (g3.trans (g4.trans (g5.trans (g6.trans (g7.trans (g8.trans g9))))))))))⟩
  · intro x hx
    simp only [List.mem_cons, List.not_mem_nil, or_false] at hx
    rcases hx with rfl | rfl | rfl | rfl | rfl | rfl | rfl | rfl <;> omega
  · intro x hx
    simp only [List.mem_cons, List.not_mem_nil, or_false] at hx
    rcases hx with rfl | rfl | rfl | rfl | rfl | rfl | rfl | rfl <;> omega
  · intro x hx
    have := List.eq_of_mem_replicate hx
    omega
  · unfold F__law_state S__law_state
    simp -implicitDefEqProofs [k3, k8, e1, e2, e3, f1, f2, f3, f4, f5, f6, f7, f8, f9, wipeD, m9, Stt.d, -List.map_replicate]
end Law

/-! C9: programs and states checked. -/
namespace Law
open Dx L2
def okB (n : Nat) : In → Bool
  | .iff _ t => decide (t ≤ n)
  | _ => true
theorem ia_gen {S : Sg} (n : Nat) {m : Nat} (i : In) (h : i.ok m) : F_is_instruction_among [i.d, .int n] S = .ok (.bl (okB n i)) S := by
  cases i with
  | iff a t =>
    obtain ⟨h1, h2, h3⟩ := h
    by_cases hn : t ≤ n
    · have e := ia_ok (S := S) n (.iff a t) ⟨h1, hn, h3⟩
      rw [e]
      simp [okB, hn]
    · have a1 : (a : Int) ≤ 7 := by omega
      have a2 : (t : Int) ≤ 40 := by omega
      have a3 : ¬ (t : Int) ≤ n := by omega
      unfold F_is_instruction_among S_is_instruction_among
      simp -implicitDefEqProofs [In.d, isaT, gi_if, gx_if, slF_1, wipeD, from_to_ok, all2, a1, a2, a3, le_int, okB, hn]
  | _ => exact ia_ok n _ h
theorem iEn_tup {g : FA} {ρ : Ev} {S S1 : Sg} {xs : List D} (h : g ρ S = .ok [.tup xs] S1) : iEn g ρ S = .ok (.its (enumD 0 xs)) S1 := by
  unfold iEn
  rw [h]
  rfl
def bodyC : FS := sIf (tNotF (tTru (xCall F_is_instruction_among 2 (aCons (xVar 2) (aCons (xB cLen (aCons (xVar 0) (aNil))) (aNil))))))
  (sRaiseI 2 "index" (xVar 1))
  (sNil)
theorem chk_run {S : Sg} (xs : List D) (f : D → Bool) : ∀ (ds : List D) (k : Nat) (y z : Option D), (∀ d ∈ ds, F_is_instruction_among [d, .int xs.length] S = .ok (.bl (f d)) S) → k + ds.length < 1000000 →
    (ds.findIdx? (fun d => !f d) = none ∧ ∃ y' z', forRun (gTp 2 (gsC (gNm 1) (gsC (gNm 2) gsN))) bodyC (enumD k ds) [some (.tup xs), y, z] S = .nx [some (.tup xs), y', z'] S) ∨
      ∃ j ρ', ds.findIdx? (fun d => !f d) = some j ∧ forRun (gTp 2 (gsC (gNm 1) (gsC (gNm 2) gsN))) bodyC (enumD k ds) [some (.tup xs), y, z] S = .exc 2 [("index", .int ((k + j : Nat) : Int))] ρ' S
  | [], k, y, z, _, _ => .inl ⟨rfl, y, z, rfl⟩
  | d :: ds, k, y, z, hf, hk => by
    have h1 := hf d (by simp)
    simp only [List.length_cons] at hk
    have hb : forRun (gTp 2 (gsC (gNm 1) (gsC (gNm 2) gsN))) bodyC (enumD k (d :: ds)) [some (.tup xs), y, z] S = if f d = true then forRun (gTp 2 (gsC (gNm 1) (gsC (gNm 2) gsN))) bodyC (enumD (k + 1) ds) [some (.tup xs), some (.int k), some d] S else .exc 2 [("index", .int (k : Nat))] [some (.tup xs), some (.int k), some d] S := by
      have c1 : (-4611686018427387904 : Int) < (k : Nat) := by omega
      have c2 : ((k : Nat) : Int) < 4611686018427387904 := by omega
      show forRun _ _ (.tup [.int k, d] :: enumD (k + 1) ds) _ _ = _
      unfold bodyC
      cases hfd : f d <;> simp -implicitDefEqProofs [h1, hfd, c1, c2]
    rw [hb]
    cases hfd : f d with
    | true =>
      rw [if_pos rfl]
      rcases chk_run xs f ds (k + 1) (some (.int k)) (some d) (fun e he => hf e (by simp [he])) (by omega) with ⟨a, b⟩ | ⟨j, ρ', a, b⟩
      · exact .inl ⟨by simp [List.findIdx?_cons, hfd, a], b⟩
      · refine .inr ⟨j + 1, ρ', by simp [List.findIdx?_cons, hfd, a], ?_⟩
        rw [b, show k + 1 + j = k + (j + 1) by omega]
    | false =>
      rw [if_neg (by simp)]
      exact .inr ⟨0, _, by simp [List.findIdx?_cons, hfd], rfl⟩
theorem chk_ok {S : Sg} (xs : List D) (f : D → Bool) (hf : ∀ d ∈ xs, F_is_instruction_among [d, .int xs.length] S = .ok (.bl (f d)) S) (hl : xs.length ≤ 40) :
    F_check_program [.tup xs] S = match xs.findIdx? (fun d => !f d) with
      | none => .ok .non S
      | some j => .exc 2 [("index", .int (j : Nat))] S := by
  have h40 : ¬ (40 : Int) < xs.length := by omega
  have e0 : iEn (aCons (xVar 0) aNil) [some (.tup xs), none, none] S = .ok (.its (enumD 0 xs)) S := iEn_tup (by simp)
  unfold F_check_program S_check_program
  have hr := chk_run (S := S) xs f xs 0 none none hf (by omega)
  unfold bodyC at hr
  rcases hr with ⟨a, y, z, b⟩ | ⟨j, ρ', a, b⟩
  · rw [a]
    simp -implicitDefEqProofs [isaT, k_MOST_INSTRUCTIONS, gt_int, h40, e0, b]
  · rw [a]
    rw [Nat.zero_add] at b
    simp -implicitDefEqProofs [isaT, k_MOST_INSTRUCTIONS, gt_int, h40, e0, b]
/-! ### states -/
def w255 (l : List Int) : Bool := l.all fun x => decide (0 ≤ x) && decide (x ≤ 255)
theorem all_of {α : Type} {S : Sg} (f : α → Bool) (xs : List α) : cAll [.clist (xs.map fun x => D.bl (f x))] S = .ok (.bl (xs.all f)) S := by
  have := all_bls (S := S) (xs.map f)
  rw [List.map_map] at this
  rw [show (xs.map fun x => D.bl (f x)) = xs.map (D.bl ∘ f) from rfl, this, List.all_map]
  rfl
theorem words_ok {S : Sg} (l : List Int) (a b : Nat) (hl : l.length < 100000) : F_are_words [.tup (l.map .int), .int a, .int b] S = .ok (.bl ((decide (a ≤ l.length) && decide (l.length ≤ b)) && w255 l)) S := by
  have hT : lcRun (gNm 3) tYesF (xCall F_is_from_to 3 (aCons (xVar 3) (aCons (xC (.int 0)) (aCons (x2 fSub (xC k_WORDS) (xC (.int 1))) aNil)))) [some (.tup (l.map .int)), some (.int a), some (.int b), none] (l.map .int) [] S = .ok (.clist (l.map fun x => .bl (decide (0 ≤ x) && decide (x ≤ 255)))) S := by
    rw [lcRun_map D.int (fun _ => true) (fun x => .bl (decide (0 ≤ x) && decide (x ≤ 255)))]
    · rw [List.nil_append, List.filter_eq_self.mpr fun _ _ => rfl]
    · intro x _
      refine ⟨_, rfl, rfl, fun _ => ?_⟩
      simp -implicitDefEqProofs [k_WORDS, fSub, from_to_ok]
    · simp; omega
  unfold F_are_words S_are_words
  by_cases h1 : a ≤ l.length
  · by_cases h2 : l.length ≤ b
    · simp -implicitDefEqProofs [isaT, le_int, h1, h2, wipeD, hT, all_of]
      rfl
    · have : ¬ (l.length : Int) ≤ b := by omega
      simp -implicitDefEqProofs [isaT, le_int, h1, h2, this]
  · have : ¬ (a : Int) ≤ l.length := by omega
    simp -implicitDefEqProofs [isaT, le_int, h1, this]
theorem w255_of {l : List Int} (h : ∀ x ∈ l, 0 ≤ x ∧ x ≤ 255) : w255 l = true := by
  unfold w255
  rw [List.all_eq_true]
  intro x hx
  simp [h x hx]
theorem ist_ok {S : Sg} (a b c : List Int) (ha : a.length < 1000) (hb : b.length < 1000) (hc : c.length < 1000) : F_is_state [.tup [.tup (a.map .int), .tup (b.map .int), .tup (c.map .int)]] S =
    .ok (.bl (((decide (8 ≤ a.length) && decide (a.length ≤ 8)) && w255 a) && (((decide (8 ≤ b.length) && decide (b.length ≤ 8)) && w255 b) && (decide (c.length ≤ 500) && w255 c)))) S := by
  have e1 := words_ok (S := S) a 8 8 (by omega)
  have e2 := words_ok (S := S) b 8 8 (by omega)
  have e3 := words_ok (S := S) c 0 500 (by omega)
  have e1 : F_are_words [.tup (a.map .int), .int 8, .int 8] S = _ := e1
  have e2 : F_are_words [.tup (b.map .int), .int 8, .int 8] S = _ := e2
  have e3 : F_are_words [.tup (c.map .int), .int 0, .int 500] S = .ok (.bl (decide (c.length ≤ 500) && w255 c)) S := by
    have : (decide (0 ≤ c.length) && decide (c.length ≤ 500) && w255 c) = (decide (c.length ≤ 500) && w255 c) := by simp
    rw [← this]
    exact e3
  generalize (decide (8 ≤ a.length) && decide (a.length ≤ 8) && w255 a) = x at e1 ⊢
  generalize (decide (8 ≤ b.length) && decide (b.length ≤ 8) && w255 b) = y at e2 ⊢
  generalize (decide (c.length ≤ 500) && w255 c) = z at e3 ⊢
  unfold F_is_state S_is_state
  cases x <;> cases y <;> simp -implicitDefEqProofs [isaT, k_REGISTERS, k_CELLS, k_MOST_SHOWN, e1, e2, e3]
theorem cks_ok {S : Sg} (s : Stt) (h : s.ok) (w : s.wd) (ho : s.o.length ≤ 500) : F_check_state [s.d] S = .ok .non S := by
  have e := ist_ok (S := S) s.n s.c s.o (by rw [h.n8]; decide) (by rw [h.c8]; decide) (by omega)
  rw [h.n8, h.c8, w255_of w.n, w255_of w.c, w255_of w.o, decide_eq_true ho] at e
  have e : F_is_state [s.d] S = .ok (.bl true) S := e
  unfold F_check_state S_check_state
  simp -implicitDefEqProofs [e]
theorem cks_bad {S : Sg} {d : D} (h : F_is_state [d] S = .ok (.bl false) S) : F_check_state [d] S = .exc 4 [] S := by
  unfold F_check_state S_check_state
  simp -implicitDefEqProofs [h]
def oddS (s : Stt) : List D := [.non, .tup [], .tup [.tup (s.n.map .int), .tup (s.c.map .int)], .tup [.tup ((s.n.take 7).map .int), .tup (s.c.map .int), .tup (s.o.map .int)], .tup [.tup (s.n.map .int), .tup ((s.c.take 7).map .int), .tup []], .tup [.tup (s.n.map .int), .tup (s.c.map .int), .tup [.int 256]], .clist [.tup (s.n.map .int), .tup (s.c.map .int), .tup (s.o.map .int)]]
theorem odd_state (s : Stt) (h : s.ok) (w : s.wd) (ho : s.o.length ≤ 500) (d : D) (hd : d ∈ oddS s) (S : Sg) : F_is_state [d] S = .ok (.bl false) S := by
  unfold oddS at hd
  simp only [List.mem_cons, List.not_mem_nil, or_false] at hd
  rcases hd with rfl | rfl | rfl | rfl | rfl | rfl | rfl
  · unfold F_is_state S_is_state; simp -implicitDefEqProofs [isaT]
  · unfold F_is_state S_is_state; simp -implicitDefEqProofs [isaT]
  · unfold F_is_state S_is_state; simp -implicitDefEqProofs [isaT]
  · have e := ist_ok (S := S) (s.n.take 7) s.c s.o (by simp; omega) (by rw [h.c8]; decide) (by omega)
    rw [e]
    simp [h.n8]
  · have e := ist_ok (S := S) s.n (s.c.take 7) [] (by rw [h.n8]; decide) (by simp; omega) (by simp)
    rw [List.map_nil] at e
    rw [e]
    simp [h.c8]
  · have e := ist_ok (S := S) s.n s.c [256] (by rw [h.n8]; decide) (by rw [h.c8]; decide) (by simp)
    rw [show ([256] : List Int).map D.int = [.int 256] from rfl] at e
    rw [e]
    simp [w255]
  · unfold F_is_state S_is_state; simp -implicitDefEqProofs [isaT]
end Law

/-! C10: what is raised. -/
namespace Law
open Dx L2
def fN (n : Nat) (S : Sg) (d : D) : Bool := match F_is_instruction_among [d, .int n] S with
  | .ok (.bl b) _ => b
  | _ => false
theorem chk_pd {S : Sg} (P : List In) (hP : ∀ i ∈ P, i.ok P.length) (hl : P.length ≤ 40) : F_check_program [pD P] S = .ok .non S := by
  have e := chk_ok (S := S) (P.map In.d) (fun _ => true) (fun d hd => by
    obtain ⟨i, hi, rfl⟩ := List.mem_map.mp hd
    rw [List.length_map]
    exact ia_ok _ i (hP i hi)) (by simpa using hl)
  have n : (P.map In.d).findIdx? (fun d => !(fun _ => true) d) = none := by
    rw [List.findIdx?_eq_none_iff]
    intro x _
    rfl
  rw [n] at e
  exact e
def In.isIf : In → Bool
  | .iff _ _ => true
  | _ => false
theorem chk_bad {S : Sg} {m : Nat} (A B : List In) (bad : D) (hA : ∀ i ∈ A, i.ok m) (hB : ∀ i ∈ B, i.ok m) (hm : m ≤ 20) (hb : bad ∈ oddI1 ++ oddI2) (hl : A.length + B.length ≤ 30) (hx : ∀ i ∈ A, i.isIf = true ∨ okB (A.length + 1 + B.length) i = true) :
    ∃ j : Nat, F_check_program [.tup (A.map In.d ++ bad :: B.map In.d)] S = .exc 2 [("index", .int (j : Nat))] S ∧ ((∀ i ∈ A, okB (A.length + 1 + B.length) i = true) → j = A.length) := by
  have ln : (A.map In.d ++ bad :: B.map In.d).length = A.length + 1 + B.length := by simp; omega
  have va : ∀ i ∈ A, F_is_instruction_among [i.d, .int (A.length + 1 + B.length : Nat)] S = .ok (.bl (okB (A.length + 1 + B.length) i)) S := fun i hi => ia_gen _ i (hA i hi)
  have vb : ∀ i ∈ B, F_is_instruction_among [i.d, .int (A.length + 1 + B.length : Nat)] S = .ok (.bl (okB (A.length + 1 + B.length) i)) S := fun i hi => ia_gen _ i (hB i hi)
  have vx := odd_ia bad hb (A.length + 1 + B.length) S
  have e := chk_ok (S := S) (A.map In.d ++ bad :: B.map In.d) (fN (A.length + 1 + B.length) S) (fun d hd => by
    rw [ln]
    rcases List.mem_append.mp hd with h | h
    · obtain ⟨i, hi, rfl⟩ := List.mem_map.mp h
      unfold fN
      rw [va i hi]
    · rcases List.mem_cons.mp h with rfl | h
      · unfold fN
        rw [vx]
      · obtain ⟨i, hi, rfl⟩ := List.mem_map.mp h
        unfold fN
        rw [vb i hi]) (by rw [ln]; omega)
  have fb : fN (A.length + 1 + B.length) S bad = false := by
    unfold fN
    rw [vx]
  rw [List.findIdx?_append, List.findIdx?_cons, fb] at e
  cases hq : (A.map In.d).findIdx? (fun d => !fN (A.length + 1 + B.length) S d) with
  | some j =>
    rw [hq] at e
    refine ⟨j, e, fun hall => ?_⟩
    obtain ⟨x, hx1, hx2⟩ : ∃ x ∈ A.map In.d, (!fN (A.length + 1 + B.length) S x) = true := by
      by_cases hn : ∃ x ∈ A.map In.d, (!fN (A.length + 1 + B.length) S x) = true
      · exact hn
      · have : (A.map In.d).findIdx? (fun d => !fN (A.length + 1 + B.length) S d) = none := by
          rw [List.findIdx?_eq_none_iff]
          intro x hx
          exact Bool.eq_false_iff.mpr fun z => hn ⟨x, hx, z⟩
        rw [this] at hq
        cases hq
    obtain ⟨i, hi, rfl⟩ := List.mem_map.mp hx1
    unfold fN at hx2
    rw [va i hi, hall i hi] at hx2
    cases hx2
  | none =>
    rw [hq] at e
    refine ⟨A.length, ?_, fun _ => rfl⟩
    simpa using e
theorem cnt_i {S : Sg} : mCnt (.clist [.bl true, .bl false, .bl false]) [.bl true] S = .ok (.int 1) S := rfl
theorem cnt_n {S : Sg} : mCnt (.clist [.bl false, .bl true, .bl false]) [.bl true] S = .ok (.int 1) S := rfl
theorem cnt_s {S : Sg} : mCnt (.clist [.bl false, .bl false, .bl true]) [.bl true] S = .ok (.int 1) S := rfl
theorem idx_i {S : Sg} : mIdx (.clist [.bl true, .bl false, .bl false]) [.bl true] S = .ok (.int 0) S := rfl
theorem idx_n {S : Sg} : mIdx (.clist [.bl false, .bl true, .bl false]) [.bl true] S = .ok (.int 1) S := rfl
theorem idx_s {S : Sg} : mIdx (.clist [.bl false, .bl false, .bl true]) [.bl true] S = .ok (.int 2) S := rfl
def nameW : Nat → String
  | 3 => "instruction" | 5 => "number" | _ => "state"
theorem wrong_plain {act : Nat → Sg → R D} {m : Nat} {S S' : Sg} {c : Nat} (hc : c ∈ [3, 4, 5]) (h : act m S = .exc c [] S') : F__law_wrong act [.clo m] S = .ok (.str (nameW c)) S' := by
  unfold F__law_wrong S__law_wrong
  simp only [List.mem_cons, List.not_mem_nil, or_false] at hc
  simp -implicitDefEqProofs [h]
  have hs : sup_WindowError c = some true := by rcases hc with rfl | rfl | rfl <;> rfl
  rw [hs, tryH_t (r := .rt (.str (nameW c)) S')]
  · simp -implicitDefEqProofs
  · intro a d hd
    cases d with
    | some d => cases hd
    | none => rcases hc with rfl | rfl | rfl <;> simp -implicitDefEqProofs [nameW, subT, cnt_i, cnt_n, cnt_s, idx_i, idx_n, idx_s]
theorem wrong_prog {act : Nat → Sg → R D} {m : Nat} {S S' : Sg} {x : D} (h : act m S = .exc 2 [("index", x)] S') : F__law_wrong act [.clo m] S = .ok (.tup [.str "program", x]) S' := by
  unfold F__law_wrong S__law_wrong
  simp -implicitDefEqProofs [h]
  have hs : sup_WindowError 2 = some true := rfl
  rw [hs, tryH_t (r := .rt (.tup [.str "program", x]) S')]
  · simp -implicitDefEqProofs
  · intro a d hd
    cases d with
    | none => cases hd
    | some d => simp -implicitDefEqProofs [subT]
theorem told_fine {act : Nat → Sg → R D} {m : Nat} {S S' : Sg} {x : D} (h : act m S = .ok x S') : F__law_told act [.clo m] S = .ok x S' := by
  unfold F__law_told S__law_told
  simp -implicitDefEqProofs [h]
theorem told_long {act : Nat → Sg → R D} {m : Nat} {S S' : Sg} {x : List (String × D)} (h : act m S = .exc 6 x S') : F__law_told act [.clo m] S = .ok (.str "long") S' := by
  unfold F__law_told S__law_told
  simp -implicitDefEqProofs [h]
  rfl
end Law

/-! C11: ran, ended. -/
namespace Law
open Dx L2
theorem ran_ok {S : Sg} (P : List In) (s : Stt) (most : Nat) (hP : ∀ i ∈ P, i.ok P.length) (hl : P.length ≤ 40) (hs : s.ok) (hw : s.wd) (ho : s.o.length ≤ 1) (hm : most ≤ 500) : F_ran [pD P, s.d, .int most] S = .ok (outD3 (runM P most s 0 0)) S := by
  have e1 := chk_pd (S := S) P hP hl
  have e2 := cks_ok (S := S) s hs hw (by omega)
  have e3 := after_gc (T := S) (s0 := s) P most (by omega) hP hs (by omega)
  have a1 : (most : Int) ≤ 500 := by omega
  unfold F_ran S_ran
  simp -implicitDefEqProofs [e1, e2, e3, from_to_ok, k_MOST_DONE, a1]
theorem ran_prog {S : Sg} {x y z e : D} (h : F_check_program [x] S = .exc 2 [("index", e)] S) : F_ran [x, y, z] S = .exc 2 [("index", e)] S := by
  unfold F_ran S_ran
  simp -implicitDefEqProofs [h]
theorem ended_prog {S : Sg} {x y e : D} (h : F_check_program [x] S = .exc 2 [("index", e)] S) : F_ended [x, y] S = .exc 2 [("index", e)] S := by
  unfold F_ended S_ended
  simp -implicitDefEqProofs [h]
theorem ran_state {S : Sg} (P : List In) (hP : ∀ i ∈ P, i.ok P.length) (hl : P.length ≤ 40) {y z : D} (h : F_is_state [y] S = .ok (.bl false) S) : F_ran [pD P, y, z] S = .exc 4 [] S := by
  unfold F_ran S_ran
  simp -implicitDefEqProofs [chk_pd (S := S) P hP hl, cks_bad h]
def oddM : List D := [.int (-1), .int 501, .non, .bl true, .str "1"]
theorem odd_most (d : D) (hd : d ∈ oddM) (S : Sg) : F_is_from_to [d, .int 0, .int 500] S = .ok (.bl false) S := by
  unfold oddM at hd
  simp only [List.mem_cons, List.not_mem_nil, or_false] at hd
  rcases hd with rfl | rfl | rfl | rfl | rfl
  · rw [from_to_ok]; simp
  · rw [from_to_ok]; simp
  · exact from_to_non _ _
  · exact from_to_bl _ _ _
  · exact from_to_str _ _ _
theorem ran_most {S : Sg} (P : List In) (s : Stt) (hP : ∀ i ∈ P, i.ok P.length) (hl : P.length ≤ 40) (hs : s.ok) (hw : s.wd) (ho : s.o.length ≤ 1) {z : D} (h : z ∈ oddM) : F_ran [pD P, s.d, z] S = .exc 5 [] S := by
  unfold F_ran S_ran
  simp -implicitDefEqProofs [chk_pd (S := S) P hP hl, cks_ok (S := S) s hs hw (by omega), k_MOST_DONE, odd_most z h S]
def oddP : List D := [.non, .clist [], .tup (List.replicate 41 (.tup [.str "show", .int 0]))]
theorem chk_none {S : Sg} {d : D} (h : d ∈ oddP) : F_check_program [d] S = .exc 2 [("index", .non)] S := by
  unfold oddP at h
  simp only [List.mem_cons, List.not_mem_nil, or_false] at h
  unfold F_check_program S_check_program
  rcases h with rfl | rfl | rfl <;> simp -implicitDefEqProofs [isaT, k_MOST_INSTRUCTIONS, gt_int]
theorem ended_fin {S : Sg} (P : List In) (s : Stt) (hP : ∀ i ∈ P, i.ok P.length) (hl : P.length ≤ 40) (hs : s.ok) (hw : s.wd) (ho : s.o.length ≤ 1) (h : ¬ (runM P 500 s 0 0).2.1 < P.length) : F_ended [pD P, s.d] S = .ok (.tup [(runM P 500 s 0 0).1.d, .int (runM P 500 s 0 0).2.2]) S := by
  have e1 := chk_pd (S := S) P hP hl
  have e2 := cks_ok (S := S) s hs hw (by omega)
  have e3 : gcF F_after [pD P, s.d, .int 500] S = _ := after_gc (T := S) (s0 := s) P 500 (by omega) hP hs (by omega)
  unfold F_ended S_ended
  simp -implicitDefEqProofs [e1, e2, e3, k_MOST_DONE, outD3]
  rw [show pD P = .tup (P.map In.d) from rfl]
  simp -implicitDefEqProofs [h]
theorem ended_long {S : Sg} (P : List In) (s : Stt) (hP : ∀ i ∈ P, i.ok P.length) (hl : P.length ≤ 40) (hs : s.ok) (hw : s.wd) (ho : s.o.length ≤ 1) (h : (runM P 500 s 0 0).2.1 < P.length) : F_ended [pD P, s.d] S = .exc 6 [("most", .int 500)] S := by
  have e1 := chk_pd (S := S) P hP hl
  have e2 := cks_ok (S := S) s hs hw (by omega)
  have e3 : gcF F_after [pD P, s.d, .int 500] S = _ := after_gc (T := S) (s0 := s) P 500 (by omega) hP hs (by omega)
  unfold F_ended S_ended
  simp -implicitDefEqProofs [e1, e2, e3, k_MOST_DONE, outD3]
  rw [show pD P = .tup (P.map In.d) from rfl]
  simp -implicitDefEqProofs [h]
end Law

/-! C12: the same, the law's loop. -/
namespace Law
open Dx L2
theorem okD_tup {S : Sg} {n : Nat} {xs : List D} : okD (n + 1) S (.tup xs) = xs.all (okD n S) := rfl
theorem okD_int {S : Sg} {n : Nat} {i : Int} : okD n S (.int i) = true := by cases n <;> rfl
theorem okD_bl {S : Sg} {n : Nat} {i : Bool} : okD n S (.bl i) = true := by cases n <;> rfl
theorem okD_non {S : Sg} {n : Nat} : okD n S .non = true := by cases n <;> rfl
theorem eqB_tup {S : Sg} {n : Nat} {xs ys : List D} : eqB (n + 1) S (.tup xs) (.tup ys) = eqL (eqB n S) xs ys := rfl
theorem eqB_int {S : Sg} {n : Nat} {i j : Int} : eqB n S (.int i) (.int j) = decide (i = j) := by cases n <;> rfl
theorem eqB_bl {S : Sg} {n : Nat} {i j : Bool} : eqB n S (.bl i) (.bl j) = (i == j) := by cases n <;> rfl
theorem eqL_nil {f : D → D → Bool} : eqL f [] [] = true := rfl
theorem eqL_cons {f : D → D → Bool} {x y : D} {xs ys : List D} : eqL f (x :: xs) (y :: ys) = (f x y && eqL f xs ys) := rfl
theorem eqL_refl {f : D → D → Bool} : ∀ {xs : List D}, (∀ x ∈ xs, f x x = true) → eqL f xs xs = true
  | [], _ => rfl
  | x :: xs, h => by simp [eqL, h x (by simp), eqL_refl (xs := xs) fun y hy => h y (by simp [hy])]
theorem sl_to {S : Sg} {xs : List D} {k : Nat} (h : k < xs.length) : fSlF (.tup xs) none (some (k : Int)) S = .ok (.tup (xs.take k)) S := by
  have h1 : HT.sIx xs.length xs.length (some (k : Int)) = k := by rw [HT.sIx_nat]; omega
  have h2 : HT.sIx xs.length 0 none = 0 := rfl
  simp only [fSlF, seqOf, fSl, h1, h2, cutD, true_and]
  rw [if_neg (by omega)]
  simp
theorem sl_from {S : Sg} {xs : List D} {k : Nat} (h : k < xs.length) : fSlF (.tup xs) (some ((k : Int) + 1)) none S = .ok (.tup (xs.drop (k + 1))) S := by
  have e : ((k : Int) + 1) = ((k + 1 : Nat) : Int) := by omega
  have h1 : HT.sIx xs.length 0 (some ((k : Int) + 1)) = k + 1 := by rw [e, HT.sIx_nat]; omega
  have h2 : HT.sIx xs.length xs.length none = xs.length := rfl
  simp only [fSlF, seqOf, fSl, h1, h2, cutD]
  rw [if_neg (by omega), List.take_of_length_le (by simp)]
theorem sl_fr {S : Sg} {xs : List D} {k : Nat} (h : k ≤ xs.length) : fSlF (.tup xs) (some (k : Int)) none S = .ok (.tup (xs.drop k)) S := by
  have h1 : HT.sIx xs.length 0 (some (k : Int)) = k := by rw [HT.sIx_nat]; omega
  have h2 : HT.sIx xs.length xs.length none = xs.length := rfl
  simp only [fSlF, seqOf, fSl, h1, h2, cutD]
  by_cases z : k = 0
  · subst z; simp
  · rw [if_neg (by omega), List.take_of_length_le (by simp)]
theorem sl_up {S : Sg} {xs : List D} {k : Nat} (h : k ≤ xs.length) : fSlF (.tup xs) none (some (k : Int)) S = .ok (.tup (xs.take k)) S := by
  have h1 : HT.sIx xs.length xs.length (some (k : Int)) = k := by rw [HT.sIx_nat]; omega
  have h2 : HT.sIx xs.length 0 none = 0 := rfl
  simp only [fSlF, seqOf, fSl, h1, h2, cutD, true_and]
  by_cases z : k = xs.length
  · rw [if_pos z, z]; simp
  · rw [if_neg z]; simp
theorem eqB_non {S : Sg} {n : Nat} : eqB n S .non .non = true := by cases n <;> rfl
theorem okD_nums {S : Sg} {n : Nat} (l : List Int) : okD (n + 1) S (.tup (l.map .int)) = true := by
  rw [okD_tup, List.all_map, List.all_eq_true]
  exact fun e _ => okD_int
theorem eqB_nums {S : Sg} {n : Nat} (l : List Int) : eqB (n + 1) S (.tup (l.map .int)) (.tup (l.map .int)) = true := by
  rw [eqB_tup]
  exact eqL_refl fun x hx => by
    obtain ⟨e, _, rfl⟩ := List.mem_map.mp hx
    simp [eqB_int]
theorem okD_s {S : Sg} {n : Nat} (s : Stt) : okD (n + 2) S s.d = true := by
  show okD (n + 2) S (.tup _) = true
  rw [okD_tup]
  simp [okD_nums]
theorem eqB_s {S : Sg} {n : Nat} (s : Stt) : eqB (n + 2) S s.d s.d = true := by
  show eqB (n + 2) S (.tup _) (.tup _) = true
  rw [eqB_tup]
  simp [eqL_cons, eqL_nil, eqB_nums]
theorem eq_fin {S : Sg} (s : Stt) (i : Int) : fEqF true (.tup [s.d, .int i]) (.tup [s.d, .int i]) S = .ok (.bl false) S := by
  have h1 : okD 9 S (.tup [s.d, .int i]) = true := by
    rw [okD_tup]
    simp [okD_s, okD_int]
  have h2 : eqB 9 S (.tup [s.d, .int i]) (.tup [s.d, .int i]) = true := by
    rw [eqB_tup]
    simp [eqL_cons, eqL_nil, eqB_s, eqB_int]
  rw [fEqF_ok h1 h1, h2]
  rfl
theorem eq_idx {S : Sg} (i j : Int) : fEqF true (.tup [.str "program", .int i]) (.tup [.str "program", .int j]) S = .ok (.bl (true != decide (i = j))) S := by
  have h1 : ∀ i : Int, okD 9 S (.tup [.str "program", .int i]) = true := fun i => by
    rw [okD_tup]
    simp [okD_str, okD_int]
  rw [fEqF_ok (h1 i) (h1 j), eqB_tup]
  simp [eqL_cons, eqL_nil, eqB_str, eqB_int]
theorem eq_pnon {S : Sg} : fEqF true (.tup [.str "program", .non]) (.tup [.str "program", .non]) S = .ok (.bl false) S := by
  have h1 : okD 9 S (.tup [.str "program", .non]) = true := by
    rw [okD_tup]
    simp [okD_str, okD_non]
  rw [fEqF_ok h1 h1, eqB_tup]
  simp [eqL_cons, eqL_nil, eqB_str, eqB_non]
theorem alk_nums {n : Nat} (l : List Int) (h : l.length < 1000000) : Alk (n + 1) (.tup (l.map .int)) (.tup (l.map .int)) :=
  .tup rfl rfl rfl (fun i x y hx hy => by
    rw [hx] at hy
    cases hy
    rw [List.getElem?_map] at hx
    obtain ⟨e, _, rfl⟩ := Option.map_eq_some_iff.mp hx
    exact .int e) (by simpa using h)
theorem alk_s {n : Nat} (s : Stt) (h : s.ok) (ho : s.o.length < 1000000) : Alk (n + 2) s.d s.d :=
  .tup rfl rfl rfl (fun i x y hx hy => by
    rw [hx] at hy
    cases hy
    match i with
    | 0 => cases hx; exact alk_nums _ (by rw [h.n8]; decide)
    | 1 => cases hx; exact alk_nums _ (by rw [h.c8]; decide)
    | 2 => cases hx; exact alk_nums _ ho
    | _ + 3 => cases hx) (by simp)
theorem alk_o {n : Nat} (r : Stt × Nat × Nat) (h : r.1.ok) (ho : r.1.o.length < 1000000) : Alk (n + 3) (outD3 r) (outD3 r) :=
  .tup rfl rfl rfl (fun i x y hx hy => by
    rw [hx] at hy
    cases hy
    match i with
    | 0 => cases hx; exact alk_s _ h ho
    | 1 => cases hx; exact .int _
    | 2 => cases hx; exact .int _
    | _ + 3 => cases hx) (by simp)
theorem runM_ok {P : List In} : ∀ (k : Nat) (s : Stt) (a dn : Nat), s.ok → (runM P k s a dn).1.ok ∧ (runM P k s a dn).1.o.length ≤ s.o.length + k
  | 0, s, a, dn, h => ⟨h, Nat.le_refl _⟩
  | k + 1, s, a, dn, h => by
    unfold runM
    split
    · rename_i i _
      obtain ⟨h1, h2⟩ := runM_ok k (stepM s a i).1 (stepM s a i).2 (dn + 1) (stepM_ok h)
      have := stepM_o (s := s) (a := a) (i := i)
      exact ⟨h1, by omega⟩
    · exact ⟨h, by show s.o.length ≤ _; omega⟩
theorem alike_run {S : Sg} (P : List In) (k : Nat) (s : Stt) (h : s.ok) (ho : s.o.length ≤ 1) (hk : k ≤ 500) : F__law_alike rfuel [outD3 (runM P k s 0 0), outD3 (runM P k s 0 0)] S = .ok (.bl true) S := by
  obtain ⟨h1, h2⟩ := runM_ok (P := P) k s 0 0 h
  exact alike_ok 5 S _ _ (alk_o (n := 2) _ h1 (by omega))
theorem alike_wr {S : Sg} (i : In) : F__law_alike rfuel [i.wr, i.wr] S = .ok (.bl true) S := by
  refine alike_ok 5 S _ _ ?_
  cases i <;> first | exact .int _ | exact .non
theorem alike_us {S : Sg} (i : In) : F__law_alike rfuel [.tup (numsD i.us), .tup (numsD i.us)] S = .ok (.bl true) S := by
  have h : numsD i.us = (i.us.map fun k : Nat => (k : Int)).map .int := by simp [numsD]
  rw [h]
  refine alike_ok 5 S _ _ (alk_nums (n := 4) _ ?_)
  cases i <;> simp [In.us]
theorem isi_ok {S : Sg} {n : Nat} (i : In) (h : i.ok n) (hn : n ≤ 40) : F_is_instruction [i.d] S = .ok (.bl true) S := by
  have h40 : i.ok 40 := by
    cases i <;> first | exact h | exact ⟨h.1, by have := h.2.1; omega, h.2.2⟩
  have e := ia_ok (S := S) 40 i h40
  have e : F_is_instruction_among [i.d, .int 40] S = .ok (.bl true) S := e
  unfold F_is_instruction S_is_instruction
  simp -implicitDefEqProofs [k_MOST_INSTRUCTIONS, e]
theorem isi_bad {S : Sg} {d : D} (h : d ∈ oddI1 ++ oddI2) : F_is_instruction [d] S = .ok (.bl false) S := by
  have e : F_is_instruction_among [d, .int 40] S = .ok (.bl false) S := odd_ia d h 40 S
  unfold F_is_instruction S_is_instruction
  simp -implicitDefEqProofs [k_MOST_INSTRUCTIONS, e]
theorem wb_ok {S : Sg} {n : Nat} (i : In) (h : i.ok n) (hn : n ≤ 40) : F_written_by [i.d] S = .ok i.wr S := by
  unfold F_written_by S_written_by F_check_instruction S_check_instruction
  simp -implicitDefEqProofs [isi_ok i h hn, written_ok]
theorem ub_ok {S : Sg} {n : Nat} (i : In) (h : i.ok n) (hn : n ≤ 40) : F_used_by [i.d] S = .ok (.tup (numsD i.us)) S := by
  unfold F_used_by S_used_by F_check_instruction S_check_instruction
  simp -implicitDefEqProofs [isi_ok i h hn, used_ok]
theorem wb_bad {S : Sg} {d : D} (h : d ∈ oddI1 ++ oddI2) : F_written_by [d] S = .exc 3 [] S := by
  unfold F_written_by S_written_by F_check_instruction S_check_instruction
  simp -implicitDefEqProofs [isi_bad h]
theorem ub_bad {S : Sg} {d : D} (h : d ∈ oddI1 ++ oddI2) : F_used_by [d] S = .exc 3 [] S := by
  unfold F_used_by S_used_by F_check_instruction S_check_instruction
  simp -implicitDefEqProofs [isi_bad h]
end Law

/-! C13: the law. -/
namespace Law
open Dx L2
theorem draw {n : Nat} {S : Sg} {m : Nat} (xs : List D) (h : IsRow n S) (hm : xs.length = m) (h0 : 0 < m) (h1 : m < 1073741824) : ∃ (i : Nat) (x : D) (S' : Sg), x ∈ xs ∧ F__law_taken [.ref n, .int m] S = .ok (.int (i : Int)) S' ∧ (∀ T : Sg, fIx (.clist xs) (.int i) T = .ok x T) ∧ Dr n S S' := by
  obtain ⟨i, S', a, b, c⟩ := taken_dr (m := m) h (by omega) (by omega)
  have hi : i < xs.length := by omega
  exact ⟨i, xs[i], S', List.getElem_mem hi, b, fun T => ixSeq_get (by simp [hi]), c⟩
theorem v01 {ρ : Ev} {S : Sg} {bad c : D} (hc : c ∈ [D.clo 0, D.clo 1]) (h10 : ρ[10]? = some (some bad)) (hb : bad ∈ oddI1 ++ oddI2) : F__law_wrong (fun n S => bodies_law n ρ S) [c] S = .ok (.str "instruction") S := by
  simp only [List.mem_cons, List.not_mem_nil, or_false] at hc
  rcases hc with rfl | rfl
  · exact wrong_plain (c := 3) (by decide) (by simp -implicitDefEqProofs [bodies_law, h10, wb_bad hb])
  · exact wrong_plain (c := 3) (by decide) (by simp -implicitDefEqProofs [bodies_law, h10, ub_bad hb])
theorem v23 {S : Sg} {P : List In} {bad c : D} {k : Nat} (hc : c ∈ [D.clo 2, D.clo 3]) (hk : k ≤ P.length) (hP : ∀ i ∈ P, i.ok P.length) (hl : P.length ≤ 20) (hb : bad ∈ oddI1 ++ oddI2) :
    ∃ j : Nat, (∀ ρ : Ev, ρ[2]? = some (some (pD P)) → ρ[10]? = some (some bad) → ρ[12]? = some (some (.int (k : Int))) → F__law_wrong (fun n S => bodies_law n ρ S) [c] S = .ok (.tup [.str "program", .int (j : Nat)]) S) ∧ ((∀ i ∈ P, i.isIf = false) → j = k) := by
  have lt : (P.take k).length = k := by simp; omega
  have ld : (P.drop k).length = P.length - k := by simp
  have u := sl_up (S := S) (xs := P.map In.d) (k := k) (by simpa using hk)
  have w := sl_fr (S := S) (xs := P.map In.d) (k := k) (by simpa using hk)
  have hA : ∀ i ∈ P.take k, i.ok P.length := fun i hi => hP i (List.mem_of_mem_take hi)
  have hB : ∀ i ∈ P.drop k, i.ok P.length := fun i hi => hP i (List.mem_of_mem_drop hi)
  have isf : ∀ n (i : In), i.isIf = false → okB n i = true := fun n i hi => by
    cases i <;> first | rfl | cases hi
  have or : ∀ n, ∀ i ∈ P.take k, i.isIf = true ∨ okB n i = true := fun n i _ => by
    cases hq : i.isIf with
    | true => exact .inl rfl
    | false => exact .inr (isf n i hq)
  simp only [List.mem_cons, List.not_mem_nil, or_false] at hc
  rcases hc with rfl | rfl
  · obtain ⟨j, e, ej⟩ := chk_bad (S := S) (P.take k) (P.drop k) bad hA hB hl hb (by rw [lt, ld]; omega) (or _)
    refine ⟨j, fun ρ h2 h10 h12 => wrong_prog ?_, fun hn => by rw [ej fun i hi => isf _ i (hn i (List.mem_of_mem_take hi)), lt]⟩
    rw [List.map_take, List.map_drop] at e
    have c1 : min k P.length + 1 ≤ 16777216 := by omega
    have c2 : min k P.length + 1 + (P.length - k) ≤ 16777216 := by omega
    unfold pD at h2
    simp -implicitDefEqProofs [bodies_law, h2, h10, h12, u, w, c1, c2, ran_prog e, -List.map_take, -List.map_drop]
  · obtain ⟨j, e, ej⟩ := chk_bad (S := S) (P.take k) [] bad hA (by simp) hl hb (by rw [lt]; simp; omega) (or _)
    refine ⟨j, fun ρ h2 h10 h12 => wrong_prog ?_, fun hn => by rw [ej fun i hi => isf _ i (hn i (List.mem_of_mem_take hi)), lt]⟩
    rw [List.map_take, List.map_nil] at e
    have c1 : min k P.length + 1 ≤ 16777216 := by omega
    unfold pD at h2
    simp -implicitDefEqProofs [bodies_law, h2, h10, h12, u, c1, ended_prog e, -List.map_take, -List.map_drop]
theorem v5 {ρ : Ev} {S S' : Sg} {n : Nat} {x : D} (h1 : ρ[1]? = some (some (.ref n))) (hp : F__law_pick [.ref n, .clist oddP] S = .ok x S') (hx : x ∈ oddP) : F__law_wrong (fun n S => bodies_law n ρ S) [.clo 5] S = .ok (.tup [.str "program", .non]) S' := by
  refine wrong_prog ?_
  have m41 : ∀ S : Sg, fMulFF (.tup [.tup [.str "show", .int 0]]) (.int 41) S = .ok (.tup (List.replicate 41 (.tup [.str "show", .int 0]))) S := fun S => rfl
  have m41' : ∀ S : Sg, fMulF (.tup [.tup [.str "show", .int 0]]) (.int 41) S = .ok (.tup (List.replicate 41 (.tup [.str "show", .int 0]))) S := fun S => rfl
  unfold oddP at hp
  have e := ran_prog (y := .non) (z := .int 0) (chk_none (S := S') hx)
  simp -implicitDefEqProofs [bodies_law, h1, m41', hp, e, -List.reduceReplicate]
theorem v4l {ρ : Ev} {S : Sg} {P : List In} {s : Stt} (h2 : ρ[2]? = some (some (pD P))) (h3 : ρ[3]? = some (some s.d)) (hP : ∀ i ∈ P, i.ok P.length) (hl : P.length ≤ 40) (hs : s.ok) (hw : s.wd) (ho : s.o.length ≤ 1) (h : (runM P 500 s 0 0).2.1 < P.length) : F__law_told (fun n S => bodies_law n ρ S) [.clo 4] S = .ok (.str "long") S :=
  told_long (x := [("most", .int 500)]) (by simp -implicitDefEqProofs [bodies_law, h2, h3, ended_long P s hP hl hs hw ho h])
theorem v4f {ρ : Ev} {S : Sg} {P : List In} {s : Stt} (h2 : ρ[2]? = some (some (pD P))) (h3 : ρ[3]? = some (some s.d)) (hP : ∀ i ∈ P, i.ok P.length) (hl : P.length ≤ 40) (hs : s.ok) (hw : s.wd) (ho : s.o.length ≤ 1) (h : ¬ (runM P 500 s 0 0).2.1 < P.length) : F__law_told (fun n S => bodies_law n ρ S) [.clo 4] S = .ok (.tup [(runM P 500 s 0 0).1.d, .int (runM P 500 s 0 0).2.2]) S :=
  told_fine (by simp -implicitDefEqProofs [bodies_law, h2, h3, ended_fin P s hP hl hs hw ho h])
theorem v6 {ρ : Ev} {S S' : Sg} {P : List In} {s : Stt} {n i : Nat} {x : D} (h1 : ρ[1]? = some (some (.ref n))) (h2 : ρ[2]? = some (some (pD P))) (h9 : ρ[9]? = some (some (.clist (oddS s)))) (hp : F__law_taken [.ref n, .int 7] S = .ok (.int (i : Int)) S') (hx : ∀ T : Sg, fIx (.clist (oddS s)) (.int i) T = .ok x T) (hm : x ∈ oddS s)
    (hP : ∀ i ∈ P, i.ok P.length) (hl : P.length ≤ 40) (hs : s.ok) (hw : s.wd) (ho : s.o.length ≤ 1) : F__law_wrong (fun n S => bodies_law n ρ S) [.clo 6] S = .ok (.str "state") S' := by
  refine wrong_plain (c := 4) (by decide) ?_
  have e := ran_state (S := S') P hP hl (z := .int 0) (odd_state s hs hw (by omega) x hm S')
  generalize oddS s = l at *
  have hx : ∀ T : Sg, ixSeq T l (.int i) = .ok x T := hx
  simp -implicitDefEqProofs [-ixSeq_int, bodies_law, h1, h2, h9, hp, hx, e]
theorem v7 {ρ : Ev} {S S' : Sg} {P : List In} {s : Stt} {n : Nat} {x : D} (h1 : ρ[1]? = some (some (.ref n))) (h2 : ρ[2]? = some (some (pD P))) (h3 : ρ[3]? = some (some s.d)) (hp : F__law_pick [.ref n, .clist oddM] S = .ok x S') (hx : x ∈ oddM)
    (hP : ∀ i ∈ P, i.ok P.length) (hl : P.length ≤ 40) (hs : s.ok) (hw : s.wd) (ho : s.o.length ≤ 1) : F__law_wrong (fun n S => bodies_law n ρ S) [.clo 7] S = .ok (.str "number") S' := by
  refine wrong_plain (c := 5) (by decide) ?_
  have e := ran_most (S := S') P s hP hl hs hw ho hx
  unfold oddM at hp
  simp -implicitDefEqProofs [bodies_law, h1, h2, h3, hp, e]
def bodyL : FS := (sSeq (sIf (tOrF (tBl (x2 (fIs true) (xCall F_is_instruction 1 (aCons (xVar 8) (aNil))) (xC (.bl true)))) (tNotF (tTru (xCall (F__law_alike rfuel) 2 (aCons (xCall F_written_by 1 (aCons (xVar 8) (aNil))) (aCons (xCall F__law_writes 1 (aCons (xVar 8) (aNil))) (aNil)))))))
  (sRet (xC (.bl false)))
  (sNil))
  (sIf (tNotF (tTru (xCall (F__law_alike rfuel) 2 (aCons (xCall F_used_by 1 (aCons (xVar 8) (aNil))) (aCons (xB cTuple (aCons (xCall F__law_uses 1 (aCons (xVar 8) (aNil))) (aNil))) (aNil))))))
  (sRet (xC (.bl false)))
  (sNil)))
theorem loop_ok {S : Sg} {P : List In} (hP : ∀ i ∈ P, i.ok P.length) (hl : P.length ≤ 40) (E : Option D → Ev) (hE : ∀ y z, (E y).set 8 z = E z) (hg : ∀ y, (E y)[8]? = some y) : ∀ (Q : List In) (y : Option D), (∀ i ∈ Q, i ∈ P) → ∃ z, forRun (gNm 8) bodyL (Q.map In.d) (E y) S = .nx (E z) S
  | [], y, _ => ⟨y, rfl⟩
  | i :: Q, y, h => by
    have ok := hP i (h i (by simp))
    obtain ⟨z, hz⟩ := loop_ok hP hl E hE hg Q (some i.d) (fun j hj => h j (by simp [hj]))
    refine ⟨z, ?_⟩
    have hb : bodyL (E (some i.d)) S = .nx (E (some i.d)) S := by
      unfold bodyL
      simp -implicitDefEqProofs [hg, isi_ok i ok hl, wb_ok i ok hl, ub_ok i ok hl, writes_ok, uses_ok, alike_wr, alike_us]
    rw [List.map_cons, forRun_cons, gNm_at, hE, frA_some, hb, frB_nx, hz]
end Law

namespace Law
open Dx L2
set_option maxHeartbeats 8000000 in
theorem law_sem : ∀ ns : List Int, ns.length ≤ 63 → ∃ S, F_law [.slist ns] [] = .ok (.bl true) S := by
  intro ns hns
  let S0 : Sg := [.lst [.slist ns, .int 0, .int 14393, .int 0]]
  have r0 : IsRow 0 S0 := ⟨ns, 0, 14393, 0, by decide, rfl, hns⟩
  obtain ⟨P, S1, hl, hP, e1, d1⟩ := prog_ok r0
  obtain ⟨s, S2, hs, hw, ho, e2, d2⟩ := state_ok d1.row
  obtain ⟨most, S3, hm, e3, d3⟩ := pick_enc (fun k : Nat => D.int k) [0, 1, 7, 40, 500] d2.row
  have hm : most ≤ 500 := by simp at hm; omega
  have e3 : F__law_pick [.ref 0, .clist [.int 0, .int 1, .int 7, .int 40, .int 500]] S2 = .ok (.int most) S3 := e3
  obtain ⟨i1, bad, S4, hb, e4, f4, d4⟩ := draw (m := 18) (oddI1 ++ oddI2) d3.row rfl (by decide) (by decide)
  obtain ⟨i2, c2, S5, hc2, e5, f5, d5⟩ := draw (m := 2) [.clo 0, .clo 1] d4.row rfl (by decide) (by decide)
  obtain ⟨k, S6, hk, e6, d6⟩ := taken_dr (m := (P.length : Int) + 1) d5.row (by omega) (by omega)
  obtain ⟨i3, c3, S7, hc3, e7, f7, d7⟩ := draw (m := 2) [.clo 2, .clo 3] d6.row rfl (by decide) (by decide)
  obtain ⟨x5, S8, hx5, e8, d8⟩ := pick_lst (xs := oddP) d7.row (by decide) (by decide)
  obtain ⟨i6, x6, S9, hx6, e9, f9, d9⟩ := draw (m := 7) (oddS s) d8.row rfl (by decide) (by decide)
  obtain ⟨x7, S10, hx7, e10, d10⟩ := pick_lst (xs := oddM) d9.row (by decide) (by decide)
  have hl40 : P.length ≤ 40 := by omega
  refine ⟨S10, ?_⟩
  have q1 := ran_ok (S := S3) P s most hP hl40 hs hw ho hm
  have q2 := plain_gc (T := S3) (s0 := s) P most (by omega) hP hs (by omega)
  have q3 := alike_run (S := S3) P most s hs ho hm
  have q4 : gcF F__law_plain [pD P, s.d, .int 500] S3 = _ := plain_gc (T := S3) (s0 := s) P 500 (by omega) hP hs (by omega)
  unfold outD3 at q4
  have c1 : ∀ S, cLen [pD P] S = .ok (.int P.length) S := fun S => by simp [pD]
  have c2' : ∀ S, kSrc (pD P) S = .ok (.its (P.map In.d)) S := fun S => rfl
  obtain ⟨z, hz⟩ := loop_ok (S := S3) hP hl40 (fun y => [some (.slist ns), some (.ref 0), some (pD P), some s.d, some (.int most), some (runM P 500 s 0 0).1.d, some (.int (runM P 500 s 0 0).2.1), some (.int (runM P 500 s 0 0).2.2), y, none, none, none, none]) (fun y z => rfl) (fun y => rfl) P none (fun i h => h)
  unfold bodyL at hz
  have b1 := fun S => isi_bad (S := S) hb
  have g0 : ∀ (ρ : Ev) (S : Sg), ρ[10]? = some (some bad) → F__law_wrong (fun n S => bodies_law n ρ S) [c2] S = .ok (.str "instruction") S := fun ρ S h => v01 hc2 h hb
  obtain ⟨j, g1, hj⟩ := v23 (S := S7) hc3 (show k ≤ P.length by omega) hP hl hb
  have g2 : ∀ ρ : Ev, ρ[1]? = some (some (.ref 0)) → F__law_wrong (fun n S => bodies_law n ρ S) [.clo 5] S7 = .ok (.tup [.str "program", .non]) S8 := fun ρ h => v5 h e8 hx5
  have g3 : ∀ ρ : Ev, ρ[1]? = some (some (.ref 0)) → ρ[2]? = some (some (pD P)) → ρ[9]? = some (some (.clist (oddS s))) → F__law_wrong (fun n S => bodies_law n ρ S) [.clo 6] S8 = .ok (.str "state") S9 := fun ρ h1 h2 h9 => v6 h1 h2 h9 e9 f9 hx6 hP hl40 hs hw ho
  have g4 : ∀ ρ : Ev, ρ[1]? = some (some (.ref 0)) → ρ[2]? = some (some (pD P)) → ρ[3]? = some (some s.d) → F__law_wrong (fun n S => bodies_law n ρ S) [.clo 7] S9 = .ok (.str "number") S10 := fun ρ h1 h2 h3 => v7 h1 h2 h3 e10 hx7 hP hl40 hs hw ho
  have e4 : F__law_taken [.ref 0, .int 18] S3 = .ok (.int i1) S4 := e4
  have e5 : F__law_taken [.ref 0, .int 2] S4 = .ok (.int i2) S5 := e5
  have e7 : F__law_taken [.ref 0, .int 2] S6 = .ok (.int i3) S7 := e7
  simp only [oddI1, oddI2, List.cons_append, List.nil_append] at f4
  -- the pieces of a state
  have y1 : ∀ S, fSlF s.d none (some 2) S = .ok (.tup [.tup (s.n.map .int), .tup (s.c.map .int)]) S := fun _ => rfl
  have y2 : ∀ S, fIx s.d (.int 0) S = .ok (.tup (s.n.map .int)) S := fun _ => rfl
  have y3 : ∀ S, fIx s.d (.int 1) S = .ok (.tup (s.c.map .int)) S := fun _ => rfl
  have y4 : ∀ S, fSlF s.d (some 1) none S = .ok (.tup [.tup (s.c.map .int), .tup (s.o.map .int)]) S := fun _ => rfl
  have y5 : ∀ S, cListF [s.d] S = .ok (.clist [.tup (s.n.map .int), .tup (s.c.map .int), .tup (s.o.map .int)]) S := fun _ => rfl
  have y6 : ∀ S, fSlF (.tup (s.n.map .int)) none (some 7) S = .ok (.tup ((s.n.take 7).map .int)) S := fun S => by
    have := sl_up (S := S) (xs := s.n.map D.int) (k := 7) (by simp [hs.n8])
    rw [← List.map_take] at this
    exact this
  have y7 : ∀ S, fSlF (.tup (s.c.map .int)) none (some 7) S = .ok (.tup ((s.c.take 7).map .int)) S := fun S => by
    have := sl_up (S := S) (xs := s.c.map D.int) (k := 7) (by simp [hs.c8])
    rw [← List.map_take] at this
    exact this
  unfold oddS at g3
  by_cases hjk : j = k
  · by_cases hat : (runM P 500 s 0 0).2.1 < P.length
    · have g5 : ∀ ρ : Ev, ρ[2]? = some (some (pD P)) → ρ[3]? = some (some s.d) → F__law_told (fun n S => bodies_law n ρ S) [.clo 4] S3 = .ok (.str "long") S3 := fun ρ h2 h3 => v4l h2 h3 hP hl40 hs hw ho hat
      unfold F_law S_law
      simp -implicitDefEqProofs [S0, e1, e2, e3, q1, q2, q3, q4, g5, hat, c1, c2', hz, e4, f4, b1, e5, f5, g0, e6, e7, f7, g1, eq_idx, g2, eq_pnon, y1, y2, y3, y4, y5, y6, y7, g3, g4, eq_fin, wipeD, hjk]
    · have g5 : ∀ ρ : Ev, ρ[2]? = some (some (pD P)) → ρ[3]? = some (some s.d) → F__law_told (fun n S => bodies_law n ρ S) [.clo 4] S3 = _ := fun ρ h2 h3 => v4f h2 h3 hP hl40 hs hw ho hat
      unfold F_law S_law
      simp -implicitDefEqProofs [S0, e1, e2, e3, q1, q2, q3, q4, g5, hat, c1, c2', hz, e4, f4, b1, e5, f5, g0, e6, e7, f7, g1, eq_idx, g2, eq_pnon, y1, y2, y3, y4, y5, y6, y7, g3, g4, eq_fin, wipeD, hjk]
  · have hif : ((P.filter In.isIf).map In.d).isEmpty = false := by
      cases hq : P.filter In.isIf with
      | cons _ _ => rfl
      | nil =>
        refine absurd (hj fun i hi => ?_) hjk
        have := List.filter_eq_nil_iff.mp hq i hi
        simpa using this
    have hlc : ∀ ρ : Ev, 8 < ρ.length → lcRun (gNm 8) (tBl (x2 (fEqF false) (x2 fIx (xVar 8) (xC (.int 0))) (xC (.str "if")))) (xVar 8) ρ (P.map In.d) [] S7 = .ok (.clist ((P.filter In.isIf).map In.d)) S7 := fun ρ hρ => by
      rw [lcRun_map In.d In.isIf In.d]
      · rw [List.nil_append]
      · intro i _
        have h8 : (ρ.set 8 (some i.d))[8]? = some (some i.d) := by simp [hρ]
        refine ⟨_, rfl, ?_, fun _ => by simp [h8]⟩
        simp -implicitDefEqProofs [h8]
        cases i <;> simp -implicitDefEqProofs [In.d, In.isIf]
      · simp; omega
    by_cases hat : (runM P 500 s 0 0).2.1 < P.length
    · have g5 : ∀ ρ : Ev, ρ[2]? = some (some (pD P)) → ρ[3]? = some (some s.d) → F__law_told (fun n S => bodies_law n ρ S) [.clo 4] S3 = .ok (.str "long") S3 := fun ρ h2 h3 => v4l h2 h3 hP hl40 hs hw ho hat
      unfold F_law S_law
      simp -implicitDefEqProofs [S0, e1, e2, e3, q1, q2, q3, q4, g5, hat, c1, c2', hz, e4, f4, b1, e5, f5, g0, e6, e7, f7, g1, eq_idx, g2, eq_pnon, y1, y2, y3, y4, y5, y6, y7, g3, g4, eq_fin, wipeD, hjk, hlc, hif]
    · have g5 : ∀ ρ : Ev, ρ[2]? = some (some (pD P)) → ρ[3]? = some (some s.d) → F__law_told (fun n S => bodies_law n ρ S) [.clo 4] S3 = _ := fun ρ h2 h3 => v4f h2 h3 hP hl40 hs hw ho hat
      unfold F_law S_law
      simp -implicitDefEqProofs [S0, e1, e2, e3, q1, q2, q3, q4, g5, hat, c1, c2', hz, e4, f4, b1, e5, f5, g0, e6, e7, f7, g1, eq_idx, g2, eq_pnon, y1, y2, y3, y4, y5, y6, y7, g3, g4, eq_fin, wipeD, hjk, hlc, hif]
end Law

namespace Law
open PySem PySem.Spec L2 Dx LamX
theorem law_top {l : PySem.W.OpenLaw} {w : World} {K : PySem.W.Frag} {mg : Str → Option Value} {fa fl c Pt : Addr} {h : Heap} {cs : List Addr} {fd : FuncData} (KX : K.In h) (Gn : h.Ns mainGlobals mg) (hmg : mg "law" = some (.ref fa)) (aL : PySem.W.nsIn K mainGlobals "law" = some (some (.ref fl)))
  (hP : h.get? Pt = some { cls := .none, data := .fields #[] }) (hPK : K.lookup Pt = none) (hC : PySem.W.CodeHd h c Pt) (hF : Fun K "law" "law" s_law fl fd) (hcode : fd.code = .ref c) (T : ∀ cells, Tx l.prog K mg (lamG K w (fun i => cs.getD i 0) qL Pt cells spec_law))
  (h_is_integer : FunAt K mg "is_integer" s_is_integer ["value"])
  (h_register_written : FunAt K mg "register_written" s_register_written ["instruction"])
  (h_registers_used : FunAt K mg "registers_used" s_registers_used ["instruction"])
  (h_cell_told : FunAt K mg "cell_told" s_cell_told ["instruction", "words"])
  (h__law_taken : FunAt K mg "_law_taken" s__law_taken ["row", "many"])
  (h__law_writes : FunAt K mg "_law_writes" s__law_writes ["one"])
  (h__law_uses : FunAt K mg "_law_uses" s__law_uses ["one"])
  (h__law_told : FunAt K mg "_law_told" s__law_told ["work"])
  (h__law_wrong : FunAt K mg "_law_wrong" s__law_wrong ["work"])
  (h_Store___init__ : FunOf K ((fun i => cs.getD i 0) 0) "__init__" "Store.__init__" s_Store___init__ ["self", "state"])
  (hc_Store : mg "Store" = some (.ref ((fun i => cs.getD i 0) 0))) (hm_Store : PySem.W.makesIn K ((fun i => cs.getD i 0) 0) = true) (hk_Store : PySem.W.keepIn K (.ref ((fun i => cs.getD i 0) 0)) = true)
  (h_Store_show : FunOf K ((fun i => cs.getD i 0) 0) "show" "Store.show" s_Store_show ["self", "word"])
  (h_Store_told : FunOf K ((fun i => cs.getD i 0) 0) "told" "Store.told" s_Store_told ["self"])
  (h_is_from_to : FunAt K mg "is_from_to" s_is_from_to ["value", "least", "most"])
  (h_result : FunAt K mg "result" s_result ["store", "instruction", "words"])
  (h__law_pick : FunAt K mg "_law_pick" s__law_pick ["row", "kinds"])
  (h__law_plain : FunAt K mg "_law_plain" s__law_plain ["program", "state", "most"])
  (h_is_instruction_among : FunAt K mg "is_instruction_among" s_is_instruction_among ["value", "many"])
  (h_are_words : FunAt K mg "are_words" s_are_words ["value", "least", "most"])
  (h_step : FunAt K mg "step" s_step ["store", "instruction", "number"])
  (h__law_instruction : FunAt K mg "_law_instruction" s__law_instruction ["row", "most"])
  (h__law_state : FunAt K mg "_law_state" s__law_state ["row"])
  (h_is_instruction : FunAt K mg "is_instruction" s_is_instruction ["value"])
  (h_check_program : FunAt K mg "check_program" s_check_program ["value"])
  (h_is_state : FunAt K mg "is_state" s_is_state ["value"])
  (h_after : FunAt K mg "after" s_after ["program", "state", "most"])
  (h__law_program : FunAt K mg "_law_program" s__law_program ["row", "most"])
  (h_check_instruction : FunAt K mg "check_instruction" s_check_instruction ["value"])
  (h_check_state : FunAt K mg "check_state" s_check_state ["value"])
  (h_written_by : FunAt K mg "written_by" s_written_by ["instruction"])
  (h_used_by : FunAt K mg "used_by" s_used_by ["instruction"])
  (h_ran : FunAt K mg "ran" s_ran ["program", "state", "most"])
  (h_ended : FunAt K mg "ended" s_ended ["program", "state"])
  (h__law_alike : FunAt K mg "_law_alike" s__law_alike ["found", "due"]) :
  ∃ (fd : FuncData) (c Pt : Addr), h.get? Pt = some { cls := .none, data := .fields #[] } ∧ K.lookup Pt = none ∧ PySem.W.CodeHd h c Pt ∧ (∀ (s : Shared) (u : Value), BindsTo s fd ⟨[u], []⟩ [("script", u)]) ∧
    ∀ base : Heap, K.In base → base.Ns mainGlobals mg → TabB base mg c Pt → FnOk l.prog w K mg base (L2.CX l.prog w) 10 fa fd ["script"] (spLawT 63 K Pt) := by
  have e := hmg.symm.trans (PySem.W.mg_of KX Gn aL)
  cases e
  refine ⟨fd, c, Pt, hP, hPK, hC, fun s u => ?_, fun base _ _ TB => ?_⟩
  · obtain ⟨oc, od, kV, doc, pm, an, cdv, ct, osl, rfl, lk, hcd⟩ := hF.ex
    exact .of_eq rfl
  · exact ok_law TB T h_is_integer h_register_written h_registers_used h_cell_told h__law_taken h__law_writes h__law_uses h__law_told h__law_wrong h_Store___init__ hc_Store hm_Store hk_Store h_Store_show h_Store_told h_is_from_to h_result h__law_pick h__law_plain h_is_instruction_among h_are_words h_step h__law_instruction h__law_state h_is_instruction h_check_program h_is_state h_after h__law_program h_check_instruction h_check_state h_written_by h_used_by h_ran h_ended h__law_alike hF hcode law_sem
end Law
open PySem PySem.W PyProof.Rows L2 Dx Law
set_option maxRecDepth 100000 in
set_option maxHeartbeats 0 in
theorem PySem.Challenge.cw_windowbelt_k03_whole_plain_holds : PySem.Challenge.rw_windowbelt_k03_whole_plain.Holds := by
  w_on; o_law; k_head; (case hw => w_witness2)
  k_fill
  refine Dx.walkL (l := PySem.Challenge.rw_windowbelt_k03_whole_plain) 10 ⟨rfl, by decide, by decide⟩ rfl rfl (fun w h Y => by first | exact PySem.W.kIn_of Y | exact PySem.W.km_in_of Y) ?F
  case F =>
    intro w mg fa h Y KX Gn hmg
    have hmg2 : mg "law" = some (.ref fa) := hmg
    clear hmg
    have hT8 := PySem.W.km_tabs_of Y
    have hP := hT8 _ (List.mem_singleton.mpr rfl)
    clear hT8
    have aL := fn_at (x := "law") KX (by k_is)
    have aC_Store := cls_at (x := "Store") KX (by k_is)
    have aC_WindowError := cls_at (x := "WindowError") KX (by k_is)
    have aC_BadProgram := cls_at (x := "BadProgram") KX (by k_is)
    have aC_BadInstruction := cls_at (x := "BadInstruction") KX (by k_is)
    have aC_BadState := cls_at (x := "BadState") KX (by k_is)
    have aC_BadNumber := cls_at (x := "BadNumber") KX (by k_is)
    have aC_TooLong := cls_at (x := "TooLong") KX (by k_is)
    have t_c_CELLS := fun (cells : List (PySem.Str × Addr)) => globD_of (G := mkGL KX w [cAt aC_Store, cAt aC_WindowError, cAt aC_BadProgram, cAt aC_BadInstruction, cAt aC_BadState, cAt aC_BadNumber, cAt aC_TooLong] Law.qL (tAt hP) cells Law.spec_law) (x := "CELLS") (d := k_CELLS) KX Gn (by k_is) (by unfold k_CELLS; exact kden_int)
    have t_c_GREATEST := fun (cells : List (PySem.Str × Addr)) => globD_of (G := mkGL KX w [cAt aC_Store, cAt aC_WindowError, cAt aC_BadProgram, cAt aC_BadInstruction, cAt aC_BadState, cAt aC_BadNumber, cAt aC_TooLong] Law.qL (tAt hP) cells Law.spec_law) (x := "GREATEST") (d := k_GREATEST) KX Gn (by k_is) (by unfold k_GREATEST; (refine' kden_dict [("set", _, _), ("sum", _, _), ("get", _, _), ("put", _, _), ("if", _, _), ("show", _, _)] KX rfl ?l2 ?e2 ?k2 ?n2 ?z2 ?h2; (case l2 => k_is); (case e2 => rfl); (case k2 => rfl); (case n2 => decide); (case z2 => decide); (case h2 => (refine' kdena_cons ?h3 ?t3; (case h3 => (refine' kden_tup KX rfl ?l4 ?c4 ?d4 ?h4 ?z4; (case l4 => k_is); (case c4 => rfl); (case d4 => rfl); (case z4 => decide); (case h4 => (refine' kdena_cons ?h5 ?t5; (case h5 => exact kden_int); (case t5 => (refine' kdena_cons ?h7 ?t7; (case h7 => exact kden_int); (case t7 => exact kdena_nil))))))); (case t3 => (refine' kdena_cons ?h9 ?t9; (case h9 => (refine' kden_tup KX rfl ?l10 ?c10 ?d10 ?h10 ?z10; (case l10 => k_is); (case c10 => rfl); (case d10 => rfl); (case z10 => decide); (case h10 => (refine' kdena_cons ?h11 ?t11; (case h11 => exact kden_int); (case t11 => (refine' kdena_cons ?h13 ?t13; (case h13 => exact kden_int); (case t13 => (refine' kdena_cons ?h15 ?t15; (case h15 => exact kden_int); (case t15 => (refine' kdena_cons ?h17 ?t17; (case h17 => exact kden_int); (case t17 => exact kdena_nil))))))))))); (case t9 => (refine' kdena_cons ?h19 ?t19; (case h19 => (refine' kden_tup KX rfl ?l20 ?c20 ?d20 ?h20 ?z20; (case l20 => k_is); (case c20 => rfl); (case d20 => rfl); (case z20 => decide); (case h20 => (refine' kdena_cons ?h21 ?t21; (case h21 => exact kden_int); (case t21 => (refine' kdena_cons ?h23 ?t23; (case h23 => exact kden_int); (case t23 => (refine' kdena_cons ?h25 ?t25; (case h25 => exact kden_int); (case t25 => exact kdena_nil))))))))); (case t19 => (refine' kdena_cons ?h27 ?t27; (case h27 => (refine' kden_tup KX rfl ?l28 ?c28 ?d28 ?h28 ?z28; (case l28 => k_is); (case c28 => rfl); (case d28 => rfl); (case z28 => decide); (case h28 => (refine' kdena_cons ?h29 ?t29; (case h29 => exact kden_int); (case t29 => (refine' kdena_cons ?h31 ?t31; (case h31 => exact kden_int); (case t31 => (refine' kdena_cons ?h33 ?t33; (case h33 => exact kden_int); (case t33 => exact kdena_nil))))))))); (case t27 => (refine' kdena_cons ?h35 ?t35; (case h35 => (refine' kden_tup KX rfl ?l36 ?c36 ?d36 ?h36 ?z36; (case l36 => k_is); (case c36 => rfl); (case d36 => rfl); (case z36 => decide); (case h36 => (refine' kdena_cons ?h37 ?t37; (case h37 => exact kden_int); (case t37 => (refine' kdena_cons ?h39 ?t39; (case h39 => exact kden_int); (case t39 => exact kdena_nil))))))); (case t35 => (refine' kdena_cons ?h41 ?t41; (case h41 => (refine' kden_tup KX rfl ?l42 ?c42 ?d42 ?h42 ?z42; (case l42 => k_is); (case c42 => rfl); (case d42 => rfl); (case z42 => decide); (case h42 => (refine' kdena_cons ?h43 ?t43; (case h43 => exact kden_int); (case t43 => exact kdena_nil))))); (case t41 => exact kdena_nil)))))))))))))))
    have t_c_MOST_DONE := fun (cells : List (PySem.Str × Addr)) => globD_of (G := mkGL KX w [cAt aC_Store, cAt aC_WindowError, cAt aC_BadProgram, cAt aC_BadInstruction, cAt aC_BadState, cAt aC_BadNumber, cAt aC_TooLong] Law.qL (tAt hP) cells Law.spec_law) (x := "MOST_DONE") (d := k_MOST_DONE) KX Gn (by k_is) (by unfold k_MOST_DONE; exact kden_int)
    have t_c_MOST_INSTRUCTIONS := fun (cells : List (PySem.Str × Addr)) => globD_of (G := mkGL KX w [cAt aC_Store, cAt aC_WindowError, cAt aC_BadProgram, cAt aC_BadInstruction, cAt aC_BadState, cAt aC_BadNumber, cAt aC_TooLong] Law.qL (tAt hP) cells Law.spec_law) (x := "MOST_INSTRUCTIONS") (d := k_MOST_INSTRUCTIONS) KX Gn (by k_is) (by unfold k_MOST_INSTRUCTIONS; exact kden_int)
    have t_c_MOST_SHOWN := fun (cells : List (PySem.Str × Addr)) => globD_of (G := mkGL KX w [cAt aC_Store, cAt aC_WindowError, cAt aC_BadProgram, cAt aC_BadInstruction, cAt aC_BadState, cAt aC_BadNumber, cAt aC_TooLong] Law.qL (tAt hP) cells Law.spec_law) (x := "MOST_SHOWN") (d := k_MOST_SHOWN) KX Gn (by k_is) (by unfold k_MOST_SHOWN; exact kden_int)
    have t_c_REGISTERS := fun (cells : List (PySem.Str × Addr)) => globD_of (G := mkGL KX w [cAt aC_Store, cAt aC_WindowError, cAt aC_BadProgram, cAt aC_BadInstruction, cAt aC_BadState, cAt aC_BadNumber, cAt aC_TooLong] Law.qL (tAt hP) cells Law.spec_law) (x := "REGISTERS") (d := k_REGISTERS) KX Gn (by k_is) (by unfold k_REGISTERS; exact kden_int)
    have t_c_USED_PLACES := fun (cells : List (PySem.Str × Addr)) => globD_of (G := mkGL KX w [cAt aC_Store, cAt aC_WindowError, cAt aC_BadProgram, cAt aC_BadInstruction, cAt aC_BadState, cAt aC_BadNumber, cAt aC_TooLong] Law.qL (tAt hP) cells Law.spec_law) (x := "USED_PLACES") (d := k_USED_PLACES) KX Gn (by k_is) (by unfold k_USED_PLACES; (refine' kden_dict [("set", _, _), ("sum", _, _), ("get", _, _), ("put", _, _), ("if", _, _), ("show", _, _)] KX rfl ?l49 ?e49 ?k49 ?n49 ?z49 ?h49; (case l49 => k_is); (case e49 => rfl); (case k49 => rfl); (case n49 => decide); (case z49 => decide); (case h49 => (refine' kdena_cons ?h50 ?t50; (case h50 => (refine' kden_tup KX rfl ?l51 ?c51 ?d51 ?h51 ?z51; (case l51 => k_is); (case c51 => rfl); (case d51 => rfl); (case z51 => decide); (case h51 => exact kdena_nil))); (case t50 => (refine' kdena_cons ?h52 ?t52; (case h52 => (refine' kden_tup KX rfl ?l53 ?c53 ?d53 ?h53 ?z53; (case l53 => k_is); (case c53 => rfl); (case d53 => rfl); (case z53 => decide); (case h53 => (refine' kdena_cons ?h54 ?t54; (case h54 => exact kden_int); (case t54 => (refine' kdena_cons ?h56 ?t56; (case h56 => exact kden_int); (case t56 => exact kdena_nil))))))); (case t52 => (refine' kdena_cons ?h58 ?t58; (case h58 => (refine' kden_tup KX rfl ?l59 ?c59 ?d59 ?h59 ?z59; (case l59 => k_is); (case c59 => rfl); (case d59 => rfl); (case z59 => decide); (case h59 => (refine' kdena_cons ?h60 ?t60; (case h60 => exact kden_int); (case t60 => exact kdena_nil))))); (case t58 => (refine' kdena_cons ?h62 ?t62; (case h62 => (refine' kden_tup KX rfl ?l63 ?c63 ?d63 ?h63 ?z63; (case l63 => k_is); (case c63 => rfl); (case d63 => rfl); (case z63 => decide); (case h63 => (refine' kdena_cons ?h64 ?t64; (case h64 => exact kden_int); (case t64 => (refine' kdena_cons ?h66 ?t66; (case h66 => exact kden_int); (case t66 => exact kdena_nil))))))); (case t62 => (refine' kdena_cons ?h68 ?t68; (case h68 => (refine' kden_tup KX rfl ?l69 ?c69 ?d69 ?h69 ?z69; (case l69 => k_is); (case c69 => rfl); (case d69 => rfl); (case z69 => decide); (case h69 => (refine' kdena_cons ?h70 ?t70; (case h70 => exact kden_int); (case t70 => exact kdena_nil))))); (case t68 => (refine' kdena_cons ?h72 ?t72; (case h72 => (refine' kden_tup KX rfl ?l73 ?c73 ?d73 ?h73 ?z73; (case l73 => k_is); (case c73 => rfl); (case d73 => rfl); (case z73 => decide); (case h73 => (refine' kdena_cons ?h74 ?t74; (case h74 => exact kden_int); (case t74 => exact kdena_nil))))); (case t72 => exact kdena_nil)))))))))))))))
    have t_c_WORDS := fun (cells : List (PySem.Str × Addr)) => globD_of (G := mkGL KX w [cAt aC_Store, cAt aC_WindowError, cAt aC_BadProgram, cAt aC_BadInstruction, cAt aC_BadState, cAt aC_BadNumber, cAt aC_TooLong] Law.qL (tAt hP) cells Law.spec_law) (x := "WORDS") (d := k_WORDS) KX Gn (by k_is) (by unfold k_WORDS; exact kden_int)
    have t_c_WRITING_KINDS := fun (cells : List (PySem.Str × Addr)) => globD_of (G := mkGL KX w [cAt aC_Store, cAt aC_WindowError, cAt aC_BadProgram, cAt aC_BadInstruction, cAt aC_BadState, cAt aC_BadNumber, cAt aC_TooLong] Law.qL (tAt hP) cells Law.spec_law) (x := "WRITING_KINDS") (d := k_WRITING_KINDS) KX Gn (by k_is) (by unfold k_WRITING_KINDS; (refine' kden_tup KX rfl ?l77 ?c77 ?d77 ?h77 ?z77; (case l77 => k_is); (case c77 => rfl); (case d77 => rfl); (case z77 => decide); (case h77 => (refine' kdena_cons ?h78 ?t78; (case h78 => exact kden_str); (case t78 => (refine' kdena_cons ?h80 ?t80; (case h80 => exact kden_str); (case t80 => (refine' kdena_cons ?h82 ?t82; (case h82 => exact kden_str); (case t82 => exact kdena_nil)))))))))
    have t_b_all := bltn_of (x := "all") KX Gn (by k_is)
    have t_na_Store_cells := na_of (f := Str.ofString "cells") aC_Store (by k_is)
    have t_na_Store_registers := na_of (f := Str.ofString "registers") aC_Store (by k_is)
    have t_na_Store_shown := na_of (f := Str.ofString "shown") aC_Store (by k_is)
    have t_b_bool := bltn_of (x := "bool") KX Gn (by k_is)
    have t_cl_Store := cl_of aC_Store (by k_is) (by k_is) (by k_is) (by k_is)
    have tb_TooLong := em_base aC_TooLong (by k_is) (by k_is) (by k_is)
    have te_TooLong_BadInstruction := em_of aC_BadInstruction aC_TooLong (b := false) tb_TooLong (by k_is)
    have te_TooLong_BadProgram := em_of aC_BadProgram aC_TooLong (b := false) tb_TooLong (by k_is)
    have te_TooLong_BadState := em_of aC_BadState aC_TooLong (b := false) tb_TooLong (by k_is)
    have te_TooLong_BadNumber := em_of aC_BadNumber aC_TooLong (b := false) tb_TooLong (by k_is)
    have te_TooLong_TooLong := em_of aC_TooLong aC_TooLong (b := true) tb_TooLong (by k_is)
    have tb_WindowError := em_base aC_WindowError (by k_is) (by k_is) (by k_is)
    have te_WindowError_BadInstruction := em_of aC_BadInstruction aC_WindowError (b := true) tb_WindowError (by k_is)
    have te_WindowError_BadProgram := em_of aC_BadProgram aC_WindowError (b := true) tb_WindowError (by k_is)
    have te_WindowError_BadState := em_of aC_BadState aC_WindowError (b := true) tb_WindowError (by k_is)
    have te_WindowError_BadNumber := em_of aC_BadNumber aC_WindowError (b := true) tb_WindowError (by k_is)
    have te_WindowError_TooLong := em_of aC_TooLong aC_WindowError (b := true) tb_WindowError (by k_is)
    have t_b_enumerate := bltn_of (x := "enumerate") KX Gn (by k_is)
    have t_er_BadInstruction := errG_of KX Gn aC_BadInstruction (by k_exc) (by k_is) (by k_is) (by k_is)
    have t_er_BadNumber := errG_of KX Gn aC_BadNumber (by k_exc) (by k_is) (by k_is) (by k_is)
    have t_er_BadState := errG_of KX Gn aC_BadState (by k_exc) (by k_is) (by k_is) (by k_is)
    have t_gc_BadInstruction := PySem.W.mg_of KX Gn aC_BadInstruction
    have t_gc_BadNumber := PySem.W.mg_of KX Gn aC_BadNumber
    have t_gc_BadProgram := PySem.W.mg_of KX Gn aC_BadProgram
    have t_gc_BadState := PySem.W.mg_of KX Gn aC_BadState
    have t_gc_TooLong := PySem.W.mg_of KX Gn aC_TooLong
    have t_gc_WindowError := PySem.W.mg_of KX Gn aC_WindowError
    have t_oex_BadProgram := oexC_of aC_BadProgram (by k_is) (by rfl) (by k_is) (by k_is) (by k_is) (by k_is)
    have t_in_BadProgram := iniX_of (P := (PySem.Challenge.rw_windowbelt_k03_whole_plain).prog) (st := inClass (Law.top 2) 0) (fld := "index") (fld0 := "index") (slf := "self") (y := "index") KX Gn aC_BadProgram t_oex_BadProgram (by k_is) (by k_is) (by k_is) (by rfl) (.word (.value (.nil))) (by first | decide | decide +kernel) (fun _ => by rfl) (fun _ => by rfl) (fun _ => by rfl) (fun us hl => match us, hl with | [_, _], _ => by rfl) (by k_is) (by rfl) (by rfl) (by k_is) (by rfl) (by first | rfl | decide | kernel_rfl) (by k_is) (by k_is) (by ks_is) (by k_is) (by kernel_rfl) (by k_is) (by k_is) (by k_is) (by rfl) (by rfl) (by rfl) (by rfl) (by rfl) (by rfl) (by rfl) (by rfl) (by decide +kernel) (by decide) (by decide) (by decide) (by first | rfl | kernel_rfl | decide +kernel)
    have t_oex_TooLong := oexC_of aC_TooLong (by k_is) (by rfl) (by k_is) (by k_is) (by k_is) (by k_is)
    have t_in_TooLong := iniX_of (P := (PySem.Challenge.rw_windowbelt_k03_whole_plain).prog) (st := inClass (Law.top 6) 0) (fld := "most") (fld0 := "most") (slf := "self") (y := "most") KX Gn aC_TooLong t_oex_TooLong (by k_is) (by k_is) (by k_is) (by rfl) (.word (.value (.nil))) (by first | decide | decide +kernel) (fun _ => by rfl) (fun _ => by rfl) (fun _ => by rfl) (fun us hl => match us, hl with | [_, _], _ => by rfl) (by k_is) (by rfl) (by rfl) (by k_is) (by rfl) (by first | rfl | decide | kernel_rfl) (by k_is) (by k_is) (by ks_is) (by k_is) (by kernel_rfl) (by k_is) (by k_is) (by k_is) (by rfl) (by rfl) (by rfl) (by rfl) (by rfl) (by rfl) (by rfl) (by rfl) (by decide +kernel) (by decide) (by decide) (by decide) (by first | rfl | kernel_rfl | decide +kernel)
    have t_b_int := bltn_of (x := "int") KX Gn (by k_is)
    have t_b_isinstance := bltn_of (x := "isinstance") KX Gn (by k_is)
    have t_b_len := bltn_of (x := "len") KX Gn (by k_is)
    have t_b_list := bltn_of (x := "list") KX Gn (by k_is)
    have t_b_range := bltn_of (x := "range") KX Gn (by k_is)
    have t_b_str := bltn_of (x := "str") KX Gn (by k_is)
    have t_b_sum := bltn_of (x := "sum") KX Gn (by k_is)
    have t_b_tuple := bltn_of (x := "tuple") KX Gn (by k_is)
    have t_b_zip := bltn_of (x := "zip") KX Gn (by k_is)
    have tx_BadInstruction := excC_of aC_BadInstruction (by k_is) (by k_is) (by k_is) (by k_is) (by k_is) (by k_is) (by k_is) (by k_is)
    have tx_BadProgram := excC_of aC_BadProgram (by k_is) (by k_is) (by k_is) (by k_is) (by k_is) (by k_is) (by k_is) (by k_is)
    have tx_BadState := excC_of aC_BadState (by k_is) (by k_is) (by k_is) (by k_is) (by k_is) (by k_is) (by k_is) (by k_is)
    have tx_BadNumber := excC_of aC_BadNumber (by k_is) (by k_is) (by k_is) (by k_is) (by k_is) (by k_is) (by k_is) (by k_is)
    have tx_TooLong := excC_of aC_TooLong (by k_is) (by k_is) (by k_is) (by k_is) (by k_is) (by k_is) (by k_is) (by k_is)
    have t_nf_index_BadInstruction := nf_of (f := "index") aC_BadInstruction (by k_is)
    have t_nf_index_BadProgram := nf_of (f := "index") aC_BadProgram (by k_is)
    have t_nf_index_BadState := nf_of (f := "index") aC_BadState (by k_is)
    have t_nf_index_BadNumber := nf_of (f := "index") aC_BadNumber (by k_is)
    have t_nf_index_TooLong := nf_of (f := "index") aC_TooLong (by k_is)
    have ty_BadProgram := ty_base aC_BadProgram (by k_is) (by k_is)
    have tk_BadInstruction_BadProgram := kit_of aC_BadInstruction aC_BadProgram (b := false) ty_BadProgram (by k_is) (by decide)
    have tk_BadProgram_BadProgram := kit_of aC_BadProgram aC_BadProgram (b := true) ty_BadProgram (by k_is) (fun _ => rfl)
    have tk_BadState_BadProgram := kit_of aC_BadState aC_BadProgram (b := false) ty_BadProgram (by k_is) (by decide)
    have tk_BadNumber_BadProgram := kit_of aC_BadNumber aC_BadProgram (b := false) ty_BadProgram (by k_is) (by decide)
    have tk_TooLong_BadProgram := kit_of aC_TooLong aC_BadProgram (b := false) ty_BadProgram (by k_is) (by decide)
    have ty_BadInstruction := ty_base aC_BadInstruction (by k_is) (by k_is)
    have tk_BadInstruction_BadInstruction := kit_of aC_BadInstruction aC_BadInstruction (b := true) ty_BadInstruction (by k_is) (fun _ => rfl)
    have tk_BadProgram_BadInstruction := kit_of aC_BadProgram aC_BadInstruction (b := false) ty_BadInstruction (by k_is) (by decide)
    have tk_BadState_BadInstruction := kit_of aC_BadState aC_BadInstruction (b := false) ty_BadInstruction (by k_is) (by decide)
    have tk_BadNumber_BadInstruction := kit_of aC_BadNumber aC_BadInstruction (b := false) ty_BadInstruction (by k_is) (by decide)
    have tk_TooLong_BadInstruction := kit_of aC_TooLong aC_BadInstruction (b := false) ty_BadInstruction (by k_is) (by decide)
    have ty_BadState := ty_base aC_BadState (by k_is) (by k_is)
    have tk_BadInstruction_BadState := kit_of aC_BadInstruction aC_BadState (b := false) ty_BadState (by k_is) (by decide)
    have tk_BadProgram_BadState := kit_of aC_BadProgram aC_BadState (b := false) ty_BadState (by k_is) (by decide)
    have tk_BadState_BadState := kit_of aC_BadState aC_BadState (b := true) ty_BadState (by k_is) (fun _ => rfl)
    have tk_BadNumber_BadState := kit_of aC_BadNumber aC_BadState (b := false) ty_BadState (by k_is) (by decide)
    have tk_TooLong_BadState := kit_of aC_TooLong aC_BadState (b := false) ty_BadState (by k_is) (by decide)
    have ty_BadNumber := ty_base aC_BadNumber (by k_is) (by k_is)
    have tk_BadInstruction_BadNumber := kit_of aC_BadInstruction aC_BadNumber (b := false) ty_BadNumber (by k_is) (by decide)
    have tk_BadProgram_BadNumber := kit_of aC_BadProgram aC_BadNumber (b := false) ty_BadNumber (by k_is) (by decide)
    have tk_BadState_BadNumber := kit_of aC_BadState aC_BadNumber (b := false) ty_BadNumber (by k_is) (by decide)
    have tk_BadNumber_BadNumber := kit_of aC_BadNumber aC_BadNumber (b := true) ty_BadNumber (by k_is) (fun _ => rfl)
    have tk_TooLong_BadNumber := kit_of aC_TooLong aC_BadNumber (b := false) ty_BadNumber (by k_is) (by decide)
    have h_is_integer := funAt_of (st := s_is_integer) (ps := ["value"]) (x := "is_integer") KX Gn (by k_is) (by k_is) (by k_is) (by k_is) (fun _ _ _ _ _ _ us hl => match us, hl with | [_], _ => rfl)
    have h_register_written := funAt_of (st := s_register_written) (ps := ["instruction"]) (x := "register_written") KX Gn (by k_is) (by k_is) (by k_is) (by k_is) (fun _ _ _ _ _ _ us hl => match us, hl with | [_], _ => rfl)
    have h_registers_used := funAt_of (st := s_registers_used) (ps := ["instruction"]) (x := "registers_used") KX Gn (by k_is) (by k_is) (by k_is) (by k_is) (fun _ _ _ _ _ _ us hl => match us, hl with | [_], _ => rfl)
    have h_cell_told := funAt_of (st := s_cell_told) (ps := ["instruction", "words"]) (x := "cell_told") KX Gn (by k_is) (by k_is) (by k_is) (by k_is) (fun _ _ _ _ _ _ us hl => match us, hl with | [_, _], _ => rfl)
    have h__law_taken := funAt_of (st := s__law_taken) (ps := ["row", "many"]) (x := "_law_taken") KX Gn (by k_is) (by k_is) (by k_is) (by k_is) (fun _ _ _ _ _ _ us hl => match us, hl with | [_, _], _ => rfl)
    have h__law_writes := funAt_of (st := s__law_writes) (ps := ["one"]) (x := "_law_writes") KX Gn (by k_is) (by k_is) (by k_is) (by k_is) (fun _ _ _ _ _ _ us hl => match us, hl with | [_], _ => rfl)
    have h__law_uses := funAt_of (st := s__law_uses) (ps := ["one"]) (x := "_law_uses") KX Gn (by k_is) (by k_is) (by k_is) (by k_is) (fun _ _ _ _ _ _ us hl => match us, hl with | [_], _ => rfl)
    have h__law_told := funAt_of (st := s__law_told) (ps := ["work"]) (x := "_law_told") KX Gn (by k_is) (by k_is) (by k_is) (by k_is) (fun _ _ _ _ _ _ us hl => match us, hl with | [_], _ => rfl)
    have h__law_wrong := funAt_of (st := s__law_wrong) (ps := ["work"]) (x := "_law_wrong") KX Gn (by k_is) (by k_is) (by k_is) (by k_is) (fun _ _ _ _ _ _ us hl => match us, hl with | [_], _ => rfl)
    have h_Store___init__ := funOf_of (st := s_Store___init__) (ps := ["self", "state"]) (x := "__init__") (qual := "Store.__init__") aC_Store (by k_is) (by k_is) (by k_is) (by k_is) (by k_is) (fun _ _ _ _ _ _ us hl => match us, hl with | [_, _], _ => rfl)
    have hc_Store := PySem.W.mg_of KX Gn aC_Store
    have hm_Store := hm_of aC_Store (by k_is)
    have hk_Store := hk_of aC_Store (by k_is)
    have h_Store_show := funOf_of (st := s_Store_show) (ps := ["self", "word"]) (x := "show") (qual := "Store.show") aC_Store (by k_is) (by k_is) (by k_is) (by k_is) (by k_is) (fun _ _ _ _ _ _ us hl => match us, hl with | [_, _], _ => rfl)
    have h_Store_told := funOf_of (st := s_Store_told) (ps := ["self"]) (x := "told") (qual := "Store.told") aC_Store (by k_is) (by k_is) (by k_is) (by k_is) (by k_is) (fun _ _ _ _ _ _ us hl => match us, hl with | [_], _ => rfl)
    have h_is_from_to := funAt_of (st := s_is_from_to) (ps := ["value", "least", "most"]) (x := "is_from_to") KX Gn (by k_is) (by k_is) (by k_is) (by k_is) (fun _ _ _ _ _ _ us hl => match us, hl with | [_, _, _], _ => rfl)
    have h_result := funAt_of (st := s_result) (ps := ["store", "instruction", "words"]) (x := "result") KX Gn (by k_is) (by k_is) (by k_is) (by k_is) (fun _ _ _ _ _ _ us hl => match us, hl with | [_, _, _], _ => rfl)
    have h__law_pick := funAt_of (st := s__law_pick) (ps := ["row", "kinds"]) (x := "_law_pick") KX Gn (by k_is) (by k_is) (by k_is) (by k_is) (fun _ _ _ _ _ _ us hl => match us, hl with | [_, _], _ => rfl)
    have h__law_plain := funAt_of (st := s__law_plain) (ps := ["program", "state", "most"]) (x := "_law_plain") KX Gn (by k_is) (by k_is) (by k_is) (by k_is) (fun _ _ _ _ _ _ us hl => match us, hl with | [_, _, _], _ => rfl)
    have h_is_instruction_among := funAt_of (st := s_is_instruction_among) (ps := ["value", "many"]) (x := "is_instruction_among") KX Gn (by k_is) (by k_is) (by k_is) (by k_is) (fun _ _ _ _ _ _ us hl => match us, hl with | [_, _], _ => rfl)
    have h_are_words := funAt_of (st := s_are_words) (ps := ["value", "least", "most"]) (x := "are_words") KX Gn (by k_is) (by k_is) (by k_is) (by k_is) (fun _ _ _ _ _ _ us hl => match us, hl with | [_, _, _], _ => rfl)
    have h_step := funAt_of (st := s_step) (ps := ["store", "instruction", "number"]) (x := "step") KX Gn (by k_is) (by k_is) (by k_is) (by k_is) (fun _ _ _ _ _ _ us hl => match us, hl with | [_, _, _], _ => rfl)
    have h__law_instruction := funAt_of (st := s__law_instruction) (ps := ["row", "most"]) (x := "_law_instruction") KX Gn (by k_is) (by k_is) (by k_is) (by k_is) (fun _ _ _ _ _ _ us hl => match us, hl with | [_, _], _ => rfl)
    have h__law_state := funAt_of (st := s__law_state) (ps := ["row"]) (x := "_law_state") KX Gn (by k_is) (by k_is) (by k_is) (by k_is) (fun _ _ _ _ _ _ us hl => match us, hl with | [_], _ => rfl)
    have h_is_instruction := funAt_of (st := s_is_instruction) (ps := ["value"]) (x := "is_instruction") KX Gn (by k_is) (by k_is) (by k_is) (by k_is) (fun _ _ _ _ _ _ us hl => match us, hl with | [_], _ => rfl)
    have h_check_program := funAt_of (st := s_check_program) (ps := ["value"]) (x := "check_program") KX Gn (by k_is) (by k_is) (by k_is) (by k_is) (fun _ _ _ _ _ _ us hl => match us, hl with | [_], _ => rfl)
    have h_is_state := funAt_of (st := s_is_state) (ps := ["value"]) (x := "is_state") KX Gn (by k_is) (by k_is) (by k_is) (by k_is) (fun _ _ _ _ _ _ us hl => match us, hl with | [_], _ => rfl)
    have h_after := funAt_of (st := s_after) (ps := ["program", "state", "most"]) (x := "after") KX Gn (by k_is) (by k_is) (by k_is) (by k_is) (fun _ _ _ _ _ _ us hl => match us, hl with | [_, _, _], _ => rfl)
    have h__law_program := funAt_of (st := s__law_program) (ps := ["row", "most"]) (x := "_law_program") KX Gn (by k_is) (by k_is) (by k_is) (by k_is) (fun _ _ _ _ _ _ us hl => match us, hl with | [_, _], _ => rfl)
    have h_check_instruction := funAt_of (st := s_check_instruction) (ps := ["value"]) (x := "check_instruction") KX Gn (by k_is) (by k_is) (by k_is) (by k_is) (fun _ _ _ _ _ _ us hl => match us, hl with | [_], _ => rfl)
    have h_check_state := funAt_of (st := s_check_state) (ps := ["value"]) (x := "check_state") KX Gn (by k_is) (by k_is) (by k_is) (by k_is) (fun _ _ _ _ _ _ us hl => match us, hl with | [_], _ => rfl)
    have h_written_by := funAt_of (st := s_written_by) (ps := ["instruction"]) (x := "written_by") KX Gn (by k_is) (by k_is) (by k_is) (by k_is) (fun _ _ _ _ _ _ us hl => match us, hl with | [_], _ => rfl)
    have h_used_by := funAt_of (st := s_used_by) (ps := ["instruction"]) (x := "used_by") KX Gn (by k_is) (by k_is) (by k_is) (by k_is) (fun _ _ _ _ _ _ us hl => match us, hl with | [_], _ => rfl)
    have h_ran := funAt_of (st := s_ran) (ps := ["program", "state", "most"]) (x := "ran") KX Gn (by k_is) (by k_is) (by k_is) (by k_is) (fun _ _ _ _ _ _ us hl => match us, hl with | [_, _, _], _ => rfl)
    have h_ended := funAt_of (st := s_ended) (ps := ["program", "state"]) (x := "ended") KX Gn (by k_is) (by k_is) (by k_is) (by k_is) (fun _ _ _ _ _ _ us hl => match us, hl with | [_, _], _ => rfl)
    have h__law_alike := funAt_of (st := s__law_alike) (ps := ["found", "due"]) (x := "_law_alike") KX Gn (by k_is) (by k_is) (by k_is) (by k_is) (fun _ _ _ _ _ _ us hl => match us, hl with | [_, _], _ => rfl)
    have h_law := funAt_of (st := s_law) (ps := ["script"]) (x := "law") KX Gn (by k_is) (by k_is) (by k_is) (by k_is) (fun _ _ _ _ _ _ us hl => match us, hl with | [_], _ => rfl)
    obtain ⟨fdL, hF, hcode⟩ := lawFun_of (x := "law") (st := s_law) KX aL (by k_is) (by k_is) (by k_is)
    exact Law.law_top (cs := [cAt aC_Store, cAt aC_WindowError, cAt aC_BadProgram, cAt aC_BadInstruction, cAt aC_BadState, cAt aC_BadNumber, cAt aC_TooLong]) KX Gn hmg2 aL hP (by first | rfl | kernel_rfl | decide +kernel) (PySem.W.codeHd_of_K KX (by kernel_rfl)) hF hcode (fun cells => {
      c_CELLS := t_c_CELLS cells,
      c_GREATEST := t_c_GREATEST cells,
      c_MOST_DONE := t_c_MOST_DONE cells,
      c_MOST_INSTRUCTIONS := t_c_MOST_INSTRUCTIONS cells,
      c_MOST_SHOWN := t_c_MOST_SHOWN cells,
      c_REGISTERS := t_c_REGISTERS cells,
      c_USED_PLACES := t_c_USED_PLACES cells,
      c_WORDS := t_c_WORDS cells,
      c_WRITING_KINDS := t_c_WRITING_KINDS cells,
      b_all := t_b_all,
      na_Store_cells := t_na_Store_cells,
      na_Store_registers := t_na_Store_registers,
      na_Store_shown := t_na_Store_shown,
      b_bool := t_b_bool,
      cl_Store := t_cl_Store,
      em_TooLong := fun c b hb => by
        have hr := Law.sup_TooLong_r hb
        simp only [Law.raisedL, List.mem_cons, List.not_mem_nil, or_false] at hr
        rcases hr with rfl | rfl | rfl | rfl | rfl
        · cases hb; exact te_TooLong_BadInstruction
        · cases hb; exact te_TooLong_BadProgram
        · cases hb; exact te_TooLong_BadState
        · cases hb; exact te_TooLong_BadNumber
        · cases hb; exact te_TooLong_TooLong,
      em_WindowError := fun c b hb => by
        have hr := Law.sup_WindowError_r hb
        simp only [Law.raisedL, List.mem_cons, List.not_mem_nil, or_false] at hr
        rcases hr with rfl | rfl | rfl | rfl | rfl
        · cases hb; exact te_WindowError_BadInstruction
        · cases hb; exact te_WindowError_BadProgram
        · cases hb; exact te_WindowError_BadState
        · cases hb; exact te_WindowError_BadNumber
        · cases hb; exact te_WindowError_TooLong,
      b_enumerate := t_b_enumerate,
      er_BadInstruction := t_er_BadInstruction,
      er_BadNumber := t_er_BadNumber,
      er_BadState := t_er_BadState,
      gc_BadInstruction := t_gc_BadInstruction,
      gc_BadNumber := t_gc_BadNumber,
      gc_BadProgram := t_gc_BadProgram,
      gc_BadState := t_gc_BadState,
      gc_TooLong := t_gc_TooLong,
      gc_WindowError := t_gc_WindowError,
      in_BadProgram := t_in_BadProgram,
      in_TooLong := t_in_TooLong,
      b_int := t_b_int,
      b_isinstance := t_b_isinstance,
      b_len := t_b_len,
      b_list := t_b_list,
      b_range := t_b_range,
      b_str := t_b_str,
      b_sum := t_b_sum,
      b_tuple := t_b_tuple,
      b_zip := t_b_zip,
      ex_all := fun c hr => by
        simp only [Law.raisedL, List.mem_cons, List.not_mem_nil, or_false] at hr
        rcases hr with rfl | rfl | rfl | rfl | rfl
        · exact tx_BadInstruction
        · exact tx_BadProgram
        · exact tx_BadState
        · exact tx_BadNumber
        · exact tx_TooLong,
      nf_index := fun c hr => by
        simp only [Law.raisedL, List.mem_cons, List.not_mem_nil, or_false] at hr
        rcases hr with rfl | rfl | rfl | rfl | rfl
        · exact t_nf_index_BadInstruction
        · exact t_nf_index_BadProgram
        · exact t_nf_index_BadState
        · exact t_nf_index_BadNumber
        · exact t_nf_index_TooLong,
      kit_all := fun c k hr hk => by
        simp only [Law.raisedL, Law.testedL, List.mem_cons, List.not_mem_nil, or_false] at hr hk
        rcases hr with rfl | rfl | rfl | rfl | rfl <;> rcases hk with rfl | rfl | rfl | rfl
        · exact tk_BadInstruction_BadProgram
        · exact tk_BadInstruction_BadInstruction
        · exact tk_BadInstruction_BadState
        · exact tk_BadInstruction_BadNumber
        · exact tk_BadProgram_BadProgram
        · exact tk_BadProgram_BadInstruction
        · exact tk_BadProgram_BadState
        · exact tk_BadProgram_BadNumber
        · exact tk_BadState_BadProgram
        · exact tk_BadState_BadInstruction
        · exact tk_BadState_BadState
        · exact tk_BadState_BadNumber
        · exact tk_BadNumber_BadProgram
        · exact tk_BadNumber_BadInstruction
        · exact tk_BadNumber_BadState
        · exact tk_BadNumber_BadNumber
        · exact tk_TooLong_BadProgram
        · exact tk_TooLong_BadInstruction
        · exact tk_TooLong_BadState
        · exact tk_TooLong_BadNumber }) h_is_integer h_register_written h_registers_used h_cell_told h__law_taken h__law_writes h__law_uses h__law_told h__law_wrong h_Store___init__ hc_Store hm_Store hk_Store h_Store_show h_Store_told h_is_from_to h_result h__law_pick h__law_plain h_is_instruction_among h_are_words h_step h__law_instruction h__law_state h_is_instruction h_check_program h_is_state h_after h__law_program h_check_instruction h_check_state h_written_by h_used_by h_ran h_ended h__law_alike
