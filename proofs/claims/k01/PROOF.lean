import PyProof.Rows.All
import Wide.All
import OpenK.AllK
import Wide.FinOn
import HandS.ForMost
import HandS.Wide
import HandS.Gcd
import HandS.IsInst
import HandS.AnyAll
import HandS.SortRule
import HandS.TupAny
import HandS.Conv
import HandS.Zip
import HandS.Flow
import HandS.Style
import HandS.Defaults
import HandS.Deep
import HandS.NoneIn
import PyProof.TypeEq
import PyProof.InstEq
import HandS.GenList
import HandS.EndTab
import HandS.HeadWalk
import HandS.HeadHook4
import PySem.Challenge.RW_drawntold_k01_fractions_made_and_summed
set_option Elab.async false
set_option linter.all false
set_option maxRecDepth 100000
set_option maxHeartbeats 1000000
/-! DL: data, not addresses. What an expression comes to, as a partial function over data. -/
namespace DL
open PySem PySem.Spec PyProof.Rows L2

/-! ### what stands at a value -/
abbrev D := PyData
/-- the spring's state: its list of great numbers, its two numbers -/
structure G where
  deep : List Int
  p : Int
  q : Int
/-- what is fixed through the law: the spring and its list, the tables of code objects -/
structure Kx where
  K : PySem.W.Frag
  β : Addr
  γ : Addr
  T : List Addr
  /-- is the spring there? -/
  on : Bool := true

/-- a list that nobody writes -/
def FzAt (K : PySem.W.Frag) (H : Hp) (B : Addr → Prop) (a : Addr) (xs : List V) : Prop := (¬ B a ∧ Rd H a (.lst xs)) ∨
  ∃ (o : Obj) (its : Array Value) (n : Nat), K.lookup a = some o ∧ o.cls = .type "list" ∧ o.dict = none ∧ o.data = .seq its n ∧ its.size ≤ sizeLine ∧ Vals xs its.toList
theorem FzAt.sq {K : PySem.W.Frag} {H : Hp} {B : Addr → Prop} {a : Addr} {xs : List V} (h : FzAt K H B a xs) : SqL K H a xs := h.imp And.right id
theorem FzAt.mono {K : PySem.W.Frag} {H H' : Hp} {B B' : Addr → Prop} {a : Addr} {xs : List V} (hH : ∀ b o, ¬ B b → H b = some o → H' b = some o) (hB : ∀ b o, ¬ B b → H b = some o → ¬ B' b) (h : FzAt K H B a xs) : FzAt K H' B' a xs := by
  rcases h with ⟨nb, h | ⟨o, h⟩⟩ | h
  · exact .inl ⟨hB _ _ nb h, .inl (hH _ _ nb h)⟩
  · exact .inl ⟨hB _ _ nb h, .inr ⟨o, hH _ _ nb h⟩⟩
  · exact .inr h
mutual
inductive Rp (k : Kx) (H : Hp) (B : Addr → Prop) : V → D → Prop
  | non : Rp k H B .non .none
  | bl (b : Bool) : Rp k H B (.bl b) (.bool b)
  | int (i : Int) : Rp k H B (.int i) (.int i)
  | str (x : Str) : Rp k H B (.str x) (.str x)
  | lst {a : Addr} {xs : List V} {ds : List D} : ¬ B a → H a = some (.lst xs) → RpA k H B xs ds → Rp k H B (.ref a) (.list ds)
  | tup {a : Addr} {xs : List V} {ds : List D} : ¬ B a → H a = some (.tup xs) → RpA k H B xs ds → Rp k H B (.ref a) (.tuple ds)
  | br : Rp k H B (.ref k.β) (.dict [])
  | gr : Rp k H B (.ref k.γ) (.dict [(.none, .none)])
  | fz {a : Addr} {ns : List Int} : FzAt k.K H B a (ns.map .int) → Rp k H B (.ref a) (.dict [(.none, .list (ns.map .int))])
inductive RpA (k : Kx) (H : Hp) (B : Addr → Prop) : List V → List D → Prop
  | nil : RpA k H B [] []
  | cons {v : V} {vs : List V} {d : D} {ds : List D} : Rp k H B v d → RpA k H B vs ds → RpA k H B (v :: vs) (d :: ds)
end
mutual
theorem Rp.mono {k : Kx} {H H' : Hp} {B B' : Addr → Prop} (hH : ∀ b o, ¬ B b → H b = some o → H' b = some o) (hB : ∀ b o, ¬ B b → H b = some o → ¬ B' b) : ∀ (d : D) (v : V), Rp k H B v d → Rp k H' B' v d
  | .none, _, h => by cases h; exact .non
  | .bool _, _, h => by cases h; exact .bl _
  | .int _, _, h => by cases h; exact .int _
  | .str _, _, h => by cases h; exact .str _
  | .list ds, _, h => by
    cases h with
    | lst nb hr ha => exact .lst (hB _ _ nb hr) (hH _ _ nb hr) (RpA.mono hH hB ds _ ha)
  | .tuple ds, _, h => by
    cases h with
    | tup nb hr ha => exact .tup (hB _ _ nb hr) (hH _ _ nb hr) (RpA.mono hH hB ds _ ha)
  | .dict _, _, h => by
    cases h with
    | br => exact .br
    | gr => exact .gr
    | fz h => exact .fz (h.mono hH hB)
theorem RpA.mono {k : Kx} {H H' : Hp} {B B' : Addr → Prop} (hH : ∀ b o, ¬ B b → H b = some o → H' b = some o) (hB : ∀ b o, ¬ B b → H b = some o → ¬ B' b) : ∀ (ds : List D) (vs : List V), RpA k H B vs ds → RpA k H' B' vs ds
  | [], _, h => by cases h; exact .nil
  | d :: ds, _, h => by
    cases h with
    | cons h1 h2 => exact .cons (Rp.mono hH hB d _ h1) (RpA.mono hH hB ds _ h2)
end
theorem RpA.length {k : Kx} {H : Hp} {B : Addr → Prop} : ∀ {vs : List V} {ds : List D}, RpA k H B vs ds → vs.length = ds.length
  | _, _, .nil => rfl
  | _, _, .cons _ t => by rw [List.length_cons, List.length_cons, RpA.length t]
theorem RpA.get {k : Kx} {H : Hp} {B : Addr → Prop} : ∀ {vs : List V} {ds : List D} {i : Nat} {d : D}, RpA k H B vs ds → ds[i]? = some d → ∃ v, vs[i]? = some v ∧ Rp k H B v d
  | _, _, _, _, .nil, e => by simp at e
  | _, _, 0, _, .cons r _, e => by simp at e; subst e; exact ⟨_, rfl, r⟩
  | _, _, i + 1, d, .cons _ t, e => by
    obtain ⟨u, h1, h2⟩ := RpA.get (i := i) (d := d) t (by simpa using e)
    exact ⟨u, by simpa using h1, h2⟩
theorem RpA.get' {k : Kx} {H : Hp} {B : Addr → Prop} : ∀ {vs : List V} {ds : List D} {i : Nat} {v : V}, RpA k H B vs ds → vs[i]? = some v → ∃ d, ds[i]? = some d ∧ Rp k H B v d
  | _, _, _, _, .nil, e => by simp at e
  | _, _, 0, _, .cons r _, e => by simp at e; subst e; exact ⟨_, rfl, r⟩
  | _, _, i + 1, v, .cons _ t, e => by
    obtain ⟨u, h1, h2⟩ := RpA.get' (i := i) (v := v) t (by simpa using e)
    exact ⟨u, by simpa using h1, h2⟩
theorem RpA.append {k : Kx} {H : Hp} {B : Addr → Prop} : ∀ {vs ws : List V} {ds es : List D}, RpA k H B vs ds → RpA k H B ws es → RpA k H B (vs ++ ws) (ds ++ es)
  | _, _, _, _, .nil, s => s
  | _, _, _, _, .cons r t, s => .cons r (RpA.append t s)
theorem RpA.take {k : Kx} {H : Hp} {B : Addr → Prop} : ∀ {vs : List V} {ds : List D} (n : Nat), RpA k H B vs ds → RpA k H B (vs.take n) (ds.take n)
  | _, _, 0, _ => .nil
  | _, _, _ + 1, .nil => .nil
  | _, _, n + 1, .cons r t => .cons r (RpA.take n t)
theorem RpA.drop {k : Kx} {H : Hp} {B : Addr → Prop} : ∀ {vs : List V} {ds : List D} (n : Nat), RpA k H B vs ds → RpA k H B (vs.drop n) (ds.drop n)
  | _, _, 0, r => r
  | _, _, _ + 1, .nil => .nil
  | _, _, n + 1, .cons _ t => RpA.drop n t
theorem RpA.rev {k : Kx} {H : Hp} {B : Addr → Prop} : ∀ {vs : List V} {ds : List D}, RpA k H B vs ds → RpA k H B vs.reverse ds.reverse
  | _, _, .nil => .nil
  | _, _, .cons r t => by
    rw [List.reverse_cons, List.reverse_cons]
    exact (RpA.rev t).append (.cons r .nil)

/-! nothing that may be written is within -/
mutual
def flat : D → Bool
  | .list _ => false
  | .tuple ds => flatA ds
  | _ => true
def flatA : List D → Bool
  | [] => true
  | d :: ds => flat d && flatA ds
end

/-! ### the frame and the state -/
def B0 (k : Kx) (b : Addr) : Prop := (k.on = true ∧ b = k.β) ∨ (k.on = true ∧ b = k.γ) ∨ b ∈ k.T
def Fr0 (k : Kx) (H H' : Hp) : Prop := ∀ b o, ¬ B0 k b → H b = some o → H' b = some o
theorem Fr0.refl (k : Kx) (H : Hp) : Fr0 k H H := fun _ _ _ h => h
theorem Fr0.trans {k : Kx} {H H1 H2 : Hp} (a : Fr0 k H H1) (b : Fr0 k H1 H2) : Fr0 k H H2 := fun c o n h => b c o n (a c o n h)
theorem Fr0.of {k : Kx} {H H' : Hp} (s : Same H H') : Fr0 k H H' := fun b o _ h => s b o h
/-- the spring, the tables -/
structure GA (k : Kx) (H : Hp) (g : G) : Prop where
  b : k.on = true → H k.β = some (.lst [.ref k.γ, .int g.p, .int g.q])
  c : k.on = true → H k.γ = some (.lst (g.deep.map .int))
  t : ∀ P ∈ k.T, GxR.TabG H P
theorem GA.same {k : Kx} {H H' : Hp} {g : G} (s : Same H H') (h : GA k H g) : GA k H' g := ⟨fun o => s _ _ (h.b o), fun o => s _ _ (h.c o), fun P hP => let ⟨ps, e, t⟩ := h.t P hP; ⟨ps, s _ _ e, t⟩⟩
theorem GA.has {k : Kx} {H : Hp} {g : G} (h : GA k H g) {b : Addr} (z : B0 k b) : H b ≠ none := by
  rcases z with z | z | z
  · rw [z.2, h.b z.1]; exact fun q => nomatch q
  · rw [z.2, h.c z.1]; exact fun q => nomatch q
  · obtain ⟨ps, e, _⟩ := h.t b z
    rw [e]; exact fun q => nomatch q
/-- behind an expression -/
structure PEd (k : Kx) (g : G) (H H' : Hp) : Prop where
  fr : Fr0 k H H'
  ga : GA k H' g
theorem PEd.trans {k : Kx} {g g' : G} {H H1 H2 : Hp} (a : PEd k g H H1) (b : PEd k g' H1 H2) : PEd k g' H H2 := ⟨a.fr.trans b.fr, b.ga⟩
theorem PEd.same {k : Kx} {g : G} {H H' : Hp} (s : Same H H') (h : GA k H g) : PEd k g H H' := ⟨.of s, h.same s⟩

/-- a local name: nothing, a value, a list of one's own that is written -/
inductive Sl where
  | no | val (d : D) | own (ds : List D)
abbrev En := List Sl
/-- a def's run: what it may not hold (its callers' lists), the heap at its entry -/
structure Fx where
  Bo : Addr → Prop
  H0 : Hp
def BE (f : Fx) (sm : Bool) (E : En) (μ : Nat → Addr) (b : Addr) : Prop := f.Bo b ∨ (sm = true ∧ ∃ (i : Nat) (ds : List D), E[i]? = some (Sl.own ds) ∧ b = μ i)
structure Ist (k : Kx) (f : Fx) (ex : List (V × D)) (E : En) (μ : Nat → Addr) (g : G) (σ : L2.St) (H : Hp) : Prop where
  len : σ.length = E.length
  val : ∀ (i : Nat) (d : D), E[i]? = some (Sl.val d) → ∃ v, σ[i]? = some (some v) ∧ Rp k H (BE f true E μ) v d
  own : ∀ (i : Nat) (ds : List D), E[i]? = some (Sl.own ds) → σ[i]? = some (some (.ref (μ i))) ∧ f.H0 (μ i) = none ∧ ¬ f.Bo (μ i) ∧ ∃ vs, H (μ i) = some (.lst vs) ∧ RpA k H (BE f true E μ) vs ds
  inj : ∀ (i j : Nat) (ds es : List D), E[i]? = some (Sl.own ds) → E[j]? = some (Sl.own es) → μ i = μ j → i = j
  exs : ∀ p ∈ ex, Rp k H (BE f true E μ) p.1 p.2
  ga : GA k H g
  fr : Fr0 k f.H0 H
  b0 : ∀ b, B0 k b → f.Bo b
  bo : ∀ b, f.Bo b → H b ≠ none
theorem BE.weak {f : Fx} {sm : Bool} {E : En} {μ : Nat → Addr} {b : Addr} (h : BE f sm E μ b) : BE f true E μ b := h.imp id fun ⟨_, q⟩ => ⟨rfl, q⟩
section
variable {k : Kx} {f : Fx} {ex : List (V × D)} {E : En} {μ : Nat → Addr} {g g' : G} {σ : L2.St} {H H' : Hp}
theorem Ist.be (I : Ist k f ex E μ g σ H) {b : Addr} (sm : Bool) (z : BE f sm E μ b) : H b ≠ none := by
  rcases z with z | ⟨_, i, ds, e, z⟩
  · exact I.bo b z
  · obtain ⟨_, _, _, vs, h, _⟩ := I.own i ds e
    rw [z, h]; exact fun q => nomatch q
theorem Rp.step {v : V} {d : D} {B : Addr → Prop} (hB : ∀ b, B0 k b → B b) (p : Fr0 k H H') (r : Rp k H B v d) : Rp k H' B v d :=
  Rp.mono (fun b o n h => p b o (fun z => n (hB b z)) h) (fun _ _ z _ => z) d v r
theorem RpA.step {vs : List V} {ds : List D} {B : Addr → Prop} (hB : ∀ b, B0 k b → B b) (p : Fr0 k H H') (r : RpA k H B vs ds) : RpA k H' B vs ds :=
  RpA.mono (fun b o n h => p b o (fun z => n (hB b z)) h) (fun _ _ z _ => z) ds vs r
theorem Ist.hb (I : Ist k f ex E μ g σ H) (sm : Bool) : ∀ b, B0 k b → BE f sm E μ b := fun b z => .inl (I.b0 b z)
theorem Ist.step (I : Ist k f ex E μ g σ H) (p : PEd k g' H H') : Ist k f ex E μ g' σ H' where
  len := I.len
  val := fun i d e => let ⟨v, h1, h2⟩ := I.val i d e; ⟨v, h1, h2.step (I.hb true) p.fr⟩
  own := fun i ds e => let ⟨h1, h2, h3, vs, h4, h5⟩ := I.own i ds e; ⟨h1, h2, h3, vs, p.fr _ _ (fun z => h3 (I.b0 _ z)) h4, h5.step (I.hb true) p.fr⟩
  inj := I.inj
  exs := fun q hq => (I.exs q hq).step (I.hb true) p.fr
  ga := p.ga
  fr := I.fr.trans p.fr
  b0 := I.b0
  bo := fun b z => by
    by_cases hb : B0 k b
    · exact p.ga.has hb
    · cases e : H b with
      | none => exact absurd e (I.bo b z)
      | some o => rw [p.fr b o hb e]; exact fun q => nomatch q
end

/-! ### the judgements: what a piece comes to -/
abbrev M := En → G → Option (D × G)
abbrev MT := En → G → Option (Bool × G)
abbrev ML := En → G → Option (List D × G)
section
variable (k : Kx) (f : Fx) (sm : Bool)
def tE (m : M) : TE := fun σ H Q => ∃ ex E μ g d g', Ist k f ex E μ g σ H ∧ m E g = some (d, g') ∧ ∀ v H', PEd k g' H H' → Rp k H' (BE f sm E μ) v d → Q v H'
def tT (m : MT) : TT := fun σ H Q => ∃ ex E μ g b g', Ist k f ex E μ g σ H ∧ m E g = some (b, g') ∧ ∀ H', PEd k g' H H' → Q b H'
def tL (m : ML) : TA := fun σ H Q => ∃ ex E μ g ds g', Ist k f ex E μ g σ H ∧ m E g = some (ds, g') ∧ ∀ vs H', PEd k g' H H' → RpA k H' (BE f sm E μ) vs ds → Q vs H'
/-- a new list -/
def tN (m : ML) : TE := fun σ H Q => ∃ ex E μ g ds g', Ist k f ex E μ g σ H ∧ m E g = some (ds, g') ∧ ∀ p vs H', PEd k g' H H' → H' p = none → RpA k H' (BE f sm E μ) vs ds → Q (.ref p) (upd H' p (.lst vs))
end
section
variable {k : Kx} {f : Fx} {X : Cx}
theorem pe_of {e : Expr} {t t' : TE} (h : PE X e t) (w : ∀ σ H Q, t' σ H Q → t σ H Q) : PE X e t' := ⟨fun pins s σ H Q I q => h.run pins s σ H Q I (w σ H Q q)⟩
theorem pt_of {e : Expr} {t t' : TT} (h : PT X e t) (w : ∀ σ H Q, t' σ H Q → t σ H Q) : PT X e t' := ⟨fun pins s σ H Q I q => h.run pins s σ H Q I (w σ H Q q)⟩
theorem pw_of {e : Expr} {t t' : TT} (h : PW X e t) (w : ∀ σ H Q, t' σ H Q → t σ H Q) : PW X e t' := ⟨fun wh pins s σ H Q I q => h.run wh pins s σ H Q I (w σ H Q q)⟩
theorem pa_of {es : List Expr} {t t' : TA} (h : PA X es t) (w : ∀ σ H Q, t' σ H Q → t σ H Q) : PA X es t' := ⟨fun pos pins s σ H Q I q => h.run pos pins s σ H Q I (w σ H Q q)⟩
theorem ps_of {st : Stmt} {t t' : TS} (h : PS X st t) (w : ∀ D σ H, t' D σ H → t D σ H) : PS X st t' := ⟨fun pins s σ H D I q => h.run pins s σ H D I (w D σ H q)⟩
theorem pss_of {st : List Stmt} {t t' : TS} (h : PSs X st t) (w : ∀ D σ H, t' D σ H → t D σ H) : PSs X st t' := ⟨fun pins s σ H D I q => h.run pins s σ H D I (w D σ H q)⟩
end

/-! ### names, constants -/
def eK (d : D) : M := fun _ g => some (d, g)
def eV (sm : Bool) (i : Nat) : M := fun E g => match E[i]? with
  | some (Sl.val d) => some (d, g)
  | some (Sl.own ds) => if sm = true then none else some (.list ds, g)
  | _ => none
section
variable {k : Kx} {f : Fx} {sm : Bool} {X : Cx} {pos : Pos} {j : Nat}
theorem de_int {i : Int} : PE X (.Constant (.int i) j pos) (tE k f sm (eK (.int i))) := pe_of pe_int fun σ H Q ⟨ex, E, μ, g, d, g', I, e, q⟩ => by
  cases e; exact q _ H (.same (.refl H) I.ga) (.int i)
theorem de_bl {b : Bool} : PE X (.Constant (.bool b) j pos) (tE k f sm (eK (.bool b))) := pe_of pe_bl fun σ H Q ⟨ex, E, μ, g, d, g', I, e, q⟩ => by
  cases e; exact q _ H (.same (.refl H) I.ga) (.bl b)
theorem de_non : PE X (.Constant .none j pos) (tE k f sm (eK .none)) := pe_of pe_non fun σ H Q ⟨ex, E, μ, g, d, g', I, e, q⟩ => by
  cases e; exact q _ H (.same (.refl H) I.ga) .non
theorem de_str {x : Str} : PE X (.Constant (.str x) j pos) (tE k f sm (eK (.str x))) := pe_of pe_str fun σ H Q ⟨ex, E, μ, g, d, g', I, e, q⟩ => by
  cases e; exact q _ H (.same (.refl H) I.ga) (.str x)
theorem de_var (i : Nat) {x : Str} (hN : X.N[i]? = some x := by rfl) (hv : Vis X.env.scope x := by first | exact Or.inl rfl | exact Or.inr (Or.inl rfl) | exact Or.inr (Or.inr rfl)) (hd : (x == ("__debug__" : Str)) = false := by decide)
    (hcd : (x == ("__classdict__" : Str)) = false := by decide) : PE X (.Name x pos) (tE k f sm (eV sm i)) := pe_of (pv i hN hv hd hcd) fun σ H Q ⟨ex, E, μ, g, d, g', I, e, q⟩ => by
  unfold eV at e
  split at e
  · rename_i d0 h0
    cases e
    obtain ⟨v, h1, h2⟩ := I.val i _ h0
    exact ⟨v, h1, q v H (.same (.refl H) I.ga) (Rp.mono (fun _ _ _ h => h) (fun b _ n _ z => n z.weak) _ _ h2)⟩
  · rename_i ds h0
    split at e
    · cases e
    · rename_i hs
      cases e
      obtain ⟨h1, _, h3, vs, h4, h5⟩ := I.own i ds h0
      have hsm : sm = false := by cases sm <;> simp_all
      subst hsm
      have nb : ¬ BE f false E μ (μ i) := fun z => by
        rcases z with z | ⟨z, _⟩
        · exact h3 z
        · cases z
      exact ⟨_, h1, q _ H (.same (.refl H) I.ga) (.lst nb h4 (RpA.mono (fun _ _ _ h => h) (fun b _ n _ z => n z.weak) _ _ h5))⟩
  · cases e
/-- a module's constant -/
theorem de_glob {x : Str} {v : V} {u : Value} {d : D} (hg : Gl X x) (hm : X.mg x = some u) (r : RelV v u) (hd : ∀ H B, Rp k H B v d) (hdb : (x == ("__debug__" : Str)) = false := by decide) : PE X (.Name x pos) (tE k f sm (eK d)) :=
  pe_of (pe_glob hg hm r hdb) fun σ H Q ⟨ex, E, μ, g, d', g', I, e, q⟩ => by
    cases e; exact q _ H (.same (.refl H) I.ga) (hd H _)
end

/-! ### argument lists -/
def lNil : ML := fun _ g => some ([], g)
def lCons (a : M) (r : ML) : ML := fun E g => match a E g with
  | none => none
  | some (d, g1) => match r E g1 with
    | none => none
    | some (ds, g2) => some (d :: ds, g2)
section
variable {k : Kx} {f : Fx} {sm : Bool} {X : Cx} {pos : Pos} {e : Expr} {es : List Expr} {m : M} {ml : ML}
theorem dl_nil : PA X [] (tL k f sm lNil) := pa_of pa_nil fun σ H Q ⟨ex, E, μ, g, ds, g', I, e, q⟩ => by
  cases e; exact q [] H (.same (.refl H) I.ga) .nil
theorem dl_cons (ha : PE X e (tE k f sm m)) (hr : PA X es (tL k f sm ml)) (hs : starEach (e :: es) X.env = (false, eval e X.env) :: starEach es X.env := by rfl) : PA X (e :: es) (tL k f sm (lCons m ml)) :=
  pa_of (pa_cons ha hr hs) fun σ H Q ⟨ex, E, μ, g, ds, g', I, e, q⟩ => by
    unfold lCons at e
    split at e
    · cases e
    · rename_i d g1 h1
      split at e
      · cases e
      · rename_i ds2 g2 h2
        cases e
        refine ⟨ex, E, μ, g, d, g1, I, h1, fun v H1 p1 r1 => ?_⟩
        refine ⟨ex, E, μ, g1, ds2, g', I.step p1, h2, fun vs H2 p2 r2 => ?_⟩
        exact q _ H2 (p1.trans p2) (.cons (r1.step (I.hb sm) p2.fr) r2)
end

/-! ### operators by values -/
/-- what a value-level reading comes to, over data -/
def OpD (k : Kx) (r : R2) (h : D → D → Option D) : Prop := ∀ (B : Addr → Prop) (H : Hp) (x y : V) (d e z : D) (Q : VK), (∀ b, B b → H b ≠ none) → Rp k H B x d → Rp k H B y e → h d e = some z → (∀ v H', Same H H' → Rp k H' B v z → Q v H') → r x y H Q
def UnD (k : Kx) (r : V → Hp → VK → Prop) (h : D → Option D) : Prop := ∀ (B : Addr → Prop) (H : Hp) (x : V) (d z : D) (Q : VK), (∀ b, B b → H b ≠ none) → Rp k H B x d → h d = some z → (∀ v H', Same H H' → Rp k H' B v z → Q v H') → r x H Q
def CaD (k : Kx) (r : List V → Hp → VK → Prop) (h : List D → Option D) : Prop := ∀ (B : Addr → Prop) (H : Hp) (xs : List V) (ds : List D) (z : D) (Q : VK), (∀ b, B b → H b ≠ none) → RpA k H B xs ds → h ds = some z → (∀ v H', Same H H' → Rp k H' B v z → Q v H') → r xs H Q
def e2 (h : D → D → Option D) (a b : M) : M := fun E g => match a E g with
  | none => none
  | some (x, g1) => match b E g1 with
    | none => none
    | some (y, g2) => match h x y with
      | none => none
      | some z => some (z, g2)
def e1 (h : D → Option D) (a : M) : M := fun E g => match a E g with
  | none => none
  | some (x, g1) => match h x with
    | none => none
    | some z => some (z, g1)
def eF (h : List D → Option D) (a : ML) : M := fun E g => match a E g with
  | none => none
  | some (x, g1) => match h x with
    | none => none
    | some z => some (z, g1)
section
variable {k : Kx} {f : Fx} {sm : Bool} {X : Cx} {pos : Pos} {a b : Expr} {ma mb : M} {h : D → D → Option D}
theorem t_op {r : R2} (hr : OpD k r h) {σ : L2.St} {H : Hp} {Q : VK} (w : tE k f sm (e2 h ma mb) σ H Q) : tOp r (tE k f sm ma) (tE k f sm mb) σ H Q := by
  obtain ⟨ex, E, μ, g, d, g', I, e, q⟩ := w
  unfold e2 at e
  split at e
  · cases e
  · rename_i x g1 h1
    split at e
    · cases e
    · rename_i y g2 h2
      split at e
      · cases e
      · rename_i z h3
        cases e
        refine ⟨ex, E, μ, g, x, g1, I, h1, fun v H1 p1 r1 => ?_⟩
        refine ⟨ex, E, μ, g1, y, g', I.step p1, h2, fun u H2 p2 r2 => ?_⟩
        have I2 := (I.step p1).step p2
        refine hr (BE f sm E μ) H2 v u x y d Q (fun b z => I2.be sm z) (r1.step (I.hb sm) p2.fr) r2 h3 fun w H3 s3 r3 => ?_
        exact q w H3 ((p1.trans p2).trans (.same s3 I2.ga)) r3
theorem de_op {op : Operator} {r : R2} (ho : OpR X (binaryOp op) r) (hr : OpD k r h) (ha : PE X a (tE k f sm ma)) (hb : PE X b (tE k f sm mb)) : PE X (.BinOp a op b pos) (tE k f sm (e2 h ma mb)) :=
  pe_of (pe_op ho ha hb) fun _ _ _ w => t_op hr w
theorem de_cmp {op : CmpOp} {r : R2} (ho : OpR X (compareOp op) r) (hr : OpD k r h) (ha : PE X a (tE k f sm ma)) (hb : PE X b (tE k f sm mb)) (hm : behindInMarks op b = false) : PE X (.Compare a [op] [b] pos) (tE k f sm (e2 h ma mb)) :=
  pe_of (pe_cmpR ho ha hb hm) fun _ _ _ w => t_op hr w
theorem de_ix {r : R2} (ho : IxR X r) (hr : OpD k r h) (ha : PE X a (tE k f sm ma)) (hb : PE X b (tE k f sm mb)) (hs : PlainIx b := by exact fun _ _ => rfl) : PE X (.Subscript a b pos) (tE k f sm (e2 h ma mb)) :=
  pe_of (pe_ix ho ha hb hs) fun _ _ _ w => t_op hr w
theorem de_un {op : UnaryOp} {r : V → Hp → VK → Prop} {h : D → Option D} (ho : UnR X (unaryOp op) r) (hr : UnD k r h) (ha : PE X a (tE k f sm ma)) : PE X (.UnaryOp op a pos) (tE k f sm (e1 h ma)) :=
  pe_of (pe_un ho ha) fun σ H Q ⟨ex, E, μ, g, d, g', I, e, q⟩ => by
    unfold e1 at e
    split at e
    · cases e
    · rename_i x g1 h1
      split at e
      · cases e
      · rename_i z h3
        cases e
        refine ⟨ex, E, μ, g, x, g', I, h1, fun v H1 p1 r1 => ?_⟩
        have I2 := I.step p1
        refine hr (BE f sm E μ) H1 v x d Q (fun b z => I2.be sm z) r1 h3 fun w H3 s3 r3 => ?_
        exact q w H3 (p1.trans (.same s3 I2.ga)) r3
theorem t_cb {r : List V → Hp → VK → Prop} {h : List D → Option D} {ml : ML} (hr : CaD k r h) {σ : L2.St} {H : Hp} {Q : VK} (w : tE k f sm (eF h ml) σ H Q) : tCB r (tL k f sm ml) σ H Q := by
  obtain ⟨ex, E, μ, g, d, g', I, e, q⟩ := w
  unfold eF at e
  split at e
  · cases e
  · rename_i x g1 h1
    split at e
    · cases e
    · rename_i z h3
      cases e
      refine ⟨ex, E, μ, g, x, g', I, h1, fun v H1 p1 r1 => ?_⟩
      have I2 := I.step p1
      refine hr (BE f sm E μ) H1 v x d Q (fun b z => I2.be sm z) r1 h3 fun w H3 s3 r3 => ?_
      exact q w H3 (p1.trans (.same s3 I2.ga)) r3
theorem de_callB {x : Str} {p : Pos} {e : Expr} {es : List Expr} {id : String} {r : List V → Hp → VK → Prop} {h : List D → Option D} {ml : ML} (hc : CallR X (.builtin id) r) (hr : CaD k r h) (hg : Gl X x) (hm : X.mg x = none) (hv : bootBuiltins x = some (.builtin id)) (ha : PA X (e :: es) (tL k f sm ml)) (hn : x ≠ "__name__" := by decide) (hdb : (x == ("__debug__" : Str)) = false := by decide)
    (he : starEach (e :: es) X.env = (false, eval e X.env) :: starEach es X.env := by rfl) (hpl : (backTo pos (starEach es X.env)).any (·.1) = false := by rfl) : PE X (.Call (.Name x p) (e :: es) [] pos) (tE k f sm (eF h ml)) :=
  pe_of (pe_callB hc hg hm hv ha hn hdb he hpl) fun _ _ _ w => t_cb hr w
theorem de_callTy {x : Str} {p : Pos} {e : Expr} {es : List Expr} {T : String} {r : List V → Hp → VK → Prop} {h : List D → Option D} {ml : ML} (hc : CallR X (.type T) r) (hr : CaD k r h) (hg : Gl X x) (hm : X.mg x = none) (hv : bootBuiltins x = some (.type T)) (ha : PA X (e :: es) (tL k f sm ml)) (hn : x ≠ "__name__" := by decide) (hdb : (x == ("__debug__" : Str)) = false := by decide)
    (he : starEach (e :: es) X.env = (false, eval e X.env) :: starEach es X.env := by rfl) (hpl : (backTo pos (starEach es X.env)).any (·.1) = false := by rfl) : PE X (.Call (.Name x p) (e :: es) [] pos) (tE k f sm (eF h ml)) :=
  pe_of (pe_callTy hc hg hm hv ha hn hdb he hpl) fun _ _ _ w => t_cb hr w
/-- a function of the library that is a module's name -/
theorem de_callFun {x : Str} {p : Pos} {e : Expr} {es : List Expr} {id : String} {r : List V → Hp → VK → Prop} {h : List D → Option D} {ml : ML} (hc : CallR X (.builtin id) r) (hr : CaD k r h) (hg : Gl X x) (hm : X.mg x = some (.builtin id)) (ha : PA X (e :: es) (tL k f sm ml)) (hdb : (x == ("__debug__" : Str)) = false := by decide)
    (he : starEach (e :: es) X.env = (false, eval e X.env) :: starEach es X.env := by rfl) (hpl : (backTo pos (starEach es X.env)).any (·.1) = false := by rfl) : PE X (.Call (.Name x p) (e :: es) [] pos) (tE k f sm (eF h ml)) :=
  pe_of (pe_callBfun hc hg hm ha hdb he hpl) fun _ _ _ w => t_cb hr w
end
end DL

set_option Elab.async false
set_option linter.all false
set_option maxRecDepth 100000
set_option maxHeartbeats 1000000
namespace DL
open PySem PySem.Spec PyProof.Rows L2
/-! ### operations over data -/
theorem Same.upd {H : Hp} {p : Addr} {o : HO} (h : H p = none) : Same H (upd H p o) := fun b x e => by
  rw [upd_ne (ne_of_none e h)]
  exact e
section
variable {k : Kx} {H : Hp} {B : Addr → Prop}
theorem Rp.same {H' : Hp} {v : V} {d : D} (s : Same H H') (r : Rp k H B v d) : Rp k H' B v d := Rp.mono (fun b o _ h => s b o h) (fun _ _ z _ => z) d v r
theorem RpA.same {H' : Hp} {v : List V} {d : List D} (s : Same H H') (r : RpA k H B v d) : RpA k H' B v d := RpA.mono (fun b o _ h => s b o h) (fun _ _ z _ => z) d v r
theorem nB (hB : ∀ b, B b → H b ≠ none) {p : Addr} (hp : H p = none) : ¬ B p := fun z => hB p z hp
/-- a new tuple, a new list -/
theorem Rp.newT {xs : List V} {ds : List D} {p : Addr} (hB : ∀ b, B b → H b ≠ none) (hp : H p = none) (r : RpA k H B xs ds) : Rp k (upd H p (.tup xs)) B (.ref p) (.tuple ds) :=
  .tup (nB hB hp) upd_same (r.same (Same.upd hp))
theorem Rp.newL {xs : List V} {ds : List D} {p : Addr} (hB : ∀ b, B b → H b ≠ none) (hp : H p = none) (r : RpA k H B xs ds) : Rp k (upd H p (.lst xs)) B (.ref p) (.list ds) :=
  .lst (nB hB hp) upd_same (r.same (Same.upd hp))
mutual
theorem Rp.dp : ∀ (d : D) (v : V), d.canLay0 = true → Rp k H B v d → Dp k.K H v d
  | .none, _, _, h => by cases h; exact .non
  | .bool _, _, _, h => by cases h; exact .bl _
  | .int _, _, _, h => by cases h; exact .int _
  | .str _, _, _, h => by cases h; exact .str _
  | .list ds, _, c, h => by
    cases h with
    | lst nb hr ha => exact .lst (.inl (.inl hr)) (RpA.dp ds _ (by simpa [PyData.canLay0] using c) ha)
  | .tuple ds, _, c, h => by
    cases h with
    | tup nb hr ha => exact .tup (.inl (.inl hr)) (RpA.dp ds _ (by simpa [PyData.canLay0] using c) ha)
  | .dict _, _, c, _ => by simp [PyData.canLay0] at c
theorem RpA.dp : ∀ (ds : List D) (vs : List V), PyData.canLayAll0 ds = true → RpA k H B vs ds → DpAll k.K H vs ds
  | [], _, _, h => by cases h; exact .nil
  | d :: ds, _, c, h => by
    have c' : d.canLay0 = true ∧ PyData.canLayAll0 ds = true := by simpa [PyData.canLayAll0] using c
    cases h with
    | cons h1 h2 => exact .cons (Rp.dp d _ c'.1 h1) (RpA.dp ds _ c'.2 h2)
end
end

/-- == over data -/
def fEq : D → D → Option D := fun d e => if SeqAt.shaped d && SeqAt.shaped e then some (.bool (PyData.eqv d e)) else none
def fNe : D → D → Option D := fun d e => if SeqAt.shaped d && SeqAt.shaped e then some (.bool (!PyData.eqv d e)) else none
theorem od_eq {k : Kx} : OpD k (rEqD k.K) fEq := by
  intro B H x y d e z Q hB rx ry h q
  unfold fEq at h
  split at h
  · rename_i hs
    obtain ⟨h1, h2⟩ := Bool.and_eq_true_iff.mp hs
    cases h
    exact ⟨d, e, Rp.dp d x (SeqAt.canLay_of_shaped h1) rx, Rp.dp e y (SeqAt.canLay_of_shaped h2) ry, h1, h2, q _ H (.refl H) (.bl _)⟩
  · cases h
theorem od_ne {k : Kx} : OpD k (rNeD k.K) fNe := by
  intro B H x y d e z Q hB rx ry h q
  unfold fNe at h
  split at h
  · rename_i hs
    obtain ⟨h1, h2⟩ := Bool.and_eq_true_iff.mp hs
    cases h
    exact ⟨d, e, Rp.dp d x (SeqAt.canLay_of_shaped h1) rx, Rp.dp e y (SeqAt.canLay_of_shaped h2) ry, h1, h2, q _ H (.refl H) (.bl _)⟩
  · cases h
/-- a value and a list, a tuple: in -/
def fIn (neg : Bool) : D → D → Option D := fun d e => match e with
  | .list ds => if SeqAt.shaped d && SeqAt.shaped (.list ds) then some (.bool (if neg then !ds.any fun z => PyData.eqv z d else ds.any fun z => PyData.eqv z d)) else none
  | _ => none
theorem od_in {k : Kx} : OpD k (rInD k.K) (fIn false) := by
  intro B H x y d e z Q hB rx ry h q
  unfold fIn at h
  split at h
  · rename_i ds
    split at h
    · rename_i hs
      obtain ⟨h1, h2⟩ := Bool.and_eq_true_iff.mp hs
      cases h
      exact ⟨d, ds, Rp.dp d x (SeqAt.canLay_of_shaped h1) rx, Rp.dp _ y (SeqAt.canLay_of_shaped h2) ry, h1, h2, q _ H (.refl H) (.bl _)⟩
    · cases h
  · cases h
theorem od_notIn {k : Kx} : OpD k (rNotInD k.K) (fIn true) := by
  intro B H x y d e z Q hB rx ry h q
  unfold fIn at h
  split at h
  · rename_i ds
    split at h
    · rename_i hs
      obtain ⟨h1, h2⟩ := Bool.and_eq_true_iff.mp hs
      cases h
      exact ⟨d, ds, Rp.dp d x (SeqAt.canLay_of_shaped h1) rx, Rp.dp _ y (SeqAt.canLay_of_shaped h2) ry, h1, h2, q _ H (.refl H) (.bl _)⟩
    · cases h
  · cases h

/-! ints -/
def fI (h : Int → Int → D) : D → D → Option D
  | .int i, .int j => some (h i j)
  | _, _ => none
def fIc (c : Int → Int → Bool) (h : Int → Int → D) : D → D → Option D
  | .int i, .int j => if c i j then some (h i j) else none
  | _, _ => none
theorem od_I0 {k : Kx} {h : Int → Int → Int} : OpD k (rI0 fun i j => .int (h i j)) (fI fun i j => .int (h i j)) := by
  intro B H x y d e z Q hB rx ry hh q
  unfold fI at hh
  split at hh
  · rename_i i j
    cases hh; cases rx; cases ry
    exact ⟨i, j, rfl, rfl, q _ H (.refl H) (.int _)⟩
  · cases hh
theorem od_IB {k : Kx} {h : Int → Int → Bool} : OpD k (rI0 fun i j => .bl (h i j)) (fI fun i j => .bool (h i j)) := by
  intro B H x y d e z Q hB rx ry hh q
  unfold fI at hh
  split at hh
  · rename_i i j
    cases hh; cases rx; cases ry
    exact ⟨i, j, rfl, rfl, q _ H (.refl H) (.bl _)⟩
  · cases hh
theorem od_Ic {k : Kx} {C : Int → Int → Prop} {c : Int → Int → Bool} {h : Int → Int → Int} (hc : ∀ i j, c i j = true → C i j) : OpD k (rI C fun i j => .int (h i j)) (fIc c fun i j => .int (h i j)) := by
  intro B H x y d e z Q hB rx ry hh q
  unfold fIc at hh
  split at hh
  · rename_i i j
    split at hh
    · rename_i hcc
      cases hh; cases rx; cases ry
      exact ⟨i, j, rfl, rfl, hc i j hcc, q _ H (.refl H) (.int _)⟩
    · cases hh
  · cases hh
def cMul (i j : Int) : Bool := decide (i.natAbs < 2 ^ 64) || decide (j.natAbs < 2 ^ 64) || decide (i.natAbs.log2 + j.natAbs.log2 < 1000000)
def CMulA (i j : Int) : Prop := CMul i j ∨ CMulW i j
theorem op_mulA {X : Cx} : OpR X (binaryOp .Mult) (rI CMulA fun i j => .int (i * j)) := opI fun _ _ _ _ _ _ _ hc q => mul_int q (hc.elim CMul.ok CMulW.ok)
def fMul : D → D → Option D := fIc cMul fun i j => .int (i * j)
theorem od_mul {k : Kx} : OpD k (rI CMulA fun i j => .int (i * j)) fMul := od_Ic fun i j h => by
  unfold cMul at h
  simp only [Bool.or_eq_true, decide_eq_true_eq] at h
  rcases h with (h | h) | h
  · exact .inl (.inl (by omega))
  · exact .inl (.inr (by omega))
  · exact .inr h
def cDiv (_ j : Int) : Bool := decide (j ≠ 0) && decide (j.natAbs.log2 < 9000)
def CDivZ (_ j : Int) : Prop := j ≠ 0 ∧ j.natAbs.log2 < 9000
theorem op_fdivZ {X : Cx} : OpR X (binaryOp .FloorDiv) (rI CDivZ fun i j => .int (i.fdiv j)) := opI fun i j _ _ _ _ _ hc q => floordiv_int hc.1 q (.inl (PyProof.noPylong_of_log2 hc.2))
def fDiv : D → D → Option D := fIc cDiv fun i j => .int (i.fdiv j)
theorem od_div {k : Kx} : OpD k (rI CDivZ fun i j => .int (i.fdiv j)) fDiv := od_Ic fun i j h => by
  unfold cDiv at h
  simp only [Bool.and_eq_true, decide_eq_true_eq] at h
  exact ⟨h.1, h.2⟩
def fMod : D → D → Option D := fIc (fun _ j => decide (0 < j)) fun i j => .int (i % j)
theorem od_mod {k : Kx} : OpD k (rI (fun _ j => 0 < j) fun i j => .int (i % j)) fMod := od_Ic fun i j h => of_decide_eq_true h
def fPow : D → D → Option D := fIc (fun i j => decide (0 ≤ j) && decide (j ≤ 1000000) && decide (i.natAbs < 2 ^ 64)) fun i j => .int (i ^ j.toNat)
theorem od_pow {k : Kx} : OpD k (rI CPow fun i j => .int (i ^ j.toNat)) fPow := od_Ic fun i j h => by
  simp only [Bool.and_eq_true, decide_eq_true_eq] at h
  exact ⟨h.1.1, h.1.2, h.2⟩
def fSub : D → D → Option D := fI fun i j => .int (i - j)
theorem od_sub {k : Kx} : OpD k (rI0 fun i j => .int (i - j)) fSub := od_I0
def fLt : D → D → Option D := fI fun i j => .bool (decide (i < j))
def fLe : D → D → Option D := fI fun i j => .bool (decide (i ≤ j))
def fGt : D → D → Option D := fI fun i j => .bool (decide (j < i))
def fGe : D → D → Option D := fI fun i j => .bool (decide (j ≤ i))
theorem od_lt {k : Kx} : OpD k (rI0 fun i j => .bl (decide (i < j))) fLt := od_IB
theorem od_le {k : Kx} : OpD k (rI0 fun i j => .bl (decide (i ≤ j))) fLe := od_IB
theorem od_gt {k : Kx} : OpD k (rI0 fun i j => .bl (decide (j < i))) fGt := od_IB
theorem od_ge {k : Kx} : OpD k (rI0 fun i j => .bl (decide (j ≤ i))) fGe := od_IB
def fNeg : D → Option D
  | .int i => some (.int (-i))
  | _ => none
theorem ud_neg {k : Kx} : UnD k (rU fun i => .int (-i)) fNeg := by
  intro B H x d z Q hB rx hh q
  unfold fNeg at hh
  split at hh
  · rename_i i
    cases hh; cases rx
    exact ⟨i, rfl, q _ H (.refl H) (.int _)⟩
  · cases hh
theorem OpD.or {k : Kx} {r r' : R2} {h h' : D → D → Option D} (a : OpD k r h) (b : OpD k r' h') : OpD k (fun x y H Q => r x y H Q ∨ r' x y H Q) (fun d e => (h d e).orElse fun _ => h' d e) := by
  intro B H x y d e z Q hB rx ry hh q
  have hh : (h d e).orElse (fun _ => h' d e) = some z := hh
  cases e1 : h d e with
  | some w =>
    rw [e1] at hh
    cases hh
    exact .inl (a B H x y d e z Q hB rx ry e1 q)
  | none =>
    rw [e1] at hh
    exact .inr (b B H x y d e z Q hB rx ry hh q)

/-! texts, tuples, lists put together -/
def fAddS : D → D → Option D
  | .str x, .str y => if x.length + y.length ≤ sizeLine then some (.str (x ++ y)) else none
  | _, _ => none
theorem od_addS {k : Kx} : OpD k (fun x y H Q => ∃ i j, x = .str i ∧ y = .str j ∧ i.length + j.length ≤ sizeLine ∧ Q (.str (i ++ j)) H) fAddS := by
  intro B H x y d e z Q hB rx ry hh q
  unfold fAddS at hh
  split at hh
  · rename_i i j
    split at hh
    · rename_i hl
      cases hh; cases rx; cases ry
      exact ⟨i, j, rfl, rfl, hl, q _ H (.refl H) (.str _)⟩
    · cases hh
  · cases hh
def fAddT : D → D → Option D
  | .tuple x, .tuple y => if x.length + y.length ≤ sizeLine then some (.tuple (x ++ y)) else none
  | _, _ => none
def fAddL : D → D → Option D
  | .list x, .list y => if x.length + y.length ≤ sizeLine then some (.list (x ++ y)) else none
  | _, _ => none
theorem od_addL {k : Kx} : OpD k rCat fAddL := by
  intro B H x y d e z Q hB rx ry hh q
  unfold fAddL at hh
  split at hh
  · rename_i i j
    split at hh
    · rename_i hl
      cases hh
      cases rx with
      | lst n1 h1 r1 =>
        cases ry with
        | lst n2 h2 r2 =>
          refine ⟨_, _, _, _, rfl, rfl, h1, h2, by rw [r1.length, r2.length]; exact hl, fun p hp => ?_⟩
          exact q _ _ (Same.upd hp) (.newL hB hp (r1.append r2))
    · cases hh
  · cases hh
theorem od_addT {k : Kx} : OpD k (rCatA k.K) fAddT := by
  intro B H x y d e z Q hB rx ry hh q
  unfold fAddT at hh
  split at hh
  · rename_i i j
    split at hh
    · rename_i hl
      cases hh
      cases rx with
      | tup n1 h1 r1 =>
        cases ry with
        | tup n2 h2 r2 =>
          have rr := r1.append r2
          refine ⟨_, _, _, _, rfl, rfl, .of h1, .of h2, by rw [r1.length, r2.length]; exact hl, ?_⟩
          refine ⟨fun e => ?_, fun _ e => ?_, fun _ _ p hp => q _ _ (Same.upd hp) (.newT hB hp rr)⟩
          · subst e
            cases r1
            exact q _ H (.refl H) (.tup n2 h2 r2)
          · subst e
            cases r2
            rw [List.append_nil] at q
            exact q _ H (.refl H) (.tup n1 h1 r1)
    · cases hh
  · cases hh

def fAddI : D → D → Option D := fI fun i j => .int (i + j)
theorem od_addI {k : Kx} : OpD k (rI0 fun i j => .int (i + j)) fAddI := od_I0
theorem op_addA {X : Cx} : OpR X (binaryOp .Add) (fun x y H Q => rI0 (fun i j => .int (i + j)) x y H Q ∨ (∃ i j, x = .str i ∧ y = .str j ∧ i.length + j.length ≤ sizeLine ∧ Q (.str (i ++ j)) H) ∨ rCatA X.K x y H Q ∨ rCat x y H Q) :=
  op_add.or (op_add_str.or (op_catA.or op_cat))
def fAdd : D → D → Option D
  | .int i, .int j => some (.int (i + j))
  | .str x, .str y => if x.length + y.length ≤ sizeLine then some (.str (x ++ y)) else none
  | .tuple x, .tuple y => if x.length + y.length ≤ sizeLine then some (.tuple (x ++ y)) else none
  | .list x, .list y => if x.length + y.length ≤ sizeLine then some (.list (x ++ y)) else none
  | _, _ => none
theorem od_add {k : Kx} : OpD k (fun x y H Q => rI0 (fun i j => .int (i + j)) x y H Q ∨ (∃ i j, x = .str i ∧ y = .str j ∧ i.length + j.length ≤ sizeLine ∧ Q (.str (i ++ j)) H) ∨ rCatA k.K x y H Q ∨ rCat x y H Q) fAdd := by
  intro B H x y d e z Q hB rx ry hh q
  unfold fAdd at hh
  split at hh
  · exact .inl (od_I0 (h := fun i j => i + j) B H x y _ _ z Q hB rx ry hh q)
  · exact .inr (.inl (od_addS B H x y _ _ z Q hB rx ry hh q))
  · exact .inr (.inr (.inl (od_addT B H x y _ _ z Q hB rx ry hh q)))
  · exact .inr (.inr (.inr (od_addL B H x y _ _ z Q hB rx ry hh q)))
  · cases hh

/-! items -/
def fIx : D → D → Option D
  | .list xs, .int i => atI xs i
  | .tuple xs, .int i => atI xs i
  | .str x, .int i => if x.length ≤ sizeLine then (atI x.cps.toList i).map fun c => .str ⟨#[c]⟩ else none
  | .dict [(.none, .list xs)], .int i => atI xs i
  | _, _ => none
theorem at_rp {k : Kx} {H : Hp} {B : Addr → Prop} {xs : List V} {ds : List D} {i : Int} {z : D} (r : RpA k H B xs ds) (h : atI ds i = some z) : ∃ v, atI xs i = some v ∧ Rp k H B v z := by
  unfold atI at h ⊢
  rw [r.length]
  cases e : ixN ds.length i with
  | none => rw [e] at h; cases h
  | some j =>
    rw [e] at h
    exact r.get h
theorem rpa_ints {k : Kx} {H : Hp} {B : Addr → Prop} : ∀ ns : List Int, RpA k H B (ns.map V.int) (ns.map PyData.int)
  | [] => .nil
  | n :: ns => .cons (.int n) (rpa_ints ns)
theorem od_ix {k : Kx} : OpD k (rIx k.K) fIx := by
  intro B H x y d e z Q hB rx ry hh q
  unfold fIx at hh
  split at hh
  · cases ry
    cases rx with
    | lst n1 h1 r1 =>
      obtain ⟨v, hv, rv⟩ := at_rp r1 hh
      exact .inl ⟨_, _, _, v, rfl, rfl, .of h1, hv, q v H (.refl H) rv⟩
  · cases ry
    cases rx with
    | tup n1 h1 r1 =>
      obtain ⟨v, hv, rv⟩ := at_rp r1 hh
      exact .inr (.inl ⟨_, _, _, v, rfl, rfl, .of h1, hv, q v H (.refl H) rv⟩)
  · cases ry
    cases rx
    split at hh
    · rename_i hl
      rename_i x i
      cases e : atI x.cps.toList i with
      | none => rw [e] at hh; cases hh
      | some c =>
        rw [e] at hh
        cases hh
        exact .inr (.inr ⟨_, _, c, rfl, rfl, hl, e, q _ H (.refl H) (.str _)⟩)
    · cases hh
  · cases ry
    cases rx with
    | fz h1 =>
      obtain ⟨v, hv, rv⟩ := at_rp (rpa_ints (k := k) (H := H) (B := B) _) hh
      exact .inl ⟨_, _, _, v, rfl, rfl, h1.sq, hv, q v H (.refl H) rv⟩
  · cases hh

/-! calls of the library -/
def fLen : List D → Option D
  | [.list xs] => some (.int xs.length)
  | [.tuple xs] => some (.int xs.length)
  | [.str x] => if x.length ≤ sizeLine then some (.int x.length) else none
  | [.dict [(.none, .list xs)]] => some (.int xs.length)
  | _ => none
def rLen (K : PySem.W.Frag) : List V → Hp → VK → Prop := fun xs H Q => (∃ p ys, xs = [.ref p] ∧ (SqL K H p ys ∨ SqT K H p ys) ∧ Q (.int ys.length) H) ∨ ∃ z, xs = [.str z] ∧ z.length ≤ sizeLine ∧ Q (.int z.length) H
theorem call_lenA {X : Cx} : CallR X (.builtin "len") (rLen X.K) := call_len_seq.or call_len_str
theorem cd_len {k : Kx} : CaD k (rLen k.K) fLen := by
  intro B H xs ds z Q hB r hh q
  unfold fLen at hh
  split at hh
  · cases hh
    cases r with
    | cons r1 r2 =>
      cases r2
      cases r1 with
      | lst n1 h1 r1 => exact .inl ⟨_, _, rfl, .inl (.of h1), by rw [r1.length]; exact q _ H (.refl H) (.int _)⟩
  · cases hh
    cases r with
    | cons r1 r2 =>
      cases r2
      cases r1 with
      | tup n1 h1 r1 => exact .inl ⟨_, _, rfl, .inr (.of h1), by rw [r1.length]; exact q _ H (.refl H) (.int _)⟩
  · split at hh
    · rename_i hl
      cases hh
      cases r with
      | cons r1 r2 =>
        cases r2
        cases r1
        exact .inr ⟨_, rfl, hl, q _ H (.refl H) (.int _)⟩
    · cases hh
  · cases hh
    cases r with
    | cons r1 r2 =>
      cases r2
      cases r1 with
      | fz h1 => exact .inl ⟨_, _, rfl, .inl h1.sq, by rw [List.length_map] at q ⊢; exact q _ H (.refl H) (.int _)⟩
  · cases hh
def fAbs : List D → Option D
  | [.int i] => some (.int (if i < 0 then -i else i))
  | _ => none
theorem cd_abs {k : Kx} : CaD k (fun xs H Q => ∃ i, xs = [.int i] ∧ Q (.int (if i < 0 then -i else i)) H) fAbs := by
  intro B H xs ds z Q hB r hh q
  unfold fAbs at hh
  split at hh
  · cases hh
    cases r with
    | cons r1 r2 => cases r2; cases r1; exact ⟨_, rfl, q _ H (.refl H) (.int _)⟩
  · cases hh
def fInt1 : List D → Option D
  | [.int i] => some (.int i)
  | [.bool b] => some (.int (if b then 1 else 0))
  | _ => none
theorem cd_int1 {k : Kx} : CaD k (fun xs H Q => (∃ i, xs = [.int i] ∧ Q (.int i) H) ∨ ∃ k, xs = [.bl k] ∧ Q (.int (if k then 1 else 0)) H) fInt1 := by
  intro B H xs ds z Q hB r hh q
  unfold fInt1 at hh
  split at hh
  · cases hh
    cases r with
    | cons r1 r2 => cases r2; cases r1; exact .inl ⟨_, rfl, q _ H (.refl H) (.int _)⟩
  · cases hh
    cases r with
    | cons r1 r2 => cases r2; cases r1; exact .inr ⟨_, rfl, q _ H (.refl H) (.int _)⟩
  · cases hh
def fGcd : List D → Option D
  | [.int a, .int b] => some (.int (Nat.gcd a.natAbs b.natAbs : Nat))
  | _ => none
theorem cd_gcd {k : Kx} : CaD k rGcd fGcd := by
  intro B H xs ds z Q hB r hh q
  unfold fGcd at hh
  split at hh
  · cases hh
    cases r with
    | cons r1 r2 => cases r2 with
      | cons r3 r4 => cases r4; cases r1; cases r3; exact ⟨_, _, rfl, q _ H (.refl H) (.int _)⟩
  · cases hh
def fMax2 : List D → Option D
  | [.int i, .int j] => some (.int (if j > i then j else i))
  | _ => none
theorem cd_max2 {k : Kx} : CaD k (fun xs H Q => ∃ i j, xs = [.int i, .int j] ∧ Q (.int (if j > i then j else i)) H) fMax2 := by
  intro B H xs ds z Q hB r hh q
  unfold fMax2 at hh
  split at hh
  · cases hh
    cases r with
    | cons r1 r2 => cases r2 with
      | cons r3 r4 => cases r4; cases r1; cases r3; exact ⟨_, _, rfl, q _ H (.refl H) (.int _)⟩
  · cases hh
def fMin2 : List D → Option D
  | [.int i, .int j] => some (.int (if j < i then j else i))
  | _ => none
theorem cd_min2 {k : Kx} : CaD k (fun xs H Q => ∃ i j, xs = [.int i, .int j] ∧ Q (.int (if j < i then j else i)) H) fMin2 := by
  intro B H xs ds z Q hB r hh q
  unfold fMin2 at hh
  split at hh
  · cases hh
    cases r with
    | cons r1 r2 => cases r2 with
      | cons r3 r4 => cases r4; cases r1; cases r3; exact ⟨_, _, rfl, q _ H (.refl H) (.int _)⟩
  · cases hh
def fTuple : List D → Option D
  | [.list xs] => some (.tuple xs)
  | [.tuple xs] => some (.tuple xs)
  | _ => none
theorem cd_tuple {k : Kx} : CaD k (fun xs H Q => ∃ p ys, xs = [.ref p] ∧ ((SqL k.K H p ys ∧ ∀ l, H l = none → Q (.ref l) (upd H l (.tup ys))) ∨ (SqT k.K H p ys ∧ Q (.ref p) H))) fTuple := by
  intro B H xs ds z Q hB r hh q
  unfold fTuple at hh
  split at hh
  · cases hh
    cases r with
    | cons r1 r2 =>
      cases r2
      cases r1 with
      | lst n1 h1 r1 => exact ⟨_, _, rfl, .inl ⟨.of h1, fun l hl => q _ _ (Same.upd hl) (.newT hB hl r1)⟩⟩
  · cases hh
    cases r with
    | cons r1 r2 =>
      cases r2
      cases r1 with
      | tup n1 h1 r1 => exact ⟨_, _, rfl, .inr ⟨.of h1, q _ _ (.refl H) (.tup n1 h1 r1)⟩⟩
  · cases hh
def fList : List D → Option D
  | [.list xs] => some (.list xs)
  | [.tuple xs] => some (.list xs)
  | _ => none
theorem cd_list {k : Kx} : CaD k (fun xs H Q => ∃ p ys, xs = [.ref p] ∧ (SqL k.K H p ys ∨ SqT k.K H p ys) ∧ ∀ l, H l = none → Q (.ref l) (upd H l (.lst ys))) fList := by
  intro B H xs ds z Q hB r hh q
  unfold fList at hh
  split at hh
  · cases hh
    cases r with
    | cons r1 r2 =>
      cases r2
      cases r1 with
      | lst n1 h1 r1 => exact ⟨_, _, rfl, .inl (.of h1), fun l hl => q _ _ (Same.upd hl) (.newL hB hl r1)⟩
  · cases hh
    cases r with
    | cons r1 r2 =>
      cases r2
      cases r1 with
      | tup n1 h1 r1 => exact ⟨_, _, rfl, .inr (.of h1), fun l hl => q _ _ (Same.upd hl) (.newL hB hl r1)⟩
  · cases hh
/-- all(list of truths) -/
def bools : List D → Option (List Bool)
  | [] => some []
  | .bool b :: r => (bools r).map (b :: ·)
  | _ => none
theorem bools_vs {k : Kx} {H : Hp} {B : Addr → Prop} : ∀ {ds : List D} {xs : List V} {bs : List Bool}, RpA k H B xs ds → bools ds = some bs → xs = bs.map V.bl
  | [], _, bs, r, h => by cases r; cases h; rfl
  | .bool b :: ds, _, bs, r, h => by
    cases r with
    | cons r1 r2 =>
      cases r1
      simp only [bools, Option.map_eq_some_iff] at h
      obtain ⟨cs, h1, rfl⟩ := h
      rw [bools_vs r2 h1]
      rfl
  | .none :: _, _, _, _, h => by simp [bools] at h
  | .int _ :: _, _, _, _, h => by simp [bools] at h
  | .str _ :: _, _, _, _, h => by simp [bools] at h
  | .list _ :: _, _, _, _, h => by simp [bools] at h
  | .tuple _ :: _, _, _, _, h => by simp [bools] at h
  | .dict _ :: _, _, _, _, h => by simp [bools] at h
def fAll : List D → Option D
  | [.list ds] => (bools ds).map fun bs => .bool (bs.all id)
  | _ => none
theorem cd_all {k : Kx} : CaD k (rAll k.K) fAll := by
  intro B H xs ds z Q hB r hh q
  unfold fAll at hh
  split at hh
  · simp only [Option.map_eq_some_iff] at hh
    obtain ⟨bs, h1, rfl⟩ := hh
    cases r with
    | cons r1 r2 =>
      cases r2
      cases r1 with
      | lst n1 hl r1 =>
        have e := bools_vs r1 h1
        subst e
        exact ⟨_, bs, rfl, .of hl, q _ H (.refl H) (.bl _)⟩
  · cases hh
end DL

set_option Elab.async false
set_option linter.all false
set_option maxRecDepth 100000
set_option maxHeartbeats 1000000
namespace DL
open PySem PySem.Spec PyProof.Rows L2
/-! ### displays -/
def eTup (a : ML) : M := fun E g => match a E g with
  | none => none
  | some (ds, g1) => if ds.length ≤ sizeLine then some (.tuple ds, g1) else none
def nLst (a : ML) : ML := fun E g => match a E g with
  | none => none
  | some (ds, g1) => if ds.length ≤ sizeLine then some (ds, g1) else none
/-- a new list as a value -/
def eN (a : ML) : M := fun E g => match a E g with
  | none => none
  | some (ds, g1) => some (.list ds, g1)
section
variable {k : Kx} {f : Fx} {sm : Bool} {X : Cx} {pos : Pos} {e : Expr} {es : List Expr} {ml : ML}
theorem de_tup {j : Nat} (ha : PA X es (tL k f sm ml)) : PE X (.Tuple es j pos) (tE k f sm (eTup ml)) := pe_of (pe_tup ha) fun σ H Q ⟨ex, E, μ, g, d, g', I, e, q⟩ => by
  unfold eTup at e
  split at e
  · cases e
  · rename_i ds g1 h1
    split at e
    · rename_i hl
      cases e
      refine ⟨ex, E, μ, g, ds, g', I, h1, fun vs H1 p1 r1 => ⟨by rw [r1.length]; exact hl, fun p hp => ?_⟩⟩
      have I1 := I.step p1
      exact q _ _ (p1.trans (.same (Same.upd hp) I1.ga)) (.newT (fun b z => I1.be sm z) hp r1)
    · cases e
theorem dn_lst (ha : PA X es (tL k f sm ml)) : PE X (.List es pos) (tN k f sm (nLst ml)) := pe_of (pe_lst ha) fun σ H Q ⟨ex, E, μ, g, d, g', I, e, q⟩ => by
  unfold nLst at e
  split at e
  · cases e
  · rename_i ds g1 h1
    split at e
    · rename_i hl
      cases e
      exact ⟨ex, E, μ, g, _, g', I, h1, fun vs H1 p1 r1 => ⟨by rw [r1.length]; exact hl, fun p hp => q p vs H1 p1 hp r1⟩⟩
    · cases e
theorem de_n (h : PE X e (tN k f sm ml)) : PE X e (tE k f sm (eN ml)) := pe_of h fun σ H Q ⟨ex, E, μ, g, d, g', I, e, q⟩ => by
  unfold eN at e
  split at e
  · cases e
  · rename_i ds g1 h1
    cases e
    refine ⟨ex, E, μ, g, ds, g', I, h1, fun p vs H1 p1 hp r1 => ?_⟩
    have I1 := I.step p1
    exact q _ _ (p1.trans (.same (Same.upd hp) I1.ga)) (.newL (fun b z => I1.be sm z) hp r1)
end

/-! ### truth -/
def fTru : D → Option Bool
  | .none => some false
  | .bool b => some b
  | .int i => some (i != 0)
  | .str x => if x.length ≤ sizeLine then some ((x.length : Int) != 0) else none
  | .list xs => some !xs.isEmpty
  | .tuple xs => some !xs.isEmpty
  | _ => none
theorem isEmpty_rp {k : Kx} {H : Hp} {B : Addr → Prop} {xs : List V} {ds : List D} (r : RpA k H B xs ds) : (!ds.isEmpty) = !xs.isEmpty := by cases r <;> rfl
theorem tru_rp {k : Kx} {H : Hp} {B : Addr → Prop} {v : V} {d : D} {b : Bool} (r : Rp k H B v d) (h : fTru d = some b) : TruV k.K v H b := by
  unfold fTru at h
  split at h
  · cases h; cases r; rfl
  · cases h; cases r; rfl
  · cases h; cases r; rfl
  · split at h
    · rename_i hl
      cases h; cases r; exact ⟨hl, rfl⟩
    · cases h
  · cases h
    cases r with
    | lst n1 h1 r1 => exact .inl ⟨_, .of h1, isEmpty_rp r1⟩
  · cases h
    cases r with
    | tup n1 h1 r1 => exact .inr (.inl ⟨_, .of h1, isEmpty_rp r1⟩)
  · cases h
def mTru (m : M) : MT := fun E g => match m E g with
  | none => none
  | some (d, g1) => match fTru d with
    | none => none
    | some b => some (b, g1)
/-- of a comparison: a truth -/
def mB (m : M) : MT := fun E g => match m E g with
  | some (.bool b, g1) => some (b, g1)
  | _ => none
def mNot (m : MT) : MT := fun E g => match m E g with
  | none => none
  | some (b, g1) => some (!b, g1)
def mAnd (a b : MT) : MT := fun E g => match a E g with
  | none => none
  | some (true, g1) => b E g1
  | some (false, g1) => some (false, g1)
def mOr (a b : MT) : MT := fun E g => match a E g with
  | none => none
  | some (true, g1) => some (true, g1)
  | some (false, g1) => b E g1
def eAnd (a b : M) : M := fun E g => match a E g with
  | none => none
  | some (d, g1) => match fTru d with
    | none => none
    | some true => b E g1
    | some false => some (d, g1)
def eOr (a b : M) : M := fun E g => match a E g with
  | none => none
  | some (d, g1) => match fTru d with
    | none => none
    | some true => some (d, g1)
    | some false => b E g1
def eNot (a : M) : M := fun E g => match a E g with
  | none => none
  | some (d, g1) => match fTru d with
    | none => none
    | some b => some (.bool !b, g1)
def eIf (c : MT) (a b : M) : M := fun E g => match c E g with
  | none => none
  | some (true, g1) => a E g1
  | some (false, g1) => b E g1
section
variable {k : Kx} {f : Fx} {sm : Bool} {X : Cx} {pos : Pos} {a b c : Expr} {ma mb mc : M} {rest : List Expr} {ta tb : MT}
theorem dt_tru (hK : X.K = k.K) (ha : PE X a (tE k f sm ma)) (he : ∀ whole, isTrue a X.env whole = (do let v ← whole; standAt a.pos; holding [v] (truthy v)) := by intro _; rfl) : PT X a (tT k f (mTru ma)) :=
  pt_of (pt_truth ha he) fun σ H Q ⟨ex, E, μ, g, d, g', I, e, q⟩ => by
    unfold mTru at e
    split at e
    · cases e
    · rename_i d1 g1 h1
      split at e
      · cases e
      · rename_i b hb
        cases e
        exact ⟨ex, E, μ, g, d1, g', I, h1, fun v H1 p1 r1 => ⟨_, by rw [hK]; exact tru_rp r1 hb, q H1 p1⟩⟩
theorem t_b {t : TE} {m : M} (ht : ∀ σ H Q, tE k f sm m σ H Q → t σ H Q) (σ : L2.St) (H : Hp) (Q : Bool → Hp → Prop) (w : tT k f (mB m) σ H Q) : tTest t σ H Q := by
  obtain ⟨ex, E, μ, g, d, g', I, e, q⟩ := w
  unfold mB at e
  split at e
  · rename_i b1 g1 h1
    cases e
    refine ht _ _ _ ⟨ex, E, μ, g, _, g', I, h1, fun v H1 p1 r1 => ?_⟩
    cases r1
    exact ⟨_, rfl, q H1 p1⟩
  · cases e
theorem dt_cmp {op : CmpOp} {r : R2} {h : D → D → Option D} (ho : OpR X (compareOp op) r) (hr : OpD k r h) (ha : PE X a (tE k f sm ma)) (hb : PE X b (tE k f sm mb)) (hm : behindInMarks op b = false) : PT X (.Compare a [op] [b] pos) (tT k f (mB (e2 h ma mb))) :=
  pt_of (pt_cmpR ho ha hb hm) (t_b fun σ H Q w => t_op hr w)
theorem dt_not (ha : PT X a (tT k f ta)) : PT X (.UnaryOp .Not a pos) (tT k f (mNot ta)) := pt_of (pt_not ha) fun σ H Q ⟨ex, E, μ, g, d, g', I, e, q⟩ => by
  unfold mNot at e
  split at e
  · cases e
  · rename_i b1 g1 h1
    cases e
    exact ⟨ex, E, μ, g, _, g', I, h1, fun H1 p1 => q H1 p1⟩
theorem dw_and1 (ha : PT X a (tT k f ta)) : PW X (.BoolOp .And [a] pos) (tT k f ta) := pw_and1 ha
theorem dw_or1 (ha : PT X a (tT k f ta)) : PW X (.BoolOp .Or [a] pos) (tT k f ta) := pw_or1 ha
theorem dw_and (ha : PT X a (tT k f ta)) (hb : PW X (.BoolOp .And (b :: rest) pos) (tT k f tb)) : PW X (.BoolOp .And (a :: b :: rest) pos) (tT k f (mAnd ta tb)) := pw_of (pw_and ha hb) fun σ H Q ⟨ex, E, μ, g, d, g', I, e, q⟩ => by
  unfold mAnd at e
  split at e
  · cases e
  · rename_i g1 h1
    exact ⟨ex, E, μ, g, _, g1, I, h1, fun H1 p1 => (show tT k f tb σ H1 Q from ⟨ex, E, μ, g1, _, g', I.step p1, e, fun H2 p2 => q H2 (p1.trans p2)⟩)⟩
  · rename_i g1 h1
    cases e
    exact ⟨ex, E, μ, g, _, g', I, h1, fun H1 p1 => q H1 p1⟩
theorem dw_or (ha : PT X a (tT k f ta)) (hb : PW X (.BoolOp .Or (b :: rest) pos) (tT k f tb)) : PW X (.BoolOp .Or (a :: b :: rest) pos) (tT k f (mOr ta tb)) := pw_of (pw_or ha hb) fun σ H Q ⟨ex, E, μ, g, d, g', I, e, q⟩ => by
  unfold mOr at e
  split at e
  · cases e
  · rename_i g1 h1
    cases e
    exact ⟨ex, E, μ, g, _, g', I, h1, fun H1 p1 => q H1 p1⟩
  · rename_i g1 h1
    exact ⟨ex, E, μ, g, _, g1, I, h1, fun H1 p1 => (show tT k f tb σ H1 Q from ⟨ex, E, μ, g1, _, g', I.step p1, e, fun H2 p2 => q H2 (p1.trans p2)⟩)⟩
theorem de_and (hK : X.K = k.K) (ha : PE X a (tE k f sm ma)) (hb : PE X (.BoolOp .And (b :: rest) pos) (tE k f sm mb)) : PE X (.BoolOp .And (a :: b :: rest) pos) (tE k f sm (eAnd ma mb)) := pe_of (pe_andT ha hb) fun σ H Q ⟨ex, E, μ, g, d, g', I, e, q⟩ => by
  unfold eAnd at e
  split at e
  · cases e
  · rename_i d1 g1 h1
    split at e
    · cases e
    · rename_i hb
      refine ⟨ex, E, μ, g, d1, g1, I, h1, fun v H1 p1 r1 => ⟨true, by rw [hK]; exact tru_rp r1 hb, ?_⟩⟩
      rw [if_pos rfl]
      exact ⟨ex, E, μ, g1, _, g', I.step p1, e, fun v H2 p2 r2 => q v H2 (p1.trans p2) r2⟩
    · rename_i hb
      cases e
      refine ⟨ex, E, μ, g, _, g', I, h1, fun v H1 p1 r1 => ⟨false, by rw [hK]; exact tru_rp r1 hb, ?_⟩⟩
      rw [if_neg Bool.false_ne_true]
      exact q v H1 p1 r1
theorem de_or (hK : X.K = k.K) (ha : PE X a (tE k f sm ma)) (hb : PE X (.BoolOp .Or (b :: rest) pos) (tE k f sm mb)) : PE X (.BoolOp .Or (a :: b :: rest) pos) (tE k f sm (eOr ma mb)) := pe_of (pe_orT ha hb) fun σ H Q ⟨ex, E, μ, g, d, g', I, e, q⟩ => by
  unfold eOr at e
  split at e
  · cases e
  · rename_i d1 g1 h1
    split at e
    · cases e
    · rename_i hb
      cases e
      refine ⟨ex, E, μ, g, _, g', I, h1, fun v H1 p1 r1 => ⟨true, by rw [hK]; exact tru_rp r1 hb, ?_⟩⟩
      rw [if_pos rfl]
      exact q v H1 p1 r1
    · rename_i hb
      refine ⟨ex, E, μ, g, d1, g1, I, h1, fun v H1 p1 r1 => ⟨false, by rw [hK]; exact tru_rp r1 hb, ?_⟩⟩
      rw [if_neg Bool.false_ne_true]
      exact ⟨ex, E, μ, g1, _, g', I.step p1, e, fun v H2 p2 r2 => q v H2 (p1.trans p2) r2⟩
theorem de_one {op : BoolOp} (ha : PE X a (tE k f sm ma)) : PE X (.BoolOp op [a] pos) (tE k f sm ma) := pe_one ha
theorem de_not (hK : X.K = k.K) (ha : PE X a (tE k f sm ma)) : PE X (.UnaryOp .Not a pos) (tE k f sm (eNot ma)) := pe_of (pe_notT ha) fun σ H Q ⟨ex, E, μ, g, d, g', I, e, q⟩ => by
  unfold eNot at e
  split at e
  · cases e
  · rename_i d1 g1 h1
    split at e
    · cases e
    · rename_i b hb
      cases e
      exact ⟨ex, E, μ, g, d1, g', I, h1, fun v H1 p1 r1 => ⟨b, by rw [hK]; exact tru_rp r1 hb, q _ H1 p1 (.bl _)⟩⟩
theorem de_if {c : Expr} (hc : PT X c (tT k f ta)) (ha : PE X a (tE k f sm ma)) (hb : PE X b (tE k f sm mb)) : PE X (.IfExp c a b pos) (tE k f sm (eIf ta ma mb)) := pe_of (pe_ifExp hc ha hb) fun σ H Q ⟨ex, E, μ, g, d, g', I, e, q⟩ => by
  unfold eIf at e
  split at e
  · cases e
  · rename_i g1 h1
    refine ⟨ex, E, μ, g, _, g1, I, h1, fun H1 p1 => ?_⟩
    refine iteT ?_
    exact ⟨ex, E, μ, g1, _, g', I.step p1, e, fun v H2 p2 r2 => q v H2 (p1.trans p2) r2⟩
  · rename_i g1 h1
    refine ⟨ex, E, μ, g, _, g1, I, h1, fun H1 p1 => ?_⟩
    refine iteF ?_
    exact ⟨ex, E, μ, g1, _, g', I.step p1, e, fun v H2 p2 r2 => q v H2 (p1.trans p2) r2⟩
/-- a op b op c -/
def eCh (h h' : D → D → Option D) (a b c : M) : M := fun E g => match a E g with
  | none => none
  | some (x, g1) => match b E g1 with
    | none => none
    | some (y, g2) => match h x y with
      | some (.bool true) => match c E g2 with
        | none => none
        | some (z, g3) => match h' y z with
          | none => none
          | some w => some (w, g3)
      | some (.bool false) => some (.bool false, g2)
      | _ => none
theorem t_ch {r r' : R2} {h h' : D → D → Option D} (hr : OpD k r h) (hr' : OpD k r' h') (σ : L2.St) (H : Hp) (Q : VK) (w : tE k f sm (eCh h h' ma mb mc) σ H Q) : tChain r r' (tE k f sm ma) (tE k f sm mb) (tE k f sm mc) σ H Q := by
  obtain ⟨ex, E, μ, g, d, g', I, e, q⟩ := w
  unfold eCh at e
  split at e
  · cases e
  · rename_i x g1 h1
    split at e
    · cases e
    · rename_i y g2 h2
      refine ⟨ex, E, μ, g, x, g1, I, h1, fun v H1 p1 r1 => ⟨ex, E, μ, g1, y, g2, I.step p1, h2, fun u H2 p2 r2 => ?_⟩⟩
      have I2 := (I.step p1).step p2
      split at e
      · rename_i hz
        split at e
        · cases e
        · rename_i z g3 h3
          split at e
          · cases e
          · rename_i ww h4
            cases e
            refine hr (BE f sm E μ) H2 v u x y _ _ (fun b z => I2.be sm z) (r1.step (I.hb sm) p2.fr) r2 hz fun w H3 s3 r3 => ?_
            cases r3
            refine ⟨true, rfl, ?_⟩
            rw [if_pos rfl]
            have p3 : PEd k g2 H2 H3 := .same s3 I2.ga
            have I3 := I2.step p3
            refine ⟨ex, E, μ, g2, z, g', I3, h3, fun w H4 p4 r4 => ?_⟩
            have I4 := I3.step p4
            refine hr' (BE f sm E μ) H4 u w y z d Q (fun b z => I4.be sm z) ((r2.step (I.hb sm) p3.fr).step (I.hb sm) p4.fr) r4 h4 fun w H5 s5 r5 => ?_
            exact q w H5 ((((p1.trans p2).trans p3).trans p4).trans (.same s5 I4.ga)) r5
      · rename_i hz
        cases e
        refine hr (BE f sm E μ) H2 v u x y _ _ (fun b z => I2.be sm z) (r1.step (I.hb sm) p2.fr) r2 hz fun w H3 s3 r3 => ?_
        cases r3
        refine ⟨false, rfl, ?_⟩
        rw [if_neg Bool.false_ne_true]
        exact q _ H3 ((p1.trans p2).trans (.same s3 I2.ga)) (.bl _)
      · cases e
theorem de_chain {op op' : CmpOp} {r r' : R2} {h h' : D → D → Option D} (ho : OpR X (compareOp op) r) (hr : OpD k r h) (ho' : OpR X (compareOp op') r') (hr' : OpD k r' h') (ha : PE X a (tE k f sm ma)) (hb : PE X b (tE k f sm mb)) (hc : PE X c (tE k f sm mc))
    (hm : lastMarks [op, op'] [b, c] = false := by with_unfolding_all rfl) : PE X (.Compare a [op, op'] [b, c] pos) (tE k f sm (eCh h h' ma mb mc)) := pe_of (pe_chain ho ho' ha hb hc hm) (t_ch hr hr')
theorem dt_chain {op op' : CmpOp} {r r' : R2} {h h' : D → D → Option D} (ho : OpR X (compareOp op) r) (hr : OpD k r h) (ho' : OpR X (compareOp op') r') (hr' : OpD k r' h') (ha : PE X a (tE k f sm ma)) (hb : PE X b (tE k f sm mb)) (hc : PE X c (tE k f sm mc))
    (hm : lastMarks [op, op'] [b, c] = false := by with_unfolding_all rfl) : PT X (.Compare a [op, op'] [b, c] pos) (tT k f (mB (eCh h h' ma mb mc))) := pt_of (pt_chain ho ho' ha hb hc hm) (t_b (t_ch hr hr'))
end

/-! ### is None, is True -/
def fIsN (neg : Bool) : D → Option D
  | .none => some (.bool !neg)
  | .dict _ => none
  | _ => some (.bool neg)
section
variable {k : Kx} {f : Fx} {sm : Bool} {X : Cx} {pos : Pos} {a : Expr} {ma : M} {j : Nat} {pos' : Pos}
theorem isn_rp {H : Hp} {B : Addr → Prop} {v : V} {d : D} {z : D} {neg : Bool} (r : Rp k H B v d) (h : fIsN neg d = some z) : z = .bool (if neg then !decide (v = V.non) else decide (v = V.non)) := by
  cases r <;> simp [fIsN] at h <;> subst h <;> cases neg <;> rfl
theorem t_isN {σ : L2.St} {H : Hp} {Q : VK} (w : tE k f sm (e1 (fIsN false) ma) σ H Q) : tIsN (tE k f sm ma) σ H Q := by
  obtain ⟨ex, E, μ, g, d, g', I, e, q⟩ := w
  unfold e1 at e
  split at e
  · cases e
  · rename_i x g1 h1
    split at e
    · cases e
    · rename_i z h3
      cases e
      refine ⟨ex, E, μ, g, x, g', I, h1, fun v H1 p1 r1 => ?_⟩
      have := isn_rp r1 h3
      subst this
      exact q _ H1 p1 (.bl _)
theorem t_notN {σ : L2.St} {H : Hp} {Q : VK} (w : tE k f sm (e1 (fIsN true) ma) σ H Q) : tNotN (tE k f sm ma) σ H Q := by
  obtain ⟨ex, E, μ, g, d, g', I, e, q⟩ := w
  unfold e1 at e
  split at e
  · cases e
  · rename_i x g1 h1
    split at e
    · cases e
    · rename_i z h3
      cases e
      refine ⟨ex, E, μ, g, x, g', I, h1, fun v H1 p1 r1 => ?_⟩
      have := isn_rp r1 h3
      subst this
      exact q _ H1 p1 (.bl _)
theorem de_isN (ha : PE X a (tE k f sm ma)) : PE X (.Compare a [.Is] [.Constant .none j pos'] pos) (tE k f sm (e1 (fIsN false) ma)) := pe_of (pe_cmp (pc_isN ha)) fun _ _ _ w => t_isN w
theorem de_notN (ha : PE X a (tE k f sm ma)) : PE X (.Compare a [.IsNot] [.Constant .none j pos'] pos) (tE k f sm (e1 (fIsN true) ma)) := pe_of (pe_cmp (pc_notN ha)) fun _ _ _ w => t_notN w
theorem dt_isN (ha : PE X a (tE k f sm ma)) : PT X (.Compare a [.Is] [.Constant .none j pos'] pos) (tT k f (mB (e1 (fIsN false) ma))) := pt_of (pt_cmp (pc_isN ha)) (t_b fun _ _ _ w => t_isN w)
theorem dt_notN (ha : PE X a (tE k f sm ma)) : PT X (.Compare a [.IsNot] [.Constant .none j pos'] pos) (tT k f (mB (e1 (fIsN true) ma))) := pt_of (pt_cmp (pc_notN ha)) (t_b fun _ _ _ w => t_notN w)
end
def fIsB (neg : Bool) : D → D → Option D
  | .bool a, .bool b => some (.bool (if neg then !decide (a = b) else decide (a = b)))
  | _, _ => none
theorem od_isB {k : Kx} : OpD k rIsB (fIsB false) := by
  intro B H x y d e z Q hB rx ry hh q
  unfold fIsB at hh
  split at hh
  · cases hh; cases rx; cases ry; exact ⟨_, _, rfl, rfl, q _ H (.refl H) (.bl _)⟩
  · cases hh
theorem od_notB {k : Kx} : OpD k rNotB (fIsB true) := by
  intro B H x y d e z Q hB rx ry hh q
  unfold fIsB at hh
  split at hh
  · cases hh; cases rx; cases ry; exact ⟨_, _, rfl, rfl, q _ H (.refl H) (.bl _)⟩
  · cases hh
end DL

set_option Elab.async false
set_option linter.all false
set_option maxRecDepth 100000
set_option maxHeartbeats 1000000
namespace DL
open PySem PySem.Spec PyProof.Rows L2
open Sem (wp)
/-! ### == and != of classes -/
theorem slot_type_ne : Slot "type" (cmpInfo .NotEq).2.1 "object.__ne__" :=
  .of (owner := "object") (n := "__ne__") (by rw [typeLookup_type, builtinLookup_eq_fast]; kernel_rfl) (by decide +kernel) (by decide +kernel) (by decide +kernel)
    (by first | exact .inl (by decide +kernel) | exact .inr (by decide +kernel)) (by rw [isSubtype_type]; kernel_rfl)
theorem slot_type_ne_refl : Slot "type" (cmpInfo .NotEq).2.2 "object.__ne__" :=
  .of (owner := "object") (n := "__ne__") (by rw [typeLookup_type, builtinLookup_eq_fast]; kernel_rfl) (by decide +kernel) (by decide +kernel) (by decide +kernel)
    (by first | exact .inl (by decide +kernel) | exact .inr (by decide +kernel)) (by rw [isSubtype_type]; kernel_rfl)
theorem slot_type_eq' : Slot "type" (Str.ofString "__eq__") "object.__eq__" := PySem.TypeEq.slot_type_eq
section
variable {prog : Program} {w : World} {A : Around} {E : Value → Shared → Prop} {s : Shared} {Q : Value → Shared → Prop}
theorem call_ty_ne_same {X : String} {name : Str} (sl : Slot "type" name "object.__ne__") (hX : ∀ s' : Shared, s'.TypeIs (.type X) "type") (h : Q (.bool false) s) : wpAny (model prog w) A (call (.builtin "object.__ne__") [.type X, .type X]) Q E s := by
  refine wpAny_call_entry sl (hX s) F.cmpEntry_ne ?_ (F.cmpArgs_ne _ _)
  unfold Builtin.«object.__ne__»
  refine wpAny_bind (m := slotArgs "__ne__" 1 _) (wpAny_pure ?_)
  refine wpAny_bind (wpAny_cRoomFor_or (.inl rfl) ?_)
  refine wpAny_bind (wpAny_callSpecialIfBound?_slot (hX s) slot_type_eq' (call_gives slot_type_eq' (hX s) F.entry_object_eq (F.args_object_eq_2 _ _) (PySem.TypeEq.object_eq_same rfl (by simp)) ?_))
  exact wpAny_bind (wpAny_truthy_bool (wpAny_pure ⟨_, rfl, h⟩))
theorem call_ty_ne_other {X Y : String} {name : Str} (sl : Slot "type" name "object.__ne__") (hX : ∀ s' : Shared, s'.TypeIs (.type X) "type") (hne : (Value.type X == Value.type Y) = false) (h : Q .notImplemented s) : wpAny (model prog w) A (call (.builtin "object.__ne__") [.type X, .type Y]) Q E s := by
  refine wpAny_call_entry sl (hX s) F.cmpEntry_ne ?_ (F.cmpArgs_ne _ _)
  unfold Builtin.«object.__ne__»
  refine wpAny_bind (m := slotArgs "__ne__" 1 _) (wpAny_pure ?_)
  refine wpAny_bind (wpAny_cRoomFor_or (.inl rfl) ?_)
  refine wpAny_bind (wpAny_callSpecialIfBound?_slot (hX s) slot_type_eq' (call_gives slot_type_eq' (hX s) F.entry_object_eq (F.args_object_eq_2 _ _) (PySem.TypeEq.object_eq_other rfl hne) ?_))
  exact wpAny_pure ⟨_, rfl, h⟩
theorem ne_type_same {X : String} (hX : ∀ s' : Shared, s'.TypeIs (.type X) "type") (h : Q (.bool false) s) : wpAny (model prog w) A (compareOp .NotEq (.type X) (.type X)) Q E s := by
  show wpAny _ A (richCompare .NotEq _ _) Q E s
  exact wpAny_richCompare_same (T := "type") (hX s) (hX s) slot_type_ne (call_ty_ne_same slot_type_ne hX ⟨(by intro e; cases e), h⟩)
theorem ne_type_other {X Y : String} (hX : ∀ s' : Shared, s'.TypeIs (.type X) "type") (hY : ∀ s' : Shared, s'.TypeIs (.type Y) "type") (hne : (Value.type X == Value.type Y) = false) (h : Q (.bool true) s) : wpAny (model prog w) A (compareOp .NotEq (.type X) (.type Y)) Q E s := by
  have hne' : (Value.type Y == Value.type X) = false := by
    rw [Bool.eq_false_iff] at hne ⊢
    intro e
    exact hne (by rw [beq_iff_eq] at e ⊢; exact e.symm)
  show wpAny _ A (richCompare .NotEq _ _) Q E s
  have h1 := slot_type_ne
  have h2 := slot_type_ne_refl
  rcases hi : cmpInfo CmpOp.NotEq with ⟨sym, f, r⟩
  rw [hi] at h1 h2
  simp only [richCompare, hi, (hX s).oneThing_none]
  try with_reducible refine wpAny_holding ?_
  refine wpAny_bind (wpAny_cRoomFor_or (.inl rfl) ?_)
  refine wpAny_bind (wpAny_typeOf (hX s) (wpAny_bind (wpAny_typeOf (hY s) ?_)))
  simp only [bne_self_eq_false, Bool.false_eq_true, if_false, pure_bind, Bool.not_false, if_true]
  refine wpAny_bind (m := tryCompare (.type X) _ (.type Y)) (wpAny_tryCompare_declines (hX s) h1 (call_ty_ne_other h1 hX hne ⟨rfl, ?_⟩))
  refine wpAny_bind (m := tryCompare (.type Y) _ (.type X)) (wpAny_tryCompare_declines (hY s) h2 (call_ty_ne_other h2 hY hne' ⟨rfl, ?_⟩))
  refine wpAny_bind (wpAny_rule (wpAny_bind (wpAny_of_eq (a := false) (by rw [isSame_plain rfl, hne]) (wpAny_pure h))))
end
def Ty6 (S : String) : Prop := S = "NoneType" ∨ S = "bool" ∨ S = "int" ∨ S = "str" ∨ S = "list" ∨ S = "tuple"
theorem Ty6.meta {S : String} (h : Ty6 S) (s' : Shared) : s'.TypeIs (.type S) "type" := by
  rcases h with h | h | h | h | h | h <;> subst h
  · exact PySem.TypeEq.meta_NoneType s'
  · exact PySem.TypeEq.meta_bool s'
  · exact PySem.TypeEq.meta_int s'
  · exact PySem.TypeEq.meta_str s'
  · exact PySem.TypeEq.meta_list s'
  · exact PySem.TypeEq.meta_tuple s'
def rTyEq : R2 := fun x y H Q => ∃ S T, x = .ty S ∧ y = .ty T ∧ Ty6 S ∧ Ty6 T ∧ Q (.bl (decide (S = T))) H
def rTyNe : R2 := fun x y H Q => ∃ S T, x = .ty S ∧ y = .ty T ∧ Ty6 S ∧ Ty6 T ∧ Q (.bl (!decide (S = T))) H
theorem ty_beq {S T : String} (h : S ≠ T) : (Value.type S == Value.type T) = false := by
  rw [beq_eq_false_iff_ne]
  exact fun e => h (Value.type.inj e)
theorem op_tyEq {X : Cx} : OpR X (compareOp .Eq) rTyEq := by
  intro pins s σ H x y v u Q I rx ry h
  obtain ⟨S, T, rfl, rfl, h1, h2, q⟩ := h
  cases rx; cases ry
  by_cases e : S = T
  · subst e
    rw [decide_eq_true rfl] at q
    exact PySem.TypeEq.eq_type_same h1.meta ⟨.bl true, H, I, rfl, q⟩
  · rw [decide_eq_false e] at q
    exact PySem.TypeEq.eq_type_other h1.meta h2.meta (ty_beq e) ⟨.bl false, H, I, rfl, q⟩
theorem op_tyNe {X : Cx} : OpR X (compareOp .NotEq) rTyNe := by
  intro pins s σ H x y v u Q I rx ry h
  obtain ⟨S, T, rfl, rfl, h1, h2, q⟩ := h
  cases rx; cases ry
  by_cases e : S = T
  · subst e
    rw [decide_eq_true rfl] at q
    exact ne_type_same h1.meta ⟨.bl false, H, I, rfl, q⟩
  · rw [decide_eq_false e] at q
    exact ne_type_other h1.meta h2.meta (ty_beq e) ⟨.bl true, H, I, rfl, q⟩
end DL

set_option Elab.async false
set_option linter.all false
set_option maxRecDepth 100000
set_option maxHeartbeats 1000000
namespace DL
open PySem PySem.Spec PyProof.Rows L2
/-! ### types -/
def tyN : D → Option String
  | .none => some "NoneType"
  | .bool _ => some "bool"
  | .int _ => some "int"
  | .str _ => some "str"
  | .list _ => some "list"
  | .tuple _ => some "tuple"
  | _ => none
def isT (T : String) (S : String) : Bool := S == T || (S == "bool" && T == "int")
theorem ty_rp {k : Kx} {H : Hp} {B : Addr → Prop} {g : G} (ga : GA k H g) {v : V} {d : D} {S : String} (r : Rp k H B v d) (h : tyN d = some S) : TyX k.K H v (.type S) := by
  cases r with
  | non => cases h; exact .base .non
  | bl b => cases h; exact .base (.bl b)
  | int b => cases h; exact .base (.int b)
  | str b => cases h; exact .base (.str b)
  | lst _ e _ => cases h; exact .base (.lst e)
  | tup _ e _ => cases h; exact .base (.tup e)
  | br => cases h
  | gr => cases h
  | fz _ => cases h
theorem tyN_of {d : D} {S : String} (h : tyN d = some S) : S = "NoneType" ∨ S = "bool" ∨ S = "int" ∨ S = "str" ∨ S = "list" ∨ S = "tuple" := by
  unfold tyN at h
  split at h <;> simp_all
/-- isinstance(x, T) -/
def eIsi (T : String) (a : M) : M := fun E g => match a E g with
  | none => none
  | some (d, g1) => match tyN d with
    | none => none
    | some S => some (.bool (isT T S), g1)
def eIsi2 (T U : String) (a : M) : M := fun E g => match a E g with
  | none => none
  | some (d, g1) => match tyN d with
    | none => none
    | some S => some (.bool (isT T S || isT U S), g1)
/-- a class that stands by its name -/
structure TyName (X : Cx) (T : String) (x : Str) : Prop where
  gl : Gl X x
  mg : X.mg x = none
  bt : bootBuiltins x = some (.type T)
  nn : x ≠ "__name__"
  nd : (x == ("__debug__" : Str)) = false
/-- the kinds asked for -/
def Ask (T : String) : Prop := ∀ S, S = "NoneType" ∨ S = "bool" ∨ S = "int" ∨ S = "str" ∨ S = "list" ∨ S = "tuple" → kitB S T = some (isT T S)
theorem ask_int : Ask "int" := by
  intro S h; rcases h with h | h | h | h | h | h <;> subst h <;> decide +kernel
theorem ask_bool : Ask "bool" := by
  intro S h; rcases h with h | h | h | h | h | h <;> subst h <;> decide +kernel
theorem ask_str : Ask "str" := by
  intro S h; rcases h with h | h | h | h | h | h <;> subst h <;> decide +kernel
theorem ask_tuple : Ask "tuple" := by
  intro S h; rcases h with h | h | h | h | h | h <;> subst h <;> decide +kernel
theorem ask_list : Ask "list" := by
  intro S h; rcases h with h | h | h | h | h | h <;> subst h <;> decide +kernel
section
variable {k : Kx} {f : Fx} {sm : Bool} {X : Cx} {pos p p2 p3 p4 : Pos} {a : Expr} {ma : M} {x T : Str} {T U : String} {x y : Str}
theorem de_isi (hK : X.K = k.K) (hT : Ask T) (hg : Gl X "isinstance") (hm : X.mg "isinstance" = none) (tn : TyName X T x) (ha : PE X a (tE k f sm ma))
    (he : starEach [a, .Name x p2] X.env = (false, eval a X.env) :: starEach [.Name x p2] X.env := by rfl) (hpl : (backTo pos (starEach [.Name x p2] X.env)).any (·.1) = false := by rfl)
    (he2 : starEach [.Name x p2] X.env = (false, eval (.Name x p2) X.env) :: starEach [] X.env := by rfl) : PE X (.Call (.Name "isinstance" p) [a, .Name x p2] [] pos) (tE k f sm (eIsi T ma)) :=
  pe_of (pe_callB call_isi hg hm (by decide +kernel) (pa_cons ha (pa_cons (pe_bltn (v := .ty T) tn.gl tn.mg tn.bt rfl tn.nn tn.nd) pa_nil he2) he) (he := he) (hpl := hpl)) fun σ H Q ⟨ex, E, μ, g, d, g', I, e, q⟩ => by
    unfold eIsi at e
    split at e
    · cases e
    · rename_i d1 g1 h1
      split at e
      · cases e
      · rename_i S hS
        cases e
        refine ⟨ex, E, μ, g, d1, g', I, h1, fun v H1 p1 r1 => ?_⟩
        refine ⟨v, .ty T, .type S, .type T, isT T S, rfl, .ty T, by rw [hK]; exact ty_rp p1.ga r1 hS, kit_ty (hT S (tyN_of hS)), ?_⟩
        exact q _ H1 p1 (.bl _)
theorem de_isi2 {j : Nat} (hK : X.K = k.K) (hT : Ask T) (hU : Ask U) (hg : Gl X "isinstance") (hm : X.mg "isinstance" = none) (tn : TyName X T x) (un : TyName X U y) (ha : PE X a (tE k f sm ma))
    (he : starEach [a, .Tuple [.Name x p2, .Name y p3] j p4] X.env = (false, eval a X.env) :: starEach [.Tuple [.Name x p2, .Name y p3] j p4] X.env := by rfl) (hpl : (backTo pos (starEach [.Tuple [.Name x p2, .Name y p3] j p4] X.env)).any (·.1) = false := by rfl)
    (he2 : starEach [.Tuple [.Name x p2, .Name y p3] j p4] X.env = (false, eval (.Tuple [.Name x p2, .Name y p3] j p4) X.env) :: starEach [] X.env := by rfl)
    (h3 : starEach [.Name x p2, .Name y p3] X.env = (false, eval (.Name x p2) X.env) :: starEach [.Name y p3] X.env := by rfl) (h4 : starEach [.Name y p3] X.env = (false, eval (.Name y p3) X.env) :: starEach [] X.env := by rfl) :
    PE X (.Call (.Name "isinstance" p) [a, .Tuple [.Name x p2, .Name y p3] j p4] [] pos) (tE k f sm (eIsi2 T U ma)) :=
  pe_of (pe_callB call_isiT hg hm (by decide +kernel) (pa_cons ha (pa_cons (pe_tup (pa_cons (pe_bltn (v := .ty T) tn.gl tn.mg tn.bt rfl tn.nn tn.nd) (pa_cons (pe_bltn (v := .ty U) un.gl un.mg un.bt rfl un.nn un.nd) pa_nil h4) h3)) pa_nil he2) he) (he := he) (hpl := hpl)) fun σ H Q ⟨ex, E, μ, g, d, g', I, e, q⟩ => by
    unfold eIsi2 at e
    split at e
    · cases e
    · rename_i d1 g1 h1
      split at e
      · cases e
      · rename_i S hS
        cases e
        refine ⟨ex, E, μ, g, d1, g', I, h1, fun v H1 p1 r1 => ?_⟩
        refine ⟨by show 2 ≤ sizeLine; decide, fun t ht => ?_⟩
        have p2 : PEd k g' H1 (upd H1 t (.tup [.ty T, .ty U])) := .same (Same.upd ht) p1.ga
        refine ⟨v, t, [.ty T, .ty U], .type S, [.type T, .type U], isT T S || isT U S, rfl, upd_same, .cons (.ty T) (.cons (.ty U) .nil), ?_, ?_, ?_⟩
        · rw [hK]
          exact ty_rp p2.ga (r1.same (Same.upd ht)) hS
        · refine kitAny_cons (kit_ty (hT S (tyN_of hS))) (fun e => ?_) (fun e => by rw [e]; rfl)
          rw [e, Bool.false_or]
          refine kitAny_cons (kit_ty (hU S (tyN_of hS))) (fun e => ?_) (fun e => e)
          rw [e]
          exact kitAny_nil
        · exact q _ _ (p1.trans p2) (.bl _)
/-- type(x) -/
theorem call_typeD {P : Prop} : CallR X (.type "type") (fun xs H Q => ∃ (x : V) (S : String), xs = [x] ∧ TyX X.K H x (.type S) ∧ (S = "NoneType" ∨ S = "bool" ∨ S = "int" ∨ S = "str" ∨ S = "list" ∨ S = "tuple") ∧ Q (.ty S) H) := by
  intro pins s σ H xs us Q I r h
  obtain ⟨x, S, rfl, t, hS, q⟩ := h
  obtain ⟨u, rfl, rx⟩ := vals1 r
  have h2 : (Value.type S == Value.type "builtin_function_or_method") = false := by
    rcases hS with h | h | h | h | h | h <;> subst h <;> decide +kernel
  have h1 : s.TypeIs u S := by
    generalize hv : Value.type S = ST at t
    cases t with
    | base b =>
      cases b with
      | non => cases hv; cases rx; exact typeIs_none s
      | bl y => cases hv; cases rx; exact PySem.typeIs_bool s y
      | int i => cases hv; obtain ⟨t, rfl⟩ := rx; exact typeIs_int s i t
      | str i => cases hv; obtain ⟨t, rfl⟩ := rx; exact typeIs_str s i t
      | lst e => cases hv; cases rx; obtain ⟨its, rv, p, _⟩ := I.list (.inl (.inl e)); exact p.isList.typeIs
      | frz e => cases hv; cases rx; obtain ⟨its, rv, p, _⟩ := I.list (.inl (.inr ⟨_, e⟩)); exact p.isList.typeIs
      | tup e => cases hv; cases rx; obtain ⟨its, rv, p, _⟩ := I.tuple (.inl (.inl e)); exact p.typeIs
      | flt y => cases hv; simp at hS
      | dK e => cases hv; simp at hS
      | dT e => cases hv; simp at hS
      | ins e => cases hv
    | byt y => cases hv; simp at hS
    | set e => cases hv; simp at hS
    | kList e c => cases hv; cases rx; exact ⟨_, I.kIn _ _ e, c⟩
    | kTuple e c => cases hv; cases rx; exact ⟨_, I.kIn _ _ e, c⟩
    | kDict e c => cases hv; simp at hS
    | fTuple e => cases hv; cases rx; obtain ⟨its, rv, p, _⟩ := I.tuple (.inl (.inr ⟨_, e⟩)); exact p.typeIs
    | fDict e => cases hv; simp at hS
  exact call_type_of h1 h2 ⟨.ty S, H, I, rfl, q⟩
def eTyC (neg : Bool) (T : String) (a : M) : M := fun E g => match a E g with
  | none => none
  | some (d, g1) => match tyN d with
    | none => none
    | some S => some (.bool (if neg then !decide (S = T) else decide (S = T)), g1)
theorem t_ty {neg : Bool} {op : CmpOp} {r : R2} (hr : ∀ (S : String) H Q, Ty6 S → Q (.bl (if neg then !decide (S = T) else decide (S = T))) H → r (.ty S) (.ty T) H Q) (hK : X.K = k.K) {σ : L2.St} {H : Hp} {Q : VK} (w : tE k f sm (eTyC neg T ma) σ H Q) :
    tOp r (tCB (fun xs H Q => ∃ (x : V) (S : String), xs = [x] ∧ TyX X.K H x (.type S) ∧ (S = "NoneType" ∨ S = "bool" ∨ S = "int" ∨ S = "str" ∨ S = "list" ∨ S = "tuple") ∧ Q (.ty S) H) (tCons (tE k f sm ma) tNil)) (tC (.ty T)) σ H Q := by
  obtain ⟨ex, E, μ, g, d, g', I, e, q⟩ := w
  unfold eTyC at e
  split at e
  · cases e
  · rename_i d1 g1 h1
    split at e
    · cases e
    · rename_i S hS
      cases e
      refine ⟨ex, E, μ, g, d1, g', I, h1, fun v H1 p1 r1 => ?_⟩
      refine ⟨v, S, rfl, by rw [hK]; exact ty_rp p1.ga r1 hS, tyN_of hS, ?_⟩
      exact hr S H1 Q (tyN_of hS) (q _ H1 p1 (.bl _))
theorem dt_tyEq (hT : Ty6 T) (hK : X.K = k.K) (hg : Gl X "type") (hm : X.mg "type" = none) (tn : TyName X T x) (ha : PE X a (tE k f sm ma)) (he : starEach [a] X.env = (false, eval a X.env) :: starEach [] X.env := by rfl) :
    PT X (.Compare (.Call (.Name "type" p) [a] [] p2) [.Eq] [.Name x p3] pos) (tT k f (mB (eTyC false T ma))) :=
  pt_of (pt_cmpR op_tyEq (pe_callTy (call_typeD (P := True)) hg hm (by decide +kernel) (pa_cons ha pa_nil he) (he := he)) (pe_bltn (v := .ty T) tn.gl tn.mg tn.bt rfl tn.nn tn.nd) (nomark _)) (t_b fun σ H Q w => t_ty (op := .Eq) (fun S H Q h6 q => ⟨S, T, rfl, rfl, h6, hT, q⟩) hK w)
theorem dt_tyNe (hT : Ty6 T) (hK : X.K = k.K) (hg : Gl X "type") (hm : X.mg "type" = none) (tn : TyName X T x) (ha : PE X a (tE k f sm ma)) (he : starEach [a] X.env = (false, eval a X.env) :: starEach [] X.env := by rfl) :
    PT X (.Compare (.Call (.Name "type" p) [a] [] p2) [.NotEq] [.Name x p3] pos) (tT k f (mB (eTyC true T ma))) :=
  pt_of (pt_cmpR op_tyNe (pe_callTy (call_typeD (P := True)) hg hm (by decide +kernel) (pa_cons ha pa_nil he) (he := he)) (pe_bltn (v := .ty T) tn.gl tn.mg tn.bt rfl tn.nn tn.nd) (nomark _)) (t_b fun σ H Q w => t_ty (op := .Eq) (fun S H Q h6 q => ⟨S, T, rfl, rfl, h6, hT, q⟩) hK w)
theorem de_tyEq (hT : Ty6 T) (hK : X.K = k.K) (hg : Gl X "type") (hm : X.mg "type" = none) (tn : TyName X T x) (ha : PE X a (tE k f sm ma)) (he : starEach [a] X.env = (false, eval a X.env) :: starEach [] X.env := by rfl) :
    PE X (.Compare (.Call (.Name "type" p) [a] [] p2) [.Eq] [.Name x p3] pos) (tE k f sm (eTyC false T ma)) :=
  pe_of (pe_cmpR op_tyEq (pe_callTy (call_typeD (P := True)) hg hm (by decide +kernel) (pa_cons ha pa_nil he) (he := he)) (pe_bltn (v := .ty T) tn.gl tn.mg tn.bt rfl tn.nn tn.nd) (nomark _)) (fun σ H Q w => t_ty (op := .Eq) (fun S H Q h6 q => ⟨S, T, rfl, rfl, h6, hT, q⟩) hK w)
end
end DL

set_option Elab.async false
set_option linter.all false
set_option maxRecDepth 100000
set_option maxHeartbeats 1000000
namespace DL
open PySem PySem.Spec PyProof.Rows L2
/-! ### slices -/
def cutD (xs : List D) (lo hi : Option Int) : List D := (xs.drop (HT.sIx xs.length 0 lo)).take (HT.sIx xs.length xs.length hi - HT.sIx xs.length 0 lo)
theorem cut_rp {k : Kx} {H : Hp} {B : Addr → Prop} {xs : List V} {ds : List D} (r : RpA k H B xs ds) (lo hi : Option Int) : RpA k H B (cutV xs lo hi) (cutD ds lo hi) := by
  unfold cutV cutD
  rw [r.length]
  exact (r.drop _).take _
abbrev MO := En → G → Option (Option Int × G)
def oNo : MO := fun _ g => some (none, g)
def oAt (m : M) : MO := fun E g => match m E g with
  | some (.int i, g1) => some (some i, g1)
  | _ => none
def tO (k : Kx) (f : Fx) (m : MO) : TO := fun σ H Q => ∃ ex E μ g o g', Ist k f ex E μ g σ H ∧ m E g = some (o, g') ∧ ∀ H', PEd k g' H H' → Q o H'
def fSl : D → Option Int → Option Int → Option D
  | .list xs, lo, hi => some (.list (cutD xs lo hi))
  | .tuple xs, lo, hi => some (.tuple (cutD xs lo hi))
  | _, _, _ => none
def eSl (a : M) (lo hi : MO) : M := fun E g => match a E g with
  | none => none
  | some (d, g1) => match lo E g1 with
    | none => none
    | some (l, g2) => match hi E g2 with
      | none => none
      | some (h, g3) => match fSl d l h with
        | none => none
        | some z => some (z, g3)
section
variable {k : Kx} {f : Fx} {sm : Bool} {X : Cx} {pos p2 : Pos} {a e : Expr} {ma m : M} {lo hi : Option Expr} {ml mh : MO}
theorem do_none : PO X none (tO k f oNo) := ⟨fun pins s σ H Q I ⟨ex, E, μ, g, o, g', J, e, q⟩ => by
  cases e
  exact po_none.run pins s σ H Q I (q H (.same (.refl H) J.ga))⟩
theorem do_some (h : PE X e (tE k f sm m)) : PO X (some e) (tO k f (oAt m)) := ⟨fun pins s σ H Q I ⟨ex, E, μ, g, o, g', J, e, q⟩ => by
  refine (po_some h).run pins s σ H Q I ?_
  unfold oAt at e
  split at e
  · rename_i i g1 h1
    cases e
    refine ⟨ex, E, μ, g, _, g', J, h1, fun v H1 p1 r1 => ?_⟩
    cases r1
    exact ⟨_, rfl, q H1 p1⟩
  · cases e⟩
theorem de_slice (hK : X.K = k.K) (ha : PE X a (tE k f sm ma)) (hl : PO X lo (tO k f ml)) (hh : PO X hi (tO k f mh)) : PE X (.Subscript a (.Slice lo hi none p2) pos) (tE k f sm (eSl ma ml mh)) :=
  pe_of (pe_slice (sl_list.or sl_tupA) ha hl hh) fun σ H Q ⟨ex, E, μ, g, d, g', I, e, q⟩ => by
    unfold eSl at e
    split at e
    · cases e
    · rename_i d1 g1 h1
      split at e
      · cases e
      · rename_i l g2 h2
        split at e
        · cases e
        · rename_i u g3 h3
          split at e
          · cases e
          · rename_i z h4
            cases e
            refine ⟨ex, E, μ, g, d1, g1, I, h1, fun v H1 p1 r1 => ⟨ex, E, μ, g1, l, g2, I.step p1, h2, fun H2 p2 => ⟨ex, E, μ, g2, u, g', (I.step p1).step p2, h3, fun H3 p3 => ?_⟩⟩⟩
            have I3 := ((I.step p1).step p2).step p3
            have r3 := (r1.step (I.hb sm) p2.fr).step (I.hb sm) p3.fr
            have p0 := (p1.trans p2).trans p3
            unfold fSl at h4
            split at h4
            · cases h4
              cases r3 with
              | lst n1 e1 ra =>
                refine .inl ⟨_, _, rfl, by rw [hK]; exact .of e1, fun p hp => ?_⟩
                exact q _ _ (p0.trans (.same (Same.upd hp) I3.ga)) (.newL (fun b z => I3.be sm z) hp (cut_rp ra _ _))
            · cases h4
              cases r3 with
              | tup n1 e1 ra =>
                refine .inr ⟨_, _, rfl, by rw [hK]; exact .of e1, fun hw => ?_, fun _ p hp => ?_⟩
                · have hc : ∀ {α : Type} (xs : List α) (i j : Nat), i = 0 → j = xs.length → (xs.drop i).take (j - i) = xs := by
                    intro α xs i j h0 hj
                    subst h0; subst hj
                    simp
                  have hl := ra.length
                  refine q _ H3 p0 (.tup n1 e1 ?_)
                  have e2 := cut_rp ra l u
                  unfold cutV at e2
                  rw [hc _ _ _ hw.1 hw.2] at e2
                  exact e2
                · exact q _ _ (p0.trans (.same (Same.upd hp) I3.ga)) (.newT (fun b z => I3.be sm z) hp (cut_rp ra _ _))
            · cases h4
/-- xs[::-1] -/
def fRev : D → Option D
  | .list xs => some (.list xs.reverse)
  | _ => none
theorem de_revL (hK : X.K = k.K) (ha : PE X a (tE k f sm ma)) {j : Nat} {p1 p2 p3 : Pos} : PE X (.Subscript a (.Slice none none (some (.UnaryOp .USub (.Constant (.int 1) j p1) p2)) p3) pos) (tE k f sm (e1 fRev ma)) :=
  pe_of (pe_revL ha) fun σ H Q ⟨ex, E, μ, g, d, g', I, e, q⟩ => by
    unfold e1 at e
    split at e
    · cases e
    · rename_i x g1 h1
      split at e
      · cases e
      · rename_i z h3
        cases e
        refine ⟨ex, E, μ, g, x, g', I, h1, fun v H1 p1 r1 => ?_⟩
        have I1 := I.step p1
        unfold fRev at h3
        split at h3
        · cases h3
          cases r1 with
          | lst n1 e1 ra =>
            refine ⟨_, _, rfl, by rw [hK]; exact .of e1, fun p hp => ?_⟩
            exact q _ _ (p1.trans (.same (Same.upd hp) I1.ga)) (.newL (fun b z => I1.be sm z) hp ra.rev)
        · cases h3
end

/-! ### sorted, a list of pairs of intsD -/
def prs : List D → Option (List (Int × Int))
  | [] => some []
  | .tuple [.int a, .int b] :: r => (prs r).map ((a, b) :: ·)
  | _ => none

/-! ### what is walked -/
/-- the turns over ds; pn: what stays alive -/
def Wk (k : Kx) (J : It) (pn : List (V × D)) (ds : List D) : Prop := ∀ (B : Addr → Prop) (H : Hp), (∀ b, B b → H b ≠ none) → (∀ p ∈ pn, Rp k H B p.1 p.2) →
  (∀ i, ds.length ≤ i → J.stop i H) ∧ ∀ i d, ds[i]? = some d → J.go i H ∧ ∀ x H', J.yld i H x H' → Same H H' ∧ Rp k H' B x d
def tI (k : Kx) (f : Fx) (m : ML) : TI := fun σ H R => ∃ ex E μ g ds g', Ist k f ex E μ g σ H ∧ m E g = some (ds, g') ∧ ∀ J pn H', PEd k g' H H' → (∀ p ∈ pn, Rp k H' (BE f true E μ) p.1 p.2) → Wk k J pn ds → R J H'
theorem pi_of {X : Cx} {tg it : Expr} {t t' : TI} (h : PI X tg it t) (w : ∀ σ H R, t' σ H R → t σ H R) : PI X tg it t' := ⟨fun pins s σ H R I q => h.run pins s σ H R I (w σ H R q)⟩
/-- the items of a value -/
def iOf (m : M) : ML := fun E g => match m E g with
  | some (.list ds, g1) => some (ds, g1)
  | _ => none
def iOfT (m : M) : ML := fun E g => match m E g with
  | some (.tuple ds, g1) => some (ds, g1)
  | _ => none
def iOfZ (m : M) : ML := fun E g => match m E g with
  | some (.dict [(.none, .list ds)], g1) => some (ds, g1)
  | _ => none
/-- range(b) -/
def intsD (lo : Int) (n : Nat) : List D := (List.range n).map fun (i : Nat) => .int (lo + (i : Int))
def iRg1 (a : ML) : ML := fun E g => match a E g with
  | some ([.int j], g1) => if -(2 ^ 62) ≤ j ∧ j < 2 ^ 62 then some (intsD 0 j.toNat, g1) else none
  | _ => none
def iRg2 (a : ML) : ML := fun E g => match a E g with
  | some ([.int i, .int j], g1) => if -(2 ^ 62) ≤ i ∧ i < 2 ^ 62 ∧ -(2 ^ 62) ≤ j ∧ j < 2 ^ 62 then some (intsD i (j - i).toNat, g1) else none
  | _ => none
def zipD (xs ys : List D) : List D := (xs.zip ys).map fun p => .tuple [p.1, p.2]
def enumD (xs : List D) (n : Nat) : List D := match xs with
  | [] => []
  | x :: r => .tuple [.int n, x] :: enumD r (n + 1)
section
variable {k : Kx} {f : Fx} {X : Cx} {pos p : Pos} {a e : Expr} {es : List Expr} {ma m : M} {ml : ML} {tg : Expr}
theorem di_list (hK : X.K = k.K) (ha : PE X a (tE k f true ma)) : PI X tg a (tI k f (iOf ma)) := pi_of (pi_list ha) fun σ H R ⟨ex, E, μ, g, ds, g', I, e, q⟩ => by
  unfold iOf at e
  split at e
  · rename_i ds1 g1 h1
    cases e
    refine ⟨ex, E, μ, g, _, g', I, h1, fun v H1 p1 r1 => ?_⟩
    cases r1 with
    | lst n1 e1 ra =>
      rename_i aa xs
      refine ⟨_, rfl, ⟨_, by rw [hK]; exact .of e1⟩, q _ [(.ref aa, .list ds)] H1 p1 (fun p hp => by rw [List.mem_singleton.mp hp]; exact .lst n1 e1 ra) ?_⟩
      rw [hK]
      intro B H hB hp
      have r := hp _ (List.mem_singleton.mpr rfl)
      cases r with
      | lst n2 e2 rb =>
        refine ⟨fun i hi => ⟨_, .of e2, by rw [rb.length]; exact hi⟩, fun i d hd => ?_⟩
        obtain ⟨v, hv, rv⟩ := rb.get hd
        refine ⟨⟨_, v, .of e2, hv⟩, fun x H' hy => ?_⟩
        obtain ⟨rfl, hx⟩ := hy
        have := hx _ (.of e2)
        rw [hv] at this
        cases this
        exact ⟨.refl _, rv⟩
  · cases e
theorem map_inj : ∀ {xs ys : List Int}, xs.map PyData.int = ys.map PyData.int → xs = ys
  | [], [], _ => rfl
  | x :: xs, y :: ys, h => by
    injection h with h1 h2
    injection h1 with h1
    rw [h1, map_inj h2]
theorem di_fz (hK : X.K = k.K) (ha : PE X a (tE k f true ma)) : PI X tg a (tI k f (iOfZ ma)) := pi_of (pi_list ha) fun σ H R ⟨ex, E, μ, g, ds, g', I, e, q⟩ => by
  unfold iOfZ at e
  split at e
  · rename_i ds1 g1 h1
    cases e
    refine ⟨ex, E, μ, g, _, g', I, h1, fun v H1 p1 r1 => ?_⟩
    cases r1 with
    | fz e1 =>
      rename_i aa ns
      refine ⟨_, rfl, ⟨_, by rw [hK]; exact e1.sq⟩, q _ [(.ref aa, .dict [(.none, .list (ns.map .int))])] H1 p1 (fun p hp => by rw [List.mem_singleton.mp hp]; exact .fz e1) ?_⟩
      rw [hK]
      intro B H hB hp
      have r := hp _ (List.mem_singleton.mpr rfl)
      generalize hds : ns.map PyData.int = ds at r ⊢
      cases r with
      | fz e2 =>
        rename_i ms
        have em : ms = ns := by
          have h2 : ns.map PyData.int = ms.map PyData.int := hds
          exact (map_inj h2).symm
        subst em
        refine ⟨fun i hi => ⟨_, e2.sq, by rw [List.length_map] at hi ⊢; exact hi⟩, fun i d hd => ?_⟩
        obtain ⟨v, hv, rv⟩ := (rpa_ints (k := k) (H := H) (B := B) _).get hd
        refine ⟨⟨_, v, e2.sq, hv⟩, fun x H' hy => ?_⟩
        obtain ⟨rfl, hx⟩ := hy
        have := hx _ e2.sq
        rw [hv] at this
        cases this
        exact ⟨.refl _, rv⟩
  · cases e
theorem di_tup (hK : X.K = k.K) (ha : PE X a (tE k f true ma)) : PI X tg a (tI k f (iOfT ma)) := pi_of (pi_tup ha) fun σ H R ⟨ex, E, μ, g, ds, g', I, e, q⟩ => by
  unfold iOfT at e
  split at e
  · rename_i ds1 g1 h1
    cases e
    refine ⟨ex, E, μ, g, _, g', I, h1, fun v H1 p1 r1 => ?_⟩
    cases r1 with
    | tup n1 e1 ra =>
      rename_i aa xs
      refine ⟨_, rfl, ⟨_, by rw [hK]; exact .of e1⟩, q _ [(.ref aa, .tuple ds)] H1 p1 (fun p hp => by rw [List.mem_singleton.mp hp]; exact .tup n1 e1 ra) ?_⟩
      rw [hK]
      intro B H hB hp
      have r := hp _ (List.mem_singleton.mpr rfl)
      cases r with
      | tup n2 e2 rb =>
        refine ⟨fun i hi => ⟨_, .of e2, by rw [rb.length]; exact hi⟩, fun i d hd => ?_⟩
        obtain ⟨v, hv, rv⟩ := rb.get hd
        refine ⟨⟨_, v, .of e2, hv⟩, fun x H' hy => ?_⟩
        obtain ⟨rfl, hx⟩ := hy
        have := hx _ (.of e2)
        rw [hv] at this
        cases this
        exact ⟨.refl _, rv⟩
  · cases e
theorem intsD_get {lo : Int} {n i : Nat} {d : D} (h : (intsD lo n)[i]? = some d) : i < n ∧ d = .int (lo + (i : Int)) := by
  unfold intsD at h
  rw [List.getElem?_map] at h
  by_cases hi : i < n
  · rw [List.getElem?_range hi] at h
    cases h
    exact ⟨hi, rfl⟩
  · rw [List.getElem?_eq_none (by simpa using hi)] at h
    cases h
theorem wk_range {lo : Int} {n : Nat} : Wk k (Itr lo n) [] (intsD lo n) := by
  intro B H hB hp
  refine ⟨fun i hi => ?_, fun i d hd => ?_⟩
  · have : (intsD lo n).length = n := by simp [intsD]
    rw [this] at hi
    exact hi
  · obtain ⟨hi, rfl⟩ := intsD_get hd
    refine ⟨hi, fun x H' hy => ?_⟩
    obtain ⟨rfl, rfl⟩ := hy
    exact ⟨.refl _, .int _⟩
theorem di_rg1 (hg : Gl X "range") (hm : X.mg "range" = none) (ha : PA X [a] (tL k f true ml)) (hs : starEach [a] X.env = [(false, eval a X.env)] := by rfl) : PI X tg (.Call (.Name "range" p) [a] [] pos) (tI k f (iRg1 ml)) :=
  pi_of (pi_range1 hg hm ha hs) fun σ H R ⟨ex, E, μ, g, ds, g', I, e, q⟩ => by
    unfold iRg1 at e
    split at e
    · rename_i j g1 h1
      split at e
      · rename_i hb
        cases e
        refine ⟨ex, E, μ, g, _, g', I, h1, fun v H1 p1 r1 => ?_⟩
        cases r1 with
        | cons r1 r2 =>
          cases r2
          cases r1
          exact ⟨j, rfl, hb.1, hb.2, q _ [] H1 p1 (fun p hp => by simp at hp) wk_range⟩
      · cases e
    · cases e
theorem di_rg2 {b : Expr} (hg : Gl X "range") (hm : X.mg "range" = none) (ha : PA X [a, b] (tL k f true ml)) (hs : starEach [a, b] X.env = [(false, eval a X.env), (false, eval b X.env)] := by rfl) (hs2 : starEach [b] X.env = [(false, eval b X.env)] := by rfl) : PI X tg (.Call (.Name "range" p) [a, b] [] pos) (tI k f (iRg2 ml)) :=
  pi_of (pi_range2 hg hm ha hs hs2) fun σ H R ⟨ex, E, μ, g, ds, g', I, e, q⟩ => by
    unfold iRg2 at e
    split at e
    · rename_i i j g1 h1
      split at e
      · rename_i hb
        cases e
        refine ⟨ex, E, μ, g, _, g', I, h1, fun v H1 p1 r1 => ?_⟩
        cases r1 with
        | cons r1 r2 =>
          cases r2 with
          | cons r2 r3 =>
            cases r3
            cases r1
            cases r2
            exact ⟨i, j, rfl, hb, q _ [] H1 p1 (fun p hp => by simp at hp) wk_range⟩
      · cases e
    · cases e
end
end DL

set_option Elab.async false
set_option linter.all false
set_option maxRecDepth 100000
set_option maxHeartbeats 1000000
namespace DL
open PySem PySem.Spec PyProof.Rows L2
/-! ### slots stored -/
theorem own_of_set {E : En} {i j : Nat} {d : D} {ds : List D} (h : (E.set i (.val d))[j]? = some (Sl.own ds)) : j ≠ i ∧ E[j]? = some (Sl.own ds) := by
  by_cases e : i = j
  · subst e
    by_cases hl : i < E.length
    · rw [List.getElem?_set_self hl] at h
      cases h
    · rw [List.getElem?_eq_none (by simpa using hl)] at h
      cases h
  · rw [List.getElem?_set_ne e] at h
    exact ⟨fun z => e z.symm, h⟩
section
variable {k : Kx} {f : Fx} {ex : List (V × D)} {E : En} {μ : Nat → Addr} {g : G} {σ : L2.St} {H : Hp}
theorem Rp.shrink {B B' : Addr → Prop} {v : V} {d : D} (h : ∀ b, B' b → B b) (r : Rp k H B v d) : Rp k H B' v d := Rp.mono (fun _ _ _ h => h) (fun b _ n _ z => n (h b z)) d v r
theorem RpA.shrink {B B' : Addr → Prop} {v : List V} {d : List D} (h : ∀ b, B' b → B b) (r : RpA k H B v d) : RpA k H B' v d := RpA.mono (fun _ _ _ h => h) (fun b _ n _ z => n (h b z)) d v r
theorem BE.set {sm : Bool} {i : Nat} {d : D} : ∀ b, BE f sm (E.set i (.val d)) μ b → BE f sm E μ b := fun b z => z.imp id fun ⟨s, j, ds, e, q⟩ => ⟨s, j, ds, (own_of_set e).2, q⟩
theorem Ist.setVal (I : Ist k f ex E μ g σ H) (i : Nat) {v : V} {d : D} (r : Rp k H (BE f true E μ) v d) : Ist k f ex (E.set i (.val d)) μ g (σ.set i (some v)) H where
  len := by rw [List.length_set, List.length_set]; exact I.len
  val := fun j d' e => by
    by_cases hj : i = j
    · subst hj
      by_cases hl : i < E.length
      · rw [List.getElem?_set_self hl] at e
        cases e
        exact ⟨v, List.getElem?_set_self (by rw [I.len]; exact hl), r.shrink BE.set⟩
      · rw [List.getElem?_eq_none (by simpa using hl)] at e
        cases e
    · rw [List.getElem?_set_ne hj] at e
      obtain ⟨u, h1, h2⟩ := I.val j d' e
      exact ⟨u, by rw [List.getElem?_set_ne hj]; exact h1, h2.shrink BE.set⟩
  own := fun j ds e => by
    obtain ⟨hj, e⟩ := own_of_set e
    obtain ⟨h1, h2, h3, vs, h4, h5⟩ := I.own j ds e
    exact ⟨by rw [List.getElem?_set_ne (Ne.symm hj)]; exact h1, h2, h3, vs, h4, h5.shrink BE.set⟩
  inj := fun a b ds es h1 h2 q => I.inj a b ds es (own_of_set h1).2 (own_of_set h2).2 q
  exs := fun p hp => (I.exs p hp).shrink BE.set
  ga := I.ga
  fr := I.fr
  b0 := I.b0
  bo := I.bo
theorem Ist.exS {ex' : List (V × D)} (I : Ist k f ex E μ g σ H) (h : ∀ p ∈ ex', Rp k H (BE f true E μ) p.1 p.2) : Ist k f ex' E μ g σ H := ⟨I.len, I.val, I.own, I.inj, h, I.ga, I.fr, I.b0, I.bo⟩
/-- a new list, one's own -/
theorem Ist.setOwn (I : Ist k f ex E μ g σ H) (i : Nat) (hi : i < E.length) {p : Addr} (hp : H p = none) {vs : List V} {ds : List D} (r : RpA k H (BE f true E μ) vs ds) :
    Ist k f ex (E.set i (.own ds)) (fun j => if j = i then p else μ j) g (σ.set i (some (.ref p))) (upd H p (.lst vs)) := by
  have sub : ∀ b, BE f true (E.set i (.own ds)) (fun j => if j = i then p else μ j) b → b ≠ p → BE f true E μ b := fun b z hb => by
    rcases z with z | ⟨s, j, es, e, q⟩
    · exact .inl z
    · by_cases hj : j = i
      · subst hj
        simp only [if_true] at q
        exact absurd q hb
      · rw [List.getElem?_set_ne (Ne.symm hj)] at e
        simp only [hj, if_false] at q
        exact .inr ⟨rfl, j, es, e, q⟩
  have up : ∀ {v : V} {d : D}, Rp k H (BE f true E μ) v d → Rp k (upd H p (.lst vs)) (BE f true (E.set i (.own ds)) (fun j => if j = i then p else μ j)) v d := fun {v d} r =>
    Rp.mono (fun b o _ h => by rw [upd_ne (ne_of_none h hp)]; exact h) (fun b o n h z => n (sub b z (ne_of_none h hp))) d v r
  have upA : ∀ {v : List V} {d : List D}, RpA k H (BE f true E μ) v d → RpA k (upd H p (.lst vs)) (BE f true (E.set i (.own ds)) (fun j => if j = i then p else μ j)) v d := fun {v d} r =>
    RpA.mono (fun b o _ h => by rw [upd_ne (ne_of_none h hp)]; exact h) (fun b o n h z => n (sub b z (ne_of_none h hp))) d v r
  have np : ∀ b, f.Bo b → b ≠ p := fun b z e => I.bo b z (by rw [e]; exact hp)
  refine ⟨by rw [List.length_set, List.length_set]; exact I.len, fun j d e => ?_, fun j es e => ?_, fun a b es fs h1 h2 q => ?_, fun q hq => up (I.exs q hq), ?_, fun b o n h => ?_, I.b0, fun b z => ?_⟩
  · by_cases hj : i = j
    · subst hj
      rw [List.getElem?_set_self hi] at e
      cases e
    · rw [List.getElem?_set_ne hj] at e
      obtain ⟨u, h1, h2⟩ := I.val j d e
      exact ⟨u, by rw [List.getElem?_set_ne hj]; exact h1, up h2⟩
  · by_cases hj : j = i
    · subst hj
      rw [List.getElem?_set_self hi] at e
      cases e
      simp only [if_true]
      refine ⟨List.getElem?_set_self (by rw [I.len]; exact hi), ?_, fun z => np p z rfl, vs, upd_same, upA r⟩
      cases h0 : f.H0 p with
      | none => rfl
      | some o =>
        by_cases hb : B0 k p
        · exact absurd hp (I.ga.has hb)
        · rw [I.fr p o hb h0] at hp
          cases hp
    · rw [List.getElem?_set_ne (Ne.symm hj)] at e
      obtain ⟨h1, h2, h3, ws, h4, h5⟩ := I.own j es e
      simp only [hj, if_false]
      exact ⟨by rw [List.getElem?_set_ne (Ne.symm hj)]; exact h1, h2, h3, ws, by rw [upd_ne (ne_of_none h4 hp)]; exact h4, upA h5⟩
  · have nm : ∀ c cs, c ≠ i → (E.set i (.own ds))[c]? = some (Sl.own cs) → μ c ≠ p := fun c cs hc h => by
      rw [List.getElem?_set_ne (Ne.symm hc)] at h
      obtain ⟨_, _, _, ws, h4, _⟩ := I.own c cs h
      exact ne_of_none h4 hp
    by_cases ha : a = i
    · by_cases hb : b = i
      · rw [ha, hb]
      · simp only [ha, hb, if_true, if_false] at q
        exact absurd q.symm (nm b fs hb h2)
    · by_cases hb : b = i
      · simp only [ha, hb, if_true, if_false] at q
        exact absurd q (nm a es ha h1)
      · simp only [ha, hb, if_false] at q
        rw [List.getElem?_set_ne (Ne.symm ha)] at h1
        rw [List.getElem?_set_ne (Ne.symm hb)] at h2
        exact I.inj a b es fs h1 h2 q
  · exact I.ga.same (Same.upd hp)
  · rw [upd_ne (ne_of_none (I.fr b o n h) hp)]
    exact I.fr b o n h
  · rw [upd_ne (np b z)]
    exact I.bo b z
/-- one's own list gets other items -/
theorem Ist.write (I : Ist k f ex E μ g σ H) {i : Nat} {es : List D} (hi : E[i]? = some (Sl.own es)) {vs : List V} {ds : List D} (r : RpA k H (BE f true E μ) vs ds) : Ist k f ex (E.set i (.own ds)) μ g σ (upd H (μ i) (.lst vs)) := by
  obtain ⟨s1, s2, s3, ws, s4, s5⟩ := I.own i es hi
  have hl : i < E.length := (List.getElem?_eq_some_iff.mp hi).1
  have sub : ∀ b, BE f true (E.set i (.own ds)) μ b → BE f true E μ b := fun b z => by
    rcases z with z | ⟨s, j, fs, e, q⟩
    · exact .inl z
    · by_cases hj : j = i
      · subst hj
        exact .inr ⟨rfl, j, es, hi, q⟩
      · rw [List.getElem?_set_ne (Ne.symm hj)] at e
        exact .inr ⟨rfl, j, fs, e, q⟩
  have inB : BE f true E μ (μ i) := .inr ⟨rfl, i, es, hi, rfl⟩
  have up : ∀ {v : V} {d : D}, Rp k H (BE f true E μ) v d → Rp k (upd H (μ i) (.lst vs)) (BE f true (E.set i (.own ds)) μ) v d := fun {v d} r =>
    Rp.mono (fun b o n h => by rw [upd_ne (fun e => n (by rw [e]; exact inB))]; exact h) (fun b o n h z => n (sub b z)) d v r
  have upA : ∀ {v : List V} {d : List D}, RpA k H (BE f true E μ) v d → RpA k (upd H (μ i) (.lst vs)) (BE f true (E.set i (.own ds)) μ) v d := fun {v d} r =>
    RpA.mono (fun b o n h => by rw [upd_ne (fun e => n (by rw [e]; exact inB))]; exact h) (fun b o n h z => n (sub b z)) d v r
  have nb : ∀ b, f.Bo b → b ≠ μ i := fun b z e => s3 (by rw [← e]; exact z)
  have n0 : ∀ b, B0 k b → b ≠ μ i := fun b z => nb b (I.b0 b z)
  refine ⟨by rw [List.length_set]; exact I.len, fun j d e => ?_, fun j fs e => ?_, fun a b p q h1 h2 e => ?_, fun q hq => up (I.exs q hq), ?_, fun b o n h => ?_, I.b0, fun b z => ?_⟩
  · by_cases hj : i = j
    · subst hj
      rw [List.getElem?_set_self hl] at e
      cases e
    · rw [List.getElem?_set_ne hj] at e
      obtain ⟨u, h1, h2⟩ := I.val j d e
      exact ⟨u, h1, up h2⟩
  · by_cases hj : j = i
    · subst hj
      rw [List.getElem?_set_self hl] at e
      cases e
      exact ⟨s1, s2, s3, vs, upd_same, upA r⟩
    · rw [List.getElem?_set_ne (Ne.symm hj)] at e
      obtain ⟨h1, h2, h3, us, h4, h5⟩ := I.own j fs e
      exact ⟨h1, h2, h3, us, by rw [upd_ne (fun z => hj (I.inj j i fs es e hi z))]; exact h4, upA h5⟩
  · have back : ∀ c cs, (E.set i (.own ds))[c]? = some (Sl.own cs) → ∃ cs', E[c]? = some (Sl.own cs') := fun c cs h => by
      by_cases hc : c = i
      · exact ⟨es, by rw [hc]; exact hi⟩
      · rw [List.getElem?_set_ne (Ne.symm hc)] at h
        exact ⟨cs, h⟩
    obtain ⟨_, b1⟩ := back a p h1
    obtain ⟨_, b2⟩ := back b q h2
    exact I.inj a b _ _ b1 b2 e
  · exact ⟨fun ho => by rw [upd_ne (n0 _ (.inl ⟨ho, rfl⟩))]; exact I.ga.b ho, fun ho => by rw [upd_ne (n0 _ (.inr (.inl ⟨ho, rfl⟩)))]; exact I.ga.c ho, fun P hP => by
      obtain ⟨ps, e, t⟩ := I.ga.t P hP
      exact ⟨ps, by rw [upd_ne (n0 P (.inr (.inr hP)))]; exact e, t⟩⟩
  · by_cases hb : b = μ i
    · rw [hb, s2] at h
      cases h
    · rw [upd_ne hb]
      exact I.fr b o n h
  · rw [upd_ne (nb b z)]
    exact I.bo b z
/-- no longer written: a value -/
theorem Ist.freeze (I : Ist k f ex E μ g σ H) {i : Nat} {ds : List D} (hi : E[i]? = some (Sl.own ds)) : Ist k f ex (E.set i (.val (.list ds))) μ g σ H := by
  obtain ⟨s1, s2, s3, ws, s4, s5⟩ := I.own i ds hi
  have hl : i < E.length := (List.getElem?_eq_some_iff.mp hi).1
  refine ⟨by rw [List.length_set]; exact I.len, fun j d e => ?_, fun j fs e => ?_, fun a b p q h1 h2 e => I.inj a b p q (own_of_set h1).2 (own_of_set h2).2 e, fun q hq => (I.exs q hq).shrink BE.set, I.ga, I.fr, I.b0, I.bo⟩
  · by_cases hj : i = j
    · subst hj
      rw [List.getElem?_set_self hl] at e
      cases e
      refine ⟨_, s1, .lst (fun z => ?_) s4 (s5.shrink BE.set)⟩
      rcases z with z | ⟨_, j, fs, e, q⟩
      · exact s3 z
      · obtain ⟨hj, e⟩ := own_of_set e
        exact hj (I.inj j i fs ds e hi q.symm)
    · rw [List.getElem?_set_ne hj] at e
      obtain ⟨u, h1, h2⟩ := I.val j d e
      exact ⟨u, h1, h2.shrink BE.set⟩
  · obtain ⟨hj, e⟩ := own_of_set e
    obtain ⟨h1, h2, h3, us, h4, h5⟩ := I.own j fs e
    exact ⟨h1, h2, h3, us, h4, h5.shrink BE.set⟩
end

/-! ### targets -/
inductive Tg where
  | one (i : Nat) | many (is : List Nat) | manyL (is : List Nat)
def Tg.parts : Tg → D → Option (List (Nat × D))
  | .one i, d => some [(i, d)]
  | .many is, .tuple ds => if is.length = ds.length then some (is.zip ds) else none
  | .many _, _ => none
  | .manyL is, .list ds => if is.length = ds.length then some (is.zip ds) else none
  | .manyL _, _ => none
def setsE : List (Nat × D) → En → En
  | [], E => E
  | (i, d) :: r, E => setsE r (E.set i (.val d))
def setsS : List (Nat × V) → L2.St → L2.St
  | [], σ => σ
  | (i, v) :: r, σ => setsS r (σ.set i (some v))
section
variable {k : Kx} {f : Fx} {ex : List (V × D)} {E : En} {μ : Nat → Addr} {g : G} {σ : L2.St} {H : Hp}
theorem Ist.sets : ∀ (ps : List (Nat × D)) {E : En} {σ : L2.St} {vs : List V}, Ist k f ex E μ g σ H → RpA k H (BE f true E μ) vs (ps.map (·.2)) → Ist k f ex (setsE ps E) μ g (setsS ((ps.map (·.1)).zip vs) σ) H
  | [], E, σ, vs, I, r => by
    cases r
    exact I
  | (i, d) :: ps, E, σ, vs, I, r => by
    cases r with
    | cons r1 r2 => exact Ist.sets ps (I.setVal i r1) (r2.shrink BE.set)
end
def tG (k : Kx) (f : Fx) (tg : Tg) : TG := fun v σ H Q => ∃ ex E μ g d ps, Ist k f ex E μ g σ H ∧ Rp k H (BE f true E μ) v d ∧ tg.parts d = some ps ∧ ∀ vs, RpA k H (BE f true E μ) vs (ps.map (·.2)) → Q (setsS ((ps.map (·.1)).zip vs) σ) H
theorem pg_of {X : Cx} {e : Expr} {t t' : TG} (h : PG X e t) (w : ∀ v σ H Q, t' v σ H Q → t v σ H Q) : PG X e t' := ⟨fun pins s σ H v u Q I r q => h.run pins s σ H v u Q I r (w v σ H Q q)⟩
section
variable {k : Kx} {f : Fx} {X : Cx} {pos : Pos}
theorem dg_name {i : Nat} {x : Str} (hN : X.N.Nodup) (hi : X.N[i]? = some x) (hx : Loc X.env.scope x) (hf : X.fn x = true ∨ X.env.scope.names.lookup x = some .local := by first | exact .inl rfl | exact .inr rfl | assumption) : PG X (.Name x pos) (tG k f (.one i)) :=
  pg_of (pg_name hN hi hx hf) fun v σ H Q ⟨ex, E, μ, g, d, ps, I, r, e, q⟩ => by
    cases e
    exact q [v] (.cons r .nil)
def gsN : List Nat → TGs
  | [] => gNil
  | i :: r => gCons (gName i) (gsN r)
theorem gsN_ok : ∀ (is : List Nat) (vs : List V) (σ : L2.St) (H : Hp) (Q : L2.St → Hp → Prop), vs.length = is.length → Q (setsS (is.zip vs) σ) H → gsN is vs σ H Q
  | [], vs, σ, H, Q, hl, q => by
    cases vs with
    | nil => exact ⟨rfl, q⟩
    | cons _ _ => simp at hl
  | i :: is, vs, σ, H, Q, hl, q => by
    cases vs with
    | nil => simp at hl
    | cons v r => exact ⟨v, r, rfl, gsN_ok is r _ H Q (by simpa using hl) q⟩
theorem map_zip_fst : ∀ (is : List Nat) (ds : List D), is.length = ds.length → (is.zip ds).map (·.1) = is
  | [], _, _ => rfl
  | i :: is, ds, h => by
    cases ds with
    | nil => simp at h
    | cons d r => simp only [List.zip_cons_cons, List.map_cons]; rw [map_zip_fst is r (by simpa using h)]
theorem map_zip_snd : ∀ (is : List Nat) (ds : List D), is.length = ds.length → (is.zip ds).map (·.2) = ds
  | [], ds, h => by
    cases ds with
    | nil => rfl
    | cons d r => simp at h
  | i :: is, ds, h => by
    cases ds with
    | nil => simp at h
    | cons d r => simp only [List.zip_cons_cons, List.map_cons]; rw [map_zip_snd is r (by simpa using h)]
theorem dg_tup (hK : X.K = k.K) {es : List Expr} {j : Nat} {is : List Nat} (hc : X.calm = true) (h : PGs X es (gsN is)) (hn : (assignEach es X.env).length = is.length := by rfl) (hst : (assignEach es X.env).findIdx? (·.1) = none := by rfl) : PG X (.Tuple es j pos) (tG k f (.many is)) :=
  pg_of (pg_tup hc h hn hst) fun v σ H Q ⟨ex, E, μ, g, d, ps, I, r, e, q⟩ => by
    unfold Tg.parts at e
    split at e
    · cases ‹Tg.many is = _›
    · rename_i is' ds he
      cases he
      split at e
      · rename_i hl
        cases e
        cases r with
        | tup n1 e1 ra =>
          rename_i a xs _w
          refine ⟨a, xs, rfl, by rw [hK]; exact .of e1, ra.length.trans hl.symm, gsN_ok is xs σ H Q (ra.length.trans hl.symm) ?_⟩
          have := q xs (by rw [map_zip_snd is ds hl]; exact ra)
          rw [map_zip_fst is ds hl] at this
          exact this
      · cases e
    · cases e
    · cases ‹Tg.many is = _›
    · cases e
theorem dg_lst (hK : X.K = k.K) {es : List Expr} {j : Nat} {is : List Nat} (hc : X.calm = true) (h : PGs X es (gsN is)) (hn : (assignEach es X.env).length = is.length := by rfl) (hst : (assignEach es X.env).findIdx? (·.1) = none := by rfl) : PG X (.Tuple es j pos) (tG k f (.manyL is)) :=
  pg_of (pg_unl hc h hn hst) fun v σ H Q ⟨ex, E, μ, g, d, ps, I, r, e, q⟩ => by
    unfold Tg.parts at e
    split at e
    · cases ‹Tg.manyL is = _›
    · cases ‹Tg.manyL is = _›
    · cases ‹Tg.manyL is = _›
    · rename_i is' ds he
      cases he
      split at e
      · rename_i hl
        cases e
        cases r with
        | lst n1 e1 ra =>
          rename_i a xs _w
          refine ⟨a, xs, rfl, by rw [hK]; exact .of e1, ra.length.trans hl.symm, gsN_ok is xs σ H Q (ra.length.trans hl.symm) ?_⟩
          have := q xs (by rw [map_zip_snd is ds hl]; exact ra)
          rw [map_zip_fst is ds hl] at this
          exact this
      · cases e
    · cases e
end

/-! ### statements -/
inductive Fl where
  | nx | ret (d : D) | bk | ct
abbrev MS := En → G → Option (Fl × En × G)
def endS (k : Kx) (f : Fx) (ex : List (V × D)) (Dn : Ends) (r : Fl × En × G) : Prop := match r.1 with
  | .nx => ∀ σ μ H, Ist k f ex r.2.1 μ r.2.2 σ H → Dn.nx σ H
  | .bk => ∀ σ μ H, Ist k f ex r.2.1 μ r.2.2 σ H → Dn.bk σ H
  | .ct => ∀ σ μ H, Ist k f ex r.2.1 μ r.2.2 σ H → Dn.ct σ H
  | .ret d => ∀ v H, Fr0 k f.H0 H → GA k H r.2.2 → Rp k H f.Bo v d → Dn.rt v H
def tS (k : Kx) (f : Fx) (ex : List (V × D)) (m : MS) : TS := fun Dn σ H => ∃ E μ g r, Ist k f ex E μ g σ H ∧ m E g = some r ∧ endS k f ex Dn r
def sNx : MS := fun E g => some (.nx, E, g)
def sBk : MS := fun E g => some (.bk, E, g)
def sCt : MS := fun E g => some (.ct, E, g)
def sSeq (a b : MS) : MS := fun E g => match a E g with
  | none => none
  | some (.nx, E1, g1) => b E1 g1
  | some r => some r
def sSet (i : Nat) (m : M) : MS := fun E g => match m E g with
  | none => none
  | some (d, g1) => some (.nx, E.set i (.val d), g1)
def sOwn (i : Nat) (m : ML) : MS := fun E g => match m E g with
  | none => none
  | some (ds, g1) => if i < E.length then some (.nx, E.set i (.own ds), g1) else none
def sApp (i : Nat) (m : M) : MS := fun E g => match m E g with
  | none => none
  | some (d, g1) => match E[i]? with
    | some (.own ds) => if ds.length < sizeLine then some (.nx, E.set i (.own (ds ++ [d])), g1) else none
    | _ => none
def sDrop (m : M) : MS := fun E g => match m E g with
  | none => none
  | some (_, g1) => some (.nx, E, g1)
def sRet (m : M) : MS := fun E g => match m E g with
  | none => none
  | some (d, g1) => some (.ret d, E, g1)
def sRetN : MS := fun E g => some (.ret .none, E, g)
def sIf (c : MT) (a b : MS) : MS := fun E g => match c E g with
  | none => none
  | some (true, g1) => a E g1
  | some (false, g1) => b E g1
def sAsg (tg : Tg) (m : M) : MS := fun E g => match m E g with
  | none => none
  | some (d, g1) => match tg.parts d with
    | none => none
    | some ps => some (.nx, setsE ps E, g1)
def sPar (is : List Nat) (m : ML) : MS := fun E g => match m E g with
  | none => none
  | some (ds, g1) => if is.length = ds.length then some (.nx, setsE (is.zip ds) E, g1) else none
def sAug (i : Nat) (h : D → D → Option D) (m : M) : MS := fun E g => match E[i]? with
  | some (.val x) => match m E g with
    | none => none
    | some (y, g1) => match h x y with
      | none => none
      | some z => some (.nx, E.set i (.val z), g1)
  | _ => none
def sFrz (i : Nat) (m : MS) : MS := fun E g => match E[i]? with
  | some (.own ds) => m (E.set i (.val (.list ds))) g
  | _ => none
def forL (tg : Tg) (b : MS) : List D → MS
  | [], E, g => some (.nx, E, g)
  | d :: r, E, g => match tg.parts d with
    | none => none
    | some ps => match b (setsE ps E) g with
      | none => none
      | some (.nx, E1, g1) => forL tg b r E1 g1
      | some (.ct, E1, g1) => forL tg b r E1 g1
      | some (.bk, E1, g1) => some (.nx, E1, g1)
      | some (.ret x, E1, g1) => some (.ret x, E1, g1)
def sFor (tg : Tg) (m : ML) (b : MS) : MS := fun E g => match m E g with
  | none => none
  | some (ds, g1) => forL tg b ds E g1
def whL (c : MT) (b : MS) : Nat → MS
  | 0, _, _ => none
  | n + 1, E, g => match c E g with
    | none => none
    | some (false, g1) => some (.nx, E, g1)
    | some (true, g1) => match b E g1 with
      | none => none
      | some (.nx, E1, g2) => whL c b n E1 g2
      | some (.ct, E1, g2) => whL c b n E1 g2
      | some (.bk, E1, g2) => some (.nx, E1, g2)
      | some (.ret x, E1, g2) => some (.ret x, E1, g2)
def sWhile (fu : En → G → Nat) (c : MT) (b : MS) : MS := fun E g => whL c b (fu E g) E g
section
variable {k : Kx} {f : Fx} {ex : List (V × D)} {X : Cx} {pos p2 : Pos} {e : Expr} {st : Stmt} {sts ss : List Stmt} {m : M} {ml : ML} {a b : MS} {c : MT}
theorem dss_nil : PSs X [] (tS k f ex sNx) := pss_of pss_nil fun Dn σ H ⟨E, μ, g, r, I, e, q⟩ => by cases e; exact q σ μ H I
theorem ds_pass : PS X (.Pass pos) (tS k f ex sNx) := ps_of ps_pass fun Dn σ H ⟨E, μ, g, r, I, e, q⟩ => by cases e; exact q σ μ H I
theorem ds_break : PS X (.Break pos) (tS k f ex sBk) := ps_of ps_break fun Dn σ H ⟨E, μ, g, r, I, e, q⟩ => by cases e; exact q σ μ H I
theorem ds_cont : PS X (.Continue pos) (tS k f ex sCt) := ps_of ps_continue fun Dn σ H ⟨E, μ, g, r, I, e, q⟩ => by cases e; exact q σ μ H I
/-- code that is never come to -/
def sNo : MS := fun _ _ => none
theorem dss_no : PSs X sts (tS k f ex sNo) := pss_of pss_never fun Dn σ H ⟨E, μ, g, r, I, e, q⟩ => by cases e
theorem ds_no : PS X st (tS k f ex sNo) := ps_of ps_never fun Dn σ H ⟨E, μ, g, r, I, e, q⟩ => by cases e
theorem dss_cons (h1 : PS X st (tS k f ex a)) (h2 : PSs X sts (tS k f ex b)) : PSs X (st :: sts) (tS k f ex (sSeq a b)) := pss_of (pss_cons h1 h2) fun Dn σ H ⟨E, μ, g, r, I, e, q⟩ => by
  unfold sSeq at e
  split at e
  · cases e
  · rename_i E1 g1 h
    exact ⟨E, μ, g, _, I, h, fun σ1 μ1 H1 I1 => ⟨E1, μ1, g1, r, I1, e, q⟩⟩
  · rename_i r1 hr h
    cases e
    refine ⟨E, μ, g, _, I, h, ?_⟩
    obtain ⟨fl, E1, g1⟩ := r
    cases fl with
    | nx => exact absurd rfl (hr E1 g1)
    | bk => exact q
    | ct => exact q
    | ret d => exact q
theorem dss_one (h1 : PS X st (tS k f ex a)) : PSs X [st] (tS k f ex a) := pss_one h1
theorem ds_set {i : Nat} {x : Str} {pos' : Pos} (hN : X.N.Nodup) (hi : X.N[i]? = some x) (hx : Loc X.env.scope x) (he : PE X e (tE k f true m)) (hs : swapsWith e (some (.Name x pos')) pos.line X.env = pure false := by rfl) (hf : X.fn x = true ∨ X.env.scope.names.lookup x = some .local := by first | exact .inl rfl | exact .inr rfl | assumption) :
    PS X (.Assign [.Name x pos'] e pos) (tS k f ex (sSet i m)) := ps_of (ps_set hN hi hx he hs hf) fun Dn σ H ⟨E, μ, g, r, I, e, q⟩ => by
  unfold sSet at e
  split at e
  · cases e
  · rename_i d g1 h
    cases e
    exact ⟨ex, E, μ, g, d, g1, I, h, fun v H1 p1 r1 => q _ μ H1 ((I.step p1).setVal i r1)⟩
theorem ds_own {i : Nat} {x : Str} {pos' : Pos} (hN : X.N.Nodup) (hi : X.N[i]? = some x) (hx : Loc X.env.scope x) (he : PE X e (tN k f true ml)) (hs : swapsWith e (some (.Name x pos')) pos.line X.env = pure false := by rfl) (hf : X.fn x = true ∨ X.env.scope.names.lookup x = some .local := by first | exact .inl rfl | exact .inr rfl | assumption) :
    PS X (.Assign [.Name x pos'] e pos) (tS k f ex (sOwn i ml)) := ps_of (ps_set hN hi hx he hs hf) fun Dn σ H ⟨E, μ, g, r, I, e, q⟩ => by
  unfold sOwn at e
  split at e
  · cases e
  · rename_i d g1 h
    split at e
    · rename_i hl
      cases e
      exact ⟨ex, E, μ, g, d, g1, I, h, fun p vs H1 p1 hp r1 => q _ _ _ ((I.step p1).setOwn i hl hp r1)⟩
    · cases e
theorem ds_app {i : Nat} {x : Str} {p p3 : Pos} (hN : X.N[i]? = some x) (he : PE X e (tE k f true m)) (hv : Vis X.env.scope x := by first | exact Or.inl rfl | exact Or.inr (Or.inl rfl) | exact Or.inr (Or.inr rfl)) (hd : (x == ("__debug__" : Str)) = false := by decide)
    (hcd : (x == ("__classdict__" : Str)) = false := by decide) (h0 : starEach [e] X.env = (false, eval e X.env) :: starEach [] X.env := by rfl) (hb : ∀ {t}, PE X (.Call (.Attribute (.Name x p) "append" p2) [e] [] p3) t → PE X (.Call (.Attribute (.Name x p) "append" p2) [e] [] p3) t := by exact fun h => h)
    (hm : PE X (.Call (.Attribute (.Name x p) "append" p2) [e] [] p3) (tBM X.K "list" rAppend (tVar i) (tCons (tE k f true m) tNil))) (hs : swapsWith (.Call (.Attribute (.Name x p) "append" p2) [e] [] p3) none pos.line X.env = pure false := by rfl) :
    PS X (.Expr (.Call (.Attribute (.Name x p) "append" p2) [e] [] p3) pos) (tS k f ex (sApp i m)) := ps_of (ps_expr hm hs) fun Dn σ H ⟨E, μ, g, r, I, e, q⟩ => by
  unfold sApp at e
  split at e
  · cases e
  · rename_i d g1 h
    split at e
    · rename_i ds hi
      split at e
      · rename_i hl
        cases e
        obtain ⟨s1, s2, s3, ws, s4, s5⟩ := I.own i ds hi
        refine ⟨_, s1, .inl ⟨rfl, _, .inl (.inl s4)⟩, ex, E, μ, g, d, g1, I, h, fun v H1 p1 r1 => ?_⟩
        have I1 := I.step p1
        obtain ⟨t1, t2, t3, us, t4, t5⟩ := I1.own i ds hi
        refine ⟨_, us, v, rfl, rfl, t4, by rw [t5.length]; exact hl, ?_⟩
        exact q _ μ _ (I1.write hi (t5.append (.cons r1 .nil)))
      · cases e
    · cases e
theorem ds_drop (he : PE X e (tE k f true m)) (hs : swapsWith e none pos.line X.env = pure false := by rfl) : PS X (.Expr e pos) (tS k f ex (sDrop m)) := ps_of (ps_expr he hs) fun Dn σ H ⟨E, μ, g, r, I, e, q⟩ => by
  unfold sDrop at e
  split at e
  · cases e
  · rename_i d g1 h
    cases e
    exact ⟨ex, E, μ, g, d, g1, I, h, fun v H1 p1 r1 => q _ μ _ (I.step p1)⟩
theorem ds_ret (he : PE X e (tE k f false m)) : PS X (.Return (some e) pos) (tS k f ex (sRet m)) := ps_of (ps_ret he) fun Dn σ H ⟨E, μ, g, r, I, e, q⟩ => by
  unfold sRet at e
  split at e
  · cases e
  · rename_i d g1 h
    cases e
    exact ⟨ex, E, μ, g, d, g1, I, h, fun v H1 p1 r1 => q v H1 (I.fr.trans p1.fr) p1.ga (r1.shrink fun b z => .inl z)⟩
theorem ds_retN : PS X (.Return none pos) (tS k f ex sRetN) := ps_of ps_retN fun Dn σ H ⟨E, μ, g, r, I, e, q⟩ => by
  cases e
  exact q _ H I.fr I.ga .non
theorem ds_if {t : Expr} (hc : PT X t (tT k f c)) (ha : PSs X ss (tS k f ex a)) (hb : PSs X sts (tS k f ex b)) : PS X (.If t ss sts pos) (tS k f ex (sIf c a b)) := ps_of (ps_if hc ha hb) fun Dn σ H ⟨E, μ, g, r, I, e, q⟩ => by
  unfold sIf at e
  split at e
  · cases e
  · rename_i g1 h
    exact ⟨ex, E, μ, g, _, g1, I, h, fun H1 p1 => iteT ⟨E, μ, g1, r, I.step p1, e, q⟩⟩
  · rename_i g1 h
    exact ⟨ex, E, μ, g, _, g1, I, h, fun H1 p1 => iteF ⟨E, μ, g1, r, I.step p1, e, q⟩⟩
theorem ds_asg {tgE : Expr} {tg : Tg} (he : PE X e (tE k f true m)) (hg : PG X tgE (tG k f tg)) (hs : swapsWithSole [tgE] e pos.line X.env = pure false := by rfl) (hw : swappedStores [tgE] e X.env = pure none := by rfl)
    (h1 : (assignEach [tgE] X.env).map (·.2) = [assign tgE X.env] := by rfl) : PS X (.Assign [tgE] e pos) (tS k f ex (sAsg tg m)) := ps_of (ps_asg he hg hs hw h1) fun Dn σ H ⟨E, μ, g, r, I, e, q⟩ => by
  unfold sAsg at e
  split at e
  · cases e
  · rename_i d g1 h
    split at e
    · cases e
    · rename_i ps hp
      cases e
      exact ⟨ex, E, μ, g, d, g1, I, h, fun v H1 p1 r1 => ⟨ex, E, μ, g1, d, ps, I.step p1, r1, hp, fun vs rv => q _ μ _ ((I.step p1).sets ps rv)⟩⟩
theorem ds_par2 {i j : Nat} {x y : Str} {e1 e2 : Expr} {px py pt : Pos} {kt k2 : Nat} {pt2 : Pos} (hc : X.calm = true) (hN : X.N.Nodup) (hi : X.N[i]? = some x) (hj : X.N[j]? = some y) (hij : i ≠ j)
    (hx : X.env.scope.names.lookup x = some .local) (hy : X.env.scope.names.lookup y = some .local) (ha : PA X [e1, e2] (tL k f true ml))
    (hw : swappedStores [.Tuple [.Name x px, .Name y py] kt pt] (.Tuple [e1, e2] k2 pt2) X.env = pure (some [x, y]))
    (hs : swapsWithSole [.Tuple [.Name x px, .Name y py] kt pt] (.Tuple [e1, e2] k2 pt2) pos.line X.env = pure false := by rfl) :
    PS X (.Assign [.Tuple [.Name x px, .Name y py] kt pt] (.Tuple [e1, e2] k2 pt2) pos) (tS k f ex (sPar [i, j] ml)) := ps_of (ps_par hc hN hi hj hij hx hy ha hw hs) fun Dn σ H ⟨E, μ, g, r, I, e, q⟩ => by
  unfold sPar at e
  split at e
  · cases e
  · rename_i ds g1 h
    split at e
    · rename_i hl
      cases e
      refine ⟨ex, E, μ, g, ds, g1, I, h, fun vs H1 p1 r1 => ?_⟩
      have hv := r1.length
      match ds, hl, vs, r1, hv with
      | [d1, d2], _, [v1, v2], r1, _ => exact ⟨v1, v2, rfl, q _ μ _ ((I.step p1).sets [(i, d1), (j, d2)] r1)⟩
    · cases e
theorem ds_par3 {i j l : Nat} {x y z : Str} {e1 e2 e3 : Expr} {px py pz pt : Pos} {kt k2 : Nat} {pt2 : Pos} (hc : X.calm = true) (hN : X.N.Nodup) (hi : X.N[i]? = some x) (hj : X.N[j]? = some y) (hl : X.N[l]? = some z) (hij : i ≠ j) (hil : i ≠ l) (hjl : j ≠ l)
    (hx : X.env.scope.names.lookup x = some .local) (hy : X.env.scope.names.lookup y = some .local) (hz : X.env.scope.names.lookup z = some .local) (ha : PA X [e1, e2, e3] (tL k f true ml))
    (hw : swappedStores [.Tuple [.Name x px, .Name y py, .Name z pz] kt pt] (.Tuple [e1, e2, e3] k2 pt2) X.env = pure (some [x, y, z]))
    (hs : swapsWithSole [.Tuple [.Name x px, .Name y py, .Name z pz] kt pt] (.Tuple [e1, e2, e3] k2 pt2) pos.line X.env = pure false := by rfl) :
    PS X (.Assign [.Tuple [.Name x px, .Name y py, .Name z pz] kt pt] (.Tuple [e1, e2, e3] k2 pt2) pos) (tS k f ex (sPar [i, j, l] ml)) := ps_of (ps_par3 hc hN hi hj hl hij hil hjl hx hy hz ha hw hs) fun Dn σ H ⟨E, μ, g, r, I, e, q⟩ => by
  unfold sPar at e
  split at e
  · cases e
  · rename_i ds g1 h
    split at e
    · rename_i hl
      cases e
      refine ⟨ex, E, μ, g, ds, g1, I, h, fun vs H1 p1 r1 => ?_⟩
      have hv := r1.length
      match ds, hl, vs, r1, hv with
      | [d1, d2, d3], _, [v1, v2, v3], r1, _ => exact ⟨v1, v2, v3, rfl, q _ μ _ ((I.step p1).sets [(i, d1), (j, d2), (l, d3)] r1)⟩
    · cases e
theorem ds_aug {i : Nat} {x : Str} {op : Operator} {r : R2} {h : D → D → Option D} {pos' : Pos} (hN : X.N.Nodup) (hi : X.N[i]? = some x) (hx : Loc X.env.scope x) (he : PE X e (tE k f true m)) (ho : OpR X (inplaceOp op) r) (hr : OpD k r h)
    (hf : X.fn x = true ∨ X.env.scope.names.lookup x = some .local := by first | exact .inl rfl | exact .inr rfl | assumption) : PS X (.AugAssign (.Name x pos') op e pos) (tS k f ex (sAug i h m)) :=
  ps_of (ps_aug (ti := r) hN hi hx he (fun pins s σ H x y v u Q I r1 r2 w => ho pins s σ H x y v u Q I r1 r2 w) hf) fun Dn σ H ⟨E, μ, g, rr, I, e, q⟩ => by
  unfold sAug at e
  split at e
  · rename_i x0 hx0
    split at e
    · cases e
    · rename_i y g1 h1
      split at e
      · cases e
      · rename_i z hz
        cases e
        obtain ⟨v0, hv, rv⟩ := I.val i x0 hx0
        refine ⟨v0, hv, ex, E, μ, g, y, g1, I, h1, fun u H1 p1 r1 => ?_⟩
        have I1 := I.step p1
        refine hr (BE f true E μ) H1 v0 u x0 y z _ (fun b z => I1.be true z) (rv.step (I.hb true) p1.fr) r1 hz fun w H2 s2 r2 => ?_
        exact q _ μ _ ((I1.step (.same s2 I1.ga)).setVal i r2)
  · cases e
theorem dss_frz {i : Nat} (h : PSs X sts (tS k f ex a)) : PSs X sts (tS k f ex (sFrz i a)) := pss_of h fun Dn σ H ⟨E, μ, g, r, I, e, q⟩ => by
  unfold sFrz at e
  split at e
  · rename_i ds hi
    exact ⟨_, μ, g, r, I.freeze hi, e, q⟩
  · cases e
theorem ds_while {t : Expr} {fu : En → G → Nat} (hp : PassesOwn (model X.prog X.w) X.A X.env X.xe) (hc : PT X t (tT k f c)) (hb : PSs X sts (tS k f ex b)) : PS X (.While t sts [] pos) (tS k f ex (sWhile fu c b)) := ps_of (ps_while hp hc hb) fun Dn σ H ⟨E, μ, g, r, I, e, q⟩ => by
  refine ⟨fun m σ H => ∃ E μ g, Ist k f ex E μ g σ H ∧ whL c b m E g = some r, ⟨fu E g, E, μ, g, I, e⟩, ?_⟩
  rintro m σ H ⟨E, μ, g, I, e⟩
  cases m with
  | zero => cases e
  | succ m =>
    unfold whL at e
    split at e
    · cases e
    · rename_i g1 h
      cases e
      exact ⟨ex, E, μ, g, _, g1, I, h, fun H1 p1 => iteF (q σ μ H1 (I.step p1))⟩
    · rename_i g1 h
      refine ⟨ex, E, μ, g, _, g1, I, h, fun H1 p1 => iteT ⟨fun σ H => ∃ E μ g, Ist k f ex E μ g σ H ∧ whL c b m E g = some r, fun σ' H' w => ⟨m, Nat.lt_succ_self m, w⟩, ?_⟩⟩
      split at e
      · cases e
      · rename_i E1 g2 h2
        exact ⟨E, μ, g1, _, I.step p1, h2, fun σ2 μ2 H2 I2 => ⟨E1, μ2, g2, I2, e⟩⟩
      · rename_i E1 g2 h2
        exact ⟨E, μ, g1, _, I.step p1, h2, fun σ2 μ2 H2 I2 => ⟨E1, μ2, g2, I2, e⟩⟩
      · rename_i E1 g2 h2
        cases e
        exact ⟨E, μ, g1, _, I.step p1, h2, fun σ2 μ2 H2 I2 => q σ2 μ2 H2 I2⟩
      · rename_i x E1 g2 h2
        cases e
        exact ⟨E, μ, g1, _, I.step p1, h2, fun v H2 h1 h3 h4 => q v H2 h1 h3 h4⟩
theorem ds_for {tgE it : Expr} {tg : Tg} (hp : PassesOwn (model X.prog X.w) X.A X.env X.xe) (hc : X.calm = true) (hi : PI X tgE it (tI k f ml)) (hg : PG X tgE (tG k f tg)) (hb : ∀ ex, PSs X sts (tS k f ex b))
    (hs : ∀ x, foldedSetIterable it X.env x = pure x := by intro _; rfl) : PS X (.For tgE it sts [] pos) (tS k f ex (sFor tg ml b)) := by
  refine ps_of (ps_for (tb := fun Dn σ H => ∃ pn, tS k f (pn ++ ex) b Dn σ H) hp hc hi hg ⟨fun pins s σ H Dn I ⟨pn, w⟩ => (hb (pn ++ ex)).run pins s σ H Dn I w⟩ hs) fun Dn σ H ⟨E, μ, g, r, I, e, q⟩ => ?_
  unfold sFor at e
  split at e
  · cases e
  · rename_i ds g1 h1
    refine ⟨ex, E, μ, g, ds, g1, I, h1, fun J pn H1 p1 hpn hw => ?_⟩
    have I0 : Ist k f (pn ++ ex) E μ g1 σ H1 := (I.step p1).exS fun p hp => (List.mem_append.mp hp).elim (hpn p) ((I.step p1).exs p)
    have out : ∀ {E' : En} {μ' : Nat → Addr} {g' : G} {σ' : L2.St} {H' : Hp}, Ist k f (pn ++ ex) E' μ' g' σ' H' → Ist k f ex E' μ' g' σ' H' := fun I' => I'.exS fun p hp => I'.exs p (List.mem_append_right _ hp)
    refine ⟨fun i m σ H => i ≤ ds.length ∧ m = ds.length - i ∧ ∃ E μ g, Ist k f (pn ++ ex) E μ g σ H ∧ forL tg b (ds.drop i) E g = some r, ⟨ds.length, Nat.zero_le _, rfl, E, μ, g1, I0, e⟩, ?_⟩
    rintro i m σ H ⟨hi, rfl, E, μ, g, I, e⟩
    obtain ⟨w1, w2⟩ := hw (BE f true E μ) H (fun b z => I.be true z) (fun p hp => I.exs p (List.mem_append_left _ hp))
    by_cases hl : i < ds.length
    · rw [List.drop_eq_getElem_cons hl] at e
      unfold forL at e
      obtain ⟨go, yl⟩ := w2 i ds[i] (List.getElem?_eq_getElem hl)
      refine .inr ⟨go, fun σ H => ∃ E μ g, Ist k f (pn ++ ex) E μ g σ H ∧ forL tg b (ds.drop (i + 1)) E g = some r, fun σ' H' w => ⟨ds.length - (i + 1), by omega, hl, rfl, w⟩, fun x H' hy => ?_⟩
      obtain ⟨sm, rx⟩ := yl x H' hy
      have I2 := I.step (.same sm I.ga)
      split at e
      · cases e
      · rename_i ps hps
        refine ⟨_, E, μ, g, _, ps, I2, rx, hps, fun vs rv => ⟨pn, ?_⟩⟩
        have I3 := I2.sets ps rv
        split at e
        · cases e
        · rename_i E1 g2 h2
          exact ⟨_, μ, g, _, I3, h2, fun σ2 μ2 H2 I4 => ⟨E1, μ2, g2, I4, e⟩⟩
        · rename_i E1 g2 h2
          exact ⟨_, μ, g, _, I3, h2, fun σ2 μ2 H2 I4 => ⟨E1, μ2, g2, I4, e⟩⟩
        · rename_i E1 g2 h2
          cases e
          exact ⟨_, μ, g, _, I3, h2, fun σ2 μ2 H2 I4 => q σ2 μ2 H2 (out I4)⟩
        · rename_i x E1 g2 h2
          cases e
          exact ⟨_, μ, g, _, I3, h2, fun v H2 h1 h3 h4 => q v H2 h1 h3 h4⟩
    · have hi' : i = ds.length := by omega
      subst hi'
      rw [List.drop_length] at e
      cases e
      exact .inl ⟨w1 _ (Nat.le_refl _), q σ μ H (out I)⟩
end
end DL

set_option Elab.async false
set_option linter.all false
set_option maxRecDepth 100000
set_option maxHeartbeats 1000000
namespace DL
open PySem PySem.Spec PyProof.Rows L2
/-! ### list comprehensions -/
def wipeE (E : En) : List Nat → En
  | [] => E
  | v :: vs => (wipeE E vs).set v .no
def isOwn (E : En) (i : Nat) : Bool := match E[i]? with
  | some (.own _) => true
  | _ => false
/-- the turns: E is the block's start -/
def lcL (tg : Tg) (c : MT) (e : M) (E : En) : List D → G → Option (List D × G)
  | [], g => some ([], g)
  | d :: r, g => match tg.parts d with
    | none => none
    | some ps => match c (setsE ps E) g with
      | none => none
      | some (false, g1) => lcL tg c e E r g1
      | some (true, g1) => match e (setsE ps E) g1 with
        | none => none
        | some (x, g2) => match lcL tg c e E r g2 with
          | none => none
          | some (xs, g3) => some (x :: xs, g3)
def Tg.slots : Tg → List Nat
  | .one i => [i]
  | .many is => is
  | .manyL is => is
def nLc (tg : Tg) (ml : ML) (c : MT) (e : M) (vs : List Nat) : ML := fun E g => if (vs.any (isOwn E) || !(tg.slots.all fun i => vs.contains i)) = true then none else match ml E g with
  | none => none
  | some (ds, g1) => if ds.length ≤ sizeLine then lcL tg c e (wipeE E vs) ds g1 else none
def mYes : MT := fun _ g => some (true, g)
section
variable {k : Kx} {f : Fx} {ex : List (V × D)} {E : En} {μ : Nat → Addr} {g : G} {σ : L2.St} {H : Hp}
theorem isOwn_iff {i : Nat} {ds : List D} (h : E[i]? = some (Sl.own ds)) : isOwn E i = true := by unfold isOwn; rw [h]
theorem Ist.setNo (I : Ist k f ex E μ g σ H) (i : Nat) (h : isOwn E i = false) : Ist k f ex (E.set i .no) μ g (σ.set i none) H ∧ ∀ sm b, BE f sm (E.set i .no) μ b ↔ BE f sm E μ b := by
  have own1 : ∀ j ds, (E.set i .no)[j]? = some (Sl.own ds) → j ≠ i ∧ E[j]? = some (Sl.own ds) := fun j ds e => by
    by_cases hj : i = j
    · subst hj
      by_cases hl : i < E.length
      · rw [List.getElem?_set_self hl] at e; cases e
      · rw [List.getElem?_eq_none (by simpa using hl)] at e; cases e
    · rw [List.getElem?_set_ne hj] at e; exact ⟨fun z => hj z.symm, e⟩
  have be : ∀ sm b, BE f sm (E.set i .no) μ b ↔ BE f sm E μ b := fun sm b => by
    constructor
    · exact fun z => z.imp id fun ⟨s, j, ds, e, q⟩ => ⟨s, j, ds, (own1 j ds e).2, q⟩
    · refine fun z => z.imp id fun ⟨s, j, ds, e, q⟩ => ⟨s, j, ds, ?_, q⟩
      have hj : i ≠ j := fun z => by
        subst z
        rw [isOwn_iff e] at h
        cases h
      rw [List.getElem?_set_ne hj]
      exact e
  refine ⟨⟨by rw [List.length_set, List.length_set]; exact I.len, fun j d e => ?_, fun j ds e => ?_, fun a b p q h1 h2 e => I.inj a b p q (own1 a p h1).2 (own1 b q h2).2 e, fun p hp => (I.exs p hp).shrink fun b => (be true b).mp, I.ga, I.fr, I.b0, I.bo⟩, be⟩
  · by_cases hj : i = j
    · subst hj
      by_cases hl : i < E.length
      · rw [List.getElem?_set_self hl] at e; cases e
      · rw [List.getElem?_eq_none (by simpa using hl)] at e; cases e
    · rw [List.getElem?_set_ne hj] at e
      obtain ⟨u, h1, h2⟩ := I.val j d e
      exact ⟨u, by rw [List.getElem?_set_ne hj]; exact h1, h2.shrink fun b => (be true b).mp⟩
  · obtain ⟨hj, e⟩ := own1 j ds e
    obtain ⟨h1, h2, h3, us, h4, h5⟩ := I.own j ds e
    exact ⟨by rw [List.getElem?_set_ne (Ne.symm hj)]; exact h1, h2, h3, us, h4, h5.shrink fun b => (be true b).mp⟩
theorem isOwn_set {i j : Nat} (h : isOwn E j = false) : isOwn (E.set i .no) j = false := by
  unfold isOwn at *
  by_cases hj : i = j
  · subst hj
    by_cases hl : i < E.length
    · rw [List.getElem?_set_self hl]
    · rw [List.getElem?_eq_none (by simpa using hl)]
  · rw [List.getElem?_set_ne hj]; exact h
theorem isOwn_wipe {j : Nat} (h : isOwn E j = false) : ∀ vs : List Nat, isOwn (wipeE E vs) j = false
  | [] => h
  | v :: vs => isOwn_set (isOwn_wipe h vs)
theorem Ist.wipe (I : Ist k f ex E μ g σ H) : ∀ (vs : List Nat), (∀ v ∈ vs, isOwn E v = false) → Ist k f ex (wipeE E vs) μ g (L2.wipe σ vs) H ∧ ∀ sm b, BE f sm (wipeE E vs) μ b ↔ BE f sm E μ b
  | [], _ => ⟨I, fun _ _ => Iff.rfl⟩
  | v :: vs, h => by
    obtain ⟨I1, b1⟩ := Ist.wipe I vs fun w hw => h w (List.mem_cons_of_mem _ hw)
    obtain ⟨I2, b2⟩ := I1.setNo v (isOwn_wipe (h v List.mem_cons_self) vs)
    exact ⟨I2, fun sm b => (b2 sm b).trans (b1 sm b)⟩
theorem wipe_isNo : ∀ (vs : List Nat) {i : Nat}, i ∈ vs → isOwn (wipeE E vs) i = false
  | v :: vs, i, h => by
    by_cases e : v = i
    · subst e
      unfold isOwn wipeE
      by_cases hl : v < (wipeE E vs).length
      · rw [List.getElem?_set_self hl]
      · rw [List.getElem?_eq_none (by simpa using hl)]
    · exact isOwn_set (wipe_isNo vs (by rcases List.mem_cons.mp h with z | z; exact absurd z.symm e; exact z))
theorem BE.sets : ∀ (ps : List (Nat × D)) {E : En}, (∀ p ∈ ps, isOwn E p.1 = false) → ∀ sm b, BE f sm (setsE ps E) μ b ↔ BE f sm E μ b
  | [], _, _ => fun _ _ => Iff.rfl
  | (i, d) :: ps, E, h => fun sm b => by
    have h0 : isOwn E i = false := h (i, d) List.mem_cons_self
    have h1 : ∀ p ∈ ps, isOwn (E.set i (.val d)) p.1 = false := fun p hp => by
      have := h p (List.mem_cons_of_mem _ hp)
      unfold isOwn at this ⊢
      by_cases hj : i = p.1
      · rw [hj]
        by_cases hl : p.1 < E.length
        · rw [List.getElem?_set_self hl]
        · rw [List.getElem?_eq_none (by simpa using hl)]
      · rw [List.getElem?_set_ne hj]; exact this
    refine (BE.sets ps h1 sm b).trans ⟨BE.set b, fun z => z.imp id fun ⟨s, j, ds, e, q⟩ => ⟨s, j, ds, ?_, q⟩⟩
    have hj : i ≠ j := fun z => by
      subst z
      rw [isOwn_iff e] at h0
      cases h0
    rw [List.getElem?_set_ne hj]
    exact e
theorem wipe_set (σ : L2.St) {i : Nat} {o : Option V} : ∀ vs : List Nat, i ∈ vs → L2.wipe (σ.set i o) vs = L2.wipe σ vs
  | v :: vs, h => by
    show (L2.wipe (σ.set i o) vs).set v none = (L2.wipe σ vs).set v none
    by_cases hm : i ∈ vs
    · rw [wipe_set σ vs hm]
    · have e : i = v := by
        rcases List.mem_cons.mp h with z | z
        · exact z
        · exact absurd z hm
      subst e
      have out : ∀ (ws : List Nat) (σ : L2.St), i ∉ ws → (L2.wipe (σ.set i o) ws) = (L2.wipe σ ws).set i o := by
        intro ws
        induction ws with
        | nil => intro σ _; rfl
        | cons w ws ih =>
          intro σ hw
          simp only [List.mem_cons, not_or] at hw
          show (L2.wipe (σ.set i o) ws).set w none = ((L2.wipe σ ws).set w none).set i o
          rw [ih σ hw.2, List.set_comm _ _ hw.1]
      rw [out vs σ hm, List.set_set]
theorem wipe_sets : ∀ (ps : List (Nat × V)) (σ : L2.St) (vs : List Nat), (∀ p ∈ ps, p.1 ∈ vs) → L2.wipe (setsS ps σ) vs = L2.wipe σ vs
  | [], _, _, _ => rfl
  | (i, v) :: ps, σ, vs, h => by
    show L2.wipe (setsS ps (σ.set i (some v))) vs = _
    rw [wipe_sets ps _ vs fun p hp => h p (List.mem_cons_of_mem _ hp), wipe_set σ vs (h _ List.mem_cons_self)]
theorem wipe_wipe (σ : L2.St) (vs : List Nat) : L2.wipe (L2.wipe σ vs) vs = L2.wipe σ vs := by
  have h : ∀ (ws : List Nat), (∀ w ∈ ws, w ∈ vs) → L2.wipe (L2.wipe σ ws) vs = L2.wipe σ vs := by
    intro ws
    induction ws with
    | nil => intro _; rfl
    | cons w ws ih =>
      intro hw
      show L2.wipe ((L2.wipe σ ws).set w none) vs = _
      rw [wipe_set _ vs (hw w List.mem_cons_self), ih fun x hx => hw x (List.mem_cons_of_mem _ hx)]
  exact h vs fun _ h => h
theorem parts_slots {tg : Tg} {d : D} {ps : List (Nat × D)} (h : tg.parts d = some ps) : ∀ p ∈ ps, p.1 ∈ tg.slots := by
  unfold Tg.parts at h
  split at h
  · cases h
    intro p hp
    rw [List.mem_singleton.mp hp]
    exact List.mem_singleton.mpr rfl
  · split at h
    · cases h
      intro p hp
      exact (List.of_mem_zip hp).1
    · cases h
  · cases h
  · split at h
    · cases h
      intro p hp
      exact (List.of_mem_zip hp).1
    · cases h
  · cases h
theorem lcL_len {tg : Tg} {c : MT} {e : M} {E : En} : ∀ (ds : List D) (g : G) {r : List D} {g' : G}, lcL tg c e E ds g = some (r, g') → r.length ≤ ds.length
  | [], g, r, g', h => by cases h; exact Nat.le_refl _
  | d :: ds, g, r, g', h => by
    unfold lcL at h
    split at h
    · cases h
    · split at h
      · cases h
      · exact Nat.le_succ_of_le (lcL_len ds _ h)
      · split at h
        · cases h
        · split at h
          · cases h
          · rename_i xs g3 h3
            cases h
            exact Nat.succ_le_succ (lcL_len ds _ h3)
end
/-- D is none of what may be held -/
def Fx.ban (f : Fx) (D : Addr) : Fx := ⟨fun b => f.Bo b ∨ b = D, f.H0⟩
def del (H : Hp) (D : Addr) : Hp := fun b => if b = D then none else H b
theorem del_ne {H : Hp} {D b : Addr} (h : b ≠ D) : del H D b = H b := if_neg h
theorem del_same {H : Hp} {D : Addr} : del H D D = none := if_pos rfl
theorem upd_del {H : Hp} {D : Addr} {o : HO} (h : H D = some o) : upd (del H D) D o = H := by
  funext b
  unfold upd del
  by_cases e : b = D
  · rw [if_pos e, e, h]
  · rw [if_neg e, if_neg e]
theorem BE.ban {f : Fx} {D : Addr} {sm : Bool} {E : En} {μ : Nat → Addr} {b : Addr} : BE (f.ban D) sm E μ b ↔ BE f sm E μ b ∨ b = D := by
  unfold BE Fx.ban
  constructor
  · rintro ((h | h) | h)
    · exact .inl (.inl h)
    · exact .inr h
    · exact .inl (.inr h)
  · rintro ((h | h) | h)
    · exact .inl (.inl h)
    · exact .inr h
    · exact .inl (.inr h)
section
variable {k : Kx} {f : Fx} {ex : List (V × D)} {E : En} {μ : Nat → Addr} {g : G} {σ : L2.St} {H : Hp}
theorem Ist.ban (I : Ist k f ex E μ g σ H) {D : Addr} (hD : H D = none) {xs : List V} : Ist k (f.ban D) ex E μ g σ (upd H D (.lst xs)) := by
  have up : ∀ {v : V} {d : PyData}, Rp k H (BE f true E μ) v d → Rp k (upd H D (.lst xs)) (BE (f.ban D) true E μ) v d := fun {v d} r =>
    Rp.mono (fun b o _ h => by rw [upd_ne (ne_of_none h hD)]; exact h) (fun b o n h z => (BE.ban.mp z).elim n (ne_of_none h hD)) d v r
  have upA : ∀ {v : List V} {d : List PyData}, RpA k H (BE f true E μ) v d → RpA k (upd H D (.lst xs)) (BE (f.ban D) true E μ) v d := fun {v d} r =>
    RpA.mono (fun b o _ h => by rw [upd_ne (ne_of_none h hD)]; exact h) (fun b o n h z => (BE.ban.mp z).elim n (ne_of_none h hD)) d v r
  refine ⟨I.len, fun i d e => ?_, fun i ds e => ?_, I.inj, fun p hp => up (I.exs p hp), I.ga.same (Same.upd hD), fun b o n h => ?_, fun b z => .inl (I.b0 b z), fun b z => ?_⟩
  · obtain ⟨v, h1, h2⟩ := I.val i d e
    exact ⟨v, h1, up h2⟩
  · obtain ⟨h1, h2, h3, vs, h4, h5⟩ := I.own i ds e
    exact ⟨h1, h2, fun z => z.elim h3 (ne_of_none h4 hD), vs, by rw [upd_ne (ne_of_none h4 hD)]; exact h4, upA h5⟩
  · rw [upd_ne (ne_of_none (I.fr b o n h) hD)]
    exact I.fr b o n h
  · rcases z with z | z
    · rw [upd_ne fun e => I.bo b z (by rw [e]; exact hD)]
      exact I.bo b z
    · rw [z, upd_same]
      exact fun q => nomatch q
theorem Ist.banUpd {D : Addr} (I : Ist k (f.ban D) ex E μ g σ H) (nD : ∀ b, B0 k b → b ≠ D) (h0 : f.H0 D = none) {xs : List V} : Ist k (f.ban D) ex E μ g σ (upd H D (.lst xs)) := by
  have up : ∀ {v : V} {d : PyData}, Rp k H (BE (f.ban D) true E μ) v d → Rp k (upd H D (.lst xs)) (BE (f.ban D) true E μ) v d := fun {v d} r =>
    Rp.mono (fun b o n h => by rw [upd_ne (fun e => n (BE.ban.mpr (.inr e)))]; exact h) (fun b o n _ z => n z) d v r
  have upA : ∀ {v : List V} {d : List PyData}, RpA k H (BE (f.ban D) true E μ) v d → RpA k (upd H D (.lst xs)) (BE (f.ban D) true E μ) v d := fun {v d} r =>
    RpA.mono (fun b o n h => by rw [upd_ne (fun e => n (BE.ban.mpr (.inr e)))]; exact h) (fun b o n _ z => n z) d v r
  refine ⟨I.len, fun i d e => ?_, fun i ds e => ?_, I.inj, fun p hp => up (I.exs p hp), ⟨?_, ?_, fun P hP => ?_⟩, fun b o n h => ?_, I.b0, fun b z => ?_⟩
  · obtain ⟨v, h1, h2⟩ := I.val i d e
    exact ⟨v, h1, up h2⟩
  · obtain ⟨h1, h2, h3, vs, h4, h5⟩ := I.own i ds e
    exact ⟨h1, h2, h3, vs, by rw [upd_ne fun e => h3 (.inr e)]; exact h4, upA h5⟩
  · intro ho; rw [upd_ne (nD _ (.inl ⟨ho, rfl⟩))]; exact I.ga.b ho
  · intro ho; rw [upd_ne (nD _ (.inr (.inl ⟨ho, rfl⟩)))]; exact I.ga.c ho
  · obtain ⟨ps, e1, e2⟩ := I.ga.t P hP
    exact ⟨ps, by rw [upd_ne (nD _ (.inr (.inr hP)))]; exact e1, e2⟩
  · have hb : b ≠ D := fun e => by
      have h : f.H0 b = some o := h
      rw [e, h0] at h
      cases h
    rw [upd_ne hb]
    exact I.fr b o n h
  · by_cases hb : b = D
    · rw [hb, upd_same]; exact fun q => nomatch q
    · rw [upd_ne hb]; exact I.bo b z
end
/-- for whatever is banned -/
def tEx (k : Kx) (sm : Bool) (m : M) : TE := fun σ H Q => ∃ f, tE k f sm m σ H Q
def tTx (k : Kx) (c : MT) : TT := fun σ H Q => ∃ f, tT k f c σ H Q
def tGx (k : Kx) (tg : Tg) : TG := fun v σ H Q => ∃ f, tG k f tg v σ H Q
section
variable {k : Kx} {f : Fx} {sm : Bool} {X : Cx} {elt tgE iter : Expr} {ifs : List Expr} {scope : Scope} {own : List (Str × Nat)} {pos : Pos} {tg : Tg} {ml : ML} {c : MT} {m : M}
theorem pe_x {e : Expr} (h : ∀ f, PE X e (tE k f sm m)) : PE X e (tEx k sm m) := ⟨fun pins s σ H Q I ⟨f, q⟩ => (h f).run pins s σ H Q I q⟩
theorem pg_x {e : Expr} (h : ∀ f, PG X e (tG k f tg)) : PG X e (tGx k tg) := ⟨fun pins s σ H v u Q I r ⟨f, q⟩ => (h f).run pins s σ H v u Q I r q⟩
theorem pts_x {e : Expr} (h : ∀ f, PT X e (tT k f c)) : PTs X [e] (tTx k c) := ⟨fun pins s σ H Q I ⟨f, q⟩ => (pts_one (h f)).run pins s σ H Q I q⟩
theorem pts_y : PTs X [] (tTx k mYes) := ⟨fun pins s σ H Q I ⟨f, ex, E, μ, g, b, g', J, e, q⟩ => by
  cases e
  exact pts_nil.run pins s σ H Q I (q H (.same (.refl H) J.ga))⟩
theorem t_lc {σ : L2.St} {H : Hp} {Q : VK} (w : tN k f sm (nLc tg ml c m (own.map (·.2))) σ H Q) : tLc (tI k f ml) (tGx k tg) (tTx k c) (tEx k sm m) (own.map (·.2)) σ H Q := by
  obtain ⟨ex, E, μ, g, ds, g', I, e, q⟩ := w
  generalize hvs : own.map (·.2) = vs at *
  unfold nLc at e
  split at e
  · cases e
  · rename_i hc
    have hc1 : ∀ v ∈ vs, isOwn E v = false := fun v hv => by
      cases h : isOwn E v with
      | false => rfl
      | true => exact absurd (by rw [Bool.or_eq_true]; exact .inl (List.any_eq_true.mpr ⟨v, hv, h⟩)) hc
    have hc2 : ∀ i ∈ tg.slots, i ∈ vs := fun i hi => by
      by_cases h : (tg.slots.all fun i => vs.contains i) = true
      · exact List.contains_iff_mem.mp (List.all_eq_true.mp h i hi)
      · exact absurd (by rw [Bool.or_eq_true]; right; simpa using h) hc
    split at e
    · cases e
    · rename_i its g1 h1
      split at e
      · rename_i hlen
        refine ⟨ex, E, μ, g, its, g1, I, h1, fun J pn H1 p1 hpn hw D hD => ?_⟩
        have I1 := (I.step p1).exS (ex' := pn ++ ex) fun p hp => (List.mem_append.mp hp).elim (hpn p) ((I.step p1).exs p)
        obtain ⟨I2, be⟩ := I1.wipe vs hc1
        have I2b := I2.ban (D := D) (xs := []) hD
        have nD : ∀ b, B0 k b → b ≠ D := fun b hb e => I1.ga.has hb (by rw [e]; exact hD)
        have h0D : f.H0 D = none := by
          cases h0 : f.H0 D with
          | none => rfl
          | some o =>
            by_cases hb : B0 k D
            · exact absurd rfl (nD D hb)
            · rw [I1.fr D o hb h0] at hD
              cases hD
        have be' : ∀ sm b, BE (f.ban D) sm (wipeE E vs) μ b ↔ BE (f.ban D) sm E μ b := fun sm b => by rw [BE.ban, BE.ban, be sm b]
        refine ⟨fun i n H2 => i ≤ its.length ∧ n = its.length - i ∧ ∃ g2 acc vacc rest, Ist k (f.ban D) (pn ++ ex) (wipeE E vs) μ g2 (L2.wipe σ vs) H2 ∧ Fr0 k (upd H1 D (.lst [])) (upd H2 D (.lst [])) ∧ H2 D = some (.lst vacc) ∧
            RpA k H2 (BE (f.ban D) sm E μ) vacc acc ∧ acc.length ≤ i ∧ lcL tg c m (wipeE E vs) (its.drop i) g2 = some (rest, g') ∧ ds = acc ++ rest, ?_, ?_⟩
        · exact ⟨its.length, Nat.zero_le _, rfl, g1, [], [], ds, I2b, by rw [upd_upd]; exact .refl k _, upd_same, .nil, Nat.le_refl _, e, rfl⟩
        · rintro i n H2 ⟨hi, rfl, g2, acc, vacc, rest, I3, fr, hDl, ra, hal, el, rfl⟩
          obtain ⟨w1, w2⟩ := hw (BE (f.ban D) true (wipeE E vs) μ) H2 (fun b z => I3.be true z) (fun p hp => I3.exs p (List.mem_append_left _ hp))
          by_cases hl : i < its.length
          · rw [List.drop_eq_getElem_cons hl] at el
            unfold lcL at el
            obtain ⟨go, yl⟩ := w2 i its[i] (List.getElem?_eq_getElem hl)
            refine .inr ⟨go, fun H' => i + 1 ≤ its.length ∧ ∃ g2 acc' vacc' rest', Ist k (f.ban D) (pn ++ ex) (wipeE E vs) μ g2 (L2.wipe σ vs) H' ∧ Fr0 k (upd H1 D (.lst [])) (upd H' D (.lst [])) ∧ H' D = some (.lst vacc') ∧
              RpA k H' (BE (f.ban D) sm E μ) vacc' acc' ∧ acc'.length ≤ i + 1 ∧ lcL tg c m (wipeE E vs) (its.drop (i + 1)) g2 = some (rest', g') ∧ acc ++ rest = acc' ++ rest', fun H' hN => ⟨its.length - (i + 1), by omega, hN.1, rfl, hN.2⟩, fun x H3 hy => ?_⟩
            obtain ⟨s3, rx⟩ := yl x H3 hy
            have I4 := I3.step (.same s3 I3.ga)
            split at el
            · cases el
            · rename_i ps hps
              have hsl : ∀ p ∈ ps, p.1 ∈ vs := fun p hp => hc2 _ (parts_slots hps p hp)
              refine ⟨f.ban D, _, _, μ, g2, _, ps, I4, rx, hps, fun us ru => ?_⟩
              have I5 := I4.sets ps ru
              have beS : ∀ sm b, BE (f.ban D) sm (setsE ps (wipeE E vs)) μ b ↔ BE (f.ban D) sm E μ b := fun sm b =>
                (BE.sets ps (fun p hp => wipe_isNo vs (hsl p hp)) sm b).trans (be' sm b)
              refine ⟨?_, ?_⟩
              · rw [wipe_sets _ _ vs fun p hp => ?_]
                · exact wipe_wipe σ vs
                · have hm := (List.of_mem_zip hp).1
                  obtain ⟨p', hp', e'⟩ := List.mem_map.mp hm
                  rw [← e']
                  exact hsl p' hp'
              have hbE : ∀ b, B0 k b → BE (f.ban D) sm E μ b := fun b z => BE.ban.mpr (.inl (.inl (I.b0 b z)))
              have updF : ∀ {Ha Hb : Hp}, Fr0 k Ha Hb → Fr0 k (upd Ha D (.lst [])) (upd Hb D (.lst [])) := fun {Ha Hb} z b o n h => by
                by_cases e : b = D
                · rw [e, upd_same] at h ⊢; exact h
                · rw [upd_ne e] at h ⊢; exact z b o n h
              have back : ∀ {g3 : G} {H4 : Hp}, PEd k g3 H3 H4 → Ist k (f.ban D) (pn ++ ex) (wipeE E vs) μ g3 (L2.wipe σ vs) H4 ∧ Fr0 k (upd H1 D (.lst [])) (upd H4 D (.lst [])) ∧ H4 D = some (.lst vacc) ∧ RpA k H4 (BE (f.ban D) sm E μ) vacc acc := fun {g3 H4} p4 =>
                ⟨I4.step p4, fr.trans (updF ((Fr0.of s3).trans p4.fr)), p4.fr D _ (fun z => nD D z rfl) (s3 _ _ hDl), (ra.same s3).step hbE p4.fr⟩
              split at el
              · cases el
              · rename_i g3 h3
                refine ⟨f.ban D, _, _, μ, g2, false, g3, I5, h3, fun H4 p4 => ?_⟩
                refine iteF ⟨hl, g3, acc, vacc, rest, ?_⟩
                obtain ⟨b1, b2, b3, b4⟩ := back p4
                exact ⟨b1, b2, b3, b4, Nat.le_succ_of_le hal, el, rfl⟩
              · rename_i g3 h3
                refine ⟨f.ban D, _, _, μ, g2, true, g3, I5, h3, fun H4 p4 => iteT ?_⟩
                split at el
                · cases el
                · rename_i y g4 h4
                  refine ⟨f.ban D, _, _, μ, g3, y, g4, I5.step p4, h4, fun v H5 p5 r5 => ?_⟩
                  split at el
                  · cases el
                  · rename_i ys g5 h5
                    cases el
                    obtain ⟨b1, b2, b3, b4⟩ := back (p4.trans p5)
                    have r5' : Rp k H5 (BE (f.ban D) sm E μ) v y := r5.shrink fun b z => (beS sm b).mpr z
                    refine ⟨vacc, b3, ?_, hl, g4, acc ++ [y], vacc ++ [v], ys, b1.banUpd nD h0D, ?_, upd_same, ?_, ?_, h5, ?_⟩
                    · rw [b4.length]
                      exact Nat.lt_of_le_of_lt hal (Nat.lt_of_lt_of_le hl hlen)
                    · rw [upd_upd]; exact b2
                    · exact RpA.mono (fun b o n h => by rw [upd_ne (fun e => n (BE.ban.mpr (.inr e)))]; exact h) (fun b o n _ z => n z) _ _ (b4.append (.cons r5' .nil))
                    · rw [List.length_append]; exact Nat.succ_le_succ hal
                    · rw [List.append_assoc]; rfl
          · have hi' : i = its.length := by omega
            subst hi'
            rw [List.drop_length] at el
            cases el
            rw [List.append_nil] at q
            refine .inl ⟨w1 _ (Nat.le_refl _), ?_⟩
            have key := q D vacc (del H2 D) ⟨fun b o n h => ?_, ⟨?_, ?_, fun P hP => ?_⟩⟩ del_same (RpA.mono (fun b o n h => by rw [del_ne fun e => n (BE.ban.mpr (.inr e))]; exact h) (fun b o n _ z => n (BE.ban.mpr (.inl z))) _ _ ra)
            · rw [upd_del hDl] at key
              exact key
            · have h1 := p1.fr b o n h
              have hbD : b ≠ D := ne_of_none h1 hD
              have h2 := fr b o n (by rw [upd_ne hbD]; exact h1)
              rw [upd_ne hbD] at h2
              rw [del_ne hbD]
              exact h2
            · intro ho; rw [del_ne (nD _ (.inl ⟨ho, rfl⟩))]; exact I3.ga.b ho
            · intro ho; rw [del_ne (nD _ (.inr (.inl ⟨ho, rfl⟩)))]; exact I3.ga.c ho
            · obtain ⟨ps, e1, e2⟩ := I3.ga.t P hP
              exact ⟨ps, by rw [del_ne (nD _ (.inr (.inr hP)))]; exact e1, e2⟩
      · cases e
end
end DL

set_option Elab.async false
set_option linter.all false
set_option maxRecDepth 100000
set_option maxHeartbeats 1000000
namespace DL
open PySem PySem.Spec PyProof.Rows L2
section
variable {k : Kx} {f : Fx} {ex : List (V × D)} {sm : Bool} {X : Cx} {elt tgE iter : Expr} {ifs : List Expr} {scope : Scope} {own : List (Str × Nat)} {pos spos : Pos} {tg : Tg} {ml : ML} {c : MT} {m : M}
theorem dn_lc (hc : X.calm = true) (hN : X.N.Nodup) (hi : PI X tgE iter (tI k f ml)) (ok : BlkOk X.N X.env.scope scope own)
    (hg : ∀ (f : Fx) (s : Shared) (H : Hp) (C : Addr) (cl : List (Str × Addr)) (fp : List Addr), PG (X.blk s H scope (compEnvC scope cl C X.env) fp) tgE (tG k f tg)) (ht : ∀ (s : Shared) (H : Hp) (C : Addr) (cl : List (Str × Addr)) (fp : List Addr), PTs (X.blk s H scope (compEnvC scope cl C X.env) fp) ifs (tTx k c))
    (he : ∀ (f : Fx) (s : Shared) (H : Hp) (C : Addr) (cl : List (Str × Addr)) (fp : List Addr), PE (X.blk s H scope (compEnvC scope cl C X.env) fp) elt (tE k f sm m)) (hs : ∀ x, foldedSetIterable iter X.env x = pure x := by intro _; rfl) :
    PE X (.ListComp elt [⟨tgE, iter, ifs, 0⟩] scope pos) (tN k f sm (nLc tg ml c m (own.map (·.2)))) :=
  pe_of (pe_lc hc hN hi ok (fun s H C cl fp => pg_x fun f => hg f s H C cl fp) ht (fun s H C cl fp => pe_x fun f => he f s H C cl fp) hs) fun σ H Q w => t_lc w
theorem ds_ownLc {i : Nat} {y : Str} {py : Pos} (hc : X.calm = true) (hN : X.N.Nodup) (hy : X.N[i]? = some y) (hyl : X.env.scope.names.lookup y = some .local)
    (hsw : swapsWith (.ListComp elt [⟨tgE, iter, ifs, 0⟩] scope pos) (some (.Name y py)) spos.line X.env = pure true) (hi : PI X tgE iter (tI k f ml)) (ok : BlkOk X.N X.env.scope scope own)
    (hg : ∀ (f : Fx) (s : Shared) (H : Hp) (C : Addr) (cl : List (Str × Addr)) (fp : List Addr), PG (X.blk s H scope (compEnvC scope cl C X.env) fp) tgE (tG k f tg)) (ht : ∀ (s : Shared) (H : Hp) (C : Addr) (cl : List (Str × Addr)) (fp : List Addr), PTs (X.blk s H scope (compEnvC scope cl C X.env) fp) ifs (tTx k c))
    (he : ∀ (f : Fx) (s : Shared) (H : Hp) (C : Addr) (cl : List (Str × Addr)) (fp : List Addr), PE (X.blk s H scope (compEnvC scope cl C X.env) fp) elt (tE k f true m)) (hs : ∀ x, foldedSetIterable iter X.env x = pure x := by intro _; rfl) :
    PS X (.Assign [.Name y py] (.ListComp elt [⟨tgE, iter, ifs, 0⟩] scope pos) spos) (tS k f ex (sOwn i (nLc tg ml c m (own.map (·.2))))) :=
  ps_of (ps_setLc hc hN hy hyl hsw hi ok (fun s H C cl fp => pg_x fun f => hg f s H C cl fp) ht (fun s H C cl fp => pe_x fun f => he f s H C cl fp) hs) fun Dn σ H ⟨E, μ, g, r, I, e, q⟩ => by
    unfold sOwn at e
    split at e
    · cases e
    · rename_i d g1 h
      split at e
      · rename_i hl
        cases e
        exact t_lc ⟨ex, E, μ, g, d, g1, I, h, fun p vs H1 p1 hp r1 => q _ _ _ ((I.step p1).setOwn i hl hp r1)⟩
      · cases e
theorem ds_setLc {i : Nat} {y : Str} {py : Pos} (hc : X.calm = true) (hN : X.N.Nodup) (hy : X.N[i]? = some y) (hyl : X.env.scope.names.lookup y = some .local)
    (hsw : swapsWith (.ListComp elt [⟨tgE, iter, ifs, 0⟩] scope pos) (some (.Name y py)) spos.line X.env = pure true) (hi : PI X tgE iter (tI k f ml)) (ok : BlkOk X.N X.env.scope scope own)
    (hg : ∀ (f : Fx) (s : Shared) (H : Hp) (C : Addr) (cl : List (Str × Addr)) (fp : List Addr), PG (X.blk s H scope (compEnvC scope cl C X.env) fp) tgE (tG k f tg)) (ht : ∀ (s : Shared) (H : Hp) (C : Addr) (cl : List (Str × Addr)) (fp : List Addr), PTs (X.blk s H scope (compEnvC scope cl C X.env) fp) ifs (tTx k c))
    (he : ∀ (f : Fx) (s : Shared) (H : Hp) (C : Addr) (cl : List (Str × Addr)) (fp : List Addr), PE (X.blk s H scope (compEnvC scope cl C X.env) fp) elt (tE k f true m)) (hs : ∀ x, foldedSetIterable iter X.env x = pure x := by intro _; rfl) :
    PS X (.Assign [.Name y py] (.ListComp elt [⟨tgE, iter, ifs, 0⟩] scope pos) spos) (tS k f ex (sSet i (eN (nLc tg ml c m (own.map (·.2)))))) :=
  ps_of (ps_setLc hc hN hy hyl hsw hi ok (fun s H C cl fp => pg_x fun f => hg f s H C cl fp) ht (fun s H C cl fp => pe_x fun f => he f s H C cl fp) hs) fun Dn σ H ⟨E, μ, g, r, I, e, q⟩ => by
    unfold sSet eN at e
    split at e
    · cases e
    · rename_i d g1 h
      split at h
      · cases h
      · rename_i ds g2 h2
        cases h
        cases e
        refine t_lc ⟨ex, E, μ, g, ds, g1, I, h2, fun p vs H1 p1 hp r1 => ?_⟩
        have I1 := I.step p1
        exact q _ μ _ ((I1.step (.same (Same.upd hp) I1.ga)).setVal i (.newL (fun b z => I1.be true z) hp r1))
end

/-! ### defs -/
abbrev DF := List D → G → Option (D × G)
def spD (k : Kx) (n : Nat) (F : DF) : Sp := fun vs H Q _ => ∃ (B : Addr → Prop) (ds : List D) (g : G) (d : D) (g' : G), ds.length = n ∧ (∀ b, B0 k b → B b) ∧ (∀ b, B b → H b ≠ none) ∧ GA k H g ∧ RpA k H B vs ds ∧ F ds g = some (d, g') ∧
  ∀ v H', Fr0 k H H' → GA k H' g' → Rp k H' B v d → Q v H'
def startE (n : Nat) (ds : List D) : En := ds.map Sl.val ++ List.replicate (n - ds.length) .no
def runD (n : Nat) (m : MS) : DF := fun ds g => match m (startE n ds) g with
  | some (.ret d, _, g') => some (d, g')
  | some (.nx, _, g') => some (.none, g')
  | _ => none
theorem start_no {n : Nat} {ds : List D} {i : Nat} {es : List D} : (startE n ds)[i]? ≠ some (Sl.own es) := fun h => by
  unfold startE at h
  by_cases hi : i < ds.length
  · rw [List.getElem?_append_left (by simpa using hi), List.getElem?_map] at h
    cases e : ds[i]? with
    | none => rw [e] at h; cases h
    | some d => rw [e] at h; cases h
  · rw [List.getElem?_append_right (by simpa using hi), List.getElem?_replicate] at h
    split at h <;> cases h
theorem ist_start {k : Kx} {B : Addr → Prop} {H : Hp} {g : G} {vs : List V} {ds : List D} {N : List Str} (h0 : ∀ b, B0 k b → B b) (hb : ∀ b, B b → H b ≠ none) (ga : GA k H g) (r : RpA k H B vs ds) :
    Ist k ⟨B, H⟩ [] (startE N.length ds) (fun _ => 0) g (L2.start N vs) H := by
  have be : ∀ b, BE ⟨B, H⟩ true (startE N.length ds) (fun _ => 0) b → B b := fun b z => z.elim id fun ⟨_, i, es, e, _⟩ => absurd e start_no
  refine ⟨?_, fun i d e => ?_, fun i es e => absurd e start_no, fun i j es fs e _ _ => absurd e start_no, fun p hp => absurd hp (by simp), ga, .refl k H, h0, hb⟩
  · unfold L2.start startE
    simp only [List.length_append, List.length_map, List.length_replicate, r.length]
  · unfold startE at e
    have hi : i < ds.length := by
      by_cases hi : i < ds.length
      · exact hi
      · rw [List.getElem?_append_right (by simpa using hi), List.getElem?_replicate] at e
        split at e <;> cases e
    rw [List.getElem?_append_left (by simpa using hi), List.getElem?_map] at e
    cases e1 : ds[i]? with
    | none => rw [e1] at e; cases e
    | some d1 =>
      rw [e1] at e
      cases e
      obtain ⟨v, hv, rv⟩ := r.get e1
      refine ⟨v, ?_, rv.shrink be⟩
      unfold L2.start
      have hl := r.length
      rw [List.getElem?_append_left (by rw [List.length_map]; omega), List.getElem?_map, hv]
      rfl
section
variable {P : Program} {w : World} {k : Kx} {mg : Str → Option Value} {base : Heap}
/-- a def, by its body's data reading -/
theorem def_ok {x qual : Str} {st : Stmt} {fa : Addr} {fd : FuncData} {N ps : List Str} {j : Nat} {m : MS} (F : Fun k.K x qual st fa fd) (S : FnScope N ps (defScope st))
    (hbody : ∀ (cdv : Value) (A : Around) (outer : List Env) (s : Shared) (H : Hp) (E : XK) (f : Fx), Room j (A.deeper (envOfC qual (defScope st) s.heap.objs.size fa cdv)) →
      PSs (cxOf CX0 P w k.K mg base N qual (defScope st) fa cdv A outer s H E).nox (defBody st) (tS k f [] m)) : FnOk P w k.K mg base CX0 (j + 1) fa fd ps (spD k ps.length (runD N.length m)) := by
  refine F.ok S (fun vs H Q E ⟨B, ds, g, d, g', hl, _, _, _, r, _⟩ => r.length.trans hl) fun cdv A outer s H vs Q E hr ⟨B, ds, g, d, g', hl, h0, hb, ga, r, hF, q⟩ => ?_
  refine ⟨_, hbody cdv A outer s H E ⟨B, H⟩ hr, startE N.length ds, fun _ => 0, g, ?_⟩
  unfold runD at hF
  split at hF
  · rename_i d1 E1 g1 h1
    cases hF
    exact ⟨_, ist_start h0 hb ga r, h1, fun v H' fr ga' r' => q v H' fr ga' r'⟩
  · rename_i E1 g1 h1
    cases hF
    exact ⟨_, ist_start h0 hb ga r, h1, fun σ μ H' I => q _ H' I.fr I.ga .non⟩
  · cases hF
end
/-- a call of a def -/
def eCall (F : DF) (a : ML) : M := fun E g => match a E g with
  | none => none
  | some (ds, g1) => F ds g1
section
variable {k : Kx} {f : Fx} {sm : Bool} {X : Cx} {j n : Nat} {fa : Addr} {fd : FuncData} {ps : List Str} {x : Str} {p pos : Pos} {e : Expr} {es : List Expr} {ml : ML} {F : DF}
theorem de_call (hF : FnOk X.prog X.w X.K X.mg X.base CX0 j fa fd ps (spD k n F)) (hr : Room j X.A) (hg : Gl X x) (hm : X.mg x = some (.ref fa)) (hk : PySem.W.keepIn X.K (.ref fa) = true) (hb : Binds X.K fd ps [])
    (ha : PA X (e :: es) (tL k f sm ml)) (hn : ∀ E g ds g', ml E g = some (ds, g') → ds.length = n) (hdb : (x == ("__debug__" : Str)) = false := by decide) (he : starEach (e :: es) X.env = (false, eval e X.env) :: starEach es X.env := by rfl) (hpl : (backTo pos (starEach es X.env)).any (·.1) = false := by rfl) :
    PE X (.Call (.Name x p) (e :: es) [] pos) (tE k f sm (eCall F ml)) := pe_of (pe_call hF hr hg hm hk hb .nil pass0 ha hdb he hpl) fun σ H Q ⟨ex, E, μ, g, d, g', I, e, q⟩ => by
  unfold eCall at e
  split at e
  · cases e
  · rename_i ds g1 h1
    refine ⟨ex, E, μ, g, ds, g1, I, h1, fun vs H1 p1 r1 => ?_⟩
    have I1 := I.step p1
    show spD k n F (vs ++ []) H1 Q E0
    rw [List.append_nil]
    exact ⟨BE f sm E μ, ds, g1, d, g', hn _ _ _ _ h1, I.hb sm, fun b z => I1.be sm z, I1.ga, r1, e, fun v H' fr ga r => q v H' (p1.trans ⟨fr, ga⟩) r⟩
/-- the arguments by keywords -/
def pick {α : Type} (is : List Nat) (l : List α) (a : α) : List α := is.map fun i => l.getD i a
theorem pick_vals {zs : List V} {ws : List Value} (h : Vals zs ws) : ∀ is : List Nat, Vals (pick is zs .non) (pick is ws .none)
  | [] => .nil
  | i :: is => by
    refine .cons ?_ (pick_vals h is)
    show RelV (zs.getD i .non) (ws.getD i .none)
    rw [List.getD_eq_getElem?_getD, List.getD_eq_getElem?_getD]
    cases e : zs[i]? with
    | none => rw [h.none_of e]; rfl
    | some v =>
      obtain ⟨u, hu, r⟩ := h.get e
      rw [hu]; exact r
theorem pick_rp {H : Hp} {B : Addr → Prop} {zs : List V} {ds : List D} (h : RpA k H B zs ds) : ∀ is : List Nat, RpA k H B (pick is zs .non) (pick is ds .none)
  | [] => .nil
  | i :: is => by
    refine .cons ?_ (pick_rp h is)
    show Rp k H B (zs.getD i .non) (ds.getD i .none)
    rw [List.getD_eq_getElem?_getD, List.getD_eq_getElem?_getD]
    cases e : ds[i]? with
    | none =>
      have : zs[i]? = none := by
        rw [List.getElem?_eq_none_iff] at e ⊢
        rw [h.length]; exact e
      rw [this]; exact .non
    | some v =>
      obtain ⟨u, hu, r⟩ := h.get e
      rw [hu]; exact r
/-- how the keywords bind -/
def KwB (K : PySem.W.Frag) (fd : FuncData) (ps ks : List Str) (is : List Nat) : Prop := ∀ (s : Shared) (ws : List Value), K.In s.heap → ws.length = ks.length → BindsTo s fd ⟨[], ks.zip ws⟩ (ps.zip (pick is ws .none))
def eCallK (F : DF) (is : List Nat) (a : ML) : M := fun E g => match a E g with
  | none => none
  | some (ds, g1) => F (pick is ds .none) g1
theorem de_callK {kws : List Keyword} {ks : List Str} {is : List Nat} (hF : FnOk X.prog X.w X.K X.mg X.base CX0 j fa fd ps (spD k n F)) (hr : Room j X.A) (hg : Gl X x) (hm : X.mg x = some (.ref fa)) (hk : PySem.W.keepIn X.K (.ref fa) = true) (hb : KwB X.K fd ps ks is)
    (ha : PK X kws (tL k f sm ml)) (hn : is.length = n) (hks2 : ∀ E g ds g', ml E g = some (ds, g') → ds.length = ks.length) (hall : (backToKw pos (keywordEach kws X.env)).all (·.1.isSome) = true := by rfl) (hks : (backToKw pos (keywordEach kws X.env)).filterMap (·.1) = ks := by rfl)
    (hdb : (x == ("__debug__" : Str)) = false := by decide) (hpl : ((backTo pos (starEach [] X.env)).any (·.1) || (backToKw pos (keywordEach kws X.env)).any (·.1.isNone)) = false := by rfl) :
    PE X (.Call (.Name x p) [] kws pos) (tE k f sm (eCallK F is ml)) := by
  refine ⟨fun pins s σ H Q I0 ⟨ex, E, μ, g, d, g', I, e, q⟩ => ?_⟩
  unfold eCallK at e
  split at e
  · cases e
  · rename_i ds g1 h1
    refine wpAny_Call_Name_kw (ld_glob I0 hg hm ?_ hdb)
    refine PySem.W.callWith_KW0 (h₀ := X.base) I0.ok.mod.kin hk hall ?_ hpl
    refine thn (ha.run pos pins s σ H (fun vs H1 => PEd k g1 H H1 ∧ RpA k H1 (BE f sm E μ) vs ds) I0 ⟨ex, E, μ, g, ds, g1, I, h1, fun vs H1 p1 r1 => ⟨p1, r1⟩⟩) fun ws s2 ⟨zs, H2, I2, rz, p1, r1⟩ => ⟨I2.kIn, ?_⟩
    rw [hks]
    have I1 := I.step p1
    have hl : ws.length = ks.length := by rw [← rz.length, r1.length]; exact hks2 _ _ _ _ h1
    refine wpAny_call (codeAny_mono (hF.run X.A X.stack s2 H2 ⟨[], ks.zip ws⟩ (pick is ws .none) (pick is zs .non) Q E0 hr I2.env0 (hb s2 ws I2.kIn hl) (pick_vals rz is) ?_) fun r s' hq => ?_)
    · exact ⟨BE f sm E μ, pick is ds .none, g1, d, g', by unfold pick; rw [List.length_map]; exact hn, I.hb sm, fun b z => I1.be sm z, I1.ga, pick_rp r1 is, e, fun v H' fr ga r => q v H' (p1.trans ⟨fr, ga⟩) r⟩
    · cases r with
      | error e => exact hq.elim
      | ok fl =>
        cases fl with
        | ret u => exact I2.after hq
        | next => exact False.elim hq
        | brk => exact False.elim hq
        | cont => exact False.elim hq
theorem dk_nil : PK X [] (tL k f sm lNil) := ⟨fun pos pins s σ H Q I ⟨ex, E, μ, g, ds, g', J, e, q⟩ => by
  cases e
  exact pk_nil.run pos pins s σ H Q I (q [] H (.same (.refl H) J.ga) .nil)⟩
theorem dk_cons {m : M} {kws : List Keyword} {nm : Option Str} {kpos : Pos} (ha : PE X e (tE k f sm m)) (hr : PK X kws (tL k f sm ml)) : PK X (⟨nm, e, kpos⟩ :: kws) (tL k f sm (lCons m ml)) :=
  ⟨fun pos pins s σ H Q I0 ⟨ex, E, μ, g, ds, g', I, e, q⟩ => by
    refine (pk_cons ha hr).run pos pins s σ H Q I0 ?_
    unfold lCons at e
    split at e
    · cases e
    · rename_i d g1 h1
      split at e
      · cases e
      · rename_i ds2 g2 h2
        cases e
        refine ⟨ex, E, μ, g, d, g1, I, h1, fun v H1 p1 r1 => ?_⟩
        refine ⟨ex, E, μ, g1, ds2, g', I.step p1, h2, fun vs H2 p2 r2 => ?_⟩
        exact q _ H2 (p1.trans p2) (.cons (r1.step (I.hb sm) p2.fr) r2)⟩
end
/-- how many arguments -/
theorem ln_nil {E : En} {g : G} {ds : List D} {g' : G} (h : lNil E g = some (ds, g')) : ds.length = 0 := by cases h; rfl
theorem ln_cons {m : M} {ml : ML} {n : Nat} (hl : ∀ E g ds g', ml E g = some (ds, g') → ds.length = n) : ∀ (E : En) (g : G) (ds : List D) (g' : G), lCons m ml E g = some (ds, g') → ds.length = n + 1 := fun E g ds g' h => by
  unfold lCons at h
  split at h
  · cases h
  · split at h
    · cases h
    · rename_i d2 g2 h2
      cases h
      rw [List.length_cons, hl _ _ _ _ h2]
theorem ln0 : ∀ (E : En) (g : G) (ds : List D) (g' : G), lNil E g = some (ds, g') → ds.length = 0 := fun _ _ _ _ h => ln_nil h
end DL

set_option Elab.async false
set_option linter.all false
set_option maxRecDepth 100000
set_option maxHeartbeats 2000000
namespace DL
open PySem PySem.Spec PyProof.Rows L2 GenW
/-! ### a generator expression's frame -/
abbrev gx (X : Cx) (A : Around) (s : Shared) (H : Hp) (cenv : Env) (fp : List Addr) : Cx :=
  { X with A := A, s_0 := s, H_0 := H, env := cenv, outer := X.stack, stack := cenv :: X.stack, ex := fp, fn := fun _ => false, pn := [], xe := fun _ _ => False }
section
variable {X : Cx} {pins : List (Addr × Obj)} {σ : L2.St} {H : Hp} {s : Shared}
theorem gen_start {A : Around} {scope : Scope} {own : List (Str × Nat)} {fp : List Addr} {code it : Value} {go : Obj} {h' : Heap} {gs : GenState} {tk : Nat} (I : Inv X pins σ H s) (ok : BlkOk X.N X.env.scope scope own) (hcell : ∀ y ∈ scope.names, y.2 ≠ .cell) (hN : X.N.Nodup)
    (hfp : ∀ b ∈ fp, FpOk X pins H b ∧ b < s.heap.objs.size) (hA : A.handled = none) (hfr : A.frames = some (genEnv scope (cloFrom X.env.cells scope.names []) s.heap.objs.size code builtinsNs X.env :: X.stack)) (hcalm : X.calm = true)
    (hns : h'.Ns s.heap.objs.size (fun y => if y = ".0" then some it else none)) (hsb : Heap.SameBut s.heap.objs.size (s.heap.push { cls := .type "frame", data := .dict #[] }) h') (hgb : gs.bare = true) (hgo : (h'.push go).get? h'.objs.size = some go) (hgd : ∀ v, go.data ≠ .cell v) :
    Inv (gx X A s H (genEnv scope (cloFrom X.env.cells scope.names []) s.heap.objs.size code builtinsNs X.env) fp) [(h'.objs.size, go)] (wipe σ (own.map (·.2))) H { s with gens := s.gens.push gs, toks := tk, heap := h'.push go } := by
  have hfree : ∀ y ∈ scope.names, y.2 = .free → ∃ c, X.env.cells.lookup y.1 = some c := fun y hy e => by
    rcases ok.free y hy e with k | k
    · exact I.ok.has _ (.inl k)
    · exact I.ok.has _ (.inr k)
  have hsz : h'.objs.size = s.heap.objs.size + 1 := by rw [hsb.1, Heap.size_push]
  have kp1 : ∀ b o, s.heap.get? b = some o → h'.get? b = some o := fun b o e => (hsb.2 b (Nat.ne_of_lt (Heap.lt_size e))).trans (Heap.get?_push_of_some _ e)
  have kp : ∀ b o, s.heap.get? b = some o → (h'.push go).get? b = some o := fun b o e => Heap.get?_push_of_some _ (kp1 b o e)
  have cm : ∀ {y c}, (y, c) ∈ cloFrom X.env.cells scope.names [] → X.env.cells.lookup y = some c ∧ c < s.heap.objs.size := fun {y c} hm => by
    rcases cloFrom_mem hm with hm | ⟨h1, rfl⟩
    · cases hm
    · obtain ⟨c, hc⟩ := hfree _ h1 rfl
      rw [hc]
      obtain ⟨w, z⟩ := I.cell _ _ hc
      exact ⟨rfl, z.lt⟩
  have cl : ∀ {y c}, (cloFrom X.env.cells scope.names []).lookup y = some c → X.env.cells.lookup y = some c ∧ c < s.heap.objs.size := fun {y c} h => cm (PySem.mem_of_lookup h)
  have look : ∀ {y}, scope.names.lookup y = some .free → ∃ c, (cloFrom X.env.cells scope.names []).lookup y = some c := fun {y} hl => by
    have hy : (y, NameKind.free) ∈ scope.names := PySem.mem_of_lookup hl
    exact mem_lookup (cloFrom_has (cells := X.env.cells) (acc := []) hy)
  have nocell : ∀ y, scope.names.lookup y ≠ some .cell := fun y h => hcell _ (PySem.mem_of_lookup h) rfl
  have szC : ∀ b o, s.heap.get? b = some o → b ≠ s.heap.objs.size := fun b o e => Nat.ne_of_lt (Heap.lt_size e)
  have okB : (gx X A s H (genEnv scope (cloFrom X.env.cells scope.names []) s.heap.objs.size code builtinsNs X.env) fp).Ok := by
    refine ⟨I.ok.mod, ok.kind, I.ok.glob, rfl, Nat.le_refl _, fun y z c e1 e2 => ?_, fun y hy => ?_, fun y c z e => ?_, fun _ => hA, hfr, .inr ⟨rfl, rfl⟩, fun b hb => ⟨?_, fun y c e z => ?_⟩, I.bs, Nat.le_trans I.ok.bsz I.sz, fun b o e hb => ?_, fun b hb z => ?_, I.stack, I.stkFree⟩
    · exact I.ok.inj y z c (cl e1).1 (cl e2).1
    · have hy : scope.names.lookup y = some .cell ∨ scope.names.lookup y = some .free := hy
      rcases hy with hy | hy
      · exact absurd hy (nocell y)
      · exact look hy
    · cases z
    · exact Nat.ne_of_lt (hfp b hb).2
    · exact (hfp b hb).1.2.2.2.2.1 y c (cl e).1 z
    · rcases (hfp b hb).1.2.2.2.1 with z | z
      · exact I.ok.noex b o e z
      · exact absurd (Nat.lt_of_lt_of_le (Heap.lt_size e) (Nat.le_trans I.ok.bsz z)) (Nat.lt_irrefl _)
    · rcases List.mem_cons.mp (I.stkSub b z) with z | z
      · exact (hfp b hb).1.2.1 z
      · exact (hfp b hb).1.2.2.1 z
  refine ⟨okB, rfl, I.bare.push hgb, Un.kept kp, ⟨_, hns.push _, fun i y av e1 e2 e3 => ?_⟩, fun y c e => ?_, I.hok.fresh (Nat.le_refl _), fun y c e => ?_, fun p hp => ?_, I.hok.kept kp, by rw [wipe_length]; exact I.len⟩
  · obtain ⟨e2, hne⟩ := wipe_some e2
    have e3 : Vis scope y := e3
    have no : scope.names.lookup y ≠ some .local := fun e => by
      rcases ok.own _ (PySem.mem_of_lookup e) (.inl rfl) with e' | e'
      · obtain ⟨p, hp, hpy⟩ := List.mem_map.mp e'
        have e3 := ok.ix p hp
        have : p.1 = y := hpy
        rw [this] at e3
        exact hne (List.mem_map.mpr ⟨p, hp, nodup_ix hN e3 e1⟩)
      · exact e' (List.mem_of_getElem? e1)
    have hfr' : scope.names.lookup y = some .free := by
      rcases e3 with e3 | e3 | e3
      · exact absurd e3 no
      · exact absurd e3 (nocell y)
      · exact e3
    obtain ⟨m, hn, hl⟩ := I.loc
    have hvis : Vis X.env.scope y := (ok.free _ (PySem.mem_of_lookup hfr') rfl).elim (fun k => .inr (.inl k)) (fun k => .inr (.inr k))
    obtain ⟨w, r, q⟩ := hl i y av e1 e2 hvis
    refine ⟨w, r, .inr ⟨.inr hfr', ?_⟩⟩
    obtain ⟨c, h1⟩ := look hfr'
    rcases q with ⟨k, _⟩ | ⟨_, c', e', z⟩
    · have k : X.env.scope.names.lookup y = some .local := k
      rcases ok.free _ (PySem.mem_of_lookup hfr') rfl with k' | k' <;> rw [show X.env.scope.names.lookup y = _ from k'] at k <;> cases k
    · have := (cl h1).1
      rw [this] at e'
      cases e'
      exact ⟨c, h1, z.keeps kp⟩
  · obtain ⟨w, z⟩ := I.cell y c (cl e).1
    exact ⟨w, z.keeps kp⟩
  · exact I.freeC y c (cl e).1
  · rw [List.mem_singleton.mp (show p ∈ [(h'.objs.size, go)] from hp)]
    refine ⟨hgo, I.hok.fresh (by rw [hsz]; exact Nat.le_succ _), by show h'.objs.size ≠ s.heap.objs.size; rw [hsz]; exact Nat.succ_ne_self _, fun z => ?_, hgd⟩
    obtain ⟨_, o, ho, _⟩ := I.stack.mem z
    have h1 : (h'.objs.size : Nat) < s.heap.objs.size := Heap.lt_size ho
    rw [hsz] at h1
    exact absurd h1 (Nat.not_lt.mpr (Nat.le_succ _))
end

/-! ### its turns -/
/-- all(elt for tg in iter): W by the turn and how many are left -/
def tAllG (P : Addr) (wi : TI) (g : TG) (te : TE) (vs : List Nat) : TE := fun σ H Q => wi σ H fun J H1 => GxR.TabG H1 P ∧ ∀ H2, GxR.Tabbed P H1 H2 → ∃ W : Nat → Nat → Hp → Prop, (∃ m, W 0 m H2) ∧ (∀ i H, W i 0 H → J.stop i H ∧ Q (.bl true) H) ∧
  ∀ i m H, W i (m + 1) H → J.go i H ∧ ∀ x H', J.yld i H x H' → g x (wipe σ vs) H' fun σ2 H2 => wipe σ2 vs = wipe σ vs ∧ te σ2 H2 fun y H4 => ∃ b, y = .bl b ∧ if b = true then W (i + 1) m H4 else Q (.bl false) H4
section
variable {X : Cx} {A : Around} {s4 : Shared} {H4 : Hp} {cenv : Env} {fp : List Addr} {elt tgE iter : Expr} {scope : Scope} {gpos : Pos} {it a : Addr} {go : Obj} {g : Nat} {J : It} {tn : Nat → Heap → Prop} {gt : TG} {te : TE} {vs : List Nat} {σ : L2.St} {Q : VK} {W : Nat → Nat → Hp → Prop}
/-- where the generator stands between two turns -/
abbrev gA (A : Around) (elt tgE iter : Expr) (scope : Scope) (gpos : Pos) (it : Addr) (cenv : Env) : Around := A.over (.compLoop (.GeneratorExp elt [⟨tgE, iter, [], 0⟩] scope gpos) 0 (.ref it) .none cenv) []
abbrev gX (X : Cx) (A : Around) (s4 : Shared) (H4 : Hp) (cenv : Env) (fp : List Addr) (elt tgE iter : Expr) (scope : Scope) (gpos : Pos) (it : Addr) : Cx := gx X (gA A elt tgE iter scope gpos it cenv) s4 H4 cenv fp
/-- an end of the whole: b is told -/
def gFin (X' : Cx) (a : Addr) (go : Obj) (Q : VK) (b : Bool) (s : Shared) : Prop := ∃ σ H, Inv X' [(a, go)] σ H s ∧ Q (.bl b) H
def gR (X' : Cx) (a : Addr) (go : Obj) (Q : VK) : GenEnd := fun n _ r s => ((r = .ok (.ret .none) ∨ r = .ok .next) ∧ (n = 0 ∧ gFin X' a go Q true s)) ∨ ∃ e, r = .error e ∧ False
def gY (X' : Cx) (a : Addr) (go : Obj) (Q : VK) : Protocol := fun n _ v s kap => ∃ b, v = .bool b ∧ (∃ σ H, Inv X' [(a, go)] σ H s) ∧ (b = false → gFin X' a go Q false s) ∧ (b = true → ∀ s'', s''.heap = s.heap → s''.os = s.os → AllBare s''.gens → kap (.send .none) s'')
theorem inv_gens {X' : Cx} {pins : List (Addr × Obj)} {σ : L2.St} {H : Hp} {s s' : Shared} (I : Inv X' pins σ H s) (h1 : s'.heap = s.heap) (h2 : s'.os = s.os) (h3 : AllBare s'.gens) : Inv X' pins σ H s' := by
  refine I.call' (ch := []) h2 ?_ ?_ h3 (fun b z => by simp at z)
  · rw [h1]; exact Un.refl
  · rw [h1]; exact I.hok
theorem seg_gloop (hcalm : X.calm = true) (T : Turn X.prog X.w X.K tgE J fp it tn) (hco : cenv.scope.isCoroutine = false)
    (hg : PG (gX X A s4 H4 cenv fp elt tgE iter scope gpos it) tgE gt) (he : PE (gX X A s4 H4 cenv fp elt tgE iter scope gpos it) elt te)
    (stop : ∀ i H, W i 0 H → J.stop i H ∧ Q (.bl true) H)
    (turn : ∀ i m H, W i (m + 1) H → J.go i H ∧ ∀ x H', J.yld i H x H' → gt x (wipe σ vs) H' fun σ2 H2 => wipe σ2 vs = wipe σ vs ∧ te σ2 H2 fun y H4 => ∃ b, y = .bl b ∧ if b = true then W (i + 1) m H4 else Q (.bl false) H4) :
    ∀ (m i : Nat) (s₀ s : Shared) (H : Hp), W i m H → Inv (gX X A s4 H4 cenv fp elt tgE iter scope gpos it) [(a, go)] (wipe σ vs) H s → tn i s.heap → (∀ b ∈ fp, H b = none) → a ∉ fp →
      Seg (model X.prog X.w) A (gR (gX X A s4 H4 cenv fp elt tgE iter scope gpos it) a go Q) (gY (gX X A s4 H4 cenv fp elt tgE iter scope gpos it) a go Q) m s₀
        (.compLoop (.GeneratorExp elt [⟨tgE, iter, [], 0⟩] scope gpos) 0 (.ref it) .none cenv) ((model X.prog X.w).den (.compLoop (.GeneratorExp elt [⟨tgE, iter, [], 0⟩] scope gpos) 0 (.ref it) .none cenv)) [] s := by
  have stat : ∀ {σ' : L2.St} {H' : Hp} {s' : Shared}, Inv (gX X A s4 H4 cenv fp elt tgE iter scope gpos it) [(a, go)] σ' H' s' → (∀ b ∈ fp, H' b = none) → a ∉ fp → ∀ b ∈ fp, FpOk (gX X A s4 H4 cenv fp elt tgE iter scope gpos it) [(a, go)] H' b := fun {σ' H' s'} I' hn ha b hb =>
    ⟨hn b hb, (I'.ok.exf b hb).1, I'.ok.exfs b hb, .inl hb, fun x c e => (I'.ok.exf b hb).2 x c e, fun p hp => by
      rw [List.mem_singleton.mp (show p ∈ [(a, go)] from hp)]
      exact fun e => ha (by rw [show a = b from e]; exact hb)⟩
  intro m
  induction m with
  | zero =>
    intro i s₀ s H w I st nf ha
    show Seg _ A _ _ _ s₀ _ ((compTurn (.GeneratorExp elt [⟨tgE, iter, [], 0⟩] scope gpos) 0 (.ref it) .none cenv).onRaise (leaving cenv)) [] s
    rw [compTurn_gen, Sem.onRaise_eq_wrap]
    refine seg_bind_wrap (wpAny_standAt ?_)
    obtain ⟨h1, h2⟩ := stop i H w
    refine seg_bind_wrap (wpAny_mono (T.done (gX X A s4 H4 cenv fp elt tgE iter scope gpos it) rfl rfl rfl hcalm i [(a, go)] s _ H (fun _ _ => False) I (stat I nf ha) st h1) (fun r s1 hr => ?_) fun _ _ z => z.elim)
    obtain ⟨rfl, I1⟩ := hr
    exact seg_end (.ok .next) (.inl ⟨.inr rfl, rfl, _, H, I1, h2⟩)
  | succ m ih =>
    intro i s₀ s H w I st nf ha
    show Seg _ A _ _ _ s₀ _ ((compTurn (.GeneratorExp elt [⟨tgE, iter, [], 0⟩] scope gpos) 0 (.ref it) .none cenv).onRaise (leaving cenv)) [] s
    rw [compTurn_gen, Sem.onRaise_eq_wrap]
    refine seg_bind_wrap (wpAny_standAt ?_)
    obtain ⟨hgo, step⟩ := turn i m H w
    refine seg_bind_wrap (wpAny_mono (T.item (gX X A s4 H4 cenv fp elt tgE iter scope gpos it) rfl rfl rfl hcalm i [(a, go)] s _ H (fun _ _ => False) I (stat I nf ha) st hgo) (fun r s1 hr => ?_) fun _ _ z => z.elim)
    obtain ⟨u, rfl, h6⟩ := hr
    refine seg_bind_wrap (wpAny_mono h6 (fun _ s2 h7 => ?_) fun _ _ z => z.elim)
    obtain ⟨x, H2, I2, r2, y2, st2, n2⟩ := h7
    have I2' := I2.pinned (stat I2 n2 ha) (T.obj _ _ st2)
    refine seg_bind_wrap (wpAny_mono (hg.run _ s2 _ H2 x u _ I2' r2 (step x H2 y2)) (fun _ s3 h8 => ?_) fun _ _ z => z.elim)
    obtain ⟨σ3, H3, I3, hw3, q3⟩ := h8
    simp only [List.forIn_nil]
    refine seg_bind_wrap (wpAny_pure ?_)
    simp only [if_true]
    have hy : ∀ v, yieldOut cenv v = yieldValue v := fun v => by simp only [yieldOut, hco, Bool.false_eq_true, if_false]
    simp only [hy]
    rw [Sem.bind_eq_wrap', Sem.bind_eq_wrap', Sem.wrap_wrap, Sem.wrap_wrap]
    refine seg_wrap (wpAny_mono (he.run _ s3 σ3 H3 _ I3 q3) (fun y s5 h9 => ?_) fun _ _ z => z.elim)
    obtain ⟨yv, H5, I5, r5, b, rfl, q5⟩ := h9
    obtain rfl : y = Value.bool b := r5
    have pin' : ∀ b ∈ fp, ∀ o, s2.heap.get? b = some o → s5.heap.get? b = some o ∧ H5 b = none := fun b hb o e =>
      let z := I5.pin (b, o) (List.mem_append_right _ (List.mem_append_right _ (mem_pinsAt hb e)))
      ⟨z.1, z.2.1⟩
    have I6 : Inv (gX X A s4 H4 cenv fp elt tgE iter scope gpos it) [(a, go)] (wipe σ vs) H5 s5 := by
      refine (I5.unpinned (pins := [(a, go)])).weak ?_ fun j v e => ?_
      · rw [← hw3, wipe_length]
      · rw [← hw3] at e
        exact (wipe_some e).1
    refine seg_at (seg_yield rfl rfl rfl ⟨b, rfl, ⟨_, _, I6⟩, fun hb => ?_, fun hb s'' e1 e2 e3 => ?_⟩)
    · subst hb
      exact ⟨_, _, I6, q5⟩
    · subst hb
      refine seg_again rfl (ih (i + 1) s'' s'' H5 q5 (inv_gens I6 e1 e2 e3) ?_ (fun b hb => ?_) ha)
      · rw [e1]
        exact T.keep _ _ _ st2 fun b hb o e => (pin' b hb o e).1
      · obtain ⟨o, e, _⟩ := T.obj _ _ st2 b hb
        exact (pin' b hb o e).2
end
end DL

set_option Elab.async false
set_option linter.all false
set_option maxRecDepth 100000
set_option maxHeartbeats 2000000
namespace DL
open PySem PySem.Spec PyProof.Rows L2 GenW
section
variable {X : Cx} {A : Around} {s4 : Shared} {H4 : Hp} {cenv : Env} {fp : List Addr} {elt tgE iter : Expr} {scope : Scope} {gpos : Pos} {it a : Addr} {go : Obj} {g : Nat} {J : It} {tn : Nat → Heap → Prop} {gt : TG} {te : TE} {vs : List Nat} {σ : L2.St} {Q : VK} {W : Nat → Nat → Hp → Prop}
theorem seg_gstart {X' : Cx} {m i : Nat} {s₀ s : Shared} {M : Model}
    (loop : Seg M A (gR X' a go Q) (gY X' a go Q) m s₀ (.compLoop (.GeneratorExp elt [⟨tgE, iter, [], 0⟩] scope gpos) 0 (.ref it) .none cenv) (M.den (.compLoop (.GeneratorExp elt [⟨tgE, iter, [], 0⟩] scope gpos) 0 (.ref it) .none cenv)) [] s)
    (self : ∀ (A : Around) (Q : Value → Shared → Prop) (E : Value → Shared → Prop), Q (.ref it) s → wpAny M A (pyIter (.ref it)) Q E s)
    (hden : M.den (.compStart (.GeneratorExp elt [⟨tgE, iter, [], 0⟩] scope gpos) 0 (.ref it) .none cenv) = (compStart (.GeneratorExp elt [⟨tgE, iter, [], 0⟩] scope gpos) 0 (.ref it) .none cenv).onRaise (leaving cenv)) :
    Seg M A (gR X' a go Q) (gY X' a go Q) m s₀ (.compStart (.GeneratorExp elt [⟨tgE, iter, [], 0⟩] scope gpos) 0 (.ref it) .none cenv) (M.den (.compStart (.GeneratorExp elt [⟨tgE, iter, [], 0⟩] scope gpos) 0 (.ref it) .none cenv)) [] s := by
  rw [hden]
  unfold compStart
  rw [Sem.onRaise_eq_wrap]
  show Seg _ A _ _ _ s₀ _ ((ask >>= _).wrap _ _ _ _) [] s
  refine seg_bind_wrap (wpAny_askSetting ?_)
  split
  · exact seg_again rfl loop
  · first
      | exact seg_bind_wrap (wpAny_rule (seg_bind_wrap (wpAny_standAt (seg_bind_wrap (self _ _ _ (seg_again rfl loop))))))
      | (refine seg_bind_wrap (wpAny_rule ?_); show Seg _ A _ _ _ s₀ _ ((standAt iter.pos >>= _).wrap _ _ _ _) [] s; exact seg_bind_wrap (wpAny_standAt (seg_bind_wrap (self _ _ _ (seg_again rfl loop)))))
/-- the turns of all(..) over such a generator -/
theorem all_turns {X' : Cx} {B : Around} {R : Result → Shared → Prop} (hh : B.handled = none) (hd : B.depth < recursionLimit) (hgo : ∀ h : Heap, h.get? a = some go → h.IsGen a g)
    (fin : ∀ b s s', gFin X' a go Q b s → s'.os = s.os → (∀ b o, s.heap.get? b = some o → s'.heap.get? b = some o) → AllBare s'.gens → R (.ok (.ret (.bool b))) s') :
    ∀ (m : Nat) (s : Shared), (∃ σ H, Inv X' [(a, go)] σ H s) →
      (∃ gs, s.gens[g]? = some gs ∧ gs.Goes (model X'.prog X'.w) B.in1.in1 (gR X' a go Q) (gY X' a go Q) m (.send .none) (s.setGen g .running)) →
      codeAny (model X'.prog X'.w) B (.builtin "all.loop" ⟨[.ref a], []⟩) R s := by
  have isg : ∀ {σ : L2.St} {H : Hp} {s : Shared}, Inv X' [(a, go)] σ H s → s.heap.IsGen a g := fun {σ H s} I => hgo _ (I.pin (a, go) (List.mem_append_right _ (List.mem_singleton.mpr rfl))).1
  have goesE : ∀ {gs : GenState} {C : Around} {n : Nat} {r : Resume} {s : Shared}, gs.Goes (model X'.prog X'.w) C (gR X' a go Q) (gY X' a go Q) n r s →
      gs.Goes (model X'.prog X'.w) C (fun n _ r s => ((r = .ok (.ret .none) ∨ r = .ok .next) ∧ (n = 0 ∧ gFin X' a go Q true s)) ∨ ∃ e, r = .error e ∧ False) (gY X' a go Q) n r s := fun h => h
  have doneP : ∀ {s₁ : Shared} {h' : Heap}, gFin X' a go Q true s₁ → (∀ b o, s₁.heap.get? b = some o → h'.get? b = some o) → R (.ok (.ret (.bool true))) { s₁.setGen g .finished with heap := h' } := fun {s₁ h'} hf hk => by
    obtain ⟨σ, H, I, q⟩ := hf
    exact fin true s₁ _ ⟨σ, H, I, q⟩ rfl hk (allBare_setGen I.bare rfl)
  intro m
  induction m with
  | zero =>
    intro s ⟨σ, H, I⟩ ⟨gs, hgs, hgo'⟩
    refine codeAny_builtin F.entry_all_loop ?_
    rw [Around.under_plainId F.plain_all_loop _]
    show wpAny _ B.in1 (pyNext (.ref a) >>= _) _ _ s
    refine wpAny_bind (next_genG (A := B.in1) hh I.nolimit hd (isg I) hgs (goesE hgo') (fun v s₁ gs' hb hv => ?_) (fun s₁ hp h' hk => ?_) fun e s₁ he => he.elim)
    · obtain ⟨b, rfl, ⟨σ1, H1, I1⟩, hf, ht⟩ := hv
      cases b with
      | true => exact (ht rfl s₁ rfl rfl I1.bare).elim
      | false =>
        refine wpAny_bind (wpAny_holding (wpAny_truthy_bool ?_))
        refine wpAny_bind (wpAny_letGo ?_)
        simp only [Bool.false_eq_true, if_false]
        exact wpAny_bind (wpAny_rule (wpAny_pure (fin false s₁ _ (hf rfl) rfl (fun _ _ e => e) (allBare_setGen I1.bare hb))))
    · exact wpAny_bind (wpAny_rule (wpAny_pure (doneP hp.2 hk)))
  | succ m ih =>
    intro s ⟨σ, H, I⟩ ⟨gs, hgs, hgo'⟩
    have hgl : g < s.gens.size := (Array.getElem?_eq_some_iff.mp hgs).1
    refine codeAny_builtin F.entry_all_loop ?_
    rw [Around.under_plainId F.plain_all_loop _]
    show wpAny _ B.in1 (pyNext (.ref a) >>= _) _ _ s
    refine wpAny_bind (wpAny_gsz (n := g + 1) hgl (next_genG (A := B.in1) hh I.nolimit hd (isg I) hgs (goesE hgo') (fun v s₁ gs' hb hv => ?_) (fun s₁ hp h' hk => ?_) fun e s₁ he => he.elim))
    · intro hsz
      obtain ⟨b, rfl, ⟨σ1, H1, I1⟩, hf, ht⟩ := hv
      have hsz1 : g < s₁.gens.size := by
        have q : (s₁.setGen g gs').gens.size = s₁.gens.size := setGen_size _ _ _
        have hsz' : g + 1 ≤ (s₁.setGen g gs').gens.size := hsz
        omega
      cases b with
      | true =>
        refine wpAny_bind (wpAny_holding (wpAny_truthy_bool ?_))
        refine wpAny_bind (wpAny_letGo ?_)
        simp only [if_true]
        refine wpAny_pure ⟨plainId_quiet F.plain_all_loop _, ih _ ⟨σ1, H1, inv_gens I1 rfl rfl (allBare_setGen I1.bare hb)⟩ ⟨gs', setGen_at hsz1, ?_⟩⟩
        exact ht rfl _ rfl rfl (allBare_setGen (s := s₁.setGen g gs') (allBare_setGen I1.bare hb) rfl)
      | false =>
        refine wpAny_bind (wpAny_holding (wpAny_truthy_bool ?_))
        refine wpAny_bind (wpAny_letGo ?_)
        simp only [Bool.false_eq_true, if_false]
        exact wpAny_bind (wpAny_rule (wpAny_pure (fin false s₁ _ (hf rfl) rfl (fun _ _ e => e) (allBare_setGen I1.bare hb))))
    · intro hsz
      exact wpAny_bind (wpAny_rule (wpAny_pure (doneP hp.2 hk)))
end
end DL

set_option Elab.async false
set_option linter.all false
set_option maxRecDepth 100000
set_option maxHeartbeats 2000000
namespace DL
open PySem PySem.Spec PyProof.Rows L2 GenW
theorem over_comp_handled {A : Around} {e : Expr} {n : Nat} {it acc : Value} {env : Env} : (A.over (.compLoop e n it acc env) []).handled = A.handled := rfl
theorem over_comp_frames {A : Around} {e : Expr} {n : Nat} {it acc : Value} {env : Env} {st : List Env} (h : A.frames = some st) (he : (Code.compLoop e n it acc env).envs = [env]) : (A.over (.compLoop e n it acc env) []).frames = some (env :: st) := by
  show pushEnvs (Code.compLoop e n it acc env).envs (pushEnvs (envsOf []) A.frames) = _
  rw [he, h]
  simp [pushEnvs_eq, envsOf]
/-- the generator expression's own scope -/
structure GSc (scope : Scope) : Prop where
  kind : scope.kind = .function
  co : scope.isCoroutine = false
  cell : ∀ y ∈ scope.names, y.2 ≠ .cell
  dot : scope.names.lookup (".0" : Str) = some NameKind.local
section
variable {X : Cx} {j : Nat} {c P : Addr} {elt tgE iter : Expr} {scope : Scope} {own : List (Str × Nat)} {p pos gpos : Pos} {wi : TI} {gt : TG} {te : TE}
theorem pe_allG (hr : Room (j + 1) X.A) (hcalm : X.calm = true) (hN : X.N.Nodup) (hg : Gl X "all") (hm : X.mg "all" = none) (hb : bootBuiltins "all" = some (.builtin "all")) (TB : GxR.TabB X.base X.mg c P) (hcode : X.env.code = .ref c) (S : GSc scope) (ok : BlkOk X.N X.env.scope scope own)
    (hi : PI X tgE iter wi)
    (hgt : ∀ (A : Around) (s : Shared) (H : Hp) (cenv : Env) (fp : List Addr), cenv.scope = scope → PG (gx X A s H cenv fp) tgE gt)
    (he : ∀ (A : Around) (s : Shared) (H : Hp) (C : Addr) (cl : List (Str × Addr)) (code : Value) (fp : List Addr), Room j A → PE (gx X A s H (genEnv scope cl C code builtinsNs X.env) fp) elt te)
    (hs : ∀ v, genFold iter X.env v = pure v)
    (hse : starEach [.GeneratorExp elt [⟨tgE, iter, [], 0⟩] scope gpos] X.env = (false, eval (.GeneratorExp elt [⟨tgE, iter, [], 0⟩] scope gpos) X.env) :: starEach [] X.env := by rfl) :
    PE X (.Call (.Name "all" p) [.GeneratorExp elt [⟨tgE, iter, [], 0⟩] scope gpos] [] pos) (tAllG P wi gt te (own.map (·.2))) := by
  refine ⟨fun pins s σ H Q I h => ?_⟩
  refine wpAny_Call_Name_kw (ld_blt I hg hm hb ?_)
  refine PyProof.Rows.callWith_builtin1 ?_ hse (by rfl)
  rw [hse]
  show wpAny _ _ (spliced ((false, eval (.GeneratorExp elt [⟨tgE, iter, [], 0⟩] scope gpos) X.env) :: backTo pos (starEach [] X.env))) _ _ s
  have hfree : ∀ y ∈ scope.names, y.2 = .free → ∃ c, X.env.cells.lookup y.1 = some c := fun y hy e => by
    rcases ok.free y hy e with k | k
    · exact I.ok.has _ (.inl k)
    · exact I.ok.has _ (.inr k)
  refine Calls.spliced_cons (wpAny_GeneratorExp_make S.co (closure_ok hfree) S.cell S.dot S.kind (by have := hr.dp; omega) ?_ hs)
  refine thn (hi.run pins s σ H _ I h) fun xv s1 hx => thn hx fun itv s2 h2 => ?_
  obtain ⟨it, fp, tn, J, H2, rfl, I2, T, st2, f2, ⟨ps, hP, ht⟩, q⟩ := h2
  have hPs : s2.heap.get? P = some { cls := .none, data := .fields ps } := I2.hok P _ hP
  have hPlt : P < s2.heap.objs.size := Heap.lt_size hPs
  have nP : ∀ b, H2 b = none → b ≠ P := fun b e z => by rw [z, hP] at e; cases e
  have cd : PySem.W.CodeHd s2.heap c P := TB.code.keeps fun b u e => I2.bk b u e
  refine ⟨I2.nolimit, ?_⟩
  have cont : ∀ (code : Value) (h3 : Heap) (tk : Nat) (more : Array Value), Heap.ExtBut P s2.heap h3 → s2.heap.objs.size ≤ h3.objs.size → h3.get? P = some { cls := .none, data := .fields (ps ++ more) } → TriplesOk (ps ++ more).toList →
      wpAny (model X.prog X.w) X.A (builtinsFor X.env.globals X.env.builtins) (fun bi s₄ =>
        ∀ h', h'.Ns s₄.heap.objs.size (fun y => if y = ".0" then some (.ref it) else none) → Heap.SameBut s₄.heap.objs.size (s₄.heap.push { cls := .type "frame", data := .dict #[] }) h' →
          wpAny (model X.prog X.w) X.A (spliced (backTo pos (starEach [] X.env))) (fun us s6 => wpAny (model X.prog X.w) X.A (call (.builtin "all") (.ref h'.objs.size :: us)) (EP X pins σ Q) X.xe s6) X.xe { s₄ with
            gens := s₄.gens.push (.fresh (.compStart (.GeneratorExp elt [⟨tgE, iter, [], 0⟩] scope gpos) 0 (.ref it) .none (genEnv scope (cloFrom X.env.cells scope.names []) s₄.heap.objs.size code bi X.env))),
            toks := s₄.toks + 1 + 1 + 1,
            heap := h'.push { cls := .type "generator", data := .fields #[.int s₄.gens.size 0, .str "<genexpr>" (s₄.toks + 1), .str (X.env.qual ++ "<genexpr>") (s₄.toks + 1 + 1)] } }) X.xe { s2 with heap := h3, toks := tk } := by
    intro code h3 tk more hx hsz hP3 ht3
    obtain ⟨bm, ob, e1, e2, e3, e4, e5, e6, e7, e8⟩ := TB.bm
    have I4 : Inv X pins σ (upd H2 P (.tbl (ps ++ more))) { s2 with heap := h3, toks := tk } := GxR.inv_tab (g' := s2.gens) (d' := s2.drawn) I2 hP (fun b o hb e => hx b o hb e) hP3 I2.bare
    have keep3 : ∀ b u, b ≠ P → s2.heap.get? b = some u → h3.get? b = some u := fun b u hb e => hx b u hb e
    refine wpAny_builtinsFor (m := X.mg) (by rw [I2.ok.glob]; exact (I2.mod.glob.keeps I2.bk).extBut hx TB.gP) e1 e2 (keep3 _ _ e4 (I2.bk _ _ e5)) e6 e7 e8 ?_
    intro h' hns hsb
    have f4 : ∀ b ∈ fp, FpOk X pins (upd H2 P (.tbl (ps ++ more))) b ∧ b < h3.objs.size := fun b hb => by
      obtain ⟨o, eo, _⟩ := T.obj _ _ st2 b hb
      refine ⟨⟨?_, (f2 b hb).2⟩, Nat.lt_of_lt_of_le (Heap.lt_size eo) hsz⟩
      rw [upd_ne (nP b (f2 b hb).1)]
      exact (f2 b hb).1
    obtain ⟨W, ⟨m0, w0⟩, stop, turn⟩ := q (upd H2 P (.tbl (ps ++ more))) ⟨⟨_, upd_same, ht3⟩, fun b hb => upd_ne hb⟩
    have hsz' : h'.objs.size = h3.objs.size + 1 := by rw [hsb.1, Heap.size_push]
    refine Calls.spliced_nil ?_
    generalize hgo : ({ cls := .type "generator", data := .fields #[.int (s2.gens.size : Nat) 0, .str "<genexpr>" (tk + 1), .str (X.env.qual ++ "<genexpr>") (tk + 1 + 1)] } : Obj) = go
    have hpush : ∀ h : Heap, (h.push go).get? h.objs.size = some go := fun h => by subst hgo; exact Heap.get?_push_size _ rfl
    have hgd : ∀ v, go.data ≠ .cell v := fun v z => by subst hgo; cases z
    have hgen : ∀ h : Heap, h.get? h'.objs.size = some go → h.IsGen h'.objs.size s2.gens.size := fun h e => by
      subst hgo
      exact ⟨_, _, _, e, rfl, rfl, rfl⟩
    have hA0 : (X.A.in1.in1).frames = some X.stack := I.ok.frames
    have hAh : (gA X.A.in1.in1 elt tgE iter scope gpos it (genEnv scope (cloFrom X.env.cells scope.names []) h3.objs.size code builtinsNs X.env)).handled = none := hr.hd
    have I5 := gen_start (A := gA X.A.in1.in1 elt tgE iter scope gpos it (genEnv scope (cloFrom X.env.cells scope.names []) h3.objs.size code builtinsNs X.env)) (code := code) (tk := tk + 1 + 1 + 1)
      (gs := .fresh (.compStart (.GeneratorExp elt [⟨tgE, iter, [], 0⟩] scope gpos) 0 (.ref it) .none (genEnv scope (cloFrom X.env.cells scope.names []) h3.objs.size code builtinsNs X.env)))
      I4 ok S.cell hN f4 hAh (over_comp_frames hA0 rfl) hcalm hns hsb rfl (hpush h') hgd
    have st4 : tn 0 (h'.push go) := T.keep _ _ _ st2 fun b hb o e => by
      have h1 := keep3 b o (nP b (f2 b hb).1) e
      exact Heap.get?_push_of_some _ ((hsb.2 b (Nat.ne_of_lt (Heap.lt_size h1))).trans (Heap.get?_push_of_some _ h1))
    have n4 : ∀ b ∈ fp, (upd H2 P (.tbl (ps ++ more))) b = none := fun b hb => (f4 b hb).1.1
    have afp : h'.objs.size ∉ fp := fun hb => by
      have h1 : (h'.objs.size : Nat) < h3.objs.size := (f4 _ hb).2
      rw [hsz'] at h1
      exact absurd h1 (Nat.not_lt.mpr (Nat.le_succ _))
    have hRoom : Room j (gA X.A.in1.in1 elt tgE iter scope gpos it (genEnv scope (cloFrom X.env.cells scope.names []) h3.objs.size code builtinsNs X.env)) := by
      refine ⟨hAh, ?_, ?_⟩
      · have := hr.dp
        show X.A.depth + 1 + 3 * j + 5 < _
        omega
      · have := hr.un
        show X.A.units + 1 + 1 + 3 + 16 * j + 200 < _
        omega
    have hgtX := hgt (gA X.A.in1.in1 elt tgE iter scope gpos it (genEnv scope (cloFrom X.env.cells scope.names []) h3.objs.size code builtinsNs X.env)) { s2 with heap := h3, toks := tk } (upd H2 P (.tbl (ps ++ more))) (genEnv scope (cloFrom X.env.cells scope.names []) h3.objs.size code builtinsNs X.env) fp rfl
    have heX := he (gA X.A.in1.in1 elt tgE iter scope gpos it (genEnv scope (cloFrom X.env.cells scope.names []) h3.objs.size code builtinsNs X.env)) { s2 with heap := h3, toks := tk } (upd H2 P (.tbl (ps ++ more))) h3.objs.size (cloFrom X.env.cells scope.names []) code fp hRoom
    refine call_function_tree F.kind_all F.plain_all F.entry_all (F.args_all1 _) ?_
    unfold Builtin.«all»
    refine wpAny_bind (m := oneArg "all" _) (wpAny_pure ?_)
    refine wpAny_bind (wpAny_pyIter_gen (hgen _ (hpush h')) ?_)
    refine wpAny_pure ⟨plainId_quiet F.plain_all_loop _, ?_⟩
    refine all_turns (X' := gX X X.A.in1.in1 { s2 with heap := h3, toks := tk } (upd H2 P (.tbl (ps ++ more))) (genEnv scope (cloFrom X.env.cells scope.names []) h3.objs.size code builtinsNs X.env) fp elt tgE iter scope gpos it) (go := go) (g := s2.gens.size) (Q := Q)
      hr.hd (by have := hr.dp; omega) hgen (fun b s6 s7 hf os kk bare => ?_) m0 _ ⟨_, _, I5⟩ ⟨_, Array.getElem?_push_size .., rfl, ?_⟩
    · obtain ⟨σ6, H6, I6, q6⟩ := hf
      have un : Un (frs X.stack) fp (upd H2 P (.tbl (ps ++ more))) H6 h3 s7.heap := I6.base.trans (Un.kept kk)
      have J7 : Inv X pins σ H6 s7 := I4.call' (ch := fp) (os.trans I6.os) un (I6.hok.kept kk) bare fun b hb => ⟨(f4 b hb).1.2.2.2.1, (f4 b hb).1.2.1, (f4 b hb).1.2.2.2.2.1, (f4 b hb).1.2.2.2.2.2⟩
      exact ⟨.bl b, H6, J7, rfl, q6⟩
    · refine seg_gstart (i := 0) (seg_gloop hcalm T S.co hgtX heX stop turn m0 0 _ _ _ w0 (inv_gens I5 rfl rfl (allBare_setGen I5.bare rfl)) st4 n4 afp) (fun A Q E hq => T.self A 0 _ Q E st4 hq) rfl
  cases hf : codeAmong gpos ps.toList with
  | none =>
    refine wpAny_genexprCodeX hcode (cd.code hPs ht) (cd.tab hPs) hf fun c' h' tk hx hge hlt hco' _ htab' _ => ?_
    obtain ⟨o1, vs, f1, tf, fl, tg, inF, tx, tt, op, _, _, _, _, _, _, _, _, _, htr, _⟩ := hco'
    exact cont _ h' tk _ hx (Nat.le_trans hge (Nat.le_of_lt hlt)) htab'.2 htr
  | some cv =>
    refine wpAny_genexprCode_hit hcode (cd.code hPs ht) hf ?_
    exact cont cv s2.heap s2.toks #[] (Heap.ExtBut.refl _ _) (Nat.le_refl _) (by rw [Array.append_empty]; exact hPs) (by rw [Array.append_empty]; exact ht)
end
end DL

set_option Elab.async false
set_option linter.all false
set_option maxRecDepth 100000
set_option maxHeartbeats 2000000
namespace DL
open PySem PySem.Spec PyProof.Rows L2
def allL (tg : Tg) (e : M) (E : En) : List D → G → Option (Bool × G)
  | [], g => some (true, g)
  | d :: r, g => match tg.parts d with
    | none => none
    | some ps => match e (setsE ps E) g with
      | some (.bool true, g1) => allL tg e E r g1
      | some (.bool false, g1) => some (false, g1)
      | _ => none
def eAllG (tg : Tg) (ml : ML) (e : M) (vs : List Nat) : M := fun E g => if (vs.any (isOwn E) || !(tg.slots.all fun i => vs.contains i)) = true then none else match ml E g with
  | none => none
  | some (ds, g1) => match allL tg e (wipeE E vs) ds g1 with
    | none => none
    | some (b, g2) => some (.bool b, g2)
theorem tabbed_ped {k : Kx} {P : Addr} {g : G} {H H' : Hp} (hP : P ∈ k.T) (ga : GA k H g) (t : GxR.TabG H P) (h : GxR.Tabbed P H H') : PEd k g H H' := by
  obtain ⟨ps, hps, _⟩ := t
  have ne : ∀ {b : Addr} {xs : List V}, H b = some (.lst xs) → b ≠ P := fun {b xs} e z => by rw [z, hps] at e; cases e
  refine ⟨fun b o n e => ?_, ⟨?_, ?_, fun P' hP' => ?_⟩⟩
  · rw [h.2 b fun z => n (.inr (.inr (by rw [z]; exact hP)))]; exact e
  · intro ho; rw [h.2 _ (ne (ga.b ho))]; exact ga.b ho
  · intro ho; rw [h.2 _ (ne (ga.c ho))]; exact ga.c ho
  · by_cases e : P' = P
    · rw [e]; exact h.1
    · obtain ⟨qs, e1, e2⟩ := ga.t P' hP'
      exact ⟨qs, by rw [h.2 _ e]; exact e1, e2⟩
section
variable {k : Kx} {f : Fx} {sm sm' : Bool} {X : Cx} {j : Nat} {c P : Addr} {elt tgE iter : Expr} {scope : Scope} {own : List (Str × Nat)} {p pos gpos : Pos} {tg : Tg} {ml : ML} {m : M}
theorem t_allG (hP : P ∈ k.T) {σ : L2.St} {H : Hp} {Q : VK} (w : tE k f sm (eAllG tg ml m (own.map (·.2))) σ H Q) : tAllG P (tI k f ml) (tGx k tg) (tEx k sm' m) (own.map (·.2)) σ H Q := by
  obtain ⟨ex, E, μ, g, d, g', I, e, q⟩ := w
  generalize hvs : own.map (·.2) = vs at *
  unfold eAllG at e
  split at e
  · cases e
  · rename_i hc
    have hc1 : ∀ v ∈ vs, isOwn E v = false := fun v hv => by
      cases h : isOwn E v with
      | false => rfl
      | true => exact absurd (by rw [Bool.or_eq_true]; exact .inl (List.any_eq_true.mpr ⟨v, hv, h⟩)) hc
    have hc2 : ∀ i ∈ tg.slots, i ∈ vs := fun i hi => by
      by_cases h : (tg.slots.all fun i => vs.contains i) = true
      · exact List.contains_iff_mem.mp (List.all_eq_true.mp h i hi)
      · exact absurd (by rw [Bool.or_eq_true]; right; simpa using h) hc
    split at e
    · cases e
    · rename_i its g1 h1
      split at e
      · cases e
      · rename_i b g2 ha
        cases e
        refine ⟨ex, E, μ, g, its, g1, I, h1, fun J pn H1 p1 hpn hw => ⟨p1.ga.t P hP, fun H2 hT => ?_⟩⟩
        have p2 : PEd k g1 H1 H2 := tabbed_ped hP p1.ga (p1.ga.t P hP) hT
        have I1 := ((I.step p1).exS (ex' := pn ++ ex) fun p hp => (List.mem_append.mp hp).elim (hpn p) ((I.step p1).exs p)).step p2
        obtain ⟨I2, be⟩ := I1.wipe vs hc1
        refine ⟨fun i n H3 => n = its.length - i ∧ i ≤ its.length ∧ ∃ g3, Ist k f (pn ++ ex) (wipeE E vs) μ g3 (L2.wipe σ vs) H3 ∧ Fr0 k H H3 ∧ allL tg m (wipeE E vs) (its.drop i) g3 = some (b, g'), ⟨its.length, rfl, Nat.zero_le _, g1, I2, (p1.trans p2).fr, ha⟩, fun i H3 ⟨hn, hi, g3, I3, fr, el⟩ => ?_, fun i n H3 ⟨hn, hi, g3, I3, fr, el⟩ => ?_⟩
        · have hi' : i = its.length := by omega
          subst hi'
          obtain ⟨w1, w2⟩ := hw (BE f true (wipeE E vs) μ) H3 (fun b z => I3.be true z) (fun p hp => I3.exs p (List.mem_append_left _ hp))
          rw [List.drop_length] at el
          cases el
          exact ⟨w1 _ (Nat.le_refl _), q _ H3 ⟨fr, I3.ga⟩ (.bl _)⟩
        · have hl : i < its.length := by omega
          obtain ⟨w1, w2⟩ := hw (BE f true (wipeE E vs) μ) H3 (fun b z => I3.be true z) (fun p hp => I3.exs p (List.mem_append_left _ hp))
          rw [List.drop_eq_getElem_cons hl] at el
          unfold allL at el
          obtain ⟨go, yl⟩ := w2 i its[i] (List.getElem?_eq_getElem hl)
          refine ⟨go, fun x H4 hy => ?_⟩
          obtain ⟨s4, rx⟩ := yl x H4 hy
          have I4 := I3.step (.same s4 I3.ga)
          split at el
          · cases el
          · rename_i ps hps
            have hsl : ∀ p ∈ ps, p.1 ∈ vs := fun p hp => hc2 _ (parts_slots hps p hp)
            refine ⟨f, _, _, μ, g3, _, ps, I4, rx, hps, fun us ru => ?_⟩
            have I5 := I4.sets ps ru
            refine ⟨?_, ?_⟩
            · rw [wipe_sets _ _ vs fun p hp => ?_]
              · exact wipe_wipe σ vs
              · have hm := (List.of_mem_zip hp).1
                obtain ⟨p', hp', e'⟩ := List.mem_map.mp hm
                rw [← e']
                exact hsl p' hp'
            · split at el
              · rename_i g4 h4
                refine ⟨f, _, _, μ, g3, _, g4, I5, h4, fun v H5 p5 r5 => ?_⟩
                cases r5
                exact ⟨true, rfl, iteT ⟨by omega, hl, g4, I4.step p5, (fr.trans (.of s4)).trans p5.fr, el⟩⟩
              · rename_i g4 h4
                cases el
                refine ⟨f, _, _, μ, g3, _, g', I5, h4, fun v H5 p5 r5 => ?_⟩
                cases r5
                exact ⟨false, rfl, iteF (q _ H5 ⟨(fr.trans (.of s4)).trans p5.fr, p5.ga⟩ (.bl _))⟩
              · cases el
theorem de_allG (hP : P ∈ k.T) (hr : Room (j + 1) X.A) (hcalm : X.calm = true) (hN : X.N.Nodup) (hg : Gl X "all") (hm : X.mg "all" = none) (TB : GxR.TabB X.base X.mg c P) (hcode : X.env.code = .ref c) (S : GSc scope) (ok : BlkOk X.N X.env.scope scope own)
    (hi : PI X tgE iter (tI k f ml))
    (hgt : ∀ (f : Fx) (A : Around) (s : Shared) (H : Hp) (cenv : Env) (fp : List Addr), cenv.scope = scope → PG (gx X A s H cenv fp) tgE (tG k f tg))
    (he : ∀ (f : Fx) (A : Around) (s : Shared) (H : Hp) (C : Addr) (cl : List (Str × Addr)) (code : Value) (fp : List Addr), Room j A → PE (gx X A s H (genEnv scope cl C code builtinsNs X.env) fp) elt (tE k f false m))
    (hs : ∀ v, genFold iter X.env v = pure v := by intro _; rfl)
    (hse : starEach [.GeneratorExp elt [⟨tgE, iter, [], 0⟩] scope gpos] X.env = (false, eval (.GeneratorExp elt [⟨tgE, iter, [], 0⟩] scope gpos) X.env) :: starEach [] X.env := by rfl) :
    PE X (.Call (.Name "all" p) [.GeneratorExp elt [⟨tgE, iter, [], 0⟩] scope gpos] [] pos) (tE k f sm (eAllG tg ml m (own.map (·.2)))) :=
  pe_of (pe_allG hr hcalm hN hg hm (by decide +kernel) TB hcode S ok hi (fun A s H cenv fp hsc => pg_x fun f => hgt f A s H cenv fp hsc) (fun A s H C cl code fp hR => pe_x (sm := false) fun f => he f A s H C cl code fp hR) hs hse) fun σ H Q w => t_allG hP w
end
end DL

set_option Elab.async false
set_option linter.all false
set_option maxRecDepth 100000
set_option maxHeartbeats 2000000
namespace DL
open PySem PySem.Spec PyProof.Rows L2
/-! ### more lists -/
/-- one's own list and another one, put together anew -/
def nCatO (i : Nat) (b : M) : ML := fun E g => match E[i]? with
  | some (.own ds) => match b E g with
    | some (.list es, g1) => if ds.length + es.length ≤ sizeLine then some (ds ++ es, g1) else none
    | _ => none
  | _ => none
/-- sorted: a list of pairs of ints -/
def prD (p : Int × Int) : D := .tuple [.int p.1, .int p.2]
def isPrs : List D → Option (List (Int × Int))
  | [] => some []
  | .tuple [.int a, .int b] :: r => (isPrs r).map ((a, b) :: ·)
  | _ => none
/-- what a thing is that is sorted: any list that is sorted so -/
def SrtOf (xs ys : List D) : Prop := ys.Perm xs
section
variable {k : Kx} {f : Fx} {sm : Bool} {X : Cx} {pos p : Pos} {b : Expr} {mb : M}
theorem dn_catO (i : Nat) {x : Str} (hN : X.N[i]? = some x) (hb : PE X b (tE k f true mb)) (hv : Vis X.env.scope x := by first | exact Or.inl rfl | exact Or.inr (Or.inl rfl) | exact Or.inr (Or.inr rfl)) (hd : (x == ("__debug__" : Str)) = false := by decide)
    (hcd : (x == ("__classdict__" : Str)) = false := by decide) : PE X (.BinOp (.Name x p) .Add b pos) (tN k f true (nCatO i mb)) := pe_of (pe_op op_cat (pv i hN hv hd hcd) hb) fun σ H Q ⟨ex, E, μ, g, d, g', I, e, q⟩ => by
  unfold nCatO at e
  split at e
  · rename_i ds hi
    split at e
    · rename_i es g1 h1
      split at e
      · rename_i hl
        cases e
        obtain ⟨s1, _, s3, vs, s4, s5⟩ := I.own i ds hi
        refine ⟨_, s1, ex, E, μ, g, _, g', I, h1, fun v H1 p1 r1 => ?_⟩
        have I1 := I.step p1
        obtain ⟨t1, _, t3, us, t4, t5⟩ := I1.own i ds hi
        cases r1 with
        | lst n1 e1 r1 =>
          refine ⟨_, _, _, _, rfl, rfl, t4, e1, by rw [t5.length, r1.length]; exact hl, fun q' hq => ?_⟩
          exact q q' _ H1 p1 hq (t5.append r1)
      · cases e
    · cases e
  · cases e
end
theorem tyname {X : Cx} {T : String} {x : Str} (hg : Gl X x) (hm : X.mg x = none) (hb : bootBuiltins x = some (.type T)) (hn : x ≠ "__name__") (hd : (x == ("__debug__" : Str)) = false) : TyName X T x := ⟨hg, hm, hb, hn, hd⟩

/-! ### defs that stand -/
section
variable {P : Program} {w : World} {k : Kx} {mg : Str → Option Value} {base : Heap}
/-- a def of the module, its promise and how it is called -/
def Has (P : Program) (w : World) (k : Kx) (mg : Str → Option Value) (base : Heap) (x : Str) (j : Nat) (ps : List Str) (kws : List (List Str × List Nat)) (F : DF) : Prop :=
  ∃ fa fd, mg x = some (.ref fa) ∧ FnOk P w k.K mg base CX0 j fa fd ps (spD k ps.length F) ∧ PySem.W.keepIn k.K (.ref fa) = true ∧ Binds k.K fd ps [] ∧ ∀ q ∈ kws, q.2.length = ps.length ∧ KwB k.K fd ps q.1 q.2
theorem Has.mono {x : Str} {i j : Nat} {ps : List Str} {kws : List (List Str × List Nat)} {F : DF} (h : Has P w k mg base x i ps kws F) (hij : i ≤ j) : Has P w k mg base x j ps kws F :=
  let ⟨fa, fd, h1, h2, h3⟩ := h; ⟨fa, fd, h1, h2.mono hij, h3⟩
/-- a weaker reading of it -/
theorem Has.imp {x : Str} {j : Nat} {ps : List Str} {kws : List (List Str × List Nat)} {F F' : DF} (h : Has P w k mg base x j ps kws F) (hF : ∀ ds g r, F' ds g = some r → F ds g = some r) : Has P w k mg base x j ps kws F' := by
  obtain ⟨fa, fd, h1, h2, h3⟩ := h
  exact ⟨fa, fd, h1, h2.imp fun vs H Q E ⟨B, ds, g, d, g', a1, a2, a3, a4, a5, a6, a7⟩ => ⟨B, ds, g, d, g', a1, a2, a3, a4, a5, hF _ _ _ a6, a7⟩, h3⟩
theorem has_mk {x qual : Str} {st : Stmt} {fa : Addr} {fd : FuncData} {N ps : List Str} {j : Nat} {m : MS} {kws : List (List Str × List Nat)} (F : Fun k.K x qual st fa fd) (g : mg x = some (.ref fa)) (S : FnScope N ps (defScope st))
    (hbody : ∀ (cdv : Value) (A : Around) (outer : List Env) (s : Shared) (H : Hp) (E : XK) (f : Fx), Room j (A.deeper (envOfC qual (defScope st) s.heap.objs.size fa cdv)) →
      PSs (cxOf CX0 P w k.K mg base N qual (defScope st) fa cdv A outer s H E).nox (defBody st) (tS k f [] m))
    (hb : Binds k.K fd ps []) (hk : ∀ q ∈ kws, q.2.length = ps.length ∧ KwB k.K fd ps q.1 q.2) : Has P w k mg base x (j + 1) ps kws (runD N.length m) := ⟨fa, fd, g, def_ok F S hbody, F.kp, hb, hk⟩
/-- .. with its code object at c -/
structure FunC (K : PySem.W.Frag) (x qual : Str) (st : Stmt) (f : Addr) (fd : FuncData) (c : Addr) : Prop where
  fn : Fun K x qual st f fd
  ex : ∃ (oc : Value) (od : Option Addr) (kV doc pm : Value) (an : Option Addr) (ct : Value) (osl : Array (Option Value)),
    fd = PySem.W.fnOf x qual (defArgs st) (defBody st) (defScope st) .none kV doc pm an (.ref c) ct ∧ K.lookup f = some ⟨oc, od, .func fd, osl⟩ ∧ PySem.W.codeIn K (.ref c) qual = true
theorem has_mkC {x qual : Str} {st : Stmt} {fa : Addr} {fd : FuncData} {c : Addr} {N ps : List Str} {j : Nat} {m : MS} {kws : List (List Str × List Nat)} (F : FunC k.K x qual st fa fd c) (g : mg x = some (.ref fa)) (S : FnScope N ps (defScope st))
    (hbody : ∀ (A : Around) (outer : List Env) (s : Shared) (H : Hp) (E : XK) (f : Fx), Room j (A.deeper (envOfC qual (defScope st) s.heap.objs.size fa (.ref c))) →
      PSs (cxOf CX0 P w k.K mg base N qual (defScope st) fa (.ref c) A outer s H E).nox (defBody st) (tS k f [] m))
    (hb : Binds k.K fd ps []) (hk : ∀ q ∈ kws, q.2.length = ps.length ∧ KwB k.K fd ps q.1 q.2) : Has P w k mg base x (j + 1) ps kws (runD N.length m) := by
  refine ⟨fa, fd, g, ?_, F.fn.kp, hb, hk⟩
  obtain ⟨oc, od, kV, doc, pm, an, ct, osl, rfl, lk, hcd⟩ := F.ex
  refine fn_of lk hcd S (fun vs H Q E ⟨B, ds, g, d, g', hl, _, _, _, r, _⟩ => r.length.trans hl) fun A outer s H vs Q E hr ⟨B, ds, g, d, g', hl, h0, hb, ga, r, hF, q⟩ => ?_
  refine ⟨_, (hbody A outer s H E ⟨B, H⟩ hr).nox, startE N.length ds, fun _ => 0, g, ?_⟩
  unfold runD at hF
  split at hF
  · rename_i d1 E1 g1 h1
    cases hF
    exact ⟨_, ist_start h0 hb ga r, h1, fun v H' fr ga' r' => q v H' fr ga' r'⟩
  · rename_i E1 g1 h1
    cases hF
    exact ⟨_, ist_start h0 hb ga r, h1, fun σ μ H' I => q _ H' I.fr I.ga .non⟩
  · cases hF
end
section
variable {k : Kx} {f : Fx} {sm : Bool} {X : Cx} {j i : Nat} {ps : List Str} {kws : List (List Str × List Nat)} {x : Str} {p pos : Pos} {e : Expr} {es : List Expr} {ml : ML} {F : DF}
theorem de_fun (hF : Has X.prog X.w k X.mg X.base x i ps kws F) (hK : X.K = k.K) (hr : Room j X.A) (hij : i ≤ j) (hg : Gl X x) 
    (ha : PA X (e :: es) (tL k f sm ml)) (hn : ∀ E g ds g', ml E g = some (ds, g') → ds.length = ps.length) (hdb : (x == ("__debug__" : Str)) = false := by decide) (he : starEach (e :: es) X.env = (false, eval e X.env) :: starEach es X.env := by rfl) (hpl : (backTo pos (starEach es X.env)).any (·.1) = false := by rfl) :
    PE X (.Call (.Name x p) (e :: es) [] pos) (tE k f sm (eCall F ml)) := by
  obtain ⟨fa, fd, h1, h2, h3, h4, _⟩ := hF
  rw [← hK] at h2 h3 h4
  exact de_call h2 (hr.mono hij) hg h1 h3 h4 ha hn hdb he hpl
theorem de_funK {ks : List Str} {is : List Nat} {kwl : List Keyword} (hF : Has X.prog X.w k X.mg X.base x i ps kws F) (hK : X.K = k.K) (hr : Room j X.A) (hij : i ≤ j) (hg : Gl X x) (hm : (ks, is) ∈ kws)
    (ha : PK X kwl (tL k f sm ml)) (hn : ∀ E g ds g', ml E g = some (ds, g') → ds.length = ks.length) (hall : (backToKw pos (keywordEach kwl X.env)).all (·.1.isSome) = true := by rfl) (hks : (backToKw pos (keywordEach kwl X.env)).filterMap (·.1) = ks := by rfl)
    (hdb : (x == ("__debug__" : Str)) = false := by decide) (hpl : ((backTo pos (starEach [] X.env)).any (·.1) || (backToKw pos (keywordEach kwl X.env)).any (·.1.isNone)) = false := by rfl) :
    PE X (.Call (.Name x p) [] kwl pos) (tE k f sm (eCallK F is ml)) := by
  obtain ⟨fa, fd, h1, h2, h3, h4, h5⟩ := hF
  obtain ⟨h6, h7⟩ := h5 _ hm
  rw [← hK] at h2 h3 h7
  exact de_callK h2 (hr.mono hij) hg h1 h3 h7 ha h6 hn hall hks hdb hpl
end
end DL

set_option Elab.async false
set_option linter.all false
set_option maxRecDepth 100000
set_option maxHeartbeats 2000000
namespace DL
open PySem PySem.Spec PyProof.Rows L2
/-! ### sorted: pairs of ints -/
def leP (a b : Int × Int) : Bool := decide (a.1 < b.1 ∨ (a.1 = b.1 ∧ a.2 ≤ b.2))
def fSortP : List D → Option D
  | [.list ds] => match isPrs ds with
    | some ps => some (.list ((ps.mergeSort leP).map prD))
    | none => none
  | _ => none
def kOf (H : Hp) : V → Int × Int
  | .ref t => match H t with
    | some (.tup [.int i, .int j]) => (i, j)
    | _ => (0, 0)
  | _ => (0, 0)
theorem isPrs_map : ∀ {ds : List D} {ps : List (Int × Int)}, isPrs ds = some ps → ds = ps.map prD
  | [], _, h => by cases h; rfl
  | .tuple [.int a, .int b] :: r, _, h => by
    unfold isPrs at h
    cases e : isPrs r with
    | none => rw [e] at h; cases h
    | some q => rw [e] at h; cases h; rw [isPrs_map e]; rfl
theorem rp_pairs {k : Kx} {H : Hp} {B : Addr → Prop} : ∀ {xs : List V} {ps : List (Int × Int)}, RpA k H B xs (ps.map prD) → (∀ x ∈ xs, ∃ t, x = V.ref t ∧ ¬ B t ∧ H t = some (.tup [.int (kOf H x).1, .int (kOf H x).2])) ∧ xs.map (kOf H) = ps
  | _, [], r => by cases r; exact ⟨fun x h => absurd h (by simp), rfl⟩
  | _, p :: ps, r => by
    cases r with
    | cons r1 r2 =>
      obtain ⟨h1, h2⟩ := rp_pairs r2
      cases r1 with
      | tup nb h r3 =>
        rename_i a xs
        cases r3 with
        | cons r4 r5 =>
          cases r5 with
          | cons r6 r7 =>
            cases r7
            cases r4; cases r6
            have hk : kOf H (.ref a) = p := by
              unfold kOf
              simp only [h]
            refine ⟨fun x hx => ?_, ?_⟩
            · rcases List.mem_cons.mp hx with e | hx
              · subst e
                exact ⟨a, rfl, nb, by rw [hk]; exact h⟩
              · exact h1 x hx
            · rw [List.map_cons, hk, h2]
theorem pairs_rp {k : Kx} {H : Hp} {B : Addr → Prop} (κ : V → Int × Int) : ∀ {ys : List V}, (∀ x ∈ ys, ∃ t, x = V.ref t ∧ ¬ B t ∧ H t = some (.tup [.int (κ x).1, .int (κ x).2])) → RpA k H B ys ((ys.map κ).map prD)
  | [], _ => .nil
  | y :: ys, h => by
    obtain ⟨t, rfl, nb, ht⟩ := h y (List.mem_cons_self ..)
    exact .cons (.tup nb ht (.cons (.int _) (.cons (.int _) .nil))) (pairs_rp κ fun x hx => h x (List.mem_cons_of_mem _ hx))
theorem leP_no {a b : Int × Int} : leP a b = true ↔ SrtO.lexB b a = false := by
  rw [SrtO.lexB_no]
  unfold leP
  rw [decide_eq_true_eq]
  omega
theorem cd_sortP {k : Kx} : CaD k (rSortedPO k.K) fSortP := by
  intro B H xs ds z Q hB r hh q
  unfold fSortP at hh
  split at hh
  · rename_i ds0
    split at hh
    · rename_i ps hp
      cases hh
      cases r with
      | cons r1 r2 =>
        cases r2
        cases r1 with
        | lst n1 h1 r1 =>
          rw [isPrs_map hp] at r1
          obtain ⟨a1, a2⟩ := rp_pairs r1
          refine ⟨_, _, kOf H, rfl, .of h1, fun x hx => ?_, fun ys p hs hst hn => ?_⟩
          · obtain ⟨t, e, _, ht⟩ := a1 x hx
            exact ⟨t, e, ht⟩
          · refine q _ _ (Same.upd hn) (.newL hB hn ?_)
            have hy := pairs_rp (k := k) (B := B) (kOf H) (ys := ys) fun x hx => a1 x (hst.perm.mem_iff.mp hx)
            have e : ys.map (kOf H) = ps.mergeSort leP := by
              refine List.Perm.eq_of_pairwise (le := fun a b => leP a b = true) (fun a b _ _ h1 h2 => ?_) ?_ (List.pairwise_mergeSort (fun a b c h1 h2 => ?_) (fun a b => ?_) ps) ?_
              · unfold leP at h1 h2
                rw [decide_eq_true_eq] at h1 h2
                exact Prod.ext (by omega) (by omega)
              · have := SrtO.srtd_map (lt := SrtO.lexB) (f := kOf H) (l := ys) hs
                exact this.imp fun h => leP_no.mpr h
              · unfold leP at h1 h2 ⊢
                rw [decide_eq_true_eq] at h1 h2 ⊢
                omega
              · unfold leP
                rw [Bool.or_eq_true, decide_eq_true_eq, decide_eq_true_eq]
                omega
              · refine ((hst.perm.map (kOf H)).trans ?_).trans (List.mergeSort_perm ps leP).symm
                rw [a2]
            rw [e] at hy
            exact hy
    · cases hh
  · cases hh
end DL

set_option Elab.async false
set_option linter.all false
set_option maxRecDepth 100000
set_option maxHeartbeats 2000000
namespace DL
open PySem PySem.Spec PyProof.Rows L2
/-! ### the spring itself -/
abbrev grD : D := .dict [(.none, .none)]
section
variable {k : Kx} {H : Hp} {g : G}
theorem GA.ne (ho : k.on = true) (ga : GA k H g) : k.β ≠ k.γ := fun e => by
  have h1 := ga.b ho
  have h2 := ga.c ho
  rw [e, h2] at h1
  cases hd : g.deep with
  | nil => rw [hd] at h1; cases h1
  | cons n r => rw [hd] at h1; cases h1
theorem GA.setG (ho : k.on = true) (ga : GA k H g) (r : List Int) : PEd k ⟨r, g.p, g.q⟩ H (upd H k.γ (.lst (r.map .int))) := by
  refine ⟨fun b o n h => ?_, fun _ => ?_, fun _ => upd_same, fun P hP => ?_⟩
  · rw [upd_ne fun e => n (.inr (.inl ⟨ho, e⟩))]; exact h
  · rw [upd_ne (ga.ne ho)]; exact ga.b ho
  · obtain ⟨ps, e, t⟩ := ga.t P hP
    refine ⟨ps, ?_, t⟩
    rw [upd_ne fun z => by rw [z, ga.c ho] at e; cases e]; exact e
theorem GA.setB (ho : k.on = true) (ga : GA k H g) (p q : Int) : PEd k ⟨g.deep, p, q⟩ H (upd H k.β (.lst [.ref k.γ, .int p, .int q])) := by
  refine ⟨fun b o n h => ?_, fun _ => upd_same, fun _ => ?_, fun P hP => ?_⟩
  · rw [upd_ne fun e => n (.inl ⟨ho, e⟩)]; exact h
  · rw [upd_ne (Ne.symm (ga.ne ho))]; exact ga.c ho
  · obtain ⟨ps, e, t⟩ := ga.t P hP
    refine ⟨ps, ?_, t⟩
    rw [upd_ne fun z => by rw [z, ga.b ho] at e; cases e]; exact e
end
def eSp (i : Nat) (m : M) : M := fun E g => match m E g with
  | some (.dict [], g1) => some (match i with | 0 => grD | 1 => .int g1.p | _ => .int g1.q, g1)
  | _ => none
def eGr0 (m : M) : M := fun E g => match m E g with
  | some (.dict [(.none, .none)], g1) => match g1.deep with
    | n :: _ => some (.int n, g1)
    | [] => none
  | _ => none
def mGrNe (m : M) : MT := fun E g => match m E g with
  | some (.dict [(.none, .none)], g1) => some (!g1.deep.isEmpty, g1)
  | _ => none
def sGrPop (m : M) : MS := fun E g => match m E g with
  | some (.dict [(.none, .none)], g1) => match g1.deep with
    | _ :: r => some (.nx, E, ⟨r, g1.p, g1.q⟩)
    | [] => none
  | _ => none
def sGrSet (mv m : M) : MS := fun E g => match mv E g with
  | some (.int z, g1) => match m E g1 with
    | some (.dict [(.none, .none)], g2) => match g2.deep with
      | _ :: r => some (.nx, E, ⟨z :: r, g2.p, g2.q⟩)
      | [] => none
    | _ => none
  | _ => none
def sSpSet (i : Nat) (mv m : M) : MS := fun E g => match mv E g with
  | some (.int z, g1) => match m E g1 with
    | some (.dict [], g2) => some (.nx, E, match i with | 1 => ⟨g2.deep, z, g2.q⟩ | _ => ⟨g2.deep, g2.p, z⟩)
    | _ => none
  | _ => none
section
variable {k : Kx} {f : Fx} {sm sm' : Bool} {ex : List (V × D)} {X : Cx} {pos p2 p3 p4 : Pos} {a b c : Expr} {j : Nat} {m mv : M}
theorem de_spr (i : Nat) (hi : i < 3) (hK : X.K = k.K) (ho : k.on = true) (ha : PE X a (tE k f sm m)) : PE X (.Subscript a (.Constant (.int (i : Int)) j p2) pos) (tE k f sm (eSp i m)) :=
  pe_of (pe_ix ix_seq ha (de_int (k := k) (f := f) (sm := sm)) (by exact fun _ _ => rfl)) fun σ H Q ⟨ex, E, μ, g, d, g', I, e, q⟩ => by
    unfold eSp at e
    split at e
    · rename_i g1 h1
      cases e
      refine ⟨ex, E, μ, g, _, g', I, h1, fun v H1 p1 r1 => ?_⟩
      have I1 := I.step p1
      refine ⟨ex, E, μ, g', _, g', I1, rfl, fun u H2 p2 r2 => ?_⟩
      have I2 := I1.step p2
      cases r2
      cases r1
      rw [hK]
      obtain rfl | rfl | rfl : i = 0 ∨ i = 1 ∨ i = 2 := by omega
      · exact .inl ⟨_, _, _, _, rfl, rfl, .of (I2.ga.b ho), rfl, q _ H2 (p1.trans p2) .gr⟩
      · exact .inl ⟨_, _, _, _, rfl, rfl, .of (I2.ga.b ho), rfl, q _ H2 (p1.trans p2) (.int _)⟩
      · exact .inl ⟨_, _, _, _, rfl, rfl, .of (I2.ga.b ho), rfl, q _ H2 (p1.trans p2) (.int _)⟩
    · cases e
theorem de_gr0 (hK : X.K = k.K) (ho : k.on = true) (ha : PE X a (tE k f sm m)) : PE X (.Subscript a (.Constant (.int 0) j p2) pos) (tE k f sm (eGr0 m)) :=
  pe_of (pe_ix ix_seq ha (de_int (k := k) (f := f) (sm := sm)) (by exact fun _ _ => rfl)) fun σ H Q ⟨ex, E, μ, g, d, g', I, e, q⟩ => by
    unfold eGr0 at e
    split at e
    · rename_i g1 h1
      split at e
      · rename_i n r hd
        cases e
        refine ⟨ex, E, μ, g, _, g', I, h1, fun v H1 p1 r1 => ?_⟩
        have I1 := I.step p1
        refine ⟨ex, E, μ, g', _, g', I1, rfl, fun u H2 p2 r2 => ?_⟩
        have I2 := I1.step p2
        cases r2
        cases r1
        rw [hK]
        have hc := I2.ga.c ho
        rw [hd] at hc
        exact .inl ⟨_, _, _, _, rfl, rfl, .of hc, by simp [atI, ixN], q _ H2 (p1.trans p2) (.int _)⟩
      · cases e
    · cases e
theorem layInts : ∀ ns : List Int, PyData.canLayAll0 (ns.map PyData.int) = true
  | [] => rfl
  | n :: r => by
    show PyData.canLayAll0 (.int n :: r.map PyData.int) = true
    simp only [PyData.canLayAll0, PyData.canLay0, layInts r, Bool.and_self]
theorem depInts : ∀ ns : List Int, PyData.depth (.list (ns.map PyData.int)) ≤ 64 := fun ns => by
  have h : ∀ ns : List Int, PyData.depthAll (ns.map PyData.int) ≤ 1 := fun ns => by
    induction ns with
    | nil => simp [PyData.depthAll]
    | cons n r ih =>
      rw [List.map_cons]
      simp only [PyData.depthAll, PyData.depth]
      omega
  have := h ns
  simp only [PyData.depth]
  omega
theorem dt_grNe (hu : X.A.units + 64 < cLine) (hK : X.K = k.K) (ho : k.on = true) (ha : PE X a (tE k f false m)) : PT X (.Compare a [.NotEq] [.List [] p2] pos) (tT k f (mGrNe m)) :=
  pt_of (pt_cmpR (op_neD hu) ha (de_n (dn_lst (dl_nil (k := k) (f := f) (sm := false)))) (nomark _)) fun σ H Q ⟨ex, E, μ, g, d, g', I, e, q⟩ => by
    unfold mGrNe at e
    split at e
    · rename_i g1 h1
      cases e
      refine ⟨ex, E, μ, g, _, g', I, h1, fun v H1 p1 r1 => ?_⟩
      have I1 := I.step p1
      refine ⟨ex, E, μ, g', .list [], g', I1, rfl, fun u H2 p2 r2 => ?_⟩
      have I2 := I1.step p2
      cases r1
      have r3 : Rp k H2 (fun _ => False) (.ref k.γ) (.list (g'.deep.map .int)) := .lst (fun z => z) (I2.ga.c ho) (rpa_ints _)
      refine ⟨.list (g'.deep.map .int), .list [], ?_, ?_, ?_, rfl, ?_⟩
      · rw [hK]
        exact Rp.dp (.list (g'.deep.map PyData.int)) _ (by simp only [PyData.canLay0]; exact layInts _) r3
      · rw [hK]
        exact Rp.dp _ _ (by rfl) r2
      · unfold SeqAt.shaped
        rw [Bool.and_eq_true]
        exact ⟨by simp only [PyData.canLay0]; exact layInts _, decide_eq_true (depInts _)⟩
      · refine ⟨_, rfl, ?_⟩
        have : (!PyData.eqv (.list (g'.deep.map PyData.int)) (.list [])) = !g'.deep.isEmpty := by
          cases g'.deep <;> rfl
        rw [this]
        exact q H2 (p1.trans p2)
    · cases e
theorem ds_grPop (hK : X.K = k.K) (ho : k.on = true) (ha : PE X a (tE k f true m)) (hm : PE X (.Call (.Attribute a "pop" p2) [.Constant (.int 0) j p4] [] p3) (tBM X.K "list" rPopAt (tE k f true m) (tCons (tE k f true (eK (.int 0))) tNil))) (hs : swapsWith (.Call (.Attribute a "pop" p2) [.Constant (.int 0) j p4] [] p3) none pos.line X.env = pure false := by rfl) :
    PS X (.Expr (.Call (.Attribute a "pop" p2) [.Constant (.int 0) j p4] [] p3) pos) (tS k f ex (sGrPop m)) := ps_of (ps_expr hm hs) fun Dn σ H ⟨E, μ, g, r, I, e, q⟩ => by
  unfold sGrPop at e
  split at e
  · rename_i g1 h1
    split at e
    · rename_i n r hd
      cases e
      refine ⟨ex, E, μ, g, _, g1, I, h1, fun v H1 p1 r1 => ?_⟩
      have I1 := I.step p1
      cases r1
      refine ⟨.inl ⟨rfl, _, .inl (.inl (I1.ga.c ho))⟩, ex, E, μ, g1, _, g1, I1, rfl, fun u H2 p2 r2 => ?_⟩
      have I2 := I1.step p2
      cases r2
      have hc := I2.ga.c ho
      rw [hd] at hc
      refine ⟨_, _, 0, 0, _, rfl, rfl, hc, by decide, by decide, ?_, rfl, ?_⟩
      · unfold seqIndex?
        simp
      · exact q _ μ _ (I2.step (I2.ga.setG ho r))
    · cases e
  · cases e
theorem ds_grSet (hK : X.K = k.K) (ho : k.on = true) (hv : PE X c (tE k f true mv)) (ha : PE X a (tE k f true m)) (hs : swapsWithSole [.Subscript a (.Constant (.int 0) j p2) p3] c pos.line X.env = pure false := by rfl) (hw : swappedStores [.Subscript a (.Constant (.int 0) j p2) p3] c X.env = pure none := by rfl)
    (h1 : (assignEach [.Subscript a (.Constant (.int 0) j p2) p3] X.env).map (·.2) = [assign (.Subscript a (.Constant (.int 0) j p2) p3) X.env] := by rfl) : PS X (.Assign [.Subscript a (.Constant (.int 0) j p2) p3] c pos) (tS k f ex (sGrSet mv m)) :=
  ps_of (ps_asg hv (pg_sub ha (de_int (k := k) (f := f) (sm := true)) set_list) hs hw h1) fun Dn σ H ⟨E, μ, g, r, I, e, q⟩ => by
    unfold sGrSet at e
    split at e
    · rename_i z g1 h1
      split at e
      · rename_i g2 h2
        split at e
        · rename_i n r hd
          cases e
          refine ⟨ex, E, μ, g, _, g1, I, h1, fun v H1 p1 r1 => ?_⟩
          cases r1
          have I1 := I.step p1
          refine ⟨ex, E, μ, g1, _, g2, I1, h2, fun v H2 p2 r2 => ?_⟩
          have I2 := I1.step p2
          cases r2
          refine ⟨ex, E, μ, g2, _, g2, I2, rfl, fun u H3 p3 r3 => ?_⟩
          have I3 := I2.step p3
          cases r3
          have hc := I3.ga.c ho
          rw [hd] at hc
          refine ⟨_, _, 0, 0, rfl, rfl, hc, by simp [ixN], ?_⟩
          exact q _ μ _ (I3.step (I3.ga.setG ho (z :: r)))
        · cases e
      · cases e
    · cases e
theorem ds_spSet (i : Nat) (hi : i = 1 ∨ i = 2) (hK : X.K = k.K) (ho : k.on = true) (hv : PE X c (tE k f true mv)) (ha : PE X a (tE k f true m)) (hs : swapsWithSole [.Subscript a (.Constant (.int (i : Int)) j p2) p3] c pos.line X.env = pure false := by rfl) (hw : swappedStores [.Subscript a (.Constant (.int (i : Int)) j p2) p3] c X.env = pure none := by rfl)
    (h1 : (assignEach [.Subscript a (.Constant (.int (i : Int)) j p2) p3] X.env).map (·.2) = [assign (.Subscript a (.Constant (.int (i : Int)) j p2) p3) X.env] := by rfl) : PS X (.Assign [.Subscript a (.Constant (.int (i : Int)) j p2) p3] c pos) (tS k f ex (sSpSet i mv m)) :=
  ps_of (ps_asg hv (pg_sub ha (de_int (k := k) (f := f) (sm := true)) set_list) hs hw h1) fun Dn σ H ⟨E, μ, g, r, I, e, q⟩ => by
    unfold sSpSet at e
    split at e
    · rename_i z g1 h1
      split at e
      · rename_i g2 h2
        cases e
        refine ⟨ex, E, μ, g, _, g1, I, h1, fun v H1 p1 r1 => ?_⟩
        cases r1
        have I1 := I.step p1
        refine ⟨ex, E, μ, g1, _, g2, I1, h2, fun v H2 p2 r2 => ?_⟩
        have I2 := I1.step p2
        cases r2
        refine ⟨ex, E, μ, g2, _, g2, I2, rfl, fun u H3 p3 r3 => ?_⟩
        have I3 := I2.step p3
        cases r3
        rcases hi with rfl | rfl
        · refine ⟨_, _, _, 1, rfl, rfl, I3.ga.b ho, rfl, ?_⟩
          exact q _ μ _ (I3.step (I3.ga.setB ho z g2.q))
        · refine ⟨_, _, _, 2, rfl, rfl, I3.ga.b ho, rfl, ?_⟩
          exact q _ μ _ (I3.step (I3.ga.setB ho g2.p z))
      · cases e
    · cases e
end
end DL

set_option Elab.async false
set_option linter.all false
set_option maxRecDepth 100000
set_option maxHeartbeats 2000000
namespace DL
open PySem PySem.Spec PyProof.Rows L2
/-! ### what a run comes to -/
def Ok {α : Type} (x : Option (α × G)) (Q : α → G → Prop) : Prop := ∃ d g', x = some (d, g') ∧ Q d g'
def OkS (x : Option (Fl × En × G)) (Q : Fl → En → G → Prop) : Prop := ∃ r E g, x = some (r, E, g) ∧ Q r E g
section
variable {α : Type} {x : Option (α × G)} {Q R : α → G → Prop}
theorem Ok.mono (h : Ok x Q) (w : ∀ d g, Q d g → R d g) : Ok x R := let ⟨d, g, e, q⟩ := h; ⟨d, g, e, w d g q⟩
theorem OkS.mono {x : Option (Fl × En × G)} {Q R : Fl → En → G → Prop} (h : OkS x Q) (w : ∀ r E g, Q r E g → R r E g) : OkS x R := let ⟨r, E, g, e, q⟩ := h; ⟨r, E, g, e, w r E g q⟩
theorem ok_some {p : α × G} : Ok (some p) Q ↔ Q p.1 p.2 := ⟨fun ⟨_, _, e, q⟩ => by cases e; exact q, fun q => ⟨p.1, p.2, rfl, q⟩⟩
theorem ok_none : Ok (none : Option (α × G)) Q ↔ False := ⟨fun ⟨_, _, e, _⟩ => (nomatch e), False.elim⟩
theorem oks_some {r : Fl} {E : En} {g : G} {Q : Fl → En → G → Prop} : OkS (some (r, E, g)) Q ↔ Q r E g := ⟨fun ⟨_, _, _, e, q⟩ => by cases e; exact q, fun q => ⟨_, _, _, rfl, q⟩⟩
theorem ok_eq {d : α} {g : G} (e : x = some (d, g)) : Ok x Q ↔ Q d g := by rw [e]; exact ok_some
theorem Ok.eq {d : α} {g : G} (h : Ok x fun d' g' => d' = d ∧ g' = g) : x = some (d, g) := by
  obtain ⟨d', g', e, rfl, rfl⟩ := h
  exact e
end
section
variable {E : En} {g : G} {a b c : M} {ml : ML} {t u : MT} {h h' : D → D → Option D} {h1 : D → Option D} {hF : List D → Option D} {Q : D → G → Prop} {QL : List D → G → Prop} {QT : Bool → G → Prop} {F : DF}
theorem ok_eK {d : D} : Ok (eK d E g) Q ↔ Q d g := ok_some
theorem ok_lNil : Ok (lNil E g) QL ↔ QL [] g := ok_some
theorem ok_lCons : Ok (lCons a ml E g) QL ↔ Ok (a E g) fun x g1 => Ok (ml E g1) fun xs g2 => QL (x :: xs) g2 := by
  unfold lCons
  cases a E g with
  | none => simp only [ok_none]
  | some p =>
    simp only [ok_some]
    cases ml E p.2 with
    | none => simp only [ok_none]
    | some q => simp only [ok_some]
theorem ok_e2 : Ok (e2 h a b E g) Q ↔ Ok (a E g) fun x g1 => Ok (b E g1) fun y g2 => ∃ z, h x y = some z ∧ Q z g2 := by
  unfold e2
  cases a E g with
  | none => simp only [ok_none]
  | some p =>
    simp only [ok_some]
    cases b E p.2 with
    | none => simp only [ok_none]
    | some q =>
      simp only [ok_some]
      cases h p.1 q.1 with
      | none => simp [ok_none]
      | some z => simp [ok_some]
theorem ok_e1 : Ok (e1 h1 a E g) Q ↔ Ok (a E g) fun x g1 => ∃ z, h1 x = some z ∧ Q z g1 := by
  unfold e1
  cases a E g with
  | none => simp only [ok_none]
  | some p =>
    simp only [ok_some]
    cases h1 p.1 with
    | none => simp [ok_none]
    | some z => simp [ok_some]
theorem ok_eF : Ok (eF hF ml E g) Q ↔ Ok (ml E g) fun x g1 => ∃ z, hF x = some z ∧ Q z g1 := by
  unfold eF
  cases ml E g with
  | none => simp only [ok_none]
  | some p =>
    simp only [ok_some]
    cases hF p.1 with
    | none => simp [ok_none]
    | some z => simp [ok_some]
theorem ok_eTup : Ok (eTup ml E g) Q ↔ Ok (ml E g) fun xs g1 => xs.length ≤ sizeLine ∧ Q (.tuple xs) g1 := by
  unfold eTup
  cases ml E g with
  | none => simp only [ok_none]
  | some p =>
    simp only [ok_some]
    by_cases z : p.1.length ≤ sizeLine
    · simp only [ok_some, z, true_and, if_true]
    · simp only [ok_none, z, false_and, if_false]
theorem ok_nLst : Ok (nLst ml E g) QL ↔ Ok (ml E g) fun xs g1 => xs.length ≤ sizeLine ∧ QL xs g1 := by
  unfold nLst
  cases ml E g with
  | none => simp only [ok_none]
  | some p =>
    simp only [ok_some]
    by_cases z : p.1.length ≤ sizeLine
    · simp only [ok_some, z, true_and, if_true]
    · simp only [ok_none, z, false_and, if_false]
theorem ok_eN : Ok (eN ml E g) Q ↔ Ok (ml E g) fun xs g1 => Q (.list xs) g1 := by
  unfold eN
  cases ml E g with
  | none => simp only [ok_none]
  | some p => simp only [ok_some]
theorem ok_mB : Ok (mB a E g) QT ↔ Ok (a E g) fun d g1 => ∃ b, d = .bool b ∧ QT b g1 := by
  unfold mB
  cases a E g with
  | none => simp only [ok_none]
  | some p =>
    obtain ⟨d, g1⟩ := p
    simp only [ok_some]
    cases d <;> simp [ok_some, ok_none]
theorem ok_mTru : Ok (mTru a E g) QT ↔ Ok (a E g) fun d g1 => ∃ b, fTru d = some b ∧ QT b g1 := by
  unfold mTru
  cases a E g with
  | none => simp only [ok_none]
  | some p =>
    obtain ⟨d, g1⟩ := p
    simp only [ok_some]
    cases fTru d <;> simp [ok_some, ok_none]
theorem ok_mNot : Ok (mNot t E g) QT ↔ Ok (t E g) fun b g1 => QT (!b) g1 := by
  unfold mNot
  cases t E g with
  | none => simp only [ok_none]
  | some p => simp only [ok_some]
theorem ok_mAnd : Ok (mAnd t u E g) QT ↔ Ok (t E g) fun b g1 => if b = true then Ok (u E g1) QT else QT false g1 := by
  unfold mAnd
  cases t E g with
  | none => simp only [ok_none]
  | some p =>
    obtain ⟨d, g1⟩ := p
    cases d <;> simp [ok_some]
theorem ok_mOr : Ok (mOr t u E g) QT ↔ Ok (t E g) fun b g1 => if b = true then QT true g1 else Ok (u E g1) QT := by
  unfold mOr
  cases t E g with
  | none => simp only [ok_none]
  | some p =>
    obtain ⟨d, g1⟩ := p
    cases d <;> simp [ok_some]
theorem ok_eAnd : Ok (eAnd a b E g) Q ↔ Ok (a E g) fun d g1 => ∃ t, fTru d = some t ∧ if t = true then Ok (b E g1) Q else Q d g1 := by
  unfold eAnd
  cases a E g with
  | none => simp only [ok_none]
  | some p =>
    obtain ⟨d, g1⟩ := p
    simp only [ok_some]
    cases fTru d with
    | none => simp [ok_none]
    | some t => cases t <;> simp [ok_some]
theorem ok_eOr : Ok (eOr a b E g) Q ↔ Ok (a E g) fun d g1 => ∃ t, fTru d = some t ∧ if t = true then Q d g1 else Ok (b E g1) Q := by
  unfold eOr
  cases a E g with
  | none => simp only [ok_none]
  | some p =>
    obtain ⟨d, g1⟩ := p
    simp only [ok_some]
    cases fTru d with
    | none => simp [ok_none]
    | some t => cases t <;> simp [ok_some]
theorem ok_eNot : Ok (eNot a E g) Q ↔ Ok (a E g) fun d g1 => ∃ t, fTru d = some t ∧ Q (.bool !t) g1 := by
  unfold eNot
  cases a E g with
  | none => simp only [ok_none]
  | some p =>
    obtain ⟨d, g1⟩ := p
    simp only [ok_some]
    cases fTru d with
    | none => simp [ok_none]
    | some t => simp [ok_some]
theorem ok_eIf : Ok (eIf t a b E g) Q ↔ Ok (t E g) fun x g1 => if x = true then Ok (a E g1) Q else Ok (b E g1) Q := by
  unfold eIf
  cases t E g with
  | none => simp only [ok_none]
  | some p =>
    obtain ⟨d, g1⟩ := p
    cases d <;> simp [ok_some]
theorem ok_eIsi {T : String} : Ok (eIsi T a E g) Q ↔ Ok (a E g) fun d g1 => ∃ S, tyN d = some S ∧ Q (.bool (isT T S)) g1 := by
  unfold eIsi
  cases a E g with
  | none => simp only [ok_none]
  | some p =>
    obtain ⟨d, g1⟩ := p
    simp only [ok_some]
    cases tyN d <;> simp [ok_some, ok_none]
theorem ok_eIsi2 {T U : String} : Ok (eIsi2 T U a E g) Q ↔ Ok (a E g) fun d g1 => ∃ S, tyN d = some S ∧ Q (.bool (isT T S || isT U S)) g1 := by
  unfold eIsi2
  cases a E g with
  | none => simp only [ok_none]
  | some p =>
    obtain ⟨d, g1⟩ := p
    simp only [ok_some]
    cases tyN d <;> simp [ok_some, ok_none]
theorem ok_eTyC {neg : Bool} {T : String} : Ok (eTyC neg T a E g) Q ↔ Ok (a E g) fun d g1 => ∃ S, tyN d = some S ∧ Q (.bool (if neg then !decide (S = T) else decide (S = T))) g1 := by
  unfold eTyC
  cases a E g with
  | none => simp only [ok_none]
  | some p =>
    obtain ⟨d, g1⟩ := p
    simp only [ok_some]
    cases tyN d <;> simp [ok_some, ok_none]
theorem ok_eCall : Ok (eCall F ml E g) Q ↔ Ok (ml E g) fun ds g1 => Ok (F ds g1) Q := by
  unfold eCall
  cases ml E g with
  | none => simp only [ok_none]
  | some p => simp only [ok_some]
theorem ok_eCallK {is : List Nat} : Ok (eCallK F is ml E g) Q ↔ Ok (ml E g) fun ds g1 => Ok (F (pick is ds .none) g1) Q := by
  unfold eCallK
  cases ml E g with
  | none => simp only [ok_none]
  | some p => simp only [ok_some]
theorem ok_oNo {QO : Option Int → G → Prop} : Ok (oNo E g) QO ↔ QO none g := ok_some
theorem ok_oAt {QO : Option Int → G → Prop} : Ok (oAt a E g) QO ↔ Ok (a E g) fun d g1 => ∃ i, d = .int i ∧ QO (some i) g1 := by
  unfold oAt
  cases a E g with
  | none => simp only [ok_none]
  | some p =>
    obtain ⟨d, g1⟩ := p
    simp only [ok_some]
    cases d <;> simp [ok_some, ok_none]
theorem ok_eSl {lo hi : MO} : Ok (eSl a lo hi E g) Q ↔ Ok (a E g) fun d g1 => Ok (lo E g1) fun l g2 => Ok (hi E g2) fun u g3 => ∃ z, fSl d l u = some z ∧ Q z g3 := by
  unfold eSl
  cases a E g with
  | none => simp only [ok_none]
  | some p =>
    simp only [ok_some]
    cases lo E p.2 with
    | none => simp only [ok_none]
    | some q =>
      simp only [ok_some]
      cases hi E q.2 with
      | none => simp only [ok_none]
      | some r =>
        simp only [ok_some]
        cases fSl p.1 q.1 r.1 with
        | none => simp [ok_none]
        | some z => simp [ok_some]
theorem ok_iOf : Ok (iOf a E g) QL ↔ Ok (a E g) fun d g1 => ∃ ds, d = .list ds ∧ QL ds g1 := by
  unfold iOf
  cases a E g with
  | none => simp only [ok_none]
  | some p =>
    obtain ⟨d, g1⟩ := p
    simp only [ok_some]
    cases d <;> simp [ok_some, ok_none]
theorem ok_iOfT : Ok (iOfT a E g) QL ↔ Ok (a E g) fun d g1 => ∃ ds, d = .tuple ds ∧ QL ds g1 := by
  unfold iOfT
  cases a E g with
  | none => simp only [ok_none]
  | some p =>
    obtain ⟨d, g1⟩ := p
    simp only [ok_some]
    cases d <;> simp [ok_some, ok_none]
theorem ok_iRg1 : Ok (iRg1 ml E g) QL ↔ Ok (ml E g) fun ds g1 => ∃ j, ds = [.int j] ∧ (-(2 ^ 62) ≤ j ∧ j < 2 ^ 62) ∧ QL (intsD 0 j.toNat) g1 := by
  unfold iRg1
  cases ml E g with
  | none => simp only [ok_none]
  | some p =>
    obtain ⟨ds, g1⟩ := p
    simp only [ok_some]
    split
    · rename_i j g2 e
      cases e
      by_cases z : -(2 ^ 62) ≤ j ∧ j < 2 ^ 62
      · rw [if_pos z, ok_some]
        exact ⟨fun q => ⟨j, rfl, z, q⟩, fun ⟨_, e, _, q⟩ => by cases e; exact q⟩
      · rw [if_neg z, ok_none]
        exact ⟨False.elim, fun ⟨_, e, w, q⟩ => by cases e; exact z w⟩
    · rename_i hno
      rw [ok_none]
      exact ⟨False.elim, fun ⟨j, e, _, _⟩ => hno j g1 (by rw [e])⟩
end
/-! statements -/
section
variable {E : En} {g : G} {a b : MS} {m : M} {ml : ML} {t : MT} {i : Nat} {Q : Fl → En → G → Prop} {F : DF}
theorem oks_sNx : OkS (sNx E g) Q ↔ Q .nx E g := oks_some
theorem oks_sSeq : OkS (sSeq a b E g) Q ↔ OkS (a E g) fun r E1 g1 => match r with
    | .nx => OkS (b E1 g1) Q
    | r => Q r E1 g1 := by
  unfold sSeq
  cases a E g with
  | none => exact ⟨fun ⟨_, _, _, e, _⟩ => (nomatch e), fun ⟨_, _, _, e, _⟩ => nomatch e⟩
  | some p =>
    obtain ⟨r, E1, g1⟩ := p
    rw [oks_some]
    cases r <;> first | exact Iff.rfl | exact oks_some
theorem oks_sSet : OkS (sSet i m E g) Q ↔ Ok (m E g) fun d g1 => Q .nx (E.set i (.val d)) g1 := by
  unfold sSet
  cases m E g with
  | none => exact ⟨fun ⟨_, _, _, e, _⟩ => (nomatch e), fun ⟨_, _, e, _⟩ => nomatch e⟩
  | some p => simp only [oks_some, ok_some]
theorem oks_sOwn : OkS (sOwn i ml E g) Q ↔ Ok (ml E g) fun ds g1 => i < E.length ∧ Q .nx (E.set i (.own ds)) g1 := by
  unfold sOwn
  cases ml E g with
  | none => exact ⟨fun ⟨_, _, _, e, _⟩ => (nomatch e), fun ⟨_, _, e, _⟩ => nomatch e⟩
  | some p =>
    simp only [ok_some]
    by_cases z : i < E.length
    · simp only [oks_some, z, true_and, if_true]
    · simp only [z, false_and, if_false]
      exact ⟨fun ⟨_, _, _, e, _⟩ => (nomatch e), False.elim⟩
theorem oks_sDrop : OkS (sDrop m E g) Q ↔ Ok (m E g) fun _ g1 => Q .nx E g1 := by
  unfold sDrop
  cases m E g with
  | none => exact ⟨fun ⟨_, _, _, e, _⟩ => (nomatch e), fun ⟨_, _, e, _⟩ => nomatch e⟩
  | some p => simp only [oks_some, ok_some]
theorem oks_sRet : OkS (sRet m E g) Q ↔ Ok (m E g) fun d g1 => Q (.ret d) E g1 := by
  unfold sRet
  cases m E g with
  | none => exact ⟨fun ⟨_, _, _, e, _⟩ => (nomatch e), fun ⟨_, _, e, _⟩ => nomatch e⟩
  | some p => simp only [oks_some, ok_some]
theorem oks_sIf : OkS (sIf t a b E g) Q ↔ Ok (t E g) fun x g1 => if x = true then OkS (a E g1) Q else OkS (b E g1) Q := by
  unfold sIf
  cases t E g with
  | none => exact ⟨fun ⟨_, _, _, e, _⟩ => (nomatch e), fun ⟨_, _, e, _⟩ => nomatch e⟩
  | some p =>
    obtain ⟨d, g1⟩ := p
    cases d <;> simp [ok_some]
theorem oks_sAsg {tg : Tg} : OkS (sAsg tg m E g) Q ↔ Ok (m E g) fun d g1 => ∃ ps, tg.parts d = some ps ∧ Q .nx (setsE ps E) g1 := by
  unfold sAsg
  cases m E g with
  | none => exact ⟨fun ⟨_, _, _, e, _⟩ => (nomatch e), fun ⟨_, _, e, _⟩ => nomatch e⟩
  | some p =>
    simp only [ok_some]
    cases tg.parts p.1 with
    | none => exact ⟨fun ⟨_, _, _, e, _⟩ => (nomatch e), fun ⟨_, e, _⟩ => nomatch e⟩
    | some ps => simp [oks_some]
theorem oks_sPar {is : List Nat} : OkS (sPar is ml E g) Q ↔ Ok (ml E g) fun ds g1 => is.length = ds.length ∧ Q .nx (setsE (is.zip ds) E) g1 := by
  unfold sPar
  cases ml E g with
  | none => exact ⟨fun ⟨_, _, _, e, _⟩ => (nomatch e), fun ⟨_, _, e, _⟩ => nomatch e⟩
  | some p =>
    simp only [ok_some]
    by_cases z : is.length = p.1.length
    · simp only [oks_some, z, true_and, if_true]
    · simp only [z, false_and, if_false]
      exact ⟨fun ⟨_, _, _, e, _⟩ => (nomatch e), False.elim⟩
theorem oks_sFor {tg : Tg} : OkS (sFor tg ml b E g) Q ↔ Ok (ml E g) fun ds g1 => OkS (forL tg b ds E g1) Q := by
  unfold sFor
  cases ml E g with
  | none => exact ⟨fun ⟨_, _, _, e, _⟩ => (nomatch e), fun ⟨_, _, e, _⟩ => nomatch e⟩
  | some p => simp only [ok_some]
theorem ok_runD {n : Nat} {ds : List D} {QD : D → G → Prop} : Ok (runD n a ds g) QD ↔ OkS (a (startE n ds) g) fun r _ g1 => match r with
    | .ret d => QD d g1
    | .nx => QD .none g1
    | _ => False := by
  unfold runD
  cases a (startE n ds) g with
  | none => exact ⟨fun ⟨_, _, e, _⟩ => (nomatch e), fun ⟨_, _, _, e, _⟩ => nomatch e⟩
  | some p =>
    obtain ⟨r, E1, g1⟩ := p
    rw [oks_some]
    cases r <;> first | exact ok_some | exact ok_none
/-- the turns of a loop -/
theorem forL_ok {tg : Tg} {I : En → G → Prop} : ∀ (ds : List D) (E : En) (g : G), (∀ d ∈ ds, ∀ E g, I E g → ∃ ps, tg.parts d = some ps ∧ OkS (b (setsE ps E) g) fun r E' g' => r = .nx ∧ I E' g') → I E g → OkS (forL tg b ds E g) fun r E' g' => r = .nx ∧ I E' g'
  | [], E, g, _, hi => ⟨_, _, _, rfl, rfl, hi⟩
  | d :: ds, E, g, h, hi => by
    obtain ⟨ps, e1, r, E1, g1, e2, rfl, h2⟩ := h d (List.mem_cons_self ..) E g hi
    have := forL_ok ds E1 g1 (fun d hd => h d (List.mem_cons_of_mem _ hd)) h2
    unfold forL
    rw [e1]
    simp only [e2]
    exact this
/-- the turns of a list -/
theorem lcL_ok {tg : Tg} {e : M} {P : D → Prop} : ∀ (ds : List D) (g : G), (∀ d ∈ ds, ∀ g, ∃ ps, tg.parts d = some ps ∧ Ok (e (setsE ps E) g) fun x _ => P x) → Ok (lcL tg mYes e E ds g) fun xs _ => xs.length = ds.length ∧ ∀ x ∈ xs, P x
  | [], g, _ => ⟨_, _, rfl, rfl, fun x hx => absurd hx (by simp)⟩
  | d :: ds, g, h => by
    obtain ⟨ps, e1, x, g1, e2, hx⟩ := h d (List.mem_cons_self ..) g
    obtain ⟨xs, g2, e3, hl, hxs⟩ := lcL_ok ds g1 (fun d hd => h d (List.mem_cons_of_mem _ hd))
    unfold lcL
    rw [e1]
    simp only [mYes, e2, e3]
    refine ⟨_, _, rfl, by simp [hl], fun y hy => ?_⟩
    rcases List.mem_cons.mp hy with rfl | hy
    · exact hx
    · exact hxs y hy
theorem lcL_map {tg : Tg} {e : M} {φ : D → D} : ∀ (ds : List D), (∀ d ∈ ds, ∃ ps, tg.parts d = some ps ∧ e (setsE ps E) g = some (φ d, g)) → lcL tg mYes e E ds g = some (ds.map φ, g)
  | [], _ => rfl
  | d :: ds, h => by
    obtain ⟨ps, e1, e2⟩ := h d (List.mem_cons_self ..)
    have := lcL_map ds (fun d hd => h d (List.mem_cons_of_mem _ hd))
    unfold lcL
    rw [e1]
    simp only [mYes, e2, this, List.map_cons]
theorem allL_true {tg : Tg} {e : M} : ∀ (ds : List D), (∀ d ∈ ds, ∃ ps, tg.parts d = some ps ∧ e (setsE ps E) g = some (.bool true, g)) → allL tg e E ds g = some (true, g)
  | [], _ => rfl
  | d :: ds, h => by
    obtain ⟨ps, e1, e2⟩ := h d (List.mem_cons_self ..)
    have := allL_true ds (fun d hd => h d (List.mem_cons_of_mem _ hd))
    unfold allL
    rw [e1]
    simp only [e2, this]
end
section
variable {i j : Int} {b c : Bool} {xs ys : List D}
theorem fAdd_int : fAdd (.int i) (.int j) = some (.int (i + j)) := rfl
theorem fAdd_lst : fAdd (.list xs) (.list ys) = if xs.length + ys.length ≤ sizeLine then some (.list (xs ++ ys)) else none := rfl
theorem fAdd_tup : fAdd (.tuple xs) (.tuple ys) = if xs.length + ys.length ≤ sizeLine then some (.tuple (xs ++ ys)) else none := rfl
theorem fSub_int : fSub (.int i) (.int j) = some (.int (i - j)) := rfl
theorem fMul_int : fMul (.int i) (.int j) = if cMul i j = true then some (.int (i * j)) else none := rfl
theorem fDiv_int : fDiv (.int i) (.int j) = if cDiv i j = true then some (.int (i.fdiv j)) else none := rfl
theorem fMod_int : fMod (.int i) (.int j) = if decide (0 < j) = true then some (.int (i % j)) else none := rfl
theorem fPow_int : fPow (.int i) (.int j) = if (decide (0 ≤ j) && decide (j ≤ 1000000) && decide (i.natAbs < 2 ^ 64)) = true then some (.int (i ^ j.toNat)) else none := rfl
theorem fLt_int : fLt (.int i) (.int j) = some (.bool (decide (i < j))) := rfl
theorem fLe_int : fLe (.int i) (.int j) = some (.bool (decide (i ≤ j))) := rfl
theorem fGt_int : fGt (.int i) (.int j) = some (.bool (decide (j < i))) := rfl
theorem fGe_int : fGe (.int i) (.int j) = some (.bool (decide (j ≤ i))) := rfl
theorem fNeg_int : fNeg (.int i) = some (.int (-i)) := rfl
theorem fIx_lst : fIx (.list xs) (.int i) = atI xs i := rfl
theorem fIx_tup : fIx (.tuple xs) (.int i) = atI xs i := rfl
theorem fLen_lst : fLen [.list xs] = some (.int xs.length) := rfl
theorem fLen_tup : fLen [.tuple xs] = some (.int xs.length) := rfl
theorem fAbs_int : fAbs [.int i] = some (.int (if i < 0 then -i else i)) := rfl
theorem fInt1_int : fInt1 [.int i] = some (.int i) := rfl
theorem fInt1_bl : fInt1 [.bool b] = some (.int (if b then 1 else 0)) := rfl
theorem fGcd_int : fGcd [.int i, .int j] = some (.int (Nat.gcd i.natAbs j.natAbs : Nat)) := rfl
theorem fTuple_lst : fTuple [.list xs] = some (.tuple xs) := rfl
theorem fTuple_tup : fTuple [.tuple xs] = some (.tuple xs) := rfl
theorem fList_lst : fList [.list xs] = some (.list xs) := rfl
theorem fList_tup : fList [.tuple xs] = some (.list xs) := rfl
theorem fTru_bl : fTru (.bool b) = some b := rfl
theorem fTru_lst : fTru (.list xs) = some (!xs.isEmpty) := rfl
theorem fTru_tup : fTru (.tuple xs) = some (!xs.isEmpty) := rfl
theorem fIsB_bl {neg : Bool} : fIsB neg (.bool b) (.bool c) = some (.bool (if neg then !(b == c) else b == c)) := by cases neg <;> cases b <;> cases c <;> rfl
theorem atI_0 {x : D} : atI (x :: xs) 0 = some x := by simp [atI, ixN]
theorem atI_1 {x y : D} : atI (x :: y :: xs) 1 = some y := by
  unfold atI ixN
  rw [if_pos (by decide), if_pos (by simp only [List.length_cons]; omega)]
  rfl
theorem ty_int : tyN (.int i) = some "int" := rfl
theorem ty_bl : tyN (.bool b) = some "bool" := rfl
theorem ty_lst : tyN (.list xs) = some "list" := rfl
theorem ty_tup : tyN (.tuple xs) = some "tuple" := rfl
theorem ty_str {z : Str} : tyN (.str z) = some "str" := rfl
theorem ty_non : tyN .none = some "NoneType" := rfl
end
theorem fEq_int {a b : Int} : fEq (.int a) (.int b) = some (.bool (decide (a = b))) := by
  show (if (SeqAt.shaped (.int a) && SeqAt.shaped (.int b)) = true then some (PyData.bool (PyData.eqv (.int a) (.int b))) else none) = _
  rw [if_pos (by rfl)]
  by_cases h : a = b <;> simp [PyData.eqv, h]
theorem fNe_int {a b : Int} : fNe (.int a) (.int b) = some (.bool (!decide (a = b))) := by
  show (if (SeqAt.shaped (.int a) && SeqAt.shaped (.int b)) = true then some (PyData.bool (!PyData.eqv (.int a) (.int b))) else none) = _
  rw [if_pos (by rfl)]
  by_cases h : a = b <;> simp [PyData.eqv, h]
end DL

set_option Elab.async false
set_option linter.all false
set_option maxRecDepth 100000
set_option maxHeartbeats 2000000
namespace K01
open PySem PySem.Spec PyProof.Rows L2 DL
def topS (i : Nat) : Stmt := PySem.Challenge.pw_drawntold_k01_fractions_made_and_summed.main.body.getD i (.Pass ⟨0, 0, 0, 0⟩)
def fuI (i : Nat) : En → G → Nat := fun E _ => match E[i]? with
  | some (.val (.int z)) => z.natAbs + 2
  | _ => 0
def fuG : En → G → Nat := fun _ g => g.deep.length + 1
structure Tx (mg : Str → Option Value) : Prop where
  m_abs : mg "abs" = none
  m_all : mg "all" = none
  m_bool : mg "bool" = none
  m_gcd : mg "gcd" = some (.builtin "math.gcd")
  m_int : mg "int" = none
  m_isinstance : mg "isinstance" = none
  m_len : mg "len" = none
  m_list : mg "list" = none
  m_range : mg "range" = none
  m_sorted : mg "sorted" = none
  m_str : mg "str" = none
  m_tuple : mg "tuple" = none
  m_type : mg "type" = none
/-- what the spring gives -/
def Fd_law_drop : DF := fun ds g => match ds with
  | [.dict [], .int m] => if 0 < m then
      match g.deep.dropWhile (· == 0) with
      | n :: r => if m.natAbs.log2 < 9000 then some (.int (n % m), ⟨n / m :: r, g.p, g.q⟩) else none
      | [] =>
        let p := (g.p * 6364136223846793005 + (g.q + 1) * 1442695040888963407) % 2305843009213693951
        some (.int (p * p % 2305843009213693921 / 1048576 % m), ⟨[], p, g.q + 1⟩)
    else none
  | _ => none
section
variable {P : Program} {w : World} {k : Kx} {mg : Str → Option Value} {base : Heap}
abbrev sis_integer : Stmt := topS 5
theorem scis_integer : FnScope ["value"] ["value"] (defScope sis_integer) := ⟨rfl, rfl, rfl, by decide +kernel, rfl, by decide +kernel, by decide +kernel⟩
def mis_integer : MS := sRet (eTyC false "int" (eV false 0))
def Fis_integer : DF := runD 1 mis_integer
theorem okis_integer (T : Tx mg)  {fa : Addr} {fd : FuncData} (FN : Fun k.K "is_integer" "is_integer" sis_integer fa fd) (gn : mg "is_integer" = some (.ref fa)) : Has P w k mg base "is_integer" 1 ["value"] [] Fis_integer :=
  has_mk (j := 0) FN gn scis_integer (fun cdv A outer s H E f hr =>
    (dss_one (ds_ret (by exact (de_tyEq (.inr (.inr (.inl rfl))) rfl rfl T.m_type (tyname (T := "int") (x := "int") rfl T.m_int (by decide +kernel) (by decide) (by decide)) (de_var 0)))))) (FN.binds fun _ _ _ _ _ _ us hl => match us, hl with | [_], _ => rfl) (fun q hq => by simp at hq)
abbrev sis_tuple_of : Stmt := topS 6
theorem scis_tuple_of : FnScope ["value", "size"] ["value", "size"] (defScope sis_tuple_of) := ⟨rfl, rfl, rfl, by decide +kernel, rfl, by decide +kernel, by decide +kernel⟩
def mis_tuple_of : MS := sRet (eAnd (eTyC false "tuple" (eV false 0)) (e2 fEq (eF fLen (lCons (eV false 0) (lNil))) (eV false 1)))
def Fis_tuple_of : DF := runD 2 mis_tuple_of
theorem okis_tuple_of (T : Tx mg)  {fa : Addr} {fd : FuncData} (FN : Fun k.K "is_tuple_of" "is_tuple_of" sis_tuple_of fa fd) (gn : mg "is_tuple_of" = some (.ref fa)) : Has P w k mg base "is_tuple_of" 1 ["value", "size"] [] Fis_tuple_of :=
  has_mk (j := 0) FN gn scis_tuple_of (fun cdv A outer s H E f hr =>
    (dss_one (ds_ret (by exact (de_and rfl (by exact (de_tyEq (.inr (.inr (.inr (.inr (.inr rfl))))) rfl rfl T.m_type (tyname (T := "tuple") (x := "tuple") rfl T.m_tuple (by decide +kernel) (by decide) (by decide)) (de_var 0))) (de_one (by exact (de_cmp (op_eqD hr.units) od_eq (by exact (de_callB call_lenA cd_len rfl T.m_len PySem.boot_len (dl_cons (de_var 0) dl_nil))) (de_var 1) (nomark _))))))))) (FN.binds fun _ _ _ _ _ _ us hl => match us, hl with | [_, _], _ => rfl) (fun q hq => by simp at hq)
abbrev sis_fraction : Stmt := topS 8
theorem scis_fraction : FnScope ["value", "top", "bottom"] ["value"] (defScope sis_fraction) := ⟨rfl, rfl, rfl, by decide +kernel, rfl, by decide +kernel, by decide +kernel⟩
def mis_fraction : MS := sSeq (sIf (mNot (mTru (eCall Fis_tuple_of (lCons (eV false 0) (lCons (eK (.int 2)) (lNil)))))) (sRet (eK (.bool false))) (sNx)) (sSeq (sAsg (.many [1, 2]) (eV true 0)) (sRet (eAnd (eCall Fis_integer (lCons (eV false 1) (lNil))) (eAnd (eCall Fis_integer (lCons (eV false 2) (lNil))) (eAnd (e2 fGt (eV false 2) (eK (.int 0))) (e2 fEq (eF fGcd (lCons (eV false 1) (lCons (eV false 2) (lNil)))) (eK (.int 1))))))))
def Fis_fraction : DF := runD 3 mis_fraction
theorem okis_fraction (T : Tx mg) (his_tuple_of : Has P w k mg base "is_tuple_of" 1 ["value", "size"] [] Fis_tuple_of) (his_integer : Has P w k mg base "is_integer" 1 ["value"] [] Fis_integer) {fa : Addr} {fd : FuncData} (FN : Fun k.K "is_fraction" "is_fraction" sis_fraction fa fd) (gn : mg "is_fraction" = some (.ref fa)) : Has P w k mg base "is_fraction" 2 ["value"] [(["value"], [0])] Fis_fraction :=
  has_mk (j := 1) FN gn scis_fraction (fun cdv A outer s H E f hr =>
    (dss_cons (ds_if (by exact (dt_not (by exact (dt_tru (sm := false) rfl (by exact (de_fun his_tuple_of rfl hr (by decide) rfl (dl_cons (de_var 0) (dl_cons de_int dl_nil)) (ln_cons (ln_cons ln0)))))))) (dss_one (ds_ret de_bl)) dss_nil) (dss_cons (ds_asg (de_var 0) (dg_tup (is := [1, 2]) rfl rfl (pgs_cons (pg_name (i := 1) scis_fraction.nd rfl (.inl rfl)) (pgs_cons (pg_name (i := 2) scis_fraction.nd rfl (.inl rfl)) pgs_nil)))) (dss_one (ds_ret (by exact (de_and rfl (by exact (de_fun his_integer rfl hr (by decide) rfl (dl_cons (de_var 1) dl_nil) (ln_cons ln0))) (de_and rfl (by exact (de_fun his_integer rfl hr (by decide) rfl (dl_cons (de_var 2) dl_nil) (ln_cons ln0))) (de_and rfl (by exact (de_cmp op_gt od_gt (de_var 2) de_int (nomark _))) (de_one (by exact (de_cmp (op_eqD hr.units) od_eq (by exact (de_callFun cr_gcd cd_gcd rfl T.m_gcd (dl_cons (de_var 1) (dl_cons (de_var 2) dl_nil)))) de_int (nomark _))))))))))))) (FN.binds fun _ _ _ _ _ _ us hl => match us, hl with | [_], _ => rfl) (fun q hq => by
    simp only [List.mem_cons, List.mem_nil_iff, or_false] at hq
    rcases hq with rfl
    · refine ⟨rfl, fun s ws _ hl => ?_⟩
      obtain ⟨oc, od, kV, dc, pm, an, cdv, ct, osl, rfl, _, _⟩ := FN.ex
      match ws, hl with
      | [_], _ => exact .of_eq rfl)
abbrev s_reduced : Stmt := topS 17
theorem sc_reduced : FnScope ["top", "bottom", "divisor"] ["top", "bottom"] (defScope s_reduced) := ⟨rfl, rfl, rfl, by decide +kernel, rfl, by decide +kernel, by decide +kernel⟩
def m_reduced : MS := sSeq (sSet 2 (eF fGcd (lCons (eV true 0) (lCons (eV true 1) (lNil))))) (sSeq (sIf (mB (e2 fLt (eV false 1) (eK (.int 0)))) (sSet 2 (e1 fNeg (eV true 2))) (sNx)) (sRet (eTup (lCons (e2 fDiv (eV false 0) (eV false 2)) (lCons (e2 fDiv (eV false 1) (eV false 2)) (lNil))))))
def F_reduced : DF := runD 3 m_reduced
theorem ok_reduced (T : Tx mg)  {fa : Addr} {fd : FuncData} (FN : Fun k.K "_reduced" "_reduced" s_reduced fa fd) (gn : mg "_reduced" = some (.ref fa)) : Has P w k mg base "_reduced" 1 ["top", "bottom"] [] F_reduced :=
  has_mk (j := 0) FN gn sc_reduced (fun cdv A outer s H E f hr =>
    (dss_cons (ds_set (i := 2) sc_reduced.nd rfl (.inl rfl) (by exact (de_callFun cr_gcd cd_gcd rfl T.m_gcd (dl_cons (de_var 0) (dl_cons (de_var 1) dl_nil))))) (dss_cons (ds_if (by exact (dt_cmp op_lt od_lt (de_var 1) de_int (nomark _))) (dss_one (ds_set (i := 2) sc_reduced.nd rfl (.inl rfl) (by exact (de_un un_neg ud_neg (de_var 2))))) dss_nil) (dss_one (ds_ret (by exact (de_tup (dl_cons (by exact (de_op op_fdivZ od_div (de_var 0) (de_var 2))) (dl_cons (by exact (de_op op_fdivZ od_div (de_var 1) (de_var 2))) dl_nil))))))))) (FN.binds fun _ _ _ _ _ _ us hl => match us, hl with | [_, _], _ => rfl) (fun q hq => by simp at hq)
abbrev sfraction : Stmt := topS 9
theorem scfraction : FnScope ["top", "bottom"] ["top", "bottom"] (defScope sfraction) := ⟨rfl, rfl, rfl, by decide +kernel, rfl, by decide +kernel, by decide +kernel⟩
def mfraction : MS := sSeq (sIf (mOr (mNot (mTru (eCall Fis_integer (lCons (eV false 0) (lNil))))) (mOr (mNot (mTru (eCall Fis_integer (lCons (eV false 1) (lNil))))) (mB (e2 fEq (eV false 1) (eK (.int 0)))))) (sNo) (sNx)) (sRet (eCall F_reduced (lCons (eV false 0) (lCons (eV false 1) (lNil)))))
def Ffraction : DF := runD 2 mfraction
theorem okfraction (T : Tx mg) (h_reduced : Has P w k mg base "_reduced" 1 ["top", "bottom"] [] F_reduced) (his_integer : Has P w k mg base "is_integer" 1 ["value"] [] Fis_integer) {fa : Addr} {fd : FuncData} (FN : Fun k.K "fraction" "fraction" sfraction fa fd) (gn : mg "fraction" = some (.ref fa)) : Has P w k mg base "fraction" 2 ["top", "bottom"] [(["bottom", "top"], [1, 0])] Ffraction :=
  has_mk (j := 1) FN gn scfraction (fun cdv A outer s H E f hr =>
    (dss_cons (ds_if (by exact (PW.pt (dw_or (by exact (dt_not (by exact (dt_tru (sm := false) rfl (by exact (de_fun his_integer rfl hr (by decide) rfl (dl_cons (de_var 0) dl_nil) (ln_cons ln0))))))) (dw_or (by exact (dt_not (by exact (dt_tru (sm := false) rfl (by exact (de_fun his_integer rfl hr (by decide) rfl (dl_cons (de_var 1) dl_nil) (ln_cons ln0))))))) (dw_or1 (by exact (dt_cmp (op_eqD hr.units) od_eq (de_var 1) de_int (nomark _)))))))) (dss_one ds_no) dss_nil) (dss_one (ds_ret (by exact (de_fun h_reduced rfl hr (by decide) rfl (dl_cons (de_var 0) (dl_cons (de_var 1) dl_nil)) (ln_cons (ln_cons ln0)))))))) (FN.binds fun _ _ _ _ _ _ us hl => match us, hl with | [_, _], _ => rfl) (fun q hq => by
    simp only [List.mem_cons, List.mem_nil_iff, or_false] at hq
    rcases hq with rfl
    · refine ⟨rfl, fun s ws _ hl => ?_⟩
      obtain ⟨oc, od, kV, dc, pm, an, cdv, ct, osl, rfl, _, _⟩ := FN.ex
      match ws, hl with
      | [_, _], _ => exact .of_eq rfl)
abbrev s_check_both : Stmt := topS 16
theorem sc_check_both : FnScope ["one", "other"] ["one", "other"] (defScope s_check_both) := ⟨rfl, rfl, rfl, by decide +kernel, rfl, by decide +kernel, by decide +kernel⟩
def m_check_both : MS := sIf (mOr (mNot (mTru (eCall Fis_fraction (lCons (eV false 0) (lNil))))) (mNot (mTru (eCall Fis_fraction (lCons (eV false 1) (lNil)))))) (sNo) (sNx)
def F_check_both : DF := runD 2 m_check_both
theorem ok_check_both (T : Tx mg) (his_fraction : Has P w k mg base "is_fraction" 2 ["value"] [(["value"], [0])] Fis_fraction) {fa : Addr} {fd : FuncData} (FN : Fun k.K "_check_both" "_check_both" s_check_both fa fd) (gn : mg "_check_both" = some (.ref fa)) : Has P w k mg base "_check_both" 3 ["one", "other"] [] F_check_both :=
  has_mk (j := 2) FN gn sc_check_both (fun cdv A outer s H E f hr =>
    (dss_one (ds_if (by exact (PW.pt (dw_or (by exact (dt_not (by exact (dt_tru (sm := false) rfl (by exact (de_fun his_fraction rfl hr (by decide) rfl (dl_cons (de_var 0) dl_nil) (ln_cons ln0))))))) (dw_or1 (by exact (dt_not (by exact (dt_tru (sm := false) rfl (by exact (de_fun his_fraction rfl hr (by decide) rfl (dl_cons (de_var 1) dl_nil) (ln_cons ln0))))))))))) (dss_one ds_no) dss_nil))) (FN.binds fun _ _ _ _ _ _ us hl => match us, hl with | [_, _], _ => rfl) (fun q hq => by simp at hq)
abbrev splus : Stmt := topS 10
theorem scplus : FnScope ["one", "other"] ["one", "other"] (defScope splus) := ⟨rfl, rfl, rfl, by decide +kernel, rfl, by decide +kernel, by decide +kernel⟩
def mplus : MS := sSeq (sDrop (eCall F_check_both (lCons (eV true 0) (lCons (eV true 1) (lNil))))) (sRet (eCall F_reduced (lCons (e2 fAdd (e2 fMul (e2 fIx (eV false 0) (eK (.int 0))) (e2 fIx (eV false 1) (eK (.int 1)))) (e2 fMul (e2 fIx (eV false 1) (eK (.int 0))) (e2 fIx (eV false 0) (eK (.int 1))))) (lCons (e2 fMul (e2 fIx (eV false 0) (eK (.int 1))) (e2 fIx (eV false 1) (eK (.int 1)))) (lNil)))))
def Fplus : DF := runD 2 mplus
theorem okplus (T : Tx mg) (h_check_both : Has P w k mg base "_check_both" 3 ["one", "other"] [] F_check_both) (h_reduced : Has P w k mg base "_reduced" 1 ["top", "bottom"] [] F_reduced) {fa : Addr} {fd : FuncData} (FN : Fun k.K "plus" "plus" splus fa fd) (gn : mg "plus" = some (.ref fa)) : Has P w k mg base "plus" 4 ["one", "other"] [(["other", "one"], [1, 0])] Fplus :=
  has_mk (j := 3) FN gn scplus (fun cdv A outer s H E f hr =>
    (dss_cons (ds_drop (by exact (de_fun h_check_both rfl hr (by decide) rfl (dl_cons (de_var 0) (dl_cons (de_var 1) dl_nil)) (ln_cons (ln_cons ln0))))) (dss_one (ds_ret (by exact (de_fun h_reduced rfl hr (by decide) rfl (dl_cons (by exact (de_op op_addA od_add (by exact (de_op op_mulA od_mul (by exact (de_ix ix_seq od_ix (de_var 0) de_int)) (by exact (de_ix ix_seq od_ix (de_var 1) de_int)))) (by exact (de_op op_mulA od_mul (by exact (de_ix ix_seq od_ix (de_var 1) de_int)) (by exact (de_ix ix_seq od_ix (de_var 0) de_int)))))) (dl_cons (by exact (de_op op_mulA od_mul (by exact (de_ix ix_seq od_ix (de_var 0) de_int)) (by exact (de_ix ix_seq od_ix (de_var 1) de_int)))) dl_nil)) (ln_cons (ln_cons ln0)))))))) (FN.binds fun _ _ _ _ _ _ us hl => match us, hl with | [_, _], _ => rfl) (fun q hq => by
    simp only [List.mem_cons, List.mem_nil_iff, or_false] at hq
    rcases hq with rfl
    · refine ⟨rfl, fun s ws _ hl => ?_⟩
      obtain ⟨oc, od, kV, dc, pm, an, cdv, ct, osl, rfl, _, _⟩ := FN.ex
      match ws, hl with
      | [_, _], _ => exact .of_eq rfl)
abbrev sminus : Stmt := topS 11
theorem scminus : FnScope ["one", "other"] ["one", "other"] (defScope sminus) := ⟨rfl, rfl, rfl, by decide +kernel, rfl, by decide +kernel, by decide +kernel⟩
def mminus : MS := sSeq (sDrop (eCall F_check_both (lCons (eV true 0) (lCons (eV true 1) (lNil))))) (sRet (eCall F_reduced (lCons (e2 fSub (e2 fMul (e2 fIx (eV false 0) (eK (.int 0))) (e2 fIx (eV false 1) (eK (.int 1)))) (e2 fMul (e2 fIx (eV false 1) (eK (.int 0))) (e2 fIx (eV false 0) (eK (.int 1))))) (lCons (e2 fMul (e2 fIx (eV false 0) (eK (.int 1))) (e2 fIx (eV false 1) (eK (.int 1)))) (lNil)))))
def Fminus : DF := runD 2 mminus
theorem okminus (T : Tx mg) (h_check_both : Has P w k mg base "_check_both" 3 ["one", "other"] [] F_check_both) (h_reduced : Has P w k mg base "_reduced" 1 ["top", "bottom"] [] F_reduced) {fa : Addr} {fd : FuncData} (FN : Fun k.K "minus" "minus" sminus fa fd) (gn : mg "minus" = some (.ref fa)) : Has P w k mg base "minus" 4 ["one", "other"] [(["other", "one"], [1, 0])] Fminus :=
  has_mk (j := 3) FN gn scminus (fun cdv A outer s H E f hr =>
    (dss_cons (ds_drop (by exact (de_fun h_check_both rfl hr (by decide) rfl (dl_cons (de_var 0) (dl_cons (de_var 1) dl_nil)) (ln_cons (ln_cons ln0))))) (dss_one (ds_ret (by exact (de_fun h_reduced rfl hr (by decide) rfl (dl_cons (by exact (de_op op_sub od_sub (by exact (de_op op_mulA od_mul (by exact (de_ix ix_seq od_ix (de_var 0) de_int)) (by exact (de_ix ix_seq od_ix (de_var 1) de_int)))) (by exact (de_op op_mulA od_mul (by exact (de_ix ix_seq od_ix (de_var 1) de_int)) (by exact (de_ix ix_seq od_ix (de_var 0) de_int)))))) (dl_cons (by exact (de_op op_mulA od_mul (by exact (de_ix ix_seq od_ix (de_var 0) de_int)) (by exact (de_ix ix_seq od_ix (de_var 1) de_int)))) dl_nil)) (ln_cons (ln_cons ln0)))))))) (FN.binds fun _ _ _ _ _ _ us hl => match us, hl with | [_, _], _ => rfl) (fun q hq => by
    simp only [List.mem_cons, List.mem_nil_iff, or_false] at hq
    rcases hq with rfl
    · refine ⟨rfl, fun s ws _ hl => ?_⟩
      obtain ⟨oc, od, kV, dc, pm, an, cdv, ct, osl, rfl, _, _⟩ := FN.ex
      match ws, hl with
      | [_, _], _ => exact .of_eq rfl)
abbrev stimes : Stmt := topS 12
theorem sctimes : FnScope ["one", "other"] ["one", "other"] (defScope stimes) := ⟨rfl, rfl, rfl, by decide +kernel, rfl, by decide +kernel, by decide +kernel⟩
def mtimes : MS := sSeq (sDrop (eCall F_check_both (lCons (eV true 0) (lCons (eV true 1) (lNil))))) (sRet (eCall F_reduced (lCons (e2 fMul (e2 fIx (eV false 0) (eK (.int 0))) (e2 fIx (eV false 1) (eK (.int 0)))) (lCons (e2 fMul (e2 fIx (eV false 0) (eK (.int 1))) (e2 fIx (eV false 1) (eK (.int 1)))) (lNil)))))
def Ftimes : DF := runD 2 mtimes
theorem oktimes (T : Tx mg) (h_check_both : Has P w k mg base "_check_both" 3 ["one", "other"] [] F_check_both) (h_reduced : Has P w k mg base "_reduced" 1 ["top", "bottom"] [] F_reduced) {fa : Addr} {fd : FuncData} (FN : Fun k.K "times" "times" stimes fa fd) (gn : mg "times" = some (.ref fa)) : Has P w k mg base "times" 4 ["one", "other"] [(["other", "one"], [1, 0])] Ftimes :=
  has_mk (j := 3) FN gn sctimes (fun cdv A outer s H E f hr =>
    (dss_cons (ds_drop (by exact (de_fun h_check_both rfl hr (by decide) rfl (dl_cons (de_var 0) (dl_cons (de_var 1) dl_nil)) (ln_cons (ln_cons ln0))))) (dss_one (ds_ret (by exact (de_fun h_reduced rfl hr (by decide) rfl (dl_cons (by exact (de_op op_mulA od_mul (by exact (de_ix ix_seq od_ix (de_var 0) de_int)) (by exact (de_ix ix_seq od_ix (de_var 1) de_int)))) (dl_cons (by exact (de_op op_mulA od_mul (by exact (de_ix ix_seq od_ix (de_var 0) de_int)) (by exact (de_ix ix_seq od_ix (de_var 1) de_int)))) dl_nil)) (ln_cons (ln_cons ln0)))))))) (FN.binds fun _ _ _ _ _ _ us hl => match us, hl with | [_, _], _ => rfl) (fun q hq => by
    simp only [List.mem_cons, List.mem_nil_iff, or_false] at hq
    rcases hq with rfl
    · refine ⟨rfl, fun s ws _ hl => ?_⟩
      obtain ⟨oc, od, kV, dc, pm, an, cdv, ct, osl, rfl, _, _⟩ := FN.ex
      match ws, hl with
      | [_, _], _ => exact .of_eq rfl)
abbrev sover : Stmt := topS 13
theorem scover : FnScope ["one", "other"] ["one", "other"] (defScope sover) := ⟨rfl, rfl, rfl, by decide +kernel, rfl, by decide +kernel, by decide +kernel⟩
def mover : MS := sSeq (sDrop (eCall F_check_both (lCons (eV true 0) (lCons (eV true 1) (lNil))))) (sSeq (sIf (mB (e2 fEq (e2 fIx (eV false 1) (eK (.int 0))) (eK (.int 0)))) (sNo) (sNx)) (sRet (eCall F_reduced (lCons (e2 fMul (e2 fIx (eV false 0) (eK (.int 0))) (e2 fIx (eV false 1) (eK (.int 1)))) (lCons (e2 fMul (e2 fIx (eV false 0) (eK (.int 1))) (e2 fIx (eV false 1) (eK (.int 0)))) (lNil))))))
def Fover : DF := runD 2 mover
theorem okover (T : Tx mg) (h_check_both : Has P w k mg base "_check_both" 3 ["one", "other"] [] F_check_both) (h_reduced : Has P w k mg base "_reduced" 1 ["top", "bottom"] [] F_reduced) {fa : Addr} {fd : FuncData} (FN : Fun k.K "over" "over" sover fa fd) (gn : mg "over" = some (.ref fa)) : Has P w k mg base "over" 4 ["one", "other"] [(["other", "one"], [1, 0])] Fover :=
  has_mk (j := 3) FN gn scover (fun cdv A outer s H E f hr =>
    (dss_cons (ds_drop (by exact (de_fun h_check_both rfl hr (by decide) rfl (dl_cons (de_var 0) (dl_cons (de_var 1) dl_nil)) (ln_cons (ln_cons ln0))))) (dss_cons (ds_if (by exact (dt_cmp (op_eqD hr.units) od_eq (by exact (de_ix ix_seq od_ix (de_var 1) de_int)) de_int (nomark _))) (dss_one ds_no) dss_nil) (dss_one (ds_ret (by exact (de_fun h_reduced rfl hr (by decide) rfl (dl_cons (by exact (de_op op_mulA od_mul (by exact (de_ix ix_seq od_ix (de_var 0) de_int)) (by exact (de_ix ix_seq od_ix (de_var 1) de_int)))) (dl_cons (by exact (de_op op_mulA od_mul (by exact (de_ix ix_seq od_ix (de_var 0) de_int)) (by exact (de_ix ix_seq od_ix (de_var 1) de_int)))) dl_nil)) (ln_cons (ln_cons ln0))))))))) (FN.binds fun _ _ _ _ _ _ us hl => match us, hl with | [_, _], _ => rfl) (fun q hq => by
    simp only [List.mem_cons, List.mem_nil_iff, or_false] at hq
    rcases hq with rfl
    · refine ⟨rfl, fun s ws _ hl => ?_⟩
      obtain ⟨oc, od, kV, dc, pm, an, cdv, ct, osl, rfl, _, _⟩ := FN.ex
      match ws, hl with
      | [_, _], _ => exact .of_eq rfl)
abbrev sbelow : Stmt := topS 14
theorem scbelow : FnScope ["one", "other"] ["one", "other"] (defScope sbelow) := ⟨rfl, rfl, rfl, by decide +kernel, rfl, by decide +kernel, by decide +kernel⟩
def mbelow : MS := sSeq (sDrop (eCall F_check_both (lCons (eV true 0) (lCons (eV true 1) (lNil))))) (sRet (e2 fLt (e2 fMul (e2 fIx (eV false 0) (eK (.int 0))) (e2 fIx (eV false 1) (eK (.int 1)))) (e2 fMul (e2 fIx (eV false 1) (eK (.int 0))) (e2 fIx (eV false 0) (eK (.int 1))))))
def Fbelow : DF := runD 2 mbelow
theorem okbelow (T : Tx mg) (h_check_both : Has P w k mg base "_check_both" 3 ["one", "other"] [] F_check_both) {fa : Addr} {fd : FuncData} (FN : Fun k.K "below" "below" sbelow fa fd) (gn : mg "below" = some (.ref fa)) : Has P w k mg base "below" 4 ["one", "other"] [(["other", "one"], [1, 0])] Fbelow :=
  has_mk (j := 3) FN gn scbelow (fun cdv A outer s H E f hr =>
    (dss_cons (ds_drop (by exact (de_fun h_check_both rfl hr (by decide) rfl (dl_cons (de_var 0) (dl_cons (de_var 1) dl_nil)) (ln_cons (ln_cons ln0))))) (dss_one (ds_ret (by exact (de_cmp op_lt od_lt (by exact (de_op op_mulA od_mul (by exact (de_ix ix_seq od_ix (de_var 0) de_int)) (by exact (de_ix ix_seq od_ix (de_var 1) de_int)))) (by exact (de_op op_mulA od_mul (by exact (de_ix ix_seq od_ix (de_var 1) de_int)) (by exact (de_ix ix_seq od_ix (de_var 0) de_int)))) (nomark _))))))) (FN.binds fun _ _ _ _ _ _ us hl => match us, hl with | [_, _], _ => rfl) (fun q hq => by
    simp only [List.mem_cons, List.mem_nil_iff, or_false] at hq
    rcases hq with rfl
    · refine ⟨rfl, fun s ws _ hl => ?_⟩
      obtain ⟨oc, od, kV, dc, pm, an, cdv, ct, osl, rfl, _, _⟩ := FN.ex
      match ws, hl with
      | [_, _], _ => exact .of_eq rfl)
abbrev s_unreduced_total : Stmt := topS 18
theorem sc_unreduced_total : FnScope ["numbers", "half", "top", "bottom", "other_top", "other_bottom"] ["numbers"] (defScope s_unreduced_total) := ⟨rfl, rfl, rfl, by decide +kernel, rfl, by decide +kernel, by decide +kernel⟩
def m_unreduced_total (F_unreduced_total : DF) : MS := sSeq (sIf (mB (e2 fEq (eF fLen (lCons (eV false 0) (lNil))) (eK (.int 1)))) (sRet (e2 fIx (eV false 0) (eK (.int 0)))) (sNx)) (sSeq (sSet 1 (e2 fDiv (eF fLen (lCons (eV true 0) (lNil))) (eK (.int 2)))) (sSeq (sAsg (.many [2, 3]) (eCall F_unreduced_total (lCons (eSl (eV true 0) (oNo) (oAt (eV true 1))) (lNil)))) (sSeq (sAsg (.many [4, 5]) (eCall F_unreduced_total (lCons (eSl (eV true 0) (oAt (eV true 1)) (oNo)) (lNil)))) (sRet (eTup (lCons (e2 fAdd (e2 fMul (eV false 2) (eV false 5)) (e2 fMul (eV false 4) (eV false 3))) (lCons (e2 fMul (eV false 3) (eV false 5)) (lNil))))))))
def F_unreduced_total : Nat → DF
  | 0 => fun _ _ => none
  | n + 1 => runD 6 (m_unreduced_total (F_unreduced_total n))
theorem step_unreduced_total (T : Tx mg)  {F_unreduced_total : DF} {j : Nat} (hj : 0 ≤ j) (h_unreduced_total : Has P w k mg base "_unreduced_total" j ["numbers"] [] F_unreduced_total) {fa : Addr} {fd : FuncData} (FN : Fun k.K "_unreduced_total" "_unreduced_total" s_unreduced_total fa fd) (gn : mg "_unreduced_total" = some (.ref fa)) : Has P w k mg base "_unreduced_total" (j + 1) ["numbers"] [] (runD 6 (m_unreduced_total F_unreduced_total)) :=
  has_mk (j := j) FN gn sc_unreduced_total (fun cdv A outer s H E f hr =>
    (dss_cons (ds_if (by exact (dt_cmp (op_eqD hr.units) od_eq (by exact (de_callB call_lenA cd_len rfl T.m_len PySem.boot_len (dl_cons (de_var 0) dl_nil))) de_int (nomark _))) (dss_one (ds_ret (by exact (de_ix ix_seq od_ix (de_var 0) de_int)))) dss_nil) (dss_cons (ds_set (i := 1) sc_unreduced_total.nd rfl (.inl rfl) (by exact (de_op op_fdivZ od_div (by exact (de_callB call_lenA cd_len rfl T.m_len PySem.boot_len (dl_cons (de_var 0) dl_nil))) de_int))) (dss_cons (ds_asg (by exact (de_fun h_unreduced_total rfl hr (by first | decide | omega) rfl (dl_cons (by exact (de_slice rfl (de_var 0) do_none (do_some (de_var 1)))) dl_nil) (ln_cons ln0))) (dg_tup (is := [2, 3]) rfl rfl (pgs_cons (pg_name (i := 2) sc_unreduced_total.nd rfl (.inl rfl)) (pgs_cons (pg_name (i := 3) sc_unreduced_total.nd rfl (.inl rfl)) pgs_nil)))) (dss_cons (ds_asg (by exact (de_fun h_unreduced_total rfl hr (by first | decide | omega) rfl (dl_cons (by exact (de_slice rfl (de_var 0) (do_some (de_var 1)) do_none)) dl_nil) (ln_cons ln0))) (dg_tup (is := [4, 5]) rfl rfl (pgs_cons (pg_name (i := 4) sc_unreduced_total.nd rfl (.inl rfl)) (pgs_cons (pg_name (i := 5) sc_unreduced_total.nd rfl (.inl rfl)) pgs_nil)))) (dss_one (ds_ret (by exact (de_tup (dl_cons (by exact (de_op op_addA od_add (by exact (de_op op_mulA od_mul (de_var 2) (de_var 5))) (by exact (de_op op_mulA od_mul (de_var 4) (de_var 3))))) (dl_cons (by exact (de_op op_mulA od_mul (de_var 3) (de_var 5))) dl_nil))))))))))) (FN.binds fun _ _ _ _ _ _ us hl => match us, hl with | [_], _ => rfl) (fun q hq => by simp at hq)
abbrev ssum_of : Stmt := topS 15
theorem scsum_of : FnScope ["numbers", "top", "bottom", "number"] ["numbers"] (defScope ssum_of) := ⟨rfl, rfl, rfl, by decide +kernel, rfl, by decide +kernel, by decide +kernel⟩
def msum_of : MS := sSeq (sIf (mOr (mB (eTyC true "tuple" (eV false 0))) (mNot (mTru (eAllG (.one 3) (iOfT (eV true 0)) (eCall Fis_fraction (lCons (eV false 3) (lNil))) [3])))) (sNo) (sNx)) (sSeq (sIf (mNot (mTru (eV false 0))) (sRet (eTup (lCons (eK (.int 0)) (lCons (eK (.int 1)) (lNil))))) (sNx)) (sSeq (sAsg (.many [1, 2]) (eCall (F_unreduced_total 7) (lCons (eV true 0) (lNil)))) (sRet (eCall F_reduced (lCons (eV false 1) (lCons (eV false 2) (lNil)))))))
def Fsum_of : DF := runD 4 msum_of
theorem oksum_of (T : Tx mg) (h_unreduced_total : Has P w k mg base "_unreduced_total" 8 ["numbers"] [] (F_unreduced_total 7)) (h_reduced : Has P w k mg base "_reduced" 1 ["top", "bottom"] [] F_reduced) (his_fraction : Has P w k mg base "is_fraction" 2 ["value"] [(["value"], [0])] Fis_fraction) {fa c Pt : Addr} {fd : FuncData} (FC : FunC k.K "sum_of" "sum_of" ssum_of fa fd c) (gn : mg "sum_of" = some (.ref fa)) (hPT : Pt ∈ k.T) (TB : GxR.TabB base mg c Pt) : Has P w k mg base "sum_of" 10 ["numbers"] [(["numbers"], [0])] Fsum_of := by
  have FN := FC.fn
  exact has_mkC (j := 9) FC gn scsum_of (fun A outer s H E f hr =>
    (dss_cons (ds_if (by exact (PW.pt (dw_or (by exact (dt_tyNe (.inr (.inr (.inr (.inr (.inr rfl))))) rfl rfl T.m_type (tyname (T := "tuple") (x := "tuple") rfl T.m_tuple (by decide +kernel) (by decide) (by decide)) (de_var 0))) (dw_or1 (by exact (dt_not (by exact (dt_tru (sm := false) rfl (by exact (de_allG (own := [("number", 3)]) hPT hr rfl scsum_of.nd rfl T.m_all TB rfl ⟨rfl, rfl, by decide +kernel, rfl⟩ (by exact blkOk_by (own := [("number", 3)]) (by show blkC ["numbers", "top", "bottom", "number"] (defScope ssum_of) _ _ = true; decide +kernel)) (by exact (di_tup rfl (de_var 0))) (fun _ _ _ _ _ _ hsc => by exact (dg_name (i := 3) scsum_of.nd rfl (.inl (by exact (congrArg (fun z : Scope => z.names.lookup ("number" : Str)) hsc).trans rfl)) (.inr (by exact (congrArg (fun z : Scope => z.names.lookup ("number" : Str)) hsc).trans rfl)))) (fun _ _ _ _ _ _ _ _ hR => (by exact (de_fun his_fraction rfl hR (by decide) rfl (dl_cons (de_var 3) dl_nil) (ln_cons ln0)))))))))))))) (dss_one ds_no) dss_nil) (dss_cons (ds_if (by exact (dt_not (by exact (dt_tru (sm := false) rfl (de_var 0))))) (dss_one (ds_ret (by exact (de_tup (dl_cons de_int (dl_cons de_int dl_nil)))))) dss_nil) (dss_cons (ds_asg (by exact (de_fun h_unreduced_total rfl hr (by decide) rfl (dl_cons (de_var 0) dl_nil) (ln_cons ln0))) (dg_tup (is := [1, 2]) rfl rfl (pgs_cons (pg_name (i := 1) scsum_of.nd rfl (.inl rfl)) (pgs_cons (pg_name (i := 2) scsum_of.nd rfl (.inl rfl)) pgs_nil)))) (dss_one (ds_ret (by exact (de_fun h_reduced rfl hr (by decide) rfl (dl_cons (de_var 1) (dl_cons (de_var 2) dl_nil)) (ln_cons (ln_cons ln0)))))))))) (FN.binds fun _ _ _ _ _ _ us hl => match us, hl with | [_], _ => rfl) (fun q hq => by
    simp only [List.mem_cons, List.mem_nil_iff, or_false] at hq
    rcases hq with rfl
    · refine ⟨rfl, fun s ws _ hl => ?_⟩
      obtain ⟨oc, od, kV, dc, pm, an, cdv, ct, osl, rfl, _, _⟩ := FN.ex
      match ws, hl with
      | [_], _ => exact .of_eq rfl)
abbrev s_law_spring : Stmt := topS 20
theorem sc_law_spring : FnScope ["script", "great", "mixed", "cell"] ["script"] (defScope s_law_spring) := ⟨rfl, rfl, rfl, by decide +kernel, rfl, by decide +kernel, by decide +kernel⟩
def m_law_spring : MS := sSeq (sSet 1 (eN (nLc (.one 3) (iOfZ (eV true 0)) (mB (e2 fGe (eV false 3) (e2 fPow (eK (.int 10)) (eK (.int 18))))) (e2 fSub (eV true 3) (e2 fPow (eK (.int 10)) (eK (.int 18)))) [3]))) (sSeq (sSet 2 (e2 fAdd (eK (.int 15485863)) (e2 fMul (eK (.int 2)) (eF fLen (lCons (eV true 0) (lNil)))))) (sSeq (sFor (.one 3) (iOfZ (eV true 0)) (sSet 2 (e2 fMod (eF fInt1 (lCons (e2 fAdd (e2 fAdd (e2 fMul (eV true 2) (eK (.int 982451653))) (e2 fMul (eV true 3) (eK (.int 49979687)))) (eK (.int 32452843))) (lNil))) (eK (.int 2305843009213693951))))) (sRet (eN (nLst (lCons (eV false 1) (lCons (eV false 2) (lCons (eK (.int 0)) (lNil)))))))))
def F_law_spring : DF := runD 4 m_law_spring
theorem ok_law_spring (T : Tx mg)  {fa : Addr} {fd : FuncData} (FN : Fun k.K "_law_spring" "_law_spring" s_law_spring fa fd) (gn : mg "_law_spring" = some (.ref fa)) : Has P w k mg base "_law_spring" 1 ["script"] [] F_law_spring :=
  has_mk (j := 0) FN gn sc_law_spring (fun cdv A outer s H E f hr =>
    (dss_cons (ds_setLc (own := [("cell", 3)]) (i := 1) rfl sc_law_spring.nd rfl rfl (sw_true rfl rfl rfl (by decide +kernel)) (by exact (di_fz rfl (de_var 0))) (by exact blkOk_by (own := [("cell", 3)]) (by show blkC ["script", "great", "mixed", "cell"] (defScope s_law_spring) _ _ = true; decide +kernel)) (fun _ _ _ _ _ _ => (dg_name (i := 3) sc_law_spring.nd rfl (.inl rfl))) (fun _ _ _ _ _ => pts_x fun _ => (by exact (dt_cmp op_ge od_ge (de_var 3) (by exact (de_op op_pow od_pow de_int de_int)) (nomark _)))) (fun _ _ _ _ _ _ => (by exact (de_op op_sub od_sub (de_var 3) (by exact (de_op op_pow od_pow de_int de_int)))))) (dss_cons (ds_set (i := 2) sc_law_spring.nd rfl (.inl rfl) (by exact (de_op op_addA od_add de_int (by exact (de_op op_mulA od_mul de_int (by exact (de_callB call_lenA cd_len rfl T.m_len PySem.boot_len (dl_cons (de_var 0) dl_nil)))))))) (dss_cons (ds_for PassesOwn.never rfl (by exact (di_fz rfl (de_var 0))) (dg_name (i := 3) sc_law_spring.nd rfl (.inl rfl)) fun _ => (dss_one (ds_set (i := 2) sc_law_spring.nd rfl (.inl rfl) (by exact (de_op op_mod od_mod (by exact (de_callTy call_int1 cd_int1 rfl T.m_int (by decide +kernel) (dl_cons (by exact (de_op op_addA od_add (by exact (de_op op_addA od_add (by exact (de_op op_mulA od_mul (de_var 2) de_int)) (by exact (de_op op_mulA od_mul (de_var 3) de_int)))) de_int)) dl_nil))) de_int))))) (dss_one (ds_ret (by exact (de_n (by exact (dn_lst (dl_cons (de_var 1) (dl_cons (de_var 2) (dl_cons de_int dl_nil))))))))))))) (FN.binds fun _ _ _ _ _ _ us hl => match us, hl with | [_], _ => rfl) (fun q hq => by simp at hq)
abbrev s_law_drop : Stmt := topS 21
theorem sc_law_drop : FnScope ["spring", "many", "great", "found"] ["spring", "many"] (defScope s_law_drop) := ⟨rfl, rfl, rfl, by decide +kernel, rfl, by decide +kernel, by decide +kernel⟩
def m_law_drop : MS := sSeq (sSet 2 (eSp 0 (eV true 0))) (sSeq (sWhile (fuG) (mAnd (mGrNe (eV false 2)) (mB (e2 fEq (eGr0 (eV false 2)) (eK (.int 0))))) (sGrPop (eV true 2))) (sSeq (sIf (mGrNe (eV false 2)) (sSeq (sSet 3 (e2 fMod (eF fInt1 (lCons (eGr0 (eV true 2)) (lNil))) (eV true 1))) (sSeq (sGrSet (e2 fDiv (eGr0 (eV true 2)) (eV true 1)) (eV true 2)) (sRet (eV false 3)))) (sNx)) (sSeq (sSpSet 2 (e2 fAdd (eSp 2 (eV true 0)) (eK (.int 1))) (eV true 0)) (sSeq (sSpSet 1 (e2 fMod (eF fInt1 (lCons (e2 fAdd (e2 fMul (eSp 1 (eV true 0)) (eK (.int 6364136223846793005))) (e2 fMul (eSp 2 (eV true 0)) (eK (.int 1442695040888963407)))) (lNil))) (eK (.int 2305843009213693951))) (eV true 0)) (sRet (e2 fMod (e2 fDiv (e2 fMod (eF fInt1 (lCons (e2 fMul (eSp 1 (eV false 0)) (eSp 1 (eV false 0))) (lNil))) (eK (.int 2305843009213693921))) (eK (.int 1048576))) (eV false 1)))))))
def F_law_drop : DF := runD 4 m_law_drop
theorem ok_law_drop (T : Tx mg)  (ho : k.on = true) {fa : Addr} {fd : FuncData} (FN : Fun k.K "_law_drop" "_law_drop" s_law_drop fa fd) (gn : mg "_law_drop" = some (.ref fa)) : Has P w k mg base "_law_drop" 1 ["spring", "many"] [] F_law_drop :=
  has_mk (j := 0) FN gn sc_law_drop (fun cdv A outer s H E f hr =>
    (dss_cons (ds_set (i := 2) sc_law_drop.nd rfl (.inl rfl) (by exact (de_spr 0 (by decide) rfl ho (de_var 0)))) (dss_cons (ds_while (fu := fuG) PassesOwn.never (by exact (PW.pt (dw_and (by exact (dt_grNe hr.units rfl ho (de_var 2))) (dw_and1 (by exact (dt_cmp (op_eqD hr.units) od_eq (by exact (de_gr0 rfl ho (de_var 2))) de_int (nomark _))))))) (dss_one (ds_grPop rfl ho (de_var 2) (pe_bm PySem.F.plainAttrs_list PySem.F.slot_list_pop PySem.F.type_list_pop mt_popAt (de_var 2) (pa_cons de_int pa_nil))))) (dss_cons (ds_if (by exact (dt_grNe hr.units rfl ho (de_var 2))) (dss_cons (ds_set (i := 3) sc_law_drop.nd rfl (.inl rfl) (by exact (de_op op_mod od_mod (by exact (de_callTy call_int1 cd_int1 rfl T.m_int (by decide +kernel) (dl_cons (by exact (de_gr0 rfl ho (de_var 2))) dl_nil))) (de_var 1)))) (dss_cons (ds_grSet rfl ho (by exact (de_op op_fdivZ od_div (by exact (de_gr0 rfl ho (de_var 2))) (de_var 1))) (de_var 2)) (dss_one (ds_ret (de_var 3))))) dss_nil) (dss_cons (ds_spSet 2 (by decide) rfl ho (by exact (de_op op_addA od_add (by exact (de_spr 2 (by decide) rfl ho (de_var 0))) de_int)) (de_var 0)) (dss_cons (ds_spSet 1 (by decide) rfl ho (by exact (de_op op_mod od_mod (by exact (de_callTy call_int1 cd_int1 rfl T.m_int (by decide +kernel) (dl_cons (by exact (de_op op_addA od_add (by exact (de_op op_mulA od_mul (by exact (de_spr 1 (by decide) rfl ho (de_var 0))) de_int)) (by exact (de_op op_mulA od_mul (by exact (de_spr 2 (by decide) rfl ho (de_var 0))) de_int)))) dl_nil))) de_int)) (de_var 0)) (dss_one (ds_ret (by exact (de_op op_mod od_mod (by exact (de_op op_fdivZ od_div (by exact (de_op op_mod od_mod (by exact (de_callTy call_int1 cd_int1 rfl T.m_int (by decide +kernel) (dl_cons (by exact (de_op op_mulA od_mul (by exact (de_spr 1 (by decide) rfl ho (de_var 0))) (by exact (de_spr 1 (by decide) rfl ho (de_var 0))))) dl_nil))) de_int)) de_int)) (de_var 1))))))))))) (FN.binds fun _ _ _ _ _ _ us hl => match us, hl with | [_, _], _ => rfl) (fun q hq => by simp at hq)
abbrev s_law_kinds : Stmt := topS 22
theorem sc_law_kinds : FnScope ["thing", "found"] ["thing"] (defScope s_law_kinds) := ⟨rfl, rfl, rfl, by decide +kernel, rfl, by decide +kernel, by decide +kernel⟩
def m_law_kinds : MS := sSeq (sSet 1 (eN (nLst (lCons (eIsi "bool" (eV true 0)) (lCons (eIsi "int" (eV true 0)) (lCons (eIsi "str" (eV true 0)) (lNil))))))) (sRet (e2 fAdd (eV false 1) (eN (nLst (lCons (eIsi "tuple" (eV false 0)) (lCons (eIsi "list" (eV false 0)) (lCons (e1 (fIsN false) (eV false 0)) (lNil))))))))
def F_law_kinds : DF := runD 2 m_law_kinds
theorem ok_law_kinds (T : Tx mg)  {fa : Addr} {fd : FuncData} (FN : Fun k.K "_law_kinds" "_law_kinds" s_law_kinds fa fd) (gn : mg "_law_kinds" = some (.ref fa)) : Has P w k mg base "_law_kinds" 1 ["thing"] [] F_law_kinds :=
  has_mk (j := 0) FN gn sc_law_kinds (fun cdv A outer s H E f hr =>
    (dss_cons (ds_set (i := 1) sc_law_kinds.nd rfl (.inl rfl) (by exact (de_n (by exact (dn_lst (dl_cons (by exact (de_isi rfl ask_bool rfl T.m_isinstance (tyname (T := "bool") (x := "bool") rfl T.m_bool (by decide +kernel) (by decide) (by decide)) (de_var 0))) (dl_cons (by exact (de_isi rfl ask_int rfl T.m_isinstance (tyname (T := "int") (x := "int") rfl T.m_int (by decide +kernel) (by decide) (by decide)) (de_var 0))) (dl_cons (by exact (de_isi rfl ask_str rfl T.m_isinstance (tyname (T := "str") (x := "str") rfl T.m_str (by decide +kernel) (by decide) (by decide)) (de_var 0))) dl_nil)))))))) (dss_one (ds_ret (by exact (de_op op_addA od_add (de_var 1) (by exact (de_n (by exact (dn_lst (dl_cons (by exact (de_isi rfl ask_tuple rfl T.m_isinstance (tyname (T := "tuple") (x := "tuple") rfl T.m_tuple (by decide +kernel) (by decide) (by decide)) (de_var 0))) (dl_cons (by exact (de_isi rfl ask_list rfl T.m_isinstance (tyname (T := "list") (x := "list") rfl T.m_list (by decide +kernel) (by decide) (by decide)) (de_var 0))) (dl_cons (by exact (de_isN (de_var 0))) dl_nil))))))))))))) (FN.binds fun _ _ _ _ _ _ us hl => match us, hl with | [_], _ => rfl) (fun q hq => by simp at hq)
abbrev s_law_alike : Stmt := topS 23
theorem sc_law_alike : FnScope ["found", "due", "k"] ["found", "due"] (defScope s_law_alike) := ⟨rfl, rfl, rfl, by decide +kernel, rfl, by decide +kernel, by decide +kernel⟩
def m_law_alike (F_law_alike : DF) : MS := sSeq (sIf (mB (e2 fNe (eCall F_law_kinds (lCons (eV false 0) (lNil))) (eCall F_law_kinds (lCons (eV false 1) (lNil))))) (sRet (eK (.bool false))) (sNx)) (sSeq (sIf (mTru (eIsi2 "tuple" "list" (eV false 1))) (sRet (eAnd (e2 fEq (eF fLen (lCons (eV false 0) (lNil))) (eF fLen (lCons (eV false 1) (lNil)))) (eF fAll (lCons (eN (nLc (.one 2) (iRg1 (lCons (eF fLen (lCons (eV true 1) (lNil))) (lNil))) (mYes) (eCall F_law_alike (lCons (e2 fIx (eV false 0) (eV false 2)) (lCons (e2 fIx (eV false 1) (eV false 2)) (lNil)))) [2])) (lNil))))) (sNx)) (sRet (e2 fEq (eV false 0) (eV false 1))))
def F_law_alike : Nat → DF
  | 0 => fun _ _ => none
  | n + 1 => runD 3 (m_law_alike (F_law_alike n))
theorem step_law_alike (T : Tx mg) (h_law_kinds : Has P w k mg base "_law_kinds" 1 ["thing"] [] F_law_kinds) {F_law_alike : DF} {j : Nat} (hj : 1 ≤ j) (h_law_alike : Has P w k mg base "_law_alike" j ["found", "due"] [] F_law_alike) {fa : Addr} {fd : FuncData} (FN : Fun k.K "_law_alike" "_law_alike" s_law_alike fa fd) (gn : mg "_law_alike" = some (.ref fa)) : Has P w k mg base "_law_alike" (j + 1) ["found", "due"] [] (runD 3 (m_law_alike F_law_alike)) :=
  has_mk (j := j) FN gn sc_law_alike (fun cdv A outer s H E f hr =>
    (dss_cons (ds_if (by exact (dt_cmp (op_neD hr.units) od_ne (by exact (de_fun h_law_kinds rfl hr (by first | decide | omega) rfl (dl_cons (de_var 0) dl_nil) (ln_cons ln0))) (by exact (de_fun h_law_kinds rfl hr (by first | decide | omega) rfl (dl_cons (de_var 1) dl_nil) (ln_cons ln0))) (nomark _))) (dss_one (ds_ret de_bl)) dss_nil) (dss_cons (ds_if (by exact (dt_tru (sm := false) rfl (by exact (de_isi2 rfl ask_tuple ask_list rfl T.m_isinstance (tyname (T := "tuple") (x := "tuple") rfl T.m_tuple (by decide +kernel) (by decide) (by decide)) (tyname (T := "list") (x := "list") rfl T.m_list (by decide +kernel) (by decide) (by decide)) (de_var 1))))) (dss_one (ds_ret (by exact (de_and rfl (by exact (de_cmp (op_eqD hr.units) od_eq (by exact (de_callB call_lenA cd_len rfl T.m_len PySem.boot_len (dl_cons (de_var 0) dl_nil))) (by exact (de_callB call_lenA cd_len rfl T.m_len PySem.boot_len (dl_cons (de_var 1) dl_nil))) (nomark _))) (de_one (by exact (de_callB (cr_all rfl) cd_all rfl T.m_all (by decide +kernel) (dl_cons (by exact (de_n (by exact (dn_lc (own := [("k", 2)]) rfl sc_law_alike.nd (by exact (di_rg1 rfl T.m_range (dl_cons (by exact (de_callB call_lenA cd_len rfl T.m_len PySem.boot_len (dl_cons (de_var 1) dl_nil))) dl_nil))) (by exact blkOk_by (own := [("k", 2)]) (by show blkC ["found", "due", "k"] (defScope s_law_alike) _ _ = true; decide +kernel)) (fun _ _ _ _ _ _ => (dg_name (i := 2) sc_law_alike.nd rfl (.inl rfl))) (fun _ _ _ _ _ => pts_y) (fun _ _ _ _ _ _ => (by exact (de_fun h_law_alike rfl hr (by first | decide | omega) rfl (dl_cons (by exact (de_ix ix_seq od_ix (de_var 0) (de_var 2))) (dl_cons (by exact (de_ix ix_seq od_ix (de_var 1) (de_var 2))) dl_nil)) (ln_cons (ln_cons ln0))))))))) dl_nil)))))))) dss_nil) (dss_one (ds_ret (by exact (de_cmp (op_eqD hr.units) od_eq (de_var 0) (de_var 1) (nomark _)))))))) (FN.binds fun _ _ _ _ _ _ us hl => match us, hl with | [_, _], _ => rfl) (fun q hq => by simp at hq)
abbrev s_law_low : Stmt := topS 24
theorem sc_law_low : FnScope ["top", "bottom", "one", "other"] ["top", "bottom"] (defScope s_law_low) := ⟨rfl, rfl, rfl, by decide +kernel, rfl, by decide +kernel, by decide +kernel⟩
def m_law_low : MS := sSeq (sPar [2, 3] (lCons (eF fAbs (lCons (eV true 0) (lNil))) (lCons (eF fAbs (lCons (eV true 1) (lNil))) (lNil)))) (sSeq (sWhile (fuI 3) (mB (e2 fGt (eV false 3) (eK (.int 0)))) (sPar [2, 3] (lCons (eV true 3) (lCons (e2 fMod (eF fInt1 (lCons (eV true 2) (lNil))) (eV true 3)) (lNil))))) (sSeq (sSet 2 (eIf (mB (e2 fGt (eV false 1) (eK (.int 0)))) (eV true 2) (e1 fNeg (eV true 2)))) (sRet (eTup (lCons (e2 fDiv (eV false 0) (eV false 2)) (lCons (e2 fDiv (eV false 1) (eV false 2)) (lNil)))))))
def F_law_low : DF := runD 4 m_law_low
theorem ok_law_low (T : Tx mg)  {fa : Addr} {fd : FuncData} (FN : Fun k.K "_law_low" "_law_low" s_law_low fa fd) (gn : mg "_law_low" = some (.ref fa)) : Has P w k mg base "_law_low" 1 ["top", "bottom"] [] F_law_low :=
  has_mk (j := 0) FN gn sc_law_low (fun cdv A outer s H E f hr =>
    (dss_cons (ds_par2 (i := 2) (j := 3) rfl sc_law_low.nd rfl rfl (by decide) rfl rfl (dl_cons (by exact (de_callB call_abs cd_abs rfl T.m_abs (by decide +kernel) (dl_cons (de_var 0) dl_nil))) (dl_cons (by exact (de_callB call_abs cd_abs rfl T.m_abs (by decide +kernel) (dl_cons (de_var 1) dl_nil))) dl_nil)) (by rfl)) (dss_cons (ds_while (fu := fuI 3) PassesOwn.never (by exact (dt_cmp op_gt od_gt (de_var 3) de_int (nomark _))) (dss_one (ds_par2 (i := 2) (j := 3) rfl sc_law_low.nd rfl rfl (by decide) rfl rfl (dl_cons (de_var 3) (dl_cons (by exact (de_op op_mod od_mod (by exact (de_callTy call_int1 cd_int1 rfl T.m_int (by decide +kernel) (dl_cons (de_var 2) dl_nil))) (de_var 3))) dl_nil)) (by rfl)))) (dss_cons (ds_set (i := 2) sc_law_low.nd rfl (.inl rfl) (by exact (de_if (by exact (dt_cmp op_gt od_gt (de_var 1) de_int (nomark _))) (de_var 2) (by exact (de_un un_neg ud_neg (de_var 2)))))) (dss_one (ds_ret (by exact (de_tup (dl_cons (by exact (de_op op_fdivZ od_div (de_var 0) (de_var 2))) (dl_cons (by exact (de_op op_fdivZ od_div (de_var 1) (de_var 2))) dl_nil)))))))))) (FN.binds fun _ _ _ _ _ _ us hl => match us, hl with | [_, _], _ => rfl) (fun q hq => by simp at hq)
abbrev s_law_plus : Stmt := topS 25
theorem sc_law_plus : FnScope ["one", "other"] ["one", "other"] (defScope s_law_plus) := ⟨rfl, rfl, rfl, by decide +kernel, rfl, by decide +kernel, by decide +kernel⟩
def m_law_plus : MS := sRet (eCall F_law_low (lCons (e2 fAdd (e2 fMul (e2 fIx (eV false 0) (eK (.int 0))) (e2 fIx (eV false 1) (eK (.int 1)))) (e2 fMul (e2 fIx (eV false 1) (eK (.int 0))) (e2 fIx (eV false 0) (eK (.int 1))))) (lCons (e2 fMul (e2 fIx (eV false 0) (eK (.int 1))) (e2 fIx (eV false 1) (eK (.int 1)))) (lNil))))
def F_law_plus : DF := runD 2 m_law_plus
theorem ok_law_plus (T : Tx mg) (h_law_low : Has P w k mg base "_law_low" 1 ["top", "bottom"] [] F_law_low) {fa : Addr} {fd : FuncData} (FN : Fun k.K "_law_plus" "_law_plus" s_law_plus fa fd) (gn : mg "_law_plus" = some (.ref fa)) : Has P w k mg base "_law_plus" 2 ["one", "other"] [] F_law_plus :=
  has_mk (j := 1) FN gn sc_law_plus (fun cdv A outer s H E f hr =>
    (dss_one (ds_ret (by exact (de_fun h_law_low rfl hr (by decide) rfl (dl_cons (by exact (de_op op_addA od_add (by exact (de_op op_mulA od_mul (by exact (de_ix ix_seq od_ix (de_var 0) de_int)) (by exact (de_ix ix_seq od_ix (de_var 1) de_int)))) (by exact (de_op op_mulA od_mul (by exact (de_ix ix_seq od_ix (de_var 1) de_int)) (by exact (de_ix ix_seq od_ix (de_var 0) de_int)))))) (dl_cons (by exact (de_op op_mulA od_mul (by exact (de_ix ix_seq od_ix (de_var 0) de_int)) (by exact (de_ix ix_seq od_ix (de_var 1) de_int)))) dl_nil)) (ln_cons (ln_cons ln0))))))) (FN.binds fun _ _ _ _ _ _ us hl => match us, hl with | [_, _], _ => rfl) (fun q hq => by simp at hq)
abbrev s_law_minus : Stmt := topS 26
theorem sc_law_minus : FnScope ["one", "other"] ["one", "other"] (defScope s_law_minus) := ⟨rfl, rfl, rfl, by decide +kernel, rfl, by decide +kernel, by decide +kernel⟩
def m_law_minus : MS := sRet (eCall F_law_plus (lCons (eV false 0) (lCons (eTup (lCons (e1 fNeg (e2 fIx (eV false 1) (eK (.int 0)))) (lCons (e2 fIx (eV false 1) (eK (.int 1))) (lNil)))) (lNil))))
def F_law_minus : DF := runD 2 m_law_minus
theorem ok_law_minus (T : Tx mg) (h_law_plus : Has P w k mg base "_law_plus" 2 ["one", "other"] [] F_law_plus) {fa : Addr} {fd : FuncData} (FN : Fun k.K "_law_minus" "_law_minus" s_law_minus fa fd) (gn : mg "_law_minus" = some (.ref fa)) : Has P w k mg base "_law_minus" 3 ["one", "other"] [] F_law_minus :=
  has_mk (j := 2) FN gn sc_law_minus (fun cdv A outer s H E f hr =>
    (dss_one (ds_ret (by exact (de_fun h_law_plus rfl hr (by decide) rfl (dl_cons (de_var 0) (dl_cons (by exact (de_tup (dl_cons (by exact (de_un un_neg ud_neg (by exact (de_ix ix_seq od_ix (de_var 1) de_int)))) (dl_cons (by exact (de_ix ix_seq od_ix (de_var 1) de_int)) dl_nil)))) dl_nil)) (ln_cons (ln_cons ln0))))))) (FN.binds fun _ _ _ _ _ _ us hl => match us, hl with | [_, _], _ => rfl) (fun q hq => by simp at hq)
abbrev s_law_times : Stmt := topS 27
theorem sc_law_times : FnScope ["one", "other"] ["one", "other"] (defScope s_law_times) := ⟨rfl, rfl, rfl, by decide +kernel, rfl, by decide +kernel, by decide +kernel⟩
def m_law_times : MS := sRet (eCall F_law_low (lCons (e2 fMul (e2 fIx (eV false 0) (eK (.int 0))) (e2 fIx (eV false 1) (eK (.int 0)))) (lCons (e2 fMul (e2 fIx (eV false 0) (eK (.int 1))) (e2 fIx (eV false 1) (eK (.int 1)))) (lNil))))
def F_law_times : DF := runD 2 m_law_times
theorem ok_law_times (T : Tx mg) (h_law_low : Has P w k mg base "_law_low" 1 ["top", "bottom"] [] F_law_low) {fa : Addr} {fd : FuncData} (FN : Fun k.K "_law_times" "_law_times" s_law_times fa fd) (gn : mg "_law_times" = some (.ref fa)) : Has P w k mg base "_law_times" 2 ["one", "other"] [] F_law_times :=
  has_mk (j := 1) FN gn sc_law_times (fun cdv A outer s H E f hr =>
    (dss_one (ds_ret (by exact (de_fun h_law_low rfl hr (by decide) rfl (dl_cons (by exact (de_op op_mulA od_mul (by exact (de_ix ix_seq od_ix (de_var 0) de_int)) (by exact (de_ix ix_seq od_ix (de_var 1) de_int)))) (dl_cons (by exact (de_op op_mulA od_mul (by exact (de_ix ix_seq od_ix (de_var 0) de_int)) (by exact (de_ix ix_seq od_ix (de_var 1) de_int)))) dl_nil)) (ln_cons (ln_cons ln0))))))) (FN.binds fun _ _ _ _ _ _ us hl => match us, hl with | [_, _], _ => rfl) (fun q hq => by simp at hq)
abbrev s_law_below : Stmt := topS 28
theorem sc_law_below : FnScope ["one", "other"] ["one", "other"] (defScope s_law_below) := ⟨rfl, rfl, rfl, by decide +kernel, rfl, by decide +kernel, by decide +kernel⟩
def m_law_below : MS := sRet (e2 fLt (e2 fMul (e2 fIx (eV false 0) (eK (.int 0))) (e2 fIx (eV false 1) (eK (.int 1)))) (e2 fMul (e2 fIx (eV false 1) (eK (.int 0))) (e2 fIx (eV false 0) (eK (.int 1)))))
def F_law_below : DF := runD 2 m_law_below
theorem ok_law_below (T : Tx mg)  {fa : Addr} {fd : FuncData} (FN : Fun k.K "_law_below" "_law_below" s_law_below fa fd) (gn : mg "_law_below" = some (.ref fa)) : Has P w k mg base "_law_below" 1 ["one", "other"] [] F_law_below :=
  has_mk (j := 0) FN gn sc_law_below (fun cdv A outer s H E f hr =>
    (dss_one (ds_ret (by exact (de_cmp op_lt od_lt (by exact (de_op op_mulA od_mul (by exact (de_ix ix_seq od_ix (de_var 0) de_int)) (by exact (de_ix ix_seq od_ix (de_var 1) de_int)))) (by exact (de_op op_mulA od_mul (by exact (de_ix ix_seq od_ix (de_var 1) de_int)) (by exact (de_ix ix_seq od_ix (de_var 0) de_int)))) (nomark _)))))) (FN.binds fun _ _ _ _ _ _ us hl => match us, hl with | [_, _], _ => rfl) (fun q hq => by simp at hq)
abbrev s_law_number : Stmt := topS 29
theorem sc_law_number : FnScope ["spring", "way"] ["spring"] (defScope s_law_number) := ⟨rfl, rfl, rfl, by decide +kernel, rfl, by decide +kernel, by decide +kernel⟩
def m_law_number : MS := sSeq (sSet 1 (eCall Fd_law_drop (lCons (eV true 0) (lCons (eK (.int 6)) (lNil))))) (sSeq (sIf (mB (e2 fEq (eV false 1) (eK (.int 0)))) (sRet (eTup (lCons (e2 fSub (eCall Fd_law_drop (lCons (eV false 0) (lCons (eK (.int 2001)) (lNil)))) (eK (.int 1000))) (lCons (eK (.int 1)) (lNil))))) (sNx)) (sSeq (sIf (mB (e2 fLt (eV false 1) (eK (.int 3)))) (sRet (eCall F_law_low (lCons (e2 fSub (eCall Fd_law_drop (lCons (eV false 0) (lCons (eK (.int 2000001)) (lNil)))) (eK (.int 1000000))) (lCons (e2 fIx (eN (nLst (lCons (eK (.int 100)) (lCons (eK (.int 1000)) (lCons (eK (.int 8)) (lCons (eK (.int 20)) (lNil))))))) (eCall Fd_law_drop (lCons (eV false 0) (lCons (eK (.int 4)) (lNil))))) (lNil))))) (sNx)) (sSeq (sIf (mB (e2 fLt (eV false 1) (eK (.int 5)))) (sRet (eCall F_law_low (lCons (e2 fSub (eCall Fd_law_drop (lCons (eV false 0) (lCons (eK (.int 41)) (lNil)))) (eK (.int 20))) (lCons (e2 fAdd (eK (.int 1)) (eCall Fd_law_drop (lCons (eV false 0) (lCons (eK (.int 12)) (lNil))))) (lNil))))) (sNx)) (sRet (eCall F_law_low (lCons (e2 fSub (eCall Fd_law_drop (lCons (eV false 0) (lCons (eK (.int 2000001)) (lNil)))) (eK (.int 1000000))) (lCons (e2 fAdd (eK (.int 1)) (eCall Fd_law_drop (lCons (eV false 0) (lCons (eK (.int 1000)) (lNil))))) (lNil))))))))
def F_law_number : DF := runD 2 m_law_number
theorem ok_law_number (T : Tx mg) (h_law_drop : Has P w k mg base "_law_drop" 1 ["spring", "many"] [] Fd_law_drop) (h_law_low : Has P w k mg base "_law_low" 1 ["top", "bottom"] [] F_law_low) {fa : Addr} {fd : FuncData} (FN : Fun k.K "_law_number" "_law_number" s_law_number fa fd) (gn : mg "_law_number" = some (.ref fa)) : Has P w k mg base "_law_number" 2 ["spring"] [] F_law_number :=
  has_mk (j := 1) FN gn sc_law_number (fun cdv A outer s H E f hr =>
    (dss_cons (ds_set (i := 1) sc_law_number.nd rfl (.inl rfl) (by exact (de_fun h_law_drop rfl hr (by decide) rfl (dl_cons (de_var 0) (dl_cons de_int dl_nil)) (ln_cons (ln_cons ln0))))) (dss_cons (ds_if (by exact (dt_cmp (op_eqD hr.units) od_eq (de_var 1) de_int (nomark _))) (dss_one (ds_ret (by exact (de_tup (dl_cons (by exact (de_op op_sub od_sub (by exact (de_fun h_law_drop rfl hr (by decide) rfl (dl_cons (de_var 0) (dl_cons de_int dl_nil)) (ln_cons (ln_cons ln0)))) de_int)) (dl_cons de_int dl_nil)))))) dss_nil) (dss_cons (ds_if (by exact (dt_cmp op_lt od_lt (de_var 1) de_int (nomark _))) (dss_one (ds_ret (by exact (de_fun h_law_low rfl hr (by decide) rfl (dl_cons (by exact (de_op op_sub od_sub (by exact (de_fun h_law_drop rfl hr (by decide) rfl (dl_cons (de_var 0) (dl_cons de_int dl_nil)) (ln_cons (ln_cons ln0)))) de_int)) (dl_cons (by exact (de_ix ix_seq od_ix (by exact (de_n (by exact (dn_lst (dl_cons de_int (dl_cons de_int (dl_cons de_int (dl_cons de_int dl_nil)))))))) (by exact (de_fun h_law_drop rfl hr (by decide) rfl (dl_cons (de_var 0) (dl_cons de_int dl_nil)) (ln_cons (ln_cons ln0)))))) dl_nil)) (ln_cons (ln_cons ln0)))))) dss_nil) (dss_cons (ds_if (by exact (dt_cmp op_lt od_lt (de_var 1) de_int (nomark _))) (dss_one (ds_ret (by exact (de_fun h_law_low rfl hr (by decide) rfl (dl_cons (by exact (de_op op_sub od_sub (by exact (de_fun h_law_drop rfl hr (by decide) rfl (dl_cons (de_var 0) (dl_cons de_int dl_nil)) (ln_cons (ln_cons ln0)))) de_int)) (dl_cons (by exact (de_op op_addA od_add de_int (by exact (de_fun h_law_drop rfl hr (by decide) rfl (dl_cons (de_var 0) (dl_cons de_int dl_nil)) (ln_cons (ln_cons ln0)))))) dl_nil)) (ln_cons (ln_cons ln0)))))) dss_nil) (dss_one (ds_ret (by exact (de_fun h_law_low rfl hr (by decide) rfl (dl_cons (by exact (de_op op_sub od_sub (by exact (de_fun h_law_drop rfl hr (by decide) rfl (dl_cons (de_var 0) (dl_cons de_int dl_nil)) (ln_cons (ln_cons ln0)))) de_int)) (dl_cons (by exact (de_op op_addA od_add de_int (by exact (de_fun h_law_drop rfl hr (by decide) rfl (dl_cons (de_var 0) (dl_cons de_int dl_nil)) (ln_cons (ln_cons ln0)))))) dl_nil)) (ln_cons (ln_cons ln0))))))))))) (FN.binds fun _ _ _ _ _ _ us hl => match us, hl with | [_], _ => rfl) (fun q hq => by simp at hq)
abbrev s_law_above : Stmt := topS 30
theorem sc_law_above : FnScope ["spring", "top", "bottom"] ["spring"] (defScope s_law_above) := ⟨rfl, rfl, rfl, by decide +kernel, rfl, by decide +kernel, by decide +kernel⟩
def m_law_above : MS := sSeq (sAsg (.many [1, 2]) (eCall F_law_number (lCons (eV true 0) (lNil)))) (sRet (eIf (mB (e2 fNe (eV false 1) (eK (.int 0)))) (eTup (lCons (eF fAbs (lCons (eV false 1) (lNil))) (lCons (eV false 2) (lNil)))) (eTup (lCons (eK (.int 1)) (lCons (eK (.int 100)) (lNil))))))
def F_law_above : DF := runD 3 m_law_above
theorem ok_law_above (T : Tx mg) (h_law_number : Has P w k mg base "_law_number" 2 ["spring"] [] F_law_number) {fa : Addr} {fd : FuncData} (FN : Fun k.K "_law_above" "_law_above" s_law_above fa fd) (gn : mg "_law_above" = some (.ref fa)) : Has P w k mg base "_law_above" 3 ["spring"] [] F_law_above :=
  has_mk (j := 2) FN gn sc_law_above (fun cdv A outer s H E f hr =>
    (dss_cons (ds_asg (by exact (de_fun h_law_number rfl hr (by decide) rfl (dl_cons (de_var 0) dl_nil) (ln_cons ln0))) (dg_tup (is := [1, 2]) rfl rfl (pgs_cons (pg_name (i := 1) sc_law_above.nd rfl (.inl rfl)) (pgs_cons (pg_name (i := 2) sc_law_above.nd rfl (.inl rfl)) pgs_nil)))) (dss_one (ds_ret (by exact (de_if (by exact (dt_cmp (op_neD hr.units) od_ne (de_var 1) de_int (nomark _))) (by exact (de_tup (dl_cons (by exact (de_callB call_abs cd_abs rfl T.m_abs (by decide +kernel) (dl_cons (de_var 1) dl_nil))) (dl_cons (de_var 2) dl_nil)))) (by exact (de_tup (dl_cons de_int (dl_cons de_int dl_nil)))))))))) (FN.binds fun _ _ _ _ _ _ us hl => match us, hl with | [_], _ => rfl) (fun q hq => by simp at hq)
abbrev s_law_is : Stmt := topS 31
theorem sc_law_is : FnScope ["value", "one"] ["value"] (defScope s_law_is) := ⟨rfl, rfl, rfl, by decide +kernel, rfl, by decide +kernel, by decide +kernel⟩
def m_law_is : MS := sSeq (sIf (mOr (mNot (mTru (eIsi "tuple" (eV false 0)))) (mB (e2 fNe (eF fLen (lCons (eV false 0) (lNil))) (eK (.int 2))))) (sRet (eK (.bool false))) (sNx)) (sSeq (sIf (mNot (mTru (eF fAll (lCons (eN (nLc (.one 1) (iOfT (eV true 0)) (mYes) (eAnd (eIsi "int" (eV false 1)) (eNot (eIsi "bool" (eV false 1)))) [1])) (lNil))))) (sRet (eK (.bool false))) (sNx)) (sRet (eAnd (e2 fGt (e2 fIx (eV false 0) (eK (.int 1))) (eK (.int 0))) (e2 fEq (eCall F_law_low (lCons (e2 fIx (eV false 0) (eK (.int 0))) (lCons (e2 fIx (eV false 0) (eK (.int 1))) (lNil)))) (eV false 0)))))
def F_law_is : DF := runD 2 m_law_is
theorem ok_law_is (T : Tx mg) (h_law_low : Has P w k mg base "_law_low" 1 ["top", "bottom"] [] F_law_low) {fa : Addr} {fd : FuncData} (FN : Fun k.K "_law_is" "_law_is" s_law_is fa fd) (gn : mg "_law_is" = some (.ref fa)) : Has P w k mg base "_law_is" 2 ["value"] [] F_law_is :=
  has_mk (j := 1) FN gn sc_law_is (fun cdv A outer s H E f hr =>
    (dss_cons (ds_if (by exact (PW.pt (dw_or (by exact (dt_not (by exact (dt_tru (sm := false) rfl (by exact (de_isi rfl ask_tuple rfl T.m_isinstance (tyname (T := "tuple") (x := "tuple") rfl T.m_tuple (by decide +kernel) (by decide) (by decide)) (de_var 0))))))) (dw_or1 (by exact (dt_cmp (op_neD hr.units) od_ne (by exact (de_callB call_lenA cd_len rfl T.m_len PySem.boot_len (dl_cons (de_var 0) dl_nil))) de_int (nomark _))))))) (dss_one (ds_ret de_bl)) dss_nil) (dss_cons (ds_if (by exact (dt_not (by exact (dt_tru (sm := false) rfl (by exact (de_callB (cr_all rfl) cd_all rfl T.m_all (by decide +kernel) (dl_cons (by exact (de_n (by exact (dn_lc (own := [("one", 1)]) rfl sc_law_is.nd (by exact (di_tup rfl (de_var 0))) (by exact blkOk_by (own := [("one", 1)]) (by show blkC ["value", "one"] (defScope s_law_is) _ _ = true; decide +kernel)) (fun _ _ _ _ _ _ => (dg_name (i := 1) sc_law_is.nd rfl (.inl rfl))) (fun _ _ _ _ _ => pts_y) (fun _ _ _ _ _ _ => (by exact (de_and rfl (by exact (de_isi rfl ask_int rfl T.m_isinstance (tyname (T := "int") (x := "int") rfl T.m_int (by decide +kernel) (by decide) (by decide)) (de_var 1))) (de_one (by exact (de_not rfl (by exact (de_isi rfl ask_bool rfl T.m_isinstance (tyname (T := "bool") (x := "bool") rfl T.m_bool (by decide +kernel) (by decide) (by decide)) (de_var 1))))))))))))) dl_nil))))))) (dss_one (ds_ret de_bl)) dss_nil) (dss_one (ds_ret (by exact (de_and rfl (by exact (de_cmp op_gt od_gt (by exact (de_ix ix_seq od_ix (de_var 0) de_int)) de_int (nomark _))) (de_one (by exact (de_cmp (op_eqD hr.units) od_eq (by exact (de_fun h_law_low rfl hr (by decide) rfl (dl_cons (by exact (de_ix ix_seq od_ix (de_var 0) de_int)) (dl_cons (by exact (de_ix ix_seq od_ix (de_var 0) de_int)) dl_nil)) (ln_cons (ln_cons ln0)))) (de_var 0) (nomark _))))))))))) (FN.binds fun _ _ _ _ _ _ us hl => match us, hl with | [_], _ => rfl) (fun q hq => by simp at hq)
abbrev s_law_means : Stmt := topS 32
theorem sc_law_means : FnScope ["found", "top", "bottom"] ["found", "top", "bottom"] (defScope s_law_means) := ⟨rfl, rfl, rfl, by decide +kernel, rfl, by decide +kernel, by decide +kernel⟩
def m_law_means : MS := sRet (eAnd (eCall F_law_is (lCons (eV false 0) (lNil))) (e2 fEq (e2 fMul (e2 fIx (eV false 0) (eK (.int 0))) (eV false 2)) (e2 fMul (eV false 1) (e2 fIx (eV false 0) (eK (.int 1))))))
def F_law_means : DF := runD 3 m_law_means
theorem ok_law_means (T : Tx mg) (h_law_is : Has P w k mg base "_law_is" 2 ["value"] [] F_law_is) {fa : Addr} {fd : FuncData} (FN : Fun k.K "_law_means" "_law_means" s_law_means fa fd) (gn : mg "_law_means" = some (.ref fa)) : Has P w k mg base "_law_means" 3 ["found", "top", "bottom"] [] F_law_means :=
  has_mk (j := 2) FN gn sc_law_means (fun cdv A outer s H E f hr =>
    (dss_one (ds_ret (by exact (de_and rfl (by exact (de_fun h_law_is rfl hr (by decide) rfl (dl_cons (de_var 0) dl_nil) (ln_cons ln0))) (de_one (by exact (de_cmp (op_eqD hr.units) od_eq (by exact (de_op op_mulA od_mul (by exact (de_ix ix_seq od_ix (de_var 0) de_int)) (de_var 2))) (by exact (de_op op_mulA od_mul (de_var 1) (by exact (de_ix ix_seq od_ix (de_var 0) de_int)))) (nomark _))))))))) (FN.binds fun _ _ _ _ _ _ us hl => match us, hl with | [_, _, _], _ => rfl) (fun q hq => by simp at hq)
abbrev s_law_pair_right : Stmt := topS 33
theorem sc_law_pair_right : FnScope ["one", "other", "told", "less", "a", "b", "c", "d", "found", "top", "bottom"] ["one", "other"] (defScope s_law_pair_right) := ⟨rfl, rfl, rfl, by decide +kernel, rfl, by decide +kernel, by decide +kernel⟩
def m_law_pair_right : MS := sSeq (sAsg (.many [4, 5, 6, 7]) (eTup (lCons (e2 fIx (eV true 0) (eK (.int 0))) (lCons (e2 fIx (eV true 0) (eK (.int 1))) (lCons (e2 fIx (eV true 1) (eK (.int 0))) (lCons (e2 fIx (eV true 1) (eK (.int 1))) (lNil))))))) (sSeq (sOwn 2 (nLst (lCons (eN (nLst (lCons (eCall Fplus (lCons (eV true 0) (lCons (eV true 1) (lNil)))) (lCons (e2 fAdd (e2 fMul (eV true 4) (eV true 7)) (e2 fMul (eV true 6) (eV true 5))) (lCons (e2 fMul (eV true 5) (eV true 7)) (lNil)))))) (lCons (eN (nLst (lCons (eCall Fminus (lCons (eV true 0) (lCons (eV true 1) (lNil)))) (lCons (e2 fSub (e2 fMul (eV true 4) (eV true 7)) (e2 fMul (eV true 6) (eV true 5))) (lCons (e2 fMul (eV true 5) (eV true 7)) (lNil)))))) (lCons (eN (nLst (lCons (eCall Ftimes (lCons (eV true 0) (lCons (eV true 1) (lNil)))) (lCons (e2 fMul (eV true 4) (eV true 6)) (lCons (e2 fMul (eV true 5) (eV true 7)) (lNil)))))) (lNil)))))) (sSeq (sOwn 2 (nCatO 2 (eN (nLst (lCons (eN (nLst (lCons (eCallK Fplus [1, 0] (lCons (eV true 1) (lCons (eV true 0) (lNil)))) (lCons (e2 fAdd (e2 fMul (eV true 4) (eV true 7)) (e2 fMul (eV true 6) (eV true 5))) (lCons (e2 fMul (eV true 5) (eV true 7)) (lNil)))))) (lCons (eN (nLst (lCons (eCallK Fminus [1, 0] (lCons (eV true 1) (lCons (eV true 0) (lNil)))) (lCons (e2 fSub (e2 fMul (eV true 4) (eV true 7)) (e2 fMul (eV true 6) (eV true 5))) (lCons (e2 fMul (eV true 5) (eV true 7)) (lNil)))))) (lNil))))))) (sSeq (sApp 2 (eN (nLst (lCons (eCallK Ftimes [1, 0] (lCons (eV true 1) (lCons (eV true 0) (lNil)))) (lCons (e2 fMul (eV true 4) (eV true 6)) (lCons (e2 fMul (eV true 5) (eV true 7)) (lNil))))))) (sSeq (sIf (mB (e2 fNe (eV false 6) (eK (.int 0)))) (sOwn 2 (nCatO 2 (eN (nLst (lCons (eN (nLst (lCons (eCall Fover (lCons (eV true 0) (lCons (eV true 1) (lNil)))) (lCons (e2 fMul (eV true 4) (eV true 7)) (lCons (e2 fMul (eV true 5) (eV true 6)) (lNil)))))) (lCons (eN (nLst (lCons (eCallK Fover [1, 0] (lCons (eV true 1) (lCons (eV true 0) (lNil)))) (lCons (e2 fMul (eV true 4) (eV true 7)) (lCons (e2 fMul (eV true 5) (eV true 6)) (lNil)))))) (lNil))))))) (sNx)) (sFrz 2 (sSeq (sIf (mNot (mTru (eF fAll (lCons (eN (nLc (.manyL [8, 9, 10]) (iOf (eV true 2)) (mYes) (eCall F_law_means (lCons (eV false 8) (lCons (eV false 9) (lCons (eV false 10) (lNil))))) [8, 9, 10])) (lNil))))) (sRet (eK (.bool false))) (sNx)) (sSeq (sSet 3 (e2 fLt (e2 fMul (eV true 4) (eV true 7)) (e2 fMul (eV true 6) (eV true 5)))) (sRet (eCall (F_law_alike 7) (lCons (eN (nLst (lCons (eCall Fbelow (lCons (eV false 0) (lCons (eV false 1) (lNil)))) (lCons (eCallK Fbelow [1, 0] (lCons (eV false 1) (lCons (eV false 0) (lNil)))) (lCons (eCall Fbelow (lCons (eV false 0) (lCons (eV false 0) (lNil)))) (lNil)))))) (lCons (eN (nLst (lCons (eV false 3) (lCons (eV false 3) (lCons (eK (.bool false)) (lNil)))))) (lNil))))))))))))
def F_law_pair_right : DF := runD 11 m_law_pair_right
theorem ok_law_pair_right (T : Tx mg) (h_law_alike : Has P w k mg base "_law_alike" 8 ["found", "due"] [] (F_law_alike 7)) (hplus : Has P w k mg base "plus" 4 ["one", "other"] [(["other", "one"], [1, 0])] Fplus) (hminus : Has P w k mg base "minus" 4 ["one", "other"] [(["other", "one"], [1, 0])] Fminus) (htimes : Has P w k mg base "times" 4 ["one", "other"] [(["other", "one"], [1, 0])] Ftimes) (hbelow : Has P w k mg base "below" 4 ["one", "other"] [(["other", "one"], [1, 0])] Fbelow) (h_law_means : Has P w k mg base "_law_means" 3 ["found", "top", "bottom"] [] F_law_means) (hover : Has P w k mg base "over" 4 ["one", "other"] [(["other", "one"], [1, 0])] Fover) {fa : Addr} {fd : FuncData} (FN : Fun k.K "_law_pair_right" "_law_pair_right" s_law_pair_right fa fd) (gn : mg "_law_pair_right" = some (.ref fa)) : Has P w k mg base "_law_pair_right" 9 ["one", "other"] [] F_law_pair_right :=
  has_mk (j := 8) FN gn sc_law_pair_right (fun cdv A outer s H E f hr =>
    (dss_cons (ds_asg (by exact (de_tup (dl_cons (by exact (de_ix ix_seq od_ix (de_var 0) de_int)) (dl_cons (by exact (de_ix ix_seq od_ix (de_var 0) de_int)) (dl_cons (by exact (de_ix ix_seq od_ix (de_var 1) de_int)) (dl_cons (by exact (de_ix ix_seq od_ix (de_var 1) de_int)) dl_nil)))))) (dg_tup (is := [4, 5, 6, 7]) rfl rfl (pgs_cons (pg_name (i := 4) sc_law_pair_right.nd rfl (.inl rfl)) (pgs_cons (pg_name (i := 5) sc_law_pair_right.nd rfl (.inl rfl)) (pgs_cons (pg_name (i := 6) sc_law_pair_right.nd rfl (.inl rfl)) (pgs_cons (pg_name (i := 7) sc_law_pair_right.nd rfl (.inl rfl)) pgs_nil)))))) (dss_cons (ds_own (i := 2) sc_law_pair_right.nd rfl (.inl rfl) (by exact (dn_lst (dl_cons (by exact (de_n (by exact (dn_lst (dl_cons (by exact (de_fun hplus rfl hr (by decide) rfl (dl_cons (de_var 0) (dl_cons (de_var 1) dl_nil)) (ln_cons (ln_cons ln0)))) (dl_cons (by exact (de_op op_addA od_add (by exact (de_op op_mulA od_mul (de_var 4) (de_var 7))) (by exact (de_op op_mulA od_mul (de_var 6) (de_var 5))))) (dl_cons (by exact (de_op op_mulA od_mul (de_var 5) (de_var 7))) dl_nil))))))) (dl_cons (by exact (de_n (by exact (dn_lst (dl_cons (by exact (de_fun hminus rfl hr (by decide) rfl (dl_cons (de_var 0) (dl_cons (de_var 1) dl_nil)) (ln_cons (ln_cons ln0)))) (dl_cons (by exact (de_op op_sub od_sub (by exact (de_op op_mulA od_mul (de_var 4) (de_var 7))) (by exact (de_op op_mulA od_mul (de_var 6) (de_var 5))))) (dl_cons (by exact (de_op op_mulA od_mul (de_var 5) (de_var 7))) dl_nil))))))) (dl_cons (by exact (de_n (by exact (dn_lst (dl_cons (by exact (de_fun htimes rfl hr (by decide) rfl (dl_cons (de_var 0) (dl_cons (de_var 1) dl_nil)) (ln_cons (ln_cons ln0)))) (dl_cons (by exact (de_op op_mulA od_mul (de_var 4) (de_var 6))) (dl_cons (by exact (de_op op_mulA od_mul (de_var 5) (de_var 7))) dl_nil))))))) dl_nil)))))) (dss_cons (ds_own (i := 2) sc_law_pair_right.nd rfl (.inl rfl) (by exact (dn_catO 2 rfl (by exact (de_n (by exact (dn_lst (dl_cons (by exact (de_n (by exact (dn_lst (dl_cons (by exact (de_funK (ks := ["other", "one"]) (is := [1, 0]) hplus rfl hr (by decide) rfl (by decide) (dk_cons (de_var 1) (dk_cons (de_var 0) dk_nil)) (ln_cons (ln_cons ln0)))) (dl_cons (by exact (de_op op_addA od_add (by exact (de_op op_mulA od_mul (de_var 4) (de_var 7))) (by exact (de_op op_mulA od_mul (de_var 6) (de_var 5))))) (dl_cons (by exact (de_op op_mulA od_mul (de_var 5) (de_var 7))) dl_nil))))))) (dl_cons (by exact (de_n (by exact (dn_lst (dl_cons (by exact (de_funK (ks := ["other", "one"]) (is := [1, 0]) hminus rfl hr (by decide) rfl (by decide) (dk_cons (de_var 1) (dk_cons (de_var 0) dk_nil)) (ln_cons (ln_cons ln0)))) (dl_cons (by exact (de_op op_sub od_sub (by exact (de_op op_mulA od_mul (de_var 4) (de_var 7))) (by exact (de_op op_mulA od_mul (de_var 6) (de_var 5))))) (dl_cons (by exact (de_op op_mulA od_mul (de_var 5) (de_var 7))) dl_nil))))))) dl_nil))))))))) (dss_cons (ds_app (i := 2) rfl (by exact (de_n (by exact (dn_lst (dl_cons (by exact (de_funK (ks := ["other", "one"]) (is := [1, 0]) htimes rfl hr (by decide) rfl (by decide) (dk_cons (de_var 1) (dk_cons (de_var 0) dk_nil)) (ln_cons (ln_cons ln0)))) (dl_cons (by exact (de_op op_mulA od_mul (de_var 4) (de_var 6))) (dl_cons (by exact (de_op op_mulA od_mul (de_var 5) (de_var 7))) dl_nil))))))) (hm := pe_bm PySem.F.plainAttrs_list PySem.F.slot_list_append PySem.F.type_list_append mt_append (pv 2) (pa_cons (by exact (de_n (by exact (dn_lst (dl_cons (by exact (de_funK (ks := ["other", "one"]) (is := [1, 0]) htimes rfl hr (by decide) rfl (by decide) (dk_cons (de_var 1) (dk_cons (de_var 0) dk_nil)) (ln_cons (ln_cons ln0)))) (dl_cons (by exact (de_op op_mulA od_mul (de_var 4) (de_var 6))) (dl_cons (by exact (de_op op_mulA od_mul (de_var 5) (de_var 7))) dl_nil))))))) pa_nil))) (dss_cons (ds_if (by exact (dt_cmp (op_neD hr.units) od_ne (de_var 6) de_int (nomark _))) (dss_one (ds_own (i := 2) sc_law_pair_right.nd rfl (.inl rfl) (by exact (dn_catO 2 rfl (by exact (de_n (by exact (dn_lst (dl_cons (by exact (de_n (by exact (dn_lst (dl_cons (by exact (de_fun hover rfl hr (by decide) rfl (dl_cons (de_var 0) (dl_cons (de_var 1) dl_nil)) (ln_cons (ln_cons ln0)))) (dl_cons (by exact (de_op op_mulA od_mul (de_var 4) (de_var 7))) (dl_cons (by exact (de_op op_mulA od_mul (de_var 5) (de_var 6))) dl_nil))))))) (dl_cons (by exact (de_n (by exact (dn_lst (dl_cons (by exact (de_funK (ks := ["other", "one"]) (is := [1, 0]) hover rfl hr (by decide) rfl (by decide) (dk_cons (de_var 1) (dk_cons (de_var 0) dk_nil)) (ln_cons (ln_cons ln0)))) (dl_cons (by exact (de_op op_mulA od_mul (de_var 4) (de_var 7))) (dl_cons (by exact (de_op op_mulA od_mul (de_var 5) (de_var 6))) dl_nil))))))) dl_nil)))))))))) dss_nil) (dss_frz (i := 2) (dss_cons (ds_if (by exact (dt_not (by exact (dt_tru (sm := false) rfl (by exact (de_callB (cr_all rfl) cd_all rfl T.m_all (by decide +kernel) (dl_cons (by exact (de_n (by exact (dn_lc (own := [("found", 8), ("top", 9), ("bottom", 10)]) rfl sc_law_pair_right.nd (by exact (di_list rfl (de_var 2))) (by exact blkOk_by (own := [("found", 8), ("top", 9), ("bottom", 10)]) (by show blkC ["one", "other", "told", "less", "a", "b", "c", "d", "found", "top", "bottom"] (defScope s_law_pair_right) _ _ = true; decide +kernel)) (fun _ _ _ _ _ _ => (dg_lst (is := [8, 9, 10]) rfl rfl (pgs_cons (pg_name (i := 8) sc_law_pair_right.nd rfl (.inl rfl)) (pgs_cons (pg_name (i := 9) sc_law_pair_right.nd rfl (.inl rfl)) (pgs_cons (pg_name (i := 10) sc_law_pair_right.nd rfl (.inl rfl)) pgs_nil))))) (fun _ _ _ _ _ => pts_y) (fun _ _ _ _ _ _ => (by exact (de_fun h_law_means rfl hr (by decide) rfl (dl_cons (de_var 8) (dl_cons (de_var 9) (dl_cons (de_var 10) dl_nil))) (ln_cons (ln_cons (ln_cons ln0)))))))))) dl_nil))))))) (dss_one (ds_ret de_bl)) dss_nil) (dss_cons (ds_set (i := 3) sc_law_pair_right.nd rfl (.inl rfl) (by exact (de_cmp op_lt od_lt (by exact (de_op op_mulA od_mul (de_var 4) (de_var 7))) (by exact (de_op op_mulA od_mul (de_var 6) (de_var 5))) (nomark _)))) (dss_one (ds_ret (by exact (de_fun h_law_alike rfl hr (by decide) rfl (dl_cons (by exact (de_n (by exact (dn_lst (dl_cons (by exact (de_fun hbelow rfl hr (by decide) rfl (dl_cons (de_var 0) (dl_cons (de_var 1) dl_nil)) (ln_cons (ln_cons ln0)))) (dl_cons (by exact (de_funK (ks := ["other", "one"]) (is := [1, 0]) hbelow rfl hr (by decide) rfl (by decide) (dk_cons (de_var 1) (dk_cons (de_var 0) dk_nil)) (ln_cons (ln_cons ln0)))) (dl_cons (by exact (de_fun hbelow rfl hr (by decide) rfl (dl_cons (de_var 0) (dl_cons (de_var 0) dl_nil)) (ln_cons (ln_cons ln0)))) dl_nil))))))) (dl_cons (by exact (de_n (by exact (dn_lst (dl_cons (de_var 3) (dl_cons (de_var 3) (dl_cons de_bl dl_nil))))))) dl_nil)) (ln_cons (ln_cons ln0))))))))))))))) (FN.binds fun _ _ _ _ _ _ us hl => match us, hl with | [_, _], _ => rfl) (fun q hq => by simp at hq)
abbrev s_law_any : Stmt := topS 34
theorem sc_law_any : FnScope ["spring"] ["spring"] (defScope s_law_any) := ⟨rfl, rfl, rfl, by decide +kernel, rfl, by decide +kernel, by decide +kernel⟩
def m_law_any : MS := sSeq (sIf (mB (e2 fGt (eCall Fd_law_drop (lCons (eV false 0) (lCons (eK (.int 4)) (lNil)))) (eK (.int 0)))) (sRet (eCall F_law_number (lCons (eV false 0) (lNil)))) (sNx)) (sRet (eCall F_law_low (lCons (e2 fSub (eCall Fd_law_drop (lCons (eV false 0) (lCons (e2 fPow (eK (.int 10)) (eK (.int 40))) (lNil)))) (e2 fPow (eK (.int 10)) (eK (.int 39)))) (lCons (e2 fAdd (eK (.int 1)) (eCall Fd_law_drop (lCons (eV false 0) (lCons (e2 fIx (eN (nLst (lCons (e2 fPow (eK (.int 10)) (eK (.int 40))) (lCons (e2 fPow (eK (.int 10)) (eK (.int 9))) (lNil))))) (eCall Fd_law_drop (lCons (eV false 0) (lCons (eK (.int 2)) (lNil))))) (lNil))))) (lNil)))))
def F_law_any : DF := runD 1 m_law_any
theorem ok_law_any (T : Tx mg) (h_law_low : Has P w k mg base "_law_low" 1 ["top", "bottom"] [] F_law_low) (h_law_drop : Has P w k mg base "_law_drop" 1 ["spring", "many"] [] Fd_law_drop) (h_law_number : Has P w k mg base "_law_number" 2 ["spring"] [] F_law_number) {fa : Addr} {fd : FuncData} (FN : Fun k.K "_law_any" "_law_any" s_law_any fa fd) (gn : mg "_law_any" = some (.ref fa)) : Has P w k mg base "_law_any" 3 ["spring"] [] F_law_any :=
  has_mk (j := 2) FN gn sc_law_any (fun cdv A outer s H E f hr =>
    (dss_cons (ds_if (by exact (dt_cmp op_gt od_gt (by exact (de_fun h_law_drop rfl hr (by decide) rfl (dl_cons (de_var 0) (dl_cons de_int dl_nil)) (ln_cons (ln_cons ln0)))) de_int (nomark _))) (dss_one (ds_ret (by exact (de_fun h_law_number rfl hr (by decide) rfl (dl_cons (de_var 0) dl_nil) (ln_cons ln0))))) dss_nil) (dss_one (ds_ret (by exact (de_fun h_law_low rfl hr (by decide) rfl (dl_cons (by exact (de_op op_sub od_sub (by exact (de_fun h_law_drop rfl hr (by decide) rfl (dl_cons (de_var 0) (dl_cons (by exact (de_op op_pow od_pow de_int de_int)) dl_nil)) (ln_cons (ln_cons ln0)))) (by exact (de_op op_pow od_pow de_int de_int)))) (dl_cons (by exact (de_op op_addA od_add de_int (by exact (de_fun h_law_drop rfl hr (by decide) rfl (dl_cons (de_var 0) (dl_cons (by exact (de_ix ix_seq od_ix (by exact (de_n (by exact (dn_lst (dl_cons (by exact (de_op op_pow od_pow de_int de_int)) (dl_cons (by exact (de_op op_pow od_pow de_int de_int)) dl_nil)))))) (by exact (de_fun h_law_drop rfl hr (by decide) rfl (dl_cons (de_var 0) (dl_cons de_int dl_nil)) (ln_cons (ln_cons ln0)))))) dl_nil)) (ln_cons (ln_cons ln0)))))) dl_nil)) (ln_cons (ln_cons ln0)))))))) (FN.binds fun _ _ _ _ _ _ us hl => match us, hl with | [_], _ => rfl) (fun q hq => by simp at hq)
abbrev s_law_handed_on_right : Stmt := topS 35
theorem sc_law_handed_on_right : FnScope ["a", "b", "c", "tiny"] ["a", "b", "c"] (defScope s_law_handed_on_right) := ⟨rfl, rfl, rfl, by decide +kernel, rfl, by decide +kernel, by decide +kernel⟩
def m_law_handed_on_right : MS := sSeq (sIf (mOr (mB (e2 fNe (eCall Fplus (lCons (eCall Fplus (lCons (eV false 0) (lCons (eV false 1) (lNil)))) (lCons (eV false 2) (lNil)))) (eCall Fplus (lCons (eV false 0) (lCons (eCall Fplus (lCons (eV false 1) (lCons (eV false 2) (lNil)))) (lNil)))))) (mB (e2 fNe (eCall Ftimes (lCons (eCall Ftimes (lCons (eV false 0) (lCons (eV false 1) (lNil)))) (lCons (eV false 2) (lNil)))) (eCall Ftimes (lCons (eV false 0) (lCons (eCall Ftimes (lCons (eV false 1) (lCons (eV false 2) (lNil)))) (lNil))))))) (sRet (eK (.bool false))) (sNx)) (sSeq (sIf (mOr (mB (e2 fNe (eCall Ftimes (lCons (eV false 0) (lCons (eCall Fplus (lCons (eV false 1) (lCons (eV false 2) (lNil)))) (lNil)))) (eCall Fplus (lCons (eCall Ftimes (lCons (eV false 0) (lCons (eV false 1) (lNil)))) (lCons (eCall Ftimes (lCons (eV false 0) (lCons (eV false 2) (lNil)))) (lNil)))))) (mOr (mB (e2 fNe (eCall Fminus (lCons (eCall Fplus (lCons (eV false 0) (lCons (eV false 1) (lNil)))) (lCons (eV false 1) (lNil)))) (eV false 0))) (mB (e2 fNe (eCall Fplus (lCons (eCall Fminus (lCons (eV false 0) (lCons (eV false 2) (lNil)))) (lCons (eV false 2) (lNil)))) (eV false 0))))) (sRet (eK (.bool false))) (sNx)) (sSeq (sIf (mAnd (mB (e2 fNe (e2 fIx (eV false 1) (eK (.int 0))) (eK (.int 0)))) (mOr (mB (e2 fNe (eCall Fover (lCons (eCall Ftimes (lCons (eV false 0) (lCons (eV false 1) (lNil)))) (lCons (eV false 1) (lNil)))) (eV false 0))) (mOr (mB (e2 fNe (eCall Ftimes (lCons (eCall Fover (lCons (eV false 0) (lCons (eV false 1) (lNil)))) (lCons (eV false 1) (lNil)))) (eV false 0))) (mB (e2 fNe (eCall Fover (lCons (eCall Fover (lCons (eV false 2) (lCons (eV false 1) (lNil)))) (lCons (eV false 1) (lNil)))) (eCall Fover (lCons (eV false 2) (lCons (eCall Ftimes (lCons (eV false 1) (lCons (eV false 1) (lNil)))) (lNil))))))))) (sRet (eK (.bool false))) (sNx)) (sSeq (sSet 3 (eTup (lCons (eK (.int 1)) (lCons (e2 fPow (eK (.int 10)) (eK (.int 40))) (lNil))))) (sSeq (sIf (mOr (mB (e2 (fIsB true) (eCall Fbelow (lCons (eV false 0) (lCons (eCall Fplus (lCons (eV false 0) (lCons (eV false 3) (lNil)))) (lNil)))) (eK (.bool true)))) (mOr (mB (e2 (fIsB true) (eCall Fbelow (lCons (eCall Fplus (lCons (eV false 0) (lCons (eV false 3) (lNil)))) (lCons (eV false 0) (lNil)))) (eK (.bool false)))) (mB (e2 (fIsB true) (eCall Fbelow (lCons (eCall Fminus (lCons (eV false 0) (lCons (eV false 3) (lNil)))) (lCons (eV false 0) (lNil)))) (eK (.bool true)))))) (sRet (eK (.bool false))) (sNx)) (sRet (e2 fEq (eCall Fbelow (lCons (eCall Ftimes (lCons (eV false 0) (lCons (eV false 2) (lNil)))) (lCons (eCall Ftimes (lCons (eV false 1) (lCons (eV false 2) (lNil)))) (lNil)))) (eIf (mB (e2 fGt (e2 fIx (eV false 2) (eK (.int 0))) (eK (.int 0)))) (eCall Fbelow (lCons (eV false 0) (lCons (eV false 1) (lNil)))) (eAnd (e2 fLt (e2 fIx (eV false 2) (eK (.int 0))) (eK (.int 0))) (eCall Fbelow (lCons (eV false 1) (lCons (eV false 0) (lNil))))))))))))
def F_law_handed_on_right : DF := runD 4 m_law_handed_on_right
theorem ok_law_handed_on_right (T : Tx mg) (hbelow : Has P w k mg base "below" 4 ["one", "other"] [(["other", "one"], [1, 0])] Fbelow) (hplus : Has P w k mg base "plus" 4 ["one", "other"] [(["other", "one"], [1, 0])] Fplus) (htimes : Has P w k mg base "times" 4 ["one", "other"] [(["other", "one"], [1, 0])] Ftimes) (hminus : Has P w k mg base "minus" 4 ["one", "other"] [(["other", "one"], [1, 0])] Fminus) (hover : Has P w k mg base "over" 4 ["one", "other"] [(["other", "one"], [1, 0])] Fover) {fa : Addr} {fd : FuncData} (FN : Fun k.K "_law_handed_on_right" "_law_handed_on_right" s_law_handed_on_right fa fd) (gn : mg "_law_handed_on_right" = some (.ref fa)) : Has P w k mg base "_law_handed_on_right" 5 ["a", "b", "c"] [] F_law_handed_on_right :=
  has_mk (j := 4) FN gn sc_law_handed_on_right (fun cdv A outer s H E f hr =>
    (dss_cons (ds_if (by exact (PW.pt (dw_or (by exact (dt_cmp (op_neD hr.units) od_ne (by exact (de_fun hplus rfl hr (by decide) rfl (dl_cons (by exact (de_fun hplus rfl hr (by decide) rfl (dl_cons (de_var 0) (dl_cons (de_var 1) dl_nil)) (ln_cons (ln_cons ln0)))) (dl_cons (de_var 2) dl_nil)) (ln_cons (ln_cons ln0)))) (by exact (de_fun hplus rfl hr (by decide) rfl (dl_cons (de_var 0) (dl_cons (by exact (de_fun hplus rfl hr (by decide) rfl (dl_cons (de_var 1) (dl_cons (de_var 2) dl_nil)) (ln_cons (ln_cons ln0)))) dl_nil)) (ln_cons (ln_cons ln0)))) (nomark _))) (dw_or1 (by exact (dt_cmp (op_neD hr.units) od_ne (by exact (de_fun htimes rfl hr (by decide) rfl (dl_cons (by exact (de_fun htimes rfl hr (by decide) rfl (dl_cons (de_var 0) (dl_cons (de_var 1) dl_nil)) (ln_cons (ln_cons ln0)))) (dl_cons (de_var 2) dl_nil)) (ln_cons (ln_cons ln0)))) (by exact (de_fun htimes rfl hr (by decide) rfl (dl_cons (de_var 0) (dl_cons (by exact (de_fun htimes rfl hr (by decide) rfl (dl_cons (de_var 1) (dl_cons (de_var 2) dl_nil)) (ln_cons (ln_cons ln0)))) dl_nil)) (ln_cons (ln_cons ln0)))) (nomark _))))))) (dss_one (ds_ret de_bl)) dss_nil) (dss_cons (ds_if (by exact (PW.pt (dw_or (by exact (dt_cmp (op_neD hr.units) od_ne (by exact (de_fun htimes rfl hr (by decide) rfl (dl_cons (de_var 0) (dl_cons (by exact (de_fun hplus rfl hr (by decide) rfl (dl_cons (de_var 1) (dl_cons (de_var 2) dl_nil)) (ln_cons (ln_cons ln0)))) dl_nil)) (ln_cons (ln_cons ln0)))) (by exact (de_fun hplus rfl hr (by decide) rfl (dl_cons (by exact (de_fun htimes rfl hr (by decide) rfl (dl_cons (de_var 0) (dl_cons (de_var 1) dl_nil)) (ln_cons (ln_cons ln0)))) (dl_cons (by exact (de_fun htimes rfl hr (by decide) rfl (dl_cons (de_var 0) (dl_cons (de_var 2) dl_nil)) (ln_cons (ln_cons ln0)))) dl_nil)) (ln_cons (ln_cons ln0)))) (nomark _))) (dw_or (by exact (dt_cmp (op_neD hr.units) od_ne (by exact (de_fun hminus rfl hr (by decide) rfl (dl_cons (by exact (de_fun hplus rfl hr (by decide) rfl (dl_cons (de_var 0) (dl_cons (de_var 1) dl_nil)) (ln_cons (ln_cons ln0)))) (dl_cons (de_var 1) dl_nil)) (ln_cons (ln_cons ln0)))) (de_var 0) (nomark _))) (dw_or1 (by exact (dt_cmp (op_neD hr.units) od_ne (by exact (de_fun hplus rfl hr (by decide) rfl (dl_cons (by exact (de_fun hminus rfl hr (by decide) rfl (dl_cons (de_var 0) (dl_cons (de_var 2) dl_nil)) (ln_cons (ln_cons ln0)))) (dl_cons (de_var 2) dl_nil)) (ln_cons (ln_cons ln0)))) (de_var 0) (nomark _)))))))) (dss_one (ds_ret de_bl)) dss_nil) (dss_cons (ds_if (by exact (PW.pt (dw_and (by exact (dt_cmp (op_neD hr.units) od_ne (by exact (de_ix ix_seq od_ix (de_var 1) de_int)) de_int (nomark _))) (dw_and1 (by exact (PW.pt (dw_or (by exact (dt_cmp (op_neD hr.units) od_ne (by exact (de_fun hover rfl hr (by decide) rfl (dl_cons (by exact (de_fun htimes rfl hr (by decide) rfl (dl_cons (de_var 0) (dl_cons (de_var 1) dl_nil)) (ln_cons (ln_cons ln0)))) (dl_cons (de_var 1) dl_nil)) (ln_cons (ln_cons ln0)))) (de_var 0) (nomark _))) (dw_or (by exact (dt_cmp (op_neD hr.units) od_ne (by exact (de_fun htimes rfl hr (by decide) rfl (dl_cons (by exact (de_fun hover rfl hr (by decide) rfl (dl_cons (de_var 0) (dl_cons (de_var 1) dl_nil)) (ln_cons (ln_cons ln0)))) (dl_cons (de_var 1) dl_nil)) (ln_cons (ln_cons ln0)))) (de_var 0) (nomark _))) (dw_or1 (by exact (dt_cmp (op_neD hr.units) od_ne (by exact (de_fun hover rfl hr (by decide) rfl (dl_cons (by exact (de_fun hover rfl hr (by decide) rfl (dl_cons (de_var 2) (dl_cons (de_var 1) dl_nil)) (ln_cons (ln_cons ln0)))) (dl_cons (de_var 1) dl_nil)) (ln_cons (ln_cons ln0)))) (by exact (de_fun hover rfl hr (by decide) rfl (dl_cons (de_var 2) (dl_cons (by exact (de_fun htimes rfl hr (by decide) rfl (dl_cons (de_var 1) (dl_cons (de_var 1) dl_nil)) (ln_cons (ln_cons ln0)))) dl_nil)) (ln_cons (ln_cons ln0)))) (nomark _)))))))))))) (dss_one (ds_ret de_bl)) dss_nil) (dss_cons (ds_set (i := 3) sc_law_handed_on_right.nd rfl (.inl rfl) (by exact (de_tup (dl_cons de_int (dl_cons (by exact (de_op op_pow od_pow de_int de_int)) dl_nil))))) (dss_cons (ds_if (by exact (PW.pt (dw_or (by exact (dt_cmp op_notBl od_notB (by exact (de_fun hbelow rfl hr (by decide) rfl (dl_cons (de_var 0) (dl_cons (by exact (de_fun hplus rfl hr (by decide) rfl (dl_cons (de_var 0) (dl_cons (de_var 3) dl_nil)) (ln_cons (ln_cons ln0)))) dl_nil)) (ln_cons (ln_cons ln0)))) de_bl (nomark _))) (dw_or (by exact (dt_cmp op_notBl od_notB (by exact (de_fun hbelow rfl hr (by decide) rfl (dl_cons (by exact (de_fun hplus rfl hr (by decide) rfl (dl_cons (de_var 0) (dl_cons (de_var 3) dl_nil)) (ln_cons (ln_cons ln0)))) (dl_cons (de_var 0) dl_nil)) (ln_cons (ln_cons ln0)))) de_bl (nomark _))) (dw_or1 (by exact (dt_cmp op_notBl od_notB (by exact (de_fun hbelow rfl hr (by decide) rfl (dl_cons (by exact (de_fun hminus rfl hr (by decide) rfl (dl_cons (de_var 0) (dl_cons (de_var 3) dl_nil)) (ln_cons (ln_cons ln0)))) (dl_cons (de_var 0) dl_nil)) (ln_cons (ln_cons ln0)))) de_bl (nomark _)))))))) (dss_one (ds_ret de_bl)) dss_nil) (dss_one (ds_ret (by exact (de_cmp (op_eqD hr.units) od_eq (by exact (de_fun hbelow rfl hr (by decide) rfl (dl_cons (by exact (de_fun htimes rfl hr (by decide) rfl (dl_cons (de_var 0) (dl_cons (de_var 2) dl_nil)) (ln_cons (ln_cons ln0)))) (dl_cons (by exact (de_fun htimes rfl hr (by decide) rfl (dl_cons (de_var 1) (dl_cons (de_var 2) dl_nil)) (ln_cons (ln_cons ln0)))) dl_nil)) (ln_cons (ln_cons ln0)))) (by exact (de_if (by exact (dt_cmp op_gt od_gt (by exact (de_ix ix_seq od_ix (de_var 2) de_int)) de_int (nomark _))) (by exact (de_fun hbelow rfl hr (by decide) rfl (dl_cons (de_var 0) (dl_cons (de_var 1) dl_nil)) (ln_cons (ln_cons ln0)))) (by exact (de_and rfl (by exact (de_cmp op_lt od_lt (by exact (de_ix ix_seq od_ix (de_var 2) de_int)) de_int (nomark _))) (de_one (by exact (de_fun hbelow rfl hr (by decide) rfl (dl_cons (de_var 1) (dl_cons (de_var 0) dl_nil)) (ln_cons (ln_cons ln0))))))))) (nomark _))))))))))) (FN.binds fun _ _ _ _ _ _ us hl => match us, hl with | [_, _, _], _ => rfl) (fun q hq => by simp at hq)
abbrev slaw : Stmt := topS 36
theorem sclaw : FnScope ["script", "spring", "turn", "factor", "some", "value", "many", "due", "number", "told", "one", "other", "k"] ["script"] (defScope slaw) := ⟨rfl, rfl, rfl, by decide +kernel, rfl, by decide +kernel, by decide +kernel⟩
def mlaw : MS := sSeq (sFor (.one 2) (iRg1 (lCons (eK (.int 8)) (lNil))) (sSeq (sPar [10, 11] (lCons (eCall F_law_any (lCons (eV true 1) (lNil))) (lCons (eCall F_law_any (lCons (eV true 1) (lNil))) (lNil)))) (sSeq (sIf (mNot (mTru (eCall F_law_handed_on_right (lCons (eV false 10) (lCons (eV false 11) (lCons (eCall F_law_any (lCons (eV false 1) (lNil))) (lNil))))))) (sRet (eK (.bool false))) (sNx)) (sSeq (sIf (mNot (mTru (eCall F_law_pair_right (lCons (eV false 10) (lCons (e2 fIx (eN (nLst (lCons (eV false 10) (lCons (eV false 11) (lCons (eV false 11) (lCons (eTup (lCons (e1 fNeg (e2 fIx (eV false 10) (eK (.int 0)))) (lCons (e2 fIx (eV false 10) (eK (.int 1))) (lNil)))) (lNil))))))) (eCall Fd_law_drop (lCons (eV false 1) (lCons (eK (.int 4)) (lNil))))) (lNil)))))) (sRet (eK (.bool false))) (sNx)) (sSeq (sSet 3 (e2 fIx (eN (nLst (lCons (eK (.int 1)) (lCons (e1 fNeg (eK (.int 1))) (lCons (eK (.int 2)) (lCons (e1 fNeg (eK (.int 6))) (lCons (eK (.int 100)) (lCons (e2 fPow (eK (.int 10)) (eK (.int 12))) (lNil))))))))) (eCall Fd_law_drop (lCons (eV true 1) (lCons (eK (.int 6)) (lNil)))))) (sSeq (sIf (mNot (mTru (eCall (F_law_alike 7) (lCons (eN (nLst (lCons (eCall Ffraction (lCons (e2 fMul (e2 fIx (eV false 10) (eK (.int 0))) (eV false 3)) (lCons (e2 fMul (e2 fIx (eV false 10) (eK (.int 1))) (eV false 3)) (lNil)))) (lCons (eCallK Ffraction [1, 0] (lCons (e2 fMul (e2 fIx (eV false 10) (eK (.int 1))) (eV false 3)) (lCons (e2 fMul (e2 fIx (eV false 10) (eK (.int 0))) (eV false 3)) (lNil)))) (lNil))))) (lCons (eN (nLst (lCons (eV false 10) (lCons (eV false 10) (lNil))))) (lNil)))))) (sRet (eK (.bool false))) (sNx)) (sSeq (sSet 4 (eN (nLst (lCons (eV true 10) (lCons (eTup (lCons (e2 fMul (e2 fIx (eV true 10) (eK (.int 0))) (eK (.int 2))) (lCons (e2 fMul (e2 fIx (eV true 10) (eK (.int 1))) (eK (.int 2))) (lNil)))) (lCons (eTup (lCons (e2 fIx (eV true 10) (eK (.int 0))) (lCons (e1 fNeg (e2 fIx (eV true 10) (eK (.int 1)))) (lNil)))) (lCons (eTup (lCons (e2 fIx (eV true 10) (eK (.int 0))) (lCons (eK (.int 0)) (lNil)))) (lCons (eTup (lCons (eK (.int 0)) (lCons (e2 fIx (eV true 10) (eK (.int 1))) (lNil)))) (lCons (eF fList (lCons (eV true 10) (lNil))) (lCons (e2 fAdd (eV true 10) (eTup (lCons (eK (.int 1)) (lNil)))) (lCons (e2 fIx (eV true 10) (eK (.int 0))) (lCons (eK .none) (lCons (eK (.str (Str.ofString "1/2"))) (lCons (eTup (lCons (eK (.bool true)) (lCons (eK (.int 1)) (lNil)))) (lNil))))))))))))))) (sSeq (sFor (.one 5) (iOf (e2 fAdd (eV true 4) (eN (nLst (lCons (eTup (lCons (eK (.int 1)) (lCons (eK (.bool true)) (lNil)))) (lCons (eTup (lCons (eK (.int 1)) (lNil))) (lCons (eTup (lNil)) (lCons (eTup (lCons (eK (.str (Str.ofString "1"))) (lCons (eK (.int 2)) (lNil)))) (lCons (eTup (lCons (eV true 10) (lCons (eV true 10) (lNil)))) (lCons (eTup (lCons (eK (.int 0)) (lCons (eK (.int 1)) (lNil)))) (lCons (eTup (lCons (e2 fIx (eV true 10) (eK (.int 1))) (lCons (e2 fIx (eV true 10) (eK (.int 0))) (lNil)))) (lNil)))))))))))) (sSeq (sSet 7 (eCall F_law_is (lCons (eV true 5) (lNil)))) (sIf (mNot (mTru (eCall (F_law_alike 7) (lCons (eN (nLst (lCons (eCall Fis_fraction (lCons (eV false 5) (lNil))) (lCons (eCallK Fis_fraction [0] (lCons (eV false 5) (lNil))) (lNil))))) (lCons (eN (nLst (lCons (eV false 7) (lCons (eV false 7) (lNil))))) (lNil)))))) (sRet (eK (.bool false))) (sNx)))) (sSeq (sSet 6 (eN (nLc (.one 12) (iRg1 (lCons (eCall Fd_law_drop (lCons (eV true 1) (lCons (e2 fIx (eN (nLst (lCons (eK (.int 10)) (lCons (eK (.int 31)) (lNil))))) (eF fInt1 (lCons (e2 fEq (eV true 2) (eK (.int 0))) (lNil)))) (lNil)))) (lNil))) (mYes) (eCall F_law_any (lCons (eV true 1) (lNil))) [12]))) (sSeq (sSet 7 (eTup (lCons (eK (.int 0)) (lCons (eK (.int 1)) (lNil))))) (sSeq (sFor (.one 8) (iOf (eV true 6)) (sSet 7 (eCall F_law_plus (lCons (eV true 7) (lCons (eV true 8) (lNil)))))) (sSeq (sSet 9 (eN (nLst (lCons (eCall Fsum_of (lCons (eF fTuple (lCons (eV true 6) (lNil))) (lNil))) (lCons (eCall Fsum_of (lCons (eF fTuple (lCons (e1 fRev (eV true 6)) (lNil))) (lNil))) (lCons (eCallK Fsum_of [0] (lCons (eF fTuple (lCons (eF fSortP (lCons (eV true 6) lNil)) (lNil))) (lNil))) (lNil))))))) (sIf (mNot (mTru (eCall (F_law_alike 7) (lCons (eV false 9) (lCons (eN (nLst (lCons (eV false 7) (lCons (eV false 7) (lCons (eV false 7) (lNil)))))) (lNil)))))) (sRet (eK (.bool false))) (sNx)))))))))))))) (sRet (eK (.bool true)))
theorem restlaw (T : Tx mg) (h_law_any : Has P w k mg base "_law_any" 3 ["spring"] [] F_law_any) (h_law_handed_on_right : Has P w k mg base "_law_handed_on_right" 5 ["a", "b", "c"] [] F_law_handed_on_right) (h_law_pair_right : Has P w k mg base "_law_pair_right" 9 ["one", "other"] [] F_law_pair_right) (h_law_drop : Has P w k mg base "_law_drop" 1 ["spring", "many"] [] Fd_law_drop) (h_law_alike : Has P w k mg base "_law_alike" 8 ["found", "due"] [] (F_law_alike 7)) (h_law_is : Has P w k mg base "_law_is" 2 ["value"] [] F_law_is) (h_law_plus : Has P w k mg base "_law_plus" 2 ["one", "other"] [] F_law_plus) (hsum_of : Has P w k mg base "sum_of" 10 ["numbers"] [(["numbers"], [0])] Fsum_of) (hfraction : Has P w k mg base "fraction" 2 ["top", "bottom"] [(["bottom", "top"], [1, 0])] Ffraction) (his_fraction : Has P w k mg base "is_fraction" 2 ["value"] [(["value"], [0])] Fis_fraction) {fa : Addr} (cdv : Value) (A : Around) (outer : List Env) (s : Shared) (H : Hp) (E : XK) (f : Fx) (hr : Room 10 (A.deeper (envOfC "law" (defScope slaw) s.heap.objs.size fa cdv))) :
    PSs (cxOf CX0 P w k.K mg base ["script", "spring", "turn", "factor", "some", "value", "many", "due", "number", "told", "one", "other", "k"] "law" (defScope slaw) fa cdv A outer s H E).nox ((defBody slaw).drop 1) (tS k f [] mlaw) :=
    (dss_cons (ds_for PassesOwn.never rfl (by exact (di_rg1 rfl T.m_range (dl_cons de_int dl_nil))) (dg_name (i := 2) sclaw.nd rfl (.inl rfl)) fun _ => (dss_cons (ds_par2 (i := 10) (j := 11) rfl sclaw.nd rfl rfl (by decide) rfl rfl (dl_cons (by exact (de_fun h_law_any rfl hr (by decide) rfl (dl_cons (de_var 1) dl_nil) (ln_cons ln0))) (dl_cons (by exact (de_fun h_law_any rfl hr (by decide) rfl (dl_cons (de_var 1) dl_nil) (ln_cons ln0))) dl_nil)) (by rfl)) (dss_cons (ds_if (by exact (dt_not (by exact (dt_tru (sm := false) rfl (by exact (de_fun h_law_handed_on_right rfl hr (by decide) rfl (dl_cons (de_var 10) (dl_cons (de_var 11) (dl_cons (by exact (de_fun h_law_any rfl hr (by decide) rfl (dl_cons (de_var 1) dl_nil) (ln_cons ln0))) dl_nil))) (ln_cons (ln_cons (ln_cons ln0))))))))) (dss_one (ds_ret de_bl)) dss_nil) (dss_cons (ds_if (by exact (dt_not (by exact (dt_tru (sm := false) rfl (by exact (de_fun h_law_pair_right rfl hr (by decide) rfl (dl_cons (de_var 10) (dl_cons (by exact (de_ix ix_seq od_ix (by exact (de_n (by exact (dn_lst (dl_cons (de_var 10) (dl_cons (de_var 11) (dl_cons (de_var 11) (dl_cons (by exact (de_tup (dl_cons (by exact (de_un un_neg ud_neg (by exact (de_ix ix_seq od_ix (de_var 10) de_int)))) (dl_cons (by exact (de_ix ix_seq od_ix (de_var 10) de_int)) dl_nil)))) dl_nil)))))))) (by exact (de_fun h_law_drop rfl hr (by decide) rfl (dl_cons (de_var 1) (dl_cons de_int dl_nil)) (ln_cons (ln_cons ln0)))))) dl_nil)) (ln_cons (ln_cons ln0)))))))) (dss_one (ds_ret de_bl)) dss_nil) (dss_cons (ds_set (i := 3) sclaw.nd rfl (.inl rfl) (by exact (de_ix ix_seq od_ix (by exact (de_n (by exact (dn_lst (dl_cons de_int (dl_cons (by exact (de_un un_neg ud_neg de_int)) (dl_cons de_int (dl_cons (by exact (de_un un_neg ud_neg de_int)) (dl_cons de_int (dl_cons (by exact (de_op op_pow od_pow de_int de_int)) dl_nil)))))))))) (by exact (de_fun h_law_drop rfl hr (by decide) rfl (dl_cons (de_var 1) (dl_cons de_int dl_nil)) (ln_cons (ln_cons ln0))))))) (dss_cons (ds_if (by exact (dt_not (by exact (dt_tru (sm := false) rfl (by exact (de_fun h_law_alike rfl hr (by decide) rfl (dl_cons (by exact (de_n (by exact (dn_lst (dl_cons (by exact (de_fun hfraction rfl hr (by decide) rfl (dl_cons (by exact (de_op op_mulA od_mul (by exact (de_ix ix_seq od_ix (de_var 10) de_int)) (de_var 3))) (dl_cons (by exact (de_op op_mulA od_mul (by exact (de_ix ix_seq od_ix (de_var 10) de_int)) (de_var 3))) dl_nil)) (ln_cons (ln_cons ln0)))) (dl_cons (by exact (de_funK (ks := ["bottom", "top"]) (is := [1, 0]) hfraction rfl hr (by decide) rfl (by decide) (dk_cons (by exact (de_op op_mulA od_mul (by exact (de_ix ix_seq od_ix (de_var 10) de_int)) (de_var 3))) (dk_cons (by exact (de_op op_mulA od_mul (by exact (de_ix ix_seq od_ix (de_var 10) de_int)) (de_var 3))) dk_nil)) (ln_cons (ln_cons ln0)))) dl_nil)))))) (dl_cons (by exact (de_n (by exact (dn_lst (dl_cons (de_var 10) (dl_cons (de_var 10) dl_nil)))))) dl_nil)) (ln_cons (ln_cons ln0)))))))) (dss_one (ds_ret de_bl)) dss_nil) (dss_cons (ds_set (i := 4) sclaw.nd rfl (.inl rfl) (by exact (de_n (by exact (dn_lst (dl_cons (de_var 10) (dl_cons (by exact (de_tup (dl_cons (by exact (de_op op_mulA od_mul (by exact (de_ix ix_seq od_ix (de_var 10) de_int)) de_int)) (dl_cons (by exact (de_op op_mulA od_mul (by exact (de_ix ix_seq od_ix (de_var 10) de_int)) de_int)) dl_nil)))) (dl_cons (by exact (de_tup (dl_cons (by exact (de_ix ix_seq od_ix (de_var 10) de_int)) (dl_cons (by exact (de_un un_neg ud_neg (by exact (de_ix ix_seq od_ix (de_var 10) de_int)))) dl_nil)))) (dl_cons (by exact (de_tup (dl_cons (by exact (de_ix ix_seq od_ix (de_var 10) de_int)) (dl_cons de_int dl_nil)))) (dl_cons (by exact (de_tup (dl_cons de_int (dl_cons (by exact (de_ix ix_seq od_ix (de_var 10) de_int)) dl_nil)))) (dl_cons (by exact (de_callTy call_list_of cd_list rfl T.m_list (by decide +kernel) (dl_cons (de_var 10) dl_nil))) (dl_cons (by exact (de_op op_addA od_add (de_var 10) (by exact (de_tup (dl_cons de_int dl_nil))))) (dl_cons (by exact (de_ix ix_seq od_ix (de_var 10) de_int)) (dl_cons de_non (dl_cons de_str (dl_cons (by exact (de_tup (dl_cons de_bl (dl_cons de_int dl_nil)))) dl_nil)))))))))))))))) (dss_cons (ds_for PassesOwn.never rfl (by exact (di_list rfl (by exact (de_op op_addA od_add (de_var 4) (by exact (de_n (by exact (dn_lst (dl_cons (by exact (de_tup (dl_cons de_int (dl_cons de_bl dl_nil)))) (dl_cons (by exact (de_tup (dl_cons de_int dl_nil))) (dl_cons (by exact (de_tup dl_nil)) (dl_cons (by exact (de_tup (dl_cons de_str (dl_cons de_int dl_nil)))) (dl_cons (by exact (de_tup (dl_cons (de_var 10) (dl_cons (de_var 10) dl_nil)))) (dl_cons (by exact (de_tup (dl_cons de_int (dl_cons de_int dl_nil)))) (dl_cons (by exact (de_tup (dl_cons (by exact (de_ix ix_seq od_ix (de_var 10) de_int)) (dl_cons (by exact (de_ix ix_seq od_ix (de_var 10) de_int)) dl_nil)))) dl_nil))))))))))))))) (dg_name (i := 5) sclaw.nd rfl (.inl rfl)) fun _ => (dss_cons (ds_set (i := 7) sclaw.nd rfl (.inl rfl) (by exact (de_fun h_law_is rfl hr (by decide) rfl (dl_cons (de_var 5) dl_nil) (ln_cons ln0)))) (dss_one (ds_if (by exact (dt_not (by exact (dt_tru (sm := false) rfl (by exact (de_fun h_law_alike rfl hr (by decide) rfl (dl_cons (by exact (de_n (by exact (dn_lst (dl_cons (by exact (de_fun his_fraction rfl hr (by decide) rfl (dl_cons (de_var 5) dl_nil) (ln_cons ln0))) (dl_cons (by exact (de_funK (ks := ["value"]) (is := [0]) his_fraction rfl hr (by decide) rfl (by decide) (dk_cons (de_var 5) dk_nil) (ln_cons ln0))) dl_nil)))))) (dl_cons (by exact (de_n (by exact (dn_lst (dl_cons (de_var 7) (dl_cons (de_var 7) dl_nil)))))) dl_nil)) (ln_cons (ln_cons ln0)))))))) (dss_one (ds_ret de_bl)) dss_nil)))) (dss_cons (ds_setLc (own := [("k", 12)]) (i := 6) rfl sclaw.nd rfl rfl (sw_true rfl rfl rfl (by decide +kernel)) (by exact (di_rg1 rfl T.m_range (dl_cons (by exact (de_fun h_law_drop rfl hr (by decide) rfl (dl_cons (de_var 1) (dl_cons (by exact (de_ix ix_seq od_ix (by exact (de_n (by exact (dn_lst (dl_cons de_int (dl_cons de_int dl_nil)))))) (by exact (de_callTy call_int1 cd_int1 rfl T.m_int (by decide +kernel) (dl_cons (by exact (de_cmp (op_eqD hr.units) od_eq (de_var 2) de_int (nomark _))) dl_nil))))) dl_nil)) (ln_cons (ln_cons ln0)))) dl_nil))) (by exact blkOk_by (own := [("k", 12)]) (by show blkC ["script", "spring", "turn", "factor", "some", "value", "many", "due", "number", "told", "one", "other", "k"] (defScope slaw) _ _ = true; decide +kernel)) (fun _ _ _ _ _ _ => (dg_name (i := 12) sclaw.nd rfl (.inl rfl))) (fun _ _ _ _ _ => pts_y) (fun _ _ _ _ _ _ => (by exact (de_fun h_law_any rfl hr (by decide) rfl (dl_cons (de_var 1) dl_nil) (ln_cons ln0))))) (dss_cons (ds_set (i := 7) sclaw.nd rfl (.inl rfl) (by exact (de_tup (dl_cons de_int (dl_cons de_int dl_nil))))) (dss_cons (ds_for PassesOwn.never rfl (by exact (di_list rfl (de_var 6))) (dg_name (i := 8) sclaw.nd rfl (.inl rfl)) fun _ => (dss_one (ds_set (i := 7) sclaw.nd rfl (.inl rfl) (by exact (de_fun h_law_plus rfl hr (by decide) rfl (dl_cons (de_var 7) (dl_cons (de_var 8) dl_nil)) (ln_cons (ln_cons ln0))))))) (dss_cons (ds_set (i := 9) sclaw.nd rfl (.inl rfl) (by exact (de_n (by exact (dn_lst (dl_cons (by exact (de_fun hsum_of rfl hr (by decide) rfl (dl_cons (by exact (de_callTy call_tuple_of cd_tuple rfl T.m_tuple (by decide +kernel) (dl_cons (de_var 6) dl_nil))) dl_nil) (ln_cons ln0))) (dl_cons (by exact (de_fun hsum_of rfl hr (by decide) rfl (dl_cons (by exact (de_callTy call_tuple_of cd_tuple rfl T.m_tuple (by decide +kernel) (dl_cons (by exact (de_revL rfl (de_var 6))) dl_nil))) dl_nil) (ln_cons ln0))) (dl_cons (by exact (de_funK (ks := ["numbers"]) (is := [0]) hsum_of rfl hr (by decide) rfl (by decide) (dk_cons (by exact (de_callTy call_tuple_of cd_tuple rfl T.m_tuple (by decide +kernel) (dl_cons (by exact (de_callB cr_sortedPO cd_sortP rfl T.m_sorted (by decide +kernel) (dl_cons (de_var 6) dl_nil))) dl_nil))) dk_nil) (ln_cons ln0))) dl_nil)))))))) (dss_one (ds_if (by exact (dt_not (by exact (dt_tru (sm := false) rfl (by exact (de_fun h_law_alike rfl hr (by decide) rfl (dl_cons (de_var 9) (dl_cons (by exact (de_n (by exact (dn_lst (dl_cons (de_var 7) (dl_cons (de_var 7) (dl_cons (de_var 7) dl_nil))))))) dl_nil)) (ln_cons (ln_cons ln0)))))))) (dss_one (ds_ret de_bl)) dss_nil)))))))))))))) (dss_one (ds_ret de_bl)))
end
end K01

set_option Elab.async false
set_option linter.all false
set_option maxRecDepth 100000
set_option maxHeartbeats 2000000
namespace K01
open PySem PySem.Spec PyProof.Rows L2 DL
/-! ### fractions -/
def fr (r : Rat) : D := .tuple [.int r.num, .int (r.den : Int)]
/-- by lowest terms: what both ways come to -/
theorem low_num {t b : Int} (hb : b ≠ 0) : t.fdiv (if b < 0 then -(Nat.gcd t.natAbs b.natAbs : Int) else (Nat.gcd t.natAbs b.natAbs : Int)) = (Rat.divInt t b).num := by
  rw [Rat.num_divInt]
  have hg : (Nat.gcd t.natAbs b.natAbs : Int) = (b.gcd t : Int) := by rw [Int.gcd, Nat.gcd_comm]
  rw [hg]
  have h0 : (b.gcd t : Int) ≠ 0 := by
    intro z
    have : b.gcd t = 0 := by omega
    exact hb (Int.gcd_eq_zero_iff.mp this).1
  obtain ⟨k, hk⟩ := Int.gcd_dvd_right (a := b) (b := t)
  generalize (b.gcd t : Int) = d at *
  subst hk
  by_cases h : b < 0
  · rw [if_pos h, Int.sign_eq_neg_one_of_neg h]
    rw [show -1 * (d * k) = d * (-k) by rw [Int.mul_neg]; omega, Int.mul_ediv_cancel_left _ h0, show d * k = (-d) * (-k) by rw [Int.neg_mul_neg], Int.mul_fdiv_cancel_left _ (by omega)]
  · rw [if_neg h, Int.sign_eq_one_of_pos (by omega), Int.one_mul, Int.mul_ediv_cancel_left _ h0, Int.mul_fdiv_cancel_left _ h0]
theorem low_den {t b : Int} (hb : b ≠ 0) : b.fdiv (if b < 0 then -(Nat.gcd t.natAbs b.natAbs : Int) else (Nat.gcd t.natAbs b.natAbs : Int)) = ((Rat.divInt t b).den : Int) := by
  rw [Rat.den_divInt, if_neg hb]
  have hg : (Nat.gcd t.natAbs b.natAbs : Int) = (b.gcd t : Int) := by rw [Int.gcd, Nat.gcd_comm]
  rw [hg, Int.natCast_ediv]
  have h0 : (b.gcd t : Int) ≠ 0 := by
    intro z
    have : b.gcd t = 0 := by omega
    exact hb (Int.gcd_eq_zero_iff.mp this).1
  obtain ⟨k, hk⟩ := Int.gcd_dvd_left (a := b) (b := t)
  by_cases h : b < 0
  · rw [if_pos h]
    have e : (b.natAbs : Int) = (b.gcd t : Int) * (-k) := by rw [Int.mul_neg, ← hk]; omega
    rw [e, Int.mul_ediv_cancel_left _ h0]
    generalize (b.gcd t : Int) = d at *
    subst hk
    rw [show d * k = (-d) * (-k) by rw [Int.neg_mul_neg], Int.mul_fdiv_cancel_left _ (by omega)]
  · rw [if_neg h]
    have e : (b.natAbs : Int) = (b.gcd t : Int) * k := by rw [← hk]; omega
    rw [e, Int.mul_ediv_cancel_left _ h0]
    generalize (b.gcd t : Int) = d at *
    subst hk
    rw [Int.mul_fdiv_cancel_left _ h0]
theorem log_of {n : Nat} (h : n < 2 ^ 9000) : n.log2 < 9000 := by
  by_cases z : n = 0
  · subst z; decide
  · exact (Nat.log2_lt z).mpr h
theorem gcd_bd {t b : Int} (hb : b ≠ 0) (h : b.natAbs < 2 ^ 9000) : Nat.gcd t.natAbs b.natAbs ≠ 0 ∧ (Nat.gcd t.natAbs b.natAbs).log2 < 9000 := by
  have h1 : Nat.gcd t.natAbs b.natAbs ≤ b.natAbs := Nat.gcd_le_right _ (by omega)
  exact ⟨fun z => hb (by have := (Nat.gcd_eq_zero_iff.mp z).2; omega), log_of (by omega)⟩
theorem sz_ok {n : Nat} (h : n ≤ 100) : n ≤ sizeLine := Nat.le_trans h (by decide)
theorem reduced_ok {t b : Int} (hb : b ≠ 0) (h : b.natAbs < 2 ^ 9000) (g : G) : F_reduced [.int t, .int b] g = some (fr (Rat.divInt t b), g) := by
  obtain ⟨h1, h2⟩ := gcd_bd (t := t) hb h
  refine Ok.eq ?_
  unfold F_reduced m_reduced
  (try simp only [fEq_int, fNe_int, ok_eK, ok_lNil, ok_lCons, ok_e2, ok_e1, ok_eF, ok_eTup, ok_nLst, ok_eN, ok_mB, ok_mTru, ok_mNot, ok_mAnd, ok_mOr, ok_eAnd, ok_eOr, ok_eNot, ok_eIf, ok_eIsi, ok_eIsi2, ok_eTyC, ok_eCall, ok_eCallK, ok_oNo, ok_oAt, ok_eSl, ok_iOf, ok_iOfT, ok_iRg1, oks_sNx, oks_sSeq, oks_sSet, oks_sOwn, oks_sDrop, oks_sRet, oks_sIf, oks_sAsg, oks_sPar, oks_sFor, ok_runD, ok_some, oks_some, startE, eV, setsE, Tg.parts, fAdd_int, fAdd_lst, fAdd_tup, fSub_int, fMul_int, fDiv_int, fMod_int, fPow_int, fLt_int, fLe_int, fGt_int, fGe_int, fNeg_int, fIx_lst, fIx_tup, fLen_lst, fLen_tup, fAbs_int, fInt1_int, fInt1_bl, fGcd_int, fTuple_lst, fTuple_tup, fList_lst, fList_tup, fTru_bl, fTru_lst, fTru_tup, fIsB_bl, atI_0, atI_1, ty_int, ty_bl, ty_lst, ty_tup, ty_str, ty_non, List.map_cons, List.map_nil, List.length_cons, List.length_nil, List.replicate, List.cons_append, List.nil_append, List.getElem?_cons_zero, List.getElem?_cons_succ, List.set_cons_zero, List.set_cons_succ, List.zip_cons_cons, List.zip_nil_right, List.zip_nil_left, Option.some.injEq, exists_eq_left', exists_eq_left, Nat.reduceAdd, Nat.reduceSub, Nat.reduceEqDiff, PyData.bool.injEq, PyData.int.injEq, PyData.list.injEq, PyData.tuple.injEq, if_true, if_false, reduceIte, true_and, and_true, decide_true, decide_false, Bool.false_eq_true])
  by_cases hn : b < 0
  · have e1 := low_num (t := t) hb
    have e2 := low_den (t := t) hb
    rw [if_pos hn] at e1 e2
    simp only [hn, decide_true, if_true, cDiv, Int.natAbs_neg, Int.natAbs_natCast]
    simp [h1, h2, e1, e2, fr, sz_ok]
  · have e1 := low_num (t := t) hb
    have e2 := low_den (t := t) hb
    rw [if_neg hn] at e1 e2
    simp only [hn, decide_false, cDiv, Int.natAbs_natCast]
    simp [h1, h2, e1, e2, fr, sz_ok]
end K01

set_option Elab.async false
set_option linter.all false
set_option maxRecDepth 100000
set_option maxHeartbeats 2000000
namespace K01
open PySem PySem.Spec PyProof.Rows L2 DL
abbrev cLow : MT := mB (e2 fGt (eV false 3) (eK (.int 0)))
abbrev bLow : MS := sPar [2, 3] (lCons (eV true 3) (lCons (e2 fMod (eF fInt1 (lCons (eV true 2) (lNil))) (eV true 3)) (lNil)))
theorem whLow (t b : Sl) (g : G) : ∀ (n x y : Nat), y < n → whL cLow bLow n [t, b, .val (.int x), .val (.int y)] g = some (.nx, [t, b, .val (.int (Nat.gcd x y : Nat)), .val (.int 0)], g)
  | 0, _, _, h => absurd h (by omega)
  | n + 1, x, y, h => by
    have hc : cLow [t, b, .val (.int x), .val (.int y)] g = some (decide (0 < y), g) := by
      refine Ok.eq ?_
      (try simp only [fEq_int, fNe_int, ok_eK, ok_lNil, ok_lCons, ok_e2, ok_e1, ok_eF, ok_eTup, ok_nLst, ok_eN, ok_mB, ok_mTru, ok_mNot, ok_mAnd, ok_mOr, ok_eAnd, ok_eOr, ok_eNot, ok_eIf, ok_eIsi, ok_eIsi2, ok_eTyC, ok_eCall, ok_eCallK, ok_oNo, ok_oAt, ok_eSl, ok_iOf, ok_iOfT, ok_iRg1, oks_sNx, oks_sSeq, oks_sSet, oks_sOwn, oks_sDrop, oks_sRet, oks_sIf, oks_sAsg, oks_sPar, oks_sFor, ok_runD, ok_some, oks_some, startE, eV, setsE, Tg.parts, fAdd_int, fAdd_lst, fAdd_tup, fSub_int, fMul_int, fDiv_int, fMod_int, fPow_int, fLt_int, fLe_int, fGt_int, fGe_int, fNeg_int, fIx_lst, fIx_tup, fLen_lst, fLen_tup, fAbs_int, fInt1_int, fInt1_bl, fGcd_int, fTuple_lst, fTuple_tup, fList_lst, fList_tup, fTru_bl, fTru_lst, fTru_tup, fIsB_bl, atI_0, atI_1, ty_int, ty_bl, ty_lst, ty_tup, ty_str, ty_non, List.map_cons, List.map_nil, List.length_cons, List.length_nil, List.replicate, List.cons_append, List.nil_append, List.getElem?_cons_zero, List.getElem?_cons_succ, List.set_cons_zero, List.set_cons_succ, List.zip_cons_cons, List.zip_nil_right, List.zip_nil_left, Option.some.injEq, exists_eq_left', exists_eq_left, Nat.reduceAdd, Nat.reduceSub, Nat.reduceEqDiff, PyData.bool.injEq, PyData.int.injEq, PyData.list.injEq, PyData.tuple.injEq, if_true, if_false, reduceIte, true_and, and_true, decide_true, decide_false, Bool.false_eq_true])
      simp
    unfold whL
    rw [hc]
    by_cases hy : 0 < y
    · have hb : bLow [t, b, .val (.int x), .val (.int y)] g = some (.nx, [t, b, .val (.int y), .val (.int (x % y : Nat))], g) := by
        have : OkS (bLow [t, b, .val (.int x), .val (.int y)] g) fun r E' g' => r = .nx ∧ E' = [t, b, .val (.int y), .val (.int (x % y : Nat))] ∧ g' = g := by
          (try simp only [fEq_int, fNe_int, ok_eK, ok_lNil, ok_lCons, ok_e2, ok_e1, ok_eF, ok_eTup, ok_nLst, ok_eN, ok_mB, ok_mTru, ok_mNot, ok_mAnd, ok_mOr, ok_eAnd, ok_eOr, ok_eNot, ok_eIf, ok_eIsi, ok_eIsi2, ok_eTyC, ok_eCall, ok_eCallK, ok_oNo, ok_oAt, ok_eSl, ok_iOf, ok_iOfT, ok_iRg1, oks_sNx, oks_sSeq, oks_sSet, oks_sOwn, oks_sDrop, oks_sRet, oks_sIf, oks_sAsg, oks_sPar, oks_sFor, ok_runD, ok_some, oks_some, startE, eV, setsE, Tg.parts, fAdd_int, fAdd_lst, fAdd_tup, fSub_int, fMul_int, fDiv_int, fMod_int, fPow_int, fLt_int, fLe_int, fGt_int, fGe_int, fNeg_int, fIx_lst, fIx_tup, fLen_lst, fLen_tup, fAbs_int, fInt1_int, fInt1_bl, fGcd_int, fTuple_lst, fTuple_tup, fList_lst, fList_tup, fTru_bl, fTru_lst, fTru_tup, fIsB_bl, atI_0, atI_1, ty_int, ty_bl, ty_lst, ty_tup, ty_str, ty_non, List.map_cons, List.map_nil, List.length_cons, List.length_nil, List.replicate, List.cons_append, List.nil_append, List.getElem?_cons_zero, List.getElem?_cons_succ, List.set_cons_zero, List.set_cons_succ, List.zip_cons_cons, List.zip_nil_right, List.zip_nil_left, Option.some.injEq, exists_eq_left', exists_eq_left, Nat.reduceAdd, Nat.reduceSub, Nat.reduceEqDiff, PyData.bool.injEq, PyData.int.injEq, PyData.list.injEq, PyData.tuple.injEq, if_true, if_false, reduceIte, true_and, and_true, decide_true, decide_false, Bool.false_eq_true])
          simp [hy]
        obtain ⟨r, E', g', e, rfl, rfl, rfl⟩ := this
        exact e
      simp only [hy, decide_true, hb]
      have := whLow t b g n y (x % y) (by have := Nat.mod_lt x hy; omega)
      rw [this, show Nat.gcd y (x % y) = Nat.gcd x y by rw [Nat.gcd_comm x y, Nat.gcd_rec y x, Nat.gcd_comm]]
    · obtain rfl : y = 0 := by omega
      simp
theorem low_ok {t b : Int} (hb : b ≠ 0) (h : b.natAbs < 2 ^ 9000) (g : G) : F_law_low [.int t, .int b] g = some (fr (Rat.divInt t b), g) := by
  obtain ⟨h1, h2⟩ := gcd_bd (t := t) hb h
  refine Ok.eq ?_
  unfold F_law_low m_law_low
  (try simp only [fEq_int, fNe_int, ok_eK, ok_lNil, ok_lCons, ok_e2, ok_e1, ok_eF, ok_eTup, ok_nLst, ok_eN, ok_mB, ok_mTru, ok_mNot, ok_mAnd, ok_mOr, ok_eAnd, ok_eOr, ok_eNot, ok_eIf, ok_eIsi, ok_eIsi2, ok_eTyC, ok_eCall, ok_eCallK, ok_oNo, ok_oAt, ok_eSl, ok_iOf, ok_iOfT, ok_iRg1, oks_sNx, oks_sSeq, oks_sSet, oks_sOwn, oks_sDrop, oks_sRet, oks_sIf, oks_sAsg, oks_sPar, oks_sFor, ok_runD, ok_some, oks_some, startE, eV, setsE, Tg.parts, fAdd_int, fAdd_lst, fAdd_tup, fSub_int, fMul_int, fDiv_int, fMod_int, fPow_int, fLt_int, fLe_int, fGt_int, fGe_int, fNeg_int, fIx_lst, fIx_tup, fLen_lst, fLen_tup, fAbs_int, fInt1_int, fInt1_bl, fGcd_int, fTuple_lst, fTuple_tup, fList_lst, fList_tup, fTru_bl, fTru_lst, fTru_tup, fIsB_bl, atI_0, atI_1, ty_int, ty_bl, ty_lst, ty_tup, ty_str, ty_non, List.map_cons, List.map_nil, List.length_cons, List.length_nil, List.replicate, List.cons_append, List.nil_append, List.getElem?_cons_zero, List.getElem?_cons_succ, List.set_cons_zero, List.set_cons_succ, List.zip_cons_cons, List.zip_nil_right, List.zip_nil_left, Option.some.injEq, exists_eq_left', exists_eq_left, Nat.reduceAdd, Nat.reduceSub, Nat.reduceEqDiff, PyData.bool.injEq, PyData.int.injEq, PyData.list.injEq, PyData.tuple.injEq, if_true, if_false, reduceIte, true_and, and_true, decide_true, decide_false, Bool.false_eq_true])
  have ea : ∀ i : Int, (if i < 0 then -i else i) = (i.natAbs : Int) := fun i => by split <;> omega
  rw [ea, ea]
  unfold sWhile
  have hf : fuI 3 [Sl.val (.int t), Sl.val (.int b), Sl.val (.int (t.natAbs : Int)), Sl.val (.int (b.natAbs : Int))] g = b.natAbs + 2 := by
    show (b.natAbs : Int).natAbs + 2 = _
    rw [Int.natAbs_natCast]
  rw [hf, whLow _ _ g (b.natAbs + 2) t.natAbs b.natAbs (by omega)]
  (try simp only [fEq_int, fNe_int, ok_eK, ok_lNil, ok_lCons, ok_e2, ok_e1, ok_eF, ok_eTup, ok_nLst, ok_eN, ok_mB, ok_mTru, ok_mNot, ok_mAnd, ok_mOr, ok_eAnd, ok_eOr, ok_eNot, ok_eIf, ok_eIsi, ok_eIsi2, ok_eTyC, ok_eCall, ok_eCallK, ok_oNo, ok_oAt, ok_eSl, ok_iOf, ok_iOfT, ok_iRg1, oks_sNx, oks_sSeq, oks_sSet, oks_sOwn, oks_sDrop, oks_sRet, oks_sIf, oks_sAsg, oks_sPar, oks_sFor, ok_runD, ok_some, oks_some, startE, eV, setsE, Tg.parts, fAdd_int, fAdd_lst, fAdd_tup, fSub_int, fMul_int, fDiv_int, fMod_int, fPow_int, fLt_int, fLe_int, fGt_int, fGe_int, fNeg_int, fIx_lst, fIx_tup, fLen_lst, fLen_tup, fAbs_int, fInt1_int, fInt1_bl, fGcd_int, fTuple_lst, fTuple_tup, fList_lst, fList_tup, fTru_bl, fTru_lst, fTru_tup, fIsB_bl, atI_0, atI_1, ty_int, ty_bl, ty_lst, ty_tup, ty_str, ty_non, List.map_cons, List.map_nil, List.length_cons, List.length_nil, List.replicate, List.cons_append, List.nil_append, List.getElem?_cons_zero, List.getElem?_cons_succ, List.set_cons_zero, List.set_cons_succ, List.zip_cons_cons, List.zip_nil_right, List.zip_nil_left, Option.some.injEq, exists_eq_left', exists_eq_left, Nat.reduceAdd, Nat.reduceSub, Nat.reduceEqDiff, PyData.bool.injEq, PyData.int.injEq, PyData.list.injEq, PyData.tuple.injEq, if_true, if_false, reduceIte, true_and, and_true, decide_true, decide_false, Bool.false_eq_true])
  by_cases hn : b < 0
  · have e1 := low_num (t := t) hb
    have e2 := low_den (t := t) hb
    rw [if_pos hn] at e1 e2
    have hp : ¬ (0 < b) := by omega
    simp only [hp, decide_false, cDiv]
    (try simp only [fEq_int, fNe_int, ok_eK, ok_lNil, ok_lCons, ok_e2, ok_e1, ok_eF, ok_eTup, ok_nLst, ok_eN, ok_mB, ok_mTru, ok_mNot, ok_mAnd, ok_mOr, ok_eAnd, ok_eOr, ok_eNot, ok_eIf, ok_eIsi, ok_eIsi2, ok_eTyC, ok_eCall, ok_eCallK, ok_oNo, ok_oAt, ok_eSl, ok_iOf, ok_iOfT, ok_iRg1, oks_sNx, oks_sSeq, oks_sSet, oks_sOwn, oks_sDrop, oks_sRet, oks_sIf, oks_sAsg, oks_sPar, oks_sFor, ok_runD, ok_some, oks_some, startE, eV, setsE, Tg.parts, fAdd_int, fAdd_lst, fAdd_tup, fSub_int, fMul_int, fDiv_int, fMod_int, fPow_int, fLt_int, fLe_int, fGt_int, fGe_int, fNeg_int, fIx_lst, fIx_tup, fLen_lst, fLen_tup, fAbs_int, fInt1_int, fInt1_bl, fGcd_int, fTuple_lst, fTuple_tup, fList_lst, fList_tup, fTru_bl, fTru_lst, fTru_tup, fIsB_bl, atI_0, atI_1, ty_int, ty_bl, ty_lst, ty_tup, ty_str, ty_non, List.map_cons, List.map_nil, List.length_cons, List.length_nil, List.replicate, List.cons_append, List.nil_append, List.getElem?_cons_zero, List.getElem?_cons_succ, List.set_cons_zero, List.set_cons_succ, List.zip_cons_cons, List.zip_nil_right, List.zip_nil_left, Option.some.injEq, exists_eq_left', exists_eq_left, Nat.reduceAdd, Nat.reduceSub, Nat.reduceEqDiff, PyData.bool.injEq, PyData.int.injEq, PyData.list.injEq, PyData.tuple.injEq, if_true, if_false, reduceIte, true_and, and_true, decide_true, decide_false, Bool.false_eq_true])
    simp [h1, h2, e1, e2, fr, sz_ok]
  · have e1 := low_num (t := t) hb
    have e2 := low_den (t := t) hb
    rw [if_neg hn] at e1 e2
    have hp : 0 < b := by omega
    simp only [hp, decide_true, cDiv]
    (try simp only [fEq_int, fNe_int, ok_eK, ok_lNil, ok_lCons, ok_e2, ok_e1, ok_eF, ok_eTup, ok_nLst, ok_eN, ok_mB, ok_mTru, ok_mNot, ok_mAnd, ok_mOr, ok_eAnd, ok_eOr, ok_eNot, ok_eIf, ok_eIsi, ok_eIsi2, ok_eTyC, ok_eCall, ok_eCallK, ok_oNo, ok_oAt, ok_eSl, ok_iOf, ok_iOfT, ok_iRg1, oks_sNx, oks_sSeq, oks_sSet, oks_sOwn, oks_sDrop, oks_sRet, oks_sIf, oks_sAsg, oks_sPar, oks_sFor, ok_runD, ok_some, oks_some, startE, eV, setsE, Tg.parts, fAdd_int, fAdd_lst, fAdd_tup, fSub_int, fMul_int, fDiv_int, fMod_int, fPow_int, fLt_int, fLe_int, fGt_int, fGe_int, fNeg_int, fIx_lst, fIx_tup, fLen_lst, fLen_tup, fAbs_int, fInt1_int, fInt1_bl, fGcd_int, fTuple_lst, fTuple_tup, fList_lst, fList_tup, fTru_bl, fTru_lst, fTru_tup, fIsB_bl, atI_0, atI_1, ty_int, ty_bl, ty_lst, ty_tup, ty_str, ty_non, List.map_cons, List.map_nil, List.length_cons, List.length_nil, List.replicate, List.cons_append, List.nil_append, List.getElem?_cons_zero, List.getElem?_cons_succ, List.set_cons_zero, List.set_cons_succ, List.zip_cons_cons, List.zip_nil_right, List.zip_nil_left, Option.some.injEq, exists_eq_left', exists_eq_left, Nat.reduceAdd, Nat.reduceSub, Nat.reduceEqDiff, PyData.bool.injEq, PyData.int.injEq, PyData.list.injEq, PyData.tuple.injEq, if_true, if_false, reduceIte, true_and, and_true, decide_true, decide_false, Bool.false_eq_true])
    simp [h1, h2, e1, e2, fr, sz_ok]
theorem isint {d : D} {S : String} (h : tyN d = some S) (g : G) : Fis_integer [d] g = some (.bool (decide (S = "int")), g) := by
  refine Ok.eq ?_
  unfold Fis_integer mis_integer
  simp only [ok_runD, oks_sRet, ok_eTyC, startE, eV, ok_some, List.map_cons, List.map_nil, List.length_cons, List.length_nil, List.cons_append, List.getElem?_cons_zero, h]
  simp
theorem isT2 (ds : List D) (g : G) : Fis_tuple_of [.tuple ds, .int 2] g = some (.bool (decide (ds.length = 2)), g) := by
  refine Ok.eq ?_
  unfold Fis_tuple_of mis_tuple_of
  (try simp only [fEq_int, fNe_int, ok_eK, ok_lNil, ok_lCons, ok_e2, ok_e1, ok_eF, ok_eTup, ok_nLst, ok_eN, ok_mB, ok_mTru, ok_mNot, ok_mAnd, ok_mOr, ok_eAnd, ok_eOr, ok_eNot, ok_eIf, ok_eIsi, ok_eIsi2, ok_eTyC, ok_eCall, ok_eCallK, ok_oNo, ok_oAt, ok_eSl, ok_iOf, ok_iOfT, ok_iRg1, oks_sNx, oks_sSeq, oks_sSet, oks_sOwn, oks_sDrop, oks_sRet, oks_sIf, oks_sAsg, oks_sPar, oks_sFor, ok_runD, ok_some, oks_some, startE, eV, setsE, Tg.parts, fAdd_int, fAdd_lst, fAdd_tup, fSub_int, fMul_int, fDiv_int, fMod_int, fPow_int, fLt_int, fLe_int, fGt_int, fGe_int, fNeg_int, fIx_lst, fIx_tup, fLen_lst, fLen_tup, fAbs_int, fInt1_int, fInt1_bl, fGcd_int, fTuple_lst, fTuple_tup, fList_lst, fList_tup, fTru_bl, fTru_lst, fTru_tup, fIsB_bl, atI_0, atI_1, ty_int, ty_bl, ty_lst, ty_tup, ty_str, ty_non, List.map_cons, List.map_nil, List.length_cons, List.length_nil, List.replicate, List.cons_append, List.nil_append, List.getElem?_cons_zero, List.getElem?_cons_succ, List.set_cons_zero, List.set_cons_succ, List.zip_cons_cons, List.zip_nil_right, List.zip_nil_left, Option.some.injEq, exists_eq_left', exists_eq_left, Nat.reduceAdd, Nat.reduceSub, Nat.reduceEqDiff, PyData.bool.injEq, PyData.int.injEq, PyData.list.injEq, PyData.tuple.injEq, if_true, if_false, reduceIte, true_and, and_true, decide_true, decide_false, Bool.false_eq_true])
  simp
  omega
theorem isT2' {d : D} {S : String} (h : tyN d = some S) (hs : S ≠ "tuple") (g : G) : Fis_tuple_of [d, .int 2] g = some (.bool false, g) := by
  refine Ok.eq ?_
  unfold Fis_tuple_of mis_tuple_of
  simp only [ok_runD, oks_sRet, ok_eAnd, ok_eTyC, startE, eV, ok_some, List.map_cons, List.map_nil, List.length_cons, List.length_nil, List.cons_append, List.getElem?_cons_zero, h, Option.some.injEq, exists_eq_left']
  simp [hs, fTru]
/-- a fraction, by its look -/
def isFr : D → Bool
  | .tuple [.int t, .int b] => decide (0 < b) && (Nat.gcd t.natAbs b.natAbs == 1)
  | _ => false
theorem isf_pair (t b : Int) (g : G) : Fis_fraction [.tuple [.int t, .int b]] g = some (.bool (isFr (.tuple [.int t, .int b])), g) := by
  refine Ok.eq ?_
  unfold Fis_fraction mis_fraction
  (try simp only [fEq_int, fNe_int, ok_eK, ok_lNil, ok_lCons, ok_e2, ok_e1, ok_eF, ok_eTup, ok_nLst, ok_eN, ok_mB, ok_mTru, ok_mNot, ok_mAnd, ok_mOr, ok_eAnd, ok_eOr, ok_eNot, ok_eIf, ok_eIsi, ok_eIsi2, ok_eTyC, ok_eCall, ok_eCallK, ok_oNo, ok_oAt, ok_eSl, ok_iOf, ok_iOfT, ok_iRg1, oks_sNx, oks_sSeq, oks_sSet, oks_sOwn, oks_sDrop, oks_sRet, oks_sIf, oks_sAsg, oks_sPar, oks_sFor, ok_runD, ok_some, oks_some, startE, eV, setsE, Tg.parts, fAdd_int, fAdd_lst, fAdd_tup, fSub_int, fMul_int, fDiv_int, fMod_int, fPow_int, fLt_int, fLe_int, fGt_int, fGe_int, fNeg_int, fIx_lst, fIx_tup, fLen_lst, fLen_tup, fAbs_int, fInt1_int, fInt1_bl, fGcd_int, fTuple_lst, fTuple_tup, fList_lst, fList_tup, fTru_bl, fTru_lst, fTru_tup, fIsB_bl, atI_0, atI_1, ty_int, ty_bl, ty_lst, ty_tup, ty_str, ty_non, List.map_cons, List.map_nil, List.length_cons, List.length_nil, List.replicate, List.cons_append, List.nil_append, List.getElem?_cons_zero, List.getElem?_cons_succ, List.set_cons_zero, List.set_cons_succ, List.zip_cons_cons, List.zip_nil_right, List.zip_nil_left, Option.some.injEq, exists_eq_left', exists_eq_left, Nat.reduceAdd, Nat.reduceSub, Nat.reduceEqDiff, PyData.bool.injEq, PyData.int.injEq, PyData.list.injEq, PyData.tuple.injEq, if_true, if_false, reduceIte, true_and, and_true, decide_true, decide_false, Bool.false_eq_true])
  rw [isT2]
  (try simp only [fEq_int, fNe_int, ok_eK, ok_lNil, ok_lCons, ok_e2, ok_e1, ok_eF, ok_eTup, ok_nLst, ok_eN, ok_mB, ok_mTru, ok_mNot, ok_mAnd, ok_mOr, ok_eAnd, ok_eOr, ok_eNot, ok_eIf, ok_eIsi, ok_eIsi2, ok_eTyC, ok_eCall, ok_eCallK, ok_oNo, ok_oAt, ok_eSl, ok_iOf, ok_iOfT, ok_iRg1, oks_sNx, oks_sSeq, oks_sSet, oks_sOwn, oks_sDrop, oks_sRet, oks_sIf, oks_sAsg, oks_sPar, oks_sFor, ok_runD, ok_some, oks_some, startE, eV, setsE, Tg.parts, fAdd_int, fAdd_lst, fAdd_tup, fSub_int, fMul_int, fDiv_int, fMod_int, fPow_int, fLt_int, fLe_int, fGt_int, fGe_int, fNeg_int, fIx_lst, fIx_tup, fLen_lst, fLen_tup, fAbs_int, fInt1_int, fInt1_bl, fGcd_int, fTuple_lst, fTuple_tup, fList_lst, fList_tup, fTru_bl, fTru_lst, fTru_tup, fIsB_bl, atI_0, atI_1, ty_int, ty_bl, ty_lst, ty_tup, ty_str, ty_non, List.map_cons, List.map_nil, List.length_cons, List.length_nil, List.replicate, List.cons_append, List.nil_append, List.getElem?_cons_zero, List.getElem?_cons_succ, List.set_cons_zero, List.set_cons_succ, List.zip_cons_cons, List.zip_nil_right, List.zip_nil_left, Option.some.injEq, exists_eq_left', exists_eq_left, Nat.reduceAdd, Nat.reduceSub, Nat.reduceEqDiff, PyData.bool.injEq, PyData.int.injEq, PyData.list.injEq, PyData.tuple.injEq, if_true, if_false, reduceIte, true_and, and_true, decide_true, decide_false, Bool.false_eq_true])
  simp only [List.length_cons, List.length_nil, decide_true, Bool.not_true, Bool.false_eq_true, if_false]
  (try simp only [fEq_int, fNe_int, ok_eK, ok_lNil, ok_lCons, ok_e2, ok_e1, ok_eF, ok_eTup, ok_nLst, ok_eN, ok_mB, ok_mTru, ok_mNot, ok_mAnd, ok_mOr, ok_eAnd, ok_eOr, ok_eNot, ok_eIf, ok_eIsi, ok_eIsi2, ok_eTyC, ok_eCall, ok_eCallK, ok_oNo, ok_oAt, ok_eSl, ok_iOf, ok_iOfT, ok_iRg1, oks_sNx, oks_sSeq, oks_sSet, oks_sOwn, oks_sDrop, oks_sRet, oks_sIf, oks_sAsg, oks_sPar, oks_sFor, ok_runD, ok_some, oks_some, startE, eV, setsE, Tg.parts, fAdd_int, fAdd_lst, fAdd_tup, fSub_int, fMul_int, fDiv_int, fMod_int, fPow_int, fLt_int, fLe_int, fGt_int, fGe_int, fNeg_int, fIx_lst, fIx_tup, fLen_lst, fLen_tup, fAbs_int, fInt1_int, fInt1_bl, fGcd_int, fTuple_lst, fTuple_tup, fList_lst, fList_tup, fTru_bl, fTru_lst, fTru_tup, fIsB_bl, atI_0, atI_1, ty_int, ty_bl, ty_lst, ty_tup, ty_str, ty_non, List.map_cons, List.map_nil, List.length_cons, List.length_nil, List.replicate, List.cons_append, List.nil_append, List.getElem?_cons_zero, List.getElem?_cons_succ, List.set_cons_zero, List.set_cons_succ, List.zip_cons_cons, List.zip_nil_right, List.zip_nil_left, Option.some.injEq, exists_eq_left', exists_eq_left, Nat.reduceAdd, Nat.reduceSub, Nat.reduceEqDiff, PyData.bool.injEq, PyData.int.injEq, PyData.list.injEq, PyData.tuple.injEq, if_true, if_false, reduceIte, true_and, and_true, decide_true, decide_false, Bool.false_eq_true])
  rw [isint (S := "int") rfl]
  (try simp only [fEq_int, fNe_int, ok_eK, ok_lNil, ok_lCons, ok_e2, ok_e1, ok_eF, ok_eTup, ok_nLst, ok_eN, ok_mB, ok_mTru, ok_mNot, ok_mAnd, ok_mOr, ok_eAnd, ok_eOr, ok_eNot, ok_eIf, ok_eIsi, ok_eIsi2, ok_eTyC, ok_eCall, ok_eCallK, ok_oNo, ok_oAt, ok_eSl, ok_iOf, ok_iOfT, ok_iRg1, oks_sNx, oks_sSeq, oks_sSet, oks_sOwn, oks_sDrop, oks_sRet, oks_sIf, oks_sAsg, oks_sPar, oks_sFor, ok_runD, ok_some, oks_some, startE, eV, setsE, Tg.parts, fAdd_int, fAdd_lst, fAdd_tup, fSub_int, fMul_int, fDiv_int, fMod_int, fPow_int, fLt_int, fLe_int, fGt_int, fGe_int, fNeg_int, fIx_lst, fIx_tup, fLen_lst, fLen_tup, fAbs_int, fInt1_int, fInt1_bl, fGcd_int, fTuple_lst, fTuple_tup, fList_lst, fList_tup, fTru_bl, fTru_lst, fTru_tup, fIsB_bl, atI_0, atI_1, ty_int, ty_bl, ty_lst, ty_tup, ty_str, ty_non, List.map_cons, List.map_nil, List.length_cons, List.length_nil, List.replicate, List.cons_append, List.nil_append, List.getElem?_cons_zero, List.getElem?_cons_succ, List.set_cons_zero, List.set_cons_succ, List.zip_cons_cons, List.zip_nil_right, List.zip_nil_left, Option.some.injEq, exists_eq_left', exists_eq_left, Nat.reduceAdd, Nat.reduceSub, Nat.reduceEqDiff, PyData.bool.injEq, PyData.int.injEq, PyData.list.injEq, PyData.tuple.injEq, if_true, if_false, reduceIte, true_and, and_true, decide_true, decide_false, Bool.false_eq_true])
  simp only [ok_eq (isint (d := .int b) (S := "int") rfl g)]
  by_cases hb : 0 < b
  · unfold isFr
    generalize hq : Nat.gcd t.natAbs b.natAbs = n
    by_cases hn : n = 1
    · simp [hb, fTru, hn, hq]
    · have : (n : Int) ≠ 1 := by omega
      simp [hb, fTru, hn, this, hq]
  · simp [hb, fTru, isFr]
theorem isf_two (x y : D) (S T : String) (hx : tyN x = some S) (hy : tyN y = some T) (h : S ≠ "int" ∨ T ≠ "int") (g : G) : Fis_fraction [.tuple [x, y]] g = some (.bool false, g) := by
  refine Ok.eq ?_
  unfold Fis_fraction mis_fraction
  (try simp only [fEq_int, fNe_int, ok_eK, ok_lNil, ok_lCons, ok_e2, ok_e1, ok_eF, ok_eTup, ok_nLst, ok_eN, ok_mB, ok_mTru, ok_mNot, ok_mAnd, ok_mOr, ok_eAnd, ok_eOr, ok_eNot, ok_eIf, ok_eIsi, ok_eIsi2, ok_eTyC, ok_eCall, ok_eCallK, ok_oNo, ok_oAt, ok_eSl, ok_iOf, ok_iOfT, ok_iRg1, oks_sNx, oks_sSeq, oks_sSet, oks_sOwn, oks_sDrop, oks_sRet, oks_sIf, oks_sAsg, oks_sPar, oks_sFor, ok_runD, ok_some, oks_some, startE, eV, setsE, Tg.parts, fAdd_int, fAdd_lst, fAdd_tup, fSub_int, fMul_int, fDiv_int, fMod_int, fPow_int, fLt_int, fLe_int, fGt_int, fGe_int, fNeg_int, fIx_lst, fIx_tup, fLen_lst, fLen_tup, fAbs_int, fInt1_int, fInt1_bl, fGcd_int, fTuple_lst, fTuple_tup, fList_lst, fList_tup, fTru_bl, fTru_lst, fTru_tup, fIsB_bl, atI_0, atI_1, ty_int, ty_bl, ty_lst, ty_tup, ty_str, ty_non, List.map_cons, List.map_nil, List.length_cons, List.length_nil, List.replicate, List.cons_append, List.nil_append, List.getElem?_cons_zero, List.getElem?_cons_succ, List.set_cons_zero, List.set_cons_succ, List.zip_cons_cons, List.zip_nil_right, List.zip_nil_left, Option.some.injEq, exists_eq_left', exists_eq_left, Nat.reduceAdd, Nat.reduceSub, Nat.reduceEqDiff, PyData.bool.injEq, PyData.int.injEq, PyData.list.injEq, PyData.tuple.injEq, if_true, if_false, reduceIte, true_and, and_true, decide_true, decide_false, Bool.false_eq_true])
  rw [isT2]
  (try simp only [fEq_int, fNe_int, ok_eK, ok_lNil, ok_lCons, ok_e2, ok_e1, ok_eF, ok_eTup, ok_nLst, ok_eN, ok_mB, ok_mTru, ok_mNot, ok_mAnd, ok_mOr, ok_eAnd, ok_eOr, ok_eNot, ok_eIf, ok_eIsi, ok_eIsi2, ok_eTyC, ok_eCall, ok_eCallK, ok_oNo, ok_oAt, ok_eSl, ok_iOf, ok_iOfT, ok_iRg1, oks_sNx, oks_sSeq, oks_sSet, oks_sOwn, oks_sDrop, oks_sRet, oks_sIf, oks_sAsg, oks_sPar, oks_sFor, ok_runD, ok_some, oks_some, startE, eV, setsE, Tg.parts, fAdd_int, fAdd_lst, fAdd_tup, fSub_int, fMul_int, fDiv_int, fMod_int, fPow_int, fLt_int, fLe_int, fGt_int, fGe_int, fNeg_int, fIx_lst, fIx_tup, fLen_lst, fLen_tup, fAbs_int, fInt1_int, fInt1_bl, fGcd_int, fTuple_lst, fTuple_tup, fList_lst, fList_tup, fTru_bl, fTru_lst, fTru_tup, fIsB_bl, atI_0, atI_1, ty_int, ty_bl, ty_lst, ty_tup, ty_str, ty_non, List.map_cons, List.map_nil, List.length_cons, List.length_nil, List.replicate, List.cons_append, List.nil_append, List.getElem?_cons_zero, List.getElem?_cons_succ, List.set_cons_zero, List.set_cons_succ, List.zip_cons_cons, List.zip_nil_right, List.zip_nil_left, Option.some.injEq, exists_eq_left', exists_eq_left, Nat.reduceAdd, Nat.reduceSub, Nat.reduceEqDiff, PyData.bool.injEq, PyData.int.injEq, PyData.list.injEq, PyData.tuple.injEq, if_true, if_false, reduceIte, true_and, and_true, decide_true, decide_false, Bool.false_eq_true])
  simp only [List.length_cons, List.length_nil, decide_true, Bool.not_true, Bool.false_eq_true, if_false]
  (try simp only [fEq_int, fNe_int, ok_eK, ok_lNil, ok_lCons, ok_e2, ok_e1, ok_eF, ok_eTup, ok_nLst, ok_eN, ok_mB, ok_mTru, ok_mNot, ok_mAnd, ok_mOr, ok_eAnd, ok_eOr, ok_eNot, ok_eIf, ok_eIsi, ok_eIsi2, ok_eTyC, ok_eCall, ok_eCallK, ok_oNo, ok_oAt, ok_eSl, ok_iOf, ok_iOfT, ok_iRg1, oks_sNx, oks_sSeq, oks_sSet, oks_sOwn, oks_sDrop, oks_sRet, oks_sIf, oks_sAsg, oks_sPar, oks_sFor, ok_runD, ok_some, oks_some, startE, eV, setsE, Tg.parts, fAdd_int, fAdd_lst, fAdd_tup, fSub_int, fMul_int, fDiv_int, fMod_int, fPow_int, fLt_int, fLe_int, fGt_int, fGe_int, fNeg_int, fIx_lst, fIx_tup, fLen_lst, fLen_tup, fAbs_int, fInt1_int, fInt1_bl, fGcd_int, fTuple_lst, fTuple_tup, fList_lst, fList_tup, fTru_bl, fTru_lst, fTru_tup, fIsB_bl, atI_0, atI_1, ty_int, ty_bl, ty_lst, ty_tup, ty_str, ty_non, List.map_cons, List.map_nil, List.length_cons, List.length_nil, List.replicate, List.cons_append, List.nil_append, List.getElem?_cons_zero, List.getElem?_cons_succ, List.set_cons_zero, List.set_cons_succ, List.zip_cons_cons, List.zip_nil_right, List.zip_nil_left, Option.some.injEq, exists_eq_left', exists_eq_left, Nat.reduceAdd, Nat.reduceSub, Nat.reduceEqDiff, PyData.bool.injEq, PyData.int.injEq, PyData.list.injEq, PyData.tuple.injEq, if_true, if_false, reduceIte, true_and, and_true, decide_true, decide_false, Bool.false_eq_true])
  rw [isint hx]
  (try simp only [fEq_int, fNe_int, ok_eK, ok_lNil, ok_lCons, ok_e2, ok_e1, ok_eF, ok_eTup, ok_nLst, ok_eN, ok_mB, ok_mTru, ok_mNot, ok_mAnd, ok_mOr, ok_eAnd, ok_eOr, ok_eNot, ok_eIf, ok_eIsi, ok_eIsi2, ok_eTyC, ok_eCall, ok_eCallK, ok_oNo, ok_oAt, ok_eSl, ok_iOf, ok_iOfT, ok_iRg1, oks_sNx, oks_sSeq, oks_sSet, oks_sOwn, oks_sDrop, oks_sRet, oks_sIf, oks_sAsg, oks_sPar, oks_sFor, ok_runD, ok_some, oks_some, startE, eV, setsE, Tg.parts, fAdd_int, fAdd_lst, fAdd_tup, fSub_int, fMul_int, fDiv_int, fMod_int, fPow_int, fLt_int, fLe_int, fGt_int, fGe_int, fNeg_int, fIx_lst, fIx_tup, fLen_lst, fLen_tup, fAbs_int, fInt1_int, fInt1_bl, fGcd_int, fTuple_lst, fTuple_tup, fList_lst, fList_tup, fTru_bl, fTru_lst, fTru_tup, fIsB_bl, atI_0, atI_1, ty_int, ty_bl, ty_lst, ty_tup, ty_str, ty_non, List.map_cons, List.map_nil, List.length_cons, List.length_nil, List.replicate, List.cons_append, List.nil_append, List.getElem?_cons_zero, List.getElem?_cons_succ, List.set_cons_zero, List.set_cons_succ, List.zip_cons_cons, List.zip_nil_right, List.zip_nil_left, Option.some.injEq, exists_eq_left', exists_eq_left, Nat.reduceAdd, Nat.reduceSub, Nat.reduceEqDiff, PyData.bool.injEq, PyData.int.injEq, PyData.list.injEq, PyData.tuple.injEq, if_true, if_false, reduceIte, true_and, and_true, decide_true, decide_false, Bool.false_eq_true])
  by_cases hS : S = "int"
  · have hT : T ≠ "int" := h.resolve_left (fun z => z hS)
    simp only [hS, decide_true, if_true, ok_eq (isint hy g)]
    simp [hT, fTru]
  · simp [hS]
theorem isf_len (ds : List D) (h : ds.length ≠ 2) (g : G) : Fis_fraction [.tuple ds] g = some (.bool false, g) := by
  refine Ok.eq ?_
  unfold Fis_fraction mis_fraction
  (try simp only [fEq_int, fNe_int, ok_eK, ok_lNil, ok_lCons, ok_e2, ok_e1, ok_eF, ok_eTup, ok_nLst, ok_eN, ok_mB, ok_mTru, ok_mNot, ok_mAnd, ok_mOr, ok_eAnd, ok_eOr, ok_eNot, ok_eIf, ok_eIsi, ok_eIsi2, ok_eTyC, ok_eCall, ok_eCallK, ok_oNo, ok_oAt, ok_eSl, ok_iOf, ok_iOfT, ok_iRg1, oks_sNx, oks_sSeq, oks_sSet, oks_sOwn, oks_sDrop, oks_sRet, oks_sIf, oks_sAsg, oks_sPar, oks_sFor, ok_runD, ok_some, oks_some, startE, eV, setsE, Tg.parts, fAdd_int, fAdd_lst, fAdd_tup, fSub_int, fMul_int, fDiv_int, fMod_int, fPow_int, fLt_int, fLe_int, fGt_int, fGe_int, fNeg_int, fIx_lst, fIx_tup, fLen_lst, fLen_tup, fAbs_int, fInt1_int, fInt1_bl, fGcd_int, fTuple_lst, fTuple_tup, fList_lst, fList_tup, fTru_bl, fTru_lst, fTru_tup, fIsB_bl, atI_0, atI_1, ty_int, ty_bl, ty_lst, ty_tup, ty_str, ty_non, List.map_cons, List.map_nil, List.length_cons, List.length_nil, List.replicate, List.cons_append, List.nil_append, List.getElem?_cons_zero, List.getElem?_cons_succ, List.set_cons_zero, List.set_cons_succ, List.zip_cons_cons, List.zip_nil_right, List.zip_nil_left, Option.some.injEq, exists_eq_left', exists_eq_left, Nat.reduceAdd, Nat.reduceSub, Nat.reduceEqDiff, PyData.bool.injEq, PyData.int.injEq, PyData.list.injEq, PyData.tuple.injEq, if_true, if_false, reduceIte, true_and, and_true, decide_true, decide_false, Bool.false_eq_true])
  rw [isT2]
  (try simp only [fEq_int, fNe_int, ok_eK, ok_lNil, ok_lCons, ok_e2, ok_e1, ok_eF, ok_eTup, ok_nLst, ok_eN, ok_mB, ok_mTru, ok_mNot, ok_mAnd, ok_mOr, ok_eAnd, ok_eOr, ok_eNot, ok_eIf, ok_eIsi, ok_eIsi2, ok_eTyC, ok_eCall, ok_eCallK, ok_oNo, ok_oAt, ok_eSl, ok_iOf, ok_iOfT, ok_iRg1, oks_sNx, oks_sSeq, oks_sSet, oks_sOwn, oks_sDrop, oks_sRet, oks_sIf, oks_sAsg, oks_sPar, oks_sFor, ok_runD, ok_some, oks_some, startE, eV, setsE, Tg.parts, fAdd_int, fAdd_lst, fAdd_tup, fSub_int, fMul_int, fDiv_int, fMod_int, fPow_int, fLt_int, fLe_int, fGt_int, fGe_int, fNeg_int, fIx_lst, fIx_tup, fLen_lst, fLen_tup, fAbs_int, fInt1_int, fInt1_bl, fGcd_int, fTuple_lst, fTuple_tup, fList_lst, fList_tup, fTru_bl, fTru_lst, fTru_tup, fIsB_bl, atI_0, atI_1, ty_int, ty_bl, ty_lst, ty_tup, ty_str, ty_non, List.map_cons, List.map_nil, List.length_cons, List.length_nil, List.replicate, List.cons_append, List.nil_append, List.getElem?_cons_zero, List.getElem?_cons_succ, List.set_cons_zero, List.set_cons_succ, List.zip_cons_cons, List.zip_nil_right, List.zip_nil_left, Option.some.injEq, exists_eq_left', exists_eq_left, Nat.reduceAdd, Nat.reduceSub, Nat.reduceEqDiff, PyData.bool.injEq, PyData.int.injEq, PyData.list.injEq, PyData.tuple.injEq, if_true, if_false, reduceIte, true_and, and_true, decide_true, decide_false, Bool.false_eq_true])
  simp [h]
theorem isf_no {d : D} {S : String} (h : tyN d = some S) (hs : S ≠ "tuple") (g : G) : Fis_fraction [d] g = some (.bool false, g) := by
  refine Ok.eq ?_
  unfold Fis_fraction mis_fraction
  (try simp only [fEq_int, fNe_int, ok_eK, ok_lNil, ok_lCons, ok_e2, ok_e1, ok_eF, ok_eTup, ok_nLst, ok_eN, ok_mB, ok_mTru, ok_mNot, ok_mAnd, ok_mOr, ok_eAnd, ok_eOr, ok_eNot, ok_eIf, ok_eIsi, ok_eIsi2, ok_eTyC, ok_eCall, ok_eCallK, ok_oNo, ok_oAt, ok_eSl, ok_iOf, ok_iOfT, ok_iRg1, oks_sNx, oks_sSeq, oks_sSet, oks_sOwn, oks_sDrop, oks_sRet, oks_sIf, oks_sAsg, oks_sPar, oks_sFor, ok_runD, ok_some, oks_some, startE, eV, setsE, Tg.parts, fAdd_int, fAdd_lst, fAdd_tup, fSub_int, fMul_int, fDiv_int, fMod_int, fPow_int, fLt_int, fLe_int, fGt_int, fGe_int, fNeg_int, fIx_lst, fIx_tup, fLen_lst, fLen_tup, fAbs_int, fInt1_int, fInt1_bl, fGcd_int, fTuple_lst, fTuple_tup, fList_lst, fList_tup, fTru_bl, fTru_lst, fTru_tup, fIsB_bl, atI_0, atI_1, ty_int, ty_bl, ty_lst, ty_tup, ty_str, ty_non, List.map_cons, List.map_nil, List.length_cons, List.length_nil, List.replicate, List.cons_append, List.nil_append, List.getElem?_cons_zero, List.getElem?_cons_succ, List.set_cons_zero, List.set_cons_succ, List.zip_cons_cons, List.zip_nil_right, List.zip_nil_left, Option.some.injEq, exists_eq_left', exists_eq_left, Nat.reduceAdd, Nat.reduceSub, Nat.reduceEqDiff, PyData.bool.injEq, PyData.int.injEq, PyData.list.injEq, PyData.tuple.injEq, if_true, if_false, reduceIte, true_and, and_true, decide_true, decide_false, Bool.false_eq_true])
  rw [isT2' h hs]
  (try simp only [fEq_int, fNe_int, ok_eK, ok_lNil, ok_lCons, ok_e2, ok_e1, ok_eF, ok_eTup, ok_nLst, ok_eN, ok_mB, ok_mTru, ok_mNot, ok_mAnd, ok_mOr, ok_eAnd, ok_eOr, ok_eNot, ok_eIf, ok_eIsi, ok_eIsi2, ok_eTyC, ok_eCall, ok_eCallK, ok_oNo, ok_oAt, ok_eSl, ok_iOf, ok_iOfT, ok_iRg1, oks_sNx, oks_sSeq, oks_sSet, oks_sOwn, oks_sDrop, oks_sRet, oks_sIf, oks_sAsg, oks_sPar, oks_sFor, ok_runD, ok_some, oks_some, startE, eV, setsE, Tg.parts, fAdd_int, fAdd_lst, fAdd_tup, fSub_int, fMul_int, fDiv_int, fMod_int, fPow_int, fLt_int, fLe_int, fGt_int, fGe_int, fNeg_int, fIx_lst, fIx_tup, fLen_lst, fLen_tup, fAbs_int, fInt1_int, fInt1_bl, fGcd_int, fTuple_lst, fTuple_tup, fList_lst, fList_tup, fTru_bl, fTru_lst, fTru_tup, fIsB_bl, atI_0, atI_1, ty_int, ty_bl, ty_lst, ty_tup, ty_str, ty_non, List.map_cons, List.map_nil, List.length_cons, List.length_nil, List.replicate, List.cons_append, List.nil_append, List.getElem?_cons_zero, List.getElem?_cons_succ, List.set_cons_zero, List.set_cons_succ, List.zip_cons_cons, List.zip_nil_right, List.zip_nil_left, Option.some.injEq, exists_eq_left', exists_eq_left, Nat.reduceAdd, Nat.reduceSub, Nat.reduceEqDiff, PyData.bool.injEq, PyData.int.injEq, PyData.list.injEq, PyData.tuple.injEq, if_true, if_false, reduceIte, true_and, and_true, decide_true, decide_false, Bool.false_eq_true])
  simp
theorem isFr_fr (r : Rat) : isFr (fr r) = true := by
  have h1 := r.den_pos
  have h2 := r.reduced
  unfold fr isFr
  have h3 : (Nat.gcd r.num.natAbs (r.den : Int).natAbs == 1) = true := by rw [Int.natAbs_natCast]; exact beq_iff_eq.mpr h2
  simp only [h3, Bool.and_true, decide_eq_true_eq]
  omega
theorem isf_fr (r : Rat) (g : G) : Fis_fraction [fr r] g = some (.bool true, g) := by
  have := isf_pair r.num r.den g
  rw [show (PyData.tuple [.int r.num, .int (r.den : Int)]) = fr r from rfl, isFr_fr] at this
  exact this
theorem check_ok (r s : Rat) (g : G) : F_check_both [fr r, fr s] g = some (.none, g) := by
  refine Ok.eq ?_
  unfold F_check_both m_check_both
  (try simp only [fEq_int, fNe_int, ok_eK, ok_lNil, ok_lCons, ok_e2, ok_e1, ok_eF, ok_eTup, ok_nLst, ok_eN, ok_mB, ok_mTru, ok_mNot, ok_mAnd, ok_mOr, ok_eAnd, ok_eOr, ok_eNot, ok_eIf, ok_eIsi, ok_eIsi2, ok_eTyC, ok_eCall, ok_eCallK, ok_oNo, ok_oAt, ok_eSl, ok_iOf, ok_iOfT, ok_iRg1, oks_sNx, oks_sSeq, oks_sSet, oks_sOwn, oks_sDrop, oks_sRet, oks_sIf, oks_sAsg, oks_sPar, oks_sFor, ok_runD, ok_some, oks_some, startE, eV, setsE, Tg.parts, fAdd_int, fAdd_lst, fAdd_tup, fSub_int, fMul_int, fDiv_int, fMod_int, fPow_int, fLt_int, fLe_int, fGt_int, fGe_int, fNeg_int, fIx_lst, fIx_tup, fLen_lst, fLen_tup, fAbs_int, fInt1_int, fInt1_bl, fGcd_int, fTuple_lst, fTuple_tup, fList_lst, fList_tup, fTru_bl, fTru_lst, fTru_tup, fIsB_bl, atI_0, atI_1, ty_int, ty_bl, ty_lst, ty_tup, ty_str, ty_non, List.map_cons, List.map_nil, List.length_cons, List.length_nil, List.replicate, List.cons_append, List.nil_append, List.getElem?_cons_zero, List.getElem?_cons_succ, List.set_cons_zero, List.set_cons_succ, List.zip_cons_cons, List.zip_nil_right, List.zip_nil_left, Option.some.injEq, exists_eq_left', exists_eq_left, Nat.reduceAdd, Nat.reduceSub, Nat.reduceEqDiff, PyData.bool.injEq, PyData.int.injEq, PyData.list.injEq, PyData.tuple.injEq, if_true, if_false, reduceIte, true_and, and_true, decide_true, decide_false, Bool.false_eq_true])
  simp only [ok_eq (isf_fr r g), ok_eq (isf_fr s g), fTru, Option.some.injEq, exists_eq_left', Bool.not_true, Bool.false_eq_true, if_false]
  try (try simp only [fEq_int, fNe_int, ok_eK, ok_lNil, ok_lCons, ok_e2, ok_e1, ok_eF, ok_eTup, ok_nLst, ok_eN, ok_mB, ok_mTru, ok_mNot, ok_mAnd, ok_mOr, ok_eAnd, ok_eOr, ok_eNot, ok_eIf, ok_eIsi, ok_eIsi2, ok_eTyC, ok_eCall, ok_eCallK, ok_oNo, ok_oAt, ok_eSl, ok_iOf, ok_iOfT, ok_iRg1, oks_sNx, oks_sSeq, oks_sSet, oks_sOwn, oks_sDrop, oks_sRet, oks_sIf, oks_sAsg, oks_sPar, oks_sFor, ok_runD, ok_some, oks_some, startE, eV, setsE, Tg.parts, fAdd_int, fAdd_lst, fAdd_tup, fSub_int, fMul_int, fDiv_int, fMod_int, fPow_int, fLt_int, fLe_int, fGt_int, fGe_int, fNeg_int, fIx_lst, fIx_tup, fLen_lst, fLen_tup, fAbs_int, fInt1_int, fInt1_bl, fGcd_int, fTuple_lst, fTuple_tup, fList_lst, fList_tup, fTru_bl, fTru_lst, fTru_tup, fIsB_bl, atI_0, atI_1, ty_int, ty_bl, ty_lst, ty_tup, ty_str, ty_non, List.map_cons, List.map_nil, List.length_cons, List.length_nil, List.replicate, List.cons_append, List.nil_append, List.getElem?_cons_zero, List.getElem?_cons_succ, List.set_cons_zero, List.set_cons_succ, List.zip_cons_cons, List.zip_nil_right, List.zip_nil_left, Option.some.injEq, exists_eq_left', exists_eq_left, Nat.reduceAdd, Nat.reduceSub, Nat.reduceEqDiff, PyData.bool.injEq, PyData.int.injEq, PyData.list.injEq, PyData.tuple.injEq, if_true, if_false, reduceIte, true_and, and_true, decide_true, decide_false, Bool.false_eq_true])
/-- how great -/
def Sz (n : Nat) (r : Rat) : Prop := r.num.natAbs < 2 ^ n ∧ r.den < 2 ^ n
theorem Sz.mono {n m : Nat} {r : Rat} (h : Sz n r) (l : n ≤ m) : Sz m r := ⟨Nat.lt_of_lt_of_le h.1 (Nat.pow_le_pow_right (by decide) l), Nat.lt_of_lt_of_le h.2 (Nat.pow_le_pow_right (by decide) l)⟩
theorem mul_bd {a b : Int} {m n : Nat} (ha : a.natAbs < 2 ^ m) (hb : b.natAbs < 2 ^ n) : (a * b).natAbs < 2 ^ (m + n) := by
  rw [Int.natAbs_mul, Nat.pow_add]
  exact Nat.mul_lt_mul_of_lt_of_lt ha hb
theorem cmul_bd {a b : Int} {m n : Nat} (ha : a.natAbs < 2 ^ m) (hb : b.natAbs < 2 ^ n) (h : m + n < 100000) : cMul a b = true := by
  unfold cMul
  have lg : ∀ {i : Int} {k : Nat}, i.natAbs < 2 ^ k → i.natAbs.log2 ≤ k := fun {i k} h => by
    by_cases z : i.natAbs = 0
    · rw [z]; exact Nat.zero_le _
    · exact Nat.le_of_lt ((Nat.log2_lt z).mpr h)
  have h1 := lg ha
  have h2 := lg hb
  simp only [Bool.or_eq_true, decide_eq_true_eq]
  exact .inr (by omega)
theorem divInt_sz {t b : Int} {n : Nat} (hb : b ≠ 0) (ht : t.natAbs < 2 ^ n) (h : b.natAbs < 2 ^ n) : Sz n (Rat.divInt t b) := by
  constructor
  · rw [Rat.num_divInt]
    have : (b.sign * t / (b.gcd t : Int)).natAbs ≤ t.natAbs := by
      refine Nat.le_trans (Int.natAbs_ediv_le_natAbs _ _) ?_
      rw [Int.natAbs_mul, Int.natAbs_sign_of_ne_zero hb, Nat.one_mul]
      exact Nat.le_refl _
    omega
  · rw [Rat.den_divInt, if_neg hb]
    exact Nat.lt_of_le_of_lt (Nat.div_le_self _ _) h
end K01

set_option Elab.async false
set_option linter.all false
set_option maxRecDepth 100000
set_option maxHeartbeats 2000000
namespace K01
open PySem PySem.Spec PyProof.Rows L2 DL
theorem den_ne (r : Rat) : (r.den : Int) ≠ 0 := by have := r.den_pos; omega
theorem add_div (r s : Rat) : Rat.divInt (r.num * s.den + s.num * r.den) (r.den * s.den) = r + s := by
  rw [← Rat.divInt_add_divInt _ _ (den_ne r) (den_ne s), Rat.num_divInt_den, Rat.num_divInt_den]
theorem sub_div (r s : Rat) : Rat.divInt (r.num * s.den - s.num * r.den) (r.den * s.den) = r - s := by
  have := add_div r (-s)
  rw [Rat.sub_eq_add_neg, ← this]
  simp [Int.sub_eq_add_neg, Int.neg_mul]
theorem mul_div (r s : Rat) : Rat.divInt (r.num * s.num) (r.den * s.den) = r * s := by
  rw [← Rat.divInt_mul_divInt, Rat.num_divInt_den, Rat.num_divInt_den]
theorem den_mul_ne (r s : Rat) : (r.den : Int) * s.den ≠ 0 := Int.mul_ne_zero (den_ne r) (den_ne s)
theorem num_ne {r : Rat} (h : r ≠ 0) : r.num ≠ 0 := fun z => h (Rat.num_eq_zero.mp z)
theorem over_div (r s : Rat) (hs : s ≠ 0) : Rat.divInt (r.num * s.den) (r.den * s.num) = r / s := by
  rw [← Rat.divInt_mul_divInt, Rat.num_divInt_den, Rat.div_def]
  congr 1
  rw [← Rat.inv_divInt, Rat.num_divInt_den]
theorem den_bd {n : Nat} {r : Rat} (h : Sz n r) : (r.den : Int).natAbs < 2 ^ n := by rw [Int.natAbs_natCast]; exact h.2
theorem bd9 {i : Int} {n : Nat} (h : i.natAbs < 2 ^ n) (hn : n ≤ 9000) : i.natAbs < 2 ^ 9000 := Nat.lt_of_lt_of_le h (Nat.pow_le_pow_right (by decide) hn)
theorem add_bd {i j : Int} {n : Nat} (hi : i.natAbs < 2 ^ n) (hj : j.natAbs < 2 ^ n) : (i + j).natAbs < 2 ^ (n + 1) := by
  rw [Nat.pow_succ]
  have := Int.natAbs_add_le i j
  omega
theorem up1 {i : Int} {n : Nat} (h : i.natAbs < 2 ^ n) : i.natAbs < 2 ^ (n + 1) := by
  rw [Nat.pow_succ]
  omega
theorem Sz.add {m n : Nat} {r s : Rat} (hr : Sz m r) (hs : Sz n s) : Sz (m + n + 1) (r + s) := by
  rw [← add_div]
  refine divInt_sz (den_mul_ne r s) (add_bd (mul_bd hr.1 (den_bd hs)) ?_) (up1 (mul_bd (den_bd hr) (den_bd hs)))
  rw [Nat.add_comm m n]
  exact mul_bd hs.1 (den_bd hr)
theorem Sz.sub {m n : Nat} {r s : Rat} (hr : Sz m r) (hs : Sz n s) : Sz (m + n + 1) (r - s) := by
  rw [Rat.sub_eq_add_neg]
  exact hr.add ⟨by rw [Rat.neg_num, Int.natAbs_neg]; exact hs.1, by rw [Rat.neg_den]; exact hs.2⟩
theorem Sz.mul {m n : Nat} {r s : Rat} (hr : Sz m r) (hs : Sz n s) : Sz (m + n) (r * s) := by
  rw [← mul_div]
  exact divInt_sz (den_mul_ne r s) (mul_bd hr.1 hs.1) (mul_bd (den_bd hr) (den_bd hs))
theorem Sz.over {m n : Nat} {r s : Rat} (hr : Sz m r) (hs : Sz n s) (h : s ≠ 0) : Sz (m + n) (r / s) := by
  rw [← over_div r s h]
  exact divInt_sz (Int.mul_ne_zero (den_ne r) (num_ne h)) (mul_bd hr.1 (den_bd hs)) (mul_bd (den_bd hr) hs.1)
section
variable {m n : Nat} {r s : Rat} (hr : Sz m r) (hs : Sz n s) (hm : m ≤ 4000) (hn : n ≤ 4000)
include hr hs hm hn
theorem plus_ok (g : G) : Fplus [fr r, fr s] g = some (fr (r + s), g) := by
  refine Ok.eq ?_
  unfold Fplus mplus
  (try simp only [fEq_int, fNe_int, ok_eK, ok_lNil, ok_lCons, ok_e2, ok_e1, ok_eF, ok_eTup, ok_nLst, ok_eN, ok_mB, ok_mTru, ok_mNot, ok_mAnd, ok_mOr, ok_eAnd, ok_eOr, ok_eNot, ok_eIf, ok_eIsi, ok_eIsi2, ok_eTyC, ok_eCall, ok_eCallK, ok_oNo, ok_oAt, ok_eSl, ok_iOf, ok_iOfT, ok_iRg1, oks_sNx, oks_sSeq, oks_sSet, oks_sOwn, oks_sDrop, oks_sRet, oks_sIf, oks_sAsg, oks_sPar, oks_sFor, ok_runD, ok_some, oks_some, startE, eV, setsE, Tg.parts, fAdd_int, fAdd_lst, fAdd_tup, fSub_int, fMul_int, fDiv_int, fMod_int, fPow_int, fLt_int, fLe_int, fGt_int, fGe_int, fNeg_int, fIx_lst, fIx_tup, fLen_lst, fLen_tup, fAbs_int, fInt1_int, fInt1_bl, fGcd_int, fTuple_lst, fTuple_tup, fList_lst, fList_tup, fTru_bl, fTru_lst, fTru_tup, fIsB_bl, atI_0, atI_1, ty_int, ty_bl, ty_lst, ty_tup, ty_str, ty_non, List.map_cons, List.map_nil, List.length_cons, List.length_nil, List.replicate, List.cons_append, List.nil_append, List.getElem?_cons_zero, List.getElem?_cons_succ, List.set_cons_zero, List.set_cons_succ, List.zip_cons_cons, List.zip_nil_right, List.zip_nil_left, Option.some.injEq, exists_eq_left', exists_eq_left, Nat.reduceAdd, Nat.reduceSub, Nat.reduceEqDiff, PyData.bool.injEq, PyData.int.injEq, PyData.list.injEq, PyData.tuple.injEq, if_true, if_false, reduceIte, true_and, and_true, decide_true, decide_false, Bool.false_eq_true])
  rw [ok_eq (check_ok r s g)]
  simp only [fr]
  (try simp only [fEq_int, fNe_int, ok_eK, ok_lNil, ok_lCons, ok_e2, ok_e1, ok_eF, ok_eTup, ok_nLst, ok_eN, ok_mB, ok_mTru, ok_mNot, ok_mAnd, ok_mOr, ok_eAnd, ok_eOr, ok_eNot, ok_eIf, ok_eIsi, ok_eIsi2, ok_eTyC, ok_eCall, ok_eCallK, ok_oNo, ok_oAt, ok_eSl, ok_iOf, ok_iOfT, ok_iRg1, oks_sNx, oks_sSeq, oks_sSet, oks_sOwn, oks_sDrop, oks_sRet, oks_sIf, oks_sAsg, oks_sPar, oks_sFor, ok_runD, ok_some, oks_some, startE, eV, setsE, Tg.parts, fAdd_int, fAdd_lst, fAdd_tup, fSub_int, fMul_int, fDiv_int, fMod_int, fPow_int, fLt_int, fLe_int, fGt_int, fGe_int, fNeg_int, fIx_lst, fIx_tup, fLen_lst, fLen_tup, fAbs_int, fInt1_int, fInt1_bl, fGcd_int, fTuple_lst, fTuple_tup, fList_lst, fList_tup, fTru_bl, fTru_lst, fTru_tup, fIsB_bl, atI_0, atI_1, ty_int, ty_bl, ty_lst, ty_tup, ty_str, ty_non, List.map_cons, List.map_nil, List.length_cons, List.length_nil, List.replicate, List.cons_append, List.nil_append, List.getElem?_cons_zero, List.getElem?_cons_succ, List.set_cons_zero, List.set_cons_succ, List.zip_cons_cons, List.zip_nil_right, List.zip_nil_left, Option.some.injEq, exists_eq_left', exists_eq_left, Nat.reduceAdd, Nat.reduceSub, Nat.reduceEqDiff, PyData.bool.injEq, PyData.int.injEq, PyData.list.injEq, PyData.tuple.injEq, if_true, if_false, reduceIte, true_and, and_true, decide_true, decide_false, Bool.false_eq_true])
  simp only [cmul_bd hr.1 (den_bd hs) (by omega), cmul_bd hs.1 (den_bd hr) (by omega), cmul_bd (den_bd hr) (den_bd hs) (by omega), if_true]
  (try simp only [fEq_int, fNe_int, ok_eK, ok_lNil, ok_lCons, ok_e2, ok_e1, ok_eF, ok_eTup, ok_nLst, ok_eN, ok_mB, ok_mTru, ok_mNot, ok_mAnd, ok_mOr, ok_eAnd, ok_eOr, ok_eNot, ok_eIf, ok_eIsi, ok_eIsi2, ok_eTyC, ok_eCall, ok_eCallK, ok_oNo, ok_oAt, ok_eSl, ok_iOf, ok_iOfT, ok_iRg1, oks_sNx, oks_sSeq, oks_sSet, oks_sOwn, oks_sDrop, oks_sRet, oks_sIf, oks_sAsg, oks_sPar, oks_sFor, ok_runD, ok_some, oks_some, startE, eV, setsE, Tg.parts, fAdd_int, fAdd_lst, fAdd_tup, fSub_int, fMul_int, fDiv_int, fMod_int, fPow_int, fLt_int, fLe_int, fGt_int, fGe_int, fNeg_int, fIx_lst, fIx_tup, fLen_lst, fLen_tup, fAbs_int, fInt1_int, fInt1_bl, fGcd_int, fTuple_lst, fTuple_tup, fList_lst, fList_tup, fTru_bl, fTru_lst, fTru_tup, fIsB_bl, atI_0, atI_1, ty_int, ty_bl, ty_lst, ty_tup, ty_str, ty_non, List.map_cons, List.map_nil, List.length_cons, List.length_nil, List.replicate, List.cons_append, List.nil_append, List.getElem?_cons_zero, List.getElem?_cons_succ, List.set_cons_zero, List.set_cons_succ, List.zip_cons_cons, List.zip_nil_right, List.zip_nil_left, Option.some.injEq, exists_eq_left', exists_eq_left, Nat.reduceAdd, Nat.reduceSub, Nat.reduceEqDiff, PyData.bool.injEq, PyData.int.injEq, PyData.list.injEq, PyData.tuple.injEq, if_true, if_false, reduceIte, true_and, and_true, decide_true, decide_false, Bool.false_eq_true])
  rw [ok_eq (reduced_ok (den_mul_ne r s) (bd9 (mul_bd (den_bd hr) (den_bd hs)) (by omega)) g), add_div]
  exact ⟨rfl, rfl⟩
theorem minus_ok (g : G) : Fminus [fr r, fr s] g = some (fr (r - s), g) := by
  refine Ok.eq ?_
  unfold Fminus mminus
  (try simp only [fEq_int, fNe_int, ok_eK, ok_lNil, ok_lCons, ok_e2, ok_e1, ok_eF, ok_eTup, ok_nLst, ok_eN, ok_mB, ok_mTru, ok_mNot, ok_mAnd, ok_mOr, ok_eAnd, ok_eOr, ok_eNot, ok_eIf, ok_eIsi, ok_eIsi2, ok_eTyC, ok_eCall, ok_eCallK, ok_oNo, ok_oAt, ok_eSl, ok_iOf, ok_iOfT, ok_iRg1, oks_sNx, oks_sSeq, oks_sSet, oks_sOwn, oks_sDrop, oks_sRet, oks_sIf, oks_sAsg, oks_sPar, oks_sFor, ok_runD, ok_some, oks_some, startE, eV, setsE, Tg.parts, fAdd_int, fAdd_lst, fAdd_tup, fSub_int, fMul_int, fDiv_int, fMod_int, fPow_int, fLt_int, fLe_int, fGt_int, fGe_int, fNeg_int, fIx_lst, fIx_tup, fLen_lst, fLen_tup, fAbs_int, fInt1_int, fInt1_bl, fGcd_int, fTuple_lst, fTuple_tup, fList_lst, fList_tup, fTru_bl, fTru_lst, fTru_tup, fIsB_bl, atI_0, atI_1, ty_int, ty_bl, ty_lst, ty_tup, ty_str, ty_non, List.map_cons, List.map_nil, List.length_cons, List.length_nil, List.replicate, List.cons_append, List.nil_append, List.getElem?_cons_zero, List.getElem?_cons_succ, List.set_cons_zero, List.set_cons_succ, List.zip_cons_cons, List.zip_nil_right, List.zip_nil_left, Option.some.injEq, exists_eq_left', exists_eq_left, Nat.reduceAdd, Nat.reduceSub, Nat.reduceEqDiff, PyData.bool.injEq, PyData.int.injEq, PyData.list.injEq, PyData.tuple.injEq, if_true, if_false, reduceIte, true_and, and_true, decide_true, decide_false, Bool.false_eq_true])
  rw [ok_eq (check_ok r s g)]
  simp only [fr]
  (try simp only [fEq_int, fNe_int, ok_eK, ok_lNil, ok_lCons, ok_e2, ok_e1, ok_eF, ok_eTup, ok_nLst, ok_eN, ok_mB, ok_mTru, ok_mNot, ok_mAnd, ok_mOr, ok_eAnd, ok_eOr, ok_eNot, ok_eIf, ok_eIsi, ok_eIsi2, ok_eTyC, ok_eCall, ok_eCallK, ok_oNo, ok_oAt, ok_eSl, ok_iOf, ok_iOfT, ok_iRg1, oks_sNx, oks_sSeq, oks_sSet, oks_sOwn, oks_sDrop, oks_sRet, oks_sIf, oks_sAsg, oks_sPar, oks_sFor, ok_runD, ok_some, oks_some, startE, eV, setsE, Tg.parts, fAdd_int, fAdd_lst, fAdd_tup, fSub_int, fMul_int, fDiv_int, fMod_int, fPow_int, fLt_int, fLe_int, fGt_int, fGe_int, fNeg_int, fIx_lst, fIx_tup, fLen_lst, fLen_tup, fAbs_int, fInt1_int, fInt1_bl, fGcd_int, fTuple_lst, fTuple_tup, fList_lst, fList_tup, fTru_bl, fTru_lst, fTru_tup, fIsB_bl, atI_0, atI_1, ty_int, ty_bl, ty_lst, ty_tup, ty_str, ty_non, List.map_cons, List.map_nil, List.length_cons, List.length_nil, List.replicate, List.cons_append, List.nil_append, List.getElem?_cons_zero, List.getElem?_cons_succ, List.set_cons_zero, List.set_cons_succ, List.zip_cons_cons, List.zip_nil_right, List.zip_nil_left, Option.some.injEq, exists_eq_left', exists_eq_left, Nat.reduceAdd, Nat.reduceSub, Nat.reduceEqDiff, PyData.bool.injEq, PyData.int.injEq, PyData.list.injEq, PyData.tuple.injEq, if_true, if_false, reduceIte, true_and, and_true, decide_true, decide_false, Bool.false_eq_true])
  simp only [cmul_bd hr.1 (den_bd hs) (by omega), cmul_bd hs.1 (den_bd hr) (by omega), cmul_bd (den_bd hr) (den_bd hs) (by omega), if_true]
  (try simp only [fEq_int, fNe_int, ok_eK, ok_lNil, ok_lCons, ok_e2, ok_e1, ok_eF, ok_eTup, ok_nLst, ok_eN, ok_mB, ok_mTru, ok_mNot, ok_mAnd, ok_mOr, ok_eAnd, ok_eOr, ok_eNot, ok_eIf, ok_eIsi, ok_eIsi2, ok_eTyC, ok_eCall, ok_eCallK, ok_oNo, ok_oAt, ok_eSl, ok_iOf, ok_iOfT, ok_iRg1, oks_sNx, oks_sSeq, oks_sSet, oks_sOwn, oks_sDrop, oks_sRet, oks_sIf, oks_sAsg, oks_sPar, oks_sFor, ok_runD, ok_some, oks_some, startE, eV, setsE, Tg.parts, fAdd_int, fAdd_lst, fAdd_tup, fSub_int, fMul_int, fDiv_int, fMod_int, fPow_int, fLt_int, fLe_int, fGt_int, fGe_int, fNeg_int, fIx_lst, fIx_tup, fLen_lst, fLen_tup, fAbs_int, fInt1_int, fInt1_bl, fGcd_int, fTuple_lst, fTuple_tup, fList_lst, fList_tup, fTru_bl, fTru_lst, fTru_tup, fIsB_bl, atI_0, atI_1, ty_int, ty_bl, ty_lst, ty_tup, ty_str, ty_non, List.map_cons, List.map_nil, List.length_cons, List.length_nil, List.replicate, List.cons_append, List.nil_append, List.getElem?_cons_zero, List.getElem?_cons_succ, List.set_cons_zero, List.set_cons_succ, List.zip_cons_cons, List.zip_nil_right, List.zip_nil_left, Option.some.injEq, exists_eq_left', exists_eq_left, Nat.reduceAdd, Nat.reduceSub, Nat.reduceEqDiff, PyData.bool.injEq, PyData.int.injEq, PyData.list.injEq, PyData.tuple.injEq, if_true, if_false, reduceIte, true_and, and_true, decide_true, decide_false, Bool.false_eq_true])
  rw [ok_eq (reduced_ok (den_mul_ne r s) (bd9 (mul_bd (den_bd hr) (den_bd hs)) (by omega)) g), sub_div]
  exact ⟨rfl, rfl⟩
theorem times_ok (g : G) : Ftimes [fr r, fr s] g = some (fr (r * s), g) := by
  refine Ok.eq ?_
  unfold Ftimes mtimes
  (try simp only [fEq_int, fNe_int, ok_eK, ok_lNil, ok_lCons, ok_e2, ok_e1, ok_eF, ok_eTup, ok_nLst, ok_eN, ok_mB, ok_mTru, ok_mNot, ok_mAnd, ok_mOr, ok_eAnd, ok_eOr, ok_eNot, ok_eIf, ok_eIsi, ok_eIsi2, ok_eTyC, ok_eCall, ok_eCallK, ok_oNo, ok_oAt, ok_eSl, ok_iOf, ok_iOfT, ok_iRg1, oks_sNx, oks_sSeq, oks_sSet, oks_sOwn, oks_sDrop, oks_sRet, oks_sIf, oks_sAsg, oks_sPar, oks_sFor, ok_runD, ok_some, oks_some, startE, eV, setsE, Tg.parts, fAdd_int, fAdd_lst, fAdd_tup, fSub_int, fMul_int, fDiv_int, fMod_int, fPow_int, fLt_int, fLe_int, fGt_int, fGe_int, fNeg_int, fIx_lst, fIx_tup, fLen_lst, fLen_tup, fAbs_int, fInt1_int, fInt1_bl, fGcd_int, fTuple_lst, fTuple_tup, fList_lst, fList_tup, fTru_bl, fTru_lst, fTru_tup, fIsB_bl, atI_0, atI_1, ty_int, ty_bl, ty_lst, ty_tup, ty_str, ty_non, List.map_cons, List.map_nil, List.length_cons, List.length_nil, List.replicate, List.cons_append, List.nil_append, List.getElem?_cons_zero, List.getElem?_cons_succ, List.set_cons_zero, List.set_cons_succ, List.zip_cons_cons, List.zip_nil_right, List.zip_nil_left, Option.some.injEq, exists_eq_left', exists_eq_left, Nat.reduceAdd, Nat.reduceSub, Nat.reduceEqDiff, PyData.bool.injEq, PyData.int.injEq, PyData.list.injEq, PyData.tuple.injEq, if_true, if_false, reduceIte, true_and, and_true, decide_true, decide_false, Bool.false_eq_true])
  rw [ok_eq (check_ok r s g)]
  simp only [fr]
  (try simp only [fEq_int, fNe_int, ok_eK, ok_lNil, ok_lCons, ok_e2, ok_e1, ok_eF, ok_eTup, ok_nLst, ok_eN, ok_mB, ok_mTru, ok_mNot, ok_mAnd, ok_mOr, ok_eAnd, ok_eOr, ok_eNot, ok_eIf, ok_eIsi, ok_eIsi2, ok_eTyC, ok_eCall, ok_eCallK, ok_oNo, ok_oAt, ok_eSl, ok_iOf, ok_iOfT, ok_iRg1, oks_sNx, oks_sSeq, oks_sSet, oks_sOwn, oks_sDrop, oks_sRet, oks_sIf, oks_sAsg, oks_sPar, oks_sFor, ok_runD, ok_some, oks_some, startE, eV, setsE, Tg.parts, fAdd_int, fAdd_lst, fAdd_tup, fSub_int, fMul_int, fDiv_int, fMod_int, fPow_int, fLt_int, fLe_int, fGt_int, fGe_int, fNeg_int, fIx_lst, fIx_tup, fLen_lst, fLen_tup, fAbs_int, fInt1_int, fInt1_bl, fGcd_int, fTuple_lst, fTuple_tup, fList_lst, fList_tup, fTru_bl, fTru_lst, fTru_tup, fIsB_bl, atI_0, atI_1, ty_int, ty_bl, ty_lst, ty_tup, ty_str, ty_non, List.map_cons, List.map_nil, List.length_cons, List.length_nil, List.replicate, List.cons_append, List.nil_append, List.getElem?_cons_zero, List.getElem?_cons_succ, List.set_cons_zero, List.set_cons_succ, List.zip_cons_cons, List.zip_nil_right, List.zip_nil_left, Option.some.injEq, exists_eq_left', exists_eq_left, Nat.reduceAdd, Nat.reduceSub, Nat.reduceEqDiff, PyData.bool.injEq, PyData.int.injEq, PyData.list.injEq, PyData.tuple.injEq, if_true, if_false, reduceIte, true_and, and_true, decide_true, decide_false, Bool.false_eq_true])
  simp only [cmul_bd hr.1 hs.1 (by omega), cmul_bd (den_bd hr) (den_bd hs) (by omega), if_true]
  (try simp only [fEq_int, fNe_int, ok_eK, ok_lNil, ok_lCons, ok_e2, ok_e1, ok_eF, ok_eTup, ok_nLst, ok_eN, ok_mB, ok_mTru, ok_mNot, ok_mAnd, ok_mOr, ok_eAnd, ok_eOr, ok_eNot, ok_eIf, ok_eIsi, ok_eIsi2, ok_eTyC, ok_eCall, ok_eCallK, ok_oNo, ok_oAt, ok_eSl, ok_iOf, ok_iOfT, ok_iRg1, oks_sNx, oks_sSeq, oks_sSet, oks_sOwn, oks_sDrop, oks_sRet, oks_sIf, oks_sAsg, oks_sPar, oks_sFor, ok_runD, ok_some, oks_some, startE, eV, setsE, Tg.parts, fAdd_int, fAdd_lst, fAdd_tup, fSub_int, fMul_int, fDiv_int, fMod_int, fPow_int, fLt_int, fLe_int, fGt_int, fGe_int, fNeg_int, fIx_lst, fIx_tup, fLen_lst, fLen_tup, fAbs_int, fInt1_int, fInt1_bl, fGcd_int, fTuple_lst, fTuple_tup, fList_lst, fList_tup, fTru_bl, fTru_lst, fTru_tup, fIsB_bl, atI_0, atI_1, ty_int, ty_bl, ty_lst, ty_tup, ty_str, ty_non, List.map_cons, List.map_nil, List.length_cons, List.length_nil, List.replicate, List.cons_append, List.nil_append, List.getElem?_cons_zero, List.getElem?_cons_succ, List.set_cons_zero, List.set_cons_succ, List.zip_cons_cons, List.zip_nil_right, List.zip_nil_left, Option.some.injEq, exists_eq_left', exists_eq_left, Nat.reduceAdd, Nat.reduceSub, Nat.reduceEqDiff, PyData.bool.injEq, PyData.int.injEq, PyData.list.injEq, PyData.tuple.injEq, if_true, if_false, reduceIte, true_and, and_true, decide_true, decide_false, Bool.false_eq_true])
  rw [ok_eq (reduced_ok (den_mul_ne r s) (bd9 (mul_bd (den_bd hr) (den_bd hs)) (by omega)) g), mul_div]
  exact ⟨rfl, rfl⟩
theorem over_ok (h : s ≠ 0) (g : G) : Fover [fr r, fr s] g = some (fr (r / s), g) := by
  refine Ok.eq ?_
  unfold Fover mover
  (try simp only [fEq_int, fNe_int, ok_eK, ok_lNil, ok_lCons, ok_e2, ok_e1, ok_eF, ok_eTup, ok_nLst, ok_eN, ok_mB, ok_mTru, ok_mNot, ok_mAnd, ok_mOr, ok_eAnd, ok_eOr, ok_eNot, ok_eIf, ok_eIsi, ok_eIsi2, ok_eTyC, ok_eCall, ok_eCallK, ok_oNo, ok_oAt, ok_eSl, ok_iOf, ok_iOfT, ok_iRg1, oks_sNx, oks_sSeq, oks_sSet, oks_sOwn, oks_sDrop, oks_sRet, oks_sIf, oks_sAsg, oks_sPar, oks_sFor, ok_runD, ok_some, oks_some, startE, eV, setsE, Tg.parts, fAdd_int, fAdd_lst, fAdd_tup, fSub_int, fMul_int, fDiv_int, fMod_int, fPow_int, fLt_int, fLe_int, fGt_int, fGe_int, fNeg_int, fIx_lst, fIx_tup, fLen_lst, fLen_tup, fAbs_int, fInt1_int, fInt1_bl, fGcd_int, fTuple_lst, fTuple_tup, fList_lst, fList_tup, fTru_bl, fTru_lst, fTru_tup, fIsB_bl, atI_0, atI_1, ty_int, ty_bl, ty_lst, ty_tup, ty_str, ty_non, List.map_cons, List.map_nil, List.length_cons, List.length_nil, List.replicate, List.cons_append, List.nil_append, List.getElem?_cons_zero, List.getElem?_cons_succ, List.set_cons_zero, List.set_cons_succ, List.zip_cons_cons, List.zip_nil_right, List.zip_nil_left, Option.some.injEq, exists_eq_left', exists_eq_left, Nat.reduceAdd, Nat.reduceSub, Nat.reduceEqDiff, PyData.bool.injEq, PyData.int.injEq, PyData.list.injEq, PyData.tuple.injEq, if_true, if_false, reduceIte, true_and, and_true, decide_true, decide_false, Bool.false_eq_true])
  rw [ok_eq (check_ok r s g)]
  simp only [fr]
  (try simp only [fEq_int, fNe_int, ok_eK, ok_lNil, ok_lCons, ok_e2, ok_e1, ok_eF, ok_eTup, ok_nLst, ok_eN, ok_mB, ok_mTru, ok_mNot, ok_mAnd, ok_mOr, ok_eAnd, ok_eOr, ok_eNot, ok_eIf, ok_eIsi, ok_eIsi2, ok_eTyC, ok_eCall, ok_eCallK, ok_oNo, ok_oAt, ok_eSl, ok_iOf, ok_iOfT, ok_iRg1, oks_sNx, oks_sSeq, oks_sSet, oks_sOwn, oks_sDrop, oks_sRet, oks_sIf, oks_sAsg, oks_sPar, oks_sFor, ok_runD, ok_some, oks_some, startE, eV, setsE, Tg.parts, fAdd_int, fAdd_lst, fAdd_tup, fSub_int, fMul_int, fDiv_int, fMod_int, fPow_int, fLt_int, fLe_int, fGt_int, fGe_int, fNeg_int, fIx_lst, fIx_tup, fLen_lst, fLen_tup, fAbs_int, fInt1_int, fInt1_bl, fGcd_int, fTuple_lst, fTuple_tup, fList_lst, fList_tup, fTru_bl, fTru_lst, fTru_tup, fIsB_bl, atI_0, atI_1, ty_int, ty_bl, ty_lst, ty_tup, ty_str, ty_non, List.map_cons, List.map_nil, List.length_cons, List.length_nil, List.replicate, List.cons_append, List.nil_append, List.getElem?_cons_zero, List.getElem?_cons_succ, List.set_cons_zero, List.set_cons_succ, List.zip_cons_cons, List.zip_nil_right, List.zip_nil_left, Option.some.injEq, exists_eq_left', exists_eq_left, Nat.reduceAdd, Nat.reduceSub, Nat.reduceEqDiff, PyData.bool.injEq, PyData.int.injEq, PyData.list.injEq, PyData.tuple.injEq, if_true, if_false, reduceIte, true_and, and_true, decide_true, decide_false, Bool.false_eq_true])
  simp only [num_ne h, cmul_bd hr.1 (den_bd hs) (by omega), cmul_bd (den_bd hr) hs.1 (by omega), if_true, decide_false, Bool.false_eq_true, if_false]
  (try simp only [fEq_int, fNe_int, ok_eK, ok_lNil, ok_lCons, ok_e2, ok_e1, ok_eF, ok_eTup, ok_nLst, ok_eN, ok_mB, ok_mTru, ok_mNot, ok_mAnd, ok_mOr, ok_eAnd, ok_eOr, ok_eNot, ok_eIf, ok_eIsi, ok_eIsi2, ok_eTyC, ok_eCall, ok_eCallK, ok_oNo, ok_oAt, ok_eSl, ok_iOf, ok_iOfT, ok_iRg1, oks_sNx, oks_sSeq, oks_sSet, oks_sOwn, oks_sDrop, oks_sRet, oks_sIf, oks_sAsg, oks_sPar, oks_sFor, ok_runD, ok_some, oks_some, startE, eV, setsE, Tg.parts, fAdd_int, fAdd_lst, fAdd_tup, fSub_int, fMul_int, fDiv_int, fMod_int, fPow_int, fLt_int, fLe_int, fGt_int, fGe_int, fNeg_int, fIx_lst, fIx_tup, fLen_lst, fLen_tup, fAbs_int, fInt1_int, fInt1_bl, fGcd_int, fTuple_lst, fTuple_tup, fList_lst, fList_tup, fTru_bl, fTru_lst, fTru_tup, fIsB_bl, atI_0, atI_1, ty_int, ty_bl, ty_lst, ty_tup, ty_str, ty_non, List.map_cons, List.map_nil, List.length_cons, List.length_nil, List.replicate, List.cons_append, List.nil_append, List.getElem?_cons_zero, List.getElem?_cons_succ, List.set_cons_zero, List.set_cons_succ, List.zip_cons_cons, List.zip_nil_right, List.zip_nil_left, Option.some.injEq, exists_eq_left', exists_eq_left, Nat.reduceAdd, Nat.reduceSub, Nat.reduceEqDiff, PyData.bool.injEq, PyData.int.injEq, PyData.list.injEq, PyData.tuple.injEq, if_true, if_false, reduceIte, true_and, and_true, decide_true, decide_false, Bool.false_eq_true])
  rw [ok_eq (reduced_ok (Int.mul_ne_zero (den_ne r) (num_ne h)) (bd9 (mul_bd (den_bd hr) hs.1) (by omega)) g), over_div r s h]
  exact ⟨rfl, rfl⟩
theorem below_ok (g : G) : Fbelow [fr r, fr s] g = some (.bool (decide (r < s)), g) := by
  refine Ok.eq ?_
  unfold Fbelow mbelow
  (try simp only [fEq_int, fNe_int, ok_eK, ok_lNil, ok_lCons, ok_e2, ok_e1, ok_eF, ok_eTup, ok_nLst, ok_eN, ok_mB, ok_mTru, ok_mNot, ok_mAnd, ok_mOr, ok_eAnd, ok_eOr, ok_eNot, ok_eIf, ok_eIsi, ok_eIsi2, ok_eTyC, ok_eCall, ok_eCallK, ok_oNo, ok_oAt, ok_eSl, ok_iOf, ok_iOfT, ok_iRg1, oks_sNx, oks_sSeq, oks_sSet, oks_sOwn, oks_sDrop, oks_sRet, oks_sIf, oks_sAsg, oks_sPar, oks_sFor, ok_runD, ok_some, oks_some, startE, eV, setsE, Tg.parts, fAdd_int, fAdd_lst, fAdd_tup, fSub_int, fMul_int, fDiv_int, fMod_int, fPow_int, fLt_int, fLe_int, fGt_int, fGe_int, fNeg_int, fIx_lst, fIx_tup, fLen_lst, fLen_tup, fAbs_int, fInt1_int, fInt1_bl, fGcd_int, fTuple_lst, fTuple_tup, fList_lst, fList_tup, fTru_bl, fTru_lst, fTru_tup, fIsB_bl, atI_0, atI_1, ty_int, ty_bl, ty_lst, ty_tup, ty_str, ty_non, List.map_cons, List.map_nil, List.length_cons, List.length_nil, List.replicate, List.cons_append, List.nil_append, List.getElem?_cons_zero, List.getElem?_cons_succ, List.set_cons_zero, List.set_cons_succ, List.zip_cons_cons, List.zip_nil_right, List.zip_nil_left, Option.some.injEq, exists_eq_left', exists_eq_left, Nat.reduceAdd, Nat.reduceSub, Nat.reduceEqDiff, PyData.bool.injEq, PyData.int.injEq, PyData.list.injEq, PyData.tuple.injEq, if_true, if_false, reduceIte, true_and, and_true, decide_true, decide_false, Bool.false_eq_true])
  rw [ok_eq (check_ok r s g)]
  simp only [fr]
  (try simp only [fEq_int, fNe_int, ok_eK, ok_lNil, ok_lCons, ok_e2, ok_e1, ok_eF, ok_eTup, ok_nLst, ok_eN, ok_mB, ok_mTru, ok_mNot, ok_mAnd, ok_mOr, ok_eAnd, ok_eOr, ok_eNot, ok_eIf, ok_eIsi, ok_eIsi2, ok_eTyC, ok_eCall, ok_eCallK, ok_oNo, ok_oAt, ok_eSl, ok_iOf, ok_iOfT, ok_iRg1, oks_sNx, oks_sSeq, oks_sSet, oks_sOwn, oks_sDrop, oks_sRet, oks_sIf, oks_sAsg, oks_sPar, oks_sFor, ok_runD, ok_some, oks_some, startE, eV, setsE, Tg.parts, fAdd_int, fAdd_lst, fAdd_tup, fSub_int, fMul_int, fDiv_int, fMod_int, fPow_int, fLt_int, fLe_int, fGt_int, fGe_int, fNeg_int, fIx_lst, fIx_tup, fLen_lst, fLen_tup, fAbs_int, fInt1_int, fInt1_bl, fGcd_int, fTuple_lst, fTuple_tup, fList_lst, fList_tup, fTru_bl, fTru_lst, fTru_tup, fIsB_bl, atI_0, atI_1, ty_int, ty_bl, ty_lst, ty_tup, ty_str, ty_non, List.map_cons, List.map_nil, List.length_cons, List.length_nil, List.replicate, List.cons_append, List.nil_append, List.getElem?_cons_zero, List.getElem?_cons_succ, List.set_cons_zero, List.set_cons_succ, List.zip_cons_cons, List.zip_nil_right, List.zip_nil_left, Option.some.injEq, exists_eq_left', exists_eq_left, Nat.reduceAdd, Nat.reduceSub, Nat.reduceEqDiff, PyData.bool.injEq, PyData.int.injEq, PyData.list.injEq, PyData.tuple.injEq, if_true, if_false, reduceIte, true_and, and_true, decide_true, decide_false, Bool.false_eq_true])
  simp only [cmul_bd hr.1 (den_bd hs) (by omega), cmul_bd hs.1 (den_bd hr) (by omega), if_true]
  (try simp only [fEq_int, fNe_int, ok_eK, ok_lNil, ok_lCons, ok_e2, ok_e1, ok_eF, ok_eTup, ok_nLst, ok_eN, ok_mB, ok_mTru, ok_mNot, ok_mAnd, ok_mOr, ok_eAnd, ok_eOr, ok_eNot, ok_eIf, ok_eIsi, ok_eIsi2, ok_eTyC, ok_eCall, ok_eCallK, ok_oNo, ok_oAt, ok_eSl, ok_iOf, ok_iOfT, ok_iRg1, oks_sNx, oks_sSeq, oks_sSet, oks_sOwn, oks_sDrop, oks_sRet, oks_sIf, oks_sAsg, oks_sPar, oks_sFor, ok_runD, ok_some, oks_some, startE, eV, setsE, Tg.parts, fAdd_int, fAdd_lst, fAdd_tup, fSub_int, fMul_int, fDiv_int, fMod_int, fPow_int, fLt_int, fLe_int, fGt_int, fGe_int, fNeg_int, fIx_lst, fIx_tup, fLen_lst, fLen_tup, fAbs_int, fInt1_int, fInt1_bl, fGcd_int, fTuple_lst, fTuple_tup, fList_lst, fList_tup, fTru_bl, fTru_lst, fTru_tup, fIsB_bl, atI_0, atI_1, ty_int, ty_bl, ty_lst, ty_tup, ty_str, ty_non, List.map_cons, List.map_nil, List.length_cons, List.length_nil, List.replicate, List.cons_append, List.nil_append, List.getElem?_cons_zero, List.getElem?_cons_succ, List.set_cons_zero, List.set_cons_succ, List.zip_cons_cons, List.zip_nil_right, List.zip_nil_left, Option.some.injEq, exists_eq_left', exists_eq_left, Nat.reduceAdd, Nat.reduceSub, Nat.reduceEqDiff, PyData.bool.injEq, PyData.int.injEq, PyData.list.injEq, PyData.tuple.injEq, if_true, if_false, reduceIte, true_and, and_true, decide_true, decide_false, Bool.false_eq_true])
  simp [Rat.lt_iff]
theorem lplus_ok (g : G) : F_law_plus [fr r, fr s] g = some (fr (r + s), g) := by
  refine Ok.eq ?_
  unfold F_law_plus m_law_plus
  simp only [fr]
  (try simp only [fEq_int, fNe_int, ok_eK, ok_lNil, ok_lCons, ok_e2, ok_e1, ok_eF, ok_eTup, ok_nLst, ok_eN, ok_mB, ok_mTru, ok_mNot, ok_mAnd, ok_mOr, ok_eAnd, ok_eOr, ok_eNot, ok_eIf, ok_eIsi, ok_eIsi2, ok_eTyC, ok_eCall, ok_eCallK, ok_oNo, ok_oAt, ok_eSl, ok_iOf, ok_iOfT, ok_iRg1, oks_sNx, oks_sSeq, oks_sSet, oks_sOwn, oks_sDrop, oks_sRet, oks_sIf, oks_sAsg, oks_sPar, oks_sFor, ok_runD, ok_some, oks_some, startE, eV, setsE, Tg.parts, fAdd_int, fAdd_lst, fAdd_tup, fSub_int, fMul_int, fDiv_int, fMod_int, fPow_int, fLt_int, fLe_int, fGt_int, fGe_int, fNeg_int, fIx_lst, fIx_tup, fLen_lst, fLen_tup, fAbs_int, fInt1_int, fInt1_bl, fGcd_int, fTuple_lst, fTuple_tup, fList_lst, fList_tup, fTru_bl, fTru_lst, fTru_tup, fIsB_bl, atI_0, atI_1, ty_int, ty_bl, ty_lst, ty_tup, ty_str, ty_non, List.map_cons, List.map_nil, List.length_cons, List.length_nil, List.replicate, List.cons_append, List.nil_append, List.getElem?_cons_zero, List.getElem?_cons_succ, List.set_cons_zero, List.set_cons_succ, List.zip_cons_cons, List.zip_nil_right, List.zip_nil_left, Option.some.injEq, exists_eq_left', exists_eq_left, Nat.reduceAdd, Nat.reduceSub, Nat.reduceEqDiff, PyData.bool.injEq, PyData.int.injEq, PyData.list.injEq, PyData.tuple.injEq, if_true, if_false, reduceIte, true_and, and_true, decide_true, decide_false, Bool.false_eq_true])
  simp only [cmul_bd hr.1 (den_bd hs) (by omega), cmul_bd hs.1 (den_bd hr) (by omega), cmul_bd (den_bd hr) (den_bd hs) (by omega), if_true]
  (try simp only [fEq_int, fNe_int, ok_eK, ok_lNil, ok_lCons, ok_e2, ok_e1, ok_eF, ok_eTup, ok_nLst, ok_eN, ok_mB, ok_mTru, ok_mNot, ok_mAnd, ok_mOr, ok_eAnd, ok_eOr, ok_eNot, ok_eIf, ok_eIsi, ok_eIsi2, ok_eTyC, ok_eCall, ok_eCallK, ok_oNo, ok_oAt, ok_eSl, ok_iOf, ok_iOfT, ok_iRg1, oks_sNx, oks_sSeq, oks_sSet, oks_sOwn, oks_sDrop, oks_sRet, oks_sIf, oks_sAsg, oks_sPar, oks_sFor, ok_runD, ok_some, oks_some, startE, eV, setsE, Tg.parts, fAdd_int, fAdd_lst, fAdd_tup, fSub_int, fMul_int, fDiv_int, fMod_int, fPow_int, fLt_int, fLe_int, fGt_int, fGe_int, fNeg_int, fIx_lst, fIx_tup, fLen_lst, fLen_tup, fAbs_int, fInt1_int, fInt1_bl, fGcd_int, fTuple_lst, fTuple_tup, fList_lst, fList_tup, fTru_bl, fTru_lst, fTru_tup, fIsB_bl, atI_0, atI_1, ty_int, ty_bl, ty_lst, ty_tup, ty_str, ty_non, List.map_cons, List.map_nil, List.length_cons, List.length_nil, List.replicate, List.cons_append, List.nil_append, List.getElem?_cons_zero, List.getElem?_cons_succ, List.set_cons_zero, List.set_cons_succ, List.zip_cons_cons, List.zip_nil_right, List.zip_nil_left, Option.some.injEq, exists_eq_left', exists_eq_left, Nat.reduceAdd, Nat.reduceSub, Nat.reduceEqDiff, PyData.bool.injEq, PyData.int.injEq, PyData.list.injEq, PyData.tuple.injEq, if_true, if_false, reduceIte, true_and, and_true, decide_true, decide_false, Bool.false_eq_true])
  rw [ok_eq (low_ok (den_mul_ne r s) (bd9 (mul_bd (den_bd hr) (den_bd hs)) (by omega)) g), add_div]
  exact ⟨rfl, rfl⟩
end
theorem lplus2 {m n : Nat} {r s : Rat} (hr : Sz m r) (hs : Sz n s) (h : m + n ≤ 9000) (g : G) : F_law_plus [fr r, fr s] g = some (fr (r + s), g) := by
  refine Ok.eq ?_
  unfold F_law_plus m_law_plus
  simp only [fr]
  (try simp only [fEq_int, fNe_int, ok_eK, ok_lNil, ok_lCons, ok_e2, ok_e1, ok_eF, ok_eTup, ok_nLst, ok_eN, ok_mB, ok_mTru, ok_mNot, ok_mAnd, ok_mOr, ok_eAnd, ok_eOr, ok_eNot, ok_eIf, ok_eIsi, ok_eIsi2, ok_eTyC, ok_eCall, ok_eCallK, ok_oNo, ok_oAt, ok_eSl, ok_iOf, ok_iOfT, ok_iRg1, oks_sNx, oks_sSeq, oks_sSet, oks_sOwn, oks_sDrop, oks_sRet, oks_sIf, oks_sAsg, oks_sPar, oks_sFor, ok_runD, ok_some, oks_some, startE, eV, setsE, Tg.parts, fAdd_int, fAdd_lst, fAdd_tup, fSub_int, fMul_int, fDiv_int, fMod_int, fPow_int, fLt_int, fLe_int, fGt_int, fGe_int, fNeg_int, fIx_lst, fIx_tup, fLen_lst, fLen_tup, fAbs_int, fInt1_int, fInt1_bl, fGcd_int, fTuple_lst, fTuple_tup, fList_lst, fList_tup, fTru_bl, fTru_lst, fTru_tup, fIsB_bl, atI_0, atI_1, ty_int, ty_bl, ty_lst, ty_tup, ty_str, ty_non, List.map_cons, List.map_nil, List.length_cons, List.length_nil, List.replicate, List.cons_append, List.nil_append, List.getElem?_cons_zero, List.getElem?_cons_succ, List.set_cons_zero, List.set_cons_succ, List.zip_cons_cons, List.zip_nil_right, List.zip_nil_left, Option.some.injEq, exists_eq_left', exists_eq_left, Nat.reduceAdd, Nat.reduceSub, Nat.reduceEqDiff, PyData.bool.injEq, PyData.int.injEq, PyData.list.injEq, PyData.tuple.injEq, if_true, if_false, reduceIte, true_and, and_true, decide_true, decide_false, Bool.false_eq_true])
  simp only [cmul_bd hr.1 (den_bd hs) (by omega), cmul_bd hs.1 (den_bd hr) (by omega), cmul_bd (den_bd hr) (den_bd hs) (by omega), if_true]
  (try simp only [fEq_int, fNe_int, ok_eK, ok_lNil, ok_lCons, ok_e2, ok_e1, ok_eF, ok_eTup, ok_nLst, ok_eN, ok_mB, ok_mTru, ok_mNot, ok_mAnd, ok_mOr, ok_eAnd, ok_eOr, ok_eNot, ok_eIf, ok_eIsi, ok_eIsi2, ok_eTyC, ok_eCall, ok_eCallK, ok_oNo, ok_oAt, ok_eSl, ok_iOf, ok_iOfT, ok_iRg1, oks_sNx, oks_sSeq, oks_sSet, oks_sOwn, oks_sDrop, oks_sRet, oks_sIf, oks_sAsg, oks_sPar, oks_sFor, ok_runD, ok_some, oks_some, startE, eV, setsE, Tg.parts, fAdd_int, fAdd_lst, fAdd_tup, fSub_int, fMul_int, fDiv_int, fMod_int, fPow_int, fLt_int, fLe_int, fGt_int, fGe_int, fNeg_int, fIx_lst, fIx_tup, fLen_lst, fLen_tup, fAbs_int, fInt1_int, fInt1_bl, fGcd_int, fTuple_lst, fTuple_tup, fList_lst, fList_tup, fTru_bl, fTru_lst, fTru_tup, fIsB_bl, atI_0, atI_1, ty_int, ty_bl, ty_lst, ty_tup, ty_str, ty_non, List.map_cons, List.map_nil, List.length_cons, List.length_nil, List.replicate, List.cons_append, List.nil_append, List.getElem?_cons_zero, List.getElem?_cons_succ, List.set_cons_zero, List.set_cons_succ, List.zip_cons_cons, List.zip_nil_right, List.zip_nil_left, Option.some.injEq, exists_eq_left', exists_eq_left, Nat.reduceAdd, Nat.reduceSub, Nat.reduceEqDiff, PyData.bool.injEq, PyData.int.injEq, PyData.list.injEq, PyData.tuple.injEq, if_true, if_false, reduceIte, true_and, and_true, decide_true, decide_false, Bool.false_eq_true])
  rw [ok_eq (low_ok (den_mul_ne r s) (bd9 (mul_bd (den_bd hr) (den_bd hs)) (by omega)) g), add_div]
  exact ⟨rfl, rfl⟩
theorem fraction_ok {t b : Int} (hb : b ≠ 0) (h : b.natAbs < 2 ^ 9000) (g : G) : Ffraction [.int t, .int b] g = some (fr (Rat.divInt t b), g) := by
  refine Ok.eq ?_
  unfold Ffraction mfraction
  (try simp only [fEq_int, fNe_int, ok_eK, ok_lNil, ok_lCons, ok_e2, ok_e1, ok_eF, ok_eTup, ok_nLst, ok_eN, ok_mB, ok_mTru, ok_mNot, ok_mAnd, ok_mOr, ok_eAnd, ok_eOr, ok_eNot, ok_eIf, ok_eIsi, ok_eIsi2, ok_eTyC, ok_eCall, ok_eCallK, ok_oNo, ok_oAt, ok_eSl, ok_iOf, ok_iOfT, ok_iRg1, oks_sNx, oks_sSeq, oks_sSet, oks_sOwn, oks_sDrop, oks_sRet, oks_sIf, oks_sAsg, oks_sPar, oks_sFor, ok_runD, ok_some, oks_some, startE, eV, setsE, Tg.parts, fAdd_int, fAdd_lst, fAdd_tup, fSub_int, fMul_int, fDiv_int, fMod_int, fPow_int, fLt_int, fLe_int, fGt_int, fGe_int, fNeg_int, fIx_lst, fIx_tup, fLen_lst, fLen_tup, fAbs_int, fInt1_int, fInt1_bl, fGcd_int, fTuple_lst, fTuple_tup, fList_lst, fList_tup, fTru_bl, fTru_lst, fTru_tup, fIsB_bl, atI_0, atI_1, ty_int, ty_bl, ty_lst, ty_tup, ty_str, ty_non, List.map_cons, List.map_nil, List.length_cons, List.length_nil, List.replicate, List.cons_append, List.nil_append, List.getElem?_cons_zero, List.getElem?_cons_succ, List.set_cons_zero, List.set_cons_succ, List.zip_cons_cons, List.zip_nil_right, List.zip_nil_left, Option.some.injEq, exists_eq_left', exists_eq_left, Nat.reduceAdd, Nat.reduceSub, Nat.reduceEqDiff, PyData.bool.injEq, PyData.int.injEq, PyData.list.injEq, PyData.tuple.injEq, if_true, if_false, reduceIte, true_and, and_true, decide_true, decide_false, Bool.false_eq_true])
  simp only [ok_eq (isint (d := .int b) (S := "int") rfl g), ok_eq (isint (d := .int t) (S := "int") rfl g)]
  (try simp only [fEq_int, fNe_int, ok_eK, ok_lNil, ok_lCons, ok_e2, ok_e1, ok_eF, ok_eTup, ok_nLst, ok_eN, ok_mB, ok_mTru, ok_mNot, ok_mAnd, ok_mOr, ok_eAnd, ok_eOr, ok_eNot, ok_eIf, ok_eIsi, ok_eIsi2, ok_eTyC, ok_eCall, ok_eCallK, ok_oNo, ok_oAt, ok_eSl, ok_iOf, ok_iOfT, ok_iRg1, oks_sNx, oks_sSeq, oks_sSet, oks_sOwn, oks_sDrop, oks_sRet, oks_sIf, oks_sAsg, oks_sPar, oks_sFor, ok_runD, ok_some, oks_some, startE, eV, setsE, Tg.parts, fAdd_int, fAdd_lst, fAdd_tup, fSub_int, fMul_int, fDiv_int, fMod_int, fPow_int, fLt_int, fLe_int, fGt_int, fGe_int, fNeg_int, fIx_lst, fIx_tup, fLen_lst, fLen_tup, fAbs_int, fInt1_int, fInt1_bl, fGcd_int, fTuple_lst, fTuple_tup, fList_lst, fList_tup, fTru_bl, fTru_lst, fTru_tup, fIsB_bl, atI_0, atI_1, ty_int, ty_bl, ty_lst, ty_tup, ty_str, ty_non, List.map_cons, List.map_nil, List.length_cons, List.length_nil, List.replicate, List.cons_append, List.nil_append, List.getElem?_cons_zero, List.getElem?_cons_succ, List.set_cons_zero, List.set_cons_succ, List.zip_cons_cons, List.zip_nil_right, List.zip_nil_left, Option.some.injEq, exists_eq_left', exists_eq_left, Nat.reduceAdd, Nat.reduceSub, Nat.reduceEqDiff, PyData.bool.injEq, PyData.int.injEq, PyData.list.injEq, PyData.tuple.injEq, if_true, if_false, reduceIte, true_and, and_true, decide_true, decide_false, Bool.false_eq_true])
  simp only [Bool.not_true, Bool.false_eq_true, if_false, hb, decide_false]
  (try simp only [fEq_int, fNe_int, ok_eK, ok_lNil, ok_lCons, ok_e2, ok_e1, ok_eF, ok_eTup, ok_nLst, ok_eN, ok_mB, ok_mTru, ok_mNot, ok_mAnd, ok_mOr, ok_eAnd, ok_eOr, ok_eNot, ok_eIf, ok_eIsi, ok_eIsi2, ok_eTyC, ok_eCall, ok_eCallK, ok_oNo, ok_oAt, ok_eSl, ok_iOf, ok_iOfT, ok_iRg1, oks_sNx, oks_sSeq, oks_sSet, oks_sOwn, oks_sDrop, oks_sRet, oks_sIf, oks_sAsg, oks_sPar, oks_sFor, ok_runD, ok_some, oks_some, startE, eV, setsE, Tg.parts, fAdd_int, fAdd_lst, fAdd_tup, fSub_int, fMul_int, fDiv_int, fMod_int, fPow_int, fLt_int, fLe_int, fGt_int, fGe_int, fNeg_int, fIx_lst, fIx_tup, fLen_lst, fLen_tup, fAbs_int, fInt1_int, fInt1_bl, fGcd_int, fTuple_lst, fTuple_tup, fList_lst, fList_tup, fTru_bl, fTru_lst, fTru_tup, fIsB_bl, atI_0, atI_1, ty_int, ty_bl, ty_lst, ty_tup, ty_str, ty_non, List.map_cons, List.map_nil, List.length_cons, List.length_nil, List.replicate, List.cons_append, List.nil_append, List.getElem?_cons_zero, List.getElem?_cons_succ, List.set_cons_zero, List.set_cons_succ, List.zip_cons_cons, List.zip_nil_right, List.zip_nil_left, Option.some.injEq, exists_eq_left', exists_eq_left, Nat.reduceAdd, Nat.reduceSub, Nat.reduceEqDiff, PyData.bool.injEq, PyData.int.injEq, PyData.list.injEq, PyData.tuple.injEq, if_true, if_false, reduceIte, true_and, and_true, decide_true, decide_false, Bool.false_eq_true])
  rw [ok_eq (reduced_ok hb h g)]
  exact ⟨rfl, rfl⟩
end K01

set_option Elab.async false
set_option linter.all false
set_option maxRecDepth 100000
set_option maxHeartbeats 2000000
namespace K01
open PySem PySem.Spec PyProof.Rows L2 DL
theorem fr_eq {r s : Rat} : (r.num = s.num ∧ (r.den : Int) = s.den) ↔ r = s := ⟨fun ⟨h1, h2⟩ => Rat.ext h1 (by omega), fun h => by rw [h]; exact ⟨rfl, rfl⟩⟩
theorem eqv_pair {a b c d : Int} : PyData.eqv (.tuple [.int a, .int b]) (.tuple [.int c, .int d]) = (decide (a = c) && decide (b = d)) := by
  by_cases h : a = c <;> by_cases h2 : b = d <;> simp [PyData.eqv, PyData.eqvAll, h, h2]
theorem shaped_pair {a b : Int} : SeqAt.shaped (.tuple [.int a, .int b]) = true := by rfl
theorem fEq_pair {a b c d : Int} : fEq (.tuple [.int a, .int b]) (.tuple [.int c, .int d]) = some (.bool (decide (a = c) && decide (b = d))) := by
  unfold fEq
  rw [shaped_pair, shaped_pair, eqv_pair]
  rfl
theorem eqv_fr {r s : Rat} : PyData.eqv (fr r) (fr s) = decide (r = s) := by
  unfold fr
  rw [eqv_pair]
  by_cases h : r = s
  · subst h; simp
  · have := fun z => h (fr_eq.mp z)
    simp only [h, decide_false]
    by_cases h1 : r.num = s.num
    · have h2 : ¬ (r.den : Int) = s.den := fun z => this ⟨h1, z⟩
      simp only [h1, h2, decide_false, Bool.and_false]
    · simp only [h1, decide_false, Bool.false_and]
theorem fEq_fr {r s : Rat} : fEq (fr r) (fr s) = some (.bool (decide (r = s))) := by
  unfold fEq
  rw [eqv_fr]
  rfl
theorem fNe_fr {r s : Rat} : fNe (fr r) (fr s) = some (.bool (!decide (r = s))) := by
  unfold fNe
  rw [eqv_fr]
  rfl
theorem fEq_bl {b c : Bool} : fEq (.bool b) (.bool c) = some (.bool (b == c)) := by cases b <;> cases c <;> rfl
/-! alike -/
def knd (a b c d e f : Bool) : D := .list [.bool a, .bool b, .bool c, .bool d, .bool e, .bool f]
theorem kinds_int (i : Int) (g : G) : F_law_kinds [.int i] g = some (knd false true false false false false, g) := by
  refine Ok.eq ?_
  unfold F_law_kinds m_law_kinds
  (try simp only [fEq_int, fNe_int, ok_eK, ok_lNil, ok_lCons, ok_e2, ok_e1, ok_eF, ok_eTup, ok_nLst, ok_eN, ok_mB, ok_mTru, ok_mNot, ok_mAnd, ok_mOr, ok_eAnd, ok_eOr, ok_eNot, ok_eIf, ok_eIsi, ok_eIsi2, ok_eTyC, ok_eCall, ok_eCallK, ok_oNo, ok_oAt, ok_eSl, ok_iOf, ok_iOfT, ok_iRg1, oks_sNx, oks_sSeq, oks_sSet, oks_sOwn, oks_sDrop, oks_sRet, oks_sIf, oks_sAsg, oks_sPar, oks_sFor, ok_runD, ok_some, oks_some, startE, eV, setsE, Tg.parts, fAdd_int, fAdd_lst, fAdd_tup, fSub_int, fMul_int, fDiv_int, fMod_int, fPow_int, fLt_int, fLe_int, fGt_int, fGe_int, fNeg_int, fIx_lst, fIx_tup, fLen_lst, fLen_tup, fAbs_int, fInt1_int, fInt1_bl, fGcd_int, fTuple_lst, fTuple_tup, fList_lst, fList_tup, fTru_bl, fTru_lst, fTru_tup, fIsB_bl, atI_0, atI_1, ty_int, ty_bl, ty_lst, ty_tup, ty_str, ty_non, List.map_cons, List.map_nil, List.length_cons, List.length_nil, List.replicate, List.cons_append, List.nil_append, List.getElem?_cons_zero, List.getElem?_cons_succ, List.set_cons_zero, List.set_cons_succ, List.zip_cons_cons, List.zip_nil_right, List.zip_nil_left, Option.some.injEq, exists_eq_left', exists_eq_left, Nat.reduceAdd, Nat.reduceSub, Nat.reduceEqDiff, PyData.bool.injEq, PyData.int.injEq, PyData.list.injEq, PyData.tuple.injEq, if_true, if_false, reduceIte, true_and, and_true, decide_true, decide_false, Bool.false_eq_true])
  have h3 : 3 ≤ sizeLine := by decide
  have h6 : 3 + 3 ≤ sizeLine := by decide
  simp only [fIsN, knd, isT, h3, h6]
  simp
  try decide
theorem kinds_bl (i : Bool) (g : G) : F_law_kinds [.bool i] g = some (knd true true false false false false, g) := by
  refine Ok.eq ?_
  unfold F_law_kinds m_law_kinds
  (try simp only [fEq_int, fNe_int, ok_eK, ok_lNil, ok_lCons, ok_e2, ok_e1, ok_eF, ok_eTup, ok_nLst, ok_eN, ok_mB, ok_mTru, ok_mNot, ok_mAnd, ok_mOr, ok_eAnd, ok_eOr, ok_eNot, ok_eIf, ok_eIsi, ok_eIsi2, ok_eTyC, ok_eCall, ok_eCallK, ok_oNo, ok_oAt, ok_eSl, ok_iOf, ok_iOfT, ok_iRg1, oks_sNx, oks_sSeq, oks_sSet, oks_sOwn, oks_sDrop, oks_sRet, oks_sIf, oks_sAsg, oks_sPar, oks_sFor, ok_runD, ok_some, oks_some, startE, eV, setsE, Tg.parts, fAdd_int, fAdd_lst, fAdd_tup, fSub_int, fMul_int, fDiv_int, fMod_int, fPow_int, fLt_int, fLe_int, fGt_int, fGe_int, fNeg_int, fIx_lst, fIx_tup, fLen_lst, fLen_tup, fAbs_int, fInt1_int, fInt1_bl, fGcd_int, fTuple_lst, fTuple_tup, fList_lst, fList_tup, fTru_bl, fTru_lst, fTru_tup, fIsB_bl, atI_0, atI_1, ty_int, ty_bl, ty_lst, ty_tup, ty_str, ty_non, List.map_cons, List.map_nil, List.length_cons, List.length_nil, List.replicate, List.cons_append, List.nil_append, List.getElem?_cons_zero, List.getElem?_cons_succ, List.set_cons_zero, List.set_cons_succ, List.zip_cons_cons, List.zip_nil_right, List.zip_nil_left, Option.some.injEq, exists_eq_left', exists_eq_left, Nat.reduceAdd, Nat.reduceSub, Nat.reduceEqDiff, PyData.bool.injEq, PyData.int.injEq, PyData.list.injEq, PyData.tuple.injEq, if_true, if_false, reduceIte, true_and, and_true, decide_true, decide_false, Bool.false_eq_true])
  have h3 : 3 ≤ sizeLine := by decide
  have h6 : 3 + 3 ≤ sizeLine := by decide
  simp only [fIsN, knd, isT, h3, h6]
  simp
  try decide
theorem kinds_tup (i : List D) (g : G) : F_law_kinds [.tuple i] g = some (knd false false false true false false, g) := by
  refine Ok.eq ?_
  unfold F_law_kinds m_law_kinds
  (try simp only [fEq_int, fNe_int, ok_eK, ok_lNil, ok_lCons, ok_e2, ok_e1, ok_eF, ok_eTup, ok_nLst, ok_eN, ok_mB, ok_mTru, ok_mNot, ok_mAnd, ok_mOr, ok_eAnd, ok_eOr, ok_eNot, ok_eIf, ok_eIsi, ok_eIsi2, ok_eTyC, ok_eCall, ok_eCallK, ok_oNo, ok_oAt, ok_eSl, ok_iOf, ok_iOfT, ok_iRg1, oks_sNx, oks_sSeq, oks_sSet, oks_sOwn, oks_sDrop, oks_sRet, oks_sIf, oks_sAsg, oks_sPar, oks_sFor, ok_runD, ok_some, oks_some, startE, eV, setsE, Tg.parts, fAdd_int, fAdd_lst, fAdd_tup, fSub_int, fMul_int, fDiv_int, fMod_int, fPow_int, fLt_int, fLe_int, fGt_int, fGe_int, fNeg_int, fIx_lst, fIx_tup, fLen_lst, fLen_tup, fAbs_int, fInt1_int, fInt1_bl, fGcd_int, fTuple_lst, fTuple_tup, fList_lst, fList_tup, fTru_bl, fTru_lst, fTru_tup, fIsB_bl, atI_0, atI_1, ty_int, ty_bl, ty_lst, ty_tup, ty_str, ty_non, List.map_cons, List.map_nil, List.length_cons, List.length_nil, List.replicate, List.cons_append, List.nil_append, List.getElem?_cons_zero, List.getElem?_cons_succ, List.set_cons_zero, List.set_cons_succ, List.zip_cons_cons, List.zip_nil_right, List.zip_nil_left, Option.some.injEq, exists_eq_left', exists_eq_left, Nat.reduceAdd, Nat.reduceSub, Nat.reduceEqDiff, PyData.bool.injEq, PyData.int.injEq, PyData.list.injEq, PyData.tuple.injEq, if_true, if_false, reduceIte, true_and, and_true, decide_true, decide_false, Bool.false_eq_true])
  have h3 : 3 ≤ sizeLine := by decide
  have h6 : 3 + 3 ≤ sizeLine := by decide
  simp only [fIsN, knd, isT, h3, h6]
  simp
  try decide
theorem kinds_lst (i : List D) (g : G) : F_law_kinds [.list i] g = some (knd false false false false true false, g) := by
  refine Ok.eq ?_
  unfold F_law_kinds m_law_kinds
  (try simp only [fEq_int, fNe_int, ok_eK, ok_lNil, ok_lCons, ok_e2, ok_e1, ok_eF, ok_eTup, ok_nLst, ok_eN, ok_mB, ok_mTru, ok_mNot, ok_mAnd, ok_mOr, ok_eAnd, ok_eOr, ok_eNot, ok_eIf, ok_eIsi, ok_eIsi2, ok_eTyC, ok_eCall, ok_eCallK, ok_oNo, ok_oAt, ok_eSl, ok_iOf, ok_iOfT, ok_iRg1, oks_sNx, oks_sSeq, oks_sSet, oks_sOwn, oks_sDrop, oks_sRet, oks_sIf, oks_sAsg, oks_sPar, oks_sFor, ok_runD, ok_some, oks_some, startE, eV, setsE, Tg.parts, fAdd_int, fAdd_lst, fAdd_tup, fSub_int, fMul_int, fDiv_int, fMod_int, fPow_int, fLt_int, fLe_int, fGt_int, fGe_int, fNeg_int, fIx_lst, fIx_tup, fLen_lst, fLen_tup, fAbs_int, fInt1_int, fInt1_bl, fGcd_int, fTuple_lst, fTuple_tup, fList_lst, fList_tup, fTru_bl, fTru_lst, fTru_tup, fIsB_bl, atI_0, atI_1, ty_int, ty_bl, ty_lst, ty_tup, ty_str, ty_non, List.map_cons, List.map_nil, List.length_cons, List.length_nil, List.replicate, List.cons_append, List.nil_append, List.getElem?_cons_zero, List.getElem?_cons_succ, List.set_cons_zero, List.set_cons_succ, List.zip_cons_cons, List.zip_nil_right, List.zip_nil_left, Option.some.injEq, exists_eq_left', exists_eq_left, Nat.reduceAdd, Nat.reduceSub, Nat.reduceEqDiff, PyData.bool.injEq, PyData.int.injEq, PyData.list.injEq, PyData.tuple.injEq, if_true, if_false, reduceIte, true_and, and_true, decide_true, decide_false, Bool.false_eq_true])
  have h3 : 3 ≤ sizeLine := by decide
  have h6 : 3 + 3 ≤ sizeLine := by decide
  simp only [fIsN, knd, isT, h3, h6]
  simp
  try decide
theorem fNe_knd {a b c d e f : Bool} : fNe (knd a b c d e f) (knd a b c d e f) = some (.bool false) := by
  cases a <;> cases b <;> cases c <;> cases d <;> cases e <;> cases f <;> rfl
theorem alike_int (n : Nat) (i : Int) (g : G) : F_law_alike (n + 1) [.int i, .int i] g = some (.bool true, g) := by
  refine Ok.eq ?_
  show Ok (runD 3 (m_law_alike (F_law_alike n)) _ g) _
  unfold m_law_alike
  (try simp only [fEq_int, fNe_int, ok_eK, ok_lNil, ok_lCons, ok_e2, ok_e1, ok_eF, ok_eTup, ok_nLst, ok_eN, ok_mB, ok_mTru, ok_mNot, ok_mAnd, ok_mOr, ok_eAnd, ok_eOr, ok_eNot, ok_eIf, ok_eIsi, ok_eIsi2, ok_eTyC, ok_eCall, ok_eCallK, ok_oNo, ok_oAt, ok_eSl, ok_iOf, ok_iOfT, ok_iRg1, oks_sNx, oks_sSeq, oks_sSet, oks_sOwn, oks_sDrop, oks_sRet, oks_sIf, oks_sAsg, oks_sPar, oks_sFor, ok_runD, ok_some, oks_some, startE, eV, setsE, Tg.parts, fAdd_int, fAdd_lst, fAdd_tup, fSub_int, fMul_int, fDiv_int, fMod_int, fPow_int, fLt_int, fLe_int, fGt_int, fGe_int, fNeg_int, fIx_lst, fIx_tup, fLen_lst, fLen_tup, fAbs_int, fInt1_int, fInt1_bl, fGcd_int, fTuple_lst, fTuple_tup, fList_lst, fList_tup, fTru_bl, fTru_lst, fTru_tup, fIsB_bl, atI_0, atI_1, ty_int, ty_bl, ty_lst, ty_tup, ty_str, ty_non, List.map_cons, List.map_nil, List.length_cons, List.length_nil, List.replicate, List.cons_append, List.nil_append, List.getElem?_cons_zero, List.getElem?_cons_succ, List.set_cons_zero, List.set_cons_succ, List.zip_cons_cons, List.zip_nil_right, List.zip_nil_left, Option.some.injEq, exists_eq_left', exists_eq_left, Nat.reduceAdd, Nat.reduceSub, Nat.reduceEqDiff, PyData.bool.injEq, PyData.int.injEq, PyData.list.injEq, PyData.tuple.injEq, if_true, if_false, reduceIte, true_and, and_true, decide_true, decide_false, Bool.false_eq_true])
  rw [ok_eq (kinds_int i g)]
  (try simp only [fEq_int, fNe_int, ok_eK, ok_lNil, ok_lCons, ok_e2, ok_e1, ok_eF, ok_eTup, ok_nLst, ok_eN, ok_mB, ok_mTru, ok_mNot, ok_mAnd, ok_mOr, ok_eAnd, ok_eOr, ok_eNot, ok_eIf, ok_eIsi, ok_eIsi2, ok_eTyC, ok_eCall, ok_eCallK, ok_oNo, ok_oAt, ok_eSl, ok_iOf, ok_iOfT, ok_iRg1, oks_sNx, oks_sSeq, oks_sSet, oks_sOwn, oks_sDrop, oks_sRet, oks_sIf, oks_sAsg, oks_sPar, oks_sFor, ok_runD, ok_some, oks_some, startE, eV, setsE, Tg.parts, fAdd_int, fAdd_lst, fAdd_tup, fSub_int, fMul_int, fDiv_int, fMod_int, fPow_int, fLt_int, fLe_int, fGt_int, fGe_int, fNeg_int, fIx_lst, fIx_tup, fLen_lst, fLen_tup, fAbs_int, fInt1_int, fInt1_bl, fGcd_int, fTuple_lst, fTuple_tup, fList_lst, fList_tup, fTru_bl, fTru_lst, fTru_tup, fIsB_bl, atI_0, atI_1, ty_int, ty_bl, ty_lst, ty_tup, ty_str, ty_non, List.map_cons, List.map_nil, List.length_cons, List.length_nil, List.replicate, List.cons_append, List.nil_append, List.getElem?_cons_zero, List.getElem?_cons_succ, List.set_cons_zero, List.set_cons_succ, List.zip_cons_cons, List.zip_nil_right, List.zip_nil_left, Option.some.injEq, exists_eq_left', exists_eq_left, Nat.reduceAdd, Nat.reduceSub, Nat.reduceEqDiff, PyData.bool.injEq, PyData.int.injEq, PyData.list.injEq, PyData.tuple.injEq, if_true, if_false, reduceIte, true_and, and_true, decide_true, decide_false, Bool.false_eq_true])
  rw [ok_eq (kinds_int i g)]
  rw [fNe_knd]
  (try simp only [fEq_int, fNe_int, ok_eK, ok_lNil, ok_lCons, ok_e2, ok_e1, ok_eF, ok_eTup, ok_nLst, ok_eN, ok_mB, ok_mTru, ok_mNot, ok_mAnd, ok_mOr, ok_eAnd, ok_eOr, ok_eNot, ok_eIf, ok_eIsi, ok_eIsi2, ok_eTyC, ok_eCall, ok_eCallK, ok_oNo, ok_oAt, ok_eSl, ok_iOf, ok_iOfT, ok_iRg1, oks_sNx, oks_sSeq, oks_sSet, oks_sOwn, oks_sDrop, oks_sRet, oks_sIf, oks_sAsg, oks_sPar, oks_sFor, ok_runD, ok_some, oks_some, startE, eV, setsE, Tg.parts, fAdd_int, fAdd_lst, fAdd_tup, fSub_int, fMul_int, fDiv_int, fMod_int, fPow_int, fLt_int, fLe_int, fGt_int, fGe_int, fNeg_int, fIx_lst, fIx_tup, fLen_lst, fLen_tup, fAbs_int, fInt1_int, fInt1_bl, fGcd_int, fTuple_lst, fTuple_tup, fList_lst, fList_tup, fTru_bl, fTru_lst, fTru_tup, fIsB_bl, atI_0, atI_1, ty_int, ty_bl, ty_lst, ty_tup, ty_str, ty_non, List.map_cons, List.map_nil, List.length_cons, List.length_nil, List.replicate, List.cons_append, List.nil_append, List.getElem?_cons_zero, List.getElem?_cons_succ, List.set_cons_zero, List.set_cons_succ, List.zip_cons_cons, List.zip_nil_right, List.zip_nil_left, Option.some.injEq, exists_eq_left', exists_eq_left, Nat.reduceAdd, Nat.reduceSub, Nat.reduceEqDiff, PyData.bool.injEq, PyData.int.injEq, PyData.list.injEq, PyData.tuple.injEq, if_true, if_false, reduceIte, true_and, and_true, decide_true, decide_false, Bool.false_eq_true])
  simp [isT]
theorem alike_bl (n : Nat) (i : Bool) (g : G) : F_law_alike (n + 1) [.bool i, .bool i] g = some (.bool true, g) := by
  refine Ok.eq ?_
  show Ok (runD 3 (m_law_alike (F_law_alike n)) _ g) _
  unfold m_law_alike
  (try simp only [fEq_int, fNe_int, ok_eK, ok_lNil, ok_lCons, ok_e2, ok_e1, ok_eF, ok_eTup, ok_nLst, ok_eN, ok_mB, ok_mTru, ok_mNot, ok_mAnd, ok_mOr, ok_eAnd, ok_eOr, ok_eNot, ok_eIf, ok_eIsi, ok_eIsi2, ok_eTyC, ok_eCall, ok_eCallK, ok_oNo, ok_oAt, ok_eSl, ok_iOf, ok_iOfT, ok_iRg1, oks_sNx, oks_sSeq, oks_sSet, oks_sOwn, oks_sDrop, oks_sRet, oks_sIf, oks_sAsg, oks_sPar, oks_sFor, ok_runD, ok_some, oks_some, startE, eV, setsE, Tg.parts, fAdd_int, fAdd_lst, fAdd_tup, fSub_int, fMul_int, fDiv_int, fMod_int, fPow_int, fLt_int, fLe_int, fGt_int, fGe_int, fNeg_int, fIx_lst, fIx_tup, fLen_lst, fLen_tup, fAbs_int, fInt1_int, fInt1_bl, fGcd_int, fTuple_lst, fTuple_tup, fList_lst, fList_tup, fTru_bl, fTru_lst, fTru_tup, fIsB_bl, atI_0, atI_1, ty_int, ty_bl, ty_lst, ty_tup, ty_str, ty_non, List.map_cons, List.map_nil, List.length_cons, List.length_nil, List.replicate, List.cons_append, List.nil_append, List.getElem?_cons_zero, List.getElem?_cons_succ, List.set_cons_zero, List.set_cons_succ, List.zip_cons_cons, List.zip_nil_right, List.zip_nil_left, Option.some.injEq, exists_eq_left', exists_eq_left, Nat.reduceAdd, Nat.reduceSub, Nat.reduceEqDiff, PyData.bool.injEq, PyData.int.injEq, PyData.list.injEq, PyData.tuple.injEq, if_true, if_false, reduceIte, true_and, and_true, decide_true, decide_false, Bool.false_eq_true])
  rw [ok_eq (kinds_bl i g)]
  (try simp only [fEq_int, fNe_int, ok_eK, ok_lNil, ok_lCons, ok_e2, ok_e1, ok_eF, ok_eTup, ok_nLst, ok_eN, ok_mB, ok_mTru, ok_mNot, ok_mAnd, ok_mOr, ok_eAnd, ok_eOr, ok_eNot, ok_eIf, ok_eIsi, ok_eIsi2, ok_eTyC, ok_eCall, ok_eCallK, ok_oNo, ok_oAt, ok_eSl, ok_iOf, ok_iOfT, ok_iRg1, oks_sNx, oks_sSeq, oks_sSet, oks_sOwn, oks_sDrop, oks_sRet, oks_sIf, oks_sAsg, oks_sPar, oks_sFor, ok_runD, ok_some, oks_some, startE, eV, setsE, Tg.parts, fAdd_int, fAdd_lst, fAdd_tup, fSub_int, fMul_int, fDiv_int, fMod_int, fPow_int, fLt_int, fLe_int, fGt_int, fGe_int, fNeg_int, fIx_lst, fIx_tup, fLen_lst, fLen_tup, fAbs_int, fInt1_int, fInt1_bl, fGcd_int, fTuple_lst, fTuple_tup, fList_lst, fList_tup, fTru_bl, fTru_lst, fTru_tup, fIsB_bl, atI_0, atI_1, ty_int, ty_bl, ty_lst, ty_tup, ty_str, ty_non, List.map_cons, List.map_nil, List.length_cons, List.length_nil, List.replicate, List.cons_append, List.nil_append, List.getElem?_cons_zero, List.getElem?_cons_succ, List.set_cons_zero, List.set_cons_succ, List.zip_cons_cons, List.zip_nil_right, List.zip_nil_left, Option.some.injEq, exists_eq_left', exists_eq_left, Nat.reduceAdd, Nat.reduceSub, Nat.reduceEqDiff, PyData.bool.injEq, PyData.int.injEq, PyData.list.injEq, PyData.tuple.injEq, if_true, if_false, reduceIte, true_and, and_true, decide_true, decide_false, Bool.false_eq_true])
  rw [ok_eq (kinds_bl i g)]
  rw [fNe_knd]
  (try simp only [fEq_int, fNe_int, ok_eK, ok_lNil, ok_lCons, ok_e2, ok_e1, ok_eF, ok_eTup, ok_nLst, ok_eN, ok_mB, ok_mTru, ok_mNot, ok_mAnd, ok_mOr, ok_eAnd, ok_eOr, ok_eNot, ok_eIf, ok_eIsi, ok_eIsi2, ok_eTyC, ok_eCall, ok_eCallK, ok_oNo, ok_oAt, ok_eSl, ok_iOf, ok_iOfT, ok_iRg1, oks_sNx, oks_sSeq, oks_sSet, oks_sOwn, oks_sDrop, oks_sRet, oks_sIf, oks_sAsg, oks_sPar, oks_sFor, ok_runD, ok_some, oks_some, startE, eV, setsE, Tg.parts, fAdd_int, fAdd_lst, fAdd_tup, fSub_int, fMul_int, fDiv_int, fMod_int, fPow_int, fLt_int, fLe_int, fGt_int, fGe_int, fNeg_int, fIx_lst, fIx_tup, fLen_lst, fLen_tup, fAbs_int, fInt1_int, fInt1_bl, fGcd_int, fTuple_lst, fTuple_tup, fList_lst, fList_tup, fTru_bl, fTru_lst, fTru_tup, fIsB_bl, atI_0, atI_1, ty_int, ty_bl, ty_lst, ty_tup, ty_str, ty_non, List.map_cons, List.map_nil, List.length_cons, List.length_nil, List.replicate, List.cons_append, List.nil_append, List.getElem?_cons_zero, List.getElem?_cons_succ, List.set_cons_zero, List.set_cons_succ, List.zip_cons_cons, List.zip_nil_right, List.zip_nil_left, Option.some.injEq, exists_eq_left', exists_eq_left, Nat.reduceAdd, Nat.reduceSub, Nat.reduceEqDiff, PyData.bool.injEq, PyData.int.injEq, PyData.list.injEq, PyData.tuple.injEq, if_true, if_false, reduceIte, true_and, and_true, decide_true, decide_false, Bool.false_eq_true])
  simp [isT, fEq_bl]
theorem bools_true {α : Type} : ∀ ds : List α, bools (ds.map fun _ => PyData.bool true) = some (ds.map fun _ => true)
  | [] => rfl
  | _ :: r => by
    show (bools (r.map fun _ => PyData.bool true)).map (true :: ·) = _
    rw [bools_true r]
    rfl
theorem fAll_true {α : Type} (ds : List α) : fAll [.list (ds.map fun _ => PyData.bool true)] = some (.bool true) := by
  show ((bools _).map fun bs => PyData.bool (bs.all id)) = _
  rw [bools_true]
  simp
theorem ok_nLc {tg : Tg} {ml : ML} {c : MT} {e : M} {vs : List Nat} {E : En} {g : G} {Q : List D → G → Prop} (h : (vs.any (isOwn E) || !(tg.slots.all fun i => vs.contains i)) = false) :
    Ok (nLc tg ml c e vs E g) Q ↔ Ok (ml E g) fun ds g1 => ds.length ≤ sizeLine ∧ Ok (lcL tg c e (wipeE E vs) ds g1) Q := by
  unfold nLc
  rw [h, if_neg (by decide)]
  cases ml E g with
  | none => simp only [ok_none]
  | some p =>
    obtain ⟨ds, g1⟩ := p
    simp only [ok_some]
    by_cases z : ds.length ≤ sizeLine
    · simp only [z, if_true, true_and]
    · simp only [z, if_false, false_and, ok_none]
theorem len_ints (lo : Int) (n : Nat) : (intsD lo n).length = n := by unfold intsD; simp
theorem mem_ints {n : Nat} {d : D} (h : d ∈ intsD 0 n) : ∃ i : Nat, i < n ∧ d = .int (i : Int) := by
  unfold intsD at h
  obtain ⟨i, hi, e⟩ := List.mem_map.mp h
  exact ⟨i, List.mem_range.mp hi, by rw [← e, Int.zero_add]⟩
theorem atI_nat {ds : List D} {i : Nat} (h : i < ds.length) : atI ds (i : Int) = some ds[i] := by
  unfold atI ixN
  rw [if_pos (by omega), if_pos (by omega)]
  simp [h]
theorem rg62 {n : Nat} (h : n ≤ 100) : -(2 ^ 62) ≤ (n : Int) ∧ (n : Int) < 2 ^ 62 := by
  have h1 : (0 : Int) ≤ 2 ^ 62 := by decide
  have h2 : (100 : Int) < 2 ^ 62 := by decide
  omega
/-- a list, a tuple, item by item -/
theorem alike_seq (mk : List D → D) (hmk : mk = PyData.list ∨ mk = PyData.tuple) {n : Nat} {ds : List D} (hl : ds.length ≤ 100) (h : ∀ d ∈ ds, ∀ g, F_law_alike n [d, d] g = some (.bool true, g)) (g : G) :
    F_law_alike (n + 1) [mk ds, mk ds] g = some (.bool true, g) := by
  refine Ok.eq ?_
  show Ok (runD 3 (m_law_alike (F_law_alike n)) _ g) _
  unfold m_law_alike
  have el : ∀ i : Nat, i < ds.length → ∀ E : En, E[0]? = some (.val (mk ds)) → E[1]? = some (.val (mk ds)) → E.length = 3 →
      (eCall (F_law_alike n) (lCons (e2 fIx (eV false 0) (eV false 2)) (lCons (e2 fIx (eV false 1) (eV false 2)) lNil))) (setsE [(2, .int (i : Int))] E) g = some (.bool true, g) := fun i hi E h0 h1 h3 => by
    refine Ok.eq ?_
    have e0 : (setsE [(2, PyData.int (i : Int))] E)[0]? = some (.val (mk ds)) := by simp [setsE, h0]
    have e1 : (setsE [(2, PyData.int (i : Int))] E)[1]? = some (.val (mk ds)) := by simp [setsE, h1]
    have e2 : (setsE [(2, PyData.int (i : Int))] E)[2]? = some (.val (.int (i : Int))) := by simp [setsE, h3]
    have fx : fIx (mk ds) (.int (i : Int)) = some ds[i] := by
      rcases hmk with rfl | rfl
      · exact atI_nat hi
      · exact atI_nat hi
    simp only [ok_eCall, ok_lCons, ok_e2, eV, e0, e1, e2, ok_some, ok_lNil, fx, Option.some.injEq, exists_eq_left']
    rw [ok_eq (h ds[i] (List.getElem_mem hi) g)]
    exact ⟨rfl, rfl⟩
  have hs : ds.length ≤ sizeLine := sz_ok hl
  rcases hmk with rfl | rfl
  · (try simp only [fEq_int, fNe_int, ok_eK, ok_lNil, ok_lCons, ok_e2, ok_e1, ok_eF, ok_eTup, ok_nLst, ok_eN, ok_mB, ok_mTru, ok_mNot, ok_mAnd, ok_mOr, ok_eAnd, ok_eOr, ok_eNot, ok_eIf, ok_eIsi, ok_eIsi2, ok_eTyC, ok_eCall, ok_eCallK, ok_oNo, ok_oAt, ok_eSl, ok_iOf, ok_iOfT, ok_iRg1, oks_sNx, oks_sSeq, oks_sSet, oks_sOwn, oks_sDrop, oks_sRet, oks_sIf, oks_sAsg, oks_sPar, oks_sFor, ok_runD, ok_some, oks_some, startE, eV, setsE, Tg.parts, fAdd_int, fAdd_lst, fAdd_tup, fSub_int, fMul_int, fDiv_int, fMod_int, fPow_int, fLt_int, fLe_int, fGt_int, fGe_int, fNeg_int, fIx_lst, fIx_tup, fLen_lst, fLen_tup, fAbs_int, fInt1_int, fInt1_bl, fGcd_int, fTuple_lst, fTuple_tup, fList_lst, fList_tup, fTru_bl, fTru_lst, fTru_tup, fIsB_bl, atI_0, atI_1, ty_int, ty_bl, ty_lst, ty_tup, ty_str, ty_non, List.map_cons, List.map_nil, List.length_cons, List.length_nil, List.replicate, List.cons_append, List.nil_append, List.getElem?_cons_zero, List.getElem?_cons_succ, List.set_cons_zero, List.set_cons_succ, List.zip_cons_cons, List.zip_nil_right, List.zip_nil_left, Option.some.injEq, exists_eq_left', exists_eq_left, Nat.reduceAdd, Nat.reduceSub, Nat.reduceEqDiff, PyData.bool.injEq, PyData.int.injEq, PyData.list.injEq, PyData.tuple.injEq, if_true, if_false, reduceIte, true_and, and_true, decide_true, decide_false, Bool.false_eq_true])
    rw [ok_eq (kinds_lst ds g)]
    (try simp only [fEq_int, fNe_int, ok_eK, ok_lNil, ok_lCons, ok_e2, ok_e1, ok_eF, ok_eTup, ok_nLst, ok_eN, ok_mB, ok_mTru, ok_mNot, ok_mAnd, ok_mOr, ok_eAnd, ok_eOr, ok_eNot, ok_eIf, ok_eIsi, ok_eIsi2, ok_eTyC, ok_eCall, ok_eCallK, ok_oNo, ok_oAt, ok_eSl, ok_iOf, ok_iOfT, ok_iRg1, oks_sNx, oks_sSeq, oks_sSet, oks_sOwn, oks_sDrop, oks_sRet, oks_sIf, oks_sAsg, oks_sPar, oks_sFor, ok_runD, ok_some, oks_some, startE, eV, setsE, Tg.parts, fAdd_int, fAdd_lst, fAdd_tup, fSub_int, fMul_int, fDiv_int, fMod_int, fPow_int, fLt_int, fLe_int, fGt_int, fGe_int, fNeg_int, fIx_lst, fIx_tup, fLen_lst, fLen_tup, fAbs_int, fInt1_int, fInt1_bl, fGcd_int, fTuple_lst, fTuple_tup, fList_lst, fList_tup, fTru_bl, fTru_lst, fTru_tup, fIsB_bl, atI_0, atI_1, ty_int, ty_bl, ty_lst, ty_tup, ty_str, ty_non, List.map_cons, List.map_nil, List.length_cons, List.length_nil, List.replicate, List.cons_append, List.nil_append, List.getElem?_cons_zero, List.getElem?_cons_succ, List.set_cons_zero, List.set_cons_succ, List.zip_cons_cons, List.zip_nil_right, List.zip_nil_left, Option.some.injEq, exists_eq_left', exists_eq_left, Nat.reduceAdd, Nat.reduceSub, Nat.reduceEqDiff, PyData.bool.injEq, PyData.int.injEq, PyData.list.injEq, PyData.tuple.injEq, if_true, if_false, reduceIte, true_and, and_true, decide_true, decide_false, Bool.false_eq_true])
    rw [ok_eq (kinds_lst ds g)]
    rw [fNe_knd]
    (try simp only [fEq_int, fNe_int, ok_eK, ok_lNil, ok_lCons, ok_e2, ok_e1, ok_eF, ok_eTup, ok_nLst, ok_eN, ok_mB, ok_mTru, ok_mNot, ok_mAnd, ok_mOr, ok_eAnd, ok_eOr, ok_eNot, ok_eIf, ok_eIsi, ok_eIsi2, ok_eTyC, ok_eCall, ok_eCallK, ok_oNo, ok_oAt, ok_eSl, ok_iOf, ok_iOfT, ok_iRg1, oks_sNx, oks_sSeq, oks_sSet, oks_sOwn, oks_sDrop, oks_sRet, oks_sIf, oks_sAsg, oks_sPar, oks_sFor, ok_runD, ok_some, oks_some, startE, eV, setsE, Tg.parts, fAdd_int, fAdd_lst, fAdd_tup, fSub_int, fMul_int, fDiv_int, fMod_int, fPow_int, fLt_int, fLe_int, fGt_int, fGe_int, fNeg_int, fIx_lst, fIx_tup, fLen_lst, fLen_tup, fAbs_int, fInt1_int, fInt1_bl, fGcd_int, fTuple_lst, fTuple_tup, fList_lst, fList_tup, fTru_bl, fTru_lst, fTru_tup, fIsB_bl, atI_0, atI_1, ty_int, ty_bl, ty_lst, ty_tup, ty_str, ty_non, List.map_cons, List.map_nil, List.length_cons, List.length_nil, List.replicate, List.cons_append, List.nil_append, List.getElem?_cons_zero, List.getElem?_cons_succ, List.set_cons_zero, List.set_cons_succ, List.zip_cons_cons, List.zip_nil_right, List.zip_nil_left, Option.some.injEq, exists_eq_left', exists_eq_left, Nat.reduceAdd, Nat.reduceSub, Nat.reduceEqDiff, PyData.bool.injEq, PyData.int.injEq, PyData.list.injEq, PyData.tuple.injEq, if_true, if_false, reduceIte, true_and, and_true, decide_true, decide_false, Bool.false_eq_true])
    rw [if_pos (by decide)]
    (try simp only [fEq_int, fNe_int, ok_eK, ok_lNil, ok_lCons, ok_e2, ok_e1, ok_eF, ok_eTup, ok_nLst, ok_eN, ok_mB, ok_mTru, ok_mNot, ok_mAnd, ok_mOr, ok_eAnd, ok_eOr, ok_eNot, ok_eIf, ok_eIsi, ok_eIsi2, ok_eTyC, ok_eCall, ok_eCallK, ok_oNo, ok_oAt, ok_eSl, ok_iOf, ok_iOfT, ok_iRg1, oks_sNx, oks_sSeq, oks_sSet, oks_sOwn, oks_sDrop, oks_sRet, oks_sIf, oks_sAsg, oks_sPar, oks_sFor, ok_runD, ok_some, oks_some, startE, eV, setsE, Tg.parts, fAdd_int, fAdd_lst, fAdd_tup, fSub_int, fMul_int, fDiv_int, fMod_int, fPow_int, fLt_int, fLe_int, fGt_int, fGe_int, fNeg_int, fIx_lst, fIx_tup, fLen_lst, fLen_tup, fAbs_int, fInt1_int, fInt1_bl, fGcd_int, fTuple_lst, fTuple_tup, fList_lst, fList_tup, fTru_bl, fTru_lst, fTru_tup, fIsB_bl, atI_0, atI_1, ty_int, ty_bl, ty_lst, ty_tup, ty_str, ty_non, List.map_cons, List.map_nil, List.length_cons, List.length_nil, List.replicate, List.cons_append, List.nil_append, List.getElem?_cons_zero, List.getElem?_cons_succ, List.set_cons_zero, List.set_cons_succ, List.zip_cons_cons, List.zip_nil_right, List.zip_nil_left, Option.some.injEq, exists_eq_left', exists_eq_left, Nat.reduceAdd, Nat.reduceSub, Nat.reduceEqDiff, PyData.bool.injEq, PyData.int.injEq, PyData.list.injEq, PyData.tuple.injEq, if_true, if_false, reduceIte, true_and, and_true, decide_true, decide_false, Bool.false_eq_true])
    rw [ok_nLc (by rfl)]
    (try simp only [fEq_int, fNe_int, ok_eK, ok_lNil, ok_lCons, ok_e2, ok_e1, ok_eF, ok_eTup, ok_nLst, ok_eN, ok_mB, ok_mTru, ok_mNot, ok_mAnd, ok_mOr, ok_eAnd, ok_eOr, ok_eNot, ok_eIf, ok_eIsi, ok_eIsi2, ok_eTyC, ok_eCall, ok_eCallK, ok_oNo, ok_oAt, ok_eSl, ok_iOf, ok_iOfT, ok_iRg1, oks_sNx, oks_sSeq, oks_sSet, oks_sOwn, oks_sDrop, oks_sRet, oks_sIf, oks_sAsg, oks_sPar, oks_sFor, ok_runD, ok_some, oks_some, startE, eV, setsE, Tg.parts, fAdd_int, fAdd_lst, fAdd_tup, fSub_int, fMul_int, fDiv_int, fMod_int, fPow_int, fLt_int, fLe_int, fGt_int, fGe_int, fNeg_int, fIx_lst, fIx_tup, fLen_lst, fLen_tup, fAbs_int, fInt1_int, fInt1_bl, fGcd_int, fTuple_lst, fTuple_tup, fList_lst, fList_tup, fTru_bl, fTru_lst, fTru_tup, fIsB_bl, atI_0, atI_1, ty_int, ty_bl, ty_lst, ty_tup, ty_str, ty_non, List.map_cons, List.map_nil, List.length_cons, List.length_nil, List.replicate, List.cons_append, List.nil_append, List.getElem?_cons_zero, List.getElem?_cons_succ, List.set_cons_zero, List.set_cons_succ, List.zip_cons_cons, List.zip_nil_right, List.zip_nil_left, Option.some.injEq, exists_eq_left', exists_eq_left, Nat.reduceAdd, Nat.reduceSub, Nat.reduceEqDiff, PyData.bool.injEq, PyData.int.injEq, PyData.list.injEq, PyData.tuple.injEq, if_true, if_false, reduceIte, true_and, and_true, decide_true, decide_false, Bool.false_eq_true])
    refine ⟨_, rfl, rg62 hl, ?_⟩
    rw [Int.toNat_natCast, len_ints]
    refine ⟨hs, ?_⟩
    rw [ok_eq (lcL_map (φ := fun _ => .bool true) _ (fun d hd => ?_))]
    · rw [fAll_true]
      simp
    · obtain ⟨i, hi, rfl⟩ := mem_ints hd
      exact ⟨_, rfl, el i hi _ rfl rfl rfl⟩
  · (try simp only [fEq_int, fNe_int, ok_eK, ok_lNil, ok_lCons, ok_e2, ok_e1, ok_eF, ok_eTup, ok_nLst, ok_eN, ok_mB, ok_mTru, ok_mNot, ok_mAnd, ok_mOr, ok_eAnd, ok_eOr, ok_eNot, ok_eIf, ok_eIsi, ok_eIsi2, ok_eTyC, ok_eCall, ok_eCallK, ok_oNo, ok_oAt, ok_eSl, ok_iOf, ok_iOfT, ok_iRg1, oks_sNx, oks_sSeq, oks_sSet, oks_sOwn, oks_sDrop, oks_sRet, oks_sIf, oks_sAsg, oks_sPar, oks_sFor, ok_runD, ok_some, oks_some, startE, eV, setsE, Tg.parts, fAdd_int, fAdd_lst, fAdd_tup, fSub_int, fMul_int, fDiv_int, fMod_int, fPow_int, fLt_int, fLe_int, fGt_int, fGe_int, fNeg_int, fIx_lst, fIx_tup, fLen_lst, fLen_tup, fAbs_int, fInt1_int, fInt1_bl, fGcd_int, fTuple_lst, fTuple_tup, fList_lst, fList_tup, fTru_bl, fTru_lst, fTru_tup, fIsB_bl, atI_0, atI_1, ty_int, ty_bl, ty_lst, ty_tup, ty_str, ty_non, List.map_cons, List.map_nil, List.length_cons, List.length_nil, List.replicate, List.cons_append, List.nil_append, List.getElem?_cons_zero, List.getElem?_cons_succ, List.set_cons_zero, List.set_cons_succ, List.zip_cons_cons, List.zip_nil_right, List.zip_nil_left, Option.some.injEq, exists_eq_left', exists_eq_left, Nat.reduceAdd, Nat.reduceSub, Nat.reduceEqDiff, PyData.bool.injEq, PyData.int.injEq, PyData.list.injEq, PyData.tuple.injEq, if_true, if_false, reduceIte, true_and, and_true, decide_true, decide_false, Bool.false_eq_true])
    rw [ok_eq (kinds_tup ds g)]
    (try simp only [fEq_int, fNe_int, ok_eK, ok_lNil, ok_lCons, ok_e2, ok_e1, ok_eF, ok_eTup, ok_nLst, ok_eN, ok_mB, ok_mTru, ok_mNot, ok_mAnd, ok_mOr, ok_eAnd, ok_eOr, ok_eNot, ok_eIf, ok_eIsi, ok_eIsi2, ok_eTyC, ok_eCall, ok_eCallK, ok_oNo, ok_oAt, ok_eSl, ok_iOf, ok_iOfT, ok_iRg1, oks_sNx, oks_sSeq, oks_sSet, oks_sOwn, oks_sDrop, oks_sRet, oks_sIf, oks_sAsg, oks_sPar, oks_sFor, ok_runD, ok_some, oks_some, startE, eV, setsE, Tg.parts, fAdd_int, fAdd_lst, fAdd_tup, fSub_int, fMul_int, fDiv_int, fMod_int, fPow_int, fLt_int, fLe_int, fGt_int, fGe_int, fNeg_int, fIx_lst, fIx_tup, fLen_lst, fLen_tup, fAbs_int, fInt1_int, fInt1_bl, fGcd_int, fTuple_lst, fTuple_tup, fList_lst, fList_tup, fTru_bl, fTru_lst, fTru_tup, fIsB_bl, atI_0, atI_1, ty_int, ty_bl, ty_lst, ty_tup, ty_str, ty_non, List.map_cons, List.map_nil, List.length_cons, List.length_nil, List.replicate, List.cons_append, List.nil_append, List.getElem?_cons_zero, List.getElem?_cons_succ, List.set_cons_zero, List.set_cons_succ, List.zip_cons_cons, List.zip_nil_right, List.zip_nil_left, Option.some.injEq, exists_eq_left', exists_eq_left, Nat.reduceAdd, Nat.reduceSub, Nat.reduceEqDiff, PyData.bool.injEq, PyData.int.injEq, PyData.list.injEq, PyData.tuple.injEq, if_true, if_false, reduceIte, true_and, and_true, decide_true, decide_false, Bool.false_eq_true])
    rw [ok_eq (kinds_tup ds g)]
    rw [fNe_knd]
    (try simp only [fEq_int, fNe_int, ok_eK, ok_lNil, ok_lCons, ok_e2, ok_e1, ok_eF, ok_eTup, ok_nLst, ok_eN, ok_mB, ok_mTru, ok_mNot, ok_mAnd, ok_mOr, ok_eAnd, ok_eOr, ok_eNot, ok_eIf, ok_eIsi, ok_eIsi2, ok_eTyC, ok_eCall, ok_eCallK, ok_oNo, ok_oAt, ok_eSl, ok_iOf, ok_iOfT, ok_iRg1, oks_sNx, oks_sSeq, oks_sSet, oks_sOwn, oks_sDrop, oks_sRet, oks_sIf, oks_sAsg, oks_sPar, oks_sFor, ok_runD, ok_some, oks_some, startE, eV, setsE, Tg.parts, fAdd_int, fAdd_lst, fAdd_tup, fSub_int, fMul_int, fDiv_int, fMod_int, fPow_int, fLt_int, fLe_int, fGt_int, fGe_int, fNeg_int, fIx_lst, fIx_tup, fLen_lst, fLen_tup, fAbs_int, fInt1_int, fInt1_bl, fGcd_int, fTuple_lst, fTuple_tup, fList_lst, fList_tup, fTru_bl, fTru_lst, fTru_tup, fIsB_bl, atI_0, atI_1, ty_int, ty_bl, ty_lst, ty_tup, ty_str, ty_non, List.map_cons, List.map_nil, List.length_cons, List.length_nil, List.replicate, List.cons_append, List.nil_append, List.getElem?_cons_zero, List.getElem?_cons_succ, List.set_cons_zero, List.set_cons_succ, List.zip_cons_cons, List.zip_nil_right, List.zip_nil_left, Option.some.injEq, exists_eq_left', exists_eq_left, Nat.reduceAdd, Nat.reduceSub, Nat.reduceEqDiff, PyData.bool.injEq, PyData.int.injEq, PyData.list.injEq, PyData.tuple.injEq, if_true, if_false, reduceIte, true_and, and_true, decide_true, decide_false, Bool.false_eq_true])
    rw [if_pos (by decide)]
    (try simp only [fEq_int, fNe_int, ok_eK, ok_lNil, ok_lCons, ok_e2, ok_e1, ok_eF, ok_eTup, ok_nLst, ok_eN, ok_mB, ok_mTru, ok_mNot, ok_mAnd, ok_mOr, ok_eAnd, ok_eOr, ok_eNot, ok_eIf, ok_eIsi, ok_eIsi2, ok_eTyC, ok_eCall, ok_eCallK, ok_oNo, ok_oAt, ok_eSl, ok_iOf, ok_iOfT, ok_iRg1, oks_sNx, oks_sSeq, oks_sSet, oks_sOwn, oks_sDrop, oks_sRet, oks_sIf, oks_sAsg, oks_sPar, oks_sFor, ok_runD, ok_some, oks_some, startE, eV, setsE, Tg.parts, fAdd_int, fAdd_lst, fAdd_tup, fSub_int, fMul_int, fDiv_int, fMod_int, fPow_int, fLt_int, fLe_int, fGt_int, fGe_int, fNeg_int, fIx_lst, fIx_tup, fLen_lst, fLen_tup, fAbs_int, fInt1_int, fInt1_bl, fGcd_int, fTuple_lst, fTuple_tup, fList_lst, fList_tup, fTru_bl, fTru_lst, fTru_tup, fIsB_bl, atI_0, atI_1, ty_int, ty_bl, ty_lst, ty_tup, ty_str, ty_non, List.map_cons, List.map_nil, List.length_cons, List.length_nil, List.replicate, List.cons_append, List.nil_append, List.getElem?_cons_zero, List.getElem?_cons_succ, List.set_cons_zero, List.set_cons_succ, List.zip_cons_cons, List.zip_nil_right, List.zip_nil_left, Option.some.injEq, exists_eq_left', exists_eq_left, Nat.reduceAdd, Nat.reduceSub, Nat.reduceEqDiff, PyData.bool.injEq, PyData.int.injEq, PyData.list.injEq, PyData.tuple.injEq, if_true, if_false, reduceIte, true_and, and_true, decide_true, decide_false, Bool.false_eq_true])
    rw [ok_nLc (by rfl)]
    (try simp only [fEq_int, fNe_int, ok_eK, ok_lNil, ok_lCons, ok_e2, ok_e1, ok_eF, ok_eTup, ok_nLst, ok_eN, ok_mB, ok_mTru, ok_mNot, ok_mAnd, ok_mOr, ok_eAnd, ok_eOr, ok_eNot, ok_eIf, ok_eIsi, ok_eIsi2, ok_eTyC, ok_eCall, ok_eCallK, ok_oNo, ok_oAt, ok_eSl, ok_iOf, ok_iOfT, ok_iRg1, oks_sNx, oks_sSeq, oks_sSet, oks_sOwn, oks_sDrop, oks_sRet, oks_sIf, oks_sAsg, oks_sPar, oks_sFor, ok_runD, ok_some, oks_some, startE, eV, setsE, Tg.parts, fAdd_int, fAdd_lst, fAdd_tup, fSub_int, fMul_int, fDiv_int, fMod_int, fPow_int, fLt_int, fLe_int, fGt_int, fGe_int, fNeg_int, fIx_lst, fIx_tup, fLen_lst, fLen_tup, fAbs_int, fInt1_int, fInt1_bl, fGcd_int, fTuple_lst, fTuple_tup, fList_lst, fList_tup, fTru_bl, fTru_lst, fTru_tup, fIsB_bl, atI_0, atI_1, ty_int, ty_bl, ty_lst, ty_tup, ty_str, ty_non, List.map_cons, List.map_nil, List.length_cons, List.length_nil, List.replicate, List.cons_append, List.nil_append, List.getElem?_cons_zero, List.getElem?_cons_succ, List.set_cons_zero, List.set_cons_succ, List.zip_cons_cons, List.zip_nil_right, List.zip_nil_left, Option.some.injEq, exists_eq_left', exists_eq_left, Nat.reduceAdd, Nat.reduceSub, Nat.reduceEqDiff, PyData.bool.injEq, PyData.int.injEq, PyData.list.injEq, PyData.tuple.injEq, if_true, if_false, reduceIte, true_and, and_true, decide_true, decide_false, Bool.false_eq_true])
    refine ⟨_, rfl, rg62 hl, ?_⟩
    rw [Int.toNat_natCast, len_ints]
    refine ⟨hs, ?_⟩
    rw [ok_eq (lcL_map (φ := fun _ => .bool true) _ (fun d hd => ?_))]
    · rw [fAll_true]
      simp
    · obtain ⟨i, hi, rfl⟩ := mem_ints hd
      exact ⟨_, rfl, el i hi _ rfl rfl rfl⟩
theorem alike_fr (n : Nat) (r : Rat) (g : G) : F_law_alike (n + 2) [fr r, fr r] g = some (.bool true, g) :=
  alike_seq PyData.tuple (.inr rfl) (by show 2 ≤ 100; decide) (fun d hd g => by
    rcases List.mem_cons.mp hd with rfl | hd
    · exact alike_int n _ g
    · rcases List.mem_cons.mp hd with rfl | hd
      · exact alike_int n _ g
      · exact absurd hd (by simp)) g
theorem alike_frs (rs : List Rat) (h : rs.length ≤ 100) (g : G) : F_law_alike 7 [.list (rs.map fr), .list (rs.map fr)] g = some (.bool true, g) :=
  alike_seq PyData.list (.inl rfl) (by rw [List.length_map]; exact h) (fun d hd g => by
    obtain ⟨r, _, rfl⟩ := List.mem_map.mp hd
    exact alike_fr 4 r g) g
theorem alike_bls (bs : List Bool) (h : bs.length ≤ 100) (g : G) : F_law_alike 7 [.list (bs.map .bool), .list (bs.map .bool)] g = some (.bool true, g) :=
  alike_seq PyData.list (.inl rfl) (by rw [List.length_map]; exact h) (fun d hd g => by
    obtain ⟨r, _, rfl⟩ := List.mem_map.mp hd
    exact alike_bl 5 r g) g
end K01

set_option Elab.async false
set_option linter.all false
set_option maxRecDepth 100000
set_option maxHeartbeats 2000000
namespace K01
open PySem PySem.Spec PyProof.Rows L2 DL
/-! ### the spring -/
theorem drop_ok {m : Int} (h0 : 0 < m) (h1 : m.natAbs < 2 ^ 9000) (g : G) : Ok (Fd_law_drop [.dict [], .int m] g) fun d _ => ∃ v, d = .int v ∧ 0 ≤ v ∧ v < m := by
  have h2 := log_of h1
  unfold Fd_law_drop
  simp only [h0, if_true]
  split
  · rw [if_pos h2, ok_some]
    exact ⟨_, rfl, Int.emod_nonneg _ (by omega), Int.emod_lt_of_pos _ h0⟩
  · rw [ok_some]
    exact ⟨_, rfl, Int.emod_nonneg _ (by omega), Int.emod_lt_of_pos _ h0⟩
/-- m, then what is done with it -/
theorem drop_then {m : Int} (h0 : 0 < m) (h1 : m.natAbs < 2 ^ 9000) {g : G} {Q : D → G → Prop} (q : ∀ v g', 0 ≤ v → v < m → Q (.int v) g') : Ok (Fd_law_drop [.dict [], .int m] g) Q :=
  (drop_ok h0 h1 g).mono fun d g' ⟨v, e, a, b⟩ => by subst e; exact q v g' a b
theorem small9 {m : Nat} (h : m ≤ 2 ^ 200) : m < 2 ^ 9000 := Nat.lt_of_le_of_lt h (Nat.pow_lt_pow_right (by decide) (by decide))
def IsFr (d : D) (_ : G) : Prop := ∃ r : Rat, d = fr r ∧ Sz 140 r
theorem low_fr {t b : Int} (hb : b ≠ 0) (h : b.natAbs < 2 ^ 140) (ht : t.natAbs < 2 ^ 140) (g : G) : Ok (F_law_low [.int t, .int b] g) IsFr := by
  rw [ok_eq (low_ok hb (bd9 h (by decide)) g)]
  exact ⟨_, rfl, divInt_sz hb ht h⟩
theorem int_fr (t : Int) (h : t.natAbs < 2 ^ 140) (g : G) : IsFr (.tuple [.int t, .int 1]) g := by
  refine ⟨(t : Rat), ?_, ?_⟩
  · unfold fr
    rw [Rat.num_intCast, Rat.den_intCast]
    rfl
  · refine ⟨by rw [Rat.num_intCast]; exact h, by rw [Rat.den_intCast]; decide⟩
theorem number_ok (g : G) : Ok (F_law_number [.dict []] g) IsFr := by
  have p140 : (2000001 : Nat) < 2 ^ 140 := by decide
  unfold F_law_number m_law_number
  (try simp only [fEq_int, fNe_int, ok_eK, ok_lNil, ok_lCons, ok_e2, ok_e1, ok_eF, ok_eTup, ok_nLst, ok_eN, ok_mB, ok_mTru, ok_mNot, ok_mAnd, ok_mOr, ok_eAnd, ok_eOr, ok_eNot, ok_eIf, ok_eIsi, ok_eIsi2, ok_eTyC, ok_eCall, ok_eCallK, ok_oNo, ok_oAt, ok_eSl, ok_iOf, ok_iOfT, ok_iRg1, oks_sNx, oks_sSeq, oks_sSet, oks_sOwn, oks_sDrop, oks_sRet, oks_sIf, oks_sAsg, oks_sPar, oks_sFor, ok_runD, ok_some, oks_some, startE, eV, setsE, Tg.parts, fAdd_int, fAdd_lst, fAdd_tup, fSub_int, fMul_int, fDiv_int, fMod_int, fPow_int, fLt_int, fLe_int, fGt_int, fGe_int, fNeg_int, fIx_lst, fIx_tup, fLen_lst, fLen_tup, fAbs_int, fInt1_int, fInt1_bl, fGcd_int, fTuple_lst, fTuple_tup, fList_lst, fList_tup, fTru_bl, fTru_lst, fTru_tup, fIsB_bl, atI_0, atI_1, ty_int, ty_bl, ty_lst, ty_tup, ty_str, ty_non, List.map_cons, List.map_nil, List.length_cons, List.length_nil, List.replicate, List.cons_append, List.nil_append, List.getElem?_cons_zero, List.getElem?_cons_succ, List.set_cons_zero, List.set_cons_succ, List.zip_cons_cons, List.zip_nil_right, List.zip_nil_left, Option.some.injEq, exists_eq_left', exists_eq_left, Nat.reduceAdd, Nat.reduceSub, Nat.reduceEqDiff, PyData.bool.injEq, PyData.int.injEq, PyData.list.injEq, PyData.tuple.injEq, if_true, if_false, reduceIte, true_and, and_true, decide_true, decide_false, Bool.false_eq_true])
  refine drop_then (by decide) (by exact small9 (by decide)) fun w g1 w0 w1 => ?_
  (try simp only [fEq_int, fNe_int, ok_eK, ok_lNil, ok_lCons, ok_e2, ok_e1, ok_eF, ok_eTup, ok_nLst, ok_eN, ok_mB, ok_mTru, ok_mNot, ok_mAnd, ok_mOr, ok_eAnd, ok_eOr, ok_eNot, ok_eIf, ok_eIsi, ok_eIsi2, ok_eTyC, ok_eCall, ok_eCallK, ok_oNo, ok_oAt, ok_eSl, ok_iOf, ok_iOfT, ok_iRg1, oks_sNx, oks_sSeq, oks_sSet, oks_sOwn, oks_sDrop, oks_sRet, oks_sIf, oks_sAsg, oks_sPar, oks_sFor, ok_runD, ok_some, oks_some, startE, eV, setsE, Tg.parts, fAdd_int, fAdd_lst, fAdd_tup, fSub_int, fMul_int, fDiv_int, fMod_int, fPow_int, fLt_int, fLe_int, fGt_int, fGe_int, fNeg_int, fIx_lst, fIx_tup, fLen_lst, fLen_tup, fAbs_int, fInt1_int, fInt1_bl, fGcd_int, fTuple_lst, fTuple_tup, fList_lst, fList_tup, fTru_bl, fTru_lst, fTru_tup, fIsB_bl, atI_0, atI_1, ty_int, ty_bl, ty_lst, ty_tup, ty_str, ty_non, List.map_cons, List.map_nil, List.length_cons, List.length_nil, List.replicate, List.cons_append, List.nil_append, List.getElem?_cons_zero, List.getElem?_cons_succ, List.set_cons_zero, List.set_cons_succ, List.zip_cons_cons, List.zip_nil_right, List.zip_nil_left, Option.some.injEq, exists_eq_left', exists_eq_left, Nat.reduceAdd, Nat.reduceSub, Nat.reduceEqDiff, PyData.bool.injEq, PyData.int.injEq, PyData.list.injEq, PyData.tuple.injEq, if_true, if_false, reduceIte, true_and, and_true, decide_true, decide_false, Bool.false_eq_true])
  by_cases h0 : w = 0
  · simp only [h0, decide_true, if_true]
    (try simp only [fEq_int, fNe_int, ok_eK, ok_lNil, ok_lCons, ok_e2, ok_e1, ok_eF, ok_eTup, ok_nLst, ok_eN, ok_mB, ok_mTru, ok_mNot, ok_mAnd, ok_mOr, ok_eAnd, ok_eOr, ok_eNot, ok_eIf, ok_eIsi, ok_eIsi2, ok_eTyC, ok_eCall, ok_eCallK, ok_oNo, ok_oAt, ok_eSl, ok_iOf, ok_iOfT, ok_iRg1, oks_sNx, oks_sSeq, oks_sSet, oks_sOwn, oks_sDrop, oks_sRet, oks_sIf, oks_sAsg, oks_sPar, oks_sFor, ok_runD, ok_some, oks_some, startE, eV, setsE, Tg.parts, fAdd_int, fAdd_lst, fAdd_tup, fSub_int, fMul_int, fDiv_int, fMod_int, fPow_int, fLt_int, fLe_int, fGt_int, fGe_int, fNeg_int, fIx_lst, fIx_tup, fLen_lst, fLen_tup, fAbs_int, fInt1_int, fInt1_bl, fGcd_int, fTuple_lst, fTuple_tup, fList_lst, fList_tup, fTru_bl, fTru_lst, fTru_tup, fIsB_bl, atI_0, atI_1, ty_int, ty_bl, ty_lst, ty_tup, ty_str, ty_non, List.map_cons, List.map_nil, List.length_cons, List.length_nil, List.replicate, List.cons_append, List.nil_append, List.getElem?_cons_zero, List.getElem?_cons_succ, List.set_cons_zero, List.set_cons_succ, List.zip_cons_cons, List.zip_nil_right, List.zip_nil_left, Option.some.injEq, exists_eq_left', exists_eq_left, Nat.reduceAdd, Nat.reduceSub, Nat.reduceEqDiff, PyData.bool.injEq, PyData.int.injEq, PyData.list.injEq, PyData.tuple.injEq, if_true, if_false, reduceIte, true_and, and_true, decide_true, decide_false, Bool.false_eq_true])
    refine drop_then (by decide) (by exact small9 (by decide)) fun v g2 v0 v1 => ?_
    (try simp only [fEq_int, fNe_int, ok_eK, ok_lNil, ok_lCons, ok_e2, ok_e1, ok_eF, ok_eTup, ok_nLst, ok_eN, ok_mB, ok_mTru, ok_mNot, ok_mAnd, ok_mOr, ok_eAnd, ok_eOr, ok_eNot, ok_eIf, ok_eIsi, ok_eIsi2, ok_eTyC, ok_eCall, ok_eCallK, ok_oNo, ok_oAt, ok_eSl, ok_iOf, ok_iOfT, ok_iRg1, oks_sNx, oks_sSeq, oks_sSet, oks_sOwn, oks_sDrop, oks_sRet, oks_sIf, oks_sAsg, oks_sPar, oks_sFor, ok_runD, ok_some, oks_some, startE, eV, setsE, Tg.parts, fAdd_int, fAdd_lst, fAdd_tup, fSub_int, fMul_int, fDiv_int, fMod_int, fPow_int, fLt_int, fLe_int, fGt_int, fGe_int, fNeg_int, fIx_lst, fIx_tup, fLen_lst, fLen_tup, fAbs_int, fInt1_int, fInt1_bl, fGcd_int, fTuple_lst, fTuple_tup, fList_lst, fList_tup, fTru_bl, fTru_lst, fTru_tup, fIsB_bl, atI_0, atI_1, ty_int, ty_bl, ty_lst, ty_tup, ty_str, ty_non, List.map_cons, List.map_nil, List.length_cons, List.length_nil, List.replicate, List.cons_append, List.nil_append, List.getElem?_cons_zero, List.getElem?_cons_succ, List.set_cons_zero, List.set_cons_succ, List.zip_cons_cons, List.zip_nil_right, List.zip_nil_left, Option.some.injEq, exists_eq_left', exists_eq_left, Nat.reduceAdd, Nat.reduceSub, Nat.reduceEqDiff, PyData.bool.injEq, PyData.int.injEq, PyData.list.injEq, PyData.tuple.injEq, if_true, if_false, reduceIte, true_and, and_true, decide_true, decide_false, Bool.false_eq_true])
    exact ⟨by decide, int_fr _ (by omega) _⟩
  · simp only [h0, decide_false, Bool.false_eq_true, if_false]
    (try simp only [fEq_int, fNe_int, ok_eK, ok_lNil, ok_lCons, ok_e2, ok_e1, ok_eF, ok_eTup, ok_nLst, ok_eN, ok_mB, ok_mTru, ok_mNot, ok_mAnd, ok_mOr, ok_eAnd, ok_eOr, ok_eNot, ok_eIf, ok_eIsi, ok_eIsi2, ok_eTyC, ok_eCall, ok_eCallK, ok_oNo, ok_oAt, ok_eSl, ok_iOf, ok_iOfT, ok_iRg1, oks_sNx, oks_sSeq, oks_sSet, oks_sOwn, oks_sDrop, oks_sRet, oks_sIf, oks_sAsg, oks_sPar, oks_sFor, ok_runD, ok_some, oks_some, startE, eV, setsE, Tg.parts, fAdd_int, fAdd_lst, fAdd_tup, fSub_int, fMul_int, fDiv_int, fMod_int, fPow_int, fLt_int, fLe_int, fGt_int, fGe_int, fNeg_int, fIx_lst, fIx_tup, fLen_lst, fLen_tup, fAbs_int, fInt1_int, fInt1_bl, fGcd_int, fTuple_lst, fTuple_tup, fList_lst, fList_tup, fTru_bl, fTru_lst, fTru_tup, fIsB_bl, atI_0, atI_1, ty_int, ty_bl, ty_lst, ty_tup, ty_str, ty_non, List.map_cons, List.map_nil, List.length_cons, List.length_nil, List.replicate, List.cons_append, List.nil_append, List.getElem?_cons_zero, List.getElem?_cons_succ, List.set_cons_zero, List.set_cons_succ, List.zip_cons_cons, List.zip_nil_right, List.zip_nil_left, Option.some.injEq, exists_eq_left', exists_eq_left, Nat.reduceAdd, Nat.reduceSub, Nat.reduceEqDiff, PyData.bool.injEq, PyData.int.injEq, PyData.list.injEq, PyData.tuple.injEq, if_true, if_false, reduceIte, true_and, and_true, decide_true, decide_false, Bool.false_eq_true])
    by_cases h1 : w < 3
    · simp only [h1, decide_true, if_true]
      (try simp only [fEq_int, fNe_int, ok_eK, ok_lNil, ok_lCons, ok_e2, ok_e1, ok_eF, ok_eTup, ok_nLst, ok_eN, ok_mB, ok_mTru, ok_mNot, ok_mAnd, ok_mOr, ok_eAnd, ok_eOr, ok_eNot, ok_eIf, ok_eIsi, ok_eIsi2, ok_eTyC, ok_eCall, ok_eCallK, ok_oNo, ok_oAt, ok_eSl, ok_iOf, ok_iOfT, ok_iRg1, oks_sNx, oks_sSeq, oks_sSet, oks_sOwn, oks_sDrop, oks_sRet, oks_sIf, oks_sAsg, oks_sPar, oks_sFor, ok_runD, ok_some, oks_some, startE, eV, setsE, Tg.parts, fAdd_int, fAdd_lst, fAdd_tup, fSub_int, fMul_int, fDiv_int, fMod_int, fPow_int, fLt_int, fLe_int, fGt_int, fGe_int, fNeg_int, fIx_lst, fIx_tup, fLen_lst, fLen_tup, fAbs_int, fInt1_int, fInt1_bl, fGcd_int, fTuple_lst, fTuple_tup, fList_lst, fList_tup, fTru_bl, fTru_lst, fTru_tup, fIsB_bl, atI_0, atI_1, ty_int, ty_bl, ty_lst, ty_tup, ty_str, ty_non, List.map_cons, List.map_nil, List.length_cons, List.length_nil, List.replicate, List.cons_append, List.nil_append, List.getElem?_cons_zero, List.getElem?_cons_succ, List.set_cons_zero, List.set_cons_succ, List.zip_cons_cons, List.zip_nil_right, List.zip_nil_left, Option.some.injEq, exists_eq_left', exists_eq_left, Nat.reduceAdd, Nat.reduceSub, Nat.reduceEqDiff, PyData.bool.injEq, PyData.int.injEq, PyData.list.injEq, PyData.tuple.injEq, if_true, if_false, reduceIte, true_and, and_true, decide_true, decide_false, Bool.false_eq_true])
      refine drop_then (by decide) (by exact small9 (by decide)) fun v g2 v0 v1 => ?_
      (try simp only [fEq_int, fNe_int, ok_eK, ok_lNil, ok_lCons, ok_e2, ok_e1, ok_eF, ok_eTup, ok_nLst, ok_eN, ok_mB, ok_mTru, ok_mNot, ok_mAnd, ok_mOr, ok_eAnd, ok_eOr, ok_eNot, ok_eIf, ok_eIsi, ok_eIsi2, ok_eTyC, ok_eCall, ok_eCallK, ok_oNo, ok_oAt, ok_eSl, ok_iOf, ok_iOfT, ok_iRg1, oks_sNx, oks_sSeq, oks_sSet, oks_sOwn, oks_sDrop, oks_sRet, oks_sIf, oks_sAsg, oks_sPar, oks_sFor, ok_runD, ok_some, oks_some, startE, eV, setsE, Tg.parts, fAdd_int, fAdd_lst, fAdd_tup, fSub_int, fMul_int, fDiv_int, fMod_int, fPow_int, fLt_int, fLe_int, fGt_int, fGe_int, fNeg_int, fIx_lst, fIx_tup, fLen_lst, fLen_tup, fAbs_int, fInt1_int, fInt1_bl, fGcd_int, fTuple_lst, fTuple_tup, fList_lst, fList_tup, fTru_bl, fTru_lst, fTru_tup, fIsB_bl, atI_0, atI_1, ty_int, ty_bl, ty_lst, ty_tup, ty_str, ty_non, List.map_cons, List.map_nil, List.length_cons, List.length_nil, List.replicate, List.cons_append, List.nil_append, List.getElem?_cons_zero, List.getElem?_cons_succ, List.set_cons_zero, List.set_cons_succ, List.zip_cons_cons, List.zip_nil_right, List.zip_nil_left, Option.some.injEq, exists_eq_left', exists_eq_left, Nat.reduceAdd, Nat.reduceSub, Nat.reduceEqDiff, PyData.bool.injEq, PyData.int.injEq, PyData.list.injEq, PyData.tuple.injEq, if_true, if_false, reduceIte, true_and, and_true, decide_true, decide_false, Bool.false_eq_true])
      refine ⟨by decide, drop_then (by decide) (by exact small9 (by decide)) fun u g3 u0 u1 => ?_⟩
      have : u = 0 ∨ u = 1 ∨ u = 2 ∨ u = 3 := by omega
      rcases this with rfl | rfl | rfl | rfl
      · exact ⟨.int 100, rfl, low_fr (by decide) (by decide) (by omega) _⟩
      · exact ⟨.int 1000, rfl, low_fr (by decide) (by decide) (by omega) _⟩
      · exact ⟨.int 8, rfl, low_fr (by decide) (by decide) (by omega) _⟩
      · exact ⟨.int 20, rfl, low_fr (by decide) (by decide) (by omega) _⟩
    · simp only [h1, decide_false, Bool.false_eq_true, if_false]
      (try simp only [fEq_int, fNe_int, ok_eK, ok_lNil, ok_lCons, ok_e2, ok_e1, ok_eF, ok_eTup, ok_nLst, ok_eN, ok_mB, ok_mTru, ok_mNot, ok_mAnd, ok_mOr, ok_eAnd, ok_eOr, ok_eNot, ok_eIf, ok_eIsi, ok_eIsi2, ok_eTyC, ok_eCall, ok_eCallK, ok_oNo, ok_oAt, ok_eSl, ok_iOf, ok_iOfT, ok_iRg1, oks_sNx, oks_sSeq, oks_sSet, oks_sOwn, oks_sDrop, oks_sRet, oks_sIf, oks_sAsg, oks_sPar, oks_sFor, ok_runD, ok_some, oks_some, startE, eV, setsE, Tg.parts, fAdd_int, fAdd_lst, fAdd_tup, fSub_int, fMul_int, fDiv_int, fMod_int, fPow_int, fLt_int, fLe_int, fGt_int, fGe_int, fNeg_int, fIx_lst, fIx_tup, fLen_lst, fLen_tup, fAbs_int, fInt1_int, fInt1_bl, fGcd_int, fTuple_lst, fTuple_tup, fList_lst, fList_tup, fTru_bl, fTru_lst, fTru_tup, fIsB_bl, atI_0, atI_1, ty_int, ty_bl, ty_lst, ty_tup, ty_str, ty_non, List.map_cons, List.map_nil, List.length_cons, List.length_nil, List.replicate, List.cons_append, List.nil_append, List.getElem?_cons_zero, List.getElem?_cons_succ, List.set_cons_zero, List.set_cons_succ, List.zip_cons_cons, List.zip_nil_right, List.zip_nil_left, Option.some.injEq, exists_eq_left', exists_eq_left, Nat.reduceAdd, Nat.reduceSub, Nat.reduceEqDiff, PyData.bool.injEq, PyData.int.injEq, PyData.list.injEq, PyData.tuple.injEq, if_true, if_false, reduceIte, true_and, and_true, decide_true, decide_false, Bool.false_eq_true])
      by_cases h2 : w < 5
      · simp only [h2, decide_true, if_true]
        (try simp only [fEq_int, fNe_int, ok_eK, ok_lNil, ok_lCons, ok_e2, ok_e1, ok_eF, ok_eTup, ok_nLst, ok_eN, ok_mB, ok_mTru, ok_mNot, ok_mAnd, ok_mOr, ok_eAnd, ok_eOr, ok_eNot, ok_eIf, ok_eIsi, ok_eIsi2, ok_eTyC, ok_eCall, ok_eCallK, ok_oNo, ok_oAt, ok_eSl, ok_iOf, ok_iOfT, ok_iRg1, oks_sNx, oks_sSeq, oks_sSet, oks_sOwn, oks_sDrop, oks_sRet, oks_sIf, oks_sAsg, oks_sPar, oks_sFor, ok_runD, ok_some, oks_some, startE, eV, setsE, Tg.parts, fAdd_int, fAdd_lst, fAdd_tup, fSub_int, fMul_int, fDiv_int, fMod_int, fPow_int, fLt_int, fLe_int, fGt_int, fGe_int, fNeg_int, fIx_lst, fIx_tup, fLen_lst, fLen_tup, fAbs_int, fInt1_int, fInt1_bl, fGcd_int, fTuple_lst, fTuple_tup, fList_lst, fList_tup, fTru_bl, fTru_lst, fTru_tup, fIsB_bl, atI_0, atI_1, ty_int, ty_bl, ty_lst, ty_tup, ty_str, ty_non, List.map_cons, List.map_nil, List.length_cons, List.length_nil, List.replicate, List.cons_append, List.nil_append, List.getElem?_cons_zero, List.getElem?_cons_succ, List.set_cons_zero, List.set_cons_succ, List.zip_cons_cons, List.zip_nil_right, List.zip_nil_left, Option.some.injEq, exists_eq_left', exists_eq_left, Nat.reduceAdd, Nat.reduceSub, Nat.reduceEqDiff, PyData.bool.injEq, PyData.int.injEq, PyData.list.injEq, PyData.tuple.injEq, if_true, if_false, reduceIte, true_and, and_true, decide_true, decide_false, Bool.false_eq_true])
        refine drop_then (by decide) (by exact small9 (by decide)) fun v g2 v0 v1 => ?_
        (try simp only [fEq_int, fNe_int, ok_eK, ok_lNil, ok_lCons, ok_e2, ok_e1, ok_eF, ok_eTup, ok_nLst, ok_eN, ok_mB, ok_mTru, ok_mNot, ok_mAnd, ok_mOr, ok_eAnd, ok_eOr, ok_eNot, ok_eIf, ok_eIsi, ok_eIsi2, ok_eTyC, ok_eCall, ok_eCallK, ok_oNo, ok_oAt, ok_eSl, ok_iOf, ok_iOfT, ok_iRg1, oks_sNx, oks_sSeq, oks_sSet, oks_sOwn, oks_sDrop, oks_sRet, oks_sIf, oks_sAsg, oks_sPar, oks_sFor, ok_runD, ok_some, oks_some, startE, eV, setsE, Tg.parts, fAdd_int, fAdd_lst, fAdd_tup, fSub_int, fMul_int, fDiv_int, fMod_int, fPow_int, fLt_int, fLe_int, fGt_int, fGe_int, fNeg_int, fIx_lst, fIx_tup, fLen_lst, fLen_tup, fAbs_int, fInt1_int, fInt1_bl, fGcd_int, fTuple_lst, fTuple_tup, fList_lst, fList_tup, fTru_bl, fTru_lst, fTru_tup, fIsB_bl, atI_0, atI_1, ty_int, ty_bl, ty_lst, ty_tup, ty_str, ty_non, List.map_cons, List.map_nil, List.length_cons, List.length_nil, List.replicate, List.cons_append, List.nil_append, List.getElem?_cons_zero, List.getElem?_cons_succ, List.set_cons_zero, List.set_cons_succ, List.zip_cons_cons, List.zip_nil_right, List.zip_nil_left, Option.some.injEq, exists_eq_left', exists_eq_left, Nat.reduceAdd, Nat.reduceSub, Nat.reduceEqDiff, PyData.bool.injEq, PyData.int.injEq, PyData.list.injEq, PyData.tuple.injEq, if_true, if_false, reduceIte, true_and, and_true, decide_true, decide_false, Bool.false_eq_true])
        refine drop_then (by decide) (by exact small9 (by decide)) fun u g3 u0 u1 => ?_
        (try simp only [fEq_int, fNe_int, ok_eK, ok_lNil, ok_lCons, ok_e2, ok_e1, ok_eF, ok_eTup, ok_nLst, ok_eN, ok_mB, ok_mTru, ok_mNot, ok_mAnd, ok_mOr, ok_eAnd, ok_eOr, ok_eNot, ok_eIf, ok_eIsi, ok_eIsi2, ok_eTyC, ok_eCall, ok_eCallK, ok_oNo, ok_oAt, ok_eSl, ok_iOf, ok_iOfT, ok_iRg1, oks_sNx, oks_sSeq, oks_sSet, oks_sOwn, oks_sDrop, oks_sRet, oks_sIf, oks_sAsg, oks_sPar, oks_sFor, ok_runD, ok_some, oks_some, startE, eV, setsE, Tg.parts, fAdd_int, fAdd_lst, fAdd_tup, fSub_int, fMul_int, fDiv_int, fMod_int, fPow_int, fLt_int, fLe_int, fGt_int, fGe_int, fNeg_int, fIx_lst, fIx_tup, fLen_lst, fLen_tup, fAbs_int, fInt1_int, fInt1_bl, fGcd_int, fTuple_lst, fTuple_tup, fList_lst, fList_tup, fTru_bl, fTru_lst, fTru_tup, fIsB_bl, atI_0, atI_1, ty_int, ty_bl, ty_lst, ty_tup, ty_str, ty_non, List.map_cons, List.map_nil, List.length_cons, List.length_nil, List.replicate, List.cons_append, List.nil_append, List.getElem?_cons_zero, List.getElem?_cons_succ, List.set_cons_zero, List.set_cons_succ, List.zip_cons_cons, List.zip_nil_right, List.zip_nil_left, Option.some.injEq, exists_eq_left', exists_eq_left, Nat.reduceAdd, Nat.reduceSub, Nat.reduceEqDiff, PyData.bool.injEq, PyData.int.injEq, PyData.list.injEq, PyData.tuple.injEq, if_true, if_false, reduceIte, true_and, and_true, decide_true, decide_false, Bool.false_eq_true])
        exact low_fr (by omega) (by omega) (by omega) _
      · simp only [h2, decide_false, Bool.false_eq_true, if_false]
        (try simp only [fEq_int, fNe_int, ok_eK, ok_lNil, ok_lCons, ok_e2, ok_e1, ok_eF, ok_eTup, ok_nLst, ok_eN, ok_mB, ok_mTru, ok_mNot, ok_mAnd, ok_mOr, ok_eAnd, ok_eOr, ok_eNot, ok_eIf, ok_eIsi, ok_eIsi2, ok_eTyC, ok_eCall, ok_eCallK, ok_oNo, ok_oAt, ok_eSl, ok_iOf, ok_iOfT, ok_iRg1, oks_sNx, oks_sSeq, oks_sSet, oks_sOwn, oks_sDrop, oks_sRet, oks_sIf, oks_sAsg, oks_sPar, oks_sFor, ok_runD, ok_some, oks_some, startE, eV, setsE, Tg.parts, fAdd_int, fAdd_lst, fAdd_tup, fSub_int, fMul_int, fDiv_int, fMod_int, fPow_int, fLt_int, fLe_int, fGt_int, fGe_int, fNeg_int, fIx_lst, fIx_tup, fLen_lst, fLen_tup, fAbs_int, fInt1_int, fInt1_bl, fGcd_int, fTuple_lst, fTuple_tup, fList_lst, fList_tup, fTru_bl, fTru_lst, fTru_tup, fIsB_bl, atI_0, atI_1, ty_int, ty_bl, ty_lst, ty_tup, ty_str, ty_non, List.map_cons, List.map_nil, List.length_cons, List.length_nil, List.replicate, List.cons_append, List.nil_append, List.getElem?_cons_zero, List.getElem?_cons_succ, List.set_cons_zero, List.set_cons_succ, List.zip_cons_cons, List.zip_nil_right, List.zip_nil_left, Option.some.injEq, exists_eq_left', exists_eq_left, Nat.reduceAdd, Nat.reduceSub, Nat.reduceEqDiff, PyData.bool.injEq, PyData.int.injEq, PyData.list.injEq, PyData.tuple.injEq, if_true, if_false, reduceIte, true_and, and_true, decide_true, decide_false, Bool.false_eq_true])
        refine drop_then (by decide) (by exact small9 (by decide)) fun v g2 v0 v1 => ?_
        (try simp only [fEq_int, fNe_int, ok_eK, ok_lNil, ok_lCons, ok_e2, ok_e1, ok_eF, ok_eTup, ok_nLst, ok_eN, ok_mB, ok_mTru, ok_mNot, ok_mAnd, ok_mOr, ok_eAnd, ok_eOr, ok_eNot, ok_eIf, ok_eIsi, ok_eIsi2, ok_eTyC, ok_eCall, ok_eCallK, ok_oNo, ok_oAt, ok_eSl, ok_iOf, ok_iOfT, ok_iRg1, oks_sNx, oks_sSeq, oks_sSet, oks_sOwn, oks_sDrop, oks_sRet, oks_sIf, oks_sAsg, oks_sPar, oks_sFor, ok_runD, ok_some, oks_some, startE, eV, setsE, Tg.parts, fAdd_int, fAdd_lst, fAdd_tup, fSub_int, fMul_int, fDiv_int, fMod_int, fPow_int, fLt_int, fLe_int, fGt_int, fGe_int, fNeg_int, fIx_lst, fIx_tup, fLen_lst, fLen_tup, fAbs_int, fInt1_int, fInt1_bl, fGcd_int, fTuple_lst, fTuple_tup, fList_lst, fList_tup, fTru_bl, fTru_lst, fTru_tup, fIsB_bl, atI_0, atI_1, ty_int, ty_bl, ty_lst, ty_tup, ty_str, ty_non, List.map_cons, List.map_nil, List.length_cons, List.length_nil, List.replicate, List.cons_append, List.nil_append, List.getElem?_cons_zero, List.getElem?_cons_succ, List.set_cons_zero, List.set_cons_succ, List.zip_cons_cons, List.zip_nil_right, List.zip_nil_left, Option.some.injEq, exists_eq_left', exists_eq_left, Nat.reduceAdd, Nat.reduceSub, Nat.reduceEqDiff, PyData.bool.injEq, PyData.int.injEq, PyData.list.injEq, PyData.tuple.injEq, if_true, if_false, reduceIte, true_and, and_true, decide_true, decide_false, Bool.false_eq_true])
        refine drop_then (by decide) (by exact small9 (by decide)) fun u g3 u0 u1 => ?_
        (try simp only [fEq_int, fNe_int, ok_eK, ok_lNil, ok_lCons, ok_e2, ok_e1, ok_eF, ok_eTup, ok_nLst, ok_eN, ok_mB, ok_mTru, ok_mNot, ok_mAnd, ok_mOr, ok_eAnd, ok_eOr, ok_eNot, ok_eIf, ok_eIsi, ok_eIsi2, ok_eTyC, ok_eCall, ok_eCallK, ok_oNo, ok_oAt, ok_eSl, ok_iOf, ok_iOfT, ok_iRg1, oks_sNx, oks_sSeq, oks_sSet, oks_sOwn, oks_sDrop, oks_sRet, oks_sIf, oks_sAsg, oks_sPar, oks_sFor, ok_runD, ok_some, oks_some, startE, eV, setsE, Tg.parts, fAdd_int, fAdd_lst, fAdd_tup, fSub_int, fMul_int, fDiv_int, fMod_int, fPow_int, fLt_int, fLe_int, fGt_int, fGe_int, fNeg_int, fIx_lst, fIx_tup, fLen_lst, fLen_tup, fAbs_int, fInt1_int, fInt1_bl, fGcd_int, fTuple_lst, fTuple_tup, fList_lst, fList_tup, fTru_bl, fTru_lst, fTru_tup, fIsB_bl, atI_0, atI_1, ty_int, ty_bl, ty_lst, ty_tup, ty_str, ty_non, List.map_cons, List.map_nil, List.length_cons, List.length_nil, List.replicate, List.cons_append, List.nil_append, List.getElem?_cons_zero, List.getElem?_cons_succ, List.set_cons_zero, List.set_cons_succ, List.zip_cons_cons, List.zip_nil_right, List.zip_nil_left, Option.some.injEq, exists_eq_left', exists_eq_left, Nat.reduceAdd, Nat.reduceSub, Nat.reduceEqDiff, PyData.bool.injEq, PyData.int.injEq, PyData.list.injEq, PyData.tuple.injEq, if_true, if_false, reduceIte, true_and, and_true, decide_true, decide_false, Bool.false_eq_true])
        exact low_fr (by omega) (by omega) (by omega) _
theorem any_ok (g : G) : Ok (F_law_any [.dict []] g) IsFr := by
  have p140 : (10 : Nat) ^ 40 < 2 ^ 140 := by decide
  have q40 : ((10 : Int) ^ (40 : Int).toNat) = 10000000000000000000000000000000000000000 := by decide
  have q39 : ((10 : Int) ^ (39 : Int).toNat) = 1000000000000000000000000000000000000000 := by decide
  have q9 : ((10 : Int) ^ (9 : Int).toNat) = 1000000000 := by decide
  have c40 : (decide ((0 : Int) ≤ 40) && decide ((40 : Int) ≤ 1000000) && decide ((10 : Int).natAbs < 2 ^ 64)) = true := by decide
  have c39 : (decide ((0 : Int) ≤ 39) && decide ((39 : Int) ≤ 1000000) && decide ((10 : Int).natAbs < 2 ^ 64)) = true := by decide
  have c9 : (decide ((0 : Int) ≤ 9) && decide ((9 : Int) ≤ 1000000) && decide ((10 : Int).natAbs < 2 ^ 64)) = true := by decide
  unfold F_law_any m_law_any
  (try simp only [fEq_int, fNe_int, ok_eK, ok_lNil, ok_lCons, ok_e2, ok_e1, ok_eF, ok_eTup, ok_nLst, ok_eN, ok_mB, ok_mTru, ok_mNot, ok_mAnd, ok_mOr, ok_eAnd, ok_eOr, ok_eNot, ok_eIf, ok_eIsi, ok_eIsi2, ok_eTyC, ok_eCall, ok_eCallK, ok_oNo, ok_oAt, ok_eSl, ok_iOf, ok_iOfT, ok_iRg1, oks_sNx, oks_sSeq, oks_sSet, oks_sOwn, oks_sDrop, oks_sRet, oks_sIf, oks_sAsg, oks_sPar, oks_sFor, ok_runD, ok_some, oks_some, startE, eV, setsE, Tg.parts, fAdd_int, fAdd_lst, fAdd_tup, fSub_int, fMul_int, fDiv_int, fMod_int, fPow_int, fLt_int, fLe_int, fGt_int, fGe_int, fNeg_int, fIx_lst, fIx_tup, fLen_lst, fLen_tup, fAbs_int, fInt1_int, fInt1_bl, fGcd_int, fTuple_lst, fTuple_tup, fList_lst, fList_tup, fTru_bl, fTru_lst, fTru_tup, fIsB_bl, atI_0, atI_1, ty_int, ty_bl, ty_lst, ty_tup, ty_str, ty_non, List.map_cons, List.map_nil, List.length_cons, List.length_nil, List.replicate, List.cons_append, List.nil_append, List.getElem?_cons_zero, List.getElem?_cons_succ, List.set_cons_zero, List.set_cons_succ, List.zip_cons_cons, List.zip_nil_right, List.zip_nil_left, Option.some.injEq, exists_eq_left', exists_eq_left, Nat.reduceAdd, Nat.reduceSub, Nat.reduceEqDiff, PyData.bool.injEq, PyData.int.injEq, PyData.list.injEq, PyData.tuple.injEq, if_true, if_false, reduceIte, true_and, and_true, decide_true, decide_false, Bool.false_eq_true])
  refine drop_then (by decide) (by exact small9 (by decide)) fun w g1 w0 w1 => ?_
  (try simp only [fEq_int, fNe_int, ok_eK, ok_lNil, ok_lCons, ok_e2, ok_e1, ok_eF, ok_eTup, ok_nLst, ok_eN, ok_mB, ok_mTru, ok_mNot, ok_mAnd, ok_mOr, ok_eAnd, ok_eOr, ok_eNot, ok_eIf, ok_eIsi, ok_eIsi2, ok_eTyC, ok_eCall, ok_eCallK, ok_oNo, ok_oAt, ok_eSl, ok_iOf, ok_iOfT, ok_iRg1, oks_sNx, oks_sSeq, oks_sSet, oks_sOwn, oks_sDrop, oks_sRet, oks_sIf, oks_sAsg, oks_sPar, oks_sFor, ok_runD, ok_some, oks_some, startE, eV, setsE, Tg.parts, fAdd_int, fAdd_lst, fAdd_tup, fSub_int, fMul_int, fDiv_int, fMod_int, fPow_int, fLt_int, fLe_int, fGt_int, fGe_int, fNeg_int, fIx_lst, fIx_tup, fLen_lst, fLen_tup, fAbs_int, fInt1_int, fInt1_bl, fGcd_int, fTuple_lst, fTuple_tup, fList_lst, fList_tup, fTru_bl, fTru_lst, fTru_tup, fIsB_bl, atI_0, atI_1, ty_int, ty_bl, ty_lst, ty_tup, ty_str, ty_non, List.map_cons, List.map_nil, List.length_cons, List.length_nil, List.replicate, List.cons_append, List.nil_append, List.getElem?_cons_zero, List.getElem?_cons_succ, List.set_cons_zero, List.set_cons_succ, List.zip_cons_cons, List.zip_nil_right, List.zip_nil_left, Option.some.injEq, exists_eq_left', exists_eq_left, Nat.reduceAdd, Nat.reduceSub, Nat.reduceEqDiff, PyData.bool.injEq, PyData.int.injEq, PyData.list.injEq, PyData.tuple.injEq, if_true, if_false, reduceIte, true_and, and_true, decide_true, decide_false, Bool.false_eq_true])
  by_cases h0 : 0 < w
  · simp only [h0, decide_true, if_true]
    (try simp only [fEq_int, fNe_int, ok_eK, ok_lNil, ok_lCons, ok_e2, ok_e1, ok_eF, ok_eTup, ok_nLst, ok_eN, ok_mB, ok_mTru, ok_mNot, ok_mAnd, ok_mOr, ok_eAnd, ok_eOr, ok_eNot, ok_eIf, ok_eIsi, ok_eIsi2, ok_eTyC, ok_eCall, ok_eCallK, ok_oNo, ok_oAt, ok_eSl, ok_iOf, ok_iOfT, ok_iRg1, oks_sNx, oks_sSeq, oks_sSet, oks_sOwn, oks_sDrop, oks_sRet, oks_sIf, oks_sAsg, oks_sPar, oks_sFor, ok_runD, ok_some, oks_some, startE, eV, setsE, Tg.parts, fAdd_int, fAdd_lst, fAdd_tup, fSub_int, fMul_int, fDiv_int, fMod_int, fPow_int, fLt_int, fLe_int, fGt_int, fGe_int, fNeg_int, fIx_lst, fIx_tup, fLen_lst, fLen_tup, fAbs_int, fInt1_int, fInt1_bl, fGcd_int, fTuple_lst, fTuple_tup, fList_lst, fList_tup, fTru_bl, fTru_lst, fTru_tup, fIsB_bl, atI_0, atI_1, ty_int, ty_bl, ty_lst, ty_tup, ty_str, ty_non, List.map_cons, List.map_nil, List.length_cons, List.length_nil, List.replicate, List.cons_append, List.nil_append, List.getElem?_cons_zero, List.getElem?_cons_succ, List.set_cons_zero, List.set_cons_succ, List.zip_cons_cons, List.zip_nil_right, List.zip_nil_left, Option.some.injEq, exists_eq_left', exists_eq_left, Nat.reduceAdd, Nat.reduceSub, Nat.reduceEqDiff, PyData.bool.injEq, PyData.int.injEq, PyData.list.injEq, PyData.tuple.injEq, if_true, if_false, reduceIte, true_and, and_true, decide_true, decide_false, Bool.false_eq_true])
    exact (number_ok g1).mono fun d g2 h => h
  · simp only [h0, decide_false, Bool.false_eq_true, if_false]
    (try simp only [fEq_int, fNe_int, ok_eK, ok_lNil, ok_lCons, ok_e2, ok_e1, ok_eF, ok_eTup, ok_nLst, ok_eN, ok_mB, ok_mTru, ok_mNot, ok_mAnd, ok_mOr, ok_eAnd, ok_eOr, ok_eNot, ok_eIf, ok_eIsi, ok_eIsi2, ok_eTyC, ok_eCall, ok_eCallK, ok_oNo, ok_oAt, ok_eSl, ok_iOf, ok_iOfT, ok_iRg1, oks_sNx, oks_sSeq, oks_sSet, oks_sOwn, oks_sDrop, oks_sRet, oks_sIf, oks_sAsg, oks_sPar, oks_sFor, ok_runD, ok_some, oks_some, startE, eV, setsE, Tg.parts, fAdd_int, fAdd_lst, fAdd_tup, fSub_int, fMul_int, fDiv_int, fMod_int, fPow_int, fLt_int, fLe_int, fGt_int, fGe_int, fNeg_int, fIx_lst, fIx_tup, fLen_lst, fLen_tup, fAbs_int, fInt1_int, fInt1_bl, fGcd_int, fTuple_lst, fTuple_tup, fList_lst, fList_tup, fTru_bl, fTru_lst, fTru_tup, fIsB_bl, atI_0, atI_1, ty_int, ty_bl, ty_lst, ty_tup, ty_str, ty_non, List.map_cons, List.map_nil, List.length_cons, List.length_nil, List.replicate, List.cons_append, List.nil_append, List.getElem?_cons_zero, List.getElem?_cons_succ, List.set_cons_zero, List.set_cons_succ, List.zip_cons_cons, List.zip_nil_right, List.zip_nil_left, Option.some.injEq, exists_eq_left', exists_eq_left, Nat.reduceAdd, Nat.reduceSub, Nat.reduceEqDiff, PyData.bool.injEq, PyData.int.injEq, PyData.list.injEq, PyData.tuple.injEq, if_true, if_false, reduceIte, true_and, and_true, decide_true, decide_false, Bool.false_eq_true])
    rw [if_pos c40, if_pos c39, if_pos c9]
    (try simp only [fEq_int, fNe_int, ok_eK, ok_lNil, ok_lCons, ok_e2, ok_e1, ok_eF, ok_eTup, ok_nLst, ok_eN, ok_mB, ok_mTru, ok_mNot, ok_mAnd, ok_mOr, ok_eAnd, ok_eOr, ok_eNot, ok_eIf, ok_eIsi, ok_eIsi2, ok_eTyC, ok_eCall, ok_eCallK, ok_oNo, ok_oAt, ok_eSl, ok_iOf, ok_iOfT, ok_iRg1, oks_sNx, oks_sSeq, oks_sSet, oks_sOwn, oks_sDrop, oks_sRet, oks_sIf, oks_sAsg, oks_sPar, oks_sFor, ok_runD, ok_some, oks_some, startE, eV, setsE, Tg.parts, fAdd_int, fAdd_lst, fAdd_tup, fSub_int, fMul_int, fDiv_int, fMod_int, fPow_int, fLt_int, fLe_int, fGt_int, fGe_int, fNeg_int, fIx_lst, fIx_tup, fLen_lst, fLen_tup, fAbs_int, fInt1_int, fInt1_bl, fGcd_int, fTuple_lst, fTuple_tup, fList_lst, fList_tup, fTru_bl, fTru_lst, fTru_tup, fIsB_bl, atI_0, atI_1, ty_int, ty_bl, ty_lst, ty_tup, ty_str, ty_non, List.map_cons, List.map_nil, List.length_cons, List.length_nil, List.replicate, List.cons_append, List.nil_append, List.getElem?_cons_zero, List.getElem?_cons_succ, List.set_cons_zero, List.set_cons_succ, List.zip_cons_cons, List.zip_nil_right, List.zip_nil_left, Option.some.injEq, exists_eq_left', exists_eq_left, Nat.reduceAdd, Nat.reduceSub, Nat.reduceEqDiff, PyData.bool.injEq, PyData.int.injEq, PyData.list.injEq, PyData.tuple.injEq, if_true, if_false, reduceIte, true_and, and_true, decide_true, decide_false, Bool.false_eq_true])
    rw [q40, q39, q9]
    refine drop_then (by decide) (by exact small9 (by decide)) fun v g2 v0 v1 => ?_
    (try simp only [fEq_int, fNe_int, ok_eK, ok_lNil, ok_lCons, ok_e2, ok_e1, ok_eF, ok_eTup, ok_nLst, ok_eN, ok_mB, ok_mTru, ok_mNot, ok_mAnd, ok_mOr, ok_eAnd, ok_eOr, ok_eNot, ok_eIf, ok_eIsi, ok_eIsi2, ok_eTyC, ok_eCall, ok_eCallK, ok_oNo, ok_oAt, ok_eSl, ok_iOf, ok_iOfT, ok_iRg1, oks_sNx, oks_sSeq, oks_sSet, oks_sOwn, oks_sDrop, oks_sRet, oks_sIf, oks_sAsg, oks_sPar, oks_sFor, ok_runD, ok_some, oks_some, startE, eV, setsE, Tg.parts, fAdd_int, fAdd_lst, fAdd_tup, fSub_int, fMul_int, fDiv_int, fMod_int, fPow_int, fLt_int, fLe_int, fGt_int, fGe_int, fNeg_int, fIx_lst, fIx_tup, fLen_lst, fLen_tup, fAbs_int, fInt1_int, fInt1_bl, fGcd_int, fTuple_lst, fTuple_tup, fList_lst, fList_tup, fTru_bl, fTru_lst, fTru_tup, fIsB_bl, atI_0, atI_1, ty_int, ty_bl, ty_lst, ty_tup, ty_str, ty_non, List.map_cons, List.map_nil, List.length_cons, List.length_nil, List.replicate, List.cons_append, List.nil_append, List.getElem?_cons_zero, List.getElem?_cons_succ, List.set_cons_zero, List.set_cons_succ, List.zip_cons_cons, List.zip_nil_right, List.zip_nil_left, Option.some.injEq, exists_eq_left', exists_eq_left, Nat.reduceAdd, Nat.reduceSub, Nat.reduceEqDiff, PyData.bool.injEq, PyData.int.injEq, PyData.list.injEq, PyData.tuple.injEq, if_true, if_false, reduceIte, true_and, and_true, decide_true, decide_false, Bool.false_eq_true])
    refine ⟨by decide, drop_then (by decide) (by exact small9 (by decide)) fun u g3 u0 u1 => ?_⟩
    have : u = 0 ∨ u = 1 := by omega
    rcases this with rfl | rfl
    · refine ⟨.int 10000000000000000000000000000000000000000, rfl, ?_⟩
      refine drop_then (by decide) (by exact small9 (by decide)) fun z g4 z0 z1 => ?_
      (try simp only [fEq_int, fNe_int, ok_eK, ok_lNil, ok_lCons, ok_e2, ok_e1, ok_eF, ok_eTup, ok_nLst, ok_eN, ok_mB, ok_mTru, ok_mNot, ok_mAnd, ok_mOr, ok_eAnd, ok_eOr, ok_eNot, ok_eIf, ok_eIsi, ok_eIsi2, ok_eTyC, ok_eCall, ok_eCallK, ok_oNo, ok_oAt, ok_eSl, ok_iOf, ok_iOfT, ok_iRg1, oks_sNx, oks_sSeq, oks_sSet, oks_sOwn, oks_sDrop, oks_sRet, oks_sIf, oks_sAsg, oks_sPar, oks_sFor, ok_runD, ok_some, oks_some, startE, eV, setsE, Tg.parts, fAdd_int, fAdd_lst, fAdd_tup, fSub_int, fMul_int, fDiv_int, fMod_int, fPow_int, fLt_int, fLe_int, fGt_int, fGe_int, fNeg_int, fIx_lst, fIx_tup, fLen_lst, fLen_tup, fAbs_int, fInt1_int, fInt1_bl, fGcd_int, fTuple_lst, fTuple_tup, fList_lst, fList_tup, fTru_bl, fTru_lst, fTru_tup, fIsB_bl, atI_0, atI_1, ty_int, ty_bl, ty_lst, ty_tup, ty_str, ty_non, List.map_cons, List.map_nil, List.length_cons, List.length_nil, List.replicate, List.cons_append, List.nil_append, List.getElem?_cons_zero, List.getElem?_cons_succ, List.set_cons_zero, List.set_cons_succ, List.zip_cons_cons, List.zip_nil_right, List.zip_nil_left, Option.some.injEq, exists_eq_left', exists_eq_left, Nat.reduceAdd, Nat.reduceSub, Nat.reduceEqDiff, PyData.bool.injEq, PyData.int.injEq, PyData.list.injEq, PyData.tuple.injEq, if_true, if_false, reduceIte, true_and, and_true, decide_true, decide_false, Bool.false_eq_true])
      exact low_fr (by omega) (by omega) (by omega) _
    · refine ⟨.int 1000000000, rfl, ?_⟩
      refine drop_then (by decide) (by exact small9 (by decide)) fun z g4 z0 z1 => ?_
      (try simp only [fEq_int, fNe_int, ok_eK, ok_lNil, ok_lCons, ok_e2, ok_e1, ok_eF, ok_eTup, ok_nLst, ok_eN, ok_mB, ok_mTru, ok_mNot, ok_mAnd, ok_mOr, ok_eAnd, ok_eOr, ok_eNot, ok_eIf, ok_eIsi, ok_eIsi2, ok_eTyC, ok_eCall, ok_eCallK, ok_oNo, ok_oAt, ok_eSl, ok_iOf, ok_iOfT, ok_iRg1, oks_sNx, oks_sSeq, oks_sSet, oks_sOwn, oks_sDrop, oks_sRet, oks_sIf, oks_sAsg, oks_sPar, oks_sFor, ok_runD, ok_some, oks_some, startE, eV, setsE, Tg.parts, fAdd_int, fAdd_lst, fAdd_tup, fSub_int, fMul_int, fDiv_int, fMod_int, fPow_int, fLt_int, fLe_int, fGt_int, fGe_int, fNeg_int, fIx_lst, fIx_tup, fLen_lst, fLen_tup, fAbs_int, fInt1_int, fInt1_bl, fGcd_int, fTuple_lst, fTuple_tup, fList_lst, fList_tup, fTru_bl, fTru_lst, fTru_tup, fIsB_bl, atI_0, atI_1, ty_int, ty_bl, ty_lst, ty_tup, ty_str, ty_non, List.map_cons, List.map_nil, List.length_cons, List.length_nil, List.replicate, List.cons_append, List.nil_append, List.getElem?_cons_zero, List.getElem?_cons_succ, List.set_cons_zero, List.set_cons_succ, List.zip_cons_cons, List.zip_nil_right, List.zip_nil_left, Option.some.injEq, exists_eq_left', exists_eq_left, Nat.reduceAdd, Nat.reduceSub, Nat.reduceEqDiff, PyData.bool.injEq, PyData.int.injEq, PyData.list.injEq, PyData.tuple.injEq, if_true, if_false, reduceIte, true_and, and_true, decide_true, decide_false, Bool.false_eq_true])
      exact low_fr (by omega) (by omega) (by omega) _
end K01

set_option Elab.async false
set_option linter.all false
set_option maxRecDepth 100000
set_option maxHeartbeats 4000000
namespace K01
open PySem PySem.Spec PyProof.Rows L2 DL
theorem fIx_fr0 {r : Rat} : fIx (fr r) (.int 0) = some (.int r.num) := rfl
theorem fIx_fr1 {r : Rat} : fIx (fr r) (.int 1) = some (.int (r.den : Int)) := rfl
/-! is -/
theorem is_item (d : D) (S : String) (h : tyN d = some S) (g : G) (E : En) (he : 1 < E.length) : (eAnd (eIsi "int" (eV false 1)) (eNot (eIsi "bool" (eV false 1)))) (setsE [(1, d)] E) g = some (.bool (isT "int" S && !isT "bool" S), g) := by
  refine Ok.eq ?_
  have e1 : (setsE [(1, d)] E)[1]? = some (.val d) := by simp [setsE, he]
  simp only [ok_eAnd, ok_eIsi, ok_eNot, eV, e1, ok_some, h, Option.some.injEq, exists_eq_left', fTru_bl]
  cases isT "int" S <;> simp
theorem lcL_two {tg : Tg} {e : M} {E : En} {g : G} {x y a b : D} {ps qs : List (Nat × D)} (h1 : tg.parts x = some ps) (h2 : e (setsE ps E) g = some (a, g)) (h3 : tg.parts y = some qs) (h4 : e (setsE qs E) g = some (b, g)) : lcL tg mYes e E [x, y] g = some ([a, b], g) := by
  unfold lcL
  rw [h1]
  simp only [mYes, h2]
  unfold lcL
  rw [h3]
  simp only [mYes, h4]
  rfl
theorem fAll_two (a b : Bool) : fAll [.list [.bool a, .bool b]] = some (.bool (a && b)) := by cases a <;> cases b <;> rfl
theorem is_two (x y : D) (S T : String) (hx : tyN x = some S) (hy : tyN y = some T) (g : G) (z : ((isT "int" S && !isT "bool" S) && (isT "int" T && !isT "bool" T)) = false) : F_law_is [.tuple [x, y]] g = some (.bool false, g) := by
  refine Ok.eq ?_
  unfold F_law_is m_law_is
  (try simp only [fEq_int, fNe_int, ok_eK, ok_lNil, ok_lCons, ok_e2, ok_e1, ok_eF, ok_eTup, ok_nLst, ok_eN, ok_mB, ok_mTru, ok_mNot, ok_mAnd, ok_mOr, ok_eAnd, ok_eOr, ok_eNot, ok_eIf, ok_eIsi, ok_eIsi2, ok_eTyC, ok_eCall, ok_eCallK, ok_oNo, ok_oAt, ok_eSl, ok_iOf, ok_iOfT, ok_iRg1, oks_sNx, oks_sSeq, oks_sSet, oks_sOwn, oks_sDrop, oks_sRet, oks_sIf, oks_sAsg, oks_sPar, oks_sFor, ok_runD, ok_some, oks_some, startE, eV, setsE, Tg.parts, fAdd_int, fAdd_lst, fAdd_tup, fSub_int, fMul_int, fDiv_int, fMod_int, fPow_int, fLt_int, fLe_int, fGt_int, fGe_int, fNeg_int, fIx_lst, fIx_tup, fLen_lst, fLen_tup, fAbs_int, fInt1_int, fInt1_bl, fGcd_int, fTuple_lst, fTuple_tup, fList_lst, fList_tup, fTru_bl, fTru_lst, fTru_tup, fIsB_bl, atI_0, atI_1, ty_int, ty_bl, ty_lst, ty_tup, ty_str, ty_non, List.map_cons, List.map_nil, List.length_cons, List.length_nil, List.replicate, List.cons_append, List.nil_append, List.getElem?_cons_zero, List.getElem?_cons_succ, List.set_cons_zero, List.set_cons_succ, List.zip_cons_cons, List.zip_nil_right, List.zip_nil_left, Option.some.injEq, exists_eq_left', exists_eq_left, Nat.reduceAdd, Nat.reduceSub, Nat.reduceEqDiff, PyData.bool.injEq, PyData.int.injEq, PyData.list.injEq, PyData.tuple.injEq, if_true, if_false, reduceIte, true_and, and_true, decide_true, decide_false, Bool.false_eq_true])
  have i1 : isT "tuple" "tuple" = true := by decide
  simp only [i1, Bool.not_true, Bool.false_eq_true, if_false]
  (try simp only [fEq_int, fNe_int, ok_eK, ok_lNil, ok_lCons, ok_e2, ok_e1, ok_eF, ok_eTup, ok_nLst, ok_eN, ok_mB, ok_mTru, ok_mNot, ok_mAnd, ok_mOr, ok_eAnd, ok_eOr, ok_eNot, ok_eIf, ok_eIsi, ok_eIsi2, ok_eTyC, ok_eCall, ok_eCallK, ok_oNo, ok_oAt, ok_eSl, ok_iOf, ok_iOfT, ok_iRg1, oks_sNx, oks_sSeq, oks_sSet, oks_sOwn, oks_sDrop, oks_sRet, oks_sIf, oks_sAsg, oks_sPar, oks_sFor, ok_runD, ok_some, oks_some, startE, eV, setsE, Tg.parts, fAdd_int, fAdd_lst, fAdd_tup, fSub_int, fMul_int, fDiv_int, fMod_int, fPow_int, fLt_int, fLe_int, fGt_int, fGe_int, fNeg_int, fIx_lst, fIx_tup, fLen_lst, fLen_tup, fAbs_int, fInt1_int, fInt1_bl, fGcd_int, fTuple_lst, fTuple_tup, fList_lst, fList_tup, fTru_bl, fTru_lst, fTru_tup, fIsB_bl, atI_0, atI_1, ty_int, ty_bl, ty_lst, ty_tup, ty_str, ty_non, List.map_cons, List.map_nil, List.length_cons, List.length_nil, List.replicate, List.cons_append, List.nil_append, List.getElem?_cons_zero, List.getElem?_cons_succ, List.set_cons_zero, List.set_cons_succ, List.zip_cons_cons, List.zip_nil_right, List.zip_nil_left, Option.some.injEq, exists_eq_left', exists_eq_left, Nat.reduceAdd, Nat.reduceSub, Nat.reduceEqDiff, PyData.bool.injEq, PyData.int.injEq, PyData.list.injEq, PyData.tuple.injEq, if_true, if_false, reduceIte, true_and, and_true, decide_true, decide_false, Bool.false_eq_true])
  simp only [show ((0 + 1 + 1 : Nat) : Int) = 2 from rfl, decide_true, Bool.not_true, Bool.false_eq_true, if_false]
  (try simp only [fEq_int, fNe_int, ok_eK, ok_lNil, ok_lCons, ok_e2, ok_e1, ok_eF, ok_eTup, ok_nLst, ok_eN, ok_mB, ok_mTru, ok_mNot, ok_mAnd, ok_mOr, ok_eAnd, ok_eOr, ok_eNot, ok_eIf, ok_eIsi, ok_eIsi2, ok_eTyC, ok_eCall, ok_eCallK, ok_oNo, ok_oAt, ok_eSl, ok_iOf, ok_iOfT, ok_iRg1, oks_sNx, oks_sSeq, oks_sSet, oks_sOwn, oks_sDrop, oks_sRet, oks_sIf, oks_sAsg, oks_sPar, oks_sFor, ok_runD, ok_some, oks_some, startE, eV, setsE, Tg.parts, fAdd_int, fAdd_lst, fAdd_tup, fSub_int, fMul_int, fDiv_int, fMod_int, fPow_int, fLt_int, fLe_int, fGt_int, fGe_int, fNeg_int, fIx_lst, fIx_tup, fLen_lst, fLen_tup, fAbs_int, fInt1_int, fInt1_bl, fGcd_int, fTuple_lst, fTuple_tup, fList_lst, fList_tup, fTru_bl, fTru_lst, fTru_tup, fIsB_bl, atI_0, atI_1, ty_int, ty_bl, ty_lst, ty_tup, ty_str, ty_non, List.map_cons, List.map_nil, List.length_cons, List.length_nil, List.replicate, List.cons_append, List.nil_append, List.getElem?_cons_zero, List.getElem?_cons_succ, List.set_cons_zero, List.set_cons_succ, List.zip_cons_cons, List.zip_nil_right, List.zip_nil_left, Option.some.injEq, exists_eq_left', exists_eq_left, Nat.reduceAdd, Nat.reduceSub, Nat.reduceEqDiff, PyData.bool.injEq, PyData.int.injEq, PyData.list.injEq, PyData.tuple.injEq, if_true, if_false, reduceIte, true_and, and_true, decide_true, decide_false, Bool.false_eq_true])
  rw [ok_nLc (by rfl)]
  (try simp only [fEq_int, fNe_int, ok_eK, ok_lNil, ok_lCons, ok_e2, ok_e1, ok_eF, ok_eTup, ok_nLst, ok_eN, ok_mB, ok_mTru, ok_mNot, ok_mAnd, ok_mOr, ok_eAnd, ok_eOr, ok_eNot, ok_eIf, ok_eIsi, ok_eIsi2, ok_eTyC, ok_eCall, ok_eCallK, ok_oNo, ok_oAt, ok_eSl, ok_iOf, ok_iOfT, ok_iRg1, oks_sNx, oks_sSeq, oks_sSet, oks_sOwn, oks_sDrop, oks_sRet, oks_sIf, oks_sAsg, oks_sPar, oks_sFor, ok_runD, ok_some, oks_some, startE, eV, setsE, Tg.parts, fAdd_int, fAdd_lst, fAdd_tup, fSub_int, fMul_int, fDiv_int, fMod_int, fPow_int, fLt_int, fLe_int, fGt_int, fGe_int, fNeg_int, fIx_lst, fIx_tup, fLen_lst, fLen_tup, fAbs_int, fInt1_int, fInt1_bl, fGcd_int, fTuple_lst, fTuple_tup, fList_lst, fList_tup, fTru_bl, fTru_lst, fTru_tup, fIsB_bl, atI_0, atI_1, ty_int, ty_bl, ty_lst, ty_tup, ty_str, ty_non, List.map_cons, List.map_nil, List.length_cons, List.length_nil, List.replicate, List.cons_append, List.nil_append, List.getElem?_cons_zero, List.getElem?_cons_succ, List.set_cons_zero, List.set_cons_succ, List.zip_cons_cons, List.zip_nil_right, List.zip_nil_left, Option.some.injEq, exists_eq_left', exists_eq_left, Nat.reduceAdd, Nat.reduceSub, Nat.reduceEqDiff, PyData.bool.injEq, PyData.int.injEq, PyData.list.injEq, PyData.tuple.injEq, if_true, if_false, reduceIte, true_and, and_true, decide_true, decide_false, Bool.false_eq_true])
  refine ⟨sz_ok (by decide), ?_⟩
  rw [ok_eq (lcL_two rfl (is_item x S hx g _ (by exact Nat.lt_succ_self 1)) rfl (is_item y T hy g _ (by exact Nat.lt_succ_self 1)))]
  rw [fAll_two, z]
  (try simp only [fEq_int, fNe_int, ok_eK, ok_lNil, ok_lCons, ok_e2, ok_e1, ok_eF, ok_eTup, ok_nLst, ok_eN, ok_mB, ok_mTru, ok_mNot, ok_mAnd, ok_mOr, ok_eAnd, ok_eOr, ok_eNot, ok_eIf, ok_eIsi, ok_eIsi2, ok_eTyC, ok_eCall, ok_eCallK, ok_oNo, ok_oAt, ok_eSl, ok_iOf, ok_iOfT, ok_iRg1, oks_sNx, oks_sSeq, oks_sSet, oks_sOwn, oks_sDrop, oks_sRet, oks_sIf, oks_sAsg, oks_sPar, oks_sFor, ok_runD, ok_some, oks_some, startE, eV, setsE, Tg.parts, fAdd_int, fAdd_lst, fAdd_tup, fSub_int, fMul_int, fDiv_int, fMod_int, fPow_int, fLt_int, fLe_int, fGt_int, fGe_int, fNeg_int, fIx_lst, fIx_tup, fLen_lst, fLen_tup, fAbs_int, fInt1_int, fInt1_bl, fGcd_int, fTuple_lst, fTuple_tup, fList_lst, fList_tup, fTru_bl, fTru_lst, fTru_tup, fIsB_bl, atI_0, atI_1, ty_int, ty_bl, ty_lst, ty_tup, ty_str, ty_non, List.map_cons, List.map_nil, List.length_cons, List.length_nil, List.replicate, List.cons_append, List.nil_append, List.getElem?_cons_zero, List.getElem?_cons_succ, List.set_cons_zero, List.set_cons_succ, List.zip_cons_cons, List.zip_nil_right, List.zip_nil_left, Option.some.injEq, exists_eq_left', exists_eq_left, Nat.reduceAdd, Nat.reduceSub, Nat.reduceEqDiff, PyData.bool.injEq, PyData.int.injEq, PyData.list.injEq, PyData.tuple.injEq, if_true, if_false, reduceIte, true_and, and_true, decide_true, decide_false, Bool.false_eq_true])
  simp
theorem den_eq {t b : Int} (hb : 0 < b) : (decide ((Rat.divInt t b).num = t) && decide (((Rat.divInt t b).den : Int) = b)) = (Nat.gcd t.natAbs b.natAbs == 1) := by
  have hg : b.gcd t = Nat.gcd t.natAbs b.natAbs := by rw [Int.gcd, Nat.gcd_comm]
  have hn := low_num (t := t) (b := b) (by omega)
  rw [if_neg (by omega)] at hn
  have hd := Rat.den_divInt t b
  rw [if_neg (by omega), hg] at hd
  rw [← hn, hd]
  generalize hq : Nat.gcd t.natAbs b.natAbs = n
  have h0 : n ≠ 0 := by
    intro z
    rw [z] at hq
    have := (Nat.gcd_eq_zero_iff.mp hq).2
    omega
  by_cases h1 : n = 1
  · subst h1
    simp
    omega
  · have : b.natAbs / n < b.natAbs := Nat.div_lt_self (by omega) (by omega)
    have h2 : ¬ (((b.natAbs / n : Nat) : Int) = b) := by omega
    simp only [h2, decide_false, Bool.and_false]
    simp [h1]
theorem is_ints (t b : Int) (hb : b.natAbs < 2 ^ 9000) (g : G) : F_law_is [.tuple [.int t, .int b]] g = some (.bool (isFr (.tuple [.int t, .int b])), g) := by
  refine Ok.eq ?_
  unfold F_law_is m_law_is
  (try simp only [fEq_int, fNe_int, ok_eK, ok_lNil, ok_lCons, ok_e2, ok_e1, ok_eF, ok_eTup, ok_nLst, ok_eN, ok_mB, ok_mTru, ok_mNot, ok_mAnd, ok_mOr, ok_eAnd, ok_eOr, ok_eNot, ok_eIf, ok_eIsi, ok_eIsi2, ok_eTyC, ok_eCall, ok_eCallK, ok_oNo, ok_oAt, ok_eSl, ok_iOf, ok_iOfT, ok_iRg1, oks_sNx, oks_sSeq, oks_sSet, oks_sOwn, oks_sDrop, oks_sRet, oks_sIf, oks_sAsg, oks_sPar, oks_sFor, ok_runD, ok_some, oks_some, startE, eV, setsE, Tg.parts, fAdd_int, fAdd_lst, fAdd_tup, fSub_int, fMul_int, fDiv_int, fMod_int, fPow_int, fLt_int, fLe_int, fGt_int, fGe_int, fNeg_int, fIx_lst, fIx_tup, fLen_lst, fLen_tup, fAbs_int, fInt1_int, fInt1_bl, fGcd_int, fTuple_lst, fTuple_tup, fList_lst, fList_tup, fTru_bl, fTru_lst, fTru_tup, fIsB_bl, atI_0, atI_1, ty_int, ty_bl, ty_lst, ty_tup, ty_str, ty_non, List.map_cons, List.map_nil, List.length_cons, List.length_nil, List.replicate, List.cons_append, List.nil_append, List.getElem?_cons_zero, List.getElem?_cons_succ, List.set_cons_zero, List.set_cons_succ, List.zip_cons_cons, List.zip_nil_right, List.zip_nil_left, Option.some.injEq, exists_eq_left', exists_eq_left, Nat.reduceAdd, Nat.reduceSub, Nat.reduceEqDiff, PyData.bool.injEq, PyData.int.injEq, PyData.list.injEq, PyData.tuple.injEq, if_true, if_false, reduceIte, true_and, and_true, decide_true, decide_false, Bool.false_eq_true])
  have i1 : isT "tuple" "tuple" = true := by decide
  simp only [i1, Bool.not_true, Bool.false_eq_true, if_false]
  (try simp only [fEq_int, fNe_int, ok_eK, ok_lNil, ok_lCons, ok_e2, ok_e1, ok_eF, ok_eTup, ok_nLst, ok_eN, ok_mB, ok_mTru, ok_mNot, ok_mAnd, ok_mOr, ok_eAnd, ok_eOr, ok_eNot, ok_eIf, ok_eIsi, ok_eIsi2, ok_eTyC, ok_eCall, ok_eCallK, ok_oNo, ok_oAt, ok_eSl, ok_iOf, ok_iOfT, ok_iRg1, oks_sNx, oks_sSeq, oks_sSet, oks_sOwn, oks_sDrop, oks_sRet, oks_sIf, oks_sAsg, oks_sPar, oks_sFor, ok_runD, ok_some, oks_some, startE, eV, setsE, Tg.parts, fAdd_int, fAdd_lst, fAdd_tup, fSub_int, fMul_int, fDiv_int, fMod_int, fPow_int, fLt_int, fLe_int, fGt_int, fGe_int, fNeg_int, fIx_lst, fIx_tup, fLen_lst, fLen_tup, fAbs_int, fInt1_int, fInt1_bl, fGcd_int, fTuple_lst, fTuple_tup, fList_lst, fList_tup, fTru_bl, fTru_lst, fTru_tup, fIsB_bl, atI_0, atI_1, ty_int, ty_bl, ty_lst, ty_tup, ty_str, ty_non, List.map_cons, List.map_nil, List.length_cons, List.length_nil, List.replicate, List.cons_append, List.nil_append, List.getElem?_cons_zero, List.getElem?_cons_succ, List.set_cons_zero, List.set_cons_succ, List.zip_cons_cons, List.zip_nil_right, List.zip_nil_left, Option.some.injEq, exists_eq_left', exists_eq_left, Nat.reduceAdd, Nat.reduceSub, Nat.reduceEqDiff, PyData.bool.injEq, PyData.int.injEq, PyData.list.injEq, PyData.tuple.injEq, if_true, if_false, reduceIte, true_and, and_true, decide_true, decide_false, Bool.false_eq_true])
  simp only [show ((0 + 1 + 1 : Nat) : Int) = 2 from rfl, decide_true, Bool.not_true, Bool.false_eq_true, if_false]
  (try simp only [fEq_int, fNe_int, ok_eK, ok_lNil, ok_lCons, ok_e2, ok_e1, ok_eF, ok_eTup, ok_nLst, ok_eN, ok_mB, ok_mTru, ok_mNot, ok_mAnd, ok_mOr, ok_eAnd, ok_eOr, ok_eNot, ok_eIf, ok_eIsi, ok_eIsi2, ok_eTyC, ok_eCall, ok_eCallK, ok_oNo, ok_oAt, ok_eSl, ok_iOf, ok_iOfT, ok_iRg1, oks_sNx, oks_sSeq, oks_sSet, oks_sOwn, oks_sDrop, oks_sRet, oks_sIf, oks_sAsg, oks_sPar, oks_sFor, ok_runD, ok_some, oks_some, startE, eV, setsE, Tg.parts, fAdd_int, fAdd_lst, fAdd_tup, fSub_int, fMul_int, fDiv_int, fMod_int, fPow_int, fLt_int, fLe_int, fGt_int, fGe_int, fNeg_int, fIx_lst, fIx_tup, fLen_lst, fLen_tup, fAbs_int, fInt1_int, fInt1_bl, fGcd_int, fTuple_lst, fTuple_tup, fList_lst, fList_tup, fTru_bl, fTru_lst, fTru_tup, fIsB_bl, atI_0, atI_1, ty_int, ty_bl, ty_lst, ty_tup, ty_str, ty_non, List.map_cons, List.map_nil, List.length_cons, List.length_nil, List.replicate, List.cons_append, List.nil_append, List.getElem?_cons_zero, List.getElem?_cons_succ, List.set_cons_zero, List.set_cons_succ, List.zip_cons_cons, List.zip_nil_right, List.zip_nil_left, Option.some.injEq, exists_eq_left', exists_eq_left, Nat.reduceAdd, Nat.reduceSub, Nat.reduceEqDiff, PyData.bool.injEq, PyData.int.injEq, PyData.list.injEq, PyData.tuple.injEq, if_true, if_false, reduceIte, true_and, and_true, decide_true, decide_false, Bool.false_eq_true])
  rw [ok_nLc (by rfl)]
  (try simp only [fEq_int, fNe_int, ok_eK, ok_lNil, ok_lCons, ok_e2, ok_e1, ok_eF, ok_eTup, ok_nLst, ok_eN, ok_mB, ok_mTru, ok_mNot, ok_mAnd, ok_mOr, ok_eAnd, ok_eOr, ok_eNot, ok_eIf, ok_eIsi, ok_eIsi2, ok_eTyC, ok_eCall, ok_eCallK, ok_oNo, ok_oAt, ok_eSl, ok_iOf, ok_iOfT, ok_iRg1, oks_sNx, oks_sSeq, oks_sSet, oks_sOwn, oks_sDrop, oks_sRet, oks_sIf, oks_sAsg, oks_sPar, oks_sFor, ok_runD, ok_some, oks_some, startE, eV, setsE, Tg.parts, fAdd_int, fAdd_lst, fAdd_tup, fSub_int, fMul_int, fDiv_int, fMod_int, fPow_int, fLt_int, fLe_int, fGt_int, fGe_int, fNeg_int, fIx_lst, fIx_tup, fLen_lst, fLen_tup, fAbs_int, fInt1_int, fInt1_bl, fGcd_int, fTuple_lst, fTuple_tup, fList_lst, fList_tup, fTru_bl, fTru_lst, fTru_tup, fIsB_bl, atI_0, atI_1, ty_int, ty_bl, ty_lst, ty_tup, ty_str, ty_non, List.map_cons, List.map_nil, List.length_cons, List.length_nil, List.replicate, List.cons_append, List.nil_append, List.getElem?_cons_zero, List.getElem?_cons_succ, List.set_cons_zero, List.set_cons_succ, List.zip_cons_cons, List.zip_nil_right, List.zip_nil_left, Option.some.injEq, exists_eq_left', exists_eq_left, Nat.reduceAdd, Nat.reduceSub, Nat.reduceEqDiff, PyData.bool.injEq, PyData.int.injEq, PyData.list.injEq, PyData.tuple.injEq, if_true, if_false, reduceIte, true_and, and_true, decide_true, decide_false, Bool.false_eq_true])
  refine ⟨sz_ok (by decide), ?_⟩
  rw [ok_eq (lcL_two rfl (is_item (.int t) "int" rfl g _ (by exact Nat.lt_succ_self 1)) rfl (is_item (.int b) "int" rfl g _ (by exact Nat.lt_succ_self 1)))]
  rw [fAll_two, show (isT "int" "int" && !isT "bool" "int" && (isT "int" "int" && !isT "bool" "int")) = true by decide]
  (try simp only [fEq_int, fNe_int, ok_eK, ok_lNil, ok_lCons, ok_e2, ok_e1, ok_eF, ok_eTup, ok_nLst, ok_eN, ok_mB, ok_mTru, ok_mNot, ok_mAnd, ok_mOr, ok_eAnd, ok_eOr, ok_eNot, ok_eIf, ok_eIsi, ok_eIsi2, ok_eTyC, ok_eCall, ok_eCallK, ok_oNo, ok_oAt, ok_eSl, ok_iOf, ok_iOfT, ok_iRg1, oks_sNx, oks_sSeq, oks_sSet, oks_sOwn, oks_sDrop, oks_sRet, oks_sIf, oks_sAsg, oks_sPar, oks_sFor, ok_runD, ok_some, oks_some, startE, eV, setsE, Tg.parts, fAdd_int, fAdd_lst, fAdd_tup, fSub_int, fMul_int, fDiv_int, fMod_int, fPow_int, fLt_int, fLe_int, fGt_int, fGe_int, fNeg_int, fIx_lst, fIx_tup, fLen_lst, fLen_tup, fAbs_int, fInt1_int, fInt1_bl, fGcd_int, fTuple_lst, fTuple_tup, fList_lst, fList_tup, fTru_bl, fTru_lst, fTru_tup, fIsB_bl, atI_0, atI_1, ty_int, ty_bl, ty_lst, ty_tup, ty_str, ty_non, List.map_cons, List.map_nil, List.length_cons, List.length_nil, List.replicate, List.cons_append, List.nil_append, List.getElem?_cons_zero, List.getElem?_cons_succ, List.set_cons_zero, List.set_cons_succ, List.zip_cons_cons, List.zip_nil_right, List.zip_nil_left, Option.some.injEq, exists_eq_left', exists_eq_left, Nat.reduceAdd, Nat.reduceSub, Nat.reduceEqDiff, PyData.bool.injEq, PyData.int.injEq, PyData.list.injEq, PyData.tuple.injEq, if_true, if_false, reduceIte, true_and, and_true, decide_true, decide_false, Bool.false_eq_true])
  simp only [Bool.not_true, Bool.false_eq_true, if_false]
  (try simp only [fEq_int, fNe_int, ok_eK, ok_lNil, ok_lCons, ok_e2, ok_e1, ok_eF, ok_eTup, ok_nLst, ok_eN, ok_mB, ok_mTru, ok_mNot, ok_mAnd, ok_mOr, ok_eAnd, ok_eOr, ok_eNot, ok_eIf, ok_eIsi, ok_eIsi2, ok_eTyC, ok_eCall, ok_eCallK, ok_oNo, ok_oAt, ok_eSl, ok_iOf, ok_iOfT, ok_iRg1, oks_sNx, oks_sSeq, oks_sSet, oks_sOwn, oks_sDrop, oks_sRet, oks_sIf, oks_sAsg, oks_sPar, oks_sFor, ok_runD, ok_some, oks_some, startE, eV, setsE, Tg.parts, fAdd_int, fAdd_lst, fAdd_tup, fSub_int, fMul_int, fDiv_int, fMod_int, fPow_int, fLt_int, fLe_int, fGt_int, fGe_int, fNeg_int, fIx_lst, fIx_tup, fLen_lst, fLen_tup, fAbs_int, fInt1_int, fInt1_bl, fGcd_int, fTuple_lst, fTuple_tup, fList_lst, fList_tup, fTru_bl, fTru_lst, fTru_tup, fIsB_bl, atI_0, atI_1, ty_int, ty_bl, ty_lst, ty_tup, ty_str, ty_non, List.map_cons, List.map_nil, List.length_cons, List.length_nil, List.replicate, List.cons_append, List.nil_append, List.getElem?_cons_zero, List.getElem?_cons_succ, List.set_cons_zero, List.set_cons_succ, List.zip_cons_cons, List.zip_nil_right, List.zip_nil_left, Option.some.injEq, exists_eq_left', exists_eq_left, Nat.reduceAdd, Nat.reduceSub, Nat.reduceEqDiff, PyData.bool.injEq, PyData.int.injEq, PyData.list.injEq, PyData.tuple.injEq, if_true, if_false, reduceIte, true_and, and_true, decide_true, decide_false, Bool.false_eq_true])
  unfold isFr
  by_cases h : 0 < b
  · simp only [h, decide_true, if_true, Bool.true_and]
    (try simp only [fEq_int, fNe_int, ok_eK, ok_lNil, ok_lCons, ok_e2, ok_e1, ok_eF, ok_eTup, ok_nLst, ok_eN, ok_mB, ok_mTru, ok_mNot, ok_mAnd, ok_mOr, ok_eAnd, ok_eOr, ok_eNot, ok_eIf, ok_eIsi, ok_eIsi2, ok_eTyC, ok_eCall, ok_eCallK, ok_oNo, ok_oAt, ok_eSl, ok_iOf, ok_iOfT, ok_iRg1, oks_sNx, oks_sSeq, oks_sSet, oks_sOwn, oks_sDrop, oks_sRet, oks_sIf, oks_sAsg, oks_sPar, oks_sFor, ok_runD, ok_some, oks_some, startE, eV, setsE, Tg.parts, fAdd_int, fAdd_lst, fAdd_tup, fSub_int, fMul_int, fDiv_int, fMod_int, fPow_int, fLt_int, fLe_int, fGt_int, fGe_int, fNeg_int, fIx_lst, fIx_tup, fLen_lst, fLen_tup, fAbs_int, fInt1_int, fInt1_bl, fGcd_int, fTuple_lst, fTuple_tup, fList_lst, fList_tup, fTru_bl, fTru_lst, fTru_tup, fIsB_bl, atI_0, atI_1, ty_int, ty_bl, ty_lst, ty_tup, ty_str, ty_non, List.map_cons, List.map_nil, List.length_cons, List.length_nil, List.replicate, List.cons_append, List.nil_append, List.getElem?_cons_zero, List.getElem?_cons_succ, List.set_cons_zero, List.set_cons_succ, List.zip_cons_cons, List.zip_nil_right, List.zip_nil_left, Option.some.injEq, exists_eq_left', exists_eq_left, Nat.reduceAdd, Nat.reduceSub, Nat.reduceEqDiff, PyData.bool.injEq, PyData.int.injEq, PyData.list.injEq, PyData.tuple.injEq, if_true, if_false, reduceIte, true_and, and_true, decide_true, decide_false, Bool.false_eq_true])
    rw [ok_eq (low_ok (by omega) hb g)]
    unfold fr
    rw [fEq_pair, den_eq h]
    try simp
  · simp only [h, decide_false, Bool.false_eq_true, if_false, Bool.false_and]
    try simp
theorem is_no {d : D} {S : String} (h : tyN d = some S) (hs : isT "tuple" S = false) (g : G) : F_law_is [d] g = some (.bool false, g) := by
  refine Ok.eq ?_
  unfold F_law_is m_law_is
  simp only [ok_runD, oks_sSeq, oks_sIf, ok_mOr, ok_mNot, ok_mTru, ok_eIsi, startE, eV, ok_some, List.map_cons, List.map_nil, List.length_cons, List.length_nil, List.cons_append, List.getElem?_cons_zero, h, Option.some.injEq, exists_eq_left', hs, fTru_bl, Bool.not_false, if_true, oks_sRet, ok_eK]
  simp
theorem is_len (ds : List D) (h : ds.length ≠ 2) (g : G) : F_law_is [.tuple ds] g = some (.bool false, g) := by
  refine Ok.eq ?_
  unfold F_law_is m_law_is
  (try simp only [fEq_int, fNe_int, ok_eK, ok_lNil, ok_lCons, ok_e2, ok_e1, ok_eF, ok_eTup, ok_nLst, ok_eN, ok_mB, ok_mTru, ok_mNot, ok_mAnd, ok_mOr, ok_eAnd, ok_eOr, ok_eNot, ok_eIf, ok_eIsi, ok_eIsi2, ok_eTyC, ok_eCall, ok_eCallK, ok_oNo, ok_oAt, ok_eSl, ok_iOf, ok_iOfT, ok_iRg1, oks_sNx, oks_sSeq, oks_sSet, oks_sOwn, oks_sDrop, oks_sRet, oks_sIf, oks_sAsg, oks_sPar, oks_sFor, ok_runD, ok_some, oks_some, startE, eV, setsE, Tg.parts, fAdd_int, fAdd_lst, fAdd_tup, fSub_int, fMul_int, fDiv_int, fMod_int, fPow_int, fLt_int, fLe_int, fGt_int, fGe_int, fNeg_int, fIx_lst, fIx_tup, fLen_lst, fLen_tup, fAbs_int, fInt1_int, fInt1_bl, fGcd_int, fTuple_lst, fTuple_tup, fList_lst, fList_tup, fTru_bl, fTru_lst, fTru_tup, fIsB_bl, atI_0, atI_1, ty_int, ty_bl, ty_lst, ty_tup, ty_str, ty_non, List.map_cons, List.map_nil, List.length_cons, List.length_nil, List.replicate, List.cons_append, List.nil_append, List.getElem?_cons_zero, List.getElem?_cons_succ, List.set_cons_zero, List.set_cons_succ, List.zip_cons_cons, List.zip_nil_right, List.zip_nil_left, Option.some.injEq, exists_eq_left', exists_eq_left, Nat.reduceAdd, Nat.reduceSub, Nat.reduceEqDiff, PyData.bool.injEq, PyData.int.injEq, PyData.list.injEq, PyData.tuple.injEq, if_true, if_false, reduceIte, true_and, and_true, decide_true, decide_false, Bool.false_eq_true])
  have i1 : isT "tuple" "tuple" = true := by decide
  have h2 : ¬ ((ds.length : Int) = 2) := by omega
  simp only [i1, Bool.not_true, Bool.false_eq_true, if_false]
  (try simp only [fEq_int, fNe_int, ok_eK, ok_lNil, ok_lCons, ok_e2, ok_e1, ok_eF, ok_eTup, ok_nLst, ok_eN, ok_mB, ok_mTru, ok_mNot, ok_mAnd, ok_mOr, ok_eAnd, ok_eOr, ok_eNot, ok_eIf, ok_eIsi, ok_eIsi2, ok_eTyC, ok_eCall, ok_eCallK, ok_oNo, ok_oAt, ok_eSl, ok_iOf, ok_iOfT, ok_iRg1, oks_sNx, oks_sSeq, oks_sSet, oks_sOwn, oks_sDrop, oks_sRet, oks_sIf, oks_sAsg, oks_sPar, oks_sFor, ok_runD, ok_some, oks_some, startE, eV, setsE, Tg.parts, fAdd_int, fAdd_lst, fAdd_tup, fSub_int, fMul_int, fDiv_int, fMod_int, fPow_int, fLt_int, fLe_int, fGt_int, fGe_int, fNeg_int, fIx_lst, fIx_tup, fLen_lst, fLen_tup, fAbs_int, fInt1_int, fInt1_bl, fGcd_int, fTuple_lst, fTuple_tup, fList_lst, fList_tup, fTru_bl, fTru_lst, fTru_tup, fIsB_bl, atI_0, atI_1, ty_int, ty_bl, ty_lst, ty_tup, ty_str, ty_non, List.map_cons, List.map_nil, List.length_cons, List.length_nil, List.replicate, List.cons_append, List.nil_append, List.getElem?_cons_zero, List.getElem?_cons_succ, List.set_cons_zero, List.set_cons_succ, List.zip_cons_cons, List.zip_nil_right, List.zip_nil_left, Option.some.injEq, exists_eq_left', exists_eq_left, Nat.reduceAdd, Nat.reduceSub, Nat.reduceEqDiff, PyData.bool.injEq, PyData.int.injEq, PyData.list.injEq, PyData.tuple.injEq, if_true, if_false, reduceIte, true_and, and_true, decide_true, decide_false, Bool.false_eq_true])
  simp only [h2, decide_false, Bool.not_false, if_true]
  (try simp only [fEq_int, fNe_int, ok_eK, ok_lNil, ok_lCons, ok_e2, ok_e1, ok_eF, ok_eTup, ok_nLst, ok_eN, ok_mB, ok_mTru, ok_mNot, ok_mAnd, ok_mOr, ok_eAnd, ok_eOr, ok_eNot, ok_eIf, ok_eIsi, ok_eIsi2, ok_eTyC, ok_eCall, ok_eCallK, ok_oNo, ok_oAt, ok_eSl, ok_iOf, ok_iOfT, ok_iRg1, oks_sNx, oks_sSeq, oks_sSet, oks_sOwn, oks_sDrop, oks_sRet, oks_sIf, oks_sAsg, oks_sPar, oks_sFor, ok_runD, ok_some, oks_some, startE, eV, setsE, Tg.parts, fAdd_int, fAdd_lst, fAdd_tup, fSub_int, fMul_int, fDiv_int, fMod_int, fPow_int, fLt_int, fLe_int, fGt_int, fGe_int, fNeg_int, fIx_lst, fIx_tup, fLen_lst, fLen_tup, fAbs_int, fInt1_int, fInt1_bl, fGcd_int, fTuple_lst, fTuple_tup, fList_lst, fList_tup, fTru_bl, fTru_lst, fTru_tup, fIsB_bl, atI_0, atI_1, ty_int, ty_bl, ty_lst, ty_tup, ty_str, ty_non, List.map_cons, List.map_nil, List.length_cons, List.length_nil, List.replicate, List.cons_append, List.nil_append, List.getElem?_cons_zero, List.getElem?_cons_succ, List.set_cons_zero, List.set_cons_succ, List.zip_cons_cons, List.zip_nil_right, List.zip_nil_left, Option.some.injEq, exists_eq_left', exists_eq_left, Nat.reduceAdd, Nat.reduceSub, Nat.reduceEqDiff, PyData.bool.injEq, PyData.int.injEq, PyData.list.injEq, PyData.tuple.injEq, if_true, if_false, reduceIte, true_and, and_true, decide_true, decide_false, Bool.false_eq_true])
  try simp
theorem is_fr (r : Rat) (h : Sz 9000 r) (g : G) : F_law_is [fr r] g = some (.bool true, g) := by
  have := is_ints r.num r.den (den_bd h) g
  rw [show (PyData.tuple [.int r.num, .int (r.den : Int)]) = fr r from rfl, isFr_fr] at this
  exact this
theorem divInt_cross {t b : Int} (hb : b ≠ 0) : (Rat.divInt t b).num * b = t * (Rat.divInt t b).den := by
  have h := Rat.num_divInt_den (Rat.divInt t b)
  exact (Rat.divInt_eq_divInt_iff (den_ne _) hb).mp h
theorem means_ok {q : Rat} {t b : Int} (hb : b ≠ 0) (e : q = Rat.divInt t b) (hq : Sz 2000 q) (ht : t.natAbs < 2 ^ 2000) (hb2 : b.natAbs < 2 ^ 2000) (g : G) : F_law_means [fr q, .int t, .int b] g = some (.bool true, g) := by
  refine Ok.eq ?_
  unfold F_law_means m_law_means
  (try simp only [fEq_int, fNe_int, ok_eK, ok_lNil, ok_lCons, ok_e2, ok_e1, ok_eF, ok_eTup, ok_nLst, ok_eN, ok_mB, ok_mTru, ok_mNot, ok_mAnd, ok_mOr, ok_eAnd, ok_eOr, ok_eNot, ok_eIf, ok_eIsi, ok_eIsi2, ok_eTyC, ok_eCall, ok_eCallK, ok_oNo, ok_oAt, ok_eSl, ok_iOf, ok_iOfT, ok_iRg1, oks_sNx, oks_sSeq, oks_sSet, oks_sOwn, oks_sDrop, oks_sRet, oks_sIf, oks_sAsg, oks_sPar, oks_sFor, ok_runD, ok_some, oks_some, startE, eV, setsE, Tg.parts, fAdd_int, fAdd_lst, fAdd_tup, fSub_int, fMul_int, fDiv_int, fMod_int, fPow_int, fLt_int, fLe_int, fGt_int, fGe_int, fNeg_int, fIx_lst, fIx_tup, fLen_lst, fLen_tup, fAbs_int, fInt1_int, fInt1_bl, fGcd_int, fTuple_lst, fTuple_tup, fList_lst, fList_tup, fTru_bl, fTru_lst, fTru_tup, fIsB_bl, atI_0, atI_1, ty_int, ty_bl, ty_lst, ty_tup, ty_str, ty_non, List.map_cons, List.map_nil, List.length_cons, List.length_nil, List.replicate, List.cons_append, List.nil_append, List.getElem?_cons_zero, List.getElem?_cons_succ, List.set_cons_zero, List.set_cons_succ, List.zip_cons_cons, List.zip_nil_right, List.zip_nil_left, Option.some.injEq, exists_eq_left', exists_eq_left, Nat.reduceAdd, Nat.reduceSub, Nat.reduceEqDiff, PyData.bool.injEq, PyData.int.injEq, PyData.list.injEq, PyData.tuple.injEq, if_true, if_false, reduceIte, true_and, and_true, decide_true, decide_false, Bool.false_eq_true, fIx_fr0, fIx_fr1, is_fr q (hq.mono (by decide)), cmul_bd hq.1 hb2 (by decide), cmul_bd ht (den_bd hq) (by decide)])
  rw [e, divInt_cross hb]
  try simp
theorem neg_side {a b c : Rat} (h : c < 0) : a * c < b * c ↔ b < a := by
  have h1 : 0 < -c := by grind
  have h2 := Rat.mul_lt_mul_right (a := b) (b := a) h1
  rw [Rat.mul_neg, Rat.mul_neg, Rat.neg_lt_neg_iff] at h2
  exact h2
def tiny : Rat := ⟨1, 10 ^ 40, by decide, by decide⟩
theorem tiny_pos : 0 < tiny := by decide
theorem tiny_sz : Sz 140 tiny := by constructor <;> decide
theorem tiny_fr : PyData.tuple [.int 1, .int ((10 : Int) ^ (40 : Int).toNat)] = fr tiny := by rfl
theorem num_pos {c : Rat} : 0 < c.num ↔ 0 < c := by
  have h1 := Rat.num_nonneg (q := c)
  have h2 := Rat.num_eq_zero (q := c)
  grind
theorem num_neg {c : Rat} : c.num < 0 ↔ c < 0 := by
  have h1 := Rat.num_nonneg (q := c)
  grind
theorem handed_ok {a b c : Rat} (ha : Sz 140 a) (hb : Sz 140 b) (hc : Sz 140 c) (g : G) : F_law_handed_on_right [fr a, fr b, fr c] g = some (.bool true, g) := by
  have c40 : (decide ((0 : Int) ≤ 40) && decide ((40 : Int) ≤ 1000000) && decide ((10 : Int).natAbs < 2 ^ 64)) = true := by decide
  refine Ok.eq ?_
  unfold F_law_handed_on_right m_law_handed_on_right
  have hab := ha.add hb
  have hbc := hb.add hc
  have tab := ha.mul hb
  have tbc := hb.mul hc
  have tac := ha.mul hc
  have tbb := hb.mul hb
  have mac := ha.sub hc
  have e1 : a + b + c = a + (b + c) := Rat.add_assoc a b c
  have e2 : a * b * c = a * (b * c) := Rat.mul_assoc a b c
  have e3 : a * (b + c) = a * b + a * c := Rat.mul_add a b c
  have e4 : a + b - b = a := by grind
  have e5 : a - c + c = a := by grind
  (try simp only [fEq_int, fNe_int, ok_eK, ok_lNil, ok_lCons, ok_e2, ok_e1, ok_eF, ok_eTup, ok_nLst, ok_eN, ok_mB, ok_mTru, ok_mNot, ok_mAnd, ok_mOr, ok_eAnd, ok_eOr, ok_eNot, ok_eIf, ok_eIsi, ok_eIsi2, ok_eTyC, ok_eCall, ok_eCallK, ok_oNo, ok_oAt, ok_eSl, ok_iOf, ok_iOfT, ok_iRg1, oks_sNx, oks_sSeq, oks_sSet, oks_sOwn, oks_sDrop, oks_sRet, oks_sIf, oks_sAsg, oks_sPar, oks_sFor, ok_runD, ok_some, oks_some, startE, eV, setsE, Tg.parts, fAdd_int, fAdd_lst, fAdd_tup, fSub_int, fMul_int, fDiv_int, fMod_int, fPow_int, fLt_int, fLe_int, fGt_int, fGe_int, fNeg_int, fIx_lst, fIx_tup, fLen_lst, fLen_tup, fAbs_int, fInt1_int, fInt1_bl, fGcd_int, fTuple_lst, fTuple_tup, fList_lst, fList_tup, fTru_bl, fTru_lst, fTru_tup, fIsB_bl, atI_0, atI_1, ty_int, ty_bl, ty_lst, ty_tup, ty_str, ty_non, List.map_cons, List.map_nil, List.length_cons, List.length_nil, List.replicate, List.cons_append, List.nil_append, List.getElem?_cons_zero, List.getElem?_cons_succ, List.set_cons_zero, List.set_cons_succ, List.zip_cons_cons, List.zip_nil_right, List.zip_nil_left, Option.some.injEq, exists_eq_left', exists_eq_left, Nat.reduceAdd, Nat.reduceSub, Nat.reduceEqDiff, PyData.bool.injEq, PyData.int.injEq, PyData.list.injEq, PyData.tuple.injEq, if_true, if_false, reduceIte, true_and, and_true, decide_true, decide_false, Bool.false_eq_true, fIx_fr0, fIx_fr1, fNe_fr, plus_ok ha hb (by decide) (by decide), plus_ok hab hc (by decide) (by decide), plus_ok hb hc (by decide) (by decide), plus_ok ha hbc (by decide) (by decide), times_ok ha hb (by decide) (by decide), times_ok tab hc (by decide) (by decide), times_ok hb hc (by decide) (by decide), times_ok ha tbc (by decide) (by decide), times_ok ha hbc (by decide) (by decide), times_ok ha hc (by decide) (by decide), plus_ok tab tac (by decide) (by decide), minus_ok hab hb (by decide) (by decide), minus_ok ha hc (by decide) (by decide), plus_ok mac hc (by decide) (by decide), e1, e2, e3, e4, e5, Bool.not_true, c40, tiny_fr])
  have s2 : 2 ≤ sizeLine := sz_ok (by decide)
  have hat := ha.add tiny_sz
  have mat := ha.sub tiny_sz
  have f1 : (a < a + tiny) = True := eq_true (by have := tiny_pos; grind)
  have f2 : (a + tiny < a) = False := eq_false (by have := tiny_pos; grind)
  have f3 : (a - tiny < a) = True := eq_true (by have := tiny_pos; grind)
  have sg : (a * c < b * c) = (if 0 < c then a < b else if c < 0 then b < a else False) := by
    by_cases h1 : 0 < c
    · rw [if_pos h1]; exact propext (Rat.mul_lt_mul_right h1)
    · rw [if_neg h1]
      by_cases h2 : c < 0
      · rw [if_pos h2]; exact propext (neg_side h2)
      · rw [if_neg h2]
        have : c = 0 := by grind
        subst this
        rw [Rat.mul_zero, Rat.mul_zero]
        exact propext ⟨fun h => absurd h (by decide), False.elim⟩
  have endp : (if decide (0 < c.num) = true then ((decide (a * c < b * c) == decide (a < b)) = true) else if decide (c.num < 0) = true then ((decide (a * c < b * c) == decide (b < a)) = true) else ((decide (a * c < b * c) == decide (c.num < 0)) = true)) := by
    by_cases h1 : 0 < c
    · have n1 : 0 < c.num := num_pos.mpr h1
      simp [n1, sg, h1]
    · by_cases h2 : c < 0
      · have n1 : ¬ 0 < c.num := fun z => h1 (num_pos.mp z)
        have n2 : c.num < 0 := num_neg.mpr h2
        simp [n1, n2, sg, h1, h2]
      · have n1 : ¬ 0 < c.num := fun z => h1 (num_pos.mp z)
        have n2 : ¬ c.num < 0 := fun z => h2 (num_neg.mp z)
        simp [n1, n2, sg, h1, h2]
  have l1 := plus_ok ha tiny_sz (by decide) (by decide)
  have l2 := below_ok ha hat (by decide) (by decide)
  have l3 := below_ok hat ha (by decide) (by decide)
  have l4 := minus_ok ha tiny_sz (by decide) (by decide)
  have l5 := below_ok mat ha (by decide) (by decide)
  have l6 := below_ok tac tbc (by decide) (by decide)
  have l7 := below_ok ha hb (by decide) (by decide)
  have l8 := below_ok hb ha (by decide) (by decide)
  by_cases hb0 : b = 0
  · have n0 : b.num = 0 := Rat.num_eq_zero.mpr hb0
    (try simp only [fEq_int, fNe_int, ok_eK, ok_lNil, ok_lCons, ok_e2, ok_e1, ok_eF, ok_eTup, ok_nLst, ok_eN, ok_mB, ok_mTru, ok_mNot, ok_mAnd, ok_mOr, ok_eAnd, ok_eOr, ok_eNot, ok_eIf, ok_eIsi, ok_eIsi2, ok_eTyC, ok_eCall, ok_eCallK, ok_oNo, ok_oAt, ok_eSl, ok_iOf, ok_iOfT, ok_iRg1, oks_sNx, oks_sSeq, oks_sSet, oks_sOwn, oks_sDrop, oks_sRet, oks_sIf, oks_sAsg, oks_sPar, oks_sFor, ok_runD, ok_some, oks_some, startE, eV, setsE, Tg.parts, fAdd_int, fAdd_lst, fAdd_tup, fSub_int, fMul_int, fDiv_int, fMod_int, fPow_int, fLt_int, fLe_int, fGt_int, fGe_int, fNeg_int, fIx_lst, fIx_tup, fLen_lst, fLen_tup, fAbs_int, fInt1_int, fInt1_bl, fGcd_int, fTuple_lst, fTuple_tup, fList_lst, fList_tup, fTru_bl, fTru_lst, fTru_tup, fIsB_bl, atI_0, atI_1, ty_int, ty_bl, ty_lst, ty_tup, ty_str, ty_non, List.map_cons, List.map_nil, List.length_cons, List.length_nil, List.replicate, List.cons_append, List.nil_append, List.getElem?_cons_zero, List.getElem?_cons_succ, List.set_cons_zero, List.set_cons_succ, List.zip_cons_cons, List.zip_nil_right, List.zip_nil_left, Option.some.injEq, exists_eq_left', exists_eq_left, Nat.reduceAdd, Nat.reduceSub, Nat.reduceEqDiff, PyData.bool.injEq, PyData.int.injEq, PyData.list.injEq, PyData.tuple.injEq, if_true, if_false, reduceIte, true_and, and_true, decide_true, decide_false, Bool.false_eq_true, n0, Bool.not_true, s2, l1, l2, l3, l4, l5, l6, l7, l8, f1, f2, f3, beq_self_eq_true, Bool.not_false, fEq_bl])
    exact endp
  · have n0 : ¬ b.num = 0 := num_ne hb0
    have o1 := over_ok tab hb (by decide) (by decide) hb0
    have o2 := over_ok ha hb (by decide) (by decide) hb0
    have o3 := times_ok (ha.over hb hb0) hb (by decide) (by decide)
    have o4 := over_ok hc hb (by decide) (by decide) hb0
    have o5 := over_ok (hc.over hb hb0) hb (by decide) (by decide) hb0
    have o6 := times_ok hb hb (by decide) (by decide)
    have hbb : b * b ≠ 0 := fun z => by
      rcases Rat.mul_eq_zero.mp z with h | h <;> exact hb0 h
    have o7 := over_ok hc tbb (by decide) (by decide) hbb
    have d1 : a * b / b = a := Rat.mul_div_cancel hb0
    have d2 : a / b * b = a := Rat.div_mul_cancel hb0
    have d3 : c / b / b = c / (b * b) := by grind
    (try simp only [fEq_int, fNe_int, ok_eK, ok_lNil, ok_lCons, ok_e2, ok_e1, ok_eF, ok_eTup, ok_nLst, ok_eN, ok_mB, ok_mTru, ok_mNot, ok_mAnd, ok_mOr, ok_eAnd, ok_eOr, ok_eNot, ok_eIf, ok_eIsi, ok_eIsi2, ok_eTyC, ok_eCall, ok_eCallK, ok_oNo, ok_oAt, ok_eSl, ok_iOf, ok_iOfT, ok_iRg1, oks_sNx, oks_sSeq, oks_sSet, oks_sOwn, oks_sDrop, oks_sRet, oks_sIf, oks_sAsg, oks_sPar, oks_sFor, ok_runD, ok_some, oks_some, startE, eV, setsE, Tg.parts, fAdd_int, fAdd_lst, fAdd_tup, fSub_int, fMul_int, fDiv_int, fMod_int, fPow_int, fLt_int, fLe_int, fGt_int, fGe_int, fNeg_int, fIx_lst, fIx_tup, fLen_lst, fLen_tup, fAbs_int, fInt1_int, fInt1_bl, fGcd_int, fTuple_lst, fTuple_tup, fList_lst, fList_tup, fTru_bl, fTru_lst, fTru_tup, fIsB_bl, atI_0, atI_1, ty_int, ty_bl, ty_lst, ty_tup, ty_str, ty_non, List.map_cons, List.map_nil, List.length_cons, List.length_nil, List.replicate, List.cons_append, List.nil_append, List.getElem?_cons_zero, List.getElem?_cons_succ, List.set_cons_zero, List.set_cons_succ, List.zip_cons_cons, List.zip_nil_right, List.zip_nil_left, Option.some.injEq, exists_eq_left', exists_eq_left, Nat.reduceAdd, Nat.reduceSub, Nat.reduceEqDiff, PyData.bool.injEq, PyData.int.injEq, PyData.list.injEq, PyData.tuple.injEq, if_true, if_false, reduceIte, true_and, and_true, decide_true, decide_false, Bool.false_eq_true, n0, o1, o2, o3, o4, o5, o6, o7, d1, d2, d3, fNe_fr, Bool.not_true, s2, l1, l2, l3, l4, l5, l6, l7, l8, f1, f2, f3, beq_self_eq_true, Bool.not_false, fEq_bl])
    exact endp
end K01

set_option Elab.async false
set_option linter.all false
set_option maxRecDepth 100000
set_option maxHeartbeats 4000000
namespace K01
open PySem PySem.Spec PyProof.Rows L2 DL
/-! sums -/
def rsum : List Rat → Rat
  | [] => 0
  | r :: rs => r + rsum rs
theorem rsum_app : ∀ rs ss : List Rat, rsum (rs ++ ss) = rsum rs + rsum ss
  | [], ss => by simp [rsum, Rat.zero_add]
  | r :: rs, ss => by
    show r + rsum (rs ++ ss) = r + rsum rs + rsum ss
    rw [rsum_app rs ss, Rat.add_assoc]
theorem rsum_perm {rs ss : List Rat} (h : rs.Perm ss) : rsum rs = rsum ss := by
  induction h with
  | nil => rfl
  | cons x _ ih => show x + _ = x + _; rw [ih]
  | swap x y l => show y + (x + _) = x + (y + _); grind
  | trans _ _ h1 h2 => exact h1.trans h2
/-- what the halves come to -/
def Tot (n : Nat) (q : Rat) (d : D) : Prop := ∃ t b : Int, d = .tuple [.int t, .int b] ∧ b ≠ 0 ∧ t.natAbs < 2 ^ n ∧ b.natAbs < 2 ^ n ∧ q = Rat.divInt t b
theorem cut_lo (ds : List D) (h : Nat) (hh : h ≤ ds.length) : DL.cutD ds none (some (h : Int)) = ds.take h := by
  unfold DL.cutD
  rw [HT.sIx_none, HT.sIx_nat, List.drop_zero, Nat.min_eq_left hh, Nat.sub_zero]
theorem cut_hi (ds : List D) (h : Nat) (hh : h ≤ ds.length) : DL.cutD ds (some (h : Int)) none = ds.drop h := by
  unfold DL.cutD
  rw [HT.sIx_none, HT.sIx_nat, Nat.min_eq_left hh, List.take_of_length_le (by rw [List.length_drop]; exact Nat.le_refl _)]
theorem tot_one {r : Rat} (h : Sz 140 r) : Tot (1 * 141 - 1) (rsum [r]) (fr r) := by
  refine ⟨r.num, r.den, rfl, den_ne r, h.1, by rw [Int.natAbs_natCast]; exact h.2, ?_⟩
  rw [Rat.num_divInt_den]
  show r + 0 = r
  grind
theorem tot_add {m n k : Nat} {q p : Rat} {t b u c : Int} (hm : 0 < m) (hn : 0 < n) (hk : k = m + n) (hb : b ≠ 0) (ht : t.natAbs < 2 ^ (m * 141 - 1)) (hb2 : b.natAbs < 2 ^ (m * 141 - 1)) (hq : q = Rat.divInt t b)
    (hc : c ≠ 0) (hu : u.natAbs < 2 ^ (n * 141 - 1)) (hc2 : c.natAbs < 2 ^ (n * 141 - 1)) (hp : p = Rat.divInt u c) : Tot (k * 141 - 1) (q + p) (.tuple [.int (t * c + u * b), .int (b * c)]) := by
  have x1 := mul_bd ht hc2
  have x2 := mul_bd hu hb2
  rw [Nat.add_comm (n * 141 - 1)] at x2
  have x3 := add_bd x1 x2
  have x4 := mul_bd hb2 hc2
  have e : k * 141 - 1 = (m * 141 - 1 + (n * 141 - 1)) + 1 := by subst hk; omega
  refine ⟨_, _, rfl, Int.mul_ne_zero hb hc, by rw [e]; exact x3, by rw [e]; exact up1 x4, ?_⟩
  rw [hq, hp, Rat.divInt_add_divInt _ _ hb hc]
theorem half_int (n : Nat) : (n : Int).fdiv 2 = ((n / 2 : Nat) : Int) := by
  rw [Int.fdiv_eq_ediv_of_nonneg _ (by decide)]
  omega
theorem fSl_lo {ds : List D} {h : Nat} (hh : h ≤ ds.length) : fSl (.tuple ds) none (some (h : Int)) = some (.tuple (ds.take h)) := by rw [← cut_lo ds h hh]; rfl
theorem fSl_hi {ds : List D} {h : Nat} (hh : h ≤ ds.length) : fSl (.tuple ds) (some (h : Int)) none = some (.tuple (ds.drop h)) := by rw [← cut_hi ds h hh]; rfl
theorem total_ok : ∀ (n : Nat) (rs : List Rat) (g : G), rs ≠ [] → rs.length ≤ 2 ^ n → rs.length ≤ 60 → (∀ r ∈ rs, Sz 140 r) →
    Ok (F_unreduced_total (n + 1) [.tuple (rs.map fr)] g) fun d g' => g' = g ∧ Tot (rs.length * 141 - 1) (rsum rs) d
  | n, rs, g, h0, hn, hl, hs => by
    show Ok (runD 6 (m_unreduced_total (F_unreduced_total n)) _ g) _
    unfold m_unreduced_total
    by_cases h1 : rs.length = 1
    · obtain ⟨r, rfl⟩ : ∃ r, rs = [r] := by
        cases rs with
        | nil => exact absurd rfl h0
        | cons r rs => cases rs with
          | nil => exact ⟨r, rfl⟩
          | cons _ _ => simp at h1
      have sr := hs r (List.mem_cons_self ..)
      have e1 : decide (((0 + 1 : Nat) : Int) = 1) = true := by decide
      have e2 : decide (((1 : Nat) : Int) = 1) = true := by decide
      (try simp only [fEq_int, fNe_int, ok_eK, ok_lNil, ok_lCons, ok_e2, ok_e1, ok_eF, ok_eTup, ok_nLst, ok_eN, ok_mB, ok_mTru, ok_mNot, ok_mAnd, ok_mOr, ok_eAnd, ok_eOr, ok_eNot, ok_eIf, ok_eIsi, ok_eIsi2, ok_eTyC, ok_eCall, ok_eCallK, ok_oNo, ok_oAt, ok_eSl, ok_iOf, ok_iOfT, ok_iRg1, oks_sNx, oks_sSeq, oks_sSet, oks_sOwn, oks_sDrop, oks_sRet, oks_sIf, oks_sAsg, oks_sPar, oks_sFor, ok_runD, ok_some, oks_some, startE, eV, setsE, Tg.parts, fAdd_int, fAdd_lst, fAdd_tup, fSub_int, fMul_int, fDiv_int, fMod_int, fPow_int, fLt_int, fLe_int, fGt_int, fGe_int, fNeg_int, fIx_lst, fIx_tup, fLen_lst, fLen_tup, fAbs_int, fInt1_int, fInt1_bl, fGcd_int, fTuple_lst, fTuple_tup, fList_lst, fList_tup, fTru_bl, fTru_lst, fTru_tup, fIsB_bl, atI_0, atI_1, ty_int, ty_bl, ty_lst, ty_tup, ty_str, ty_non, List.map_cons, List.map_nil, List.length_cons, List.length_nil, List.replicate, List.cons_append, List.nil_append, List.getElem?_cons_zero, List.getElem?_cons_succ, List.set_cons_zero, List.set_cons_succ, List.zip_cons_cons, List.zip_nil_right, List.zip_nil_left, Option.some.injEq, exists_eq_left', exists_eq_left, Nat.reduceAdd, Nat.reduceSub, Nat.reduceEqDiff, PyData.bool.injEq, PyData.int.injEq, PyData.list.injEq, PyData.tuple.injEq, if_true, if_false, reduceIte, true_and, and_true, decide_true, decide_false, Bool.false_eq_true, e1, e2])
      exact tot_one sr
    · cases n with
      | zero =>
        have : rs.length ≠ 0 := fun z => h0 (List.eq_nil_of_length_eq_zero z)
        simp at hn
        omega
      | succ n =>
        have hl0 : rs.length ≠ 0 := fun z => h0 (List.eq_nil_of_length_eq_zero z)
        have e1 : decide (((rs.map fr).length : Int) = 1) = false := decide_eq_false (by rw [List.length_map]; omega)
        have cd : cDiv ((rs.map fr).length : Int) 2 = true := by unfold cDiv; decide
        have hh : rs.length / 2 ≤ (rs.map fr).length := by rw [List.length_map]; omega
        have hf : ((rs.map fr).length : Int).fdiv 2 = ((rs.length / 2 : Nat) : Int) := by rw [half_int, List.length_map]
        have s1 := fSl_lo hh
        have s2 := fSl_hi hh
        rw [Nat.pow_succ] at hn
        have r1 := total_ok n (rs.take (rs.length / 2)) g (fun z => by have := congrArg List.length z; rw [List.length_take, List.length_nil] at this; omega) (by rw [List.length_take]; omega) (by rw [List.length_take]; omega) (fun r hr => hs r (List.mem_of_mem_take hr))
        have r2 := total_ok n (rs.drop (rs.length / 2)) g (fun z => by have := congrArg List.length z; rw [List.length_drop, List.length_nil] at this; omega) (by rw [List.length_drop]; omega) (by rw [List.length_drop]; omega) (fun r hr => hs r (List.mem_of_mem_drop hr))
        rw [List.map_take] at r1
        rw [List.map_drop] at r2
        obtain ⟨d1, g1, f1, rfl, t, b, rfl, hb, ht, hb2, hq⟩ := r1
        obtain ⟨d2, g2, f2, rfl, u, c, rfl, hc, hu, hc2, hp⟩ := r2
        have lt : (rs.take (rs.length / 2)).length = rs.length / 2 := by rw [List.length_take]; omega
        have ld : (rs.drop (rs.length / 2)).length = rs.length - rs.length / 2 := by rw [List.length_drop]
        have m1 := cmul_bd ht hc2 (by rw [lt, ld]; omega)
        have m2 := cmul_bd hu hb2 (by rw [lt, ld]; omega)
        have m3 := cmul_bd hb2 hc2 (by rw [lt, ld]; omega)
        have z2 : 2 ≤ sizeLine := sz_ok (by decide)
        (try simp only [fEq_int, fNe_int, ok_eK, ok_lNil, ok_lCons, ok_e2, ok_e1, ok_eF, ok_eTup, ok_nLst, ok_eN, ok_mB, ok_mTru, ok_mNot, ok_mAnd, ok_mOr, ok_eAnd, ok_eOr, ok_eNot, ok_eIf, ok_eIsi, ok_eIsi2, ok_eTyC, ok_eCall, ok_eCallK, ok_oNo, ok_oAt, ok_eSl, ok_iOf, ok_iOfT, ok_iRg1, oks_sNx, oks_sSeq, oks_sSet, oks_sOwn, oks_sDrop, oks_sRet, oks_sIf, oks_sAsg, oks_sPar, oks_sFor, ok_runD, ok_some, oks_some, startE, eV, setsE, Tg.parts, fAdd_int, fAdd_lst, fAdd_tup, fSub_int, fMul_int, fDiv_int, fMod_int, fPow_int, fLt_int, fLe_int, fGt_int, fGe_int, fNeg_int, fIx_lst, fIx_tup, fLen_lst, fLen_tup, fAbs_int, fInt1_int, fInt1_bl, fGcd_int, fTuple_lst, fTuple_tup, fList_lst, fList_tup, fTru_bl, fTru_lst, fTru_tup, fIsB_bl, atI_0, atI_1, ty_int, ty_bl, ty_lst, ty_tup, ty_str, ty_non, List.map_cons, List.map_nil, List.length_cons, List.length_nil, List.replicate, List.cons_append, List.nil_append, List.getElem?_cons_zero, List.getElem?_cons_succ, List.set_cons_zero, List.set_cons_succ, List.zip_cons_cons, List.zip_nil_right, List.zip_nil_left, Option.some.injEq, exists_eq_left', exists_eq_left, Nat.reduceAdd, Nat.reduceSub, Nat.reduceEqDiff, PyData.bool.injEq, PyData.int.injEq, PyData.list.injEq, PyData.tuple.injEq, if_true, if_false, reduceIte, true_and, and_true, decide_true, decide_false, Bool.false_eq_true, e1, cd, hf, s1, s2, f1, f2, m1, m2, m3, z2])
        have := tot_add (k := rs.length) (by omega) (by omega) (by omega) hb ht hb2 hq hc hu hc2 hp
        rw [← rsum_app, List.take_append_drop] at this
        exact this
theorem ok_eAllG {tg : Tg} {ml : ML} {e : M} {vs : List Nat} {E : En} {g : G} {Q : D → G → Prop} (h : (vs.any (isOwn E) || !(tg.slots.all fun i => vs.contains i)) = false) :
    Ok (eAllG tg ml e vs E g) Q ↔ Ok (ml E g) fun ds g1 => Ok (allL tg e (wipeE E vs) ds g1) fun b g2 => Q (.bool b) g2 := by
  unfold eAllG
  rw [h, if_neg (by decide)]
  cases ml E g with
  | none => simp only [ok_none]
  | some p =>
    simp only [ok_some]
    cases allL tg e (wipeE E vs) p.1 p.2 with
    | none => simp only [ok_none]
    | some q => simp only [ok_some]
theorem sum_ok (rs : List Rat) (hl : rs.length ≤ 60) (hs : ∀ r ∈ rs, Sz 140 r) (g : G) : Fsum_of [.tuple (rs.map fr)] g = some (fr (rsum rs), g) := by
  refine Ok.eq ?_
  unfold Fsum_of msum_of
  have td : decide (("tuple" : String) = "tuple") = true := by decide
  have z2 : 2 ≤ sizeLine := sz_ok (by decide)
  (try simp only [fEq_int, fNe_int, ok_eK, ok_lNil, ok_lCons, ok_e2, ok_e1, ok_eF, ok_eTup, ok_nLst, ok_eN, ok_mB, ok_mTru, ok_mNot, ok_mAnd, ok_mOr, ok_eAnd, ok_eOr, ok_eNot, ok_eIf, ok_eIsi, ok_eIsi2, ok_eTyC, ok_eCall, ok_eCallK, ok_oNo, ok_oAt, ok_eSl, ok_iOf, ok_iOfT, ok_iRg1, oks_sNx, oks_sSeq, oks_sSet, oks_sOwn, oks_sDrop, oks_sRet, oks_sIf, oks_sAsg, oks_sPar, oks_sFor, ok_runD, ok_some, oks_some, startE, eV, setsE, Tg.parts, fAdd_int, fAdd_lst, fAdd_tup, fSub_int, fMul_int, fDiv_int, fMod_int, fPow_int, fLt_int, fLe_int, fGt_int, fGe_int, fNeg_int, fIx_lst, fIx_tup, fLen_lst, fLen_tup, fAbs_int, fInt1_int, fInt1_bl, fGcd_int, fTuple_lst, fTuple_tup, fList_lst, fList_tup, fTru_bl, fTru_lst, fTru_tup, fIsB_bl, atI_0, atI_1, ty_int, ty_bl, ty_lst, ty_tup, ty_str, ty_non, List.map_cons, List.map_nil, List.length_cons, List.length_nil, List.replicate, List.cons_append, List.nil_append, List.getElem?_cons_zero, List.getElem?_cons_succ, List.set_cons_zero, List.set_cons_succ, List.zip_cons_cons, List.zip_nil_right, List.zip_nil_left, Option.some.injEq, exists_eq_left', exists_eq_left, Nat.reduceAdd, Nat.reduceSub, Nat.reduceEqDiff, PyData.bool.injEq, PyData.int.injEq, PyData.list.injEq, PyData.tuple.injEq, if_true, if_false, reduceIte, true_and, and_true, decide_true, decide_false, Bool.false_eq_true, td, Bool.not_true])
  rw [ok_eAllG (by rfl)]
  (try simp only [fEq_int, fNe_int, ok_eK, ok_lNil, ok_lCons, ok_e2, ok_e1, ok_eF, ok_eTup, ok_nLst, ok_eN, ok_mB, ok_mTru, ok_mNot, ok_mAnd, ok_mOr, ok_eAnd, ok_eOr, ok_eNot, ok_eIf, ok_eIsi, ok_eIsi2, ok_eTyC, ok_eCall, ok_eCallK, ok_oNo, ok_oAt, ok_eSl, ok_iOf, ok_iOfT, ok_iRg1, oks_sNx, oks_sSeq, oks_sSet, oks_sOwn, oks_sDrop, oks_sRet, oks_sIf, oks_sAsg, oks_sPar, oks_sFor, ok_runD, ok_some, oks_some, startE, eV, setsE, Tg.parts, fAdd_int, fAdd_lst, fAdd_tup, fSub_int, fMul_int, fDiv_int, fMod_int, fPow_int, fLt_int, fLe_int, fGt_int, fGe_int, fNeg_int, fIx_lst, fIx_tup, fLen_lst, fLen_tup, fAbs_int, fInt1_int, fInt1_bl, fGcd_int, fTuple_lst, fTuple_tup, fList_lst, fList_tup, fTru_bl, fTru_lst, fTru_tup, fIsB_bl, atI_0, atI_1, ty_int, ty_bl, ty_lst, ty_tup, ty_str, ty_non, List.map_cons, List.map_nil, List.length_cons, List.length_nil, List.replicate, List.cons_append, List.nil_append, List.getElem?_cons_zero, List.getElem?_cons_succ, List.set_cons_zero, List.set_cons_succ, List.zip_cons_cons, List.zip_nil_right, List.zip_nil_left, Option.some.injEq, exists_eq_left', exists_eq_left, Nat.reduceAdd, Nat.reduceSub, Nat.reduceEqDiff, PyData.bool.injEq, PyData.int.injEq, PyData.list.injEq, PyData.tuple.injEq, if_true, if_false, reduceIte, true_and, and_true, decide_true, decide_false, Bool.false_eq_true])
  rw [ok_eq (allL_true (rs.map fr) fun d hd => by
    obtain ⟨r, _, rfl⟩ := List.mem_map.mp hd
    refine ⟨_, rfl, ?_⟩
    show eCall Fis_fraction (lCons (eV false 3) lNil) [.val (.tuple (rs.map fr)), .no, .no, .val (fr r)] g = some (.bool true, g)
    refine Ok.eq ?_
    (try simp only [fEq_int, fNe_int, ok_eK, ok_lNil, ok_lCons, ok_e2, ok_e1, ok_eF, ok_eTup, ok_nLst, ok_eN, ok_mB, ok_mTru, ok_mNot, ok_mAnd, ok_mOr, ok_eAnd, ok_eOr, ok_eNot, ok_eIf, ok_eIsi, ok_eIsi2, ok_eTyC, ok_eCall, ok_eCallK, ok_oNo, ok_oAt, ok_eSl, ok_iOf, ok_iOfT, ok_iRg1, oks_sNx, oks_sSeq, oks_sSet, oks_sOwn, oks_sDrop, oks_sRet, oks_sIf, oks_sAsg, oks_sPar, oks_sFor, ok_runD, ok_some, oks_some, startE, eV, setsE, Tg.parts, fAdd_int, fAdd_lst, fAdd_tup, fSub_int, fMul_int, fDiv_int, fMod_int, fPow_int, fLt_int, fLe_int, fGt_int, fGe_int, fNeg_int, fIx_lst, fIx_tup, fLen_lst, fLen_tup, fAbs_int, fInt1_int, fInt1_bl, fGcd_int, fTuple_lst, fTuple_tup, fList_lst, fList_tup, fTru_bl, fTru_lst, fTru_tup, fIsB_bl, atI_0, atI_1, ty_int, ty_bl, ty_lst, ty_tup, ty_str, ty_non, List.map_cons, List.map_nil, List.length_cons, List.length_nil, List.replicate, List.cons_append, List.nil_append, List.getElem?_cons_zero, List.getElem?_cons_succ, List.set_cons_zero, List.set_cons_succ, List.zip_cons_cons, List.zip_nil_right, List.zip_nil_left, Option.some.injEq, exists_eq_left', exists_eq_left, Nat.reduceAdd, Nat.reduceSub, Nat.reduceEqDiff, PyData.bool.injEq, PyData.int.injEq, PyData.list.injEq, PyData.tuple.injEq, if_true, if_false, reduceIte, true_and, and_true, decide_true, decide_false, Bool.false_eq_true])
    rw [ok_eq (isf_fr r g)]
    exact ⟨rfl, rfl⟩)]
  (try simp only [fEq_int, fNe_int, ok_eK, ok_lNil, ok_lCons, ok_e2, ok_e1, ok_eF, ok_eTup, ok_nLst, ok_eN, ok_mB, ok_mTru, ok_mNot, ok_mAnd, ok_mOr, ok_eAnd, ok_eOr, ok_eNot, ok_eIf, ok_eIsi, ok_eIsi2, ok_eTyC, ok_eCall, ok_eCallK, ok_oNo, ok_oAt, ok_eSl, ok_iOf, ok_iOfT, ok_iRg1, oks_sNx, oks_sSeq, oks_sSet, oks_sOwn, oks_sDrop, oks_sRet, oks_sIf, oks_sAsg, oks_sPar, oks_sFor, ok_runD, ok_some, oks_some, startE, eV, setsE, Tg.parts, fAdd_int, fAdd_lst, fAdd_tup, fSub_int, fMul_int, fDiv_int, fMod_int, fPow_int, fLt_int, fLe_int, fGt_int, fGe_int, fNeg_int, fIx_lst, fIx_tup, fLen_lst, fLen_tup, fAbs_int, fInt1_int, fInt1_bl, fGcd_int, fTuple_lst, fTuple_tup, fList_lst, fList_tup, fTru_bl, fTru_lst, fTru_tup, fIsB_bl, atI_0, atI_1, ty_int, ty_bl, ty_lst, ty_tup, ty_str, ty_non, List.map_cons, List.map_nil, List.length_cons, List.length_nil, List.replicate, List.cons_append, List.nil_append, List.getElem?_cons_zero, List.getElem?_cons_succ, List.set_cons_zero, List.set_cons_succ, List.zip_cons_cons, List.zip_nil_right, List.zip_nil_left, Option.some.injEq, exists_eq_left', exists_eq_left, Nat.reduceAdd, Nat.reduceSub, Nat.reduceEqDiff, PyData.bool.injEq, PyData.int.injEq, PyData.list.injEq, PyData.tuple.injEq, if_true, if_false, reduceIte, true_and, and_true, decide_true, decide_false, Bool.false_eq_true, Bool.not_true])
  cases rs with
  | nil =>
    (try simp only [fEq_int, fNe_int, ok_eK, ok_lNil, ok_lCons, ok_e2, ok_e1, ok_eF, ok_eTup, ok_nLst, ok_eN, ok_mB, ok_mTru, ok_mNot, ok_mAnd, ok_mOr, ok_eAnd, ok_eOr, ok_eNot, ok_eIf, ok_eIsi, ok_eIsi2, ok_eTyC, ok_eCall, ok_eCallK, ok_oNo, ok_oAt, ok_eSl, ok_iOf, ok_iOfT, ok_iRg1, oks_sNx, oks_sSeq, oks_sSet, oks_sOwn, oks_sDrop, oks_sRet, oks_sIf, oks_sAsg, oks_sPar, oks_sFor, ok_runD, ok_some, oks_some, startE, eV, setsE, Tg.parts, fAdd_int, fAdd_lst, fAdd_tup, fSub_int, fMul_int, fDiv_int, fMod_int, fPow_int, fLt_int, fLe_int, fGt_int, fGe_int, fNeg_int, fIx_lst, fIx_tup, fLen_lst, fLen_tup, fAbs_int, fInt1_int, fInt1_bl, fGcd_int, fTuple_lst, fTuple_tup, fList_lst, fList_tup, fTru_bl, fTru_lst, fTru_tup, fIsB_bl, atI_0, atI_1, ty_int, ty_bl, ty_lst, ty_tup, ty_str, ty_non, List.map_cons, List.map_nil, List.length_cons, List.length_nil, List.replicate, List.cons_append, List.nil_append, List.getElem?_cons_zero, List.getElem?_cons_succ, List.set_cons_zero, List.set_cons_succ, List.zip_cons_cons, List.zip_nil_right, List.zip_nil_left, Option.some.injEq, exists_eq_left', exists_eq_left, Nat.reduceAdd, Nat.reduceSub, Nat.reduceEqDiff, PyData.bool.injEq, PyData.int.injEq, PyData.list.injEq, PyData.tuple.injEq, if_true, if_false, reduceIte, true_and, and_true, decide_true, decide_false, Bool.false_eq_true, List.isEmpty_nil, Bool.not_true, Bool.not_false, z2])
    exact rfl
  | cons r rs =>
    (try simp only [fEq_int, fNe_int, ok_eK, ok_lNil, ok_lCons, ok_e2, ok_e1, ok_eF, ok_eTup, ok_nLst, ok_eN, ok_mB, ok_mTru, ok_mNot, ok_mAnd, ok_mOr, ok_eAnd, ok_eOr, ok_eNot, ok_eIf, ok_eIsi, ok_eIsi2, ok_eTyC, ok_eCall, ok_eCallK, ok_oNo, ok_oAt, ok_eSl, ok_iOf, ok_iOfT, ok_iRg1, oks_sNx, oks_sSeq, oks_sSet, oks_sOwn, oks_sDrop, oks_sRet, oks_sIf, oks_sAsg, oks_sPar, oks_sFor, ok_runD, ok_some, oks_some, startE, eV, setsE, Tg.parts, fAdd_int, fAdd_lst, fAdd_tup, fSub_int, fMul_int, fDiv_int, fMod_int, fPow_int, fLt_int, fLe_int, fGt_int, fGe_int, fNeg_int, fIx_lst, fIx_tup, fLen_lst, fLen_tup, fAbs_int, fInt1_int, fInt1_bl, fGcd_int, fTuple_lst, fTuple_tup, fList_lst, fList_tup, fTru_bl, fTru_lst, fTru_tup, fIsB_bl, atI_0, atI_1, ty_int, ty_bl, ty_lst, ty_tup, ty_str, ty_non, List.map_cons, List.map_nil, List.length_cons, List.length_nil, List.replicate, List.cons_append, List.nil_append, List.getElem?_cons_zero, List.getElem?_cons_succ, List.set_cons_zero, List.set_cons_succ, List.zip_cons_cons, List.zip_nil_right, List.zip_nil_left, Option.some.injEq, exists_eq_left', exists_eq_left, Nat.reduceAdd, Nat.reduceSub, Nat.reduceEqDiff, PyData.bool.injEq, PyData.int.injEq, PyData.list.injEq, PyData.tuple.injEq, if_true, if_false, reduceIte, true_and, and_true, decide_true, decide_false, Bool.false_eq_true, List.isEmpty_cons, Bool.not_false, Bool.not_true])
    have := total_ok 6 (r :: rs) g (by simp) (by simp at hl ⊢; omega) hl hs
    obtain ⟨d1, g1, f1, rfl, t, b, rfl, hb, ht, hb2, hq⟩ := this
    rw [List.map_cons] at f1
    rw [ok_eq f1]
    (try simp only [fEq_int, fNe_int, ok_eK, ok_lNil, ok_lCons, ok_e2, ok_e1, ok_eF, ok_eTup, ok_nLst, ok_eN, ok_mB, ok_mTru, ok_mNot, ok_mAnd, ok_mOr, ok_eAnd, ok_eOr, ok_eNot, ok_eIf, ok_eIsi, ok_eIsi2, ok_eTyC, ok_eCall, ok_eCallK, ok_oNo, ok_oAt, ok_eSl, ok_iOf, ok_iOfT, ok_iRg1, oks_sNx, oks_sSeq, oks_sSet, oks_sOwn, oks_sDrop, oks_sRet, oks_sIf, oks_sAsg, oks_sPar, oks_sFor, ok_runD, ok_some, oks_some, startE, eV, setsE, Tg.parts, fAdd_int, fAdd_lst, fAdd_tup, fSub_int, fMul_int, fDiv_int, fMod_int, fPow_int, fLt_int, fLe_int, fGt_int, fGe_int, fNeg_int, fIx_lst, fIx_tup, fLen_lst, fLen_tup, fAbs_int, fInt1_int, fInt1_bl, fGcd_int, fTuple_lst, fTuple_tup, fList_lst, fList_tup, fTru_bl, fTru_lst, fTru_tup, fIsB_bl, atI_0, atI_1, ty_int, ty_bl, ty_lst, ty_tup, ty_str, ty_non, List.map_cons, List.map_nil, List.length_cons, List.length_nil, List.replicate, List.cons_append, List.nil_append, List.getElem?_cons_zero, List.getElem?_cons_succ, List.set_cons_zero, List.set_cons_succ, List.zip_cons_cons, List.zip_nil_right, List.zip_nil_left, Option.some.injEq, exists_eq_left', exists_eq_left, Nat.reduceAdd, Nat.reduceSub, Nat.reduceEqDiff, PyData.bool.injEq, PyData.int.injEq, PyData.list.injEq, PyData.tuple.injEq, if_true, if_false, reduceIte, true_and, and_true, decide_true, decide_false, Bool.false_eq_true])
    rw [ok_eq (reduced_ok hb (bd9 hb2 (by simp at hl ⊢; omega)) g1), ← hq]
    exact ⟨rfl, rfl⟩
end K01

set_option Elab.async false
set_option linter.all false
set_option maxRecDepth 100000
set_option maxHeartbeats 4000000
namespace K01
open PySem PySem.Spec PyProof.Rows L2 DL
theorem oks_seqI {a b : MS} {E : En} {g : G} {P : En → G → Prop} {Q : Fl → En → G → Prop} (h : OkS (a E g) fun r E' g' => r = .nx ∧ P E' g') (k : ∀ E' g', P E' g' → OkS (b E' g') Q) : OkS (sSeq a b E g) Q := by
  rw [oks_sSeq]
  refine h.mono fun r E' g' ⟨e, p⟩ => ?_
  subst e
  exact k E' g' p
/-! values of any kind: a fraction, both ways -/
def Twin (d : D) : Prop := ∃ c : Bool, ∀ g : G, F_law_is [d] g = some (.bool c, g) ∧ Fis_fraction [d] g = some (.bool c, g)
theorem twin_pair {t b : Int} (h : b.natAbs < 2 ^ 9000) : Twin (.tuple [.int t, .int b]) := ⟨_, fun g => ⟨is_ints t b h g, isf_pair t b g⟩⟩
theorem twin_two {x y : D} {S T : String} (hx : tyN x = some S) (hy : tyN y = some T) (h : S ≠ "int" ∨ T ≠ "int") (z : ((isT "int" S && !isT "bool" S) && (isT "int" T && !isT "bool" T)) = false) : Twin (.tuple [x, y]) := ⟨false, fun g => ⟨is_two x y S T hx hy g z, isf_two x y S T hx hy h g⟩⟩
theorem twin_len {ds : List D} (h : ds.length ≠ 2) : Twin (.tuple ds) := ⟨false, fun g => ⟨is_len ds h g, isf_len ds h g⟩⟩
theorem twin_no {d : D} {S : String} (h : tyN d = some S) (hs : isT "tuple" S = false) (hs2 : S ≠ "tuple") : Twin d := ⟨false, fun g => ⟨is_no h hs g, isf_no h hs2 g⟩⟩
theorem sz9 {n : Nat} {r : Rat} (h : Sz n r) (hn : n ≤ 9000) : Sz 9000 r := h.mono hn
/-- the values that are tried -/
def vals1 (r : Rat) : List D := [fr r, .tuple [.int (r.num * 2), .int (r.den * 2)], .tuple [.int r.num, .int (-(r.den : Int))], .tuple [.int r.num, .int 0], .tuple [.int 0, .int r.den], .list [.int r.num, .int r.den], .tuple [.int r.num, .int r.den, .int 1], .int r.num, .none, .str (Str.ofString "1/2"), .tuple [.bool true, .int 1]]
def vals2 (r : Rat) : List D := [.tuple [.int 1, .bool true], .tuple [.int 1], .tuple [], .tuple [.str (Str.ofString "1"), .int 2], .tuple [fr r, fr r], .tuple [.int 0, .int 1], .tuple [.int r.den, .int r.num]]
theorem twins {r : Rat} (h : Sz 140 r) : ∀ d ∈ vals1 r ++ vals2 r, Twin d := by
  have hd := den_bd h
  have hn := h.1
  have l : ∀ {i : Int} {n : Nat}, i.natAbs < 2 ^ n → n ≤ 9000 → i.natAbs < 2 ^ 9000 := fun h l => Nat.lt_of_lt_of_le h (Nat.pow_le_pow_right (by decide) l)
  intro d hm
  unfold vals1 vals2 at hm
  simp only [List.mem_cons, List.mem_append, List.mem_nil_iff, or_false] at hm
  rcases hm with (rfl | rfl | rfl | rfl | rfl | rfl | rfl | rfl | rfl | rfl | rfl) | rfl | rfl | rfl | rfl | rfl | rfl | rfl
  · exact twin_pair (l hd (by decide))
  · exact twin_pair (l (mul_bd hd (show (2 : Int).natAbs < 2 ^ 2 by decide)) (by decide))
  · exact twin_pair (by rw [Int.natAbs_neg]; exact l hd (by decide))
  · exact twin_pair (Nat.pow_pos (by decide))
  · exact twin_pair (l hd (by decide))
  · exact twin_no (S := "list") rfl (by decide) (by decide)
  · exact twin_len (by simp)
  · exact twin_no (S := "int") rfl (by decide) (by decide)
  · exact twin_no (S := "NoneType") rfl (by decide) (by decide)
  · exact twin_no (S := "str") rfl (by decide) (by decide)
  · exact twin_two (S := "bool") (T := "int") rfl rfl (.inl (by decide)) (by decide)
  · exact twin_two (S := "int") (T := "bool") rfl rfl (.inr (by decide)) (by decide)
  · exact twin_len (by simp)
  · exact twin_len (by simp)
  · exact twin_two (S := "str") (T := "int") rfl rfl (.inl (by decide)) (by decide)
  · exact twin_two (S := "tuple") (T := "tuple") rfl rfl (.inl (by decide)) (by decide)
  · exact twin_pair (small9 (by decide))
  · exact twin_pair (l hn (by decide))
/-! sorted -/
theorem isPrs_fr : ∀ rs : List Rat, isPrs (rs.map fr) = some (rs.map fun r => (r.num, (r.den : Int)))
  | [] => rfl
  | r :: rs => by
    show (isPrs (rs.map fr)).map _ = _
    rw [isPrs_fr rs]
    rfl
theorem sort_fr (rs : List Rat) : ∃ ss : List Rat, ss.Perm rs ∧ fSortP [.list (rs.map fr)] = some (.list (ss.map fr)) := by
  let toR : Int × Int → Rat := fun p => Rat.divInt p.1 p.2
  let ps := rs.map fun r => (r.num, (r.den : Int))
  refine ⟨(ps.mergeSort leP).map toR, ?_, ?_⟩
  · refine ((List.mergeSort_perm ps leP).map toR).trans (List.Perm.of_eq ?_)
    show (rs.map fun r => (r.num, (r.den : Int))).map toR = rs
    rw [List.map_map]
    conv => rhs; rw [← List.map_id rs]
    exact List.map_congr_left fun r _ => Rat.num_divInt_den r
  · have e : fSortP [.list (rs.map fr)] = (match isPrs (rs.map fr) with | some ps => some (.list ((ps.mergeSort leP).map DL.prD)) | none => none) := rfl
    rw [e, isPrs_fr]
    show some (PyData.list ((ps.mergeSort leP).map DL.prD)) = _
    rw [List.map_map]
    congr 2
    refine List.map_congr_left fun p hp => ?_
    obtain ⟨r, _, rfl⟩ := List.mem_map.mp ((List.mergeSort_perm ps leP).mem_iff.mp hp)
    show DL.prD (r.num, (r.den : Int)) = fr (Rat.divInt r.num r.den)
    rw [Rat.num_divInt_den]
    rfl
/-! the law -/
abbrev SP : Sl := .val (.dict [])
def Inv1 (E : En) (_ : G) : Prop := ∃ a0 a2 a3 a4 a5 a6 a7 a8 a9 a10 a11, E = [a0, SP, a2, a3, a4, a5, a6, a7, a8, a9, a10, a11, .no]
theorem neg_fr (r : Rat) : PyData.tuple [.int (-r.num), .int (r.den : Int)] = fr (-r) := by
  unfold fr
  rw [Rat.neg_num, Rat.neg_den]
theorem oks_ret {d : D} {E : En} {g : G} {Q : Fl → En → G → Prop} : OkS (sRet (eK d) E g) Q ↔ Q (.ret d) E g := by (try simp only [fEq_int, fNe_int, ok_eK, ok_lNil, ok_lCons, ok_e2, ok_e1, ok_eF, ok_eTup, ok_nLst, ok_eN, ok_mB, ok_mTru, ok_mNot, ok_mAnd, ok_mOr, ok_eAnd, ok_eOr, ok_eNot, ok_eIf, ok_eIsi, ok_eIsi2, ok_eTyC, ok_eCall, ok_eCallK, ok_oNo, ok_oAt, ok_eSl, ok_iOf, ok_iOfT, ok_iRg1, oks_sNx, oks_sSeq, oks_sSet, oks_sOwn, oks_sDrop, oks_sRet, oks_sIf, oks_sAsg, oks_sPar, oks_sFor, ok_runD, ok_some, oks_some, startE, eV, setsE, Tg.parts, fAdd_int, fAdd_lst, fAdd_tup, fSub_int, fMul_int, fDiv_int, fMod_int, fPow_int, fLt_int, fLe_int, fGt_int, fGe_int, fNeg_int, fIx_lst, fIx_tup, fLen_lst, fLen_tup, fAbs_int, fInt1_int, fInt1_bl, fGcd_int, fTuple_lst, fTuple_tup, fList_lst, fList_tup, fTru_bl, fTru_lst, fTru_tup, fIsB_bl, atI_0, atI_1, ty_int, ty_bl, ty_lst, ty_tup, ty_str, ty_non, List.map_cons, List.map_nil, List.length_cons, List.length_nil, List.replicate, List.cons_append, List.nil_append, List.getElem?_cons_zero, List.getElem?_cons_succ, List.set_cons_zero, List.set_cons_succ, List.zip_cons_cons, List.zip_nil_right, List.zip_nil_left, Option.some.injEq, exists_eq_left', exists_eq_left, Nat.reduceAdd, Nat.reduceSub, Nat.reduceEqDiff, PyData.bool.injEq, PyData.int.injEq, PyData.list.injEq, PyData.tuple.injEq, if_true, if_false, reduceIte, true_and, and_true, decide_true, decide_false, Bool.false_eq_true])
/-- a look that must hold -/
theorem must {m : M} {E : En} {g : G} {P : En → G → Prop} (h : Ok (m E g) fun d _ => d = .bool true) (hp : ∀ g', P E g') : OkS (sIf (mNot (mTru m)) (sRet (eK (.bool false))) sNx E g) fun r E' g' => r = .nx ∧ P E' g' := by
  rw [oks_sIf, ok_mNot, ok_mTru]
  refine h.mono fun d g' e => ?_
  subst e
  refine ⟨true, rfl, ?_⟩
  rw [if_neg (by decide)]
  exact ⟨_, _, _, rfl, rfl, hp g'⟩
theorem idx4 {a b c d : D} {v : Int} (h0 : 0 ≤ v) (h1 : v < 4) {P : D → Prop} (ha : P a) (hb : P b) (hc : P c) (hd : P d) : ∃ z, atI [a, b, c, d] v = some z ∧ P z := by
  have : v = 0 ∨ v = 1 ∨ v = 2 ∨ v = 3 := by omega
  rcases this with rfl | rfl | rfl | rfl
  · exact ⟨a, rfl, ha⟩
  · exact ⟨b, rfl, hb⟩
  · exact ⟨c, rfl, hc⟩
  · exact ⟨d, rfl, hd⟩
theorem idx6 {a b c d e f : D} {v : Int} (h0 : 0 ≤ v) (h1 : v < 6) {P : D → Prop} (ha : P a) (hb : P b) (hc : P c) (hd : P d) (he : P e) (hf : P f) : ∃ z, atI [a, b, c, d, e, f] v = some z ∧ P z := by
  have : v = 0 ∨ v = 1 ∨ v = 2 ∨ v = 3 ∨ v = 4 ∨ v = 5 := by omega
  rcases this with rfl | rfl | rfl | rfl | rfl | rfl
  · exact ⟨a, rfl, ha⟩
  · exact ⟨b, rfl, hb⟩
  · exact ⟨c, rfl, hc⟩
  · exact ⟨d, rfl, hd⟩
  · exact ⟨e, rfl, he⟩
  · exact ⟨f, rfl, hf⟩
theorem Sz.neg {n : Nat} {r : Rat} (h : Sz n r) : Sz n (-r) := ⟨by rw [Rat.neg_num, Int.natAbs_neg]; exact h.1, by rw [Rat.neg_den]; exact h.2⟩
end K01

set_option Elab.async false
set_option linter.all false
set_option maxRecDepth 100000
set_option maxHeartbeats 4000000
namespace K01
open PySem PySem.Spec PyProof.Rows L2 DL
abbrev cDr : MT := mAnd (mGrNe (eV false 2)) (mB (e2 fEq (eGr0 (eV false 2)) (eK (.int 0))))
abbrev bDr : MS := sGrPop (eV true 2)
abbrev EDr (m : Int) (x : Sl) : En := [.val (.dict []), .val (.int m), .val grD, x]
theorem grNe (m : Int) (x : Sl) (g : G) : mGrNe (eV false 2) (EDr m x) g = some (!g.deep.isEmpty, g) := rfl
theorem gr0 (b : Bool) (m : Int) (x : Sl) (n : Int) (r : List Int) (p q : Int) : eGr0 (eV b 2) (EDr m x) ⟨n :: r, p, q⟩ = some (.int n, ⟨n :: r, p, q⟩) := by cases b <;> rfl
theorem whDr (m : Int) (x : Sl) (p q : Int) : ∀ (l : List Int) (n : Nat), l.length < n → whL cDr bDr n (EDr m x) ⟨l, p, q⟩ = some (.nx, EDr m x, ⟨l.dropWhile (· == 0), p, q⟩)
  | _, 0, h => absurd h (by omega)
  | [], n + 1, _ => by
    have hc : cDr (EDr m x) ⟨[], p, q⟩ = some (false, ⟨[], p, q⟩) := rfl
    unfold whL
    rw [hc]
    rfl
  | y :: r, n + 1, h => by
    have hc : cDr (EDr m x) ⟨y :: r, p, q⟩ = some (decide (y = 0), ⟨y :: r, p, q⟩) := by
      refine Ok.eq ?_
      show Ok (mAnd _ _ _ _) _
      rw [ok_mAnd, ok_eq (grNe m x _)]
      simp only [List.isEmpty_cons, Bool.not_false, if_true]
      rw [ok_mB, ok_e2, ok_eq (gr0 false m x y r p q)]
      (try simp only [fEq_int, fNe_int, ok_eK, ok_lNil, ok_lCons, ok_e2, ok_e1, ok_eF, ok_eTup, ok_nLst, ok_eN, ok_mB, ok_mTru, ok_mNot, ok_mAnd, ok_mOr, ok_eAnd, ok_eOr, ok_eNot, ok_eIf, ok_eIsi, ok_eIsi2, ok_eTyC, ok_eCall, ok_eCallK, ok_oNo, ok_oAt, ok_eSl, ok_iOf, ok_iOfT, ok_iRg1, oks_sNx, oks_sSeq, oks_sSet, oks_sOwn, oks_sDrop, oks_sRet, oks_sIf, oks_sAsg, oks_sPar, oks_sFor, ok_runD, ok_some, oks_some, startE, eV, setsE, Tg.parts, fAdd_int, fAdd_lst, fAdd_tup, fSub_int, fMul_int, fDiv_int, fMod_int, fPow_int, fLt_int, fLe_int, fGt_int, fGe_int, fNeg_int, fIx_lst, fIx_tup, fLen_lst, fLen_tup, fAbs_int, fInt1_int, fInt1_bl, fGcd_int, fTuple_lst, fTuple_tup, fList_lst, fList_tup, fTru_bl, fTru_lst, fTru_tup, fIsB_bl, atI_0, atI_1, ty_int, ty_bl, ty_lst, ty_tup, ty_str, ty_non, List.map_cons, List.map_nil, List.length_cons, List.length_nil, List.replicate, List.cons_append, List.nil_append, List.getElem?_cons_zero, List.getElem?_cons_succ, List.set_cons_zero, List.set_cons_succ, List.zip_cons_cons, List.zip_nil_right, List.zip_nil_left, Option.some.injEq, exists_eq_left', exists_eq_left, Nat.reduceAdd, Nat.reduceSub, Nat.reduceEqDiff, PyData.bool.injEq, PyData.int.injEq, PyData.list.injEq, PyData.tuple.injEq, if_true, if_false, reduceIte, true_and, and_true, decide_true, decide_false, Bool.false_eq_true])
    unfold whL
    rw [hc]
    by_cases hy : y = 0
    · have hb : bDr (EDr m x) ⟨y :: r, p, q⟩ = some (.nx, EDr m x, ⟨r, p, q⟩) := rfl
      simp only [hy, decide_true]
      rw [hy] at hb
      simp only [hb]
      rw [whDr m x p q r n (by simpa using h)]
      simp
    · simp [hy]
theorem c1 (p : Int) : cMul p 6364136223846793005 = true := by
  unfold cMul
  simp
theorem c2 (p : Int) : cMul p 1442695040888963407 = true := by
  unfold cMul
  simp
theorem c3 {p : Int} (h0 : 0 ≤ p) (h1 : p < 2305843009213693951) : cMul p p = true := by
  unfold cMul
  have : p.natAbs < 2 ^ 64 := by omega
  simp [this]
theorem drop_imp (ds : List D) (g : G) (r : D × G) (h : Fd_law_drop ds g = some r) : F_law_drop ds g = some r := by
  unfold Fd_law_drop at h
  split at h
  · rename_i m
    split at h
    · rename_i hm
      suffices hs : Ok (F_law_drop [.dict [], .int m] g) fun d g' => r = (d, g') by
        obtain ⟨d, g', e, rfl⟩ := hs
        exact e
      obtain ⟨deep, p, q⟩ := g
      unfold F_law_drop m_law_drop
      rw [ok_runD, oks_sSeq, oks_sSet]
      have h1' : eSp 0 (eV true 0) (startE 4 [.dict [], .int m]) ⟨deep, p, q⟩ = some (grD, ⟨deep, p, q⟩) := rfl
      rw [ok_eq h1']
      show OkS (sSeq _ _ (EDr m .no) _) _
      rw [oks_sSeq]
      have h2' : sWhile fuG cDr bDr (EDr m .no) ⟨deep, p, q⟩ = some (.nx, EDr m .no, ⟨deep.dropWhile (· == 0), p, q⟩) := whDr m .no p q deep (deep.length + 1) (by omega)
      show OkS (sWhile fuG cDr bDr (EDr m .no) ⟨deep, p, q⟩) _
      rw [h2', oks_some]
      show OkS (sSeq _ _ (EDr m .no) _) _
      generalize deep.dropWhile (· == 0) = dd at h ⊢
      rw [oks_sSeq, oks_sIf, ok_eq (grNe m .no _)]
      cases dd with
      | cons n rr =>
        simp only at h
        split at h
        · rename_i hl
          cases h
          simp only [List.isEmpty_cons, Bool.not_false, if_true]
          have hm2 : decide (0 < m) = true := decide_eq_true hm
          rw [oks_sSeq, oks_sSet, ok_e2, ok_eF, ok_lCons, ok_eq (gr0 true m .no n rr p q)]
          (try simp only [fEq_int, fNe_int, ok_eK, ok_lNil, ok_lCons, ok_e2, ok_e1, ok_eF, ok_eTup, ok_nLst, ok_eN, ok_mB, ok_mTru, ok_mNot, ok_mAnd, ok_mOr, ok_eAnd, ok_eOr, ok_eNot, ok_eIf, ok_eIsi, ok_eIsi2, ok_eTyC, ok_eCall, ok_eCallK, ok_oNo, ok_oAt, ok_eSl, ok_iOf, ok_iOfT, ok_iRg1, oks_sNx, oks_sSeq, oks_sSet, oks_sOwn, oks_sDrop, oks_sRet, oks_sIf, oks_sAsg, oks_sPar, oks_sFor, ok_runD, ok_some, oks_some, startE, eV, setsE, Tg.parts, fAdd_int, fAdd_lst, fAdd_tup, fSub_int, fMul_int, fDiv_int, fMod_int, fPow_int, fLt_int, fLe_int, fGt_int, fGe_int, fNeg_int, fIx_lst, fIx_tup, fLen_lst, fLen_tup, fAbs_int, fInt1_int, fInt1_bl, fGcd_int, fTuple_lst, fTuple_tup, fList_lst, fList_tup, fTru_bl, fTru_lst, fTru_tup, fIsB_bl, atI_0, atI_1, ty_int, ty_bl, ty_lst, ty_tup, ty_str, ty_non, List.map_cons, List.map_nil, List.length_cons, List.length_nil, List.replicate, List.cons_append, List.nil_append, List.getElem?_cons_zero, List.getElem?_cons_succ, List.set_cons_zero, List.set_cons_succ, List.zip_cons_cons, List.zip_nil_right, List.zip_nil_left, Option.some.injEq, exists_eq_left', exists_eq_left, Nat.reduceAdd, Nat.reduceSub, Nat.reduceEqDiff, PyData.bool.injEq, PyData.int.injEq, PyData.list.injEq, PyData.tuple.injEq, if_true, if_false, reduceIte, true_and, and_true, decide_true, decide_false, Bool.false_eq_true, hm2])
          have cd : cDiv n m = true := by
            unfold cDiv
            rw [Bool.and_eq_true, decide_eq_true_eq, decide_eq_true_eq]
            exact ⟨by omega, hl⟩
          have e3 : OkS (sGrSet (e2 fDiv (eGr0 (eV true 2)) (eV true 1)) (eV true 2) [.val (.dict []), .val (.int m), .val grD, .val (.int (n % m))] ⟨n :: rr, p, q⟩) fun f E' g' => f = .nx ∧ E' = [.val (.dict []), .val (.int m), .val grD, .val (.int (n % m))] ∧ g' = ⟨n.fdiv m :: rr, p, q⟩ := by
            have e4 : (e2 fDiv (eGr0 (eV true 2)) (eV true 1)) (EDr m (.val (.int (n % m)))) ⟨n :: rr, p, q⟩ = some (.int (n.fdiv m), ⟨n :: rr, p, q⟩) := by
              refine Ok.eq ?_
              rw [ok_e2, ok_eq (gr0 true m _ n rr p q)]
              (try simp only [fEq_int, fNe_int, ok_eK, ok_lNil, ok_lCons, ok_e2, ok_e1, ok_eF, ok_eTup, ok_nLst, ok_eN, ok_mB, ok_mTru, ok_mNot, ok_mAnd, ok_mOr, ok_eAnd, ok_eOr, ok_eNot, ok_eIf, ok_eIsi, ok_eIsi2, ok_eTyC, ok_eCall, ok_eCallK, ok_oNo, ok_oAt, ok_eSl, ok_iOf, ok_iOfT, ok_iRg1, oks_sNx, oks_sSeq, oks_sSet, oks_sOwn, oks_sDrop, oks_sRet, oks_sIf, oks_sAsg, oks_sPar, oks_sFor, ok_runD, ok_some, oks_some, startE, eV, setsE, Tg.parts, fAdd_int, fAdd_lst, fAdd_tup, fSub_int, fMul_int, fDiv_int, fMod_int, fPow_int, fLt_int, fLe_int, fGt_int, fGe_int, fNeg_int, fIx_lst, fIx_tup, fLen_lst, fLen_tup, fAbs_int, fInt1_int, fInt1_bl, fGcd_int, fTuple_lst, fTuple_tup, fList_lst, fList_tup, fTru_bl, fTru_lst, fTru_tup, fIsB_bl, atI_0, atI_1, ty_int, ty_bl, ty_lst, ty_tup, ty_str, ty_non, List.map_cons, List.map_nil, List.length_cons, List.length_nil, List.replicate, List.cons_append, List.nil_append, List.getElem?_cons_zero, List.getElem?_cons_succ, List.set_cons_zero, List.set_cons_succ, List.zip_cons_cons, List.zip_nil_right, List.zip_nil_left, Option.some.injEq, exists_eq_left', exists_eq_left, Nat.reduceAdd, Nat.reduceSub, Nat.reduceEqDiff, PyData.bool.injEq, PyData.int.injEq, PyData.list.injEq, PyData.tuple.injEq, if_true, if_false, reduceIte, true_and, and_true, decide_true, decide_false, Bool.false_eq_true, cd])
            have e5 : eV true 2 (EDr m (.val (.int (n % m)))) ⟨n :: rr, p, q⟩ = some (grD, ⟨n :: rr, p, q⟩) := rfl
            unfold sGrSet
            rw [e4]
            simp only
            rw [e5]
            exact ⟨_, _, _, rfl, rfl, rfl, rfl⟩
          refine e3.mono fun f E' g' ⟨f1, f2, f3⟩ => ?_
          subst f1; subst f2; subst f3
          (try simp only [fEq_int, fNe_int, ok_eK, ok_lNil, ok_lCons, ok_e2, ok_e1, ok_eF, ok_eTup, ok_nLst, ok_eN, ok_mB, ok_mTru, ok_mNot, ok_mAnd, ok_mOr, ok_eAnd, ok_eOr, ok_eNot, ok_eIf, ok_eIsi, ok_eIsi2, ok_eTyC, ok_eCall, ok_eCallK, ok_oNo, ok_oAt, ok_eSl, ok_iOf, ok_iOfT, ok_iRg1, oks_sNx, oks_sSeq, oks_sSet, oks_sOwn, oks_sDrop, oks_sRet, oks_sIf, oks_sAsg, oks_sPar, oks_sFor, ok_runD, ok_some, oks_some, startE, eV, setsE, Tg.parts, fAdd_int, fAdd_lst, fAdd_tup, fSub_int, fMul_int, fDiv_int, fMod_int, fPow_int, fLt_int, fLe_int, fGt_int, fGe_int, fNeg_int, fIx_lst, fIx_tup, fLen_lst, fLen_tup, fAbs_int, fInt1_int, fInt1_bl, fGcd_int, fTuple_lst, fTuple_tup, fList_lst, fList_tup, fTru_bl, fTru_lst, fTru_tup, fIsB_bl, atI_0, atI_1, ty_int, ty_bl, ty_lst, ty_tup, ty_str, ty_non, List.map_cons, List.map_nil, List.length_cons, List.length_nil, List.replicate, List.cons_append, List.nil_append, List.getElem?_cons_zero, List.getElem?_cons_succ, List.set_cons_zero, List.set_cons_succ, List.zip_cons_cons, List.zip_nil_right, List.zip_nil_left, Option.some.injEq, exists_eq_left', exists_eq_left, Nat.reduceAdd, Nat.reduceSub, Nat.reduceEqDiff, PyData.bool.injEq, PyData.int.injEq, PyData.list.injEq, PyData.tuple.injEq, if_true, if_false, reduceIte, true_and, and_true, decide_true, decide_false, Bool.false_eq_true])
          rw [Int.fdiv_eq_ediv_of_nonneg _ (by omega)]
        · cases h
      | nil =>
        cases h
        simp only [List.isEmpty_nil, Bool.not_true, Bool.false_eq_true, if_false]
        have hm2 : decide (0 < m) = true := decide_eq_true hm
        rw [oks_sNx]
        show OkS (sSeq _ _ (EDr m .no) _) _
        have s2 : sSpSet 2 (e2 fAdd (eSp 2 (eV true 0)) (eK (.int 1))) (eV true 0) (EDr m .no) ⟨[], p, q⟩ = some (.nx, EDr m .no, ⟨[], p, q + 1⟩) := rfl
        rw [oks_sSeq, s2, oks_some]
        show OkS (sSeq _ _ (EDr m .no) _) _
        have v1 : (e2 fMod (eF fInt1 (lCons (e2 fAdd (e2 fMul (eSp 1 (eV true 0)) (eK (.int 6364136223846793005))) (e2 fMul (eSp 2 (eV true 0)) (eK (.int 1442695040888963407)))) (lNil))) (eK (.int 2305843009213693951))) (EDr m .no) ⟨[], p, q + 1⟩ = some (.int ((p * 6364136223846793005 + (q + 1) * 1442695040888963407) % 2305843009213693951), ⟨[], p, q + 1⟩) := by
          have x1 : eSp 1 (eV true 0) (EDr m .no) ⟨[], p, q + 1⟩ = some (.int p, ⟨[], p, q + 1⟩) := rfl
          have x2 : eSp 2 (eV true 0) (EDr m .no) ⟨[], p, q + 1⟩ = some (.int (q + 1), ⟨[], p, q + 1⟩) := rfl
          refine Ok.eq ?_
          rw [ok_e2, ok_eF, ok_lCons, ok_e2, ok_e2, ok_eq x1]
          simp only [ok_eK, fMul_int, c1, if_true, Option.some.injEq, exists_eq_left', ok_e2, ok_eq x2, c2]
          (try simp only [fEq_int, fNe_int, ok_eK, ok_lNil, ok_lCons, ok_e2, ok_e1, ok_eF, ok_eTup, ok_nLst, ok_eN, ok_mB, ok_mTru, ok_mNot, ok_mAnd, ok_mOr, ok_eAnd, ok_eOr, ok_eNot, ok_eIf, ok_eIsi, ok_eIsi2, ok_eTyC, ok_eCall, ok_eCallK, ok_oNo, ok_oAt, ok_eSl, ok_iOf, ok_iOfT, ok_iRg1, oks_sNx, oks_sSeq, oks_sSet, oks_sOwn, oks_sDrop, oks_sRet, oks_sIf, oks_sAsg, oks_sPar, oks_sFor, ok_runD, ok_some, oks_some, startE, eV, setsE, Tg.parts, fAdd_int, fAdd_lst, fAdd_tup, fSub_int, fMul_int, fDiv_int, fMod_int, fPow_int, fLt_int, fLe_int, fGt_int, fGe_int, fNeg_int, fIx_lst, fIx_tup, fLen_lst, fLen_tup, fAbs_int, fInt1_int, fInt1_bl, fGcd_int, fTuple_lst, fTuple_tup, fList_lst, fList_tup, fTru_bl, fTru_lst, fTru_tup, fIsB_bl, atI_0, atI_1, ty_int, ty_bl, ty_lst, ty_tup, ty_str, ty_non, List.map_cons, List.map_nil, List.length_cons, List.length_nil, List.replicate, List.cons_append, List.nil_append, List.getElem?_cons_zero, List.getElem?_cons_succ, List.set_cons_zero, List.set_cons_succ, List.zip_cons_cons, List.zip_nil_right, List.zip_nil_left, Option.some.injEq, exists_eq_left', exists_eq_left, Nat.reduceAdd, Nat.reduceSub, Nat.reduceEqDiff, PyData.bool.injEq, PyData.int.injEq, PyData.list.injEq, PyData.tuple.injEq, if_true, if_false, reduceIte, true_and, and_true, decide_true, decide_false, Bool.false_eq_true])
          simp
        have s1 : sSpSet 1 (e2 fMod (eF fInt1 (lCons (e2 fAdd (e2 fMul (eSp 1 (eV true 0)) (eK (.int 6364136223846793005))) (e2 fMul (eSp 2 (eV true 0)) (eK (.int 1442695040888963407)))) (lNil))) (eK (.int 2305843009213693951))) (eV true 0) (EDr m .no) ⟨[], p, q + 1⟩ = some (.nx, EDr m .no, ⟨[], (p * 6364136223846793005 + (q + 1) * 1442695040888963407) % 2305843009213693951, q + 1⟩) := by
          unfold sSpSet
          rw [v1]
          rfl
        rw [oks_sSeq, s1, oks_some]
        generalize hP : (p * 6364136223846793005 + (q + 1) * 1442695040888963407) % 2305843009213693951 = P
        have P0 : 0 ≤ P := by rw [← hP]; exact Int.emod_nonneg _ (by decide)
        have P1 : P < 2305843009213693951 := by rw [← hP]; exact Int.emod_lt_of_pos _ (by decide)
        show OkS (sRet _ (EDr m .no) _) _
        have x1 : eSp 1 (eV false 0) (EDr m .no) ⟨[], P, q + 1⟩ = some (.int P, ⟨[], P, q + 1⟩) := rfl
        rw [oks_sRet, ok_e2, ok_e2, ok_e2, ok_eF, ok_lCons, ok_e2, ok_eq x1, ok_eq x1]
        have cd : ∀ z : Int, cDiv z 1048576 = true := fun z => by unfold cDiv; decide
        simp only [fMul_int, c3 P0 P1, if_true, Option.some.injEq, exists_eq_left', ok_lNil, fInt1_int, ok_eK, fMod_int, fDiv_int, cd, hm2]
        (try simp only [fEq_int, fNe_int, ok_eK, ok_lNil, ok_lCons, ok_e2, ok_e1, ok_eF, ok_eTup, ok_nLst, ok_eN, ok_mB, ok_mTru, ok_mNot, ok_mAnd, ok_mOr, ok_eAnd, ok_eOr, ok_eNot, ok_eIf, ok_eIsi, ok_eIsi2, ok_eTyC, ok_eCall, ok_eCallK, ok_oNo, ok_oAt, ok_eSl, ok_iOf, ok_iOfT, ok_iRg1, oks_sNx, oks_sSeq, oks_sSet, oks_sOwn, oks_sDrop, oks_sRet, oks_sIf, oks_sAsg, oks_sPar, oks_sFor, ok_runD, ok_some, oks_some, startE, eV, setsE, Tg.parts, fAdd_int, fAdd_lst, fAdd_tup, fSub_int, fMul_int, fDiv_int, fMod_int, fPow_int, fLt_int, fLe_int, fGt_int, fGe_int, fNeg_int, fIx_lst, fIx_tup, fLen_lst, fLen_tup, fAbs_int, fInt1_int, fInt1_bl, fGcd_int, fTuple_lst, fTuple_tup, fList_lst, fList_tup, fTru_bl, fTru_lst, fTru_tup, fIsB_bl, atI_0, atI_1, ty_int, ty_bl, ty_lst, ty_tup, ty_str, ty_non, List.map_cons, List.map_nil, List.length_cons, List.length_nil, List.replicate, List.cons_append, List.nil_append, List.getElem?_cons_zero, List.getElem?_cons_succ, List.set_cons_zero, List.set_cons_succ, List.zip_cons_cons, List.zip_nil_right, List.zip_nil_left, Option.some.injEq, exists_eq_left', exists_eq_left, Nat.reduceAdd, Nat.reduceSub, Nat.reduceEqDiff, PyData.bool.injEq, PyData.int.injEq, PyData.list.injEq, PyData.tuple.injEq, if_true, if_false, reduceIte, true_and, and_true, decide_true, decide_false, Bool.false_eq_true, hm2])
        simp [hm]
        refine ⟨.int ((P * P % 2305843009213693921).fdiv 1048576), by rw [fDiv_int, if_pos (cd _)], ?_⟩
        rw [fMod_int, if_pos hm2, Int.fdiv_eq_ediv_of_nonneg _ (by decide)]
    · cases h
  · cases h
end K01

set_option Elab.async false
set_option linter.all false
set_option maxRecDepth 100000
set_option maxHeartbeats 4000000
namespace K01
open PySem PySem.Spec PyProof.Rows L2 DL
abbrev scD (ns : List Int) : D := .dict [(.none, .list (ns.map .int))]
abbrev cSp : MT := mB (e2 fGe (eV false 3) (e2 fPow (eK (.int 10)) (eK (.int 18))))
abbrev eSpr : M := e2 fSub (eV true 3) (e2 fPow (eK (.int 10)) (eK (.int 18)))
theorem lcSp (x y z : Sl) (g : G) : ∀ ns : List Int, ∃ ms : List Int, ms.length ≤ ns.length ∧ lcL (.one 3) cSp eSpr [x, y, z, .no] (ns.map .int) g = some (ms.map .int, g)
  | [] => ⟨[], Nat.le_refl _, rfl⟩
  | n :: ns => by
    obtain ⟨ms, hl, h⟩ := lcSp x y z g ns
    have c18 : (decide ((0 : Int) ≤ 18) && decide ((18 : Int) ≤ 1000000) && decide ((10 : Int).natAbs < 2 ^ 64)) = true := by decide
    have hc : cSp [x, y, z, .val (.int n)] g = some (decide ((10 : Int) ^ (18 : Int).toNat ≤ n), g) := by
      refine Ok.eq ?_
      (try simp only [fEq_int, fNe_int, ok_eK, ok_lNil, ok_lCons, ok_e2, ok_e1, ok_eF, ok_eTup, ok_nLst, ok_eN, ok_mB, ok_mTru, ok_mNot, ok_mAnd, ok_mOr, ok_eAnd, ok_eOr, ok_eNot, ok_eIf, ok_eIsi, ok_eIsi2, ok_eTyC, ok_eCall, ok_eCallK, ok_oNo, ok_oAt, ok_eSl, ok_iOf, ok_iOfT, ok_iRg1, oks_sNx, oks_sSeq, oks_sSet, oks_sOwn, oks_sDrop, oks_sRet, oks_sIf, oks_sAsg, oks_sPar, oks_sFor, ok_runD, ok_some, oks_some, startE, eV, setsE, Tg.parts, fAdd_int, fAdd_lst, fAdd_tup, fSub_int, fMul_int, fDiv_int, fMod_int, fPow_int, fLt_int, fLe_int, fGt_int, fGe_int, fNeg_int, fIx_lst, fIx_tup, fLen_lst, fLen_tup, fAbs_int, fInt1_int, fInt1_bl, fGcd_int, fTuple_lst, fTuple_tup, fList_lst, fList_tup, fTru_bl, fTru_lst, fTru_tup, fIsB_bl, atI_0, atI_1, ty_int, ty_bl, ty_lst, ty_tup, ty_str, ty_non, List.map_cons, List.map_nil, List.length_cons, List.length_nil, List.replicate, List.cons_append, List.nil_append, List.getElem?_cons_zero, List.getElem?_cons_succ, List.set_cons_zero, List.set_cons_succ, List.zip_cons_cons, List.zip_nil_right, List.zip_nil_left, Option.some.injEq, exists_eq_left', exists_eq_left, Nat.reduceAdd, Nat.reduceSub, Nat.reduceEqDiff, PyData.bool.injEq, PyData.int.injEq, PyData.list.injEq, PyData.tuple.injEq, if_true, if_false, reduceIte, true_and, and_true, decide_true, decide_false, Bool.false_eq_true, c18])
    have he : eSpr [x, y, z, .val (.int n)] g = some (.int (n - (10 : Int) ^ (18 : Int).toNat), g) := by
      refine Ok.eq ?_
      (try simp only [fEq_int, fNe_int, ok_eK, ok_lNil, ok_lCons, ok_e2, ok_e1, ok_eF, ok_eTup, ok_nLst, ok_eN, ok_mB, ok_mTru, ok_mNot, ok_mAnd, ok_mOr, ok_eAnd, ok_eOr, ok_eNot, ok_eIf, ok_eIsi, ok_eIsi2, ok_eTyC, ok_eCall, ok_eCallK, ok_oNo, ok_oAt, ok_eSl, ok_iOf, ok_iOfT, ok_iRg1, oks_sNx, oks_sSeq, oks_sSet, oks_sOwn, oks_sDrop, oks_sRet, oks_sIf, oks_sAsg, oks_sPar, oks_sFor, ok_runD, ok_some, oks_some, startE, eV, setsE, Tg.parts, fAdd_int, fAdd_lst, fAdd_tup, fSub_int, fMul_int, fDiv_int, fMod_int, fPow_int, fLt_int, fLe_int, fGt_int, fGe_int, fNeg_int, fIx_lst, fIx_tup, fLen_lst, fLen_tup, fAbs_int, fInt1_int, fInt1_bl, fGcd_int, fTuple_lst, fTuple_tup, fList_lst, fList_tup, fTru_bl, fTru_lst, fTru_tup, fIsB_bl, atI_0, atI_1, ty_int, ty_bl, ty_lst, ty_tup, ty_str, ty_non, List.map_cons, List.map_nil, List.length_cons, List.length_nil, List.replicate, List.cons_append, List.nil_append, List.getElem?_cons_zero, List.getElem?_cons_succ, List.set_cons_zero, List.set_cons_succ, List.zip_cons_cons, List.zip_nil_right, List.zip_nil_left, Option.some.injEq, exists_eq_left', exists_eq_left, Nat.reduceAdd, Nat.reduceSub, Nat.reduceEqDiff, PyData.bool.injEq, PyData.int.injEq, PyData.list.injEq, PyData.tuple.injEq, if_true, if_false, reduceIte, true_and, and_true, decide_true, decide_false, Bool.false_eq_true, c18])
    by_cases hn : (10 : Int) ^ (18 : Int).toNat ≤ n
    · refine ⟨(n - (10 : Int) ^ (18 : Int).toNat) :: ms, by simp only [List.length_cons]; omega, ?_⟩
      rw [List.map_cons]
      unfold lcL
      show (match cSp [x, y, z, .val (.int n)] g with
        | none => none
        | some (false, g1) => lcL (.one 3) cSp eSpr [x, y, z, .no] (ns.map .int) g1
        | some (true, g1) => match eSpr [x, y, z, .val (.int n)] g1 with
          | none => none
          | some (w, g2) => match lcL (.one 3) cSp eSpr [x, y, z, .no] (ns.map .int) g2 with
            | none => none
            | some (xs, g3) => some (w :: xs, g3)) = _
      rw [hc, decide_eq_true hn]
      simp only
      rw [he]
      simp only
      rw [h]
      rfl
    · refine ⟨ms, by simp only [List.length_cons]; omega, ?_⟩
      rw [List.map_cons]
      unfold lcL
      show (match cSp [x, y, z, .val (.int n)] g with
        | none => none
        | some (false, g1) => lcL (.one 3) cSp eSpr [x, y, z, .no] (ns.map .int) g1
        | some (true, g1) => match eSpr [x, y, z, .val (.int n)] g1 with
          | none => none
          | some (w, g2) => match lcL (.one 3) cSp eSpr [x, y, z, .no] (ns.map .int) g2 with
            | none => none
            | some (xs, g3) => some (w :: xs, g3)) = _
      rw [hc, decide_eq_false hn]
      exact h
theorem d1 (p : Int) : cMul p 982451653 = true := by
  unfold cMul
  simp
theorem d2 (p : Int) : cMul p 49979687 = true := by
  unfold cMul
  simp
theorem d3 (p : Int) : cMul 2 p = true := by
  unfold cMul
  simp
theorem spring_ok (ns : List Int) (hl : ns.length ≤ 100) (g : G) : Ok (F_law_spring [scD ns] g) fun d g' => ∃ (deep : List Int) (p : Int), d = .list [.list (deep.map .int), .int p, .int 0] ∧ g' = g := by
  have hs : ns.length ≤ sizeLine := sz_ok hl
  unfold F_law_spring m_law_spring
  rw [ok_runD]
  have iz : ∀ (E : En) (h0 : E[0]? = some (.val (scD ns))), iOfZ (eV true 0) E g = some (ns.map .int, g) := fun E h0 => by
    unfold iOfZ eV
    rw [h0]
  refine oks_seqI (P := fun E' g' => ∃ deep : List Int, g' = g ∧ E' = [.val (scD ns), .val (.list (deep.map .int)), .no, .no]) ?_ ?_
  · rw [oks_sSet, ok_eN, ok_nLc (by rfl), ok_eq (iz _ rfl)]
    obtain ⟨ms, hm, h⟩ := lcSp (.val (scD ns)) .no .no g ns
    refine ⟨by rw [List.length_map]; exact hs, ?_⟩
    show Ok (lcL (.one 3) cSp eSpr [.val (scD ns), .no, .no, .no] (ns.map .int) g) _
    rw [ok_eq h]
    exact ⟨rfl, ms, rfl, rfl⟩
  rintro _ g1 ⟨deep, rfl, rfl⟩
  refine oks_seqI (P := fun E' g' => ∃ p : Int, g' = g1 ∧ E' = [.val (scD ns), .val (.list (deep.map .int)), .val (.int p), .no]) ?_ ?_
  · have fl : fLen [scD ns] = some (.int ns.length) := by
      show some (PyData.int ((ns.map PyData.int).length : Int)) = _
      rw [List.length_map]
    (try simp only [fEq_int, fNe_int, ok_eK, ok_lNil, ok_lCons, ok_e2, ok_e1, ok_eF, ok_eTup, ok_nLst, ok_eN, ok_mB, ok_mTru, ok_mNot, ok_mAnd, ok_mOr, ok_eAnd, ok_eOr, ok_eNot, ok_eIf, ok_eIsi, ok_eIsi2, ok_eTyC, ok_eCall, ok_eCallK, ok_oNo, ok_oAt, ok_eSl, ok_iOf, ok_iOfT, ok_iRg1, oks_sNx, oks_sSeq, oks_sSet, oks_sOwn, oks_sDrop, oks_sRet, oks_sIf, oks_sAsg, oks_sPar, oks_sFor, ok_runD, ok_some, oks_some, startE, eV, setsE, Tg.parts, fAdd_int, fAdd_lst, fAdd_tup, fSub_int, fMul_int, fDiv_int, fMod_int, fPow_int, fLt_int, fLe_int, fGt_int, fGe_int, fNeg_int, fIx_lst, fIx_tup, fLen_lst, fLen_tup, fAbs_int, fInt1_int, fInt1_bl, fGcd_int, fTuple_lst, fTuple_tup, fList_lst, fList_tup, fTru_bl, fTru_lst, fTru_tup, fIsB_bl, atI_0, atI_1, ty_int, ty_bl, ty_lst, ty_tup, ty_str, ty_non, List.map_cons, List.map_nil, List.length_cons, List.length_nil, List.replicate, List.cons_append, List.nil_append, List.getElem?_cons_zero, List.getElem?_cons_succ, List.set_cons_zero, List.set_cons_succ, List.zip_cons_cons, List.zip_nil_right, List.zip_nil_left, Option.some.injEq, exists_eq_left', exists_eq_left, Nat.reduceAdd, Nat.reduceSub, Nat.reduceEqDiff, PyData.bool.injEq, PyData.int.injEq, PyData.list.injEq, PyData.tuple.injEq, if_true, if_false, reduceIte, true_and, and_true, decide_true, decide_false, Bool.false_eq_true, fl, d3])
    exact ⟨_, rfl⟩
  rintro _ g2 ⟨p, rfl, rfl⟩
  refine oks_seqI (P := fun E' g' => g' = g2 ∧ ∃ (p : Int) (x : Sl), E' = [.val (scD ns), .val (.list (deep.map .int)), .val (.int p), x]) ?_ ?_
  · rw [oks_sFor, ok_eq (iz _ rfl)]
    refine forL_ok (I := fun E' g' => g' = g2 ∧ ∃ (p : Int) (x : Sl), E' = [.val (scD ns), .val (.list (deep.map .int)), .val (.int p), x]) _ _ _ (fun d hd E' g' ⟨h1, p, x, h2⟩ => ?_) ⟨rfl, _, _, rfl⟩
    subst h1; subst h2
    obtain ⟨n, _, rfl⟩ := List.mem_map.mp hd
    refine ⟨_, rfl, ?_⟩
    show OkS (sSet 2 _ [.val (scD ns), .val (.list (deep.map .int)), .val (.int p), .val (.int n)] _) _
    have m0 : decide ((0 : Int) < 2305843009213693951) = true := by decide
    (try simp only [fEq_int, fNe_int, ok_eK, ok_lNil, ok_lCons, ok_e2, ok_e1, ok_eF, ok_eTup, ok_nLst, ok_eN, ok_mB, ok_mTru, ok_mNot, ok_mAnd, ok_mOr, ok_eAnd, ok_eOr, ok_eNot, ok_eIf, ok_eIsi, ok_eIsi2, ok_eTyC, ok_eCall, ok_eCallK, ok_oNo, ok_oAt, ok_eSl, ok_iOf, ok_iOfT, ok_iRg1, oks_sNx, oks_sSeq, oks_sSet, oks_sOwn, oks_sDrop, oks_sRet, oks_sIf, oks_sAsg, oks_sPar, oks_sFor, ok_runD, ok_some, oks_some, startE, eV, setsE, Tg.parts, fAdd_int, fAdd_lst, fAdd_tup, fSub_int, fMul_int, fDiv_int, fMod_int, fPow_int, fLt_int, fLe_int, fGt_int, fGe_int, fNeg_int, fIx_lst, fIx_tup, fLen_lst, fLen_tup, fAbs_int, fInt1_int, fInt1_bl, fGcd_int, fTuple_lst, fTuple_tup, fList_lst, fList_tup, fTru_bl, fTru_lst, fTru_tup, fIsB_bl, atI_0, atI_1, ty_int, ty_bl, ty_lst, ty_tup, ty_str, ty_non, List.map_cons, List.map_nil, List.length_cons, List.length_nil, List.replicate, List.cons_append, List.nil_append, List.getElem?_cons_zero, List.getElem?_cons_succ, List.set_cons_zero, List.set_cons_succ, List.zip_cons_cons, List.zip_nil_right, List.zip_nil_left, Option.some.injEq, exists_eq_left', exists_eq_left, Nat.reduceAdd, Nat.reduceSub, Nat.reduceEqDiff, PyData.bool.injEq, PyData.int.injEq, PyData.list.injEq, PyData.tuple.injEq, if_true, if_false, reduceIte, true_and, and_true, decide_true, decide_false, Bool.false_eq_true, d1, d2, m0])
    exact ⟨_, _, rfl⟩
  rintro _ g3 ⟨rfl, p, x, rfl⟩
  have z3 : 3 ≤ sizeLine := sz_ok (by decide)
  (try simp only [fEq_int, fNe_int, ok_eK, ok_lNil, ok_lCons, ok_e2, ok_e1, ok_eF, ok_eTup, ok_nLst, ok_eN, ok_mB, ok_mTru, ok_mNot, ok_mAnd, ok_mOr, ok_eAnd, ok_eOr, ok_eNot, ok_eIf, ok_eIsi, ok_eIsi2, ok_eTyC, ok_eCall, ok_eCallK, ok_oNo, ok_oAt, ok_eSl, ok_iOf, ok_iOfT, ok_iRg1, oks_sNx, oks_sSeq, oks_sSet, oks_sOwn, oks_sDrop, oks_sRet, oks_sIf, oks_sAsg, oks_sPar, oks_sFor, ok_runD, ok_some, oks_some, startE, eV, setsE, Tg.parts, fAdd_int, fAdd_lst, fAdd_tup, fSub_int, fMul_int, fDiv_int, fMod_int, fPow_int, fLt_int, fLe_int, fGt_int, fGe_int, fNeg_int, fIx_lst, fIx_tup, fLen_lst, fLen_tup, fAbs_int, fInt1_int, fInt1_bl, fGcd_int, fTuple_lst, fTuple_tup, fList_lst, fList_tup, fTru_bl, fTru_lst, fTru_tup, fIsB_bl, atI_0, atI_1, ty_int, ty_bl, ty_lst, ty_tup, ty_str, ty_non, List.map_cons, List.map_nil, List.length_cons, List.length_nil, List.replicate, List.cons_append, List.nil_append, List.getElem?_cons_zero, List.getElem?_cons_succ, List.set_cons_zero, List.set_cons_succ, List.zip_cons_cons, List.zip_nil_right, List.zip_nil_left, Option.some.injEq, exists_eq_left', exists_eq_left, Nat.reduceAdd, Nat.reduceSub, Nat.reduceEqDiff, PyData.bool.injEq, PyData.int.injEq, PyData.list.injEq, PyData.tuple.injEq, if_true, if_false, reduceIte, true_and, and_true, decide_true, decide_false, Bool.false_eq_true, z3])
  exact ⟨deep, p, rfl⟩
end K01

set_option Elab.async false
set_option linter.all false
set_option maxRecDepth 100000
set_option maxHeartbeats 4000000
namespace K01
open PySem PySem.Spec PyProof.Rows L2 DL
theorem oks_sApp {i : Nat} {m : M} {E : En} {g : G} {Q : Fl → En → G → Prop} : OkS (sApp i m E g) Q ↔ Ok (m E g) fun d g1 => ∃ ds, E[i]? = some (.own ds) ∧ ds.length < sizeLine ∧ Q .nx (E.set i (.own (ds ++ [d]))) g1 := by
  unfold sApp
  cases m E g with
  | none => exact ⟨fun ⟨_, _, _, e, _⟩ => (nomatch e), fun ⟨_, _, e, _⟩ => nomatch e⟩
  | some p =>
    simp only [ok_some]
    cases h : E[i]? with
    | none => exact ⟨fun ⟨_, _, _, e, _⟩ => (nomatch e), fun ⟨_, e, _⟩ => nomatch e⟩
    | some z =>
      cases z with
      | own ds =>
        by_cases hl : ds.length < sizeLine
        · simp only [hl, if_true, oks_some]
          exact ⟨fun q => ⟨ds, rfl, hl, q⟩, fun ⟨_, e, _, q⟩ => by cases e; exact q⟩
        · simp only [hl, if_false]
          exact ⟨fun ⟨_, _, _, e, _⟩ => (nomatch e), fun ⟨_, e, w, _⟩ => by cases e; exact absurd w hl⟩
      | _ => exact ⟨fun ⟨_, _, _, e, _⟩ => (nomatch e), fun ⟨_, e, _⟩ => nomatch e⟩
theorem ok_nCatO {i : Nat} {b : M} {E : En} {g : G} {Q : List D → G → Prop} {ds : List D} (h : E[i]? = some (.own ds)) : Ok (nCatO i b E g) Q ↔ Ok (b E g) fun d g1 => ∃ es, d = .list es ∧ ds.length + es.length ≤ sizeLine ∧ Q (ds ++ es) g1 := by
  unfold nCatO
  rw [h]
  cases b E g with
  | none => exact ⟨fun ⟨_, _, e, _⟩ => (nomatch e), fun ⟨_, _, e, _⟩ => nomatch e⟩
  | some p =>
    obtain ⟨d, g1⟩ := p
    simp only [ok_some]
    cases d with
    | list es =>
      by_cases hl : ds.length + es.length ≤ sizeLine
      · simp only [hl, if_true, ok_some]
        exact ⟨fun q => ⟨es, rfl, hl, q⟩, fun ⟨_, e, _, q⟩ => by cases e; exact q⟩
      · simp only [hl, if_false, ok_none]
        exact ⟨False.elim, fun ⟨_, e, w, _⟩ => by cases e; exact hl w⟩
    | _ => exact ⟨fun ⟨_, _, e, _⟩ => (nomatch e), fun ⟨_, e, _⟩ => nomatch e⟩
theorem oks_sFrz {i : Nat} {m : MS} {E : En} {g : G} {Q : Fl → En → G → Prop} {ds : List D} (h : E[i]? = some (.own ds)) : OkS (sFrz i m E g) Q ↔ OkS (m (E.set i (.val (.list ds))) g) Q := by
  unfold sFrz
  rw [h]
theorem ok_nCatO' {i : Nat} {b : M} {E : En} {g : G} {Q : List D → G → Prop} : Ok (nCatO i b E g) Q ↔ ∃ ds, E[i]? = some (.own ds) ∧ Ok (b E g) fun d g1 => ∃ es, d = .list es ∧ ds.length + es.length ≤ sizeLine ∧ Q (ds ++ es) g1 := by
  cases h : E[i]? with
  | none =>
    unfold nCatO
    rw [h]
    exact ⟨fun ⟨_, _, e, _⟩ => (nomatch e), fun ⟨_, e, _⟩ => nomatch e⟩
  | some z =>
    cases z with
    | own ds =>
      rw [ok_nCatO h]
      exact ⟨fun q => ⟨ds, rfl, q⟩, fun ⟨_, e, q⟩ => by cases e; exact q⟩
    | _ =>
      unfold nCatO
      rw [h]
      exact ⟨fun ⟨_, _, e, _⟩ => (nomatch e), fun ⟨_, e, _⟩ => nomatch e⟩
theorem oks_sFrz' {i : Nat} {m : MS} {E : En} {g : G} {Q : Fl → En → G → Prop} : OkS (sFrz i m E g) Q ↔ ∃ ds, E[i]? = some (.own ds) ∧ OkS (m (E.set i (.val (.list ds))) g) Q := by
  cases h : E[i]? with
  | none =>
    unfold sFrz
    rw [h]
    exact ⟨fun ⟨_, _, _, e, _⟩ => (nomatch e), fun ⟨_, e, _⟩ => nomatch e⟩
  | some z =>
    cases z with
    | own ds =>
      rw [oks_sFrz h]
      exact ⟨fun q => ⟨ds, rfl, q⟩, fun ⟨_, e, q⟩ => by cases e; exact q⟩
    | _ =>
      unfold sFrz
      rw [h]
      exact ⟨fun ⟨_, _, _, e, _⟩ => (nomatch e), fun ⟨_, e, _⟩ => nomatch e⟩
/-- an item: a found one and what it stands for -/
def itm (q : Rat) (t b : Int) : D := .list [fr q, .int t, .int b]
def Itm (d : D) : Prop := ∃ q t b, d = itm q t b ∧ ∀ g, F_law_means [fr q, .int t, .int b] g = some (.bool true, g)
theorem items_ok {E : En} {g : G} (h3 : E.length = 11) (ds : List D) (h : ∀ d ∈ ds, Itm d) :
    lcL (.manyL [8, 9, 10]) mYes (eCall F_law_means (lCons (eV false 8) (lCons (eV false 9) (lCons (eV false 10) lNil)))) E ds g = some (ds.map fun _ => .bool true, g) :=
  lcL_map ds fun d hd => by
    obtain ⟨q, t, b, rfl, hm⟩ := h d hd
    refine ⟨[(8, fr q), (9, .int t), (10, .int b)], rfl, Ok.eq ?_⟩
    have e8 : (setsE [(8, fr q), (9, .int t), (10, .int b)] E)[8]? = some (.val (fr q)) := by simp [setsE, h3]
    have e9 : (setsE [(8, fr q), (9, .int t), (10, .int b)] E)[9]? = some (.val (.int t)) := by simp [setsE, h3]
    have e10 : (setsE [(8, fr q), (9, .int t), (10, .int b)] E)[10]? = some (.val (.int b)) := by simp [setsE, h3]
    simp only [ok_eCall, ok_lCons, ok_lNil, eV, e8, e9, e10, ok_some]
    rw [ok_eq (hm g)]
    exact ⟨rfl, rfl⟩
theorem lt_fr {r s : Rat} : decide (r.num * (s.den : Int) < s.num * (r.den : Int)) = decide (r < s) := by
  simp [Rat.lt_iff]
theorem pair_ok {r s : Rat} (hr : Sz 140 r) (hs : Sz 140 s) (g : G) : F_law_pair_right [fr r, fr s] g = some (.bool true, g) := by
  have s3 : 3 ≤ sizeLine := sz_ok (by decide)
  have s2 : 2 ≤ sizeLine := sz_ok (by decide)
  have s4 : 4 ≤ sizeLine := sz_ok (by decide)
  have s5 : 3 + 2 ≤ sizeLine := sz_ok (by decide)
  have hp := hr.add hs
  have hm := hr.sub hs
  have ht := hr.mul hs
  have b1 := mul_bd hr.1 (den_bd hs)
  have b2 := mul_bd hs.1 (den_bd hr)
  have b3 := mul_bd (den_bd hr) (den_bd hs)
  have b4 := mul_bd hr.1 hs.1
  have b5 := mul_bd (den_bd hr) hs.1
  have w : ∀ {i : Int} {n : Nat}, i.natAbs < 2 ^ n → n ≤ 2000 → i.natAbs < 2 ^ 2000 := fun h l => Nat.lt_of_lt_of_le h (Nat.pow_le_pow_right (by decide) l)
  have i1 : Itm (itm (r + s) (r.num * s.den + s.num * r.den) (r.den * s.den)) := ⟨_, _, _, rfl, means_ok (den_mul_ne r s) (add_div r s).symm (hp.mono (by decide)) (w (add_bd b1 b2) (by decide)) (w b3 (by decide))⟩
  have i2 : Itm (itm (r - s) (r.num * s.den - s.num * r.den) (r.den * s.den)) := ⟨_, _, _, rfl, means_ok (den_mul_ne r s) (sub_div r s).symm (hm.mono (by decide)) (w (add_bd b1 (j := -(s.num * r.den)) (by rw [Int.natAbs_neg]; exact b2)) (by decide)) (w b3 (by decide))⟩
  have i3 : Itm (itm (r * s) (r.num * s.num) (r.den * s.den)) := ⟨_, _, _, rfl, means_ok (den_mul_ne r s) (mul_div r s).symm (ht.mono (by decide)) (w b4 (by decide)) (w b3 (by decide))⟩
  have p10 : ∀ x y : D, pick [1, 0] [x, y] .none = [y, x] := fun _ _ => rfl
  have c1 := cmul_bd hr.1 (den_bd hs) (by decide)
  have c2 := cmul_bd hs.1 (den_bd hr) (by decide)
  have c3 := cmul_bd (den_bd hr) (den_bd hs) (by decide)
  have c4 := cmul_bd hr.1 hs.1 (by decide)
  have c5 := cmul_bd (den_bd hr) hs.1 (by decide)
  have pe := plus_ok hr hs (by decide) (by decide)
  have me := minus_ok hr hs (by decide) (by decide)
  have te := times_ok hr hs (by decide) (by decide)
  have q1 := below_ok hr hs (by decide) (by decide)
  have q2 := below_ok hr hr (by decide) (by decide)
  have rr : decide (r < r) = false := decide_eq_false (by grind)
  refine Ok.eq ?_
  unfold F_law_pair_right m_law_pair_right
  have x211 : (2 < 11) = True := eq_true (by decide)
  have z5 : 5 ≤ sizeLine := sz_ok (by decide)
  have z6 : 5 < sizeLine := by decide
  have z8 : 8 ≤ sizeLine := sz_ok (by decide)
  have fin : ∀ ds : List D, ds.length ≤ 100 → (∀ d ∈ ds, Itm d) → Ok (nLc (.manyL [8, 9, 10]) (iOf (eV true 2)) mYes (eCall F_law_means (lCons (eV false 8) (lCons (eV false 9) (lCons (eV false 10) lNil)))) [8, 9, 10]
      [.val (fr r), .val (fr s), .val (.list ds), .no, .val (.int r.num), .val (.int r.den), .val (.int s.num), .val (.int s.den), .no, .no, .no] g) fun xs g1 => fAll [.list xs] = some (.bool true) ∧ g1 = g := fun ds hl hd => by
    rw [ok_nLc (by rfl)]
    (try simp only [fEq_int, fNe_int, ok_eK, ok_lNil, ok_lCons, ok_e2, ok_e1, ok_eF, ok_eTup, ok_nLst, ok_eN, ok_mB, ok_mTru, ok_mNot, ok_mAnd, ok_mOr, ok_eAnd, ok_eOr, ok_eNot, ok_eIf, ok_eIsi, ok_eIsi2, ok_eTyC, ok_eCall, ok_eCallK, ok_oNo, ok_oAt, ok_eSl, ok_iOf, ok_iOfT, ok_iRg1, oks_sNx, oks_sSeq, oks_sSet, oks_sOwn, oks_sDrop, oks_sRet, oks_sIf, oks_sAsg, oks_sPar, oks_sFor, ok_runD, ok_some, oks_some, startE, eV, setsE, Tg.parts, fAdd_int, fAdd_lst, fAdd_tup, fSub_int, fMul_int, fDiv_int, fMod_int, fPow_int, fLt_int, fLe_int, fGt_int, fGe_int, fNeg_int, fIx_lst, fIx_tup, fLen_lst, fLen_tup, fAbs_int, fInt1_int, fInt1_bl, fGcd_int, fTuple_lst, fTuple_tup, fList_lst, fList_tup, fTru_bl, fTru_lst, fTru_tup, fIsB_bl, atI_0, atI_1, ty_int, ty_bl, ty_lst, ty_tup, ty_str, ty_non, List.map_cons, List.map_nil, List.length_cons, List.length_nil, List.replicate, List.cons_append, List.nil_append, List.getElem?_cons_zero, List.getElem?_cons_succ, List.set_cons_zero, List.set_cons_succ, List.zip_cons_cons, List.zip_nil_right, List.zip_nil_left, Option.some.injEq, exists_eq_left', exists_eq_left, Nat.reduceAdd, Nat.reduceSub, Nat.reduceEqDiff, PyData.bool.injEq, PyData.int.injEq, PyData.list.injEq, PyData.tuple.injEq, if_true, if_false, reduceIte, true_and, and_true, decide_true, decide_false, Bool.false_eq_true])
    refine ⟨sz_ok hl, ?_⟩
    rw [ok_eq (items_ok (by rfl) ds hd)]
    exact ⟨fAll_true ds, rfl⟩
  by_cases n0 : s.num = 0
  · have n0' : decide (s.num = 0) = true := decide_eq_true n0
    (simp (maxSteps := 3000000) only [fEq_int, fNe_int, ok_eK, ok_lNil, ok_lCons, ok_e2, ok_e1, ok_eF, ok_eTup, ok_nLst, ok_eN, ok_mB, ok_mTru, ok_mNot, ok_mAnd, ok_mOr, ok_eAnd, ok_eOr, ok_eNot, ok_eIf, ok_eIsi, ok_eIsi2, ok_eTyC, ok_eCall, ok_eCallK, ok_oNo, ok_oAt, ok_eSl, ok_iOf, ok_iOfT, ok_iRg1, oks_sNx, oks_sSeq, oks_sSet, oks_sOwn, oks_sDrop, oks_sRet, oks_sIf, oks_sAsg, oks_sPar, oks_sFor, ok_runD, ok_some, oks_some, startE, eV, setsE, Tg.parts, fAdd_int, fAdd_lst, fAdd_tup, fSub_int, fMul_int, fDiv_int, fMod_int, fPow_int, fLt_int, fLe_int, fGt_int, fGe_int, fNeg_int, fIx_lst, fIx_tup, fLen_lst, fLen_tup, fAbs_int, fInt1_int, fInt1_bl, fGcd_int, fTuple_lst, fTuple_tup, fList_lst, fList_tup, fTru_bl, fTru_lst, fTru_tup, fIsB_bl, atI_0, atI_1, ty_int, ty_bl, ty_lst, ty_tup, ty_str, ty_non, List.map_cons, List.map_nil, List.length_cons, List.length_nil, List.replicate, List.cons_append, List.nil_append, List.getElem?_cons_zero, List.getElem?_cons_succ, List.set_cons_zero, List.set_cons_succ, List.zip_cons_cons, List.zip_nil_right, List.zip_nil_left, Option.some.injEq, exists_eq_left', exists_eq_left, Nat.reduceAdd, Nat.reduceSub, Nat.reduceEqDiff, PyData.bool.injEq, PyData.int.injEq, PyData.list.injEq, PyData.tuple.injEq, if_true, if_false, reduceIte, true_and, and_true, decide_true, decide_false, Bool.false_eq_true, fIx_fr0, fIx_fr1, p10, c1, c2, c3, c4, c5, pe, me, te, s2, s3, s4, x211, ok_nCatO', oks_sApp, oks_sFrz', Sl.own.injEq, z5, z6, z8, n0', Bool.not_true])
    refine (fin _ (by simp) (fun d hd => ?_)).mono fun xs g1 ⟨h1, h2⟩ => ?_
    · simp only [List.mem_cons, List.mem_nil_iff, or_false] at hd
      rcases hd with rfl | rfl | rfl | rfl | rfl | rfl
      · exact i1
      · exact i2
      · exact i3
      · exact i1
      · exact i2
      · exact i3
    · subst h2
      have al := alike_bls [decide (r < s), decide (r < s), false] (by simp) g1
      (try simp only [fEq_int, fNe_int, ok_eK, ok_lNil, ok_lCons, ok_e2, ok_e1, ok_eF, ok_eTup, ok_nLst, ok_eN, ok_mB, ok_mTru, ok_mNot, ok_mAnd, ok_mOr, ok_eAnd, ok_eOr, ok_eNot, ok_eIf, ok_eIsi, ok_eIsi2, ok_eTyC, ok_eCall, ok_eCallK, ok_oNo, ok_oAt, ok_eSl, ok_iOf, ok_iOfT, ok_iRg1, oks_sNx, oks_sSeq, oks_sSet, oks_sOwn, oks_sDrop, oks_sRet, oks_sIf, oks_sAsg, oks_sPar, oks_sFor, ok_runD, ok_some, oks_some, startE, eV, setsE, Tg.parts, fAdd_int, fAdd_lst, fAdd_tup, fSub_int, fMul_int, fDiv_int, fMod_int, fPow_int, fLt_int, fLe_int, fGt_int, fGe_int, fNeg_int, fIx_lst, fIx_tup, fLen_lst, fLen_tup, fAbs_int, fInt1_int, fInt1_bl, fGcd_int, fTuple_lst, fTuple_tup, fList_lst, fList_tup, fTru_bl, fTru_lst, fTru_tup, fIsB_bl, atI_0, atI_1, ty_int, ty_bl, ty_lst, ty_tup, ty_str, ty_non, List.map_cons, List.map_nil, List.length_cons, List.length_nil, List.replicate, List.cons_append, List.nil_append, List.getElem?_cons_zero, List.getElem?_cons_succ, List.set_cons_zero, List.set_cons_succ, List.zip_cons_cons, List.zip_nil_right, List.zip_nil_left, Option.some.injEq, exists_eq_left', exists_eq_left, Nat.reduceAdd, Nat.reduceSub, Nat.reduceEqDiff, PyData.bool.injEq, PyData.int.injEq, PyData.list.injEq, PyData.tuple.injEq, if_true, if_false, reduceIte, true_and, and_true, decide_true, decide_false, Bool.false_eq_true, h1, Bool.not_true, lt_fr, q1, q2, rr])
      exact (ok_eq al).mpr ⟨rfl, rfl⟩
  · have hs0 : s ≠ 0 := fun z => n0 (Rat.num_eq_zero.mpr z)
    have oe := over_ok hr hs (by decide) (by decide) hs0
    have ho := hr.over hs hs0
    have i4 : Itm (itm (r / s) (r.num * s.den) (r.den * s.num)) := ⟨_, _, _, rfl, means_ok (Int.mul_ne_zero (den_ne r) n0) (over_div r s hs0).symm (ho.mono (by decide)) (w b1 (by decide)) (w b5 (by decide))⟩
    (simp (maxSteps := 3000000) only [fEq_int, fNe_int, ok_eK, ok_lNil, ok_lCons, ok_e2, ok_e1, ok_eF, ok_eTup, ok_nLst, ok_eN, ok_mB, ok_mTru, ok_mNot, ok_mAnd, ok_mOr, ok_eAnd, ok_eOr, ok_eNot, ok_eIf, ok_eIsi, ok_eIsi2, ok_eTyC, ok_eCall, ok_eCallK, ok_oNo, ok_oAt, ok_eSl, ok_iOf, ok_iOfT, ok_iRg1, oks_sNx, oks_sSeq, oks_sSet, oks_sOwn, oks_sDrop, oks_sRet, oks_sIf, oks_sAsg, oks_sPar, oks_sFor, ok_runD, ok_some, oks_some, startE, eV, setsE, Tg.parts, fAdd_int, fAdd_lst, fAdd_tup, fSub_int, fMul_int, fDiv_int, fMod_int, fPow_int, fLt_int, fLe_int, fGt_int, fGe_int, fNeg_int, fIx_lst, fIx_tup, fLen_lst, fLen_tup, fAbs_int, fInt1_int, fInt1_bl, fGcd_int, fTuple_lst, fTuple_tup, fList_lst, fList_tup, fTru_bl, fTru_lst, fTru_tup, fIsB_bl, atI_0, atI_1, ty_int, ty_bl, ty_lst, ty_tup, ty_str, ty_non, List.map_cons, List.map_nil, List.length_cons, List.length_nil, List.replicate, List.cons_append, List.nil_append, List.getElem?_cons_zero, List.getElem?_cons_succ, List.set_cons_zero, List.set_cons_succ, List.zip_cons_cons, List.zip_nil_right, List.zip_nil_left, Option.some.injEq, exists_eq_left', exists_eq_left, Nat.reduceAdd, Nat.reduceSub, Nat.reduceEqDiff, PyData.bool.injEq, PyData.int.injEq, PyData.list.injEq, PyData.tuple.injEq, if_true, if_false, reduceIte, true_and, and_true, decide_true, decide_false, Bool.false_eq_true, fIx_fr0, fIx_fr1, p10, c1, c2, c3, c4, c5, pe, me, te, oe, s2, s3, s4, x211, ok_nCatO', oks_sApp, oks_sFrz', Sl.own.injEq, z5, z6, z8, n0, Bool.not_false])
    refine (fin _ (by simp) (fun d hd => ?_)).mono fun xs g1 ⟨h1, h2⟩ => ?_
    · simp only [List.mem_cons, List.mem_nil_iff, or_false] at hd
      rcases hd with rfl | rfl | rfl | rfl | rfl | rfl | rfl | rfl
      · exact i1
      · exact i2
      · exact i3
      · exact i1
      · exact i2
      · exact i3
      · exact i4
      · exact i4
    · subst h2
      have al := alike_bls [decide (r < s), decide (r < s), false] (by simp) g1
      (try simp only [fEq_int, fNe_int, ok_eK, ok_lNil, ok_lCons, ok_e2, ok_e1, ok_eF, ok_eTup, ok_nLst, ok_eN, ok_mB, ok_mTru, ok_mNot, ok_mAnd, ok_mOr, ok_eAnd, ok_eOr, ok_eNot, ok_eIf, ok_eIsi, ok_eIsi2, ok_eTyC, ok_eCall, ok_eCallK, ok_oNo, ok_oAt, ok_eSl, ok_iOf, ok_iOfT, ok_iRg1, oks_sNx, oks_sSeq, oks_sSet, oks_sOwn, oks_sDrop, oks_sRet, oks_sIf, oks_sAsg, oks_sPar, oks_sFor, ok_runD, ok_some, oks_some, startE, eV, setsE, Tg.parts, fAdd_int, fAdd_lst, fAdd_tup, fSub_int, fMul_int, fDiv_int, fMod_int, fPow_int, fLt_int, fLe_int, fGt_int, fGe_int, fNeg_int, fIx_lst, fIx_tup, fLen_lst, fLen_tup, fAbs_int, fInt1_int, fInt1_bl, fGcd_int, fTuple_lst, fTuple_tup, fList_lst, fList_tup, fTru_bl, fTru_lst, fTru_tup, fIsB_bl, atI_0, atI_1, ty_int, ty_bl, ty_lst, ty_tup, ty_str, ty_non, List.map_cons, List.map_nil, List.length_cons, List.length_nil, List.replicate, List.cons_append, List.nil_append, List.getElem?_cons_zero, List.getElem?_cons_succ, List.set_cons_zero, List.set_cons_succ, List.zip_cons_cons, List.zip_nil_right, List.zip_nil_left, Option.some.injEq, exists_eq_left', exists_eq_left, Nat.reduceAdd, Nat.reduceSub, Nat.reduceEqDiff, PyData.bool.injEq, PyData.int.injEq, PyData.list.injEq, PyData.tuple.injEq, if_true, if_false, reduceIte, true_and, and_true, decide_true, decide_false, Bool.false_eq_true, h1, Bool.not_true, lt_fr, q1, q2, rr])
      exact (ok_eq al).mpr ⟨rfl, rfl⟩
end K01

set_option Elab.async false
set_option linter.all false
set_option maxRecDepth 100000
set_option maxHeartbeats 4000000
namespace K01
open PySem PySem.Spec PyProof.Rows L2 DL
section
variable {a0 a2 a3 a4 a5 a6 a7 a8 a9 a10 a11 : Sl} {g : G} {r s : Rat}
theorem any_then {g : G} {Q : D → G → Prop} (q : ∀ r g', Sz 140 r → Q (fr r) g') : Ok (F_law_any [.dict []] g) Q := (any_ok g).mono fun d g' ⟨r, e, h⟩ => by subst e; exact q r g' h
theorem st1 : OkS (sPar [10, 11] (lCons (eCall F_law_any (lCons (eV true 1) (lNil))) (lCons (eCall F_law_any (lCons (eV true 1) (lNil))) (lNil))) [a0, SP, a2, a3, a4, a5, a6, a7, a8, a9, a10, a11, .no] g)
    fun q E' _ => q = .nx ∧ ∃ r s, Sz 140 r ∧ Sz 140 s ∧ E' = [a0, SP, a2, a3, a4, a5, a6, a7, a8, a9, .val (fr r), .val (fr s), .no] := by
  (try simp only [fEq_int, fNe_int, ok_eK, ok_lNil, ok_lCons, ok_e2, ok_e1, ok_eF, ok_eTup, ok_nLst, ok_eN, ok_mB, ok_mTru, ok_mNot, ok_mAnd, ok_mOr, ok_eAnd, ok_eOr, ok_eNot, ok_eIf, ok_eIsi, ok_eIsi2, ok_eTyC, ok_eCall, ok_eCallK, ok_oNo, ok_oAt, ok_eSl, ok_iOf, ok_iOfT, ok_iRg1, oks_sNx, oks_sSeq, oks_sSet, oks_sOwn, oks_sDrop, oks_sRet, oks_sIf, oks_sAsg, oks_sPar, oks_sFor, ok_runD, ok_some, oks_some, startE, eV, setsE, Tg.parts, fAdd_int, fAdd_lst, fAdd_tup, fSub_int, fMul_int, fDiv_int, fMod_int, fPow_int, fLt_int, fLe_int, fGt_int, fGe_int, fNeg_int, fIx_lst, fIx_tup, fLen_lst, fLen_tup, fAbs_int, fInt1_int, fInt1_bl, fGcd_int, fTuple_lst, fTuple_tup, fList_lst, fList_tup, fTru_bl, fTru_lst, fTru_tup, fIsB_bl, atI_0, atI_1, ty_int, ty_bl, ty_lst, ty_tup, ty_str, ty_non, List.map_cons, List.map_nil, List.length_cons, List.length_nil, List.replicate, List.cons_append, List.nil_append, List.getElem?_cons_zero, List.getElem?_cons_succ, List.set_cons_zero, List.set_cons_succ, List.zip_cons_cons, List.zip_nil_right, List.zip_nil_left, Option.some.injEq, exists_eq_left', exists_eq_left, Nat.reduceAdd, Nat.reduceSub, Nat.reduceEqDiff, PyData.bool.injEq, PyData.int.injEq, PyData.list.injEq, PyData.tuple.injEq, if_true, if_false, reduceIte, true_and, and_true, decide_true, decide_false, Bool.false_eq_true])
  refine any_then fun r g1 hr => any_then fun s g2 hs => ?_
  (try simp only [fEq_int, fNe_int, ok_eK, ok_lNil, ok_lCons, ok_e2, ok_e1, ok_eF, ok_eTup, ok_nLst, ok_eN, ok_mB, ok_mTru, ok_mNot, ok_mAnd, ok_mOr, ok_eAnd, ok_eOr, ok_eNot, ok_eIf, ok_eIsi, ok_eIsi2, ok_eTyC, ok_eCall, ok_eCallK, ok_oNo, ok_oAt, ok_eSl, ok_iOf, ok_iOfT, ok_iRg1, oks_sNx, oks_sSeq, oks_sSet, oks_sOwn, oks_sDrop, oks_sRet, oks_sIf, oks_sAsg, oks_sPar, oks_sFor, ok_runD, ok_some, oks_some, startE, eV, setsE, Tg.parts, fAdd_int, fAdd_lst, fAdd_tup, fSub_int, fMul_int, fDiv_int, fMod_int, fPow_int, fLt_int, fLe_int, fGt_int, fGe_int, fNeg_int, fIx_lst, fIx_tup, fLen_lst, fLen_tup, fAbs_int, fInt1_int, fInt1_bl, fGcd_int, fTuple_lst, fTuple_tup, fList_lst, fList_tup, fTru_bl, fTru_lst, fTru_tup, fIsB_bl, atI_0, atI_1, ty_int, ty_bl, ty_lst, ty_tup, ty_str, ty_non, List.map_cons, List.map_nil, List.length_cons, List.length_nil, List.replicate, List.cons_append, List.nil_append, List.getElem?_cons_zero, List.getElem?_cons_succ, List.set_cons_zero, List.set_cons_succ, List.zip_cons_cons, List.zip_nil_right, List.zip_nil_left, Option.some.injEq, exists_eq_left', exists_eq_left, Nat.reduceAdd, Nat.reduceSub, Nat.reduceEqDiff, PyData.bool.injEq, PyData.int.injEq, PyData.list.injEq, PyData.tuple.injEq, if_true, if_false, reduceIte, true_and, and_true, decide_true, decide_false, Bool.false_eq_true])
  exact ⟨r, s, hr, hs, rfl⟩
theorem st2 (hr : Sz 140 r) (hs : Sz 140 s) : OkS (sIf (mNot (mTru (eCall F_law_handed_on_right (lCons (eV false 10) (lCons (eV false 11) (lCons (eCall F_law_any (lCons (eV false 1) (lNil))) (lNil))))))) (sRet (eK (.bool false))) (sNx) [a0, SP, a2, a3, a4, a5, a6, a7, a8, a9, .val (fr r), .val (fr s), .no] g)
    fun q E' _ => q = .nx ∧ E' = [a0, SP, a2, a3, a4, a5, a6, a7, a8, a9, .val (fr r), .val (fr s), .no] := by
  refine must ?_ fun _ => rfl
  (try simp only [fEq_int, fNe_int, ok_eK, ok_lNil, ok_lCons, ok_e2, ok_e1, ok_eF, ok_eTup, ok_nLst, ok_eN, ok_mB, ok_mTru, ok_mNot, ok_mAnd, ok_mOr, ok_eAnd, ok_eOr, ok_eNot, ok_eIf, ok_eIsi, ok_eIsi2, ok_eTyC, ok_eCall, ok_eCallK, ok_oNo, ok_oAt, ok_eSl, ok_iOf, ok_iOfT, ok_iRg1, oks_sNx, oks_sSeq, oks_sSet, oks_sOwn, oks_sDrop, oks_sRet, oks_sIf, oks_sAsg, oks_sPar, oks_sFor, ok_runD, ok_some, oks_some, startE, eV, setsE, Tg.parts, fAdd_int, fAdd_lst, fAdd_tup, fSub_int, fMul_int, fDiv_int, fMod_int, fPow_int, fLt_int, fLe_int, fGt_int, fGe_int, fNeg_int, fIx_lst, fIx_tup, fLen_lst, fLen_tup, fAbs_int, fInt1_int, fInt1_bl, fGcd_int, fTuple_lst, fTuple_tup, fList_lst, fList_tup, fTru_bl, fTru_lst, fTru_tup, fIsB_bl, atI_0, atI_1, ty_int, ty_bl, ty_lst, ty_tup, ty_str, ty_non, List.map_cons, List.map_nil, List.length_cons, List.length_nil, List.replicate, List.cons_append, List.nil_append, List.getElem?_cons_zero, List.getElem?_cons_succ, List.set_cons_zero, List.set_cons_succ, List.zip_cons_cons, List.zip_nil_right, List.zip_nil_left, Option.some.injEq, exists_eq_left', exists_eq_left, Nat.reduceAdd, Nat.reduceSub, Nat.reduceEqDiff, PyData.bool.injEq, PyData.int.injEq, PyData.list.injEq, PyData.tuple.injEq, if_true, if_false, reduceIte, true_and, and_true, decide_true, decide_false, Bool.false_eq_true])
  refine any_then fun t g1 ht => ?_
  rw [ok_eq (handed_ok hr hs ht g1)]
theorem st3 (hr : Sz 140 r) (hs : Sz 140 s) : OkS (sIf (mNot (mTru (eCall F_law_pair_right (lCons (eV false 10) (lCons (e2 fIx (eN (nLst (lCons (eV false 10) (lCons (eV false 11) (lCons (eV false 11) (lCons (eTup (lCons (e1 fNeg (e2 fIx (eV false 10) (eK (.int 0)))) (lCons (e2 fIx (eV false 10) (eK (.int 1))) (lNil)))) (lNil))))))) (eCall Fd_law_drop (lCons (eV false 1) (lCons (eK (.int 4)) (lNil))))) (lNil)))))) (sRet (eK (.bool false))) (sNx) [a0, SP, a2, a3, a4, a5, a6, a7, a8, a9, .val (fr r), .val (fr s), .no] g)
    fun q E' _ => q = .nx ∧ E' = [a0, SP, a2, a3, a4, a5, a6, a7, a8, a9, .val (fr r), .val (fr s), .no] := by
  have z2 : 2 ≤ sizeLine := sz_ok (by decide)
  have z4 : 4 ≤ sizeLine := sz_ok (by decide)
  refine must ?_ fun _ => rfl
  (try simp only [fEq_int, fNe_int, ok_eK, ok_lNil, ok_lCons, ok_e2, ok_e1, ok_eF, ok_eTup, ok_nLst, ok_eN, ok_mB, ok_mTru, ok_mNot, ok_mAnd, ok_mOr, ok_eAnd, ok_eOr, ok_eNot, ok_eIf, ok_eIsi, ok_eIsi2, ok_eTyC, ok_eCall, ok_eCallK, ok_oNo, ok_oAt, ok_eSl, ok_iOf, ok_iOfT, ok_iRg1, oks_sNx, oks_sSeq, oks_sSet, oks_sOwn, oks_sDrop, oks_sRet, oks_sIf, oks_sAsg, oks_sPar, oks_sFor, ok_runD, ok_some, oks_some, startE, eV, setsE, Tg.parts, fAdd_int, fAdd_lst, fAdd_tup, fSub_int, fMul_int, fDiv_int, fMod_int, fPow_int, fLt_int, fLe_int, fGt_int, fGe_int, fNeg_int, fIx_lst, fIx_tup, fLen_lst, fLen_tup, fAbs_int, fInt1_int, fInt1_bl, fGcd_int, fTuple_lst, fTuple_tup, fList_lst, fList_tup, fTru_bl, fTru_lst, fTru_tup, fIsB_bl, atI_0, atI_1, ty_int, ty_bl, ty_lst, ty_tup, ty_str, ty_non, List.map_cons, List.map_nil, List.length_cons, List.length_nil, List.replicate, List.cons_append, List.nil_append, List.getElem?_cons_zero, List.getElem?_cons_succ, List.set_cons_zero, List.set_cons_succ, List.zip_cons_cons, List.zip_nil_right, List.zip_nil_left, Option.some.injEq, exists_eq_left', exists_eq_left, Nat.reduceAdd, Nat.reduceSub, Nat.reduceEqDiff, PyData.bool.injEq, PyData.int.injEq, PyData.list.injEq, PyData.tuple.injEq, if_true, if_false, reduceIte, true_and, and_true, decide_true, decide_false, Bool.false_eq_true, fIx_fr0, fIx_fr1, z2, z4, neg_fr])
  refine drop_then (by decide) (by exact small9 (by decide)) fun v g1 v0 v1 => ?_
  (try simp only [fEq_int, fNe_int, ok_eK, ok_lNil, ok_lCons, ok_e2, ok_e1, ok_eF, ok_eTup, ok_nLst, ok_eN, ok_mB, ok_mTru, ok_mNot, ok_mAnd, ok_mOr, ok_eAnd, ok_eOr, ok_eNot, ok_eIf, ok_eIsi, ok_eIsi2, ok_eTyC, ok_eCall, ok_eCallK, ok_oNo, ok_oAt, ok_eSl, ok_iOf, ok_iOfT, ok_iRg1, oks_sNx, oks_sSeq, oks_sSet, oks_sOwn, oks_sDrop, oks_sRet, oks_sIf, oks_sAsg, oks_sPar, oks_sFor, ok_runD, ok_some, oks_some, startE, eV, setsE, Tg.parts, fAdd_int, fAdd_lst, fAdd_tup, fSub_int, fMul_int, fDiv_int, fMod_int, fPow_int, fLt_int, fLe_int, fGt_int, fGe_int, fNeg_int, fIx_lst, fIx_tup, fLen_lst, fLen_tup, fAbs_int, fInt1_int, fInt1_bl, fGcd_int, fTuple_lst, fTuple_tup, fList_lst, fList_tup, fTru_bl, fTru_lst, fTru_tup, fIsB_bl, atI_0, atI_1, ty_int, ty_bl, ty_lst, ty_tup, ty_str, ty_non, List.map_cons, List.map_nil, List.length_cons, List.length_nil, List.replicate, List.cons_append, List.nil_append, List.getElem?_cons_zero, List.getElem?_cons_succ, List.set_cons_zero, List.set_cons_succ, List.zip_cons_cons, List.zip_nil_right, List.zip_nil_left, Option.some.injEq, exists_eq_left', exists_eq_left, Nat.reduceAdd, Nat.reduceSub, Nat.reduceEqDiff, PyData.bool.injEq, PyData.int.injEq, PyData.list.injEq, PyData.tuple.injEq, if_true, if_false, reduceIte, true_and, and_true, decide_true, decide_false, Bool.false_eq_true])
  obtain ⟨z, ez, t, rfl, ht⟩ := idx4 (P := fun d => ∃ t, d = fr t ∧ Sz 140 t) (a := fr r) (b := fr s) (c := fr s) (d := fr (-r)) v0 v1 ⟨_, rfl, hr⟩ ⟨_, rfl, hs⟩ ⟨_, rfl, hs⟩ ⟨_, rfl, hr.neg⟩
  refine ⟨fr t, ez, ?_⟩
  rw [ok_eq (pair_ok hr ht g1)]
def Fac (d : D) : Prop := ∃ c : Int, d = .int c ∧ c ≠ 0 ∧ c.natAbs < 2 ^ 50
theorem st4 : OkS (sSet 3 (e2 fIx (eN (nLst (lCons (eK (.int 1)) (lCons (e1 fNeg (eK (.int 1))) (lCons (eK (.int 2)) (lCons (e1 fNeg (eK (.int 6))) (lCons (eK (.int 100)) (lCons (e2 fPow (eK (.int 10)) (eK (.int 12))) (lNil))))))))) (eCall Fd_law_drop (lCons (eV true 1) (lCons (eK (.int 6)) (lNil))))) [a0, SP, a2, a3, a4, a5, a6, a7, a8, a9, .val (fr r), .val (fr s), .no] g)
    fun q E' _ => q = .nx ∧ ∃ c : Int, c ≠ 0 ∧ c.natAbs < 2 ^ 50 ∧ E' = [a0, SP, a2, .val (.int c), a4, a5, a6, a7, a8, a9, .val (fr r), .val (fr s), .no] := by
  have z6 : 6 ≤ sizeLine := sz_ok (by decide)
  have c12 : (decide ((0 : Int) ≤ 12) && decide ((12 : Int) ≤ 1000000) && decide ((10 : Int).natAbs < 2 ^ 64)) = true := by decide
  (try simp only [fEq_int, fNe_int, ok_eK, ok_lNil, ok_lCons, ok_e2, ok_e1, ok_eF, ok_eTup, ok_nLst, ok_eN, ok_mB, ok_mTru, ok_mNot, ok_mAnd, ok_mOr, ok_eAnd, ok_eOr, ok_eNot, ok_eIf, ok_eIsi, ok_eIsi2, ok_eTyC, ok_eCall, ok_eCallK, ok_oNo, ok_oAt, ok_eSl, ok_iOf, ok_iOfT, ok_iRg1, oks_sNx, oks_sSeq, oks_sSet, oks_sOwn, oks_sDrop, oks_sRet, oks_sIf, oks_sAsg, oks_sPar, oks_sFor, ok_runD, ok_some, oks_some, startE, eV, setsE, Tg.parts, fAdd_int, fAdd_lst, fAdd_tup, fSub_int, fMul_int, fDiv_int, fMod_int, fPow_int, fLt_int, fLe_int, fGt_int, fGe_int, fNeg_int, fIx_lst, fIx_tup, fLen_lst, fLen_tup, fAbs_int, fInt1_int, fInt1_bl, fGcd_int, fTuple_lst, fTuple_tup, fList_lst, fList_tup, fTru_bl, fTru_lst, fTru_tup, fIsB_bl, atI_0, atI_1, ty_int, ty_bl, ty_lst, ty_tup, ty_str, ty_non, List.map_cons, List.map_nil, List.length_cons, List.length_nil, List.replicate, List.cons_append, List.nil_append, List.getElem?_cons_zero, List.getElem?_cons_succ, List.set_cons_zero, List.set_cons_succ, List.zip_cons_cons, List.zip_nil_right, List.zip_nil_left, Option.some.injEq, exists_eq_left', exists_eq_left, Nat.reduceAdd, Nat.reduceSub, Nat.reduceEqDiff, PyData.bool.injEq, PyData.int.injEq, PyData.list.injEq, PyData.tuple.injEq, if_true, if_false, reduceIte, true_and, and_true, decide_true, decide_false, Bool.false_eq_true, z6, c12])
  refine drop_then (by decide) (by exact small9 (by decide)) fun v g1 v0 v1 => ?_
  (try simp only [fEq_int, fNe_int, ok_eK, ok_lNil, ok_lCons, ok_e2, ok_e1, ok_eF, ok_eTup, ok_nLst, ok_eN, ok_mB, ok_mTru, ok_mNot, ok_mAnd, ok_mOr, ok_eAnd, ok_eOr, ok_eNot, ok_eIf, ok_eIsi, ok_eIsi2, ok_eTyC, ok_eCall, ok_eCallK, ok_oNo, ok_oAt, ok_eSl, ok_iOf, ok_iOfT, ok_iRg1, oks_sNx, oks_sSeq, oks_sSet, oks_sOwn, oks_sDrop, oks_sRet, oks_sIf, oks_sAsg, oks_sPar, oks_sFor, ok_runD, ok_some, oks_some, startE, eV, setsE, Tg.parts, fAdd_int, fAdd_lst, fAdd_tup, fSub_int, fMul_int, fDiv_int, fMod_int, fPow_int, fLt_int, fLe_int, fGt_int, fGe_int, fNeg_int, fIx_lst, fIx_tup, fLen_lst, fLen_tup, fAbs_int, fInt1_int, fInt1_bl, fGcd_int, fTuple_lst, fTuple_tup, fList_lst, fList_tup, fTru_bl, fTru_lst, fTru_tup, fIsB_bl, atI_0, atI_1, ty_int, ty_bl, ty_lst, ty_tup, ty_str, ty_non, List.map_cons, List.map_nil, List.length_cons, List.length_nil, List.replicate, List.cons_append, List.nil_append, List.getElem?_cons_zero, List.getElem?_cons_succ, List.set_cons_zero, List.set_cons_succ, List.zip_cons_cons, List.zip_nil_right, List.zip_nil_left, Option.some.injEq, exists_eq_left', exists_eq_left, Nat.reduceAdd, Nat.reduceSub, Nat.reduceEqDiff, PyData.bool.injEq, PyData.int.injEq, PyData.list.injEq, PyData.tuple.injEq, if_true, if_false, reduceIte, true_and, and_true, decide_true, decide_false, Bool.false_eq_true])
  obtain ⟨z, ez, c, rfl, h1, h2⟩ := idx6 (P := Fac) (a := .int 1) (b := .int (-1)) (c := .int 2) (d := .int (-6)) (e := .int 100) (f := .int ((10 : Int) ^ (12 : Int).toNat)) v0 v1
    ⟨_, rfl, by decide, by decide⟩ ⟨_, rfl, by decide, by decide⟩ ⟨_, rfl, by decide, by decide⟩ ⟨_, rfl, by decide, by decide⟩ ⟨_, rfl, by decide, by decide⟩ ⟨_, rfl, by decide, by decide⟩
  exact ⟨_, ez, c, h1, h2, rfl⟩
theorem st5 {c : Int} (hc : c ≠ 0) (hc2 : c.natAbs < 2 ^ 50) (hr : Sz 140 r) : OkS (sIf (mNot (mTru (eCall (F_law_alike 7) (lCons (eN (nLst (lCons (eCall Ffraction (lCons (e2 fMul (e2 fIx (eV false 10) (eK (.int 0))) (eV false 3)) (lCons (e2 fMul (e2 fIx (eV false 10) (eK (.int 1))) (eV false 3)) (lNil)))) (lCons (eCallK Ffraction [1, 0] (lCons (e2 fMul (e2 fIx (eV false 10) (eK (.int 1))) (eV false 3)) (lCons (e2 fMul (e2 fIx (eV false 10) (eK (.int 0))) (eV false 3)) (lNil)))) (lNil))))) (lCons (eN (nLst (lCons (eV false 10) (lCons (eV false 10) (lNil))))) (lNil)))))) (sRet (eK (.bool false))) (sNx) [a0, SP, a2, .val (.int c), a4, a5, a6, a7, a8, a9, .val (fr r), .val (fr s), .no] g)
    fun q E' _ => q = .nx ∧ E' = [a0, SP, a2, .val (.int c), a4, a5, a6, a7, a8, a9, .val (fr r), .val (fr s), .no] := by
  have z2 : 2 ≤ sizeLine := sz_ok (by decide)
  have p10 : ∀ x y : D, pick [1, 0] [x, y] .none = [y, x] := fun _ _ => rfl
  have m1 := cmul_bd hr.1 hc2 (by decide)
  have m2 := cmul_bd (den_bd hr) hc2 (by decide)
  have fe : Rat.divInt (r.num * c) (r.den * c) = r := by rw [Rat.divInt_mul_right hc, Rat.num_divInt_den]
  have fo := fraction_ok (t := r.num * c) (b := r.den * c) (Int.mul_ne_zero (den_ne r) hc) (bd9 (mul_bd (den_bd hr) hc2) (by decide))
  rw [fe] at fo
  refine must ?_ fun _ => rfl
  (try simp only [fEq_int, fNe_int, ok_eK, ok_lNil, ok_lCons, ok_e2, ok_e1, ok_eF, ok_eTup, ok_nLst, ok_eN, ok_mB, ok_mTru, ok_mNot, ok_mAnd, ok_mOr, ok_eAnd, ok_eOr, ok_eNot, ok_eIf, ok_eIsi, ok_eIsi2, ok_eTyC, ok_eCall, ok_eCallK, ok_oNo, ok_oAt, ok_eSl, ok_iOf, ok_iOfT, ok_iRg1, oks_sNx, oks_sSeq, oks_sSet, oks_sOwn, oks_sDrop, oks_sRet, oks_sIf, oks_sAsg, oks_sPar, oks_sFor, ok_runD, ok_some, oks_some, startE, eV, setsE, Tg.parts, fAdd_int, fAdd_lst, fAdd_tup, fSub_int, fMul_int, fDiv_int, fMod_int, fPow_int, fLt_int, fLe_int, fGt_int, fGe_int, fNeg_int, fIx_lst, fIx_tup, fLen_lst, fLen_tup, fAbs_int, fInt1_int, fInt1_bl, fGcd_int, fTuple_lst, fTuple_tup, fList_lst, fList_tup, fTru_bl, fTru_lst, fTru_tup, fIsB_bl, atI_0, atI_1, ty_int, ty_bl, ty_lst, ty_tup, ty_str, ty_non, List.map_cons, List.map_nil, List.length_cons, List.length_nil, List.replicate, List.cons_append, List.nil_append, List.getElem?_cons_zero, List.getElem?_cons_succ, List.set_cons_zero, List.set_cons_succ, List.zip_cons_cons, List.zip_nil_right, List.zip_nil_left, Option.some.injEq, exists_eq_left', exists_eq_left, Nat.reduceAdd, Nat.reduceSub, Nat.reduceEqDiff, PyData.bool.injEq, PyData.int.injEq, PyData.list.injEq, PyData.tuple.injEq, if_true, if_false, reduceIte, true_and, and_true, decide_true, decide_false, Bool.false_eq_true, fIx_fr0, fIx_fr1, z2, p10, m1, m2, fo])
  exact (ok_eq (alike_frs [r, r] (by simp) g)).mpr rfl
theorem st6 (hr : Sz 140 r) {a3 : Sl} : OkS (sSet 4 (eN (nLst (lCons (eV true 10) (lCons (eTup (lCons (e2 fMul (e2 fIx (eV true 10) (eK (.int 0))) (eK (.int 2))) (lCons (e2 fMul (e2 fIx (eV true 10) (eK (.int 1))) (eK (.int 2))) (lNil)))) (lCons (eTup (lCons (e2 fIx (eV true 10) (eK (.int 0))) (lCons (e1 fNeg (e2 fIx (eV true 10) (eK (.int 1)))) (lNil)))) (lCons (eTup (lCons (e2 fIx (eV true 10) (eK (.int 0))) (lCons (eK (.int 0)) (lNil)))) (lCons (eTup (lCons (eK (.int 0)) (lCons (e2 fIx (eV true 10) (eK (.int 1))) (lNil)))) (lCons (eF fList (lCons (eV true 10) (lNil))) (lCons (e2 fAdd (eV true 10) (eTup (lCons (eK (.int 1)) (lNil)))) (lCons (e2 fIx (eV true 10) (eK (.int 0))) (lCons (eK .none) (lCons (eK (.str (Str.ofString "1/2"))) (lCons (eTup (lCons (eK (.bool true)) (lCons (eK (.int 1)) (lNil)))) (lNil)))))))))))))) [a0, SP, a2, a3, a4, a5, a6, a7, a8, a9, .val (fr r), .val (fr s), .no] g)
    fun q E' _ => q = .nx ∧ E' = [a0, SP, a2, a3, .val (.list (vals1 r)), a5, a6, a7, a8, a9, .val (fr r), .val (fr s), .no] := by
  have z2 : 2 ≤ sizeLine := sz_ok (by decide)
  have z1 : 1 ≤ sizeLine := sz_ok (by decide)
  have z3 : 2 + 1 ≤ sizeLine := sz_ok (by decide)
  have z11 : 11 ≤ sizeLine := sz_ok (by decide)
  have m1 := cmul_bd hr.1 (show (2 : Int).natAbs < 2 ^ 2 by decide) (by decide)
  have m2 := cmul_bd (den_bd hr) (show (2 : Int).natAbs < 2 ^ 2 by decide) (by decide)
  have fl : fList [fr r] = some (.list [.int r.num, .int r.den]) := rfl
  have fa : fAdd (fr r) (.tuple [.int 1]) = some (.tuple [.int r.num, .int r.den, .int 1]) := by
    show fAdd (.tuple [.int r.num, .int (r.den : Int)]) (.tuple [.int 1]) = _
    rw [fAdd_tup, if_pos (by exact z3)]
    rfl
  (try simp only [fEq_int, fNe_int, ok_eK, ok_lNil, ok_lCons, ok_e2, ok_e1, ok_eF, ok_eTup, ok_nLst, ok_eN, ok_mB, ok_mTru, ok_mNot, ok_mAnd, ok_mOr, ok_eAnd, ok_eOr, ok_eNot, ok_eIf, ok_eIsi, ok_eIsi2, ok_eTyC, ok_eCall, ok_eCallK, ok_oNo, ok_oAt, ok_eSl, ok_iOf, ok_iOfT, ok_iRg1, oks_sNx, oks_sSeq, oks_sSet, oks_sOwn, oks_sDrop, oks_sRet, oks_sIf, oks_sAsg, oks_sPar, oks_sFor, ok_runD, ok_some, oks_some, startE, eV, setsE, Tg.parts, fAdd_int, fAdd_lst, fAdd_tup, fSub_int, fMul_int, fDiv_int, fMod_int, fPow_int, fLt_int, fLe_int, fGt_int, fGe_int, fNeg_int, fIx_lst, fIx_tup, fLen_lst, fLen_tup, fAbs_int, fInt1_int, fInt1_bl, fGcd_int, fTuple_lst, fTuple_tup, fList_lst, fList_tup, fTru_bl, fTru_lst, fTru_tup, fIsB_bl, atI_0, atI_1, ty_int, ty_bl, ty_lst, ty_tup, ty_str, ty_non, List.map_cons, List.map_nil, List.length_cons, List.length_nil, List.replicate, List.cons_append, List.nil_append, List.getElem?_cons_zero, List.getElem?_cons_succ, List.set_cons_zero, List.set_cons_succ, List.zip_cons_cons, List.zip_nil_right, List.zip_nil_left, Option.some.injEq, exists_eq_left', exists_eq_left, Nat.reduceAdd, Nat.reduceSub, Nat.reduceEqDiff, PyData.bool.injEq, PyData.int.injEq, PyData.list.injEq, PyData.tuple.injEq, if_true, if_false, reduceIte, true_and, and_true, decide_true, decide_false, Bool.false_eq_true, fIx_fr0, fIx_fr1, z1, z2, z11, m1, m2, fl, fa])
  exact rfl
end
section
variable {a0 a2 a3 a4 a5 a6 a7 a8 a9 : Sl} {g : G} {r s : Rat}
theorem st7 (hr : Sz 140 r) : OkS (sFor (.one 5) (iOf (e2 fAdd (eV true 4) (eN (nLst (lCons (eTup (lCons (eK (.int 1)) (lCons (eK (.bool true)) (lNil)))) (lCons (eTup (lCons (eK (.int 1)) (lNil))) (lCons (eTup (lNil)) (lCons (eTup (lCons (eK (.str (Str.ofString "1"))) (lCons (eK (.int 2)) (lNil)))) (lCons (eTup (lCons (eV true 10) (lCons (eV true 10) (lNil)))) (lCons (eTup (lCons (eK (.int 0)) (lCons (eK (.int 1)) (lNil)))) (lCons (eTup (lCons (e2 fIx (eV true 10) (eK (.int 1))) (lCons (e2 fIx (eV true 10) (eK (.int 0))) (lNil)))) (lNil)))))))))))) (sSeq (sSet 7 (eCall F_law_is (lCons (eV true 5) (lNil)))) (sIf (mNot (mTru (eCall (F_law_alike 7) (lCons (eN (nLst (lCons (eCall Fis_fraction (lCons (eV false 5) (lNil))) (lCons (eCallK Fis_fraction [0] (lCons (eV false 5) (lNil))) (lNil))))) (lCons (eN (nLst (lCons (eV false 7) (lCons (eV false 7) (lNil))))) (lNil)))))) (sRet (eK (.bool false))) (sNx))) [a0, SP, a2, a3, .val (.list (vals1 r)), a5, a6, a7, a8, a9, .val (fr r), .val (fr s), .no] g)
    fun q E' _ => q = .nx ∧ ∃ b5 b7, E' = [a0, SP, a2, a3, .val (.list (vals1 r)), b5, a6, b7, a8, a9, .val (fr r), .val (fr s), .no] := by
  have z2 : 2 ≤ sizeLine := sz_ok (by decide)
  have z1 : 1 ≤ sizeLine := sz_ok (by decide)
  have z0 : 0 ≤ sizeLine := sz_ok (by decide)
  have z7 : 7 ≤ sizeLine := sz_ok (by decide)
  have hv : fAdd (.list (vals1 r)) (.list (vals2 r)) = some (.list (vals1 r ++ vals2 r)) := by
    rw [fAdd_lst, if_pos (sz_ok (by show 11 + 7 ≤ 100; decide))]
  rw [oks_sFor, ok_iOf, ok_e2]
  have e4 : Ok (eV true 4 [a0, SP, a2, a3, .val (.list (vals1 r)), a5, a6, a7, a8, a9, .val (fr r), .val (fr s), .no] g) (fun x g1 => x = .list (vals1 r) ∧ g1 = g) := by (try simp only [fEq_int, fNe_int, ok_eK, ok_lNil, ok_lCons, ok_e2, ok_e1, ok_eF, ok_eTup, ok_nLst, ok_eN, ok_mB, ok_mTru, ok_mNot, ok_mAnd, ok_mOr, ok_eAnd, ok_eOr, ok_eNot, ok_eIf, ok_eIsi, ok_eIsi2, ok_eTyC, ok_eCall, ok_eCallK, ok_oNo, ok_oAt, ok_eSl, ok_iOf, ok_iOfT, ok_iRg1, oks_sNx, oks_sSeq, oks_sSet, oks_sOwn, oks_sDrop, oks_sRet, oks_sIf, oks_sAsg, oks_sPar, oks_sFor, ok_runD, ok_some, oks_some, startE, eV, setsE, Tg.parts, fAdd_int, fAdd_lst, fAdd_tup, fSub_int, fMul_int, fDiv_int, fMod_int, fPow_int, fLt_int, fLe_int, fGt_int, fGe_int, fNeg_int, fIx_lst, fIx_tup, fLen_lst, fLen_tup, fAbs_int, fInt1_int, fInt1_bl, fGcd_int, fTuple_lst, fTuple_tup, fList_lst, fList_tup, fTru_bl, fTru_lst, fTru_tup, fIsB_bl, atI_0, atI_1, ty_int, ty_bl, ty_lst, ty_tup, ty_str, ty_non, List.map_cons, List.map_nil, List.length_cons, List.length_nil, List.replicate, List.cons_append, List.nil_append, List.getElem?_cons_zero, List.getElem?_cons_succ, List.set_cons_zero, List.set_cons_succ, List.zip_cons_cons, List.zip_nil_right, List.zip_nil_left, Option.some.injEq, exists_eq_left', exists_eq_left, Nat.reduceAdd, Nat.reduceSub, Nat.reduceEqDiff, PyData.bool.injEq, PyData.int.injEq, PyData.list.injEq, PyData.tuple.injEq, if_true, if_false, reduceIte, true_and, and_true, decide_true, decide_false, Bool.false_eq_true])
  refine e4.mono fun x g1 ⟨h1, h2⟩ => ?_
  subst h1; subst h2
  have e5 : Ok (eN (nLst (lCons (eTup (lCons (eK (.int 1)) (lCons (eK (.bool true)) (lNil)))) (lCons (eTup (lCons (eK (.int 1)) (lNil))) (lCons (eTup (lNil)) (lCons (eTup (lCons (eK (.str (Str.ofString "1"))) (lCons (eK (.int 2)) (lNil)))) (lCons (eTup (lCons (eV true 10) (lCons (eV true 10) (lNil)))) (lCons (eTup (lCons (eK (.int 0)) (lCons (eK (.int 1)) (lNil)))) (lCons (eTup (lCons (e2 fIx (eV true 10) (eK (.int 1))) (lCons (e2 fIx (eV true 10) (eK (.int 0))) (lNil)))) (lNil))))))))) [a0, SP, a2, a3, .val (.list (vals1 r)), a5, a6, a7, a8, a9, .val (fr r), .val (fr s), .no] g1) (fun x g2 => x = .list (vals2 r) ∧ g2 = g1) := by
    (try simp only [fEq_int, fNe_int, ok_eK, ok_lNil, ok_lCons, ok_e2, ok_e1, ok_eF, ok_eTup, ok_nLst, ok_eN, ok_mB, ok_mTru, ok_mNot, ok_mAnd, ok_mOr, ok_eAnd, ok_eOr, ok_eNot, ok_eIf, ok_eIsi, ok_eIsi2, ok_eTyC, ok_eCall, ok_eCallK, ok_oNo, ok_oAt, ok_eSl, ok_iOf, ok_iOfT, ok_iRg1, oks_sNx, oks_sSeq, oks_sSet, oks_sOwn, oks_sDrop, oks_sRet, oks_sIf, oks_sAsg, oks_sPar, oks_sFor, ok_runD, ok_some, oks_some, startE, eV, setsE, Tg.parts, fAdd_int, fAdd_lst, fAdd_tup, fSub_int, fMul_int, fDiv_int, fMod_int, fPow_int, fLt_int, fLe_int, fGt_int, fGe_int, fNeg_int, fIx_lst, fIx_tup, fLen_lst, fLen_tup, fAbs_int, fInt1_int, fInt1_bl, fGcd_int, fTuple_lst, fTuple_tup, fList_lst, fList_tup, fTru_bl, fTru_lst, fTru_tup, fIsB_bl, atI_0, atI_1, ty_int, ty_bl, ty_lst, ty_tup, ty_str, ty_non, List.map_cons, List.map_nil, List.length_cons, List.length_nil, List.replicate, List.cons_append, List.nil_append, List.getElem?_cons_zero, List.getElem?_cons_succ, List.set_cons_zero, List.set_cons_succ, List.zip_cons_cons, List.zip_nil_right, List.zip_nil_left, Option.some.injEq, exists_eq_left', exists_eq_left, Nat.reduceAdd, Nat.reduceSub, Nat.reduceEqDiff, PyData.bool.injEq, PyData.int.injEq, PyData.list.injEq, PyData.tuple.injEq, if_true, if_false, reduceIte, true_and, and_true, decide_true, decide_false, Bool.false_eq_true, fIx_fr0, fIx_fr1, z0, z1, z2, z7])
    exact rfl
  refine e5.mono fun x g2 ⟨h1, h2⟩ => ?_
  subst h1; subst h2
  refine ⟨_, hv, _, rfl, ?_⟩
  have p0 : ∀ x : D, pick [0] [x] .none = [x] := fun _ => rfl
  refine (forL_ok (I := fun E' _ => ∃ b5 b7, E' = [a0, SP, a2, a3, .val (.list (vals1 r)), b5, a6, b7, a8, a9, .val (fr r), .val (fr s), .no]) _ _ _ (fun d hd E' g' ⟨b5, b7, e⟩ => ?_) ⟨_, _, rfl⟩).mono fun q E' g' h => h
  subst e
  obtain ⟨c, hc⟩ := twins hr d hd
  refine ⟨[(5, d)], rfl, ?_⟩
  refine oks_seqI (P := fun E' _ => E' = [a0, SP, a2, a3, .val (.list (vals1 r)), .val d, a6, .val (.bool c), a8, a9, .val (fr r), .val (fr s), .no]) ?_ fun E2 g2 e => ?_
  · (try simp only [fEq_int, fNe_int, ok_eK, ok_lNil, ok_lCons, ok_e2, ok_e1, ok_eF, ok_eTup, ok_nLst, ok_eN, ok_mB, ok_mTru, ok_mNot, ok_mAnd, ok_mOr, ok_eAnd, ok_eOr, ok_eNot, ok_eIf, ok_eIsi, ok_eIsi2, ok_eTyC, ok_eCall, ok_eCallK, ok_oNo, ok_oAt, ok_eSl, ok_iOf, ok_iOfT, ok_iRg1, oks_sNx, oks_sSeq, oks_sSet, oks_sOwn, oks_sDrop, oks_sRet, oks_sIf, oks_sAsg, oks_sPar, oks_sFor, ok_runD, ok_some, oks_some, startE, eV, setsE, Tg.parts, fAdd_int, fAdd_lst, fAdd_tup, fSub_int, fMul_int, fDiv_int, fMod_int, fPow_int, fLt_int, fLe_int, fGt_int, fGe_int, fNeg_int, fIx_lst, fIx_tup, fLen_lst, fLen_tup, fAbs_int, fInt1_int, fInt1_bl, fGcd_int, fTuple_lst, fTuple_tup, fList_lst, fList_tup, fTru_bl, fTru_lst, fTru_tup, fIsB_bl, atI_0, atI_1, ty_int, ty_bl, ty_lst, ty_tup, ty_str, ty_non, List.map_cons, List.map_nil, List.length_cons, List.length_nil, List.replicate, List.cons_append, List.nil_append, List.getElem?_cons_zero, List.getElem?_cons_succ, List.set_cons_zero, List.set_cons_succ, List.zip_cons_cons, List.zip_nil_right, List.zip_nil_left, Option.some.injEq, exists_eq_left', exists_eq_left, Nat.reduceAdd, Nat.reduceSub, Nat.reduceEqDiff, PyData.bool.injEq, PyData.int.injEq, PyData.list.injEq, PyData.tuple.injEq, if_true, if_false, reduceIte, true_and, and_true, decide_true, decide_false, Bool.false_eq_true])
    rw [ok_eq (hc g').1]
    try exact ⟨rfl, rfl⟩
  · subst e
    refine must ?_ fun _ => ⟨_, _, rfl⟩
    (try simp only [fEq_int, fNe_int, ok_eK, ok_lNil, ok_lCons, ok_e2, ok_e1, ok_eF, ok_eTup, ok_nLst, ok_eN, ok_mB, ok_mTru, ok_mNot, ok_mAnd, ok_mOr, ok_eAnd, ok_eOr, ok_eNot, ok_eIf, ok_eIsi, ok_eIsi2, ok_eTyC, ok_eCall, ok_eCallK, ok_oNo, ok_oAt, ok_eSl, ok_iOf, ok_iOfT, ok_iRg1, oks_sNx, oks_sSeq, oks_sSet, oks_sOwn, oks_sDrop, oks_sRet, oks_sIf, oks_sAsg, oks_sPar, oks_sFor, ok_runD, ok_some, oks_some, startE, eV, setsE, Tg.parts, fAdd_int, fAdd_lst, fAdd_tup, fSub_int, fMul_int, fDiv_int, fMod_int, fPow_int, fLt_int, fLe_int, fGt_int, fGe_int, fNeg_int, fIx_lst, fIx_tup, fLen_lst, fLen_tup, fAbs_int, fInt1_int, fInt1_bl, fGcd_int, fTuple_lst, fTuple_tup, fList_lst, fList_tup, fTru_bl, fTru_lst, fTru_tup, fIsB_bl, atI_0, atI_1, ty_int, ty_bl, ty_lst, ty_tup, ty_str, ty_non, List.map_cons, List.map_nil, List.length_cons, List.length_nil, List.replicate, List.cons_append, List.nil_append, List.getElem?_cons_zero, List.getElem?_cons_succ, List.set_cons_zero, List.set_cons_succ, List.zip_cons_cons, List.zip_nil_right, List.zip_nil_left, Option.some.injEq, exists_eq_left', exists_eq_left, Nat.reduceAdd, Nat.reduceSub, Nat.reduceEqDiff, PyData.bool.injEq, PyData.int.injEq, PyData.list.injEq, PyData.tuple.injEq, if_true, if_false, reduceIte, true_and, and_true, decide_true, decide_false, Bool.false_eq_true, fun g => (hc g).2, z2, p0])
    exact (ok_eq (alike_bls [c, c] (by simp) g2)).mpr rfl
theorem of_frs : ∀ xs : List D, (∀ x ∈ xs, ∃ r, x = fr r ∧ Sz 140 r) → ∃ rs : List Rat, xs = rs.map fr ∧ ∀ r ∈ rs, Sz 140 r
  | [], _ => ⟨[], rfl, fun _ h => absurd h (by simp)⟩
  | x :: xs, h => by
    obtain ⟨r, rfl, hr⟩ := h x (List.mem_cons_self ..)
    obtain ⟨rs, rfl, hrs⟩ := of_frs xs fun x hx => h x (List.mem_cons_of_mem _ hx)
    refine ⟨r :: rs, rfl, fun q hq => ?_⟩
    rcases List.mem_cons.mp hq with rfl | hq
    · exact hr
    · exact hrs q hq
theorem st8 {i : Int} {a4 : Sl} : OkS (sSet 6 (eN (nLc (.one 12) (iRg1 (lCons (eCall Fd_law_drop (lCons (eV true 1) (lCons (e2 fIx (eN (nLst (lCons (eK (.int 10)) (lCons (eK (.int 31)) (lNil))))) (eF fInt1 (lCons (e2 fEq (eV true 2) (eK (.int 0))) (lNil)))) (lNil)))) (lNil))) (mYes) (eCall F_law_any (lCons (eV true 1) (lNil))) [12])) [a0, SP, .val (.int i), a3, a4, a5, a6, a7, a8, a9, .val (fr r), .val (fr s), .no] g)
    fun q E' _ => q = .nx ∧ ∃ rs : List Rat, rs.length ≤ 60 ∧ (∀ r ∈ rs, Sz 140 r) ∧ E' = [a0, SP, .val (.int i), a3, a4, a5, .val (.list (rs.map fr)), a7, a8, a9, .val (fr r), .val (fr s), .no] := by
  have z2 : 2 ≤ sizeLine := sz_ok (by decide)
  rw [oks_sSet, ok_eN, ok_nLc (by rfl)]
  have go : ∀ (m : Int) (g' : G), 0 < m → m ≤ 60 → Ok (Fd_law_drop [.dict [], .int m] g') fun x g1 => ∃ j : Int, x = .int j ∧ 0 ≤ j ∧ j < 60 := fun m g' h0 h1 => by
    have e1 : m.natAbs ≤ 60 := by omega
    have e2 : m.natAbs < 2 ^ 9000 := small9 (Nat.le_trans e1 (by decide))
    exact (drop_ok h0 e2 g').mono fun d _ ⟨v, e, a, b⟩ => ⟨v, e, a, by omega⟩
  have fin : ∀ (j : Int) (g1 : G), 0 ≤ j → j < 60 → (intsD 0 j.toNat).length ≤ sizeLine ∧ Ok (lcL (.one 12) mYes (eCall F_law_any (lCons (eV true 1) (lNil))) (wipeE [a0, SP, .val (.int i), a3, a4, a5, a6, a7, a8, a9, .val (fr r), .val (fr s), .no] [12]) (intsD 0 j.toNat) g1) fun xs _ => ∃ rs : List Rat, rs.length ≤ 60 ∧ (∀ r ∈ rs, Sz 140 r) ∧ xs = rs.map fr := fun j g1 h0 h1 => by
    refine ⟨by rw [len_ints]; exact sz_ok (by omega), ?_⟩
    refine (lcL_ok (P := fun x => ∃ r, x = fr r ∧ Sz 140 r) _ g1 fun d hd g2 => ⟨[(12, d)], rfl, ?_⟩).mono fun xs g3 ⟨h1, h2⟩ => ?_
    · show Ok (eCall F_law_any (lCons (eV true 1) (lNil)) [a0, SP, .val (.int i), a3, a4, a5, a6, a7, a8, a9, .val (fr r), .val (fr s), .val d] g2) _
      (try simp only [fEq_int, fNe_int, ok_eK, ok_lNil, ok_lCons, ok_e2, ok_e1, ok_eF, ok_eTup, ok_nLst, ok_eN, ok_mB, ok_mTru, ok_mNot, ok_mAnd, ok_mOr, ok_eAnd, ok_eOr, ok_eNot, ok_eIf, ok_eIsi, ok_eIsi2, ok_eTyC, ok_eCall, ok_eCallK, ok_oNo, ok_oAt, ok_eSl, ok_iOf, ok_iOfT, ok_iRg1, oks_sNx, oks_sSeq, oks_sSet, oks_sOwn, oks_sDrop, oks_sRet, oks_sIf, oks_sAsg, oks_sPar, oks_sFor, ok_runD, ok_some, oks_some, startE, eV, setsE, Tg.parts, fAdd_int, fAdd_lst, fAdd_tup, fSub_int, fMul_int, fDiv_int, fMod_int, fPow_int, fLt_int, fLe_int, fGt_int, fGe_int, fNeg_int, fIx_lst, fIx_tup, fLen_lst, fLen_tup, fAbs_int, fInt1_int, fInt1_bl, fGcd_int, fTuple_lst, fTuple_tup, fList_lst, fList_tup, fTru_bl, fTru_lst, fTru_tup, fIsB_bl, atI_0, atI_1, ty_int, ty_bl, ty_lst, ty_tup, ty_str, ty_non, List.map_cons, List.map_nil, List.length_cons, List.length_nil, List.replicate, List.cons_append, List.nil_append, List.getElem?_cons_zero, List.getElem?_cons_succ, List.set_cons_zero, List.set_cons_succ, List.zip_cons_cons, List.zip_nil_right, List.zip_nil_left, Option.some.injEq, exists_eq_left', exists_eq_left, Nat.reduceAdd, Nat.reduceSub, Nat.reduceEqDiff, PyData.bool.injEq, PyData.int.injEq, PyData.list.injEq, PyData.tuple.injEq, if_true, if_false, reduceIte, true_and, and_true, decide_true, decide_false, Bool.false_eq_true])
      exact any_then fun r g' hr => ⟨r, rfl, hr⟩
    · obtain ⟨rs, rfl, hrs⟩ := of_frs xs h2
      rw [len_ints, List.length_map] at h1
      exact ⟨rs, by omega, hrs, rfl⟩
  have fin2 : ∀ (m : Int), 0 < m → m ≤ 60 → Ok (Fd_law_drop [.dict [], .int m] g) fun x g1 => ∃ j : Int, [x] = [PyData.int j] ∧ (-(2 ^ 62) ≤ j ∧ j < 2 ^ 62) ∧ (intsD 0 j.toNat).length ≤ sizeLine ∧ Ok (lcL (.one 12) mYes (eCall F_law_any (lCons (eV true 1) (lNil))) (wipeE [a0, SP, .val (.int i), a3, a4, a5, a6, a7, a8, a9, .val (fr r), .val (fr s), .no] [12]) (intsD 0 j.toNat) g1) fun xs _ => ∃ rs : List Rat, rs.length ≤ 60 ∧ (∀ r ∈ rs, Sz 140 r) ∧ xs = rs.map fr := fun m h0 h1 =>
    (go m g h0 h1).mono fun x g1 ⟨j, e, j0, j1⟩ => by
      have r62 := rg62 (n := j.toNat) (by omega)
      rw [Int.toNat_of_nonneg j0] at r62
      exact ⟨j, by rw [e], r62, fin j g1 j0 j1⟩
  rw [ok_iRg1, ok_lCons]
  have hd : ∀ m : Int, 0 < m → m ≤ 60 → ∀ Q : D → G → Prop, (∀ x g1, (∃ j : Int, [x] = [PyData.int j] ∧ (-(2 ^ 62) ≤ j ∧ j < 2 ^ 62) ∧ (intsD 0 j.toNat).length ≤ sizeLine ∧ Ok (lcL (.one 12) mYes (eCall F_law_any (lCons (eV true 1) (lNil))) (wipeE [a0, SP, .val (.int i), a3, a4, a5, a6, a7, a8, a9, .val (fr r), .val (fr s), .no] [12]) (intsD 0 j.toNat) g1) fun xs _ => ∃ rs : List Rat, rs.length ≤ 60 ∧ (∀ r ∈ rs, Sz 140 r) ∧ xs = rs.map fr) → Q x g1) → Ok (Fd_law_drop [.dict [], .int m] g) Q := fun m h0 h1 Q q => (fin2 m h0 h1).mono q
  have main : ∀ x g1, (∃ j : Int, [x] = [PyData.int j] ∧ (-(2 ^ 62) ≤ j ∧ j < 2 ^ 62) ∧ (intsD 0 j.toNat).length ≤ sizeLine ∧ Ok (lcL (.one 12) mYes (eCall F_law_any (lCons (eV true 1) (lNil))) (wipeE [a0, SP, .val (.int i), a3, a4, a5, a6, a7, a8, a9, .val (fr r), .val (fr s), .no] [12]) (intsD 0 j.toNat) g1) fun xs _ => ∃ rs : List Rat, rs.length ≤ 60 ∧ (∀ r ∈ rs, Sz 140 r) ∧ xs = rs.map fr) →
      ∃ j : Int, [x] = [PyData.int j] ∧ (-(2 ^ 62) ≤ j ∧ j < 2 ^ 62) ∧ (intsD 0 j.toNat).length ≤ sizeLine ∧ Ok (lcL (.one 12) mYes (eCall F_law_any (lCons (eV true 1) (lNil))) (wipeE [a0, SP, .val (.int i), a3, a4, a5, a6, a7, a8, a9, .val (fr r), .val (fr s), .no] [12]) (intsD 0 j.toNat) g1) fun xs g1 => ∃ rs : List Rat, rs.length ≤ 60 ∧ (∀ r ∈ rs, Sz 140 r) ∧ [a0, SP, Sl.val (.int i), a3, a4, a5, a6, a7, a8, a9, Sl.val (fr r), Sl.val (fr s), Sl.no].set 6 (Sl.val (PyData.list xs)) = [a0, SP, .val (.int i), a3, a4, a5, .val (.list (rs.map fr)), a7, a8, a9, .val (fr r), .val (fr s), .no] :=
    fun x g1 ⟨j, e, h1, h2, h3⟩ => ⟨j, e, h1, h2, h3.mono fun xs g2 ⟨rs, a, b, c⟩ => ⟨rs, a, b, by rw [c]; rfl⟩⟩
  have at0 : ∀ a b : D, atI [a, b] (if (true : Bool) = true then 1 else 0) = some b := fun a b => rfl
  have at1 : ∀ a b : D, atI [a, b] (if (false : Bool) = true then 1 else 0) = some a := fun a b => rfl
  by_cases hi : i = 0
  · have hd0 : decide (i = 0) = true := decide_eq_true hi
    simp only [ok_eCall, ok_lCons, ok_e2, ok_eN, ok_nLst, ok_eK, ok_lNil, ok_eF, eV, List.getElem?_cons_zero, List.getElem?_cons_succ, ok_some, fEq_int, hd0, Option.some.injEq, exists_eq_left', fInt1_bl, fIx_lst, at0, List.length_cons, List.length_nil, z2, true_and, Nat.zero_add, Nat.reduceAdd]
    exact ⟨.int 31, rfl, hd 31 (by decide) (by decide) _ main⟩
  · have hd0 : decide (i = 0) = false := decide_eq_false hi
    simp only [ok_eCall, ok_lCons, ok_e2, ok_eN, ok_nLst, ok_eK, ok_lNil, ok_eF, eV, List.getElem?_cons_zero, List.getElem?_cons_succ, ok_some, fEq_int, hd0, Option.some.injEq, exists_eq_left', fInt1_bl, fIx_lst, at1, List.length_cons, List.length_nil, z2, true_and, Nat.zero_add, Nat.reduceAdd]
    exact hd 10 (by decide) (by decide) _ main
theorem st10 {a4 a6 : Sl} : ∀ (rs : List Rat) (q : Rat) (m : Nat) (b8 : Sl) (g : G), Sz m q → (∀ r ∈ rs, Sz 140 r) → m + 141 * rs.length ≤ 8700 →
    OkS (forL (.one 8) (sSet 7 (eCall F_law_plus (lCons (eV true 7) (lCons (eV true 8) (lNil))))) (rs.map fr) [a0, SP, a2, a3, a4, a5, a6, .val (fr q), b8, a9, .val (fr r), .val (fr s), .no] g) fun f E' _ => f = .nx ∧ ∃ b8, E' = [a0, SP, a2, a3, a4, a5, a6, .val (fr (q + rsum rs)), b8, a9, .val (fr r), .val (fr s), .no]
  | [], q, m, b8, g, hq, hs, hl => by
    refine ⟨_, _, _, rfl, rfl, b8, ?_⟩
    show _ = [a0, SP, a2, a3, a4, a5, a6, .val (fr (q + 0)), b8, a9, .val (fr r), .val (fr s), .no]
    rw [Rat.add_zero]
  | t :: rs, q, m, b8, g, hq, hs, hl => by
    have ht := hs t (List.mem_cons_self ..)
    rw [List.length_cons] at hl
    have ih := st10 (a4 := a4) (a6 := a6) rs (q + t) (m + 140 + 1) (.val (fr t)) g (hq.add ht) (fun r hr => hs r (List.mem_cons_of_mem _ hr)) (by omega)
    have e : (sSet 7 (eCall F_law_plus (lCons (eV true 7) (lCons (eV true 8) (lNil))))) (setsE [(8, fr t)] [a0, SP, a2, a3, a4, a5, a6, .val (fr q), b8, a9, .val (fr r), .val (fr s), .no]) g = some (.nx, [a0, SP, a2, a3, a4, a5, a6, .val (fr (q + t)), .val (fr t), a9, .val (fr r), .val (fr s), .no], g) := by
      have : OkS ((sSet 7 (eCall F_law_plus (lCons (eV true 7) (lCons (eV true 8) (lNil))))) (setsE [(8, fr t)] [a0, SP, a2, a3, a4, a5, a6, .val (fr q), b8, a9, .val (fr r), .val (fr s), .no]) g) fun f E' g' => f = .nx ∧ E' = [a0, SP, a2, a3, a4, a5, a6, .val (fr (q + t)), .val (fr t), a9, .val (fr r), .val (fr s), .no] ∧ g' = g := by
        (try simp only [fEq_int, fNe_int, ok_eK, ok_lNil, ok_lCons, ok_e2, ok_e1, ok_eF, ok_eTup, ok_nLst, ok_eN, ok_mB, ok_mTru, ok_mNot, ok_mAnd, ok_mOr, ok_eAnd, ok_eOr, ok_eNot, ok_eIf, ok_eIsi, ok_eIsi2, ok_eTyC, ok_eCall, ok_eCallK, ok_oNo, ok_oAt, ok_eSl, ok_iOf, ok_iOfT, ok_iRg1, oks_sNx, oks_sSeq, oks_sSet, oks_sOwn, oks_sDrop, oks_sRet, oks_sIf, oks_sAsg, oks_sPar, oks_sFor, ok_runD, ok_some, oks_some, startE, eV, setsE, Tg.parts, fAdd_int, fAdd_lst, fAdd_tup, fSub_int, fMul_int, fDiv_int, fMod_int, fPow_int, fLt_int, fLe_int, fGt_int, fGe_int, fNeg_int, fIx_lst, fIx_tup, fLen_lst, fLen_tup, fAbs_int, fInt1_int, fInt1_bl, fGcd_int, fTuple_lst, fTuple_tup, fList_lst, fList_tup, fTru_bl, fTru_lst, fTru_tup, fIsB_bl, atI_0, atI_1, ty_int, ty_bl, ty_lst, ty_tup, ty_str, ty_non, List.map_cons, List.map_nil, List.length_cons, List.length_nil, List.replicate, List.cons_append, List.nil_append, List.getElem?_cons_zero, List.getElem?_cons_succ, List.set_cons_zero, List.set_cons_succ, List.zip_cons_cons, List.zip_nil_right, List.zip_nil_left, Option.some.injEq, exists_eq_left', exists_eq_left, Nat.reduceAdd, Nat.reduceSub, Nat.reduceEqDiff, PyData.bool.injEq, PyData.int.injEq, PyData.list.injEq, PyData.tuple.injEq, if_true, if_false, reduceIte, true_and, and_true, decide_true, decide_false, Bool.false_eq_true])
        rw [ok_eq (lplus2 hq ht (by omega) g)]
        exact ⟨rfl, rfl⟩
      obtain ⟨f, E', g', e1, rfl, rfl, rfl⟩ := this
      exact e1
    rw [List.map_cons]
    unfold forL
    show OkS (match (sSet 7 (eCall F_law_plus (lCons (eV true 7) (lCons (eV true 8) (lNil))))) (setsE [(8, fr t)] [a0, SP, a2, a3, a4, a5, a6, .val (fr q), b8, a9, .val (fr r), .val (fr s), .no]) g with
      | none => none
      | some (.nx, E1, g1) => forL (.one 8) (sSet 7 (eCall F_law_plus (lCons (eV true 7) (lCons (eV true 8) (lNil))))) (rs.map fr) E1 g1
      | some (.ct, E1, g1) => forL (.one 8) (sSet 7 (eCall F_law_plus (lCons (eV true 7) (lCons (eV true 8) (lNil))))) (rs.map fr) E1 g1
      | some (.bk, E1, g1) => some (.nx, E1, g1)
      | some (.ret x, E1, g1) => some (.ret x, E1, g1)) _
    rw [e]
    rw [Rat.add_assoc] at ih
    exact ih
theorem st11 {a4 : Sl} {rs : List Rat} (hl : rs.length ≤ 60) (hs : ∀ r ∈ rs, Sz 140 r) : OkS (sSet 9 (eN (nLst (lCons (eCall Fsum_of (lCons (eF fTuple (lCons (eV true 6) (lNil))) (lNil))) (lCons (eCall Fsum_of (lCons (eF fTuple (lCons (e1 fRev (eV true 6)) (lNil))) (lNil))) (lCons (eCallK Fsum_of [0] (lCons (eF fTuple (lCons (eF fSortP (lCons (eV true 6) lNil)) (lNil))) (lNil))) (lNil)))))) [a0, SP, a2, a3, a4, a5, .val (.list (rs.map fr)), a7, a8, a9, .val (fr r), .val (fr s), .no] g)
    fun q E' _ => q = .nx ∧ E' = [a0, SP, a2, a3, a4, a5, .val (.list (rs.map fr)), a7, a8, .val (.list [fr (rsum rs), fr (rsum rs), fr (rsum rs)]), .val (fr r), .val (fr s), .no] := by
  have z3 : 3 ≤ sizeLine := sz_ok (by decide)
  have p0 : ∀ x : D, pick [0] [x] .none = [x] := fun _ => rfl
  obtain ⟨ss, hp, hf⟩ := sort_fr rs
  have f1 := sum_ok rs hl hs
  have f2 := sum_ok rs.reverse (by rw [List.length_reverse]; exact hl) (fun r hr => hs r (List.mem_reverse.mp hr))
  have f3 := sum_ok ss (by rw [hp.length_eq]; exact hl) (fun r hr => hs r (hp.mem_iff.mp hr))
  rw [rsum_perm (List.reverse_perm rs), List.map_reverse] at f2
  rw [rsum_perm hp] at f3
  have fv : fRev (.list (rs.map fr)) = some (.list (rs.map fr).reverse) := rfl
  (try simp only [fEq_int, fNe_int, ok_eK, ok_lNil, ok_lCons, ok_e2, ok_e1, ok_eF, ok_eTup, ok_nLst, ok_eN, ok_mB, ok_mTru, ok_mNot, ok_mAnd, ok_mOr, ok_eAnd, ok_eOr, ok_eNot, ok_eIf, ok_eIsi, ok_eIsi2, ok_eTyC, ok_eCall, ok_eCallK, ok_oNo, ok_oAt, ok_eSl, ok_iOf, ok_iOfT, ok_iRg1, oks_sNx, oks_sSeq, oks_sSet, oks_sOwn, oks_sDrop, oks_sRet, oks_sIf, oks_sAsg, oks_sPar, oks_sFor, ok_runD, ok_some, oks_some, startE, eV, setsE, Tg.parts, fAdd_int, fAdd_lst, fAdd_tup, fSub_int, fMul_int, fDiv_int, fMod_int, fPow_int, fLt_int, fLe_int, fGt_int, fGe_int, fNeg_int, fIx_lst, fIx_tup, fLen_lst, fLen_tup, fAbs_int, fInt1_int, fInt1_bl, fGcd_int, fTuple_lst, fTuple_tup, fList_lst, fList_tup, fTru_bl, fTru_lst, fTru_tup, fIsB_bl, atI_0, atI_1, ty_int, ty_bl, ty_lst, ty_tup, ty_str, ty_non, List.map_cons, List.map_nil, List.length_cons, List.length_nil, List.replicate, List.cons_append, List.nil_append, List.getElem?_cons_zero, List.getElem?_cons_succ, List.set_cons_zero, List.set_cons_succ, List.zip_cons_cons, List.zip_nil_right, List.zip_nil_left, Option.some.injEq, exists_eq_left', exists_eq_left, Nat.reduceAdd, Nat.reduceSub, Nat.reduceEqDiff, PyData.bool.injEq, PyData.int.injEq, PyData.list.injEq, PyData.tuple.injEq, if_true, if_false, reduceIte, true_and, and_true, decide_true, decide_false, Bool.false_eq_true, z3, p0, hf, fv, f1, f2, f3])
theorem st12 {a4 a6 : Sl} {q : Rat} : OkS (sIf (mNot (mTru (eCall (F_law_alike 7) (lCons (eV false 9) (lCons (eN (nLst (lCons (eV false 7) (lCons (eV false 7) (lCons (eV false 7) (lNil)))))) (lNil)))))) (sRet (eK (.bool false))) (sNx) [a0, SP, a2, a3, a4, a5, a6, .val (fr q), a8, .val (.list [fr q, fr q, fr q]), .val (fr r), .val (fr s), .no] g)
    fun f E' _ => f = .nx ∧ E' = [a0, SP, a2, a3, a4, a5, a6, .val (fr q), a8, .val (.list [fr q, fr q, fr q]), .val (fr r), .val (fr s), .no] := by
  have z3 : 3 ≤ sizeLine := sz_ok (by decide)
  refine must ?_ fun _ => rfl
  (try simp only [fEq_int, fNe_int, ok_eK, ok_lNil, ok_lCons, ok_e2, ok_e1, ok_eF, ok_eTup, ok_nLst, ok_eN, ok_mB, ok_mTru, ok_mNot, ok_mAnd, ok_mOr, ok_eAnd, ok_eOr, ok_eNot, ok_eIf, ok_eIsi, ok_eIsi2, ok_eTyC, ok_eCall, ok_eCallK, ok_oNo, ok_oAt, ok_eSl, ok_iOf, ok_iOfT, ok_iRg1, oks_sNx, oks_sSeq, oks_sSet, oks_sOwn, oks_sDrop, oks_sRet, oks_sIf, oks_sAsg, oks_sPar, oks_sFor, ok_runD, ok_some, oks_some, startE, eV, setsE, Tg.parts, fAdd_int, fAdd_lst, fAdd_tup, fSub_int, fMul_int, fDiv_int, fMod_int, fPow_int, fLt_int, fLe_int, fGt_int, fGe_int, fNeg_int, fIx_lst, fIx_tup, fLen_lst, fLen_tup, fAbs_int, fInt1_int, fInt1_bl, fGcd_int, fTuple_lst, fTuple_tup, fList_lst, fList_tup, fTru_bl, fTru_lst, fTru_tup, fIsB_bl, atI_0, atI_1, ty_int, ty_bl, ty_lst, ty_tup, ty_str, ty_non, List.map_cons, List.map_nil, List.length_cons, List.length_nil, List.replicate, List.cons_append, List.nil_append, List.getElem?_cons_zero, List.getElem?_cons_succ, List.set_cons_zero, List.set_cons_succ, List.zip_cons_cons, List.zip_nil_right, List.zip_nil_left, Option.some.injEq, exists_eq_left', exists_eq_left, Nat.reduceAdd, Nat.reduceSub, Nat.reduceEqDiff, PyData.bool.injEq, PyData.int.injEq, PyData.list.injEq, PyData.tuple.injEq, if_true, if_false, reduceIte, true_and, and_true, decide_true, decide_false, Bool.false_eq_true, z3])
  exact (ok_eq (alike_frs [q, q, q] (by simp) g)).mpr rfl
end
end K01

set_option Elab.async false
set_option linter.all false
set_option maxRecDepth 100000
set_option maxHeartbeats 4000000
namespace K01
open PySem PySem.Spec PyProof.Rows L2 DL
theorem law_ok (d0 : Sl) (g : G) : OkS (mlaw [d0, SP, .no, .no, .no, .no, .no, .no, .no, .no, .no, .no, .no] g) fun q _ _ => q = .ret (.bool true) := by
  unfold mlaw
  refine oks_seqI (P := fun _ _ => True) ?_ fun E' g' _ => ?_
  · rw [oks_sFor]
    (try simp only [fEq_int, fNe_int, ok_eK, ok_lNil, ok_lCons, ok_e2, ok_e1, ok_eF, ok_eTup, ok_nLst, ok_eN, ok_mB, ok_mTru, ok_mNot, ok_mAnd, ok_mOr, ok_eAnd, ok_eOr, ok_eNot, ok_eIf, ok_eIsi, ok_eIsi2, ok_eTyC, ok_eCall, ok_eCallK, ok_oNo, ok_oAt, ok_eSl, ok_iOf, ok_iOfT, ok_iRg1, oks_sNx, oks_sSeq, oks_sSet, oks_sOwn, oks_sDrop, oks_sRet, oks_sIf, oks_sAsg, oks_sPar, oks_sFor, ok_runD, ok_some, oks_some, startE, eV, setsE, Tg.parts, fAdd_int, fAdd_lst, fAdd_tup, fSub_int, fMul_int, fDiv_int, fMod_int, fPow_int, fLt_int, fLe_int, fGt_int, fGe_int, fNeg_int, fIx_lst, fIx_tup, fLen_lst, fLen_tup, fAbs_int, fInt1_int, fInt1_bl, fGcd_int, fTuple_lst, fTuple_tup, fList_lst, fList_tup, fTru_bl, fTru_lst, fTru_tup, fIsB_bl, atI_0, atI_1, ty_int, ty_bl, ty_lst, ty_tup, ty_str, ty_non, List.map_cons, List.map_nil, List.length_cons, List.length_nil, List.replicate, List.cons_append, List.nil_append, List.getElem?_cons_zero, List.getElem?_cons_succ, List.set_cons_zero, List.set_cons_succ, List.zip_cons_cons, List.zip_nil_right, List.zip_nil_left, Option.some.injEq, exists_eq_left', exists_eq_left, Nat.reduceAdd, Nat.reduceSub, Nat.reduceEqDiff, PyData.bool.injEq, PyData.int.injEq, PyData.list.injEq, PyData.tuple.injEq, if_true, if_false, reduceIte, true_and, and_true, decide_true, decide_false, Bool.false_eq_true])
    refine ⟨_, rfl, ⟨by decide, by decide⟩, ?_⟩
    refine (forL_ok (I := Inv1) _ _ _ (fun d hd E' g' hi => ?_) ⟨_, _, _, _, _, _, _, _, _, _, _, rfl⟩).mono fun q E' g' h => h.1
    obtain ⟨i, _, rfl⟩ := mem_ints (n := 8) hd
    obtain ⟨a0, a2, a3, a4, a5, a6, a7, a8, a9, a10, a11, rfl⟩ := hi
    refine ⟨[(2, .int (i : Int))], rfl, ?_⟩
    show OkS (sSeq _ _ [a0, SP, .val (.int (i : Int)), a3, a4, a5, a6, a7, a8, a9, a10, a11, .no] g') _
    refine oks_seqI (P := fun E' _ => ∃ r s, Sz 140 r ∧ Sz 140 s ∧ E' = [a0, SP, .val (.int (i : Int)), a3, a4, a5, a6, a7, a8, a9, .val (fr r), .val (fr s), .no]) st1 ?_
    rintro _ g1 ⟨r, s, hr, hs, rfl⟩
    refine oks_seqI (P := fun E' _ => E' = _) (st2 hr hs) ?_
    rintro _ g2 rfl
    refine oks_seqI (P := fun E' _ => E' = _) (st3 hr hs) ?_
    rintro _ g3 rfl
    refine oks_seqI (P := fun E' _ => ∃ c : Int, c ≠ 0 ∧ c.natAbs < 2 ^ 50 ∧ E' = [a0, SP, .val (.int (i : Int)), .val (.int c), a4, a5, a6, a7, a8, a9, .val (fr r), .val (fr s), .no]) st4 ?_
    rintro _ g4 ⟨c, hc, hc2, rfl⟩
    refine oks_seqI (P := fun E' _ => E' = _) (st5 hc hc2 hr) ?_
    rintro _ g5 rfl
    refine oks_seqI (P := fun E' _ => E' = _) (st6 hr) ?_
    rintro _ g6 rfl
    refine oks_seqI (P := fun E' _ => ∃ b5 b7, E' = [a0, SP, .val (.int (i : Int)), .val (.int c), .val (.list (vals1 r)), b5, a6, b7, a8, a9, .val (fr r), .val (fr s), .no]) (st7 hr) ?_
    rintro _ g7 ⟨b5, b7, rfl⟩
    refine oks_seqI (P := fun E' _ => ∃ rs : List Rat, rs.length ≤ 60 ∧ (∀ r ∈ rs, Sz 140 r) ∧ E' = [a0, SP, .val (.int (i : Int)), .val (.int c), .val (.list (vals1 r)), b5, .val (.list (rs.map fr)), b7, a8, a9, .val (fr r), .val (fr s), .no]) st8 ?_
    rintro _ g8 ⟨rs, hl, hrs, rfl⟩
    refine oks_seqI (P := fun E' _ => E' = [a0, SP, .val (.int (i : Int)), .val (.int c), .val (.list (vals1 r)), b5, .val (.list (rs.map fr)), .val (fr 0), a8, a9, .val (fr r), .val (fr s), .no]) ?_ ?_
    · have z2 : 2 ≤ sizeLine := sz_ok (by decide)
      (try simp only [fEq_int, fNe_int, ok_eK, ok_lNil, ok_lCons, ok_e2, ok_e1, ok_eF, ok_eTup, ok_nLst, ok_eN, ok_mB, ok_mTru, ok_mNot, ok_mAnd, ok_mOr, ok_eAnd, ok_eOr, ok_eNot, ok_eIf, ok_eIsi, ok_eIsi2, ok_eTyC, ok_eCall, ok_eCallK, ok_oNo, ok_oAt, ok_eSl, ok_iOf, ok_iOfT, ok_iRg1, oks_sNx, oks_sSeq, oks_sSet, oks_sOwn, oks_sDrop, oks_sRet, oks_sIf, oks_sAsg, oks_sPar, oks_sFor, ok_runD, ok_some, oks_some, startE, eV, setsE, Tg.parts, fAdd_int, fAdd_lst, fAdd_tup, fSub_int, fMul_int, fDiv_int, fMod_int, fPow_int, fLt_int, fLe_int, fGt_int, fGe_int, fNeg_int, fIx_lst, fIx_tup, fLen_lst, fLen_tup, fAbs_int, fInt1_int, fInt1_bl, fGcd_int, fTuple_lst, fTuple_tup, fList_lst, fList_tup, fTru_bl, fTru_lst, fTru_tup, fIsB_bl, atI_0, atI_1, ty_int, ty_bl, ty_lst, ty_tup, ty_str, ty_non, List.map_cons, List.map_nil, List.length_cons, List.length_nil, List.replicate, List.cons_append, List.nil_append, List.getElem?_cons_zero, List.getElem?_cons_succ, List.set_cons_zero, List.set_cons_succ, List.zip_cons_cons, List.zip_nil_right, List.zip_nil_left, Option.some.injEq, exists_eq_left', exists_eq_left, Nat.reduceAdd, Nat.reduceSub, Nat.reduceEqDiff, PyData.bool.injEq, PyData.int.injEq, PyData.list.injEq, PyData.tuple.injEq, if_true, if_false, reduceIte, true_and, and_true, decide_true, decide_false, Bool.false_eq_true, z2])
      exact rfl
    rintro _ g9 rfl
    refine oks_seqI (P := fun E' _ => ∃ b8, E' = [a0, SP, .val (.int (i : Int)), .val (.int c), .val (.list (vals1 r)), b5, .val (.list (rs.map fr)), .val (fr (rsum rs)), b8, a9, .val (fr r), .val (fr s), .no]) ?_ ?_
    · rw [oks_sFor]
      (try simp only [fEq_int, fNe_int, ok_eK, ok_lNil, ok_lCons, ok_e2, ok_e1, ok_eF, ok_eTup, ok_nLst, ok_eN, ok_mB, ok_mTru, ok_mNot, ok_mAnd, ok_mOr, ok_eAnd, ok_eOr, ok_eNot, ok_eIf, ok_eIsi, ok_eIsi2, ok_eTyC, ok_eCall, ok_eCallK, ok_oNo, ok_oAt, ok_eSl, ok_iOf, ok_iOfT, ok_iRg1, oks_sNx, oks_sSeq, oks_sSet, oks_sOwn, oks_sDrop, oks_sRet, oks_sIf, oks_sAsg, oks_sPar, oks_sFor, ok_runD, ok_some, oks_some, startE, eV, setsE, Tg.parts, fAdd_int, fAdd_lst, fAdd_tup, fSub_int, fMul_int, fDiv_int, fMod_int, fPow_int, fLt_int, fLe_int, fGt_int, fGe_int, fNeg_int, fIx_lst, fIx_tup, fLen_lst, fLen_tup, fAbs_int, fInt1_int, fInt1_bl, fGcd_int, fTuple_lst, fTuple_tup, fList_lst, fList_tup, fTru_bl, fTru_lst, fTru_tup, fIsB_bl, atI_0, atI_1, ty_int, ty_bl, ty_lst, ty_tup, ty_str, ty_non, List.map_cons, List.map_nil, List.length_cons, List.length_nil, List.replicate, List.cons_append, List.nil_append, List.getElem?_cons_zero, List.getElem?_cons_succ, List.set_cons_zero, List.set_cons_succ, List.zip_cons_cons, List.zip_nil_right, List.zip_nil_left, Option.some.injEq, exists_eq_left', exists_eq_left, Nat.reduceAdd, Nat.reduceSub, Nat.reduceEqDiff, PyData.bool.injEq, PyData.int.injEq, PyData.list.injEq, PyData.tuple.injEq, if_true, if_false, reduceIte, true_and, and_true, decide_true, decide_false, Bool.false_eq_true])
      have := st10 (a0 := a0) (a2 := .val (.int (i : Int))) (a3 := .val (.int c)) (a4 := .val (.list (vals1 r))) (a5 := b5) (a6 := .val (.list (rs.map fr))) (a9 := a9) (r := r) (s := s) rs 0 1 a8 g9 ⟨by decide, by decide⟩ hrs (by omega)
      rw [Rat.zero_add] at this
      exact this
    rintro _ g10 ⟨b8, rfl⟩
    refine oks_seqI (P := fun E' _ => E' = _) (st11 hl hrs) ?_
    rintro _ g11 rfl
    refine st12.mono ?_
    rintro q _ g12 ⟨rfl, rfl⟩
    exact ⟨rfl, _, _, _, _, _, _, _, _, _, _, _, rfl⟩
  · (try simp only [fEq_int, fNe_int, ok_eK, ok_lNil, ok_lCons, ok_e2, ok_e1, ok_eF, ok_eTup, ok_nLst, ok_eN, ok_mB, ok_mTru, ok_mNot, ok_mAnd, ok_mOr, ok_eAnd, ok_eOr, ok_eNot, ok_eIf, ok_eIsi, ok_eIsi2, ok_eTyC, ok_eCall, ok_eCallK, ok_oNo, ok_oAt, ok_eSl, ok_iOf, ok_iOfT, ok_iRg1, oks_sNx, oks_sSeq, oks_sSet, oks_sOwn, oks_sDrop, oks_sRet, oks_sIf, oks_sAsg, oks_sPar, oks_sFor, ok_runD, ok_some, oks_some, startE, eV, setsE, Tg.parts, fAdd_int, fAdd_lst, fAdd_tup, fSub_int, fMul_int, fDiv_int, fMod_int, fPow_int, fLt_int, fLe_int, fGt_int, fGe_int, fNeg_int, fIx_lst, fIx_tup, fLen_lst, fLen_tup, fAbs_int, fInt1_int, fInt1_bl, fGcd_int, fTuple_lst, fTuple_tup, fList_lst, fList_tup, fTru_bl, fTru_lst, fTru_tup, fIsB_bl, atI_0, atI_1, ty_int, ty_bl, ty_lst, ty_tup, ty_str, ty_non, List.map_cons, List.map_nil, List.length_cons, List.length_nil, List.replicate, List.cons_append, List.nil_append, List.getElem?_cons_zero, List.getElem?_cons_succ, List.set_cons_zero, List.set_cons_succ, List.zip_cons_cons, List.zip_nil_right, List.zip_nil_left, Option.some.injEq, exists_eq_left', exists_eq_left, Nat.reduceAdd, Nat.reduceSub, Nat.reduceEqDiff, PyData.bool.injEq, PyData.int.injEq, PyData.list.injEq, PyData.tuple.injEq, if_true, if_false, reduceIte, true_and, and_true, decide_true, decide_false, Bool.false_eq_true])
end K01

set_option Elab.async false
set_option linter.all false
set_option maxRecDepth 100000
set_option maxHeartbeats 4000000
namespace K01
open PySem PySem.Spec PyProof.Rows L2 DL
/-- where a def stands -/
def At (K : PySem.W.Frag) (mg : Str → Option Value) (x : Str) (st : Stmt) : Prop := ∃ fa fd, Fun K x x st fa fd ∧ mg x = some (.ref fa)
def AtC (K : PySem.W.Frag) (mg : Str → Option Value) (x : Str) (st : Stmt) (c : Addr) : Prop := ∃ fa fd, FunC K x x st fa fd c ∧ mg x = some (.ref fa)

structure Fs (K : PySem.W.Frag) (mg : Str → Option Value) (c : Addr) : Prop where
  f__law_spring : At K mg "_law_spring" s_law_spring
  f__law_low : At K mg "_law_low" s_law_low
  f__law_drop : At K mg "_law_drop" s_law_drop
  f__law_number : At K mg "_law_number" s_law_number
  f__law_any : At K mg "_law_any" s_law_any
  f_is_tuple_of : At K mg "is_tuple_of" sis_tuple_of
  f_is_integer : At K mg "is_integer" sis_integer
  f_is_fraction : At K mg "is_fraction" sis_fraction
  f__check_both : At K mg "_check_both" s_check_both
  f_below : At K mg "below" sbelow
  f__reduced : At K mg "_reduced" s_reduced
  f_plus : At K mg "plus" splus
  f_times : At K mg "times" stimes
  f_minus : At K mg "minus" sminus
  f_over : At K mg "over" sover
  f__law_handed_on_right : At K mg "_law_handed_on_right" s_law_handed_on_right
  f__law_kinds : At K mg "_law_kinds" s_law_kinds
  f__law_alike : At K mg "_law_alike" s_law_alike
  f__law_is : At K mg "_law_is" s_law_is
  f__law_means : At K mg "_law_means" s_law_means
  f__law_pair_right : At K mg "_law_pair_right" s_law_pair_right
  f__law_plus : At K mg "_law_plus" s_law_plus
  f__unreduced_total : At K mg "_unreduced_total" s_unreduced_total
  f_sum_of : AtC K mg "sum_of" ssum_of c
  f_fraction : At K mg "fraction" sfraction
section
variable {P : Program} {w : World} {K : PySem.W.Frag} {mg : Str → Option Value} {base : Heap} {c Pt : Addr}
theorem alike_has {k : Kx} (T : Tx mg) (hk : Has P w k mg base "_law_kinds" 1 ["thing"] [] F_law_kinds) {fa : Addr} {fd : FuncData} (FN : Fun k.K "_law_alike" "_law_alike" s_law_alike fa fd) (gn : mg "_law_alike" = some (.ref fa)) : ∀ n, Has P w k mg base "_law_alike" (n + 1) ["found", "due"] [] (F_law_alike n)
  | 0 => (has_mk (j := 0) (m := sNo) FN gn sc_law_alike (fun _ _ _ _ _ _ _ _ => dss_no) (FN.binds fun _ _ _ _ _ _ us hl => match us, hl with | [_, _], _ => rfl) (fun q hq => by simp at hq)).imp fun _ _ _ h => by cases h
  | n + 1 => step_law_alike T hk (j := n + 1) (by omega) (alike_has T hk FN gn n) FN gn
theorem total_has {k : Kx} (T : Tx mg) {fa : Addr} {fd : FuncData} (FN : Fun k.K "_unreduced_total" "_unreduced_total" s_unreduced_total fa fd) (gn : mg "_unreduced_total" = some (.ref fa)) : ∀ n, Has P w k mg base "_unreduced_total" (n + 1) ["numbers"] [] (F_unreduced_total n)
  | 0 => (has_mk (j := 0) (m := sNo) FN gn sc_unreduced_total (fun _ _ _ _ _ _ _ _ => dss_no) (FN.binds fun _ _ _ _ _ _ us hl => match us, hl with | [_], _ => rfl) (fun q hq => by simp at hq)).imp fun _ _ _ h => by cases h
  | n + 1 => step_unreduced_total T (j := n + 1) (by omega) (total_has T FN gn n) FN gn

theorem rest_ok {k : Kx} (ho : k.on = true) (hPT : Pt ∈ k.T) (T : Tx mg) (D : Fs k.K mg c) (TB : GxR.TabB base mg c Pt) {fa : Addr} (cdv : Value) (A : Around) (outer : List Env) (s : Shared) (H : Hp) (E : XK) (f : Fx) (hr : Room 10 (A.deeper (envOfC "law" (defScope slaw) s.heap.objs.size fa cdv))) :
    PSs (cxOf CX0 P w k.K mg base ["script", "spring", "turn", "factor", "some", "value", "many", "due", "number", "told", "one", "other", "k"] "law" (defScope slaw) fa cdv A outer s H E).nox ((defBody slaw).drop 1) (tS k f [] mlaw) := by
  obtain ⟨a_law_low, d_law_low, n_law_low, g_law_low⟩ := D.f__law_low
  have h_law_low := ok_law_low (P := P) (w := w) (base := base) T  n_law_low g_law_low
  obtain ⟨a_law_drop, d_law_drop, n_law_drop, g_law_drop⟩ := D.f__law_drop
  have h_law_drop := (ok_law_drop (P := P) (w := w) (base := base) T ho n_law_drop g_law_drop).imp drop_imp
  obtain ⟨a_law_number, d_law_number, n_law_number, g_law_number⟩ := D.f__law_number
  have h_law_number := ok_law_number (P := P) (w := w) (base := base) T h_law_drop h_law_low n_law_number g_law_number
  obtain ⟨a_law_any, d_law_any, n_law_any, g_law_any⟩ := D.f__law_any
  have h_law_any := ok_law_any (P := P) (w := w) (base := base) T h_law_low h_law_drop h_law_number n_law_any g_law_any
  obtain ⟨ais_tuple_of, dis_tuple_of, nis_tuple_of, gis_tuple_of⟩ := D.f_is_tuple_of
  have his_tuple_of := okis_tuple_of (P := P) (w := w) (base := base) T  nis_tuple_of gis_tuple_of
  obtain ⟨ais_integer, dis_integer, nis_integer, gis_integer⟩ := D.f_is_integer
  have his_integer := okis_integer (P := P) (w := w) (base := base) T  nis_integer gis_integer
  obtain ⟨ais_fraction, dis_fraction, nis_fraction, gis_fraction⟩ := D.f_is_fraction
  have his_fraction := okis_fraction (P := P) (w := w) (base := base) T his_tuple_of his_integer nis_fraction gis_fraction
  obtain ⟨a_check_both, d_check_both, n_check_both, g_check_both⟩ := D.f__check_both
  have h_check_both := ok_check_both (P := P) (w := w) (base := base) T his_fraction n_check_both g_check_both
  obtain ⟨abelow, dbelow, nbelow, gbelow⟩ := D.f_below
  have hbelow := okbelow (P := P) (w := w) (base := base) T h_check_both nbelow gbelow
  obtain ⟨a_reduced, d_reduced, n_reduced, g_reduced⟩ := D.f__reduced
  have h_reduced := ok_reduced (P := P) (w := w) (base := base) T  n_reduced g_reduced
  obtain ⟨aplus, dplus, nplus, gplus⟩ := D.f_plus
  have hplus := okplus (P := P) (w := w) (base := base) T h_check_both h_reduced nplus gplus
  obtain ⟨atimes, dtimes, ntimes, gtimes⟩ := D.f_times
  have htimes := oktimes (P := P) (w := w) (base := base) T h_check_both h_reduced ntimes gtimes
  obtain ⟨aminus, dminus, nminus, gminus⟩ := D.f_minus
  have hminus := okminus (P := P) (w := w) (base := base) T h_check_both h_reduced nminus gminus
  obtain ⟨aover, dover, nover, gover⟩ := D.f_over
  have hover := okover (P := P) (w := w) (base := base) T h_check_both h_reduced nover gover
  obtain ⟨a_law_handed_on_right, d_law_handed_on_right, n_law_handed_on_right, g_law_handed_on_right⟩ := D.f__law_handed_on_right
  have h_law_handed_on_right := ok_law_handed_on_right (P := P) (w := w) (base := base) T hbelow hplus htimes hminus hover n_law_handed_on_right g_law_handed_on_right
  obtain ⟨a_law_kinds, d_law_kinds, n_law_kinds, g_law_kinds⟩ := D.f__law_kinds
  have h_law_kinds := ok_law_kinds (P := P) (w := w) (base := base) T  n_law_kinds g_law_kinds
  obtain ⟨a_law_alike, d_law_alike, n_law_alike, g_law_alike⟩ := D.f__law_alike
  have h_law_alike := alike_has (P := P) (w := w) (base := base) T h_law_kinds n_law_alike g_law_alike 7
  obtain ⟨a_law_is, d_law_is, n_law_is, g_law_is⟩ := D.f__law_is
  have h_law_is := ok_law_is (P := P) (w := w) (base := base) T h_law_low n_law_is g_law_is
  obtain ⟨a_law_means, d_law_means, n_law_means, g_law_means⟩ := D.f__law_means
  have h_law_means := ok_law_means (P := P) (w := w) (base := base) T h_law_is n_law_means g_law_means
  obtain ⟨a_law_pair_right, d_law_pair_right, n_law_pair_right, g_law_pair_right⟩ := D.f__law_pair_right
  have h_law_pair_right := ok_law_pair_right (P := P) (w := w) (base := base) T h_law_alike hplus hminus htimes hbelow h_law_means hover n_law_pair_right g_law_pair_right
  obtain ⟨a_law_plus, d_law_plus, n_law_plus, g_law_plus⟩ := D.f__law_plus
  have h_law_plus := ok_law_plus (P := P) (w := w) (base := base) T h_law_low n_law_plus g_law_plus
  obtain ⟨a_unreduced_total, d_unreduced_total, n_unreduced_total, g_unreduced_total⟩ := D.f__unreduced_total
  have h_unreduced_total := total_has (P := P) (w := w) (base := base) T n_unreduced_total g_unreduced_total 7
  obtain ⟨asum_of, dsum_of, nsum_of, gsum_of⟩ := D.f_sum_of
  have hsum_of := oksum_of (P := P) (w := w) (base := base) T h_unreduced_total h_reduced his_fraction nsum_of gsum_of hPT TB
  obtain ⟨afraction, dfraction, nfraction, gfraction⟩ := D.f_fraction
  have hfraction := okfraction (P := P) (w := w) (base := base) T h_reduced his_integer nfraction gfraction
  exact restlaw T h_law_any h_law_handed_on_right h_law_pair_right h_law_drop h_law_alike h_law_is h_law_plus hsum_of hfraction his_fraction cdv A outer s H E f hr
end
end K01

set_option Elab.async false
set_option linter.all false
set_option maxRecDepth 100000
set_option maxHeartbeats 4000000
namespace K01
open PySem PySem.Spec PyProof.Rows L2 DL
def spLaw (K : PySem.W.Frag) (Pt : Addr) : Sp := fun vs H Q _ => ∃ (a : Addr) (ns : List Int), vs = [.ref a] ∧ SqL K H a (ns.map V.int) ∧ ns.length ≤ 63 ∧ H Pt = some (.tbl #[]) ∧ ∀ H', Q (.bl true) H'
theorem pss_x {X : Cx} {sts : List Stmt} {ι : Type} {t : ι → TS} (h : ∀ i, PSs X sts (t i)) : PSs X sts (fun D σ H => ∃ i, t i D σ H) := ⟨fun pins s σ H D I ⟨i, q⟩ => (h i).run pins s σ H D I q⟩
theorem rpa_inv {k : Kx} {H : Hp} {B : Addr → Prop} : ∀ {ns : List Int} {xs : List V}, RpA k H B xs (ns.map PyData.int) → xs = ns.map V.int
  | [], _, r => by cases r; rfl
  | n :: ns, _, r => by
    cases r with
    | cons r1 r2 =>
      cases r1
      rw [rpa_inv r2]
      rfl
section
variable {P : Program} {w : World} {K : PySem.W.Frag} {mg : Str → Option Value} {base : Heap} {c Pt : Addr}
abbrev k0 (K : PySem.W.Frag) (Pt : Addr) : Kx := ⟨K, 0, 0, [Pt], false⟩
abbrev k1 (K : PySem.W.Frag) (Pt β γ : Addr) : Kx := ⟨K, β, γ, [Pt], true⟩
theorem law_fn (T : Tx mg) (D : Fs K mg c) {fa : Addr} {fd : FuncData} (F : Fun K "law" "law" slaw fa fd) (TB : GxR.TabB base mg c Pt) : FnOk P w K mg base CX0 11 fa fd ["script"] (spLaw K Pt) := by
  obtain ⟨aS, dS, nS, gS⟩ := D.f__law_spring
  obtain ⟨fS, fdS, h1, h2, h3, h4, _⟩ := ok_law_spring (P := P) (w := w) (base := base) (k := k0 K Pt) T nS gS
  refine F.ok sclaw (fun vs H Q E h => by obtain ⟨a, ns, rfl, _⟩ := h; rfl) (fun cdv A outer s H vs Q E hr h => ?_)
  obtain ⟨a, ns, rfl, hS, hlen, hP, q⟩ := h
  refine ⟨_, pss_cons (ps_set (i := 1) sclaw.nd rfl (.inr rfl) (pe_call h2 (hr.mono (by omega)) (by rfl) h1 h3 h4 .nil pass0 (pa_cons (pv 0) pa_nil)))
    (pss_x fun z : Addr × Addr × Fx => rest_ok (k := k1 K Pt z.1 z.2.1) rfl (List.mem_singleton.mpr rfl) T D TB cdv A outer s H E z.2.2 hr), ?_⟩
  obtain ⟨d, g', e, deep, p, rfl, rfl⟩ := spring_ok ns (by omega) ⟨[], 0, 0⟩
  have hB : ∀ b, B0 (k0 K Pt) b → b = Pt := fun b hb => by
    rcases hb with ⟨h, _⟩ | ⟨h, _⟩ | h
    · cases h
    · cases h
    · exact List.mem_singleton.mp h
  refine ⟨.ref a, rfl, fun b => b = Pt, [scD ns], ⟨[], 0, 0⟩, _, _, rfl, hB, (fun b hb => by rw [show b = Pt from hb, hP]; exact fun z => (nomatch z)), ⟨(fun h => nomatch h), (fun h => nomatch h), fun Q hQ => ?_⟩, .cons (.fz ?_) .nil, e, fun v H1 fr ga r => ?_⟩
  · rw [List.mem_singleton.mp hQ]
    exact ⟨#[], hP, by trivial⟩
  · rcases hS with h | h
    · refine .inl ⟨fun ea => ?_, h⟩
      have ea : a = Pt := ea
      rcases h with h | ⟨o, h⟩
      · rw [ea, hP] at h; cases h
      · rw [ea, hP] at h; cases h
    · exact .inr h
  · cases r with
    | lst n1 e1 ra =>
      rename_i β xs
      cases ra with
      | cons r1 ra =>
        cases ra with
        | cons r2 ra =>
          cases ra with
          | cons r3 ra =>
            cases ra
            cases r2; cases r3
            cases r1 with
            | lst n2 e2 rb =>
              rename_i γ ys
              rw [rpa_inv rb] at e2
              obtain ⟨fl, E', g1, el, hf⟩ := law_ok .no ⟨deep, p, 0⟩
              subst hf
              have gk : GA (k1 K Pt β γ) H1 ⟨deep, p, 0⟩ := ⟨fun _ => e1, fun _ => e2, ga.t⟩
              refine ⟨(β, γ, ⟨fun b => B0 (k1 K Pt β γ) b, H1⟩), _, fun _ => 0, ⟨deep, p, 0⟩, _, ?_, el, fun u H2 _ _ ru => ?_⟩
              · refine ⟨rfl, fun i d hd => ?_, fun i es hd => ?_, fun i j es fs hd _ _ => ?_, fun x hx => absurd hx (by simp), gk, .refl _ _, fun b h => h, fun b h => gk.has h⟩
                · match i, hd with
                  | 0, hd => cases hd
                  | 1, hd => cases hd; exact ⟨_, rfl, .br⟩
                  | 2, hd | 3, hd | 4, hd | 5, hd | 6, hd | 7, hd | 8, hd | 9, hd | 10, hd | 11, hd | 12, hd => cases hd
                  | i + 13, hd => simp at hd
                · match i, hd with
                  | 0, hd | 1, hd | 2, hd | 3, hd | 4, hd | 5, hd | 6, hd | 7, hd | 8, hd | 9, hd | 10, hd | 11, hd | 12, hd => cases hd
                  | i + 13, hd => simp at hd
                · match i, hd with
                  | 0, hd | 1, hd | 2, hd | 3, hd | 4, hd | 5, hd | 6, hd | 7, hd | 8, hd | 9, hd | 10, hd | 11, hd | 12, hd => cases hd
                  | i + 13, hd => simp at hd
              · cases ru
                exact q _
end
end K01

set_option Elab.async false
set_option linter.all false
set_option maxRecDepth 100000
namespace K01
open PySem PySem.Spec PyProof.Rows L2 DL
theorem funD_fun {K : PySem.W.Frag} {x : Str} {st : Stmt} {f : Addr} {fd : FuncData} (F : FunD K x x (defArgs st) (defBody st) (defScope st) [] [] f fd) : Fun K x x st f fd := by
  obtain ⟨oc, od, dV, kV, doc, pm, an, cdv, ct, osl, e, lk, hc, hd, _⟩ := F.ex
  have h : dV = .none := by
    rcases hd with ⟨_, h⟩ | ⟨h, _⟩
    · exact h
    · exact absurd rfl h
  subst h
  exact ⟨⟨oc, od, kV, doc, pm, an, cdv, ct, osl, e, lk, hc⟩, F.kp⟩
abbrev dd (x : Str) (st : Stmt) : He.DefD := ⟨(x, none), x, x, defArgs st, defBody st, defScope st, [], []⟩
def fnL : List He.DefD := [dd "_law_spring" s_law_spring, dd "_law_low" s_law_low, dd "_law_drop" s_law_drop, dd "_law_number" s_law_number, dd "_law_any" s_law_any, dd "is_tuple_of" sis_tuple_of, dd "is_integer" sis_integer, dd "is_fraction" sis_fraction, dd "_check_both" s_check_both, dd "below" sbelow, dd "_reduced" s_reduced, dd "plus" splus, dd "times" stimes, dd "minus" sminus, dd "over" sover, dd "_law_handed_on_right" s_law_handed_on_right, dd "_law_kinds" s_law_kinds, dd "_law_alike" s_law_alike, dd "_law_is" s_law_is, dd "_law_means" s_law_means, dd "_law_pair_right" s_law_pair_right, dd "_law_plus" s_law_plus, dd "_unreduced_total" s_unreduced_total, dd "sum_of" ssum_of, dd "fraction" sfraction, dd "law" slaw]
def faL : List He.Fa := [.glo "_law_spring", .glo "_law_low", .glo "_law_drop", .glo "_law_number", .glo "_law_any", .glo "is_tuple_of", .glo "is_integer", .glo "is_fraction", .glo "_check_both", .glo "below", .glo "_reduced", .glo "plus", .glo "times", .glo "minus", .glo "over", .glo "_law_handed_on_right", .glo "_law_kinds", .glo "_law_alike", .glo "_law_is", .glo "_law_means", .glo "_law_pair_right", .glo "_law_plus", .glo "_unreduced_total", .glo "sum_of", .glo "fraction", .glo "law", .free "abs", .free "all", .free "bool", .free "int", .free "isinstance", .free "len", .free "list", .free "range", .free "sorted", .free "str", .free "tuple", .free "type"]
def exL (K : PySem.W.Frag) : Bool := decide (PySem.W.nsIn K mainGlobals "gcd" = some (some (.builtin "math.gcd")))
def tfL : List He.Defn := [("sum_of", none)]
abbrev hkL : PySem.W.Hook := He.hookX 5 faL fnL [] tfL exL
theorem at_of {K : PySem.W.Frag} {h : Heap} {mg : Str → Option Value} {x : Str} {st : Stmt} (X : K.In h) (G : h.Ns mainGlobals mg) (c : He.SaysD faL fnL K) (i j : Nat) (hi : faL[i]? = some (.glo x)) (hj : fnL[j]? = some (dd x st)) : At K mg x st := by
  obtain ⟨fd, F⟩ := c.def_ j hj
  exact ⟨_, fd, funD_fun F, He.glo_ok X G (c.fact i hi)⟩
theorem atC_of {K : PySem.W.Frag} {h : Heap} {mg : Str → Option Value} {x : Str} {st : Stmt} (X : K.In h) (G : h.Ns mainGlobals mg) (c : He.SaysD faL fnL K) (i j : Nat) (hi : faL[i]? = some (.glo x)) (hj : fnL[j]? = some (dd x st)) : AtC K mg x st (He.cT K (x, none)).1 := by
  obtain ⟨fd, F⟩ := c.def_ j hj
  have F2 := funD_fun F
  obtain ⟨oc, od, kV, doc, pm, an, cdv, ct, osl, e, lk, hc⟩ := F2.ex
  obtain ⟨cc, rfl⟩ := He.codeIn_ref hc
  have ec : (He.cT K (x, none)).1 = cc := He.codeOf_eq (p := (x, none)) lk (by rw [e] <;> rfl)
  rw [ec]
  exact ⟨_, fd, ⟨F2, oc, od, kV, doc, pm, an, ct, osl, e, lk, hc⟩, He.glo_ok X G (c.fact i hi)⟩
theorem law_at {l : PySem.W.OpenLaw} {w : World} {K : PySem.W.Frag} {h : Heap} {mg : Str → Option Value} {fa : Addr} (X : K.In h) (G : h.Ns mainGlobals mg) (hfa : mg "law" = some (.ref fa)) (S : He.SaysX faL fnL [] tfL exL w h K) : LamX.LawAtS l w K CX0 11 63 "script" mg fa h := by
  have c := S.t.d
  have T : Tx mg := ⟨He.free_ok X G (c.fact 26 (f := .free "abs") rfl), He.free_ok X G (c.fact 27 (f := .free "all") rfl), He.free_ok X G (c.fact 28 (f := .free "bool") rfl), PySem.W.mg_of X G (of_decide_eq_true S.more), He.free_ok X G (c.fact 29 (f := .free "int") rfl), He.free_ok X G (c.fact 30 (f := .free "isinstance") rfl), He.free_ok X G (c.fact 31 (f := .free "len") rfl), He.free_ok X G (c.fact 32 (f := .free "list") rfl), He.free_ok X G (c.fact 33 (f := .free "range") rfl), He.free_ok X G (c.fact 34 (f := .free "sorted") rfl), He.free_ok X G (c.fact 35 (f := .free "str") rfl), He.free_ok X G (c.fact 36 (f := .free "tuple") rfl), He.free_ok X G (c.fact 37 (f := .free "type") rfl)⟩
  have D : Fs K mg (He.cT K ("sum_of", none)).1 := ⟨at_of X G c 0 0 rfl rfl, at_of X G c 1 1 rfl rfl, at_of X G c 2 2 rfl rfl, at_of X G c 3 3 rfl rfl, at_of X G c 4 4 rfl rfl, at_of X G c 5 5 rfl rfl, at_of X G c 6 6 rfl rfl, at_of X G c 7 7 rfl rfl, at_of X G c 8 8 rfl rfl, at_of X G c 9 9 rfl rfl, at_of X G c 10 10 rfl rfl, at_of X G c 11 11 rfl rfl, at_of X G c 12 12 rfl rfl, at_of X G c 13 13 rfl rfl, at_of X G c 14 14 rfl rfl, at_of X G c 15 15 rfl rfl, at_of X G c 16 16 rfl rfl, at_of X G c 17 17 rfl rfl, at_of X G c 18 18 rfl rfl, at_of X G c 19 19 rfl rfl, at_of X G c 20 20 rfl rfl, at_of X G c 21 21 rfl rfl, at_of X G c 22 22 rfl rfl, atC_of X G c 23 23 rfl rfl, at_of X G c 24 24 rfl rfl⟩
  obtain ⟨fl, fd, F, gl⟩ : At K mg "law" slaw := at_of X G c 25 25 rfl rfl
  have e := hfa.symm.trans gl
  cases e
  have mm : (("sum_of", none) : He.Defn) ∈ tfL := List.mem_singleton.mpr rfl
  refine ⟨fd, [He.cT K ("sum_of", none)], spLaw K (He.cT K ("sum_of", none)).2, fun p hp => ?_, fun p hp => ?_, fun p hp => ?_, fun s u => ?_, fun H a ns hl hb hP hS => ?_, fun base hK hG hTB => ?_⟩
  · rw [List.mem_singleton.mp hp]; exact S.empty _ mm
  · rw [List.mem_singleton.mp hp]; exact S.out _ mm
  · rw [List.mem_singleton.mp hp]; exact PySem.W.codeHd_of_K X (S.hd _ mm)
  · obtain ⟨oc, od, kV, dc, pm, an, cdv, ct, osl, rfl, _, _⟩ := F.ex
    exact .of_eq rfl
  · exact ⟨a, ns, rfl, hS, hl, hP _ (List.mem_singleton.mpr rfl), fun _ => rfl⟩
  · have z := hTB _ (List.mem_singleton.mpr rfl)
    exact law_fn T D F ⟨z.code, z.bm, z.gP⟩
end K01
open PySem PySem.W PyProof.Rows
set_option maxHeartbeats 0 in
theorem PySem.Challenge.cw_drawntold_k01_fractions_made_and_summed_holds : PySem.Challenge.rw_drawntold_k01_fractions_made_and_summed.Holds := by
  w_on; o_law; o_head K01.hkL; (case hw => w_witness2)
  refine LamX.walk_ofTsE (l := PySem.Challenge.rw_drawntold_k01_fractions_made_and_summed) (n := 63) (k := 11) (x := "script") (CX := fun _ => L2.CX0) rfl (by decide) rfl ⟨rfl, by decide, by decide⟩ ?F (fun _ _ _ _ _ h => h)
  intro w mg fa h Y G hmg
  obtain ⟨K, KX, S⟩ := Y
  exact ⟨K, KX, K01.law_at KX G hmg S⟩
