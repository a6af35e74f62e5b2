import PyProof.Rows.All
import Wide.All
import OpenK.AllK
import Wide.FinOn
import HandS.ForMost
import HandS.Wide
import HandS.Gcd
import HandS.IsInst
import HandS.AnyAll
import HandS.SortRule
import HandS.TupAny
import HandS.Conv
import HandS.Zip
import HandS.Flow
import HandS.Style
import HandS.Defaults
import HandS.Deep
import HandS.NoneIn
import PyProof.TypeEq
import PyProof.InstEq
import HandS.GenList
import HandS.EndTab
import HandS.WideBits
import HandS.TupMul
import HandS.HeadWalk
import HandS.HeadHook4
import PySem.Challenge.RW_drawntold_k06_whole_axes_moved_and_turne
set_option Elab.async false
set_option linter.all false
set_option maxRecDepth 100000
set_option maxHeartbeats 1000000
/-! DL: data, not addresses. What an expression comes to, as a partial function over data. -/
namespace DL
open PySem PySem.Spec PyProof.Rows L2

/-! ### what stands at a value -/
abbrev D := PyData
/-- the spring's state: its list of great numbers, its two numbers -/
structure G where
  deep : List Int
  p : Int
  q : Int
/-- what is fixed through the law: the spring and its list, the tables of code objects -/
structure Kx where
  K : PySem.W.Frag
  β : Addr
  γ : Addr
  T : List Addr
  /-- is the spring there? -/
  on : Bool := true
  /-- is it a well (three numbers)? -/
  wl : Bool := false

/-- a list that nobody writes -/
def FzAt (K : PySem.W.Frag) (H : Hp) (B : Addr → Prop) (a : Addr) (xs : List V) : Prop := (¬ B a ∧ Rd H a (.lst xs)) ∨
  ∃ (o : Obj) (its : Array Value) (n : Nat), K.lookup a = some o ∧ o.cls = .type "list" ∧ o.dict = none ∧ o.data = .seq its n ∧ its.size ≤ sizeLine ∧ Vals xs its.toList
theorem FzAt.sq {K : PySem.W.Frag} {H : Hp} {B : Addr → Prop} {a : Addr} {xs : List V} (h : FzAt K H B a xs) : SqL K H a xs := h.imp And.right id
theorem FzAt.mono {K : PySem.W.Frag} {H H' : Hp} {B B' : Addr → Prop} {a : Addr} {xs : List V} (hH : ∀ b o, ¬ B b → H b = some o → H' b = some o) (hB : ∀ b o, ¬ B b → H b = some o → ¬ B' b) (h : FzAt K H B a xs) : FzAt K H' B' a xs := by
  rcases h with ⟨nb, h | ⟨o, h⟩⟩ | h
  · exact .inl ⟨hB _ _ nb h, .inl (hH _ _ nb h)⟩
  · exact .inl ⟨hB _ _ nb h, .inr ⟨o, hH _ _ nb h⟩⟩
  · exact .inr h
mutual
inductive Rp (k : Kx) (H : Hp) (B : Addr → Prop) : V → D → Prop
  | non : Rp k H B .non .none
  | bl (b : Bool) : Rp k H B (.bl b) (.bool b)
  | int (i : Int) : Rp k H B (.int i) (.int i)
  | str (x : Str) : Rp k H B (.str x) (.str x)
  | lst {a : Addr} {xs : List V} {ds : List D} : ¬ B a → H a = some (.lst xs) → RpA k H B xs ds → Rp k H B (.ref a) (.list ds)
  | tup {a : Addr} {xs : List V} {ds : List D} : ¬ B a → H a = some (.tup xs) → RpA k H B xs ds → Rp k H B (.ref a) (.tuple ds)
  | br : Rp k H B (.ref k.β) (.dict [])
  | gr : Rp k H B (.ref k.γ) (.dict [(.none, .none)])
  | fz {a : Addr} {ns : List Int} : FzAt k.K H B a (ns.map .int) → Rp k H B (.ref a) (.dict [(.none, .list (ns.map .int))])
inductive RpA (k : Kx) (H : Hp) (B : Addr → Prop) : List V → List D → Prop
  | nil : RpA k H B [] []
  | cons {v : V} {vs : List V} {d : D} {ds : List D} : Rp k H B v d → RpA k H B vs ds → RpA k H B (v :: vs) (d :: ds)
end
mutual
theorem Rp.mono {k : Kx} {H H' : Hp} {B B' : Addr → Prop} (hH : ∀ b o, ¬ B b → H b = some o → H' b = some o) (hB : ∀ b o, ¬ B b → H b = some o → ¬ B' b) : ∀ (d : D) (v : V), Rp k H B v d → Rp k H' B' v d
  | .none, _, h => by cases h; exact .non
  | .bool _, _, h => by cases h; exact .bl _
  | .int _, _, h => by cases h; exact .int _
  | .str _, _, h => by cases h; exact .str _
  | .list ds, _, h => by
    cases h with
    | lst nb hr ha => exact .lst (hB _ _ nb hr) (hH _ _ nb hr) (RpA.mono hH hB ds _ ha)
  | .tuple ds, _, h => by
    cases h with
    | tup nb hr ha => exact .tup (hB _ _ nb hr) (hH _ _ nb hr) (RpA.mono hH hB ds _ ha)
  | .dict _, _, h => by
    cases h with
    | br => exact .br
    | gr => exact .gr
    | fz h => exact .fz (h.mono hH hB)
theorem RpA.mono {k : Kx} {H H' : Hp} {B B' : Addr → Prop} (hH : ∀ b o, ¬ B b → H b = some o → H' b = some o) (hB : ∀ b o, ¬ B b → H b = some o → ¬ B' b) : ∀ (ds : List D) (vs : List V), RpA k H B vs ds → RpA k H' B' vs ds
  | [], _, h => by cases h; exact .nil
  | d :: ds, _, h => by
    cases h with
    | cons h1 h2 => exact .cons (Rp.mono hH hB d _ h1) (RpA.mono hH hB ds _ h2)
end
theorem RpA.length {k : Kx} {H : Hp} {B : Addr → Prop} : ∀ {vs : List V} {ds : List D}, RpA k H B vs ds → vs.length = ds.length
  | _, _, .nil => rfl
  | _, _, .cons _ t => by rw [List.length_cons, List.length_cons, RpA.length t]
theorem RpA.get {k : Kx} {H : Hp} {B : Addr → Prop} : ∀ {vs : List V} {ds : List D} {i : Nat} {d : D}, RpA k H B vs ds → ds[i]? = some d → ∃ v, vs[i]? = some v ∧ Rp k H B v d
  | _, _, _, _, .nil, e => by simp at e
  | _, _, 0, _, .cons r _, e => by simp at e; subst e; exact ⟨_, rfl, r⟩
  | _, _, i + 1, d, .cons _ t, e => by
    obtain ⟨u, h1, h2⟩ := RpA.get (i := i) (d := d) t (by simpa using e)
    exact ⟨u, by simpa using h1, h2⟩
theorem RpA.get' {k : Kx} {H : Hp} {B : Addr → Prop} : ∀ {vs : List V} {ds : List D} {i : Nat} {v : V}, RpA k H B vs ds → vs[i]? = some v → ∃ d, ds[i]? = some d ∧ Rp k H B v d
  | _, _, _, _, .nil, e => by simp at e
  | _, _, 0, _, .cons r _, e => by simp at e; subst e; exact ⟨_, rfl, r⟩
  | _, _, i + 1, v, .cons _ t, e => by
    obtain ⟨u, h1, h2⟩ := RpA.get' (i := i) (v := v) t (by simpa using e)
    exact ⟨u, by simpa using h1, h2⟩
theorem RpA.append {k : Kx} {H : Hp} {B : Addr → Prop} : ∀ {vs ws : List V} {ds es : List D}, RpA k H B vs ds → RpA k H B ws es → RpA k H B (vs ++ ws) (ds ++ es)
  | _, _, _, _, .nil, s => s
  | _, _, _, _, .cons r t, s => .cons r (RpA.append t s)
theorem RpA.take {k : Kx} {H : Hp} {B : Addr → Prop} : ∀ {vs : List V} {ds : List D} (n : Nat), RpA k H B vs ds → RpA k H B (vs.take n) (ds.take n)
  | _, _, 0, _ => .nil
  | _, _, _ + 1, .nil => .nil
  | _, _, n + 1, .cons r t => .cons r (RpA.take n t)
theorem RpA.drop {k : Kx} {H : Hp} {B : Addr → Prop} : ∀ {vs : List V} {ds : List D} (n : Nat), RpA k H B vs ds → RpA k H B (vs.drop n) (ds.drop n)
  | _, _, 0, r => r
  | _, _, _ + 1, .nil => .nil
  | _, _, n + 1, .cons _ t => RpA.drop n t
theorem RpA.rev {k : Kx} {H : Hp} {B : Addr → Prop} : ∀ {vs : List V} {ds : List D}, RpA k H B vs ds → RpA k H B vs.reverse ds.reverse
  | _, _, .nil => .nil
  | _, _, .cons r t => by
    rw [List.reverse_cons, List.reverse_cons]
    exact (RpA.rev t).append (.cons r .nil)

/-! nothing that may be written is within -/
mutual
def flat : D → Bool
  | .list _ => false
  | .tuple ds => flatA ds
  | _ => true
def flatA : List D → Bool
  | [] => true
  | d :: ds => flat d && flatA ds
end

/-! ### the frame and the state -/
def B0 (k : Kx) (b : Addr) : Prop := (k.on = true ∧ b = k.β) ∨ (k.on = true ∧ b = k.γ) ∨ b ∈ k.T
def Fr0 (k : Kx) (H H' : Hp) : Prop := ∀ b o, ¬ B0 k b → H b = some o → H' b = some o
theorem Fr0.refl (k : Kx) (H : Hp) : Fr0 k H H := fun _ _ _ h => h
theorem Fr0.trans {k : Kx} {H H1 H2 : Hp} (a : Fr0 k H H1) (b : Fr0 k H1 H2) : Fr0 k H H2 := fun c o n h => b c o n (a c o n h)
theorem Fr0.of {k : Kx} {H H' : Hp} (s : Same H H') : Fr0 k H H' := fun b o _ h => s b o h
/-- the spring, the tables -/
structure GA (k : Kx) (H : Hp) (g : G) : Prop where
  b : k.on = true → H k.β = some (.lst [if k.wl = true then .int (g.deep.headD 0) else .ref k.γ, .int g.p, .int g.q])
  c : k.on = true → H k.γ = some (.lst (if k.wl = true then [.int (g.deep.headD 0), .int g.p, .int g.q] else g.deep.map .int))
  t : ∀ P ∈ k.T, GxR.TabG H P
theorem GA.same {k : Kx} {H H' : Hp} {g : G} (s : Same H H') (h : GA k H g) : GA k H' g := ⟨fun o => s _ _ (h.b o), fun o => s _ _ (h.c o), fun P hP => let ⟨ps, e, t⟩ := h.t P hP; ⟨ps, s _ _ e, t⟩⟩
theorem GA.has {k : Kx} {H : Hp} {g : G} (h : GA k H g) {b : Addr} (z : B0 k b) : H b ≠ none := by
  rcases z with z | z | z
  · rw [z.2, h.b z.1]; exact fun q => nomatch q
  · rw [z.2, h.c z.1]; exact fun q => nomatch q
  · obtain ⟨ps, e, _⟩ := h.t b z
    rw [e]; exact fun q => nomatch q
/-- behind an expression -/
structure PEd (k : Kx) (g : G) (H H' : Hp) : Prop where
  fr : Fr0 k H H'
  ga : GA k H' g
theorem PEd.trans {k : Kx} {g g' : G} {H H1 H2 : Hp} (a : PEd k g H H1) (b : PEd k g' H1 H2) : PEd k g' H H2 := ⟨a.fr.trans b.fr, b.ga⟩
theorem PEd.same {k : Kx} {g : G} {H H' : Hp} (s : Same H H') (h : GA k H g) : PEd k g H H' := ⟨.of s, h.same s⟩

/-- a local name: nothing, a value, a list of one's own that is written -/
inductive Sl where
  | no | val (d : D) | own (ds : List D)
abbrev En := List Sl
/-- a def's run: what it may not hold (its callers' lists), the heap at its entry -/
structure Fx where
  Bo : Addr → Prop
  H0 : Hp
def BE (f : Fx) (sm : Bool) (E : En) (μ : Nat → Addr) (b : Addr) : Prop := f.Bo b ∨ (sm = true ∧ ∃ (i : Nat) (ds : List D), E[i]? = some (Sl.own ds) ∧ b = μ i)
structure Ist (k : Kx) (f : Fx) (ex : List (V × D)) (E : En) (μ : Nat → Addr) (g : G) (σ : L2.St) (H : Hp) : Prop where
  len : σ.length = E.length
  val : ∀ (i : Nat) (d : D), E[i]? = some (Sl.val d) → ∃ v, σ[i]? = some (some v) ∧ Rp k H (BE f true E μ) v d
  own : ∀ (i : Nat) (ds : List D), E[i]? = some (Sl.own ds) → σ[i]? = some (some (.ref (μ i))) ∧ f.H0 (μ i) = none ∧ ¬ f.Bo (μ i) ∧ ∃ vs, H (μ i) = some (.lst vs) ∧ RpA k H (BE f true E μ) vs ds
  inj : ∀ (i j : Nat) (ds es : List D), E[i]? = some (Sl.own ds) → E[j]? = some (Sl.own es) → μ i = μ j → i = j
  exs : ∀ p ∈ ex, Rp k H (BE f true E μ) p.1 p.2
  ga : GA k H g
  fr : Fr0 k f.H0 H
  b0 : ∀ b, B0 k b → f.Bo b
  bo : ∀ b, f.Bo b → H b ≠ none
theorem BE.weak {f : Fx} {sm : Bool} {E : En} {μ : Nat → Addr} {b : Addr} (h : BE f sm E μ b) : BE f true E μ b := h.imp id fun ⟨_, q⟩ => ⟨rfl, q⟩
section
variable {k : Kx} {f : Fx} {ex : List (V × D)} {E : En} {μ : Nat → Addr} {g g' : G} {σ : L2.St} {H H' : Hp}
theorem Ist.be (I : Ist k f ex E μ g σ H) {b : Addr} (sm : Bool) (z : BE f sm E μ b) : H b ≠ none := by
  rcases z with z | ⟨_, i, ds, e, z⟩
  · exact I.bo b z
  · obtain ⟨_, _, _, vs, h, _⟩ := I.own i ds e
    rw [z, h]; exact fun q => nomatch q
theorem Rp.step {v : V} {d : D} {B : Addr → Prop} (hB : ∀ b, B0 k b → B b) (p : Fr0 k H H') (r : Rp k H B v d) : Rp k H' B v d :=
  Rp.mono (fun b o n h => p b o (fun z => n (hB b z)) h) (fun _ _ z _ => z) d v r
theorem RpA.step {vs : List V} {ds : List D} {B : Addr → Prop} (hB : ∀ b, B0 k b → B b) (p : Fr0 k H H') (r : RpA k H B vs ds) : RpA k H' B vs ds :=
  RpA.mono (fun b o n h => p b o (fun z => n (hB b z)) h) (fun _ _ z _ => z) ds vs r
theorem Ist.hb (I : Ist k f ex E μ g σ H) (sm : Bool) : ∀ b, B0 k b → BE f sm E μ b := fun b z => .inl (I.b0 b z)
theorem Ist.step (I : Ist k f ex E μ g σ H) (p : PEd k g' H H') : Ist k f ex E μ g' σ H' where
  len := I.len
  val := fun i d e => let ⟨v, h1, h2⟩ := I.val i d e; ⟨v, h1, h2.step (I.hb true) p.fr⟩
  own := fun i ds e => let ⟨h1, h2, h3, vs, h4, h5⟩ := I.own i ds e; ⟨h1, h2, h3, vs, p.fr _ _ (fun z => h3 (I.b0 _ z)) h4, h5.step (I.hb true) p.fr⟩
  inj := I.inj
  exs := fun q hq => (I.exs q hq).step (I.hb true) p.fr
  ga := p.ga
  fr := I.fr.trans p.fr
  b0 := I.b0
  bo := fun b z => by
    by_cases hb : B0 k b
    · exact p.ga.has hb
    · cases e : H b with
      | none => exact absurd e (I.bo b z)
      | some o => rw [p.fr b o hb e]; exact fun q => nomatch q
end

/-! ### the judgements: what a piece comes to -/
abbrev M := En → G → Option (D × G)
abbrev MT := En → G → Option (Bool × G)
abbrev ML := En → G → Option (List D × G)
section
variable (k : Kx) (f : Fx) (sm : Bool)
def tE (m : M) : TE := fun σ H Q => ∃ ex E μ g d g', Ist k f ex E μ g σ H ∧ m E g = some (d, g') ∧ ∀ v H', PEd k g' H H' → Rp k H' (BE f sm E μ) v d → Q v H'
def tT (m : MT) : TT := fun σ H Q => ∃ ex E μ g b g', Ist k f ex E μ g σ H ∧ m E g = some (b, g') ∧ ∀ H', PEd k g' H H' → Q b H'
def tL (m : ML) : TA := fun σ H Q => ∃ ex E μ g ds g', Ist k f ex E μ g σ H ∧ m E g = some (ds, g') ∧ ∀ vs H', PEd k g' H H' → RpA k H' (BE f sm E μ) vs ds → Q vs H'
/-- a new list -/
def tN (m : ML) : TE := fun σ H Q => ∃ ex E μ g ds g', Ist k f ex E μ g σ H ∧ m E g = some (ds, g') ∧ ∀ p vs H', PEd k g' H H' → H' p = none → RpA k H' (BE f sm E μ) vs ds → Q (.ref p) (upd H' p (.lst vs))
end
section
variable {k : Kx} {f : Fx} {X : Cx}
theorem pe_of {e : Expr} {t t' : TE} (h : PE X e t) (w : ∀ σ H Q, t' σ H Q → t σ H Q) : PE X e t' := ⟨fun pins s σ H Q I q => h.run pins s σ H Q I (w σ H Q q)⟩
theorem pt_of {e : Expr} {t t' : TT} (h : PT X e t) (w : ∀ σ H Q, t' σ H Q → t σ H Q) : PT X e t' := ⟨fun pins s σ H Q I q => h.run pins s σ H Q I (w σ H Q q)⟩
theorem pw_of {e : Expr} {t t' : TT} (h : PW X e t) (w : ∀ σ H Q, t' σ H Q → t σ H Q) : PW X e t' := ⟨fun wh pins s σ H Q I q => h.run wh pins s σ H Q I (w σ H Q q)⟩
theorem pa_of {es : List Expr} {t t' : TA} (h : PA X es t) (w : ∀ σ H Q, t' σ H Q → t σ H Q) : PA X es t' := ⟨fun pos pins s σ H Q I q => h.run pos pins s σ H Q I (w σ H Q q)⟩
theorem ps_of {st : Stmt} {t t' : TS} (h : PS X st t) (w : ∀ D σ H, t' D σ H → t D σ H) : PS X st t' := ⟨fun pins s σ H D I q => h.run pins s σ H D I (w D σ H q)⟩
theorem pss_of {st : List Stmt} {t t' : TS} (h : PSs X st t) (w : ∀ D σ H, t' D σ H → t D σ H) : PSs X st t' := ⟨fun pins s σ H D I q => h.run pins s σ H D I (w D σ H q)⟩
end

/-! ### names, constants -/
def eK (d : D) : M := fun _ g => some (d, g)
def eV (sm : Bool) (i : Nat) : M := fun E g => match E[i]? with
  | some (Sl.val d) => some (d, g)
  | some (Sl.own ds) => if sm = true then none else some (.list ds, g)
  | _ => none
section
variable {k : Kx} {f : Fx} {sm : Bool} {X : Cx} {pos : Pos} {j : Nat}
theorem de_int {i : Int} : PE X (.Constant (.int i) j pos) (tE k f sm (eK (.int i))) := pe_of pe_int fun σ H Q ⟨ex, E, μ, g, d, g', I, e, q⟩ => by
  cases e; exact q _ H (.same (.refl H) I.ga) (.int i)
theorem de_bl {b : Bool} : PE X (.Constant (.bool b) j pos) (tE k f sm (eK (.bool b))) := pe_of pe_bl fun σ H Q ⟨ex, E, μ, g, d, g', I, e, q⟩ => by
  cases e; exact q _ H (.same (.refl H) I.ga) (.bl b)
theorem de_non : PE X (.Constant .none j pos) (tE k f sm (eK .none)) := pe_of pe_non fun σ H Q ⟨ex, E, μ, g, d, g', I, e, q⟩ => by
  cases e; exact q _ H (.same (.refl H) I.ga) .non
theorem de_str {x : Str} : PE X (.Constant (.str x) j pos) (tE k f sm (eK (.str x))) := pe_of pe_str fun σ H Q ⟨ex, E, μ, g, d, g', I, e, q⟩ => by
  cases e; exact q _ H (.same (.refl H) I.ga) (.str x)
theorem de_var (i : Nat) {x : Str} (hN : X.N[i]? = some x := by rfl) (hv : Vis X.env.scope x := by first | exact Or.inl rfl | exact Or.inr (Or.inl rfl) | exact Or.inr (Or.inr rfl)) (hd : (x == ("__debug__" : Str)) = false := by decide)
    (hcd : (x == ("__classdict__" : Str)) = false := by decide) : PE X (.Name x pos) (tE k f sm (eV sm i)) := pe_of (pv i hN hv hd hcd) fun σ H Q ⟨ex, E, μ, g, d, g', I, e, q⟩ => by
  unfold eV at e
  split at e
  · rename_i d0 h0
    cases e
    obtain ⟨v, h1, h2⟩ := I.val i _ h0
    exact ⟨v, h1, q v H (.same (.refl H) I.ga) (Rp.mono (fun _ _ _ h => h) (fun b _ n _ z => n z.weak) _ _ h2)⟩
  · rename_i ds h0
    split at e
    · cases e
    · rename_i hs
      cases e
      obtain ⟨h1, _, h3, vs, h4, h5⟩ := I.own i ds h0
      have hsm : sm = false := by cases sm <;> simp_all
      subst hsm
      have nb : ¬ BE f false E μ (μ i) := fun z => by
        rcases z with z | ⟨z, _⟩
        · exact h3 z
        · cases z
      exact ⟨_, h1, q _ H (.same (.refl H) I.ga) (.lst nb h4 (RpA.mono (fun _ _ _ h => h) (fun b _ n _ z => n z.weak) _ _ h5))⟩
  · cases e
/-- a module's constant -/
theorem de_glob {x : Str} {v : V} {u : Value} {d : D} (hg : Gl X x) (hm : X.mg x = some u) (r : RelV v u) (hd : ∀ H B, Rp k H B v d) (hdb : (x == ("__debug__" : Str)) = false := by decide) : PE X (.Name x pos) (tE k f sm (eK d)) :=
  pe_of (pe_glob hg hm r hdb) fun σ H Q ⟨ex, E, μ, g, d', g', I, e, q⟩ => by
    cases e; exact q _ H (.same (.refl H) I.ga) (hd H _)
end

/-! ### argument lists -/
def lNil : ML := fun _ g => some ([], g)
def lCons (a : M) (r : ML) : ML := fun E g => match a E g with
  | none => none
  | some (d, g1) => match r E g1 with
    | none => none
    | some (ds, g2) => some (d :: ds, g2)
section
variable {k : Kx} {f : Fx} {sm : Bool} {X : Cx} {pos : Pos} {e : Expr} {es : List Expr} {m : M} {ml : ML}
theorem dl_nil : PA X [] (tL k f sm lNil) := pa_of pa_nil fun σ H Q ⟨ex, E, μ, g, ds, g', I, e, q⟩ => by
  cases e; exact q [] H (.same (.refl H) I.ga) .nil
theorem dl_cons (ha : PE X e (tE k f sm m)) (hr : PA X es (tL k f sm ml)) (hs : starEach (e :: es) X.env = (false, eval e X.env) :: starEach es X.env := by rfl) : PA X (e :: es) (tL k f sm (lCons m ml)) :=
  pa_of (pa_cons ha hr hs) fun σ H Q ⟨ex, E, μ, g, ds, g', I, e, q⟩ => by
    unfold lCons at e
    split at e
    · cases e
    · rename_i d g1 h1
      split at e
      · cases e
      · rename_i ds2 g2 h2
        cases e
        refine ⟨ex, E, μ, g, d, g1, I, h1, fun v H1 p1 r1 => ?_⟩
        refine ⟨ex, E, μ, g1, ds2, g', I.step p1, h2, fun vs H2 p2 r2 => ?_⟩
        exact q _ H2 (p1.trans p2) (.cons (r1.step (I.hb sm) p2.fr) r2)
end

/-! ### operators by values -/
/-- what a value-level reading comes to, over data -/
def OpD (k : Kx) (r : R2) (h : D → D → Option D) : Prop := ∀ (B : Addr → Prop) (H : Hp) (x y : V) (d e z : D) (Q : VK), (∀ b, B b → H b ≠ none) → Rp k H B x d → Rp k H B y e → h d e = some z → (∀ v H', Same H H' → Rp k H' B v z → Q v H') → r x y H Q
def UnD (k : Kx) (r : V → Hp → VK → Prop) (h : D → Option D) : Prop := ∀ (B : Addr → Prop) (H : Hp) (x : V) (d z : D) (Q : VK), (∀ b, B b → H b ≠ none) → Rp k H B x d → h d = some z → (∀ v H', Same H H' → Rp k H' B v z → Q v H') → r x H Q
def CaD (k : Kx) (r : List V → Hp → VK → Prop) (h : List D → Option D) : Prop := ∀ (B : Addr → Prop) (H : Hp) (xs : List V) (ds : List D) (z : D) (Q : VK), (∀ b, B b → H b ≠ none) → RpA k H B xs ds → h ds = some z → (∀ v H', Same H H' → Rp k H' B v z → Q v H') → r xs H Q
def e2 (h : D → D → Option D) (a b : M) : M := fun E g => match a E g with
  | none => none
  | some (x, g1) => match b E g1 with
    | none => none
    | some (y, g2) => match h x y with
      | none => none
      | some z => some (z, g2)
def e1 (h : D → Option D) (a : M) : M := fun E g => match a E g with
  | none => none
  | some (x, g1) => match h x with
    | none => none
    | some z => some (z, g1)
def eF (h : List D → Option D) (a : ML) : M := fun E g => match a E g with
  | none => none
  | some (x, g1) => match h x with
    | none => none
    | some z => some (z, g1)
section
variable {k : Kx} {f : Fx} {sm : Bool} {X : Cx} {pos : Pos} {a b : Expr} {ma mb : M} {h : D → D → Option D}
theorem t_op {r : R2} (hr : OpD k r h) {σ : L2.St} {H : Hp} {Q : VK} (w : tE k f sm (e2 h ma mb) σ H Q) : tOp r (tE k f sm ma) (tE k f sm mb) σ H Q := by
  obtain ⟨ex, E, μ, g, d, g', I, e, q⟩ := w
  unfold e2 at e
  split at e
  · cases e
  · rename_i x g1 h1
    split at e
    · cases e
    · rename_i y g2 h2
      split at e
      · cases e
      · rename_i z h3
        cases e
        refine ⟨ex, E, μ, g, x, g1, I, h1, fun v H1 p1 r1 => ?_⟩
        refine ⟨ex, E, μ, g1, y, g', I.step p1, h2, fun u H2 p2 r2 => ?_⟩
        have I2 := (I.step p1).step p2
        refine hr (BE f sm E μ) H2 v u x y d Q (fun b z => I2.be sm z) (r1.step (I.hb sm) p2.fr) r2 h3 fun w H3 s3 r3 => ?_
        exact q w H3 ((p1.trans p2).trans (.same s3 I2.ga)) r3
theorem de_op {op : Operator} {r : R2} (ho : OpR X (binaryOp op) r) (hr : OpD k r h) (ha : PE X a (tE k f sm ma)) (hb : PE X b (tE k f sm mb)) : PE X (.BinOp a op b pos) (tE k f sm (e2 h ma mb)) :=
  pe_of (pe_op ho ha hb) fun _ _ _ w => t_op hr w
theorem de_cmp {op : CmpOp} {r : R2} (ho : OpR X (compareOp op) r) (hr : OpD k r h) (ha : PE X a (tE k f sm ma)) (hb : PE X b (tE k f sm mb)) (hm : behindInMarks op b = false) : PE X (.Compare a [op] [b] pos) (tE k f sm (e2 h ma mb)) :=
  pe_of (pe_cmpR ho ha hb hm) fun _ _ _ w => t_op hr w
theorem de_ix {r : R2} (ho : IxR X r) (hr : OpD k r h) (ha : PE X a (tE k f sm ma)) (hb : PE X b (tE k f sm mb)) (hs : PlainIx b := by exact fun _ _ => rfl) : PE X (.Subscript a b pos) (tE k f sm (e2 h ma mb)) :=
  pe_of (pe_ix ho ha hb hs) fun _ _ _ w => t_op hr w
theorem de_un {op : UnaryOp} {r : V → Hp → VK → Prop} {h : D → Option D} (ho : UnR X (unaryOp op) r) (hr : UnD k r h) (ha : PE X a (tE k f sm ma)) : PE X (.UnaryOp op a pos) (tE k f sm (e1 h ma)) :=
  pe_of (pe_un ho ha) fun σ H Q ⟨ex, E, μ, g, d, g', I, e, q⟩ => by
    unfold e1 at e
    split at e
    · cases e
    · rename_i x g1 h1
      split at e
      · cases e
      · rename_i z h3
        cases e
        refine ⟨ex, E, μ, g, x, g', I, h1, fun v H1 p1 r1 => ?_⟩
        have I2 := I.step p1
        refine hr (BE f sm E μ) H1 v x d Q (fun b z => I2.be sm z) r1 h3 fun w H3 s3 r3 => ?_
        exact q w H3 (p1.trans (.same s3 I2.ga)) r3
theorem t_cb {r : List V → Hp → VK → Prop} {h : List D → Option D} {ml : ML} (hr : CaD k r h) {σ : L2.St} {H : Hp} {Q : VK} (w : tE k f sm (eF h ml) σ H Q) : tCB r (tL k f sm ml) σ H Q := by
  obtain ⟨ex, E, μ, g, d, g', I, e, q⟩ := w
  unfold eF at e
  split at e
  · cases e
  · rename_i x g1 h1
    split at e
    · cases e
    · rename_i z h3
      cases e
      refine ⟨ex, E, μ, g, x, g', I, h1, fun v H1 p1 r1 => ?_⟩
      have I2 := I.step p1
      refine hr (BE f sm E μ) H1 v x d Q (fun b z => I2.be sm z) r1 h3 fun w H3 s3 r3 => ?_
      exact q w H3 (p1.trans (.same s3 I2.ga)) r3
theorem de_callB {x : Str} {p : Pos} {e : Expr} {es : List Expr} {id : String} {r : List V → Hp → VK → Prop} {h : List D → Option D} {ml : ML} (hc : CallR X (.builtin id) r) (hr : CaD k r h) (hg : Gl X x) (hm : X.mg x = none) (hv : bootBuiltins x = some (.builtin id)) (ha : PA X (e :: es) (tL k f sm ml)) (hn : x ≠ "__name__" := by decide) (hdb : (x == ("__debug__" : Str)) = false := by decide)
    (he : starEach (e :: es) X.env = (false, eval e X.env) :: starEach es X.env := by rfl) (hpl : (backTo pos (starEach es X.env)).any (·.1) = false := by rfl) : PE X (.Call (.Name x p) (e :: es) [] pos) (tE k f sm (eF h ml)) :=
  pe_of (pe_callB hc hg hm hv ha hn hdb he hpl) fun _ _ _ w => t_cb hr w
theorem de_callTy {x : Str} {p : Pos} {e : Expr} {es : List Expr} {T : String} {r : List V → Hp → VK → Prop} {h : List D → Option D} {ml : ML} (hc : CallR X (.type T) r) (hr : CaD k r h) (hg : Gl X x) (hm : X.mg x = none) (hv : bootBuiltins x = some (.type T)) (ha : PA X (e :: es) (tL k f sm ml)) (hn : x ≠ "__name__" := by decide) (hdb : (x == ("__debug__" : Str)) = false := by decide)
    (he : starEach (e :: es) X.env = (false, eval e X.env) :: starEach es X.env := by rfl) (hpl : (backTo pos (starEach es X.env)).any (·.1) = false := by rfl) : PE X (.Call (.Name x p) (e :: es) [] pos) (tE k f sm (eF h ml)) :=
  pe_of (pe_callTy hc hg hm hv ha hn hdb he hpl) fun _ _ _ w => t_cb hr w
/-- a function of the library that is a module's name -/
theorem de_callFun {x : Str} {p : Pos} {e : Expr} {es : List Expr} {id : String} {r : List V → Hp → VK → Prop} {h : List D → Option D} {ml : ML} (hc : CallR X (.builtin id) r) (hr : CaD k r h) (hg : Gl X x) (hm : X.mg x = some (.builtin id)) (ha : PA X (e :: es) (tL k f sm ml)) (hdb : (x == ("__debug__" : Str)) = false := by decide)
    (he : starEach (e :: es) X.env = (false, eval e X.env) :: starEach es X.env := by rfl) (hpl : (backTo pos (starEach es X.env)).any (·.1) = false := by rfl) : PE X (.Call (.Name x p) (e :: es) [] pos) (tE k f sm (eF h ml)) :=
  pe_of (pe_callBfun hc hg hm ha hdb he hpl) fun _ _ _ w => t_cb hr w
end
end DL

set_option Elab.async false
set_option linter.all false
set_option maxRecDepth 100000
set_option maxHeartbeats 1000000
namespace DL
open PySem PySem.Spec PyProof.Rows L2
/-! ### operations over data -/
theorem Same.upd {H : Hp} {p : Addr} {o : HO} (h : H p = none) : Same H (upd H p o) := fun b x e => by
  rw [upd_ne (ne_of_none e h)]
  exact e
section
variable {k : Kx} {H : Hp} {B : Addr → Prop}
theorem Rp.same {H' : Hp} {v : V} {d : D} (s : Same H H') (r : Rp k H B v d) : Rp k H' B v d := Rp.mono (fun b o _ h => s b o h) (fun _ _ z _ => z) d v r
theorem RpA.same {H' : Hp} {v : List V} {d : List D} (s : Same H H') (r : RpA k H B v d) : RpA k H' B v d := RpA.mono (fun b o _ h => s b o h) (fun _ _ z _ => z) d v r
theorem nB (hB : ∀ b, B b → H b ≠ none) {p : Addr} (hp : H p = none) : ¬ B p := fun z => hB p z hp
/-- a new tuple, a new list -/
theorem Rp.newT {xs : List V} {ds : List D} {p : Addr} (hB : ∀ b, B b → H b ≠ none) (hp : H p = none) (r : RpA k H B xs ds) : Rp k (upd H p (.tup xs)) B (.ref p) (.tuple ds) :=
  .tup (nB hB hp) upd_same (r.same (Same.upd hp))
theorem Rp.newL {xs : List V} {ds : List D} {p : Addr} (hB : ∀ b, B b → H b ≠ none) (hp : H p = none) (r : RpA k H B xs ds) : Rp k (upd H p (.lst xs)) B (.ref p) (.list ds) :=
  .lst (nB hB hp) upd_same (r.same (Same.upd hp))
mutual
theorem Rp.dp : ∀ (d : D) (v : V), d.canLay0 = true → Rp k H B v d → Dp k.K H v d
  | .none, _, _, h => by cases h; exact .non
  | .bool _, _, _, h => by cases h; exact .bl _
  | .int _, _, _, h => by cases h; exact .int _
  | .str _, _, _, h => by cases h; exact .str _
  | .list ds, _, c, h => by
    cases h with
    | lst nb hr ha => exact .lst (.inl (.inl hr)) (RpA.dp ds _ (by simpa [PyData.canLay0] using c) ha)
  | .tuple ds, _, c, h => by
    cases h with
    | tup nb hr ha => exact .tup (.inl (.inl hr)) (RpA.dp ds _ (by simpa [PyData.canLay0] using c) ha)
  | .dict _, _, c, _ => by simp [PyData.canLay0] at c
theorem RpA.dp : ∀ (ds : List D) (vs : List V), PyData.canLayAll0 ds = true → RpA k H B vs ds → DpAll k.K H vs ds
  | [], _, _, h => by cases h; exact .nil
  | d :: ds, _, c, h => by
    have c' : d.canLay0 = true ∧ PyData.canLayAll0 ds = true := by simpa [PyData.canLayAll0] using c
    cases h with
    | cons h1 h2 => exact .cons (Rp.dp d _ c'.1 h1) (RpA.dp ds _ c'.2 h2)
end
end

/-- == over data -/
def fEq : D → D → Option D := fun d e => if SeqAt.shaped d && SeqAt.shaped e then some (.bool (PyData.eqv d e)) else none
def fNe : D → D → Option D := fun d e => if SeqAt.shaped d && SeqAt.shaped e then some (.bool (!PyData.eqv d e)) else none
theorem od_eq {k : Kx} : OpD k (rEqD k.K) fEq := by
  intro B H x y d e z Q hB rx ry h q
  unfold fEq at h
  split at h
  · rename_i hs
    obtain ⟨h1, h2⟩ := Bool.and_eq_true_iff.mp hs
    cases h
    exact ⟨d, e, Rp.dp d x (SeqAt.canLay_of_shaped h1) rx, Rp.dp e y (SeqAt.canLay_of_shaped h2) ry, h1, h2, q _ H (.refl H) (.bl _)⟩
  · cases h
theorem od_ne {k : Kx} : OpD k (rNeD k.K) fNe := by
  intro B H x y d e z Q hB rx ry h q
  unfold fNe at h
  split at h
  · rename_i hs
    obtain ⟨h1, h2⟩ := Bool.and_eq_true_iff.mp hs
    cases h
    exact ⟨d, e, Rp.dp d x (SeqAt.canLay_of_shaped h1) rx, Rp.dp e y (SeqAt.canLay_of_shaped h2) ry, h1, h2, q _ H (.refl H) (.bl _)⟩
  · cases h
/-- a value and a list, a tuple: in -/
def fIn (neg : Bool) : D → D → Option D := fun d e => match e with
  | .list ds => if SeqAt.shaped d && SeqAt.shaped (.list ds) then some (.bool (if neg then !ds.any fun z => PyData.eqv z d else ds.any fun z => PyData.eqv z d)) else none
  | _ => none
theorem od_in {k : Kx} : OpD k (rInD k.K) (fIn false) := by
  intro B H x y d e z Q hB rx ry h q
  unfold fIn at h
  split at h
  · rename_i ds
    split at h
    · rename_i hs
      obtain ⟨h1, h2⟩ := Bool.and_eq_true_iff.mp hs
      cases h
      exact ⟨d, ds, Rp.dp d x (SeqAt.canLay_of_shaped h1) rx, Rp.dp _ y (SeqAt.canLay_of_shaped h2) ry, h1, h2, q _ H (.refl H) (.bl _)⟩
    · cases h
  · cases h
theorem od_notIn {k : Kx} : OpD k (rNotInD k.K) (fIn true) := by
  intro B H x y d e z Q hB rx ry h q
  unfold fIn at h
  split at h
  · rename_i ds
    split at h
    · rename_i hs
      obtain ⟨h1, h2⟩ := Bool.and_eq_true_iff.mp hs
      cases h
      exact ⟨d, ds, Rp.dp d x (SeqAt.canLay_of_shaped h1) rx, Rp.dp _ y (SeqAt.canLay_of_shaped h2) ry, h1, h2, q _ H (.refl H) (.bl _)⟩
    · cases h
  · cases h

/-! ints -/
def fI (h : Int → Int → D) : D → D → Option D
  | .int i, .int j => some (h i j)
  | _, _ => none
def fIc (c : Int → Int → Bool) (h : Int → Int → D) : D → D → Option D
  | .int i, .int j => if c i j then some (h i j) else none
  | _, _ => none
theorem od_I0 {k : Kx} {h : Int → Int → Int} : OpD k (rI0 fun i j => .int (h i j)) (fI fun i j => .int (h i j)) := by
  intro B H x y d e z Q hB rx ry hh q
  unfold fI at hh
  split at hh
  · rename_i i j
    cases hh; cases rx; cases ry
    exact ⟨i, j, rfl, rfl, q _ H (.refl H) (.int _)⟩
  · cases hh
theorem od_IB {k : Kx} {h : Int → Int → Bool} : OpD k (rI0 fun i j => .bl (h i j)) (fI fun i j => .bool (h i j)) := by
  intro B H x y d e z Q hB rx ry hh q
  unfold fI at hh
  split at hh
  · rename_i i j
    cases hh; cases rx; cases ry
    exact ⟨i, j, rfl, rfl, q _ H (.refl H) (.bl _)⟩
  · cases hh
theorem od_Ic {k : Kx} {C : Int → Int → Prop} {c : Int → Int → Bool} {h : Int → Int → Int} (hc : ∀ i j, c i j = true → C i j) : OpD k (rI C fun i j => .int (h i j)) (fIc c fun i j => .int (h i j)) := by
  intro B H x y d e z Q hB rx ry hh q
  unfold fIc at hh
  split at hh
  · rename_i i j
    split at hh
    · rename_i hcc
      cases hh; cases rx; cases ry
      exact ⟨i, j, rfl, rfl, hc i j hcc, q _ H (.refl H) (.int _)⟩
    · cases hh
  · cases hh
def cMul (i j : Int) : Bool := decide (i.natAbs < 2 ^ 64) || decide (j.natAbs < 2 ^ 64) || decide (i.natAbs.log2 + j.natAbs.log2 < 1000000)
def CMulA (i j : Int) : Prop := CMul i j ∨ CMulW i j
theorem op_mulA {X : Cx} : OpR X (binaryOp .Mult) (rI CMulA fun i j => .int (i * j)) := opI fun _ _ _ _ _ _ _ hc q => mul_int q (hc.elim CMul.ok CMulW.ok)
def fMul : D → D → Option D := fIc cMul fun i j => .int (i * j)
theorem od_mul {k : Kx} : OpD k (rI CMulA fun i j => .int (i * j)) fMul := od_Ic fun i j h => by
  unfold cMul at h
  simp only [Bool.or_eq_true, decide_eq_true_eq] at h
  rcases h with (h | h) | h
  · exact .inl (.inl (by omega))
  · exact .inl (.inr (by omega))
  · exact .inr h
def cDiv (_ j : Int) : Bool := decide (j ≠ 0) && decide (j.natAbs.log2 < 9000)
def CDivZ (_ j : Int) : Prop := j ≠ 0 ∧ j.natAbs.log2 < 9000
theorem op_fdivZ {X : Cx} : OpR X (binaryOp .FloorDiv) (rI CDivZ fun i j => .int (i.fdiv j)) := opI fun i j _ _ _ _ _ hc q => floordiv_int hc.1 q (.inl (PyProof.noPylong_of_log2 hc.2))
def fDiv : D → D → Option D := fIc cDiv fun i j => .int (i.fdiv j)
theorem od_div {k : Kx} : OpD k (rI CDivZ fun i j => .int (i.fdiv j)) fDiv := od_Ic fun i j h => by
  unfold cDiv at h
  simp only [Bool.and_eq_true, decide_eq_true_eq] at h
  exact ⟨h.1, h.2⟩
def fMod : D → D → Option D := fIc (fun _ j => decide (0 < j)) fun i j => .int (i % j)
theorem od_mod {k : Kx} : OpD k (rI (fun _ j => 0 < j) fun i j => .int (i % j)) fMod := od_Ic fun i j h => of_decide_eq_true h
def fPow : D → D → Option D := fIc (fun i j => decide (0 ≤ j) && decide (j ≤ 1000000) && decide (i.natAbs < 2 ^ 64)) fun i j => .int (i ^ j.toNat)
theorem od_pow {k : Kx} : OpD k (rI CPow fun i j => .int (i ^ j.toNat)) fPow := od_Ic fun i j h => by
  simp only [Bool.and_eq_true, decide_eq_true_eq] at h
  exact ⟨h.1.1, h.1.2, h.2⟩
def fSub : D → D → Option D := fI fun i j => .int (i - j)
theorem od_sub {k : Kx} : OpD k (rI0 fun i j => .int (i - j)) fSub := od_I0
def fLt : D → D → Option D := fI fun i j => .bool (decide (i < j))
def fLe : D → D → Option D := fI fun i j => .bool (decide (i ≤ j))
def fGt : D → D → Option D := fI fun i j => .bool (decide (j < i))
def fGe : D → D → Option D := fI fun i j => .bool (decide (j ≤ i))
theorem od_lt {k : Kx} : OpD k (rI0 fun i j => .bl (decide (i < j))) fLt := od_IB
theorem od_le {k : Kx} : OpD k (rI0 fun i j => .bl (decide (i ≤ j))) fLe := od_IB
theorem od_gt {k : Kx} : OpD k (rI0 fun i j => .bl (decide (j < i))) fGt := od_IB
theorem od_ge {k : Kx} : OpD k (rI0 fun i j => .bl (decide (j ≤ i))) fGe := od_IB
def fNeg : D → Option D
  | .int i => some (.int (-i))
  | _ => none
theorem ud_neg {k : Kx} : UnD k (rU fun i => .int (-i)) fNeg := by
  intro B H x d z Q hB rx hh q
  unfold fNeg at hh
  split at hh
  · rename_i i
    cases hh; cases rx
    exact ⟨i, rfl, q _ H (.refl H) (.int _)⟩
  · cases hh
theorem OpD.or {k : Kx} {r r' : R2} {h h' : D → D → Option D} (a : OpD k r h) (b : OpD k r' h') : OpD k (fun x y H Q => r x y H Q ∨ r' x y H Q) (fun d e => (h d e).orElse fun _ => h' d e) := by
  intro B H x y d e z Q hB rx ry hh q
  have hh : (h d e).orElse (fun _ => h' d e) = some z := hh
  cases e1 : h d e with
  | some w =>
    rw [e1] at hh
    cases hh
    exact .inl (a B H x y d e z Q hB rx ry e1 q)
  | none =>
    rw [e1] at hh
    exact .inr (b B H x y d e z Q hB rx ry hh q)

/-! texts, tuples, lists put together -/
def fAddS : D → D → Option D
  | .str x, .str y => if x.length + y.length ≤ sizeLine then some (.str (x ++ y)) else none
  | _, _ => none
theorem od_addS {k : Kx} : OpD k (fun x y H Q => ∃ i j, x = .str i ∧ y = .str j ∧ i.length + j.length ≤ sizeLine ∧ Q (.str (i ++ j)) H) fAddS := by
  intro B H x y d e z Q hB rx ry hh q
  unfold fAddS at hh
  split at hh
  · rename_i i j
    split at hh
    · rename_i hl
      cases hh; cases rx; cases ry
      exact ⟨i, j, rfl, rfl, hl, q _ H (.refl H) (.str _)⟩
    · cases hh
  · cases hh
def fAddT : D → D → Option D
  | .tuple x, .tuple y => if x.length + y.length ≤ sizeLine then some (.tuple (x ++ y)) else none
  | _, _ => none
def fAddL : D → D → Option D
  | .list x, .list y => if x.length + y.length ≤ sizeLine then some (.list (x ++ y)) else none
  | _, _ => none
theorem od_addL {k : Kx} : OpD k rCat fAddL := by
  intro B H x y d e z Q hB rx ry hh q
  unfold fAddL at hh
  split at hh
  · rename_i i j
    split at hh
    · rename_i hl
      cases hh
      cases rx with
      | lst n1 h1 r1 =>
        cases ry with
        | lst n2 h2 r2 =>
          refine ⟨_, _, _, _, rfl, rfl, h1, h2, by rw [r1.length, r2.length]; exact hl, fun p hp => ?_⟩
          exact q _ _ (Same.upd hp) (.newL hB hp (r1.append r2))
    · cases hh
  · cases hh
theorem od_addT {k : Kx} : OpD k (rCatA k.K) fAddT := by
  intro B H x y d e z Q hB rx ry hh q
  unfold fAddT at hh
  split at hh
  · rename_i i j
    split at hh
    · rename_i hl
      cases hh
      cases rx with
      | tup n1 h1 r1 =>
        cases ry with
        | tup n2 h2 r2 =>
          have rr := r1.append r2
          refine ⟨_, _, _, _, rfl, rfl, .of h1, .of h2, by rw [r1.length, r2.length]; exact hl, ?_⟩
          refine ⟨fun e => ?_, fun _ e => ?_, fun _ _ p hp => q _ _ (Same.upd hp) (.newT hB hp rr)⟩
          · subst e
            cases r1
            exact q _ H (.refl H) (.tup n2 h2 r2)
          · subst e
            cases r2
            rw [List.append_nil] at q
            exact q _ H (.refl H) (.tup n1 h1 r1)
    · cases hh
  · cases hh

def fAddI : D → D → Option D := fI fun i j => .int (i + j)
theorem od_addI {k : Kx} : OpD k (rI0 fun i j => .int (i + j)) fAddI := od_I0
theorem op_addA {X : Cx} : OpR X (binaryOp .Add) (fun x y H Q => rI0 (fun i j => .int (i + j)) x y H Q ∨ (∃ i j, x = .str i ∧ y = .str j ∧ i.length + j.length ≤ sizeLine ∧ Q (.str (i ++ j)) H) ∨ rCatA X.K x y H Q ∨ rCat x y H Q) :=
  op_add.or (op_add_str.or (op_catA.or op_cat))
def fAdd : D → D → Option D
  | .int i, .int j => some (.int (i + j))
  | .str x, .str y => if x.length + y.length ≤ sizeLine then some (.str (x ++ y)) else none
  | .tuple x, .tuple y => if x.length + y.length ≤ sizeLine then some (.tuple (x ++ y)) else none
  | .list x, .list y => if x.length + y.length ≤ sizeLine then some (.list (x ++ y)) else none
  | _, _ => none
theorem od_add {k : Kx} : OpD k (fun x y H Q => rI0 (fun i j => .int (i + j)) x y H Q ∨ (∃ i j, x = .str i ∧ y = .str j ∧ i.length + j.length ≤ sizeLine ∧ Q (.str (i ++ j)) H) ∨ rCatA k.K x y H Q ∨ rCat x y H Q) fAdd := by
  intro B H x y d e z Q hB rx ry hh q
  unfold fAdd at hh
  split at hh
  · exact .inl (od_I0 (h := fun i j => i + j) B H x y _ _ z Q hB rx ry hh q)
  · exact .inr (.inl (od_addS B H x y _ _ z Q hB rx ry hh q))
  · exact .inr (.inr (.inl (od_addT B H x y _ _ z Q hB rx ry hh q)))
  · exact .inr (.inr (.inr (od_addL B H x y _ _ z Q hB rx ry hh q)))
  · cases hh

/-! items -/
def fIx : D → D → Option D
  | .list xs, .int i => atI xs i
  | .tuple xs, .int i => atI xs i
  | .str x, .int i => if x.length ≤ sizeLine then (atI x.cps.toList i).map fun c => .str ⟨#[c]⟩ else none
  | .dict [(.none, .list xs)], .int i => atI xs i
  | _, _ => none
theorem at_rp {k : Kx} {H : Hp} {B : Addr → Prop} {xs : List V} {ds : List D} {i : Int} {z : D} (r : RpA k H B xs ds) (h : atI ds i = some z) : ∃ v, atI xs i = some v ∧ Rp k H B v z := by
  unfold atI at h ⊢
  rw [r.length]
  cases e : ixN ds.length i with
  | none => rw [e] at h; cases h
  | some j =>
    rw [e] at h
    exact r.get h
theorem rpa_ints {k : Kx} {H : Hp} {B : Addr → Prop} : ∀ ns : List Int, RpA k H B (ns.map V.int) (ns.map PyData.int)
  | [] => .nil
  | n :: ns => .cons (.int n) (rpa_ints ns)
theorem od_ix {k : Kx} : OpD k (rIx k.K) fIx := by
  intro B H x y d e z Q hB rx ry hh q
  unfold fIx at hh
  split at hh
  · cases ry
    cases rx with
    | lst n1 h1 r1 =>
      obtain ⟨v, hv, rv⟩ := at_rp r1 hh
      exact .inl ⟨_, _, _, v, rfl, rfl, .of h1, hv, q v H (.refl H) rv⟩
  · cases ry
    cases rx with
    | tup n1 h1 r1 =>
      obtain ⟨v, hv, rv⟩ := at_rp r1 hh
      exact .inr (.inl ⟨_, _, _, v, rfl, rfl, .of h1, hv, q v H (.refl H) rv⟩)
  · cases ry
    cases rx
    split at hh
    · rename_i hl
      rename_i x i
      cases e : atI x.cps.toList i with
      | none => rw [e] at hh; cases hh
      | some c =>
        rw [e] at hh
        cases hh
        exact .inr (.inr ⟨_, _, c, rfl, rfl, hl, e, q _ H (.refl H) (.str _)⟩)
    · cases hh
  · cases ry
    cases rx with
    | fz h1 =>
      obtain ⟨v, hv, rv⟩ := at_rp (rpa_ints (k := k) (H := H) (B := B) _) hh
      exact .inl ⟨_, _, _, v, rfl, rfl, h1.sq, hv, q v H (.refl H) rv⟩
  · cases hh

/-! calls of the library -/
def fLen : List D → Option D
  | [.list xs] => some (.int xs.length)
  | [.tuple xs] => some (.int xs.length)
  | [.str x] => if x.length ≤ sizeLine then some (.int x.length) else none
  | [.dict [(.none, .list xs)]] => some (.int xs.length)
  | _ => none
def rLen (K : PySem.W.Frag) : List V → Hp → VK → Prop := fun xs H Q => (∃ p ys, xs = [.ref p] ∧ (SqL K H p ys ∨ SqT K H p ys) ∧ Q (.int ys.length) H) ∨ ∃ z, xs = [.str z] ∧ z.length ≤ sizeLine ∧ Q (.int z.length) H
theorem call_lenA {X : Cx} : CallR X (.builtin "len") (rLen X.K) := call_len_seq.or call_len_str
theorem cd_len {k : Kx} : CaD k (rLen k.K) fLen := by
  intro B H xs ds z Q hB r hh q
  unfold fLen at hh
  split at hh
  · cases hh
    cases r with
    | cons r1 r2 =>
      cases r2
      cases r1 with
      | lst n1 h1 r1 => exact .inl ⟨_, _, rfl, .inl (.of h1), by rw [r1.length]; exact q _ H (.refl H) (.int _)⟩
  · cases hh
    cases r with
    | cons r1 r2 =>
      cases r2
      cases r1 with
      | tup n1 h1 r1 => exact .inl ⟨_, _, rfl, .inr (.of h1), by rw [r1.length]; exact q _ H (.refl H) (.int _)⟩
  · split at hh
    · rename_i hl
      cases hh
      cases r with
      | cons r1 r2 =>
        cases r2
        cases r1
        exact .inr ⟨_, rfl, hl, q _ H (.refl H) (.int _)⟩
    · cases hh
  · cases hh
    cases r with
    | cons r1 r2 =>
      cases r2
      cases r1 with
      | fz h1 => exact .inl ⟨_, _, rfl, .inl h1.sq, by rw [List.length_map] at q ⊢; exact q _ H (.refl H) (.int _)⟩
  · cases hh
def fAbs : List D → Option D
  | [.int i] => some (.int (if i < 0 then -i else i))
  | _ => none
theorem cd_abs {k : Kx} : CaD k (fun xs H Q => ∃ i, xs = [.int i] ∧ Q (.int (if i < 0 then -i else i)) H) fAbs := by
  intro B H xs ds z Q hB r hh q
  unfold fAbs at hh
  split at hh
  · cases hh
    cases r with
    | cons r1 r2 => cases r2; cases r1; exact ⟨_, rfl, q _ H (.refl H) (.int _)⟩
  · cases hh
def fInt1 : List D → Option D
  | [.int i] => some (.int i)
  | [.bool b] => some (.int (if b then 1 else 0))
  | _ => none
theorem cd_int1 {k : Kx} : CaD k (fun xs H Q => (∃ i, xs = [.int i] ∧ Q (.int i) H) ∨ ∃ k, xs = [.bl k] ∧ Q (.int (if k then 1 else 0)) H) fInt1 := by
  intro B H xs ds z Q hB r hh q
  unfold fInt1 at hh
  split at hh
  · cases hh
    cases r with
    | cons r1 r2 => cases r2; cases r1; exact .inl ⟨_, rfl, q _ H (.refl H) (.int _)⟩
  · cases hh
    cases r with
    | cons r1 r2 => cases r2; cases r1; exact .inr ⟨_, rfl, q _ H (.refl H) (.int _)⟩
  · cases hh
def fGcd : List D → Option D
  | [.int a, .int b] => some (.int (Nat.gcd a.natAbs b.natAbs : Nat))
  | _ => none
theorem cd_gcd {k : Kx} : CaD k rGcd fGcd := by
  intro B H xs ds z Q hB r hh q
  unfold fGcd at hh
  split at hh
  · cases hh
    cases r with
    | cons r1 r2 => cases r2 with
      | cons r3 r4 => cases r4; cases r1; cases r3; exact ⟨_, _, rfl, q _ H (.refl H) (.int _)⟩
  · cases hh
def fMax2 : List D → Option D
  | [.int i, .int j] => some (.int (if j > i then j else i))
  | _ => none
theorem cd_max2 {k : Kx} : CaD k (fun xs H Q => ∃ i j, xs = [.int i, .int j] ∧ Q (.int (if j > i then j else i)) H) fMax2 := by
  intro B H xs ds z Q hB r hh q
  unfold fMax2 at hh
  split at hh
  · cases hh
    cases r with
    | cons r1 r2 => cases r2 with
      | cons r3 r4 => cases r4; cases r1; cases r3; exact ⟨_, _, rfl, q _ H (.refl H) (.int _)⟩
  · cases hh
def fMin2 : List D → Option D
  | [.int i, .int j] => some (.int (if j < i then j else i))
  | _ => none
theorem cd_min2 {k : Kx} : CaD k (fun xs H Q => ∃ i j, xs = [.int i, .int j] ∧ Q (.int (if j < i then j else i)) H) fMin2 := by
  intro B H xs ds z Q hB r hh q
  unfold fMin2 at hh
  split at hh
  · cases hh
    cases r with
    | cons r1 r2 => cases r2 with
      | cons r3 r4 => cases r4; cases r1; cases r3; exact ⟨_, _, rfl, q _ H (.refl H) (.int _)⟩
  · cases hh
def fTuple : List D → Option D
  | [.list xs] => some (.tuple xs)
  | [.tuple xs] => some (.tuple xs)
  | _ => none
theorem cd_tuple {k : Kx} : CaD k (fun xs H Q => ∃ p ys, xs = [.ref p] ∧ ((SqL k.K H p ys ∧ ∀ l, H l = none → Q (.ref l) (upd H l (.tup ys))) ∨ (SqT k.K H p ys ∧ Q (.ref p) H))) fTuple := by
  intro B H xs ds z Q hB r hh q
  unfold fTuple at hh
  split at hh
  · cases hh
    cases r with
    | cons r1 r2 =>
      cases r2
      cases r1 with
      | lst n1 h1 r1 => exact ⟨_, _, rfl, .inl ⟨.of h1, fun l hl => q _ _ (Same.upd hl) (.newT hB hl r1)⟩⟩
  · cases hh
    cases r with
    | cons r1 r2 =>
      cases r2
      cases r1 with
      | tup n1 h1 r1 => exact ⟨_, _, rfl, .inr ⟨.of h1, q _ _ (.refl H) (.tup n1 h1 r1)⟩⟩
  · cases hh
def fList : List D → Option D
  | [.list xs] => some (.list xs)
  | [.tuple xs] => some (.list xs)
  | _ => none
theorem cd_list {k : Kx} : CaD k (fun xs H Q => ∃ p ys, xs = [.ref p] ∧ (SqL k.K H p ys ∨ SqT k.K H p ys) ∧ ∀ l, H l = none → Q (.ref l) (upd H l (.lst ys))) fList := by
  intro B H xs ds z Q hB r hh q
  unfold fList at hh
  split at hh
  · cases hh
    cases r with
    | cons r1 r2 =>
      cases r2
      cases r1 with
      | lst n1 h1 r1 => exact ⟨_, _, rfl, .inl (.of h1), fun l hl => q _ _ (Same.upd hl) (.newL hB hl r1)⟩
  · cases hh
    cases r with
    | cons r1 r2 =>
      cases r2
      cases r1 with
      | tup n1 h1 r1 => exact ⟨_, _, rfl, .inr (.of h1), fun l hl => q _ _ (Same.upd hl) (.newL hB hl r1)⟩
  · cases hh
/-- all(list of truths) -/
def bools : List D → Option (List Bool)
  | [] => some []
  | .bool b :: r => (bools r).map (b :: ·)
  | _ => none
theorem bools_vs {k : Kx} {H : Hp} {B : Addr → Prop} : ∀ {ds : List D} {xs : List V} {bs : List Bool}, RpA k H B xs ds → bools ds = some bs → xs = bs.map V.bl
  | [], _, bs, r, h => by cases r; cases h; rfl
  | .bool b :: ds, _, bs, r, h => by
    cases r with
    | cons r1 r2 =>
      cases r1
      simp only [bools, Option.map_eq_some_iff] at h
      obtain ⟨cs, h1, rfl⟩ := h
      rw [bools_vs r2 h1]
      rfl
  | .none :: _, _, _, _, h => by simp [bools] at h
  | .int _ :: _, _, _, _, h => by simp [bools] at h
  | .str _ :: _, _, _, _, h => by simp [bools] at h
  | .list _ :: _, _, _, _, h => by simp [bools] at h
  | .tuple _ :: _, _, _, _, h => by simp [bools] at h
  | .dict _ :: _, _, _, _, h => by simp [bools] at h
def fAll : List D → Option D
  | [.list ds] => (bools ds).map fun bs => .bool (bs.all id)
  | _ => none
theorem cd_all {k : Kx} : CaD k (rAll k.K) fAll := by
  intro B H xs ds z Q hB r hh q
  unfold fAll at hh
  split at hh
  · simp only [Option.map_eq_some_iff] at hh
    obtain ⟨bs, h1, rfl⟩ := hh
    cases r with
    | cons r1 r2 =>
      cases r2
      cases r1 with
      | lst n1 hl r1 =>
        have e := bools_vs r1 h1
        subst e
        exact ⟨_, bs, rfl, .of hl, q _ H (.refl H) (.bl _)⟩
  · cases hh
end DL

set_option Elab.async false
set_option linter.all false
set_option maxRecDepth 100000
set_option maxHeartbeats 1000000
namespace DL
open PySem PySem.Spec PyProof.Rows L2
/-! ### displays -/
def eTup (a : ML) : M := fun E g => match a E g with
  | none => none
  | some (ds, g1) => if ds.length ≤ sizeLine then some (.tuple ds, g1) else none
def nLst (a : ML) : ML := fun E g => match a E g with
  | none => none
  | some (ds, g1) => if ds.length ≤ sizeLine then some (ds, g1) else none
/-- a new list as a value -/
def eN (a : ML) : M := fun E g => match a E g with
  | none => none
  | some (ds, g1) => some (.list ds, g1)
section
variable {k : Kx} {f : Fx} {sm : Bool} {X : Cx} {pos : Pos} {e : Expr} {es : List Expr} {ml : ML}
theorem de_tup {j : Nat} (ha : PA X es (tL k f sm ml)) : PE X (.Tuple es j pos) (tE k f sm (eTup ml)) := pe_of (pe_tup ha) fun σ H Q ⟨ex, E, μ, g, d, g', I, e, q⟩ => by
  unfold eTup at e
  split at e
  · cases e
  · rename_i ds g1 h1
    split at e
    · rename_i hl
      cases e
      refine ⟨ex, E, μ, g, ds, g', I, h1, fun vs H1 p1 r1 => ⟨by rw [r1.length]; exact hl, fun p hp => ?_⟩⟩
      have I1 := I.step p1
      exact q _ _ (p1.trans (.same (Same.upd hp) I1.ga)) (.newT (fun b z => I1.be sm z) hp r1)
    · cases e
theorem dn_lst (ha : PA X es (tL k f sm ml)) : PE X (.List es pos) (tN k f sm (nLst ml)) := pe_of (pe_lst ha) fun σ H Q ⟨ex, E, μ, g, d, g', I, e, q⟩ => by
  unfold nLst at e
  split at e
  · cases e
  · rename_i ds g1 h1
    split at e
    · rename_i hl
      cases e
      exact ⟨ex, E, μ, g, _, g', I, h1, fun vs H1 p1 r1 => ⟨by rw [r1.length]; exact hl, fun p hp => q p vs H1 p1 hp r1⟩⟩
    · cases e
theorem de_n (h : PE X e (tN k f sm ml)) : PE X e (tE k f sm (eN ml)) := pe_of h fun σ H Q ⟨ex, E, μ, g, d, g', I, e, q⟩ => by
  unfold eN at e
  split at e
  · cases e
  · rename_i ds g1 h1
    cases e
    refine ⟨ex, E, μ, g, ds, g', I, h1, fun p vs H1 p1 hp r1 => ?_⟩
    have I1 := I.step p1
    exact q _ _ (p1.trans (.same (Same.upd hp) I1.ga)) (.newL (fun b z => I1.be sm z) hp r1)
end

/-! ### truth -/
def fTru : D → Option Bool
  | .none => some false
  | .bool b => some b
  | .int i => some (i != 0)
  | .str x => if x.length ≤ sizeLine then some ((x.length : Int) != 0) else none
  | .list xs => some !xs.isEmpty
  | .tuple xs => some !xs.isEmpty
  | _ => none
theorem isEmpty_rp {k : Kx} {H : Hp} {B : Addr → Prop} {xs : List V} {ds : List D} (r : RpA k H B xs ds) : (!ds.isEmpty) = !xs.isEmpty := by cases r <;> rfl
theorem tru_rp {k : Kx} {H : Hp} {B : Addr → Prop} {v : V} {d : D} {b : Bool} (r : Rp k H B v d) (h : fTru d = some b) : TruV k.K v H b := by
  unfold fTru at h
  split at h
  · cases h; cases r; rfl
  · cases h; cases r; rfl
  · cases h; cases r; rfl
  · split at h
    · rename_i hl
      cases h; cases r; exact ⟨hl, rfl⟩
    · cases h
  · cases h
    cases r with
    | lst n1 h1 r1 => exact .inl ⟨_, .of h1, isEmpty_rp r1⟩
  · cases h
    cases r with
    | tup n1 h1 r1 => exact .inr (.inl ⟨_, .of h1, isEmpty_rp r1⟩)
  · cases h
def mTru (m : M) : MT := fun E g => match m E g with
  | none => none
  | some (d, g1) => match fTru d with
    | none => none
    | some b => some (b, g1)
/-- of a comparison: a truth -/
def mB (m : M) : MT := fun E g => match m E g with
  | some (.bool b, g1) => some (b, g1)
  | _ => none
def mNot (m : MT) : MT := fun E g => match m E g with
  | none => none
  | some (b, g1) => some (!b, g1)
def mAnd (a b : MT) : MT := fun E g => match a E g with
  | none => none
  | some (true, g1) => b E g1
  | some (false, g1) => some (false, g1)
def mOr (a b : MT) : MT := fun E g => match a E g with
  | none => none
  | some (true, g1) => some (true, g1)
  | some (false, g1) => b E g1
def eAnd (a b : M) : M := fun E g => match a E g with
  | none => none
  | some (d, g1) => match fTru d with
    | none => none
    | some true => b E g1
    | some false => some (d, g1)
def eOr (a b : M) : M := fun E g => match a E g with
  | none => none
  | some (d, g1) => match fTru d with
    | none => none
    | some true => some (d, g1)
    | some false => b E g1
def eNot (a : M) : M := fun E g => match a E g with
  | none => none
  | some (d, g1) => match fTru d with
    | none => none
    | some b => some (.bool !b, g1)
def eIf (c : MT) (a b : M) : M := fun E g => match c E g with
  | none => none
  | some (true, g1) => a E g1
  | some (false, g1) => b E g1
section
variable {k : Kx} {f : Fx} {sm : Bool} {X : Cx} {pos : Pos} {a b c : Expr} {ma mb mc : M} {rest : List Expr} {ta tb : MT}
theorem dt_tru (hK : X.K = k.K) (ha : PE X a (tE k f sm ma)) (he : ∀ whole, isTrue a X.env whole = (do let v ← whole; standAt a.pos; holding [v] (truthy v)) := by intro _; rfl) : PT X a (tT k f (mTru ma)) :=
  pt_of (pt_truth ha he) fun σ H Q ⟨ex, E, μ, g, d, g', I, e, q⟩ => by
    unfold mTru at e
    split at e
    · cases e
    · rename_i d1 g1 h1
      split at e
      · cases e
      · rename_i b hb
        cases e
        exact ⟨ex, E, μ, g, d1, g', I, h1, fun v H1 p1 r1 => ⟨_, by rw [hK]; exact tru_rp r1 hb, q H1 p1⟩⟩
theorem t_b {t : TE} {m : M} (ht : ∀ σ H Q, tE k f sm m σ H Q → t σ H Q) (σ : L2.St) (H : Hp) (Q : Bool → Hp → Prop) (w : tT k f (mB m) σ H Q) : tTest t σ H Q := by
  obtain ⟨ex, E, μ, g, d, g', I, e, q⟩ := w
  unfold mB at e
  split at e
  · rename_i b1 g1 h1
    cases e
    refine ht _ _ _ ⟨ex, E, μ, g, _, g', I, h1, fun v H1 p1 r1 => ?_⟩
    cases r1
    exact ⟨_, rfl, q H1 p1⟩
  · cases e
theorem dt_cmp {op : CmpOp} {r : R2} {h : D → D → Option D} (ho : OpR X (compareOp op) r) (hr : OpD k r h) (ha : PE X a (tE k f sm ma)) (hb : PE X b (tE k f sm mb)) (hm : behindInMarks op b = false) : PT X (.Compare a [op] [b] pos) (tT k f (mB (e2 h ma mb))) :=
  pt_of (pt_cmpR ho ha hb hm) (t_b fun σ H Q w => t_op hr w)
theorem dt_not (ha : PT X a (tT k f ta)) : PT X (.UnaryOp .Not a pos) (tT k f (mNot ta)) := pt_of (pt_not ha) fun σ H Q ⟨ex, E, μ, g, d, g', I, e, q⟩ => by
  unfold mNot at e
  split at e
  · cases e
  · rename_i b1 g1 h1
    cases e
    exact ⟨ex, E, μ, g, _, g', I, h1, fun H1 p1 => q H1 p1⟩
theorem dw_and1 (ha : PT X a (tT k f ta)) : PW X (.BoolOp .And [a] pos) (tT k f ta) := pw_and1 ha
theorem dw_or1 (ha : PT X a (tT k f ta)) : PW X (.BoolOp .Or [a] pos) (tT k f ta) := pw_or1 ha
theorem dw_and (ha : PT X a (tT k f ta)) (hb : PW X (.BoolOp .And (b :: rest) pos) (tT k f tb)) : PW X (.BoolOp .And (a :: b :: rest) pos) (tT k f (mAnd ta tb)) := pw_of (pw_and ha hb) fun σ H Q ⟨ex, E, μ, g, d, g', I, e, q⟩ => by
  unfold mAnd at e
  split at e
  · cases e
  · rename_i g1 h1
    exact ⟨ex, E, μ, g, _, g1, I, h1, fun H1 p1 => (show tT k f tb σ H1 Q from ⟨ex, E, μ, g1, _, g', I.step p1, e, fun H2 p2 => q H2 (p1.trans p2)⟩)⟩
  · rename_i g1 h1
    cases e
    exact ⟨ex, E, μ, g, _, g', I, h1, fun H1 p1 => q H1 p1⟩
theorem dw_or (ha : PT X a (tT k f ta)) (hb : PW X (.BoolOp .Or (b :: rest) pos) (tT k f tb)) : PW X (.BoolOp .Or (a :: b :: rest) pos) (tT k f (mOr ta tb)) := pw_of (pw_or ha hb) fun σ H Q ⟨ex, E, μ, g, d, g', I, e, q⟩ => by
  unfold mOr at e
  split at e
  · cases e
  · rename_i g1 h1
    cases e
    exact ⟨ex, E, μ, g, _, g', I, h1, fun H1 p1 => q H1 p1⟩
  · rename_i g1 h1
    exact ⟨ex, E, μ, g, _, g1, I, h1, fun H1 p1 => (show tT k f tb σ H1 Q from ⟨ex, E, μ, g1, _, g', I.step p1, e, fun H2 p2 => q H2 (p1.trans p2)⟩)⟩
theorem de_and (hK : X.K = k.K) (ha : PE X a (tE k f sm ma)) (hb : PE X (.BoolOp .And (b :: rest) pos) (tE k f sm mb)) : PE X (.BoolOp .And (a :: b :: rest) pos) (tE k f sm (eAnd ma mb)) := pe_of (pe_andT ha hb) fun σ H Q ⟨ex, E, μ, g, d, g', I, e, q⟩ => by
  unfold eAnd at e
  split at e
  · cases e
  · rename_i d1 g1 h1
    split at e
    · cases e
    · rename_i hb
      refine ⟨ex, E, μ, g, d1, g1, I, h1, fun v H1 p1 r1 => ⟨true, by rw [hK]; exact tru_rp r1 hb, ?_⟩⟩
      rw [if_pos rfl]
      exact ⟨ex, E, μ, g1, _, g', I.step p1, e, fun v H2 p2 r2 => q v H2 (p1.trans p2) r2⟩
    · rename_i hb
      cases e
      refine ⟨ex, E, μ, g, _, g', I, h1, fun v H1 p1 r1 => ⟨false, by rw [hK]; exact tru_rp r1 hb, ?_⟩⟩
      rw [if_neg Bool.false_ne_true]
      exact q v H1 p1 r1
theorem de_or (hK : X.K = k.K) (ha : PE X a (tE k f sm ma)) (hb : PE X (.BoolOp .Or (b :: rest) pos) (tE k f sm mb)) : PE X (.BoolOp .Or (a :: b :: rest) pos) (tE k f sm (eOr ma mb)) := pe_of (pe_orT ha hb) fun σ H Q ⟨ex, E, μ, g, d, g', I, e, q⟩ => by
  unfold eOr at e
  split at e
  · cases e
  · rename_i d1 g1 h1
    split at e
    · cases e
    · rename_i hb
      cases e
      refine ⟨ex, E, μ, g, _, g', I, h1, fun v H1 p1 r1 => ⟨true, by rw [hK]; exact tru_rp r1 hb, ?_⟩⟩
      rw [if_pos rfl]
      exact q v H1 p1 r1
    · rename_i hb
      refine ⟨ex, E, μ, g, d1, g1, I, h1, fun v H1 p1 r1 => ⟨false, by rw [hK]; exact tru_rp r1 hb, ?_⟩⟩
      rw [if_neg Bool.false_ne_true]
      exact ⟨ex, E, μ, g1, _, g', I.step p1, e, fun v H2 p2 r2 => q v H2 (p1.trans p2) r2⟩
theorem de_one {op : BoolOp} (ha : PE X a (tE k f sm ma)) : PE X (.BoolOp op [a] pos) (tE k f sm ma) := pe_one ha
theorem de_not (hK : X.K = k.K) (ha : PE X a (tE k f sm ma)) : PE X (.UnaryOp .Not a pos) (tE k f sm (eNot ma)) := pe_of (pe_notT ha) fun σ H Q ⟨ex, E, μ, g, d, g', I, e, q⟩ => by
  unfold eNot at e
  split at e
  · cases e
  · rename_i d1 g1 h1
    split at e
    · cases e
    · rename_i b hb
      cases e
      exact ⟨ex, E, μ, g, d1, g', I, h1, fun v H1 p1 r1 => ⟨b, by rw [hK]; exact tru_rp r1 hb, q _ H1 p1 (.bl _)⟩⟩
theorem de_if {c : Expr} (hc : PT X c (tT k f ta)) (ha : PE X a (tE k f sm ma)) (hb : PE X b (tE k f sm mb)) : PE X (.IfExp c a b pos) (tE k f sm (eIf ta ma mb)) := pe_of (pe_ifExp hc ha hb) fun σ H Q ⟨ex, E, μ, g, d, g', I, e, q⟩ => by
  unfold eIf at e
  split at e
  · cases e
  · rename_i g1 h1
    refine ⟨ex, E, μ, g, _, g1, I, h1, fun H1 p1 => ?_⟩
    refine iteT ?_
    exact ⟨ex, E, μ, g1, _, g', I.step p1, e, fun v H2 p2 r2 => q v H2 (p1.trans p2) r2⟩
  · rename_i g1 h1
    refine ⟨ex, E, μ, g, _, g1, I, h1, fun H1 p1 => ?_⟩
    refine iteF ?_
    exact ⟨ex, E, μ, g1, _, g', I.step p1, e, fun v H2 p2 r2 => q v H2 (p1.trans p2) r2⟩
/-- a op b op c -/
def eCh (h h' : D → D → Option D) (a b c : M) : M := fun E g => match a E g with
  | none => none
  | some (x, g1) => match b E g1 with
    | none => none
    | some (y, g2) => match h x y with
      | some (.bool true) => match c E g2 with
        | none => none
        | some (z, g3) => match h' y z with
          | none => none
          | some w => some (w, g3)
      | some (.bool false) => some (.bool false, g2)
      | _ => none
theorem t_ch {r r' : R2} {h h' : D → D → Option D} (hr : OpD k r h) (hr' : OpD k r' h') (σ : L2.St) (H : Hp) (Q : VK) (w : tE k f sm (eCh h h' ma mb mc) σ H Q) : tChain r r' (tE k f sm ma) (tE k f sm mb) (tE k f sm mc) σ H Q := by
  obtain ⟨ex, E, μ, g, d, g', I, e, q⟩ := w
  unfold eCh at e
  split at e
  · cases e
  · rename_i x g1 h1
    split at e
    · cases e
    · rename_i y g2 h2
      refine ⟨ex, E, μ, g, x, g1, I, h1, fun v H1 p1 r1 => ⟨ex, E, μ, g1, y, g2, I.step p1, h2, fun u H2 p2 r2 => ?_⟩⟩
      have I2 := (I.step p1).step p2
      split at e
      · rename_i hz
        split at e
        · cases e
        · rename_i z g3 h3
          split at e
          · cases e
          · rename_i ww h4
            cases e
            refine hr (BE f sm E μ) H2 v u x y _ _ (fun b z => I2.be sm z) (r1.step (I.hb sm) p2.fr) r2 hz fun w H3 s3 r3 => ?_
            cases r3
            refine ⟨true, rfl, ?_⟩
            rw [if_pos rfl]
            have p3 : PEd k g2 H2 H3 := .same s3 I2.ga
            have I3 := I2.step p3
            refine ⟨ex, E, μ, g2, z, g', I3, h3, fun w H4 p4 r4 => ?_⟩
            have I4 := I3.step p4
            refine hr' (BE f sm E μ) H4 u w y z d Q (fun b z => I4.be sm z) ((r2.step (I.hb sm) p3.fr).step (I.hb sm) p4.fr) r4 h4 fun w H5 s5 r5 => ?_
            exact q w H5 ((((p1.trans p2).trans p3).trans p4).trans (.same s5 I4.ga)) r5
      · rename_i hz
        cases e
        refine hr (BE f sm E μ) H2 v u x y _ _ (fun b z => I2.be sm z) (r1.step (I.hb sm) p2.fr) r2 hz fun w H3 s3 r3 => ?_
        cases r3
        refine ⟨false, rfl, ?_⟩
        rw [if_neg Bool.false_ne_true]
        exact q _ H3 ((p1.trans p2).trans (.same s3 I2.ga)) (.bl _)
      · cases e
theorem de_chain {op op' : CmpOp} {r r' : R2} {h h' : D → D → Option D} (ho : OpR X (compareOp op) r) (hr : OpD k r h) (ho' : OpR X (compareOp op') r') (hr' : OpD k r' h') (ha : PE X a (tE k f sm ma)) (hb : PE X b (tE k f sm mb)) (hc : PE X c (tE k f sm mc))
    (hm : lastMarks [op, op'] [b, c] = false := by with_unfolding_all rfl) : PE X (.Compare a [op, op'] [b, c] pos) (tE k f sm (eCh h h' ma mb mc)) := pe_of (pe_chain ho ho' ha hb hc hm) (t_ch hr hr')
theorem dt_chain {op op' : CmpOp} {r r' : R2} {h h' : D → D → Option D} (ho : OpR X (compareOp op) r) (hr : OpD k r h) (ho' : OpR X (compareOp op') r') (hr' : OpD k r' h') (ha : PE X a (tE k f sm ma)) (hb : PE X b (tE k f sm mb)) (hc : PE X c (tE k f sm mc))
    (hm : lastMarks [op, op'] [b, c] = false := by with_unfolding_all rfl) : PT X (.Compare a [op, op'] [b, c] pos) (tT k f (mB (eCh h h' ma mb mc))) := pt_of (pt_chain ho ho' ha hb hc hm) (t_b (t_ch hr hr'))
end

/-! ### is None, is True -/
def fIsN (neg : Bool) : D → Option D
  | .none => some (.bool !neg)
  | .dict _ => none
  | _ => some (.bool neg)
section
variable {k : Kx} {f : Fx} {sm : Bool} {X : Cx} {pos : Pos} {a : Expr} {ma : M} {j : Nat} {pos' : Pos}
theorem isn_rp {H : Hp} {B : Addr → Prop} {v : V} {d : D} {z : D} {neg : Bool} (r : Rp k H B v d) (h : fIsN neg d = some z) : z = .bool (if neg then !decide (v = V.non) else decide (v = V.non)) := by
  cases r <;> simp [fIsN] at h <;> subst h <;> cases neg <;> rfl
theorem t_isN {σ : L2.St} {H : Hp} {Q : VK} (w : tE k f sm (e1 (fIsN false) ma) σ H Q) : tIsN (tE k f sm ma) σ H Q := by
  obtain ⟨ex, E, μ, g, d, g', I, e, q⟩ := w
  unfold e1 at e
  split at e
  · cases e
  · rename_i x g1 h1
    split at e
    · cases e
    · rename_i z h3
      cases e
      refine ⟨ex, E, μ, g, x, g', I, h1, fun v H1 p1 r1 => ?_⟩
      have := isn_rp r1 h3
      subst this
      exact q _ H1 p1 (.bl _)
theorem t_notN {σ : L2.St} {H : Hp} {Q : VK} (w : tE k f sm (e1 (fIsN true) ma) σ H Q) : tNotN (tE k f sm ma) σ H Q := by
  obtain ⟨ex, E, μ, g, d, g', I, e, q⟩ := w
  unfold e1 at e
  split at e
  · cases e
  · rename_i x g1 h1
    split at e
    · cases e
    · rename_i z h3
      cases e
      refine ⟨ex, E, μ, g, x, g', I, h1, fun v H1 p1 r1 => ?_⟩
      have := isn_rp r1 h3
      subst this
      exact q _ H1 p1 (.bl _)
theorem de_isN (ha : PE X a (tE k f sm ma)) : PE X (.Compare a [.Is] [.Constant .none j pos'] pos) (tE k f sm (e1 (fIsN false) ma)) := pe_of (pe_cmp (pc_isN ha)) fun _ _ _ w => t_isN w
theorem de_notN (ha : PE X a (tE k f sm ma)) : PE X (.Compare a [.IsNot] [.Constant .none j pos'] pos) (tE k f sm (e1 (fIsN true) ma)) := pe_of (pe_cmp (pc_notN ha)) fun _ _ _ w => t_notN w
theorem dt_isN (ha : PE X a (tE k f sm ma)) : PT X (.Compare a [.Is] [.Constant .none j pos'] pos) (tT k f (mB (e1 (fIsN false) ma))) := pt_of (pt_cmp (pc_isN ha)) (t_b fun _ _ _ w => t_isN w)
theorem dt_notN (ha : PE X a (tE k f sm ma)) : PT X (.Compare a [.IsNot] [.Constant .none j pos'] pos) (tT k f (mB (e1 (fIsN true) ma))) := pt_of (pt_cmp (pc_notN ha)) (t_b fun _ _ _ w => t_notN w)
end
def fIsB (neg : Bool) : D → D → Option D
  | .bool a, .bool b => some (.bool (if neg then !decide (a = b) else decide (a = b)))
  | _, _ => none
theorem od_isB {k : Kx} : OpD k rIsB (fIsB false) := by
  intro B H x y d e z Q hB rx ry hh q
  unfold fIsB at hh
  split at hh
  · cases hh; cases rx; cases ry; exact ⟨_, _, rfl, rfl, q _ H (.refl H) (.bl _)⟩
  · cases hh
theorem od_notB {k : Kx} : OpD k rNotB (fIsB true) := by
  intro B H x y d e z Q hB rx ry hh q
  unfold fIsB at hh
  split at hh
  · cases hh; cases rx; cases ry; exact ⟨_, _, rfl, rfl, q _ H (.refl H) (.bl _)⟩
  · cases hh
end DL

set_option Elab.async false
set_option linter.all false
set_option maxRecDepth 100000
set_option maxHeartbeats 1000000
namespace DL
open PySem PySem.Spec PyProof.Rows L2
open Sem (wp)
/-! ### == and != of classes -/
theorem slot_type_ne : Slot "type" (cmpInfo .NotEq).2.1 "object.__ne__" :=
  .of (owner := "object") (n := "__ne__") (by rw [typeLookup_type, builtinLookup_eq_fast]; kernel_rfl) (by decide +kernel) (by decide +kernel) (by decide +kernel)
    (by first | exact .inl (by decide +kernel) | exact .inr (by decide +kernel)) (by rw [isSubtype_type]; kernel_rfl)
theorem slot_type_ne_refl : Slot "type" (cmpInfo .NotEq).2.2 "object.__ne__" :=
  .of (owner := "object") (n := "__ne__") (by rw [typeLookup_type, builtinLookup_eq_fast]; kernel_rfl) (by decide +kernel) (by decide +kernel) (by decide +kernel)
    (by first | exact .inl (by decide +kernel) | exact .inr (by decide +kernel)) (by rw [isSubtype_type]; kernel_rfl)
theorem slot_type_eq' : Slot "type" (Str.ofString "__eq__") "object.__eq__" := PySem.TypeEq.slot_type_eq
section
variable {prog : Program} {w : World} {A : Around} {E : Value → Shared → Prop} {s : Shared} {Q : Value → Shared → Prop}
theorem call_ty_ne_same {X : String} {name : Str} (sl : Slot "type" name "object.__ne__") (hX : ∀ s' : Shared, s'.TypeIs (.type X) "type") (h : Q (.bool false) s) : wpAny (model prog w) A (call (.builtin "object.__ne__") [.type X, .type X]) Q E s := by
  refine wpAny_call_entry sl (hX s) F.cmpEntry_ne ?_ (F.cmpArgs_ne _ _)
  unfold Builtin.«object.__ne__»
  refine wpAny_bind (m := slotArgs "__ne__" 1 _) (wpAny_pure ?_)
  refine wpAny_bind (wpAny_cRoomFor_or (.inl rfl) ?_)
  refine wpAny_bind (wpAny_callSpecialIfBound?_slot (hX s) slot_type_eq' (call_gives slot_type_eq' (hX s) F.entry_object_eq (F.args_object_eq_2 _ _) (PySem.TypeEq.object_eq_same rfl (by simp)) ?_))
  exact wpAny_bind (wpAny_truthy_bool (wpAny_pure ⟨_, rfl, h⟩))
theorem call_ty_ne_other {X Y : String} {name : Str} (sl : Slot "type" name "object.__ne__") (hX : ∀ s' : Shared, s'.TypeIs (.type X) "type") (hne : (Value.type X == Value.type Y) = false) (h : Q .notImplemented s) : wpAny (model prog w) A (call (.builtin "object.__ne__") [.type X, .type Y]) Q E s := by
  refine wpAny_call_entry sl (hX s) F.cmpEntry_ne ?_ (F.cmpArgs_ne _ _)
  unfold Builtin.«object.__ne__»
  refine wpAny_bind (m := slotArgs "__ne__" 1 _) (wpAny_pure ?_)
  refine wpAny_bind (wpAny_cRoomFor_or (.inl rfl) ?_)
  refine wpAny_bind (wpAny_callSpecialIfBound?_slot (hX s) slot_type_eq' (call_gives slot_type_eq' (hX s) F.entry_object_eq (F.args_object_eq_2 _ _) (PySem.TypeEq.object_eq_other rfl hne) ?_))
  exact wpAny_pure ⟨_, rfl, h⟩
theorem ne_type_same {X : String} (hX : ∀ s' : Shared, s'.TypeIs (.type X) "type") (h : Q (.bool false) s) : wpAny (model prog w) A (compareOp .NotEq (.type X) (.type X)) Q E s := by
  show wpAny _ A (richCompare .NotEq _ _) Q E s
  exact wpAny_richCompare_same (T := "type") (hX s) (hX s) slot_type_ne (call_ty_ne_same slot_type_ne hX ⟨(by intro e; cases e), h⟩)
theorem ne_type_other {X Y : String} (hX : ∀ s' : Shared, s'.TypeIs (.type X) "type") (hY : ∀ s' : Shared, s'.TypeIs (.type Y) "type") (hne : (Value.type X == Value.type Y) = false) (h : Q (.bool true) s) : wpAny (model prog w) A (compareOp .NotEq (.type X) (.type Y)) Q E s := by
  have hne' : (Value.type Y == Value.type X) = false := by
    rw [Bool.eq_false_iff] at hne ⊢
    intro e
    exact hne (by rw [beq_iff_eq] at e ⊢; exact e.symm)
  show wpAny _ A (richCompare .NotEq _ _) Q E s
  have h1 := slot_type_ne
  have h2 := slot_type_ne_refl
  rcases hi : cmpInfo CmpOp.NotEq with ⟨sym, f, r⟩
  rw [hi] at h1 h2
  simp only [richCompare, hi, (hX s).oneThing_none]
  try with_reducible refine wpAny_holding ?_
  refine wpAny_bind (wpAny_cRoomFor_or (.inl rfl) ?_)
  refine wpAny_bind (wpAny_typeOf (hX s) (wpAny_bind (wpAny_typeOf (hY s) ?_)))
  simp only [bne_self_eq_false, Bool.false_eq_true, if_false, pure_bind, Bool.not_false, if_true]
  refine wpAny_bind (m := tryCompare (.type X) _ (.type Y)) (wpAny_tryCompare_declines (hX s) h1 (call_ty_ne_other h1 hX hne ⟨rfl, ?_⟩))
  refine wpAny_bind (m := tryCompare (.type Y) _ (.type X)) (wpAny_tryCompare_declines (hY s) h2 (call_ty_ne_other h2 hY hne' ⟨rfl, ?_⟩))
  refine wpAny_bind (wpAny_rule (wpAny_bind (wpAny_of_eq (a := false) (by rw [isSame_plain rfl, hne]) (wpAny_pure h))))
end
def Ty6 (S : String) : Prop := S = "NoneType" ∨ S = "bool" ∨ S = "int" ∨ S = "str" ∨ S = "list" ∨ S = "tuple"
theorem Ty6.meta {S : String} (h : Ty6 S) (s' : Shared) : s'.TypeIs (.type S) "type" := by
  rcases h with h | h | h | h | h | h <;> subst h
  · exact PySem.TypeEq.meta_NoneType s'
  · exact PySem.TypeEq.meta_bool s'
  · exact PySem.TypeEq.meta_int s'
  · exact PySem.TypeEq.meta_str s'
  · exact PySem.TypeEq.meta_list s'
  · exact PySem.TypeEq.meta_tuple s'
def rTyEq : R2 := fun x y H Q => ∃ S T, x = .ty S ∧ y = .ty T ∧ Ty6 S ∧ Ty6 T ∧ Q (.bl (decide (S = T))) H
def rTyNe : R2 := fun x y H Q => ∃ S T, x = .ty S ∧ y = .ty T ∧ Ty6 S ∧ Ty6 T ∧ Q (.bl (!decide (S = T))) H
theorem ty_beq {S T : String} (h : S ≠ T) : (Value.type S == Value.type T) = false := by
  rw [beq_eq_false_iff_ne]
  exact fun e => h (Value.type.inj e)
theorem op_tyEq {X : Cx} : OpR X (compareOp .Eq) rTyEq := by
  intro pins s σ H x y v u Q I rx ry h
  obtain ⟨S, T, rfl, rfl, h1, h2, q⟩ := h
  cases rx; cases ry
  by_cases e : S = T
  · subst e
    rw [decide_eq_true rfl] at q
    exact PySem.TypeEq.eq_type_same h1.meta ⟨.bl true, H, I, rfl, q⟩
  · rw [decide_eq_false e] at q
    exact PySem.TypeEq.eq_type_other h1.meta h2.meta (ty_beq e) ⟨.bl false, H, I, rfl, q⟩
theorem op_tyNe {X : Cx} : OpR X (compareOp .NotEq) rTyNe := by
  intro pins s σ H x y v u Q I rx ry h
  obtain ⟨S, T, rfl, rfl, h1, h2, q⟩ := h
  cases rx; cases ry
  by_cases e : S = T
  · subst e
    rw [decide_eq_true rfl] at q
    exact ne_type_same h1.meta ⟨.bl false, H, I, rfl, q⟩
  · rw [decide_eq_false e] at q
    exact ne_type_other h1.meta h2.meta (ty_beq e) ⟨.bl true, H, I, rfl, q⟩
end DL

set_option Elab.async false
set_option linter.all false
set_option maxRecDepth 100000
set_option maxHeartbeats 1000000
namespace DL
open PySem PySem.Spec PyProof.Rows L2
/-! ### types -/
def tyN : D → Option String
  | .none => some "NoneType"
  | .bool _ => some "bool"
  | .int _ => some "int"
  | .str _ => some "str"
  | .list _ => some "list"
  | .tuple _ => some "tuple"
  | _ => none
def isT (T : String) (S : String) : Bool := S == T || (S == "bool" && T == "int")
theorem ty_rp {k : Kx} {H : Hp} {B : Addr → Prop} {g : G} (ga : GA k H g) {v : V} {d : D} {S : String} (r : Rp k H B v d) (h : tyN d = some S) : TyX k.K H v (.type S) := by
  cases r with
  | non => cases h; exact .base .non
  | bl b => cases h; exact .base (.bl b)
  | int b => cases h; exact .base (.int b)
  | str b => cases h; exact .base (.str b)
  | lst _ e _ => cases h; exact .base (.lst e)
  | tup _ e _ => cases h; exact .base (.tup e)
  | br => cases h
  | gr => cases h
  | fz _ => cases h
theorem tyN_of {d : D} {S : String} (h : tyN d = some S) : S = "NoneType" ∨ S = "bool" ∨ S = "int" ∨ S = "str" ∨ S = "list" ∨ S = "tuple" := by
  unfold tyN at h
  split at h <;> simp_all
/-- isinstance(x, T) -/
def eIsi (T : String) (a : M) : M := fun E g => match a E g with
  | none => none
  | some (d, g1) => match tyN d with
    | none => none
    | some S => some (.bool (isT T S), g1)
def eIsi2 (T U : String) (a : M) : M := fun E g => match a E g with
  | none => none
  | some (d, g1) => match tyN d with
    | none => none
    | some S => some (.bool (isT T S || isT U S), g1)
/-- a class that stands by its name -/
structure TyName (X : Cx) (T : String) (x : Str) : Prop where
  gl : Gl X x
  mg : X.mg x = none
  bt : bootBuiltins x = some (.type T)
  nn : x ≠ "__name__"
  nd : (x == ("__debug__" : Str)) = false
/-- the kinds asked for -/
def Ask (T : String) : Prop := ∀ S, S = "NoneType" ∨ S = "bool" ∨ S = "int" ∨ S = "str" ∨ S = "list" ∨ S = "tuple" → kitB S T = some (isT T S)
theorem ask_int : Ask "int" := by
  intro S h; rcases h with h | h | h | h | h | h <;> subst h <;> decide +kernel
theorem ask_bool : Ask "bool" := by
  intro S h; rcases h with h | h | h | h | h | h <;> subst h <;> decide +kernel
theorem ask_str : Ask "str" := by
  intro S h; rcases h with h | h | h | h | h | h <;> subst h <;> decide +kernel
theorem ask_tuple : Ask "tuple" := by
  intro S h; rcases h with h | h | h | h | h | h <;> subst h <;> decide +kernel
theorem ask_list : Ask "list" := by
  intro S h; rcases h with h | h | h | h | h | h <;> subst h <;> decide +kernel
section
variable {k : Kx} {f : Fx} {sm : Bool} {X : Cx} {pos p p2 p3 p4 : Pos} {a : Expr} {ma : M} {x T : Str} {T U : String} {x y : Str}
theorem de_isi (hK : X.K = k.K) (hT : Ask T) (hg : Gl X "isinstance") (hm : X.mg "isinstance" = none) (tn : TyName X T x) (ha : PE X a (tE k f sm ma))
    (he : starEach [a, .Name x p2] X.env = (false, eval a X.env) :: starEach [.Name x p2] X.env := by rfl) (hpl : (backTo pos (starEach [.Name x p2] X.env)).any (·.1) = false := by rfl)
    (he2 : starEach [.Name x p2] X.env = (false, eval (.Name x p2) X.env) :: starEach [] X.env := by rfl) : PE X (.Call (.Name "isinstance" p) [a, .Name x p2] [] pos) (tE k f sm (eIsi T ma)) :=
  pe_of (pe_callB call_isi hg hm (by decide +kernel) (pa_cons ha (pa_cons (pe_bltn (v := .ty T) tn.gl tn.mg tn.bt rfl tn.nn tn.nd) pa_nil he2) he) (he := he) (hpl := hpl)) fun σ H Q ⟨ex, E, μ, g, d, g', I, e, q⟩ => by
    unfold eIsi at e
    split at e
    · cases e
    · rename_i d1 g1 h1
      split at e
      · cases e
      · rename_i S hS
        cases e
        refine ⟨ex, E, μ, g, d1, g', I, h1, fun v H1 p1 r1 => ?_⟩
        refine ⟨v, .ty T, .type S, .type T, isT T S, rfl, .ty T, by rw [hK]; exact ty_rp p1.ga r1 hS, kit_ty (hT S (tyN_of hS)), ?_⟩
        exact q _ H1 p1 (.bl _)
theorem de_isi2 {j : Nat} (hK : X.K = k.K) (hT : Ask T) (hU : Ask U) (hg : Gl X "isinstance") (hm : X.mg "isinstance" = none) (tn : TyName X T x) (un : TyName X U y) (ha : PE X a (tE k f sm ma))
    (he : starEach [a, .Tuple [.Name x p2, .Name y p3] j p4] X.env = (false, eval a X.env) :: starEach [.Tuple [.Name x p2, .Name y p3] j p4] X.env := by rfl) (hpl : (backTo pos (starEach [.Tuple [.Name x p2, .Name y p3] j p4] X.env)).any (·.1) = false := by rfl)
    (he2 : starEach [.Tuple [.Name x p2, .Name y p3] j p4] X.env = (false, eval (.Tuple [.Name x p2, .Name y p3] j p4) X.env) :: starEach [] X.env := by rfl)
    (h3 : starEach [.Name x p2, .Name y p3] X.env = (false, eval (.Name x p2) X.env) :: starEach [.Name y p3] X.env := by rfl) (h4 : starEach [.Name y p3] X.env = (false, eval (.Name y p3) X.env) :: starEach [] X.env := by rfl) :
    PE X (.Call (.Name "isinstance" p) [a, .Tuple [.Name x p2, .Name y p3] j p4] [] pos) (tE k f sm (eIsi2 T U ma)) :=
  pe_of (pe_callB call_isiT hg hm (by decide +kernel) (pa_cons ha (pa_cons (pe_tup (pa_cons (pe_bltn (v := .ty T) tn.gl tn.mg tn.bt rfl tn.nn tn.nd) (pa_cons (pe_bltn (v := .ty U) un.gl un.mg un.bt rfl un.nn un.nd) pa_nil h4) h3)) pa_nil he2) he) (he := he) (hpl := hpl)) fun σ H Q ⟨ex, E, μ, g, d, g', I, e, q⟩ => by
    unfold eIsi2 at e
    split at e
    · cases e
    · rename_i d1 g1 h1
      split at e
      · cases e
      · rename_i S hS
        cases e
        refine ⟨ex, E, μ, g, d1, g', I, h1, fun v H1 p1 r1 => ?_⟩
        refine ⟨by show 2 ≤ sizeLine; decide, fun t ht => ?_⟩
        have p2 : PEd k g' H1 (upd H1 t (.tup [.ty T, .ty U])) := .same (Same.upd ht) p1.ga
        refine ⟨v, t, [.ty T, .ty U], .type S, [.type T, .type U], isT T S || isT U S, rfl, upd_same, .cons (.ty T) (.cons (.ty U) .nil), ?_, ?_, ?_⟩
        · rw [hK]
          exact ty_rp p2.ga (r1.same (Same.upd ht)) hS
        · refine kitAny_cons (kit_ty (hT S (tyN_of hS))) (fun e => ?_) (fun e => by rw [e]; rfl)
          rw [e, Bool.false_or]
          refine kitAny_cons (kit_ty (hU S (tyN_of hS))) (fun e => ?_) (fun e => e)
          rw [e]
          exact kitAny_nil
        · exact q _ _ (p1.trans p2) (.bl _)
/-- type(x) -/
theorem call_typeD {P : Prop} : CallR X (.type "type") (fun xs H Q => ∃ (x : V) (S : String), xs = [x] ∧ TyX X.K H x (.type S) ∧ (S = "NoneType" ∨ S = "bool" ∨ S = "int" ∨ S = "str" ∨ S = "list" ∨ S = "tuple") ∧ Q (.ty S) H) := by
  intro pins s σ H xs us Q I r h
  obtain ⟨x, S, rfl, t, hS, q⟩ := h
  obtain ⟨u, rfl, rx⟩ := vals1 r
  have h2 : (Value.type S == Value.type "builtin_function_or_method") = false := by
    rcases hS with h | h | h | h | h | h <;> subst h <;> decide +kernel
  have h1 : s.TypeIs u S := by
    generalize hv : Value.type S = ST at t
    cases t with
    | base b =>
      cases b with
      | non => cases hv; cases rx; exact typeIs_none s
      | bl y => cases hv; cases rx; exact PySem.typeIs_bool s y
      | int i => cases hv; obtain ⟨t, rfl⟩ := rx; exact typeIs_int s i t
      | str i => cases hv; obtain ⟨t, rfl⟩ := rx; exact typeIs_str s i t
      | lst e => cases hv; cases rx; obtain ⟨its, rv, p, _⟩ := I.list (.inl (.inl e)); exact p.isList.typeIs
      | frz e => cases hv; cases rx; obtain ⟨its, rv, p, _⟩ := I.list (.inl (.inr ⟨_, e⟩)); exact p.isList.typeIs
      | tup e => cases hv; cases rx; obtain ⟨its, rv, p, _⟩ := I.tuple (.inl (.inl e)); exact p.typeIs
      | flt y => cases hv; simp at hS
      | dK e => cases hv; simp at hS
      | dT e => cases hv; simp at hS
      | ins e => cases hv
    | byt y => cases hv; simp at hS
    | set e => cases hv; simp at hS
    | kList e c => cases hv; cases rx; exact ⟨_, I.kIn _ _ e, c⟩
    | kTuple e c => cases hv; cases rx; exact ⟨_, I.kIn _ _ e, c⟩
    | kDict e c => cases hv; simp at hS
    | fTuple e => cases hv; cases rx; obtain ⟨its, rv, p, _⟩ := I.tuple (.inl (.inr ⟨_, e⟩)); exact p.typeIs
    | fDict e => cases hv; simp at hS
  exact call_type_of h1 h2 ⟨.ty S, H, I, rfl, q⟩
def eTyC (neg : Bool) (T : String) (a : M) : M := fun E g => match a E g with
  | none => none
  | some (d, g1) => match tyN d with
    | none => none
    | some S => some (.bool (if neg then !decide (S = T) else decide (S = T)), g1)
theorem t_ty {neg : Bool} {op : CmpOp} {r : R2} (hr : ∀ (S : String) H Q, Ty6 S → Q (.bl (if neg then !decide (S = T) else decide (S = T))) H → r (.ty S) (.ty T) H Q) (hK : X.K = k.K) {σ : L2.St} {H : Hp} {Q : VK} (w : tE k f sm (eTyC neg T ma) σ H Q) :
    tOp r (tCB (fun xs H Q => ∃ (x : V) (S : String), xs = [x] ∧ TyX X.K H x (.type S) ∧ (S = "NoneType" ∨ S = "bool" ∨ S = "int" ∨ S = "str" ∨ S = "list" ∨ S = "tuple") ∧ Q (.ty S) H) (tCons (tE k f sm ma) tNil)) (tC (.ty T)) σ H Q := by
  obtain ⟨ex, E, μ, g, d, g', I, e, q⟩ := w
  unfold eTyC at e
  split at e
  · cases e
  · rename_i d1 g1 h1
    split at e
    · cases e
    · rename_i S hS
      cases e
      refine ⟨ex, E, μ, g, d1, g', I, h1, fun v H1 p1 r1 => ?_⟩
      refine ⟨v, S, rfl, by rw [hK]; exact ty_rp p1.ga r1 hS, tyN_of hS, ?_⟩
      exact hr S H1 Q (tyN_of hS) (q _ H1 p1 (.bl _))
theorem dt_tyEq (hT : Ty6 T) (hK : X.K = k.K) (hg : Gl X "type") (hm : X.mg "type" = none) (tn : TyName X T x) (ha : PE X a (tE k f sm ma)) (he : starEach [a] X.env = (false, eval a X.env) :: starEach [] X.env := by rfl) :
    PT X (.Compare (.Call (.Name "type" p) [a] [] p2) [.Eq] [.Name x p3] pos) (tT k f (mB (eTyC false T ma))) :=
  pt_of (pt_cmpR op_tyEq (pe_callTy (call_typeD (P := True)) hg hm (by decide +kernel) (pa_cons ha pa_nil he) (he := he)) (pe_bltn (v := .ty T) tn.gl tn.mg tn.bt rfl tn.nn tn.nd) (nomark _)) (t_b fun σ H Q w => t_ty (op := .Eq) (fun S H Q h6 q => ⟨S, T, rfl, rfl, h6, hT, q⟩) hK w)
theorem dt_tyNe (hT : Ty6 T) (hK : X.K = k.K) (hg : Gl X "type") (hm : X.mg "type" = none) (tn : TyName X T x) (ha : PE X a (tE k f sm ma)) (he : starEach [a] X.env = (false, eval a X.env) :: starEach [] X.env := by rfl) :
    PT X (.Compare (.Call (.Name "type" p) [a] [] p2) [.NotEq] [.Name x p3] pos) (tT k f (mB (eTyC true T ma))) :=
  pt_of (pt_cmpR op_tyNe (pe_callTy (call_typeD (P := True)) hg hm (by decide +kernel) (pa_cons ha pa_nil he) (he := he)) (pe_bltn (v := .ty T) tn.gl tn.mg tn.bt rfl tn.nn tn.nd) (nomark _)) (t_b fun σ H Q w => t_ty (op := .Eq) (fun S H Q h6 q => ⟨S, T, rfl, rfl, h6, hT, q⟩) hK w)
theorem de_tyEq (hT : Ty6 T) (hK : X.K = k.K) (hg : Gl X "type") (hm : X.mg "type" = none) (tn : TyName X T x) (ha : PE X a (tE k f sm ma)) (he : starEach [a] X.env = (false, eval a X.env) :: starEach [] X.env := by rfl) :
    PE X (.Compare (.Call (.Name "type" p) [a] [] p2) [.Eq] [.Name x p3] pos) (tE k f sm (eTyC false T ma)) :=
  pe_of (pe_cmpR op_tyEq (pe_callTy (call_typeD (P := True)) hg hm (by decide +kernel) (pa_cons ha pa_nil he) (he := he)) (pe_bltn (v := .ty T) tn.gl tn.mg tn.bt rfl tn.nn tn.nd) (nomark _)) (fun σ H Q w => t_ty (op := .Eq) (fun S H Q h6 q => ⟨S, T, rfl, rfl, h6, hT, q⟩) hK w)
end
end DL

set_option Elab.async false
set_option linter.all false
set_option maxRecDepth 100000
set_option maxHeartbeats 1000000
namespace DL
open PySem PySem.Spec PyProof.Rows L2
/-! ### slices -/
def cutD (xs : List D) (lo hi : Option Int) : List D := (xs.drop (HT.sIx xs.length 0 lo)).take (HT.sIx xs.length xs.length hi - HT.sIx xs.length 0 lo)
theorem cut_rp {k : Kx} {H : Hp} {B : Addr → Prop} {xs : List V} {ds : List D} (r : RpA k H B xs ds) (lo hi : Option Int) : RpA k H B (cutV xs lo hi) (cutD ds lo hi) := by
  unfold cutV cutD
  rw [r.length]
  exact (r.drop _).take _
abbrev MO := En → G → Option (Option Int × G)
def oNo : MO := fun _ g => some (none, g)
def oAt (m : M) : MO := fun E g => match m E g with
  | some (.int i, g1) => some (some i, g1)
  | _ => none
def tO (k : Kx) (f : Fx) (m : MO) : TO := fun σ H Q => ∃ ex E μ g o g', Ist k f ex E μ g σ H ∧ m E g = some (o, g') ∧ ∀ H', PEd k g' H H' → Q o H'
def fSl : D → Option Int → Option Int → Option D
  | .list xs, lo, hi => some (.list (cutD xs lo hi))
  | .tuple xs, lo, hi => some (.tuple (cutD xs lo hi))
  | .dict [(.none, .list xs)], lo, hi => some (.list (cutD xs lo hi))
  | _, _, _ => none
def eSl (a : M) (lo hi : MO) : M := fun E g => match a E g with
  | none => none
  | some (d, g1) => match lo E g1 with
    | none => none
    | some (l, g2) => match hi E g2 with
      | none => none
      | some (h, g3) => match fSl d l h with
        | none => none
        | some z => some (z, g3)
section
variable {k : Kx} {f : Fx} {sm : Bool} {X : Cx} {pos p2 : Pos} {a e : Expr} {ma m : M} {lo hi : Option Expr} {ml mh : MO}
theorem do_none : PO X none (tO k f oNo) := ⟨fun pins s σ H Q I ⟨ex, E, μ, g, o, g', J, e, q⟩ => by
  cases e
  exact po_none.run pins s σ H Q I (q H (.same (.refl H) J.ga))⟩
theorem do_some (h : PE X e (tE k f sm m)) : PO X (some e) (tO k f (oAt m)) := ⟨fun pins s σ H Q I ⟨ex, E, μ, g, o, g', J, e, q⟩ => by
  refine (po_some h).run pins s σ H Q I ?_
  unfold oAt at e
  split at e
  · rename_i i g1 h1
    cases e
    refine ⟨ex, E, μ, g, _, g', J, h1, fun v H1 p1 r1 => ?_⟩
    cases r1
    exact ⟨_, rfl, q H1 p1⟩
  · cases e⟩
theorem de_slice (hK : X.K = k.K) (ha : PE X a (tE k f sm ma)) (hl : PO X lo (tO k f ml)) (hh : PO X hi (tO k f mh)) : PE X (.Subscript a (.Slice lo hi none p2) pos) (tE k f sm (eSl ma ml mh)) :=
  pe_of (pe_slice (sl_list.or sl_tupA) ha hl hh) fun σ H Q ⟨ex, E, μ, g, d, g', I, e, q⟩ => by
    unfold eSl at e
    split at e
    · cases e
    · rename_i d1 g1 h1
      split at e
      · cases e
      · rename_i l g2 h2
        split at e
        · cases e
        · rename_i u g3 h3
          split at e
          · cases e
          · rename_i z h4
            cases e
            refine ⟨ex, E, μ, g, d1, g1, I, h1, fun v H1 p1 r1 => ⟨ex, E, μ, g1, l, g2, I.step p1, h2, fun H2 p2 => ⟨ex, E, μ, g2, u, g', (I.step p1).step p2, h3, fun H3 p3 => ?_⟩⟩⟩
            have I3 := ((I.step p1).step p2).step p3
            have r3 := (r1.step (I.hb sm) p2.fr).step (I.hb sm) p3.fr
            have p0 := (p1.trans p2).trans p3
            unfold fSl at h4
            split at h4
            · cases h4
              cases r3 with
              | lst n1 e1 ra =>
                refine .inl ⟨_, _, rfl, by rw [hK]; exact .of e1, fun p hp => ?_⟩
                exact q _ _ (p0.trans (.same (Same.upd hp) I3.ga)) (.newL (fun b z => I3.be sm z) hp (cut_rp ra _ _))
            · cases h4
              cases r3 with
              | tup n1 e1 ra =>
                refine .inr ⟨_, _, rfl, by rw [hK]; exact .of e1, fun hw => ?_, fun _ p hp => ?_⟩
                · have hc : ∀ {α : Type} (xs : List α) (i j : Nat), i = 0 → j = xs.length → (xs.drop i).take (j - i) = xs := by
                    intro α xs i j h0 hj
                    subst h0; subst hj
                    simp
                  have hl := ra.length
                  refine q _ H3 p0 (.tup n1 e1 ?_)
                  have e2 := cut_rp ra l u
                  unfold cutV at e2
                  rw [hc _ _ _ hw.1 hw.2] at e2
                  exact e2
                · exact q _ _ (p0.trans (.same (Same.upd hp) I3.ga)) (.newT (fun b z => I3.be sm z) hp (cut_rp ra _ _))
            · cases h4
              cases r3 with
              | fz hz =>
                refine .inl ⟨_, _, rfl, by rw [hK]; exact hz.sq, fun p hp => ?_⟩
                exact q _ _ (p0.trans (.same (Same.upd hp) I3.ga)) (.newL (fun b z => I3.be sm z) hp (cut_rp (rpa_ints _) _ _))
            · cases h4
/-- xs[::-1] -/
def fRev : D → Option D
  | .list xs => some (.list xs.reverse)
  | _ => none
theorem de_revL (hK : X.K = k.K) (ha : PE X a (tE k f sm ma)) {j : Nat} {p1 p2 p3 : Pos} : PE X (.Subscript a (.Slice none none (some (.UnaryOp .USub (.Constant (.int 1) j p1) p2)) p3) pos) (tE k f sm (e1 fRev ma)) :=
  pe_of (pe_revL ha) fun σ H Q ⟨ex, E, μ, g, d, g', I, e, q⟩ => by
    unfold e1 at e
    split at e
    · cases e
    · rename_i x g1 h1
      split at e
      · cases e
      · rename_i z h3
        cases e
        refine ⟨ex, E, μ, g, x, g', I, h1, fun v H1 p1 r1 => ?_⟩
        have I1 := I.step p1
        unfold fRev at h3
        split at h3
        · cases h3
          cases r1 with
          | lst n1 e1 ra =>
            refine ⟨_, _, rfl, by rw [hK]; exact .of e1, fun p hp => ?_⟩
            exact q _ _ (p1.trans (.same (Same.upd hp) I1.ga)) (.newL (fun b z => I1.be sm z) hp ra.rev)
        · cases h3
end

/-! ### sorted, a list of pairs of intsD -/
def prs : List D → Option (List (Int × Int))
  | [] => some []
  | .tuple [.int a, .int b] :: r => (prs r).map ((a, b) :: ·)
  | _ => none

/-! ### what is walked -/
/-- the turns over ds; pn: what stays alive -/
def Wk (k : Kx) (J : It) (pn : List (V × D)) (ds : List D) : Prop := ∀ (B : Addr → Prop) (H : Hp), (∀ b, B b → H b ≠ none) → (∀ p ∈ pn, Rp k H B p.1 p.2) →
  (∀ i, ds.length ≤ i → J.stop i H) ∧ ∀ i d, ds[i]? = some d → J.go i H ∧ ∀ x H', J.yld i H x H' → Same H H' ∧ Rp k H' B x d
def tI (k : Kx) (f : Fx) (m : ML) : TI := fun σ H R => ∃ ex E μ g ds g', Ist k f ex E μ g σ H ∧ m E g = some (ds, g') ∧ ∀ J pn H', PEd k g' H H' → (∀ p ∈ pn, Rp k H' (BE f true E μ) p.1 p.2) → Wk k J pn ds → R J H'
theorem pi_of {X : Cx} {tg it : Expr} {t t' : TI} (h : PI X tg it t) (w : ∀ σ H R, t' σ H R → t σ H R) : PI X tg it t' := ⟨fun pins s σ H R I q => h.run pins s σ H R I (w σ H R q)⟩
/-- the items of a value -/
def iOf (m : M) : ML := fun E g => match m E g with
  | some (.list ds, g1) => some (ds, g1)
  | _ => none
def iOfT (m : M) : ML := fun E g => match m E g with
  | some (.tuple ds, g1) => some (ds, g1)
  | _ => none
def iOfZ (m : M) : ML := fun E g => match m E g with
  | some (.dict [(.none, .list ds)], g1) => some (ds, g1)
  | _ => none
/-- range(b) -/
def intsD (lo : Int) (n : Nat) : List D := (List.range n).map fun (i : Nat) => .int (lo + (i : Int))
def iRg1 (a : ML) : ML := fun E g => match a E g with
  | some ([.int j], g1) => if -(2 ^ 62) ≤ j ∧ j < 2 ^ 62 then some (intsD 0 j.toNat, g1) else none
  | _ => none
def iRg2 (a : ML) : ML := fun E g => match a E g with
  | some ([.int i, .int j], g1) => if -(2 ^ 62) ≤ i ∧ i < 2 ^ 62 ∧ -(2 ^ 62) ≤ j ∧ j < 2 ^ 62 then some (intsD i (j - i).toNat, g1) else none
  | _ => none
def zipD (xs ys : List D) : List D := (xs.zip ys).map fun p => .tuple [p.1, p.2]
def enumD (xs : List D) (n : Nat) : List D := match xs with
  | [] => []
  | x :: r => .tuple [.int n, x] :: enumD r (n + 1)
section
variable {k : Kx} {f : Fx} {X : Cx} {pos p : Pos} {a e : Expr} {es : List Expr} {ma m : M} {ml : ML} {tg : Expr}
theorem di_list (hK : X.K = k.K) (ha : PE X a (tE k f true ma)) : PI X tg a (tI k f (iOf ma)) := pi_of (pi_list ha) fun σ H R ⟨ex, E, μ, g, ds, g', I, e, q⟩ => by
  unfold iOf at e
  split at e
  · rename_i ds1 g1 h1
    cases e
    refine ⟨ex, E, μ, g, _, g', I, h1, fun v H1 p1 r1 => ?_⟩
    cases r1 with
    | lst n1 e1 ra =>
      rename_i aa xs
      refine ⟨_, rfl, ⟨_, by rw [hK]; exact .of e1⟩, q _ [(.ref aa, .list ds)] H1 p1 (fun p hp => by rw [List.mem_singleton.mp hp]; exact .lst n1 e1 ra) ?_⟩
      rw [hK]
      intro B H hB hp
      have r := hp _ (List.mem_singleton.mpr rfl)
      cases r with
      | lst n2 e2 rb =>
        refine ⟨fun i hi => ⟨_, .of e2, by rw [rb.length]; exact hi⟩, fun i d hd => ?_⟩
        obtain ⟨v, hv, rv⟩ := rb.get hd
        refine ⟨⟨_, v, .of e2, hv⟩, fun x H' hy => ?_⟩
        obtain ⟨rfl, hx⟩ := hy
        have := hx _ (.of e2)
        rw [hv] at this
        cases this
        exact ⟨.refl _, rv⟩
  · cases e
theorem map_inj : ∀ {xs ys : List Int}, xs.map PyData.int = ys.map PyData.int → xs = ys
  | [], [], _ => rfl
  | x :: xs, y :: ys, h => by
    injection h with h1 h2
    injection h1 with h1
    rw [h1, map_inj h2]
theorem di_fz (hK : X.K = k.K) (ha : PE X a (tE k f true ma)) : PI X tg a (tI k f (iOfZ ma)) := pi_of (pi_list ha) fun σ H R ⟨ex, E, μ, g, ds, g', I, e, q⟩ => by
  unfold iOfZ at e
  split at e
  · rename_i ds1 g1 h1
    cases e
    refine ⟨ex, E, μ, g, _, g', I, h1, fun v H1 p1 r1 => ?_⟩
    cases r1 with
    | fz e1 =>
      rename_i aa ns
      refine ⟨_, rfl, ⟨_, by rw [hK]; exact e1.sq⟩, q _ [(.ref aa, .dict [(.none, .list (ns.map .int))])] H1 p1 (fun p hp => by rw [List.mem_singleton.mp hp]; exact .fz e1) ?_⟩
      rw [hK]
      intro B H hB hp
      have r := hp _ (List.mem_singleton.mpr rfl)
      generalize hds : ns.map PyData.int = ds at r ⊢
      cases r with
      | fz e2 =>
        rename_i ms
        have em : ms = ns := by
          have h2 : ns.map PyData.int = ms.map PyData.int := hds
          exact (map_inj h2).symm
        subst em
        refine ⟨fun i hi => ⟨_, e2.sq, by rw [List.length_map] at hi ⊢; exact hi⟩, fun i d hd => ?_⟩
        obtain ⟨v, hv, rv⟩ := (rpa_ints (k := k) (H := H) (B := B) _).get hd
        refine ⟨⟨_, v, e2.sq, hv⟩, fun x H' hy => ?_⟩
        obtain ⟨rfl, hx⟩ := hy
        have := hx _ e2.sq
        rw [hv] at this
        cases this
        exact ⟨.refl _, rv⟩
  · cases e
theorem di_tup (hK : X.K = k.K) (ha : PE X a (tE k f true ma)) : PI X tg a (tI k f (iOfT ma)) := pi_of (pi_tup ha) fun σ H R ⟨ex, E, μ, g, ds, g', I, e, q⟩ => by
  unfold iOfT at e
  split at e
  · rename_i ds1 g1 h1
    cases e
    refine ⟨ex, E, μ, g, _, g', I, h1, fun v H1 p1 r1 => ?_⟩
    cases r1 with
    | tup n1 e1 ra =>
      rename_i aa xs
      refine ⟨_, rfl, ⟨_, by rw [hK]; exact .of e1⟩, q _ [(.ref aa, .tuple ds)] H1 p1 (fun p hp => by rw [List.mem_singleton.mp hp]; exact .tup n1 e1 ra) ?_⟩
      rw [hK]
      intro B H hB hp
      have r := hp _ (List.mem_singleton.mpr rfl)
      cases r with
      | tup n2 e2 rb =>
        refine ⟨fun i hi => ⟨_, .of e2, by rw [rb.length]; exact hi⟩, fun i d hd => ?_⟩
        obtain ⟨v, hv, rv⟩ := rb.get hd
        refine ⟨⟨_, v, .of e2, hv⟩, fun x H' hy => ?_⟩
        obtain ⟨rfl, hx⟩ := hy
        have := hx _ (.of e2)
        rw [hv] at this
        cases this
        exact ⟨.refl _, rv⟩
  · cases e
theorem intsD_get {lo : Int} {n i : Nat} {d : D} (h : (intsD lo n)[i]? = some d) : i < n ∧ d = .int (lo + (i : Int)) := by
  unfold intsD at h
  rw [List.getElem?_map] at h
  by_cases hi : i < n
  · rw [List.getElem?_range hi] at h
    cases h
    exact ⟨hi, rfl⟩
  · rw [List.getElem?_eq_none (by simpa using hi)] at h
    cases h
theorem wk_range {lo : Int} {n : Nat} : Wk k (Itr lo n) [] (intsD lo n) := by
  intro B H hB hp
  refine ⟨fun i hi => ?_, fun i d hd => ?_⟩
  · have : (intsD lo n).length = n := by simp [intsD]
    rw [this] at hi
    exact hi
  · obtain ⟨hi, rfl⟩ := intsD_get hd
    refine ⟨hi, fun x H' hy => ?_⟩
    obtain ⟨rfl, rfl⟩ := hy
    exact ⟨.refl _, .int _⟩
theorem di_rg1 (hg : Gl X "range") (hm : X.mg "range" = none) (ha : PA X [a] (tL k f true ml)) (hs : starEach [a] X.env = [(false, eval a X.env)] := by rfl) : PI X tg (.Call (.Name "range" p) [a] [] pos) (tI k f (iRg1 ml)) :=
  pi_of (pi_range1 hg hm ha hs) fun σ H R ⟨ex, E, μ, g, ds, g', I, e, q⟩ => by
    unfold iRg1 at e
    split at e
    · rename_i j g1 h1
      split at e
      · rename_i hb
        cases e
        refine ⟨ex, E, μ, g, _, g', I, h1, fun v H1 p1 r1 => ?_⟩
        cases r1 with
        | cons r1 r2 =>
          cases r2
          cases r1
          exact ⟨j, rfl, hb.1, hb.2, q _ [] H1 p1 (fun p hp => by simp at hp) wk_range⟩
      · cases e
    · cases e
theorem di_rg2 {b : Expr} (hg : Gl X "range") (hm : X.mg "range" = none) (ha : PA X [a, b] (tL k f true ml)) (hs : starEach [a, b] X.env = [(false, eval a X.env), (false, eval b X.env)] := by rfl) (hs2 : starEach [b] X.env = [(false, eval b X.env)] := by rfl) : PI X tg (.Call (.Name "range" p) [a, b] [] pos) (tI k f (iRg2 ml)) :=
  pi_of (pi_range2 hg hm ha hs hs2) fun σ H R ⟨ex, E, μ, g, ds, g', I, e, q⟩ => by
    unfold iRg2 at e
    split at e
    · rename_i i j g1 h1
      split at e
      · rename_i hb
        cases e
        refine ⟨ex, E, μ, g, _, g', I, h1, fun v H1 p1 r1 => ?_⟩
        cases r1 with
        | cons r1 r2 =>
          cases r2 with
          | cons r2 r3 =>
            cases r3
            cases r1
            cases r2
            exact ⟨i, j, rfl, hb, q _ [] H1 p1 (fun p hp => by simp at hp) wk_range⟩
      · cases e
    · cases e
end
end DL

set_option Elab.async false
set_option linter.all false
set_option maxRecDepth 100000
set_option maxHeartbeats 1000000
namespace DL
open PySem PySem.Spec PyProof.Rows L2
/-! ### slots stored -/
theorem own_of_set {E : En} {i j : Nat} {d : D} {ds : List D} (h : (E.set i (.val d))[j]? = some (Sl.own ds)) : j ≠ i ∧ E[j]? = some (Sl.own ds) := by
  by_cases e : i = j
  · subst e
    by_cases hl : i < E.length
    · rw [List.getElem?_set_self hl] at h
      cases h
    · rw [List.getElem?_eq_none (by simpa using hl)] at h
      cases h
  · rw [List.getElem?_set_ne e] at h
    exact ⟨fun z => e z.symm, h⟩
section
variable {k : Kx} {f : Fx} {ex : List (V × D)} {E : En} {μ : Nat → Addr} {g : G} {σ : L2.St} {H : Hp}
theorem Rp.shrink {B B' : Addr → Prop} {v : V} {d : D} (h : ∀ b, B' b → B b) (r : Rp k H B v d) : Rp k H B' v d := Rp.mono (fun _ _ _ h => h) (fun b _ n _ z => n (h b z)) d v r
theorem RpA.shrink {B B' : Addr → Prop} {v : List V} {d : List D} (h : ∀ b, B' b → B b) (r : RpA k H B v d) : RpA k H B' v d := RpA.mono (fun _ _ _ h => h) (fun b _ n _ z => n (h b z)) d v r
theorem BE.set {sm : Bool} {i : Nat} {d : D} : ∀ b, BE f sm (E.set i (.val d)) μ b → BE f sm E μ b := fun b z => z.imp id fun ⟨s, j, ds, e, q⟩ => ⟨s, j, ds, (own_of_set e).2, q⟩
theorem Ist.setVal (I : Ist k f ex E μ g σ H) (i : Nat) {v : V} {d : D} (r : Rp k H (BE f true E μ) v d) : Ist k f ex (E.set i (.val d)) μ g (σ.set i (some v)) H where
  len := by rw [List.length_set, List.length_set]; exact I.len
  val := fun j d' e => by
    by_cases hj : i = j
    · subst hj
      by_cases hl : i < E.length
      · rw [List.getElem?_set_self hl] at e
        cases e
        exact ⟨v, List.getElem?_set_self (by rw [I.len]; exact hl), r.shrink BE.set⟩
      · rw [List.getElem?_eq_none (by simpa using hl)] at e
        cases e
    · rw [List.getElem?_set_ne hj] at e
      obtain ⟨u, h1, h2⟩ := I.val j d' e
      exact ⟨u, by rw [List.getElem?_set_ne hj]; exact h1, h2.shrink BE.set⟩
  own := fun j ds e => by
    obtain ⟨hj, e⟩ := own_of_set e
    obtain ⟨h1, h2, h3, vs, h4, h5⟩ := I.own j ds e
    exact ⟨by rw [List.getElem?_set_ne (Ne.symm hj)]; exact h1, h2, h3, vs, h4, h5.shrink BE.set⟩
  inj := fun a b ds es h1 h2 q => I.inj a b ds es (own_of_set h1).2 (own_of_set h2).2 q
  exs := fun p hp => (I.exs p hp).shrink BE.set
  ga := I.ga
  fr := I.fr
  b0 := I.b0
  bo := I.bo
theorem Ist.exS {ex' : List (V × D)} (I : Ist k f ex E μ g σ H) (h : ∀ p ∈ ex', Rp k H (BE f true E μ) p.1 p.2) : Ist k f ex' E μ g σ H := ⟨I.len, I.val, I.own, I.inj, h, I.ga, I.fr, I.b0, I.bo⟩
/-- a new list, one's own -/
theorem Ist.setOwn (I : Ist k f ex E μ g σ H) (i : Nat) (hi : i < E.length) {p : Addr} (hp : H p = none) {vs : List V} {ds : List D} (r : RpA k H (BE f true E μ) vs ds) :
    Ist k f ex (E.set i (.own ds)) (fun j => if j = i then p else μ j) g (σ.set i (some (.ref p))) (upd H p (.lst vs)) := by
  have sub : ∀ b, BE f true (E.set i (.own ds)) (fun j => if j = i then p else μ j) b → b ≠ p → BE f true E μ b := fun b z hb => by
    rcases z with z | ⟨s, j, es, e, q⟩
    · exact .inl z
    · by_cases hj : j = i
      · subst hj
        simp only [if_true] at q
        exact absurd q hb
      · rw [List.getElem?_set_ne (Ne.symm hj)] at e
        simp only [hj, if_false] at q
        exact .inr ⟨rfl, j, es, e, q⟩
  have up : ∀ {v : V} {d : D}, Rp k H (BE f true E μ) v d → Rp k (upd H p (.lst vs)) (BE f true (E.set i (.own ds)) (fun j => if j = i then p else μ j)) v d := fun {v d} r =>
    Rp.mono (fun b o _ h => by rw [upd_ne (ne_of_none h hp)]; exact h) (fun b o n h z => n (sub b z (ne_of_none h hp))) d v r
  have upA : ∀ {v : List V} {d : List D}, RpA k H (BE f true E μ) v d → RpA k (upd H p (.lst vs)) (BE f true (E.set i (.own ds)) (fun j => if j = i then p else μ j)) v d := fun {v d} r =>
    RpA.mono (fun b o _ h => by rw [upd_ne (ne_of_none h hp)]; exact h) (fun b o n h z => n (sub b z (ne_of_none h hp))) d v r
  have np : ∀ b, f.Bo b → b ≠ p := fun b z e => I.bo b z (by rw [e]; exact hp)
  refine ⟨by rw [List.length_set, List.length_set]; exact I.len, fun j d e => ?_, fun j es e => ?_, fun a b es fs h1 h2 q => ?_, fun q hq => up (I.exs q hq), ?_, fun b o n h => ?_, I.b0, fun b z => ?_⟩
  · by_cases hj : i = j
    · subst hj
      rw [List.getElem?_set_self hi] at e
      cases e
    · rw [List.getElem?_set_ne hj] at e
      obtain ⟨u, h1, h2⟩ := I.val j d e
      exact ⟨u, by rw [List.getElem?_set_ne hj]; exact h1, up h2⟩
  · by_cases hj : j = i
    · subst hj
      rw [List.getElem?_set_self hi] at e
      cases e
      simp only [if_true]
      refine ⟨List.getElem?_set_self (by rw [I.len]; exact hi), ?_, fun z => np p z rfl, vs, upd_same, upA r⟩
      cases h0 : f.H0 p with
      | none => rfl
      | some o =>
        by_cases hb : B0 k p
        · exact absurd hp (I.ga.has hb)
        · rw [I.fr p o hb h0] at hp
          cases hp
    · rw [List.getElem?_set_ne (Ne.symm hj)] at e
      obtain ⟨h1, h2, h3, ws, h4, h5⟩ := I.own j es e
      simp only [hj, if_false]
      exact ⟨by rw [List.getElem?_set_ne (Ne.symm hj)]; exact h1, h2, h3, ws, by rw [upd_ne (ne_of_none h4 hp)]; exact h4, upA h5⟩
  · have nm : ∀ c cs, c ≠ i → (E.set i (.own ds))[c]? = some (Sl.own cs) → μ c ≠ p := fun c cs hc h => by
      rw [List.getElem?_set_ne (Ne.symm hc)] at h
      obtain ⟨_, _, _, ws, h4, _⟩ := I.own c cs h
      exact ne_of_none h4 hp
    by_cases ha : a = i
    · by_cases hb : b = i
      · rw [ha, hb]
      · simp only [ha, hb, if_true, if_false] at q
        exact absurd q.symm (nm b fs hb h2)
    · by_cases hb : b = i
      · simp only [ha, hb, if_true, if_false] at q
        exact absurd q (nm a es ha h1)
      · simp only [ha, hb, if_false] at q
        rw [List.getElem?_set_ne (Ne.symm ha)] at h1
        rw [List.getElem?_set_ne (Ne.symm hb)] at h2
        exact I.inj a b es fs h1 h2 q
  · exact I.ga.same (Same.upd hp)
  · rw [upd_ne (ne_of_none (I.fr b o n h) hp)]
    exact I.fr b o n h
  · rw [upd_ne (np b z)]
    exact I.bo b z
/-- one's own list gets other items -/
theorem Ist.write (I : Ist k f ex E μ g σ H) {i : Nat} {es : List D} (hi : E[i]? = some (Sl.own es)) {vs : List V} {ds : List D} (r : RpA k H (BE f true E μ) vs ds) : Ist k f ex (E.set i (.own ds)) μ g σ (upd H (μ i) (.lst vs)) := by
  obtain ⟨s1, s2, s3, ws, s4, s5⟩ := I.own i es hi
  have hl : i < E.length := (List.getElem?_eq_some_iff.mp hi).1
  have sub : ∀ b, BE f true (E.set i (.own ds)) μ b → BE f true E μ b := fun b z => by
    rcases z with z | ⟨s, j, fs, e, q⟩
    · exact .inl z
    · by_cases hj : j = i
      · subst hj
        exact .inr ⟨rfl, j, es, hi, q⟩
      · rw [List.getElem?_set_ne (Ne.symm hj)] at e
        exact .inr ⟨rfl, j, fs, e, q⟩
  have inB : BE f true E μ (μ i) := .inr ⟨rfl, i, es, hi, rfl⟩
  have up : ∀ {v : V} {d : D}, Rp k H (BE f true E μ) v d → Rp k (upd H (μ i) (.lst vs)) (BE f true (E.set i (.own ds)) μ) v d := fun {v d} r =>
    Rp.mono (fun b o n h => by rw [upd_ne (fun e => n (by rw [e]; exact inB))]; exact h) (fun b o n h z => n (sub b z)) d v r
  have upA : ∀ {v : List V} {d : List D}, RpA k H (BE f true E μ) v d → RpA k (upd H (μ i) (.lst vs)) (BE f true (E.set i (.own ds)) μ) v d := fun {v d} r =>
    RpA.mono (fun b o n h => by rw [upd_ne (fun e => n (by rw [e]; exact inB))]; exact h) (fun b o n h z => n (sub b z)) d v r
  have nb : ∀ b, f.Bo b → b ≠ μ i := fun b z e => s3 (by rw [← e]; exact z)
  have n0 : ∀ b, B0 k b → b ≠ μ i := fun b z => nb b (I.b0 b z)
  refine ⟨by rw [List.length_set]; exact I.len, fun j d e => ?_, fun j fs e => ?_, fun a b p q h1 h2 e => ?_, fun q hq => up (I.exs q hq), ?_, fun b o n h => ?_, I.b0, fun b z => ?_⟩
  · by_cases hj : i = j
    · subst hj
      rw [List.getElem?_set_self hl] at e
      cases e
    · rw [List.getElem?_set_ne hj] at e
      obtain ⟨u, h1, h2⟩ := I.val j d e
      exact ⟨u, h1, up h2⟩
  · by_cases hj : j = i
    · subst hj
      rw [List.getElem?_set_self hl] at e
      cases e
      exact ⟨s1, s2, s3, vs, upd_same, upA r⟩
    · rw [List.getElem?_set_ne (Ne.symm hj)] at e
      obtain ⟨h1, h2, h3, us, h4, h5⟩ := I.own j fs e
      exact ⟨h1, h2, h3, us, by rw [upd_ne (fun z => hj (I.inj j i fs es e hi z))]; exact h4, upA h5⟩
  · have back : ∀ c cs, (E.set i (.own ds))[c]? = some (Sl.own cs) → ∃ cs', E[c]? = some (Sl.own cs') := fun c cs h => by
      by_cases hc : c = i
      · exact ⟨es, by rw [hc]; exact hi⟩
      · rw [List.getElem?_set_ne (Ne.symm hc)] at h
        exact ⟨cs, h⟩
    obtain ⟨_, b1⟩ := back a p h1
    obtain ⟨_, b2⟩ := back b q h2
    exact I.inj a b _ _ b1 b2 e
  · exact ⟨fun ho => by rw [upd_ne (n0 _ (.inl ⟨ho, rfl⟩))]; exact I.ga.b ho, fun ho => by rw [upd_ne (n0 _ (.inr (.inl ⟨ho, rfl⟩)))]; exact I.ga.c ho, fun P hP => by
      obtain ⟨ps, e, t⟩ := I.ga.t P hP
      exact ⟨ps, by rw [upd_ne (n0 P (.inr (.inr hP)))]; exact e, t⟩⟩
  · by_cases hb : b = μ i
    · rw [hb, s2] at h
      cases h
    · rw [upd_ne hb]
      exact I.fr b o n h
  · rw [upd_ne (nb b z)]
    exact I.bo b z
/-- no longer written: a value -/
theorem Ist.freeze (I : Ist k f ex E μ g σ H) {i : Nat} {ds : List D} (hi : E[i]? = some (Sl.own ds)) : Ist k f ex (E.set i (.val (.list ds))) μ g σ H := by
  obtain ⟨s1, s2, s3, ws, s4, s5⟩ := I.own i ds hi
  have hl : i < E.length := (List.getElem?_eq_some_iff.mp hi).1
  refine ⟨by rw [List.length_set]; exact I.len, fun j d e => ?_, fun j fs e => ?_, fun a b p q h1 h2 e => I.inj a b p q (own_of_set h1).2 (own_of_set h2).2 e, fun q hq => (I.exs q hq).shrink BE.set, I.ga, I.fr, I.b0, I.bo⟩
  · by_cases hj : i = j
    · subst hj
      rw [List.getElem?_set_self hl] at e
      cases e
      refine ⟨_, s1, .lst (fun z => ?_) s4 (s5.shrink BE.set)⟩
      rcases z with z | ⟨_, j, fs, e, q⟩
      · exact s3 z
      · obtain ⟨hj, e⟩ := own_of_set e
        exact hj (I.inj j i fs ds e hi q.symm)
    · rw [List.getElem?_set_ne hj] at e
      obtain ⟨u, h1, h2⟩ := I.val j d e
      exact ⟨u, h1, h2.shrink BE.set⟩
  · obtain ⟨hj, e⟩ := own_of_set e
    obtain ⟨h1, h2, h3, us, h4, h5⟩ := I.own j fs e
    exact ⟨h1, h2, h3, us, h4, h5.shrink BE.set⟩
end

/-! ### targets -/
inductive Tg where
  | one (i : Nat) | many (is : List Nat) | manyL (is : List Nat)
def Tg.parts : Tg → D → Option (List (Nat × D))
  | .one i, d => some [(i, d)]
  | .many is, .tuple ds => if is.length = ds.length then some (is.zip ds) else none
  | .many _, _ => none
  | .manyL is, .list ds => if is.length = ds.length then some (is.zip ds) else none
  | .manyL _, _ => none
def setsE : List (Nat × D) → En → En
  | [], E => E
  | (i, d) :: r, E => setsE r (E.set i (.val d))
def setsS : List (Nat × V) → L2.St → L2.St
  | [], σ => σ
  | (i, v) :: r, σ => setsS r (σ.set i (some v))
section
variable {k : Kx} {f : Fx} {ex : List (V × D)} {E : En} {μ : Nat → Addr} {g : G} {σ : L2.St} {H : Hp}
theorem Ist.sets : ∀ (ps : List (Nat × D)) {E : En} {σ : L2.St} {vs : List V}, Ist k f ex E μ g σ H → RpA k H (BE f true E μ) vs (ps.map (·.2)) → Ist k f ex (setsE ps E) μ g (setsS ((ps.map (·.1)).zip vs) σ) H
  | [], E, σ, vs, I, r => by
    cases r
    exact I
  | (i, d) :: ps, E, σ, vs, I, r => by
    cases r with
    | cons r1 r2 => exact Ist.sets ps (I.setVal i r1) (r2.shrink BE.set)
end
def tG (k : Kx) (f : Fx) (tg : Tg) : TG := fun v σ H Q => ∃ ex E μ g d ps, Ist k f ex E μ g σ H ∧ Rp k H (BE f true E μ) v d ∧ tg.parts d = some ps ∧ ∀ vs, RpA k H (BE f true E μ) vs (ps.map (·.2)) → Q (setsS ((ps.map (·.1)).zip vs) σ) H
theorem pg_of {X : Cx} {e : Expr} {t t' : TG} (h : PG X e t) (w : ∀ v σ H Q, t' v σ H Q → t v σ H Q) : PG X e t' := ⟨fun pins s σ H v u Q I r q => h.run pins s σ H v u Q I r (w v σ H Q q)⟩
section
variable {k : Kx} {f : Fx} {X : Cx} {pos : Pos}
theorem dg_name {i : Nat} {x : Str} (hN : X.N.Nodup) (hi : X.N[i]? = some x) (hx : Loc X.env.scope x) (hf : X.fn x = true ∨ X.env.scope.names.lookup x = some .local := by first | exact .inl rfl | exact .inr rfl | assumption) : PG X (.Name x pos) (tG k f (.one i)) :=
  pg_of (pg_name hN hi hx hf) fun v σ H Q ⟨ex, E, μ, g, d, ps, I, r, e, q⟩ => by
    cases e
    exact q [v] (.cons r .nil)
def gsN : List Nat → TGs
  | [] => gNil
  | i :: r => gCons (gName i) (gsN r)
theorem gsN_ok : ∀ (is : List Nat) (vs : List V) (σ : L2.St) (H : Hp) (Q : L2.St → Hp → Prop), vs.length = is.length → Q (setsS (is.zip vs) σ) H → gsN is vs σ H Q
  | [], vs, σ, H, Q, hl, q => by
    cases vs with
    | nil => exact ⟨rfl, q⟩
    | cons _ _ => simp at hl
  | i :: is, vs, σ, H, Q, hl, q => by
    cases vs with
    | nil => simp at hl
    | cons v r => exact ⟨v, r, rfl, gsN_ok is r _ H Q (by simpa using hl) q⟩
theorem map_zip_fst : ∀ (is : List Nat) (ds : List D), is.length = ds.length → (is.zip ds).map (·.1) = is
  | [], _, _ => rfl
  | i :: is, ds, h => by
    cases ds with
    | nil => simp at h
    | cons d r => simp only [List.zip_cons_cons, List.map_cons]; rw [map_zip_fst is r (by simpa using h)]
theorem map_zip_snd : ∀ (is : List Nat) (ds : List D), is.length = ds.length → (is.zip ds).map (·.2) = ds
  | [], ds, h => by
    cases ds with
    | nil => rfl
    | cons d r => simp at h
  | i :: is, ds, h => by
    cases ds with
    | nil => simp at h
    | cons d r => simp only [List.zip_cons_cons, List.map_cons]; rw [map_zip_snd is r (by simpa using h)]
theorem dg_tup (hK : X.K = k.K) {es : List Expr} {j : Nat} {is : List Nat} (hc : X.calm = true) (h : PGs X es (gsN is)) (hn : (assignEach es X.env).length = is.length := by rfl) (hst : (assignEach es X.env).findIdx? (·.1) = none := by rfl) : PG X (.Tuple es j pos) (tG k f (.many is)) :=
  pg_of (pg_tup hc h hn hst) fun v σ H Q ⟨ex, E, μ, g, d, ps, I, r, e, q⟩ => by
    unfold Tg.parts at e
    split at e
    · cases ‹Tg.many is = _›
    · rename_i is' ds he
      cases he
      split at e
      · rename_i hl
        cases e
        cases r with
        | tup n1 e1 ra =>
          rename_i a xs _w
          refine ⟨a, xs, rfl, by rw [hK]; exact .of e1, ra.length.trans hl.symm, gsN_ok is xs σ H Q (ra.length.trans hl.symm) ?_⟩
          have := q xs (by rw [map_zip_snd is ds hl]; exact ra)
          rw [map_zip_fst is ds hl] at this
          exact this
      · cases e
    · cases e
    · cases ‹Tg.many is = _›
    · cases e
theorem dg_lst (hK : X.K = k.K) {es : List Expr} {j : Nat} {is : List Nat} (hc : X.calm = true) (h : PGs X es (gsN is)) (hn : (assignEach es X.env).length = is.length := by rfl) (hst : (assignEach es X.env).findIdx? (·.1) = none := by rfl) : PG X (.Tuple es j pos) (tG k f (.manyL is)) :=
  pg_of (pg_unl hc h hn hst) fun v σ H Q ⟨ex, E, μ, g, d, ps, I, r, e, q⟩ => by
    unfold Tg.parts at e
    split at e
    · cases ‹Tg.manyL is = _›
    · cases ‹Tg.manyL is = _›
    · cases ‹Tg.manyL is = _›
    · rename_i is' ds he
      cases he
      split at e
      · rename_i hl
        cases e
        cases r with
        | lst n1 e1 ra =>
          rename_i a xs _w
          refine ⟨a, xs, rfl, by rw [hK]; exact .of e1, ra.length.trans hl.symm, gsN_ok is xs σ H Q (ra.length.trans hl.symm) ?_⟩
          have := q xs (by rw [map_zip_snd is ds hl]; exact ra)
          rw [map_zip_fst is ds hl] at this
          exact this
      · cases e
    · cases e
end

/-! ### statements -/
inductive Fl where
  | nx | ret (d : D) | bk | ct
abbrev MS := En → G → Option (Fl × En × G)
def endS (k : Kx) (f : Fx) (ex : List (V × D)) (Dn : Ends) (r : Fl × En × G) : Prop := match r.1 with
  | .nx => ∀ σ μ H, Ist k f ex r.2.1 μ r.2.2 σ H → Dn.nx σ H
  | .bk => ∀ σ μ H, Ist k f ex r.2.1 μ r.2.2 σ H → Dn.bk σ H
  | .ct => ∀ σ μ H, Ist k f ex r.2.1 μ r.2.2 σ H → Dn.ct σ H
  | .ret d => ∀ v H, Fr0 k f.H0 H → GA k H r.2.2 → Rp k H f.Bo v d → Dn.rt v H
def tS (k : Kx) (f : Fx) (ex : List (V × D)) (m : MS) : TS := fun Dn σ H => ∃ E μ g r, Ist k f ex E μ g σ H ∧ m E g = some r ∧ endS k f ex Dn r
def sNx : MS := fun E g => some (.nx, E, g)
def sBk : MS := fun E g => some (.bk, E, g)
def sCt : MS := fun E g => some (.ct, E, g)
def sSeq (a b : MS) : MS := fun E g => match a E g with
  | none => none
  | some (.nx, E1, g1) => b E1 g1
  | some r => some r
def sSet (i : Nat) (m : M) : MS := fun E g => match m E g with
  | none => none
  | some (d, g1) => some (.nx, E.set i (.val d), g1)
def sOwn (i : Nat) (m : ML) : MS := fun E g => match m E g with
  | none => none
  | some (ds, g1) => if i < E.length then some (.nx, E.set i (.own ds), g1) else none
def sApp (i : Nat) (m : M) : MS := fun E g => match m E g with
  | none => none
  | some (d, g1) => match E[i]? with
    | some (.own ds) => if ds.length < sizeLine then some (.nx, E.set i (.own (ds ++ [d])), g1) else none
    | _ => none
def sDrop (m : M) : MS := fun E g => match m E g with
  | none => none
  | some (_, g1) => some (.nx, E, g1)
def sRet (m : M) : MS := fun E g => match m E g with
  | none => none
  | some (d, g1) => some (.ret d, E, g1)
def sRetN : MS := fun E g => some (.ret .none, E, g)
def sIf (c : MT) (a b : MS) : MS := fun E g => match c E g with
  | none => none
  | some (true, g1) => a E g1
  | some (false, g1) => b E g1
def sAsg (tg : Tg) (m : M) : MS := fun E g => match m E g with
  | none => none
  | some (d, g1) => match tg.parts d with
    | none => none
    | some ps => some (.nx, setsE ps E, g1)
def sPar (is : List Nat) (m : ML) : MS := fun E g => match m E g with
  | none => none
  | some (ds, g1) => if is.length = ds.length then some (.nx, setsE (is.zip ds) E, g1) else none
def sAug (i : Nat) (h : D → D → Option D) (m : M) : MS := fun E g => match E[i]? with
  | some (.val x) => match m E g with
    | none => none
    | some (y, g1) => match h x y with
      | none => none
      | some z => some (.nx, E.set i (.val z), g1)
  | _ => none
def sFrz (i : Nat) (m : MS) : MS := fun E g => match E[i]? with
  | some (.own ds) => m (E.set i (.val (.list ds))) g
  | _ => none
def forL (tg : Tg) (b : MS) : List D → MS
  | [], E, g => some (.nx, E, g)
  | d :: r, E, g => match tg.parts d with
    | none => none
    | some ps => match b (setsE ps E) g with
      | none => none
      | some (.nx, E1, g1) => forL tg b r E1 g1
      | some (.ct, E1, g1) => forL tg b r E1 g1
      | some (.bk, E1, g1) => some (.nx, E1, g1)
      | some (.ret x, E1, g1) => some (.ret x, E1, g1)
def sFor (tg : Tg) (m : ML) (b : MS) : MS := fun E g => match m E g with
  | none => none
  | some (ds, g1) => forL tg b ds E g1
def whL (c : MT) (b : MS) : Nat → MS
  | 0, _, _ => none
  | n + 1, E, g => match c E g with
    | none => none
    | some (false, g1) => some (.nx, E, g1)
    | some (true, g1) => match b E g1 with
      | none => none
      | some (.nx, E1, g2) => whL c b n E1 g2
      | some (.ct, E1, g2) => whL c b n E1 g2
      | some (.bk, E1, g2) => some (.nx, E1, g2)
      | some (.ret x, E1, g2) => some (.ret x, E1, g2)
def sWhile (fu : En → G → Nat) (c : MT) (b : MS) : MS := fun E g => whL c b (fu E g) E g
section
variable {k : Kx} {f : Fx} {ex : List (V × D)} {X : Cx} {pos p2 : Pos} {e : Expr} {st : Stmt} {sts ss : List Stmt} {m : M} {ml : ML} {a b : MS} {c : MT}
theorem dss_nil : PSs X [] (tS k f ex sNx) := pss_of pss_nil fun Dn σ H ⟨E, μ, g, r, I, e, q⟩ => by cases e; exact q σ μ H I
theorem ds_pass : PS X (.Pass pos) (tS k f ex sNx) := ps_of ps_pass fun Dn σ H ⟨E, μ, g, r, I, e, q⟩ => by cases e; exact q σ μ H I
theorem ds_break : PS X (.Break pos) (tS k f ex sBk) := ps_of ps_break fun Dn σ H ⟨E, μ, g, r, I, e, q⟩ => by cases e; exact q σ μ H I
theorem ds_cont : PS X (.Continue pos) (tS k f ex sCt) := ps_of ps_continue fun Dn σ H ⟨E, μ, g, r, I, e, q⟩ => by cases e; exact q σ μ H I
/-- code that is never come to -/
def sNo : MS := fun _ _ => none
theorem dss_no : PSs X sts (tS k f ex sNo) := pss_of pss_never fun Dn σ H ⟨E, μ, g, r, I, e, q⟩ => by cases e
theorem ds_no : PS X st (tS k f ex sNo) := ps_of ps_never fun Dn σ H ⟨E, μ, g, r, I, e, q⟩ => by cases e
theorem dss_cons (h1 : PS X st (tS k f ex a)) (h2 : PSs X sts (tS k f ex b)) : PSs X (st :: sts) (tS k f ex (sSeq a b)) := pss_of (pss_cons h1 h2) fun Dn σ H ⟨E, μ, g, r, I, e, q⟩ => by
  unfold sSeq at e
  split at e
  · cases e
  · rename_i E1 g1 h
    exact ⟨E, μ, g, _, I, h, fun σ1 μ1 H1 I1 => ⟨E1, μ1, g1, r, I1, e, q⟩⟩
  · rename_i r1 hr h
    cases e
    refine ⟨E, μ, g, _, I, h, ?_⟩
    obtain ⟨fl, E1, g1⟩ := r
    cases fl with
    | nx => exact absurd rfl (hr E1 g1)
    | bk => exact q
    | ct => exact q
    | ret d => exact q
theorem dss_one (h1 : PS X st (tS k f ex a)) : PSs X [st] (tS k f ex a) := pss_one h1
theorem ds_set {i : Nat} {x : Str} {pos' : Pos} (hN : X.N.Nodup) (hi : X.N[i]? = some x) (hx : Loc X.env.scope x) (he : PE X e (tE k f true m)) (hs : swapsWith e (some (.Name x pos')) pos.line X.env = pure false := by rfl) (hf : X.fn x = true ∨ X.env.scope.names.lookup x = some .local := by first | exact .inl rfl | exact .inr rfl | assumption) :
    PS X (.Assign [.Name x pos'] e pos) (tS k f ex (sSet i m)) := ps_of (ps_set hN hi hx he hs hf) fun Dn σ H ⟨E, μ, g, r, I, e, q⟩ => by
  unfold sSet at e
  split at e
  · cases e
  · rename_i d g1 h
    cases e
    exact ⟨ex, E, μ, g, d, g1, I, h, fun v H1 p1 r1 => q _ μ H1 ((I.step p1).setVal i r1)⟩
theorem ds_own {i : Nat} {x : Str} {pos' : Pos} (hN : X.N.Nodup) (hi : X.N[i]? = some x) (hx : Loc X.env.scope x) (he : PE X e (tN k f true ml)) (hs : swapsWith e (some (.Name x pos')) pos.line X.env = pure false := by rfl) (hf : X.fn x = true ∨ X.env.scope.names.lookup x = some .local := by first | exact .inl rfl | exact .inr rfl | assumption) :
    PS X (.Assign [.Name x pos'] e pos) (tS k f ex (sOwn i ml)) := ps_of (ps_set hN hi hx he hs hf) fun Dn σ H ⟨E, μ, g, r, I, e, q⟩ => by
  unfold sOwn at e
  split at e
  · cases e
  · rename_i d g1 h
    split at e
    · rename_i hl
      cases e
      exact ⟨ex, E, μ, g, d, g1, I, h, fun p vs H1 p1 hp r1 => q _ _ _ ((I.step p1).setOwn i hl hp r1)⟩
    · cases e
theorem ds_app {i : Nat} {x : Str} {p p3 : Pos} (hN : X.N[i]? = some x) (he : PE X e (tE k f true m)) (hv : Vis X.env.scope x := by first | exact Or.inl rfl | exact Or.inr (Or.inl rfl) | exact Or.inr (Or.inr rfl)) (hd : (x == ("__debug__" : Str)) = false := by decide)
    (hcd : (x == ("__classdict__" : Str)) = false := by decide) (h0 : starEach [e] X.env = (false, eval e X.env) :: starEach [] X.env := by rfl) (hb : ∀ {t}, PE X (.Call (.Attribute (.Name x p) "append" p2) [e] [] p3) t → PE X (.Call (.Attribute (.Name x p) "append" p2) [e] [] p3) t := by exact fun h => h)
    (hm : PE X (.Call (.Attribute (.Name x p) "append" p2) [e] [] p3) (tBM X.K "list" rAppend (tVar i) (tCons (tE k f true m) tNil))) (hs : swapsWith (.Call (.Attribute (.Name x p) "append" p2) [e] [] p3) none pos.line X.env = pure false := by rfl) :
    PS X (.Expr (.Call (.Attribute (.Name x p) "append" p2) [e] [] p3) pos) (tS k f ex (sApp i m)) := ps_of (ps_expr hm hs) fun Dn σ H ⟨E, μ, g, r, I, e, q⟩ => by
  unfold sApp at e
  split at e
  · cases e
  · rename_i d g1 h
    split at e
    · rename_i ds hi
      split at e
      · rename_i hl
        cases e
        obtain ⟨s1, s2, s3, ws, s4, s5⟩ := I.own i ds hi
        refine ⟨_, s1, .inl ⟨rfl, _, .inl (.inl s4)⟩, ex, E, μ, g, d, g1, I, h, fun v H1 p1 r1 => ?_⟩
        have I1 := I.step p1
        obtain ⟨t1, t2, t3, us, t4, t5⟩ := I1.own i ds hi
        refine ⟨_, us, v, rfl, rfl, t4, by rw [t5.length]; exact hl, ?_⟩
        exact q _ μ _ (I1.write hi (t5.append (.cons r1 .nil)))
      · cases e
    · cases e
theorem ds_drop (he : PE X e (tE k f true m)) (hs : swapsWith e none pos.line X.env = pure false := by rfl) : PS X (.Expr e pos) (tS k f ex (sDrop m)) := ps_of (ps_expr he hs) fun Dn σ H ⟨E, μ, g, r, I, e, q⟩ => by
  unfold sDrop at e
  split at e
  · cases e
  · rename_i d g1 h
    cases e
    exact ⟨ex, E, μ, g, d, g1, I, h, fun v H1 p1 r1 => q _ μ _ (I.step p1)⟩
theorem ds_ret (he : PE X e (tE k f false m)) : PS X (.Return (some e) pos) (tS k f ex (sRet m)) := ps_of (ps_ret he) fun Dn σ H ⟨E, μ, g, r, I, e, q⟩ => by
  unfold sRet at e
  split at e
  · cases e
  · rename_i d g1 h
    cases e
    exact ⟨ex, E, μ, g, d, g1, I, h, fun v H1 p1 r1 => q v H1 (I.fr.trans p1.fr) p1.ga (r1.shrink fun b z => .inl z)⟩
theorem ds_retN : PS X (.Return none pos) (tS k f ex sRetN) := ps_of ps_retN fun Dn σ H ⟨E, μ, g, r, I, e, q⟩ => by
  cases e
  exact q _ H I.fr I.ga .non
theorem ds_if {t : Expr} (hc : PT X t (tT k f c)) (ha : PSs X ss (tS k f ex a)) (hb : PSs X sts (tS k f ex b)) : PS X (.If t ss sts pos) (tS k f ex (sIf c a b)) := ps_of (ps_if hc ha hb) fun Dn σ H ⟨E, μ, g, r, I, e, q⟩ => by
  unfold sIf at e
  split at e
  · cases e
  · rename_i g1 h
    exact ⟨ex, E, μ, g, _, g1, I, h, fun H1 p1 => iteT ⟨E, μ, g1, r, I.step p1, e, q⟩⟩
  · rename_i g1 h
    exact ⟨ex, E, μ, g, _, g1, I, h, fun H1 p1 => iteF ⟨E, μ, g1, r, I.step p1, e, q⟩⟩
theorem ds_asg {tgE : Expr} {tg : Tg} (he : PE X e (tE k f true m)) (hg : PG X tgE (tG k f tg)) (hs : swapsWithSole [tgE] e pos.line X.env = pure false := by rfl) (hw : swappedStores [tgE] e X.env = pure none := by rfl)
    (h1 : (assignEach [tgE] X.env).map (·.2) = [assign tgE X.env] := by rfl) : PS X (.Assign [tgE] e pos) (tS k f ex (sAsg tg m)) := ps_of (ps_asg he hg hs hw h1) fun Dn σ H ⟨E, μ, g, r, I, e, q⟩ => by
  unfold sAsg at e
  split at e
  · cases e
  · rename_i d g1 h
    split at e
    · cases e
    · rename_i ps hp
      cases e
      exact ⟨ex, E, μ, g, d, g1, I, h, fun v H1 p1 r1 => ⟨ex, E, μ, g1, d, ps, I.step p1, r1, hp, fun vs rv => q _ μ _ ((I.step p1).sets ps rv)⟩⟩
theorem ds_par2 {i j : Nat} {x y : Str} {e1 e2 : Expr} {px py pt : Pos} {kt k2 : Nat} {pt2 : Pos} (hc : X.calm = true) (hN : X.N.Nodup) (hi : X.N[i]? = some x) (hj : X.N[j]? = some y) (hij : i ≠ j)
    (hx : X.env.scope.names.lookup x = some .local) (hy : X.env.scope.names.lookup y = some .local) (ha : PA X [e1, e2] (tL k f true ml))
    (hw : swappedStores [.Tuple [.Name x px, .Name y py] kt pt] (.Tuple [e1, e2] k2 pt2) X.env = pure (some [x, y]))
    (hs : swapsWithSole [.Tuple [.Name x px, .Name y py] kt pt] (.Tuple [e1, e2] k2 pt2) pos.line X.env = pure false := by rfl) :
    PS X (.Assign [.Tuple [.Name x px, .Name y py] kt pt] (.Tuple [e1, e2] k2 pt2) pos) (tS k f ex (sPar [i, j] ml)) := ps_of (ps_par hc hN hi hj hij hx hy ha hw hs) fun Dn σ H ⟨E, μ, g, r, I, e, q⟩ => by
  unfold sPar at e
  split at e
  · cases e
  · rename_i ds g1 h
    split at e
    · rename_i hl
      cases e
      refine ⟨ex, E, μ, g, ds, g1, I, h, fun vs H1 p1 r1 => ?_⟩
      have hv := r1.length
      match ds, hl, vs, r1, hv with
      | [d1, d2], _, [v1, v2], r1, _ => exact ⟨v1, v2, rfl, q _ μ _ ((I.step p1).sets [(i, d1), (j, d2)] r1)⟩
    · cases e
theorem ds_par3 {i j l : Nat} {x y z : Str} {e1 e2 e3 : Expr} {px py pz pt : Pos} {kt k2 : Nat} {pt2 : Pos} (hc : X.calm = true) (hN : X.N.Nodup) (hi : X.N[i]? = some x) (hj : X.N[j]? = some y) (hl : X.N[l]? = some z) (hij : i ≠ j) (hil : i ≠ l) (hjl : j ≠ l)
    (hx : X.env.scope.names.lookup x = some .local) (hy : X.env.scope.names.lookup y = some .local) (hz : X.env.scope.names.lookup z = some .local) (ha : PA X [e1, e2, e3] (tL k f true ml))
    (hw : swappedStores [.Tuple [.Name x px, .Name y py, .Name z pz] kt pt] (.Tuple [e1, e2, e3] k2 pt2) X.env = pure (some [x, y, z]))
    (hs : swapsWithSole [.Tuple [.Name x px, .Name y py, .Name z pz] kt pt] (.Tuple [e1, e2, e3] k2 pt2) pos.line X.env = pure false := by rfl) :
    PS X (.Assign [.Tuple [.Name x px, .Name y py, .Name z pz] kt pt] (.Tuple [e1, e2, e3] k2 pt2) pos) (tS k f ex (sPar [i, j, l] ml)) := ps_of (ps_par3 hc hN hi hj hl hij hil hjl hx hy hz ha hw hs) fun Dn σ H ⟨E, μ, g, r, I, e, q⟩ => by
  unfold sPar at e
  split at e
  · cases e
  · rename_i ds g1 h
    split at e
    · rename_i hl
      cases e
      refine ⟨ex, E, μ, g, ds, g1, I, h, fun vs H1 p1 r1 => ?_⟩
      have hv := r1.length
      match ds, hl, vs, r1, hv with
      | [d1, d2, d3], _, [v1, v2, v3], r1, _ => exact ⟨v1, v2, v3, rfl, q _ μ _ ((I.step p1).sets [(i, d1), (j, d2), (l, d3)] r1)⟩
    · cases e
theorem ds_aug {i : Nat} {x : Str} {op : Operator} {r : R2} {h : D → D → Option D} {pos' : Pos} (hN : X.N.Nodup) (hi : X.N[i]? = some x) (hx : Loc X.env.scope x) (he : PE X e (tE k f true m)) (ho : OpR X (inplaceOp op) r) (hr : OpD k r h)
    (hf : X.fn x = true ∨ X.env.scope.names.lookup x = some .local := by first | exact .inl rfl | exact .inr rfl | assumption) : PS X (.AugAssign (.Name x pos') op e pos) (tS k f ex (sAug i h m)) :=
  ps_of (ps_aug (ti := r) hN hi hx he (fun pins s σ H x y v u Q I r1 r2 w => ho pins s σ H x y v u Q I r1 r2 w) hf) fun Dn σ H ⟨E, μ, g, rr, I, e, q⟩ => by
  unfold sAug at e
  split at e
  · rename_i x0 hx0
    split at e
    · cases e
    · rename_i y g1 h1
      split at e
      · cases e
      · rename_i z hz
        cases e
        obtain ⟨v0, hv, rv⟩ := I.val i x0 hx0
        refine ⟨v0, hv, ex, E, μ, g, y, g1, I, h1, fun u H1 p1 r1 => ?_⟩
        have I1 := I.step p1
        refine hr (BE f true E μ) H1 v0 u x0 y z _ (fun b z => I1.be true z) (rv.step (I.hb true) p1.fr) r1 hz fun w H2 s2 r2 => ?_
        exact q _ μ _ ((I1.step (.same s2 I1.ga)).setVal i r2)
  · cases e
theorem dss_frz {i : Nat} (h : PSs X sts (tS k f ex a)) : PSs X sts (tS k f ex (sFrz i a)) := pss_of h fun Dn σ H ⟨E, μ, g, r, I, e, q⟩ => by
  unfold sFrz at e
  split at e
  · rename_i ds hi
    exact ⟨_, μ, g, r, I.freeze hi, e, q⟩
  · cases e
theorem ds_while {t : Expr} {fu : En → G → Nat} (hp : PassesOwn (model X.prog X.w) X.A X.env X.xe) (hc : PT X t (tT k f c)) (hb : PSs X sts (tS k f ex b)) : PS X (.While t sts [] pos) (tS k f ex (sWhile fu c b)) := ps_of (ps_while hp hc hb) fun Dn σ H ⟨E, μ, g, r, I, e, q⟩ => by
  refine ⟨fun m σ H => ∃ E μ g, Ist k f ex E μ g σ H ∧ whL c b m E g = some r, ⟨fu E g, E, μ, g, I, e⟩, ?_⟩
  rintro m σ H ⟨E, μ, g, I, e⟩
  cases m with
  | zero => cases e
  | succ m =>
    unfold whL at e
    split at e
    · cases e
    · rename_i g1 h
      cases e
      exact ⟨ex, E, μ, g, _, g1, I, h, fun H1 p1 => iteF (q σ μ H1 (I.step p1))⟩
    · rename_i g1 h
      refine ⟨ex, E, μ, g, _, g1, I, h, fun H1 p1 => iteT ⟨fun σ H => ∃ E μ g, Ist k f ex E μ g σ H ∧ whL c b m E g = some r, fun σ' H' w => ⟨m, Nat.lt_succ_self m, w⟩, ?_⟩⟩
      split at e
      · cases e
      · rename_i E1 g2 h2
        exact ⟨E, μ, g1, _, I.step p1, h2, fun σ2 μ2 H2 I2 => ⟨E1, μ2, g2, I2, e⟩⟩
      · rename_i E1 g2 h2
        exact ⟨E, μ, g1, _, I.step p1, h2, fun σ2 μ2 H2 I2 => ⟨E1, μ2, g2, I2, e⟩⟩
      · rename_i E1 g2 h2
        cases e
        exact ⟨E, μ, g1, _, I.step p1, h2, fun σ2 μ2 H2 I2 => q σ2 μ2 H2 I2⟩
      · rename_i x E1 g2 h2
        cases e
        exact ⟨E, μ, g1, _, I.step p1, h2, fun v H2 h1 h3 h4 => q v H2 h1 h3 h4⟩
theorem ds_for {tgE it : Expr} {tg : Tg} (hp : PassesOwn (model X.prog X.w) X.A X.env X.xe) (hc : X.calm = true) (hi : PI X tgE it (tI k f ml)) (hg : PG X tgE (tG k f tg)) (hb : ∀ ex, PSs X sts (tS k f ex b))
    (hs : ∀ x, foldedSetIterable it X.env x = pure x := by intro _; rfl) : PS X (.For tgE it sts [] pos) (tS k f ex (sFor tg ml b)) := by
  refine ps_of (ps_for (tb := fun Dn σ H => ∃ pn, tS k f (pn ++ ex) b Dn σ H) hp hc hi hg ⟨fun pins s σ H Dn I ⟨pn, w⟩ => (hb (pn ++ ex)).run pins s σ H Dn I w⟩ hs) fun Dn σ H ⟨E, μ, g, r, I, e, q⟩ => ?_
  unfold sFor at e
  split at e
  · cases e
  · rename_i ds g1 h1
    refine ⟨ex, E, μ, g, ds, g1, I, h1, fun J pn H1 p1 hpn hw => ?_⟩
    have I0 : Ist k f (pn ++ ex) E μ g1 σ H1 := (I.step p1).exS fun p hp => (List.mem_append.mp hp).elim (hpn p) ((I.step p1).exs p)
    have out : ∀ {E' : En} {μ' : Nat → Addr} {g' : G} {σ' : L2.St} {H' : Hp}, Ist k f (pn ++ ex) E' μ' g' σ' H' → Ist k f ex E' μ' g' σ' H' := fun I' => I'.exS fun p hp => I'.exs p (List.mem_append_right _ hp)
    refine ⟨fun i m σ H => i ≤ ds.length ∧ m = ds.length - i ∧ ∃ E μ g, Ist k f (pn ++ ex) E μ g σ H ∧ forL tg b (ds.drop i) E g = some r, ⟨ds.length, Nat.zero_le _, rfl, E, μ, g1, I0, e⟩, ?_⟩
    rintro i m σ H ⟨hi, rfl, E, μ, g, I, e⟩
    obtain ⟨w1, w2⟩ := hw (BE f true E μ) H (fun b z => I.be true z) (fun p hp => I.exs p (List.mem_append_left _ hp))
    by_cases hl : i < ds.length
    · rw [List.drop_eq_getElem_cons hl] at e
      unfold forL at e
      obtain ⟨go, yl⟩ := w2 i ds[i] (List.getElem?_eq_getElem hl)
      refine .inr ⟨go, fun σ H => ∃ E μ g, Ist k f (pn ++ ex) E μ g σ H ∧ forL tg b (ds.drop (i + 1)) E g = some r, fun σ' H' w => ⟨ds.length - (i + 1), by omega, hl, rfl, w⟩, fun x H' hy => ?_⟩
      obtain ⟨sm, rx⟩ := yl x H' hy
      have I2 := I.step (.same sm I.ga)
      split at e
      · cases e
      · rename_i ps hps
        refine ⟨_, E, μ, g, _, ps, I2, rx, hps, fun vs rv => ⟨pn, ?_⟩⟩
        have I3 := I2.sets ps rv
        split at e
        · cases e
        · rename_i E1 g2 h2
          exact ⟨_, μ, g, _, I3, h2, fun σ2 μ2 H2 I4 => ⟨E1, μ2, g2, I4, e⟩⟩
        · rename_i E1 g2 h2
          exact ⟨_, μ, g, _, I3, h2, fun σ2 μ2 H2 I4 => ⟨E1, μ2, g2, I4, e⟩⟩
        · rename_i E1 g2 h2
          cases e
          exact ⟨_, μ, g, _, I3, h2, fun σ2 μ2 H2 I4 => q σ2 μ2 H2 (out I4)⟩
        · rename_i x E1 g2 h2
          cases e
          exact ⟨_, μ, g, _, I3, h2, fun v H2 h1 h3 h4 => q v H2 h1 h3 h4⟩
    · have hi' : i = ds.length := by omega
      subst hi'
      rw [List.drop_length] at e
      cases e
      exact .inl ⟨w1 _ (Nat.le_refl _), q σ μ H (out I)⟩
end
end DL

set_option Elab.async false
set_option linter.all false
set_option maxRecDepth 100000
set_option maxHeartbeats 1000000
namespace DL
open PySem PySem.Spec PyProof.Rows L2
/-! ### list comprehensions -/
def wipeE (E : En) : List Nat → En
  | [] => E
  | v :: vs => (wipeE E vs).set v .no
def isOwn (E : En) (i : Nat) : Bool := match E[i]? with
  | some (.own _) => true
  | _ => false
/-- the turns: E is the block's start -/
def lcL (tg : Tg) (c : MT) (e : M) (E : En) : List D → G → Option (List D × G)
  | [], g => some ([], g)
  | d :: r, g => match tg.parts d with
    | none => none
    | some ps => match c (setsE ps E) g with
      | none => none
      | some (false, g1) => lcL tg c e E r g1
      | some (true, g1) => match e (setsE ps E) g1 with
        | none => none
        | some (x, g2) => match lcL tg c e E r g2 with
          | none => none
          | some (xs, g3) => some (x :: xs, g3)
def Tg.slots : Tg → List Nat
  | .one i => [i]
  | .many is => is
  | .manyL is => is
def nLc (tg : Tg) (ml : ML) (c : MT) (e : M) (vs : List Nat) : ML := fun E g => if (vs.any (isOwn E) || !(tg.slots.all fun i => vs.contains i)) = true then none else match ml E g with
  | none => none
  | some (ds, g1) => if ds.length ≤ sizeLine then lcL tg c e (wipeE E vs) ds g1 else none
def mYes : MT := fun _ g => some (true, g)
section
variable {k : Kx} {f : Fx} {ex : List (V × D)} {E : En} {μ : Nat → Addr} {g : G} {σ : L2.St} {H : Hp}
theorem isOwn_iff {i : Nat} {ds : List D} (h : E[i]? = some (Sl.own ds)) : isOwn E i = true := by unfold isOwn; rw [h]
theorem Ist.setNo (I : Ist k f ex E μ g σ H) (i : Nat) (h : isOwn E i = false) : Ist k f ex (E.set i .no) μ g (σ.set i none) H ∧ ∀ sm b, BE f sm (E.set i .no) μ b ↔ BE f sm E μ b := by
  have own1 : ∀ j ds, (E.set i .no)[j]? = some (Sl.own ds) → j ≠ i ∧ E[j]? = some (Sl.own ds) := fun j ds e => by
    by_cases hj : i = j
    · subst hj
      by_cases hl : i < E.length
      · rw [List.getElem?_set_self hl] at e; cases e
      · rw [List.getElem?_eq_none (by simpa using hl)] at e; cases e
    · rw [List.getElem?_set_ne hj] at e; exact ⟨fun z => hj z.symm, e⟩
  have be : ∀ sm b, BE f sm (E.set i .no) μ b ↔ BE f sm E μ b := fun sm b => by
    constructor
    · exact fun z => z.imp id fun ⟨s, j, ds, e, q⟩ => ⟨s, j, ds, (own1 j ds e).2, q⟩
    · refine fun z => z.imp id fun ⟨s, j, ds, e, q⟩ => ⟨s, j, ds, ?_, q⟩
      have hj : i ≠ j := fun z => by
        subst z
        rw [isOwn_iff e] at h
        cases h
      rw [List.getElem?_set_ne hj]
      exact e
  refine ⟨⟨by rw [List.length_set, List.length_set]; exact I.len, fun j d e => ?_, fun j ds e => ?_, fun a b p q h1 h2 e => I.inj a b p q (own1 a p h1).2 (own1 b q h2).2 e, fun p hp => (I.exs p hp).shrink fun b => (be true b).mp, I.ga, I.fr, I.b0, I.bo⟩, be⟩
  · by_cases hj : i = j
    · subst hj
      by_cases hl : i < E.length
      · rw [List.getElem?_set_self hl] at e; cases e
      · rw [List.getElem?_eq_none (by simpa using hl)] at e; cases e
    · rw [List.getElem?_set_ne hj] at e
      obtain ⟨u, h1, h2⟩ := I.val j d e
      exact ⟨u, by rw [List.getElem?_set_ne hj]; exact h1, h2.shrink fun b => (be true b).mp⟩
  · obtain ⟨hj, e⟩ := own1 j ds e
    obtain ⟨h1, h2, h3, us, h4, h5⟩ := I.own j ds e
    exact ⟨by rw [List.getElem?_set_ne (Ne.symm hj)]; exact h1, h2, h3, us, h4, h5.shrink fun b => (be true b).mp⟩
theorem isOwn_set {i j : Nat} (h : isOwn E j = false) : isOwn (E.set i .no) j = false := by
  unfold isOwn at *
  by_cases hj : i = j
  · subst hj
    by_cases hl : i < E.length
    · rw [List.getElem?_set_self hl]
    · rw [List.getElem?_eq_none (by simpa using hl)]
  · rw [List.getElem?_set_ne hj]; exact h
theorem isOwn_wipe {j : Nat} (h : isOwn E j = false) : ∀ vs : List Nat, isOwn (wipeE E vs) j = false
  | [] => h
  | v :: vs => isOwn_set (isOwn_wipe h vs)
theorem Ist.wipe (I : Ist k f ex E μ g σ H) : ∀ (vs : List Nat), (∀ v ∈ vs, isOwn E v = false) → Ist k f ex (wipeE E vs) μ g (L2.wipe σ vs) H ∧ ∀ sm b, BE f sm (wipeE E vs) μ b ↔ BE f sm E μ b
  | [], _ => ⟨I, fun _ _ => Iff.rfl⟩
  | v :: vs, h => by
    obtain ⟨I1, b1⟩ := Ist.wipe I vs fun w hw => h w (List.mem_cons_of_mem _ hw)
    obtain ⟨I2, b2⟩ := I1.setNo v (isOwn_wipe (h v List.mem_cons_self) vs)
    exact ⟨I2, fun sm b => (b2 sm b).trans (b1 sm b)⟩
theorem wipe_isNo : ∀ (vs : List Nat) {i : Nat}, i ∈ vs → isOwn (wipeE E vs) i = false
  | v :: vs, i, h => by
    by_cases e : v = i
    · subst e
      unfold isOwn wipeE
      by_cases hl : v < (wipeE E vs).length
      · rw [List.getElem?_set_self hl]
      · rw [List.getElem?_eq_none (by simpa using hl)]
    · exact isOwn_set (wipe_isNo vs (by rcases List.mem_cons.mp h with z | z; exact absurd z.symm e; exact z))
theorem BE.sets : ∀ (ps : List (Nat × D)) {E : En}, (∀ p ∈ ps, isOwn E p.1 = false) → ∀ sm b, BE f sm (setsE ps E) μ b ↔ BE f sm E μ b
  | [], _, _ => fun _ _ => Iff.rfl
  | (i, d) :: ps, E, h => fun sm b => by
    have h0 : isOwn E i = false := h (i, d) List.mem_cons_self
    have h1 : ∀ p ∈ ps, isOwn (E.set i (.val d)) p.1 = false := fun p hp => by
      have := h p (List.mem_cons_of_mem _ hp)
      unfold isOwn at this ⊢
      by_cases hj : i = p.1
      · rw [hj]
        by_cases hl : p.1 < E.length
        · rw [List.getElem?_set_self hl]
        · rw [List.getElem?_eq_none (by simpa using hl)]
      · rw [List.getElem?_set_ne hj]; exact this
    refine (BE.sets ps h1 sm b).trans ⟨BE.set b, fun z => z.imp id fun ⟨s, j, ds, e, q⟩ => ⟨s, j, ds, ?_, q⟩⟩
    have hj : i ≠ j := fun z => by
      subst z
      rw [isOwn_iff e] at h0
      cases h0
    rw [List.getElem?_set_ne hj]
    exact e
theorem wipe_set (σ : L2.St) {i : Nat} {o : Option V} : ∀ vs : List Nat, i ∈ vs → L2.wipe (σ.set i o) vs = L2.wipe σ vs
  | v :: vs, h => by
    show (L2.wipe (σ.set i o) vs).set v none = (L2.wipe σ vs).set v none
    by_cases hm : i ∈ vs
    · rw [wipe_set σ vs hm]
    · have e : i = v := by
        rcases List.mem_cons.mp h with z | z
        · exact z
        · exact absurd z hm
      subst e
      have out : ∀ (ws : List Nat) (σ : L2.St), i ∉ ws → (L2.wipe (σ.set i o) ws) = (L2.wipe σ ws).set i o := by
        intro ws
        induction ws with
        | nil => intro σ _; rfl
        | cons w ws ih =>
          intro σ hw
          simp only [List.mem_cons, not_or] at hw
          show (L2.wipe (σ.set i o) ws).set w none = ((L2.wipe σ ws).set w none).set i o
          rw [ih σ hw.2, List.set_comm _ _ hw.1]
      rw [out vs σ hm, List.set_set]
theorem wipe_sets : ∀ (ps : List (Nat × V)) (σ : L2.St) (vs : List Nat), (∀ p ∈ ps, p.1 ∈ vs) → L2.wipe (setsS ps σ) vs = L2.wipe σ vs
  | [], _, _, _ => rfl
  | (i, v) :: ps, σ, vs, h => by
    show L2.wipe (setsS ps (σ.set i (some v))) vs = _
    rw [wipe_sets ps _ vs fun p hp => h p (List.mem_cons_of_mem _ hp), wipe_set σ vs (h _ List.mem_cons_self)]
theorem wipe_wipe (σ : L2.St) (vs : List Nat) : L2.wipe (L2.wipe σ vs) vs = L2.wipe σ vs := by
  have h : ∀ (ws : List Nat), (∀ w ∈ ws, w ∈ vs) → L2.wipe (L2.wipe σ ws) vs = L2.wipe σ vs := by
    intro ws
    induction ws with
    | nil => intro _; rfl
    | cons w ws ih =>
      intro hw
      show L2.wipe ((L2.wipe σ ws).set w none) vs = _
      rw [wipe_set _ vs (hw w List.mem_cons_self), ih fun x hx => hw x (List.mem_cons_of_mem _ hx)]
  exact h vs fun _ h => h
theorem parts_slots {tg : Tg} {d : D} {ps : List (Nat × D)} (h : tg.parts d = some ps) : ∀ p ∈ ps, p.1 ∈ tg.slots := by
  unfold Tg.parts at h
  split at h
  · cases h
    intro p hp
    rw [List.mem_singleton.mp hp]
    exact List.mem_singleton.mpr rfl
  · split at h
    · cases h
      intro p hp
      exact (List.of_mem_zip hp).1
    · cases h
  · cases h
  · split at h
    · cases h
      intro p hp
      exact (List.of_mem_zip hp).1
    · cases h
  · cases h
theorem lcL_len {tg : Tg} {c : MT} {e : M} {E : En} : ∀ (ds : List D) (g : G) {r : List D} {g' : G}, lcL tg c e E ds g = some (r, g') → r.length ≤ ds.length
  | [], g, r, g', h => by cases h; exact Nat.le_refl _
  | d :: ds, g, r, g', h => by
    unfold lcL at h
    split at h
    · cases h
    · split at h
      · cases h
      · exact Nat.le_succ_of_le (lcL_len ds _ h)
      · split at h
        · cases h
        · split at h
          · cases h
          · rename_i xs g3 h3
            cases h
            exact Nat.succ_le_succ (lcL_len ds _ h3)
end
/-- D is none of what may be held -/
def Fx.ban (f : Fx) (D : Addr) : Fx := ⟨fun b => f.Bo b ∨ b = D, f.H0⟩
def del (H : Hp) (D : Addr) : Hp := fun b => if b = D then none else H b
theorem del_ne {H : Hp} {D b : Addr} (h : b ≠ D) : del H D b = H b := if_neg h
theorem del_same {H : Hp} {D : Addr} : del H D D = none := if_pos rfl
theorem upd_del {H : Hp} {D : Addr} {o : HO} (h : H D = some o) : upd (del H D) D o = H := by
  funext b
  unfold upd del
  by_cases e : b = D
  · rw [if_pos e, e, h]
  · rw [if_neg e, if_neg e]
theorem BE.ban {f : Fx} {D : Addr} {sm : Bool} {E : En} {μ : Nat → Addr} {b : Addr} : BE (f.ban D) sm E μ b ↔ BE f sm E μ b ∨ b = D := by
  unfold BE Fx.ban
  constructor
  · rintro ((h | h) | h)
    · exact .inl (.inl h)
    · exact .inr h
    · exact .inl (.inr h)
  · rintro ((h | h) | h)
    · exact .inl (.inl h)
    · exact .inr h
    · exact .inl (.inr h)
section
variable {k : Kx} {f : Fx} {ex : List (V × D)} {E : En} {μ : Nat → Addr} {g : G} {σ : L2.St} {H : Hp}
theorem Ist.ban (I : Ist k f ex E μ g σ H) {D : Addr} (hD : H D = none) {xs : List V} : Ist k (f.ban D) ex E μ g σ (upd H D (.lst xs)) := by
  have up : ∀ {v : V} {d : PyData}, Rp k H (BE f true E μ) v d → Rp k (upd H D (.lst xs)) (BE (f.ban D) true E μ) v d := fun {v d} r =>
    Rp.mono (fun b o _ h => by rw [upd_ne (ne_of_none h hD)]; exact h) (fun b o n h z => (BE.ban.mp z).elim n (ne_of_none h hD)) d v r
  have upA : ∀ {v : List V} {d : List PyData}, RpA k H (BE f true E μ) v d → RpA k (upd H D (.lst xs)) (BE (f.ban D) true E μ) v d := fun {v d} r =>
    RpA.mono (fun b o _ h => by rw [upd_ne (ne_of_none h hD)]; exact h) (fun b o n h z => (BE.ban.mp z).elim n (ne_of_none h hD)) d v r
  refine ⟨I.len, fun i d e => ?_, fun i ds e => ?_, I.inj, fun p hp => up (I.exs p hp), I.ga.same (Same.upd hD), fun b o n h => ?_, fun b z => .inl (I.b0 b z), fun b z => ?_⟩
  · obtain ⟨v, h1, h2⟩ := I.val i d e
    exact ⟨v, h1, up h2⟩
  · obtain ⟨h1, h2, h3, vs, h4, h5⟩ := I.own i ds e
    exact ⟨h1, h2, fun z => z.elim h3 (ne_of_none h4 hD), vs, by rw [upd_ne (ne_of_none h4 hD)]; exact h4, upA h5⟩
  · rw [upd_ne (ne_of_none (I.fr b o n h) hD)]
    exact I.fr b o n h
  · rcases z with z | z
    · rw [upd_ne fun e => I.bo b z (by rw [e]; exact hD)]
      exact I.bo b z
    · rw [z, upd_same]
      exact fun q => nomatch q
theorem Ist.banUpd {D : Addr} (I : Ist k (f.ban D) ex E μ g σ H) (nD : ∀ b, B0 k b → b ≠ D) (h0 : f.H0 D = none) {xs : List V} : Ist k (f.ban D) ex E μ g σ (upd H D (.lst xs)) := by
  have up : ∀ {v : V} {d : PyData}, Rp k H (BE (f.ban D) true E μ) v d → Rp k (upd H D (.lst xs)) (BE (f.ban D) true E μ) v d := fun {v d} r =>
    Rp.mono (fun b o n h => by rw [upd_ne (fun e => n (BE.ban.mpr (.inr e)))]; exact h) (fun b o n _ z => n z) d v r
  have upA : ∀ {v : List V} {d : List PyData}, RpA k H (BE (f.ban D) true E μ) v d → RpA k (upd H D (.lst xs)) (BE (f.ban D) true E μ) v d := fun {v d} r =>
    RpA.mono (fun b o n h => by rw [upd_ne (fun e => n (BE.ban.mpr (.inr e)))]; exact h) (fun b o n _ z => n z) d v r
  refine ⟨I.len, fun i d e => ?_, fun i ds e => ?_, I.inj, fun p hp => up (I.exs p hp), ⟨?_, ?_, fun P hP => ?_⟩, fun b o n h => ?_, I.b0, fun b z => ?_⟩
  · obtain ⟨v, h1, h2⟩ := I.val i d e
    exact ⟨v, h1, up h2⟩
  · obtain ⟨h1, h2, h3, vs, h4, h5⟩ := I.own i ds e
    exact ⟨h1, h2, h3, vs, by rw [upd_ne fun e => h3 (.inr e)]; exact h4, upA h5⟩
  · intro ho; rw [upd_ne (nD _ (.inl ⟨ho, rfl⟩))]; exact I.ga.b ho
  · intro ho; rw [upd_ne (nD _ (.inr (.inl ⟨ho, rfl⟩)))]; exact I.ga.c ho
  · obtain ⟨ps, e1, e2⟩ := I.ga.t P hP
    exact ⟨ps, by rw [upd_ne (nD _ (.inr (.inr hP)))]; exact e1, e2⟩
  · have hb : b ≠ D := fun e => by
      have h : f.H0 b = some o := h
      rw [e, h0] at h
      cases h
    rw [upd_ne hb]
    exact I.fr b o n h
  · by_cases hb : b = D
    · rw [hb, upd_same]; exact fun q => nomatch q
    · rw [upd_ne hb]; exact I.bo b z
end
/-- for whatever is banned -/
def tEx (k : Kx) (sm : Bool) (m : M) : TE := fun σ H Q => ∃ f, tE k f sm m σ H Q
def tTx (k : Kx) (c : MT) : TT := fun σ H Q => ∃ f, tT k f c σ H Q
def tGx (k : Kx) (tg : Tg) : TG := fun v σ H Q => ∃ f, tG k f tg v σ H Q
section
variable {k : Kx} {f : Fx} {sm : Bool} {X : Cx} {elt tgE iter : Expr} {ifs : List Expr} {scope : Scope} {own : List (Str × Nat)} {pos : Pos} {tg : Tg} {ml : ML} {c : MT} {m : M}
theorem pe_x {e : Expr} (h : ∀ f, PE X e (tE k f sm m)) : PE X e (tEx k sm m) := ⟨fun pins s σ H Q I ⟨f, q⟩ => (h f).run pins s σ H Q I q⟩
theorem pg_x {e : Expr} (h : ∀ f, PG X e (tG k f tg)) : PG X e (tGx k tg) := ⟨fun pins s σ H v u Q I r ⟨f, q⟩ => (h f).run pins s σ H v u Q I r q⟩
theorem pts_x {e : Expr} (h : ∀ f, PT X e (tT k f c)) : PTs X [e] (tTx k c) := ⟨fun pins s σ H Q I ⟨f, q⟩ => (pts_one (h f)).run pins s σ H Q I q⟩
theorem pts_y : PTs X [] (tTx k mYes) := ⟨fun pins s σ H Q I ⟨f, ex, E, μ, g, b, g', J, e, q⟩ => by
  cases e
  exact pts_nil.run pins s σ H Q I (q H (.same (.refl H) J.ga))⟩
theorem t_lc {σ : L2.St} {H : Hp} {Q : VK} (w : tN k f sm (nLc tg ml c m (own.map (·.2))) σ H Q) : tLc (tI k f ml) (tGx k tg) (tTx k c) (tEx k sm m) (own.map (·.2)) σ H Q := by
  obtain ⟨ex, E, μ, g, ds, g', I, e, q⟩ := w
  generalize hvs : own.map (·.2) = vs at *
  unfold nLc at e
  split at e
  · cases e
  · rename_i hc
    have hc1 : ∀ v ∈ vs, isOwn E v = false := fun v hv => by
      cases h : isOwn E v with
      | false => rfl
      | true => exact absurd (by rw [Bool.or_eq_true]; exact .inl (List.any_eq_true.mpr ⟨v, hv, h⟩)) hc
    have hc2 : ∀ i ∈ tg.slots, i ∈ vs := fun i hi => by
      by_cases h : (tg.slots.all fun i => vs.contains i) = true
      · exact List.contains_iff_mem.mp (List.all_eq_true.mp h i hi)
      · exact absurd (by rw [Bool.or_eq_true]; right; simpa using h) hc
    split at e
    · cases e
    · rename_i its g1 h1
      split at e
      · rename_i hlen
        refine ⟨ex, E, μ, g, its, g1, I, h1, fun J pn H1 p1 hpn hw D hD => ?_⟩
        have I1 := (I.step p1).exS (ex' := pn ++ ex) fun p hp => (List.mem_append.mp hp).elim (hpn p) ((I.step p1).exs p)
        obtain ⟨I2, be⟩ := I1.wipe vs hc1
        have I2b := I2.ban (D := D) (xs := []) hD
        have nD : ∀ b, B0 k b → b ≠ D := fun b hb e => I1.ga.has hb (by rw [e]; exact hD)
        have h0D : f.H0 D = none := by
          cases h0 : f.H0 D with
          | none => rfl
          | some o =>
            by_cases hb : B0 k D
            · exact absurd rfl (nD D hb)
            · rw [I1.fr D o hb h0] at hD
              cases hD
        have be' : ∀ sm b, BE (f.ban D) sm (wipeE E vs) μ b ↔ BE (f.ban D) sm E μ b := fun sm b => by rw [BE.ban, BE.ban, be sm b]
        refine ⟨fun i n H2 => i ≤ its.length ∧ n = its.length - i ∧ ∃ g2 acc vacc rest, Ist k (f.ban D) (pn ++ ex) (wipeE E vs) μ g2 (L2.wipe σ vs) H2 ∧ Fr0 k (upd H1 D (.lst [])) (upd H2 D (.lst [])) ∧ H2 D = some (.lst vacc) ∧
            RpA k H2 (BE (f.ban D) sm E μ) vacc acc ∧ acc.length ≤ i ∧ lcL tg c m (wipeE E vs) (its.drop i) g2 = some (rest, g') ∧ ds = acc ++ rest, ?_, ?_⟩
        · exact ⟨its.length, Nat.zero_le _, rfl, g1, [], [], ds, I2b, by rw [upd_upd]; exact .refl k _, upd_same, .nil, Nat.le_refl _, e, rfl⟩
        · rintro i n H2 ⟨hi, rfl, g2, acc, vacc, rest, I3, fr, hDl, ra, hal, el, rfl⟩
          obtain ⟨w1, w2⟩ := hw (BE (f.ban D) true (wipeE E vs) μ) H2 (fun b z => I3.be true z) (fun p hp => I3.exs p (List.mem_append_left _ hp))
          by_cases hl : i < its.length
          · rw [List.drop_eq_getElem_cons hl] at el
            unfold lcL at el
            obtain ⟨go, yl⟩ := w2 i its[i] (List.getElem?_eq_getElem hl)
            refine .inr ⟨go, fun H' => i + 1 ≤ its.length ∧ ∃ g2 acc' vacc' rest', Ist k (f.ban D) (pn ++ ex) (wipeE E vs) μ g2 (L2.wipe σ vs) H' ∧ Fr0 k (upd H1 D (.lst [])) (upd H' D (.lst [])) ∧ H' D = some (.lst vacc') ∧
              RpA k H' (BE (f.ban D) sm E μ) vacc' acc' ∧ acc'.length ≤ i + 1 ∧ lcL tg c m (wipeE E vs) (its.drop (i + 1)) g2 = some (rest', g') ∧ acc ++ rest = acc' ++ rest', fun H' hN => ⟨its.length - (i + 1), by omega, hN.1, rfl, hN.2⟩, fun x H3 hy => ?_⟩
            obtain ⟨s3, rx⟩ := yl x H3 hy
            have I4 := I3.step (.same s3 I3.ga)
            split at el
            · cases el
            · rename_i ps hps
              have hsl : ∀ p ∈ ps, p.1 ∈ vs := fun p hp => hc2 _ (parts_slots hps p hp)
              refine ⟨f.ban D, _, _, μ, g2, _, ps, I4, rx, hps, fun us ru => ?_⟩
              have I5 := I4.sets ps ru
              have beS : ∀ sm b, BE (f.ban D) sm (setsE ps (wipeE E vs)) μ b ↔ BE (f.ban D) sm E μ b := fun sm b =>
                (BE.sets ps (fun p hp => wipe_isNo vs (hsl p hp)) sm b).trans (be' sm b)
              refine ⟨?_, ?_⟩
              · rw [wipe_sets _ _ vs fun p hp => ?_]
                · exact wipe_wipe σ vs
                · have hm := (List.of_mem_zip hp).1
                  obtain ⟨p', hp', e'⟩ := List.mem_map.mp hm
                  rw [← e']
                  exact hsl p' hp'
              have hbE : ∀ b, B0 k b → BE (f.ban D) sm E μ b := fun b z => BE.ban.mpr (.inl (.inl (I.b0 b z)))
              have updF : ∀ {Ha Hb : Hp}, Fr0 k Ha Hb → Fr0 k (upd Ha D (.lst [])) (upd Hb D (.lst [])) := fun {Ha Hb} z b o n h => by
                by_cases e : b = D
                · rw [e, upd_same] at h ⊢; exact h
                · rw [upd_ne e] at h ⊢; exact z b o n h
              have back : ∀ {g3 : G} {H4 : Hp}, PEd k g3 H3 H4 → Ist k (f.ban D) (pn ++ ex) (wipeE E vs) μ g3 (L2.wipe σ vs) H4 ∧ Fr0 k (upd H1 D (.lst [])) (upd H4 D (.lst [])) ∧ H4 D = some (.lst vacc) ∧ RpA k H4 (BE (f.ban D) sm E μ) vacc acc := fun {g3 H4} p4 =>
                ⟨I4.step p4, fr.trans (updF ((Fr0.of s3).trans p4.fr)), p4.fr D _ (fun z => nD D z rfl) (s3 _ _ hDl), (ra.same s3).step hbE p4.fr⟩
              split at el
              · cases el
              · rename_i g3 h3
                refine ⟨f.ban D, _, _, μ, g2, false, g3, I5, h3, fun H4 p4 => ?_⟩
                refine iteF ⟨hl, g3, acc, vacc, rest, ?_⟩
                obtain ⟨b1, b2, b3, b4⟩ := back p4
                exact ⟨b1, b2, b3, b4, Nat.le_succ_of_le hal, el, rfl⟩
              · rename_i g3 h3
                refine ⟨f.ban D, _, _, μ, g2, true, g3, I5, h3, fun H4 p4 => iteT ?_⟩
                split at el
                · cases el
                · rename_i y g4 h4
                  refine ⟨f.ban D, _, _, μ, g3, y, g4, I5.step p4, h4, fun v H5 p5 r5 => ?_⟩
                  split at el
                  · cases el
                  · rename_i ys g5 h5
                    cases el
                    obtain ⟨b1, b2, b3, b4⟩ := back (p4.trans p5)
                    have r5' : Rp k H5 (BE (f.ban D) sm E μ) v y := r5.shrink fun b z => (beS sm b).mpr z
                    refine ⟨vacc, b3, ?_, hl, g4, acc ++ [y], vacc ++ [v], ys, b1.banUpd nD h0D, ?_, upd_same, ?_, ?_, h5, ?_⟩
                    · rw [b4.length]
                      exact Nat.lt_of_le_of_lt hal (Nat.lt_of_lt_of_le hl hlen)
                    · rw [upd_upd]; exact b2
                    · exact RpA.mono (fun b o n h => by rw [upd_ne (fun e => n (BE.ban.mpr (.inr e)))]; exact h) (fun b o n _ z => n z) _ _ (b4.append (.cons r5' .nil))
                    · rw [List.length_append]; exact Nat.succ_le_succ hal
                    · rw [List.append_assoc]; rfl
          · have hi' : i = its.length := by omega
            subst hi'
            rw [List.drop_length] at el
            cases el
            rw [List.append_nil] at q
            refine .inl ⟨w1 _ (Nat.le_refl _), ?_⟩
            have key := q D vacc (del H2 D) ⟨fun b o n h => ?_, ⟨?_, ?_, fun P hP => ?_⟩⟩ del_same (RpA.mono (fun b o n h => by rw [del_ne fun e => n (BE.ban.mpr (.inr e))]; exact h) (fun b o n _ z => n (BE.ban.mpr (.inl z))) _ _ ra)
            · rw [upd_del hDl] at key
              exact key
            · have h1 := p1.fr b o n h
              have hbD : b ≠ D := ne_of_none h1 hD
              have h2 := fr b o n (by rw [upd_ne hbD]; exact h1)
              rw [upd_ne hbD] at h2
              rw [del_ne hbD]
              exact h2
            · intro ho; rw [del_ne (nD _ (.inl ⟨ho, rfl⟩))]; exact I3.ga.b ho
            · intro ho; rw [del_ne (nD _ (.inr (.inl ⟨ho, rfl⟩)))]; exact I3.ga.c ho
            · obtain ⟨ps, e1, e2⟩ := I3.ga.t P hP
              exact ⟨ps, by rw [del_ne (nD _ (.inr (.inr hP)))]; exact e1, e2⟩
      · cases e
end
end DL

set_option Elab.async false
set_option linter.all false
set_option maxRecDepth 100000
set_option maxHeartbeats 1000000
namespace DL
open PySem PySem.Spec PyProof.Rows L2
section
variable {k : Kx} {f : Fx} {ex : List (V × D)} {sm : Bool} {X : Cx} {elt tgE iter : Expr} {ifs : List Expr} {scope : Scope} {own : List (Str × Nat)} {pos spos : Pos} {tg : Tg} {ml : ML} {c : MT} {m : M}
theorem dn_lc (hc : X.calm = true) (hN : X.N.Nodup) (hi : PI X tgE iter (tI k f ml)) (ok : BlkOk X.N X.env.scope scope own)
    (hg : ∀ (f : Fx) (s : Shared) (H : Hp) (C : Addr) (cl : List (Str × Addr)) (fp : List Addr), PG (X.blk s H scope (compEnvC scope cl C X.env) fp) tgE (tG k f tg)) (ht : ∀ (s : Shared) (H : Hp) (C : Addr) (cl : List (Str × Addr)) (fp : List Addr), PTs (X.blk s H scope (compEnvC scope cl C X.env) fp) ifs (tTx k c))
    (he : ∀ (f : Fx) (s : Shared) (H : Hp) (C : Addr) (cl : List (Str × Addr)) (fp : List Addr), PE (X.blk s H scope (compEnvC scope cl C X.env) fp) elt (tE k f sm m)) (hs : ∀ x, foldedSetIterable iter X.env x = pure x := by intro _; rfl) :
    PE X (.ListComp elt [⟨tgE, iter, ifs, 0⟩] scope pos) (tN k f sm (nLc tg ml c m (own.map (·.2)))) :=
  pe_of (pe_lc hc hN hi ok (fun s H C cl fp => pg_x fun f => hg f s H C cl fp) ht (fun s H C cl fp => pe_x fun f => he f s H C cl fp) hs) fun σ H Q w => t_lc w
theorem ds_ownLc {i : Nat} {y : Str} {py : Pos} (hc : X.calm = true) (hN : X.N.Nodup) (hy : X.N[i]? = some y) (hyl : X.env.scope.names.lookup y = some .local)
    (hsw : swapsWith (.ListComp elt [⟨tgE, iter, ifs, 0⟩] scope pos) (some (.Name y py)) spos.line X.env = pure true) (hi : PI X tgE iter (tI k f ml)) (ok : BlkOk X.N X.env.scope scope own)
    (hg : ∀ (f : Fx) (s : Shared) (H : Hp) (C : Addr) (cl : List (Str × Addr)) (fp : List Addr), PG (X.blk s H scope (compEnvC scope cl C X.env) fp) tgE (tG k f tg)) (ht : ∀ (s : Shared) (H : Hp) (C : Addr) (cl : List (Str × Addr)) (fp : List Addr), PTs (X.blk s H scope (compEnvC scope cl C X.env) fp) ifs (tTx k c))
    (he : ∀ (f : Fx) (s : Shared) (H : Hp) (C : Addr) (cl : List (Str × Addr)) (fp : List Addr), PE (X.blk s H scope (compEnvC scope cl C X.env) fp) elt (tE k f true m)) (hs : ∀ x, foldedSetIterable iter X.env x = pure x := by intro _; rfl) :
    PS X (.Assign [.Name y py] (.ListComp elt [⟨tgE, iter, ifs, 0⟩] scope pos) spos) (tS k f ex (sOwn i (nLc tg ml c m (own.map (·.2))))) :=
  ps_of (ps_setLc hc hN hy hyl hsw hi ok (fun s H C cl fp => pg_x fun f => hg f s H C cl fp) ht (fun s H C cl fp => pe_x fun f => he f s H C cl fp) hs) fun Dn σ H ⟨E, μ, g, r, I, e, q⟩ => by
    unfold sOwn at e
    split at e
    · cases e
    · rename_i d g1 h
      split at e
      · rename_i hl
        cases e
        exact t_lc ⟨ex, E, μ, g, d, g1, I, h, fun p vs H1 p1 hp r1 => q _ _ _ ((I.step p1).setOwn i hl hp r1)⟩
      · cases e
theorem ds_setLc {i : Nat} {y : Str} {py : Pos} (hc : X.calm = true) (hN : X.N.Nodup) (hy : X.N[i]? = some y) (hyl : X.env.scope.names.lookup y = some .local)
    (hsw : swapsWith (.ListComp elt [⟨tgE, iter, ifs, 0⟩] scope pos) (some (.Name y py)) spos.line X.env = pure true) (hi : PI X tgE iter (tI k f ml)) (ok : BlkOk X.N X.env.scope scope own)
    (hg : ∀ (f : Fx) (s : Shared) (H : Hp) (C : Addr) (cl : List (Str × Addr)) (fp : List Addr), PG (X.blk s H scope (compEnvC scope cl C X.env) fp) tgE (tG k f tg)) (ht : ∀ (s : Shared) (H : Hp) (C : Addr) (cl : List (Str × Addr)) (fp : List Addr), PTs (X.blk s H scope (compEnvC scope cl C X.env) fp) ifs (tTx k c))
    (he : ∀ (f : Fx) (s : Shared) (H : Hp) (C : Addr) (cl : List (Str × Addr)) (fp : List Addr), PE (X.blk s H scope (compEnvC scope cl C X.env) fp) elt (tE k f true m)) (hs : ∀ x, foldedSetIterable iter X.env x = pure x := by intro _; rfl) :
    PS X (.Assign [.Name y py] (.ListComp elt [⟨tgE, iter, ifs, 0⟩] scope pos) spos) (tS k f ex (sSet i (eN (nLc tg ml c m (own.map (·.2)))))) :=
  ps_of (ps_setLc hc hN hy hyl hsw hi ok (fun s H C cl fp => pg_x fun f => hg f s H C cl fp) ht (fun s H C cl fp => pe_x fun f => he f s H C cl fp) hs) fun Dn σ H ⟨E, μ, g, r, I, e, q⟩ => by
    unfold sSet eN at e
    split at e
    · cases e
    · rename_i d g1 h
      split at h
      · cases h
      · rename_i ds g2 h2
        cases h
        cases e
        refine t_lc ⟨ex, E, μ, g, ds, g1, I, h2, fun p vs H1 p1 hp r1 => ?_⟩
        have I1 := I.step p1
        exact q _ μ _ ((I1.step (.same (Same.upd hp) I1.ga)).setVal i (.newL (fun b z => I1.be true z) hp r1))
end

/-! ### defs -/
abbrev DF := List D → G → Option (D × G)
def spD (k : Kx) (n : Nat) (F : DF) : Sp := fun vs H Q _ => ∃ (B : Addr → Prop) (ds : List D) (g : G) (d : D) (g' : G), ds.length = n ∧ (∀ b, B0 k b → B b) ∧ (∀ b, B b → H b ≠ none) ∧ GA k H g ∧ RpA k H B vs ds ∧ F ds g = some (d, g') ∧
  ∀ v H', Fr0 k H H' → GA k H' g' → Rp k H' B v d → Q v H'
def startE (n : Nat) (ds : List D) : En := ds.map Sl.val ++ List.replicate (n - ds.length) .no
def runD (n : Nat) (m : MS) : DF := fun ds g => match m (startE n ds) g with
  | some (.ret d, _, g') => some (d, g')
  | some (.nx, _, g') => some (.none, g')
  | _ => none
theorem start_no {n : Nat} {ds : List D} {i : Nat} {es : List D} : (startE n ds)[i]? ≠ some (Sl.own es) := fun h => by
  unfold startE at h
  by_cases hi : i < ds.length
  · rw [List.getElem?_append_left (by simpa using hi), List.getElem?_map] at h
    cases e : ds[i]? with
    | none => rw [e] at h; cases h
    | some d => rw [e] at h; cases h
  · rw [List.getElem?_append_right (by simpa using hi), List.getElem?_replicate] at h
    split at h <;> cases h
theorem ist_start {k : Kx} {B : Addr → Prop} {H : Hp} {g : G} {vs : List V} {ds : List D} {N : List Str} (h0 : ∀ b, B0 k b → B b) (hb : ∀ b, B b → H b ≠ none) (ga : GA k H g) (r : RpA k H B vs ds) :
    Ist k ⟨B, H⟩ [] (startE N.length ds) (fun _ => 0) g (L2.start N vs) H := by
  have be : ∀ b, BE ⟨B, H⟩ true (startE N.length ds) (fun _ => 0) b → B b := fun b z => z.elim id fun ⟨_, i, es, e, _⟩ => absurd e start_no
  refine ⟨?_, fun i d e => ?_, fun i es e => absurd e start_no, fun i j es fs e _ _ => absurd e start_no, fun p hp => absurd hp (by simp), ga, .refl k H, h0, hb⟩
  · unfold L2.start startE
    simp only [List.length_append, List.length_map, List.length_replicate, r.length]
  · unfold startE at e
    have hi : i < ds.length := by
      by_cases hi : i < ds.length
      · exact hi
      · rw [List.getElem?_append_right (by simpa using hi), List.getElem?_replicate] at e
        split at e <;> cases e
    rw [List.getElem?_append_left (by simpa using hi), List.getElem?_map] at e
    cases e1 : ds[i]? with
    | none => rw [e1] at e; cases e
    | some d1 =>
      rw [e1] at e
      cases e
      obtain ⟨v, hv, rv⟩ := r.get e1
      refine ⟨v, ?_, rv.shrink be⟩
      unfold L2.start
      have hl := r.length
      rw [List.getElem?_append_left (by rw [List.length_map]; omega), List.getElem?_map, hv]
      rfl
section
variable {P : Program} {w : World} {k : Kx} {mg : Str → Option Value} {base : Heap}
/-- a def, by its body's data reading -/
theorem def_ok {x qual : Str} {st : Stmt} {fa : Addr} {fd : FuncData} {N ps : List Str} {j : Nat} {m : MS} (F : Fun k.K x qual st fa fd) (S : FnScope N ps (defScope st))
    (hbody : ∀ (cdv : Value) (A : Around) (outer : List Env) (s : Shared) (H : Hp) (E : XK) (f : Fx), Room j (A.deeper (envOfC qual (defScope st) s.heap.objs.size fa cdv)) →
      PSs (cxOf CX0 P w k.K mg base N qual (defScope st) fa cdv A outer s H E).nox (defBody st) (tS k f [] m)) : FnOk P w k.K mg base CX0 (j + 1) fa fd ps (spD k ps.length (runD N.length m)) := by
  refine F.ok S (fun vs H Q E ⟨B, ds, g, d, g', hl, _, _, _, r, _⟩ => r.length.trans hl) fun cdv A outer s H vs Q E hr ⟨B, ds, g, d, g', hl, h0, hb, ga, r, hF, q⟩ => ?_
  refine ⟨_, hbody cdv A outer s H E ⟨B, H⟩ hr, startE N.length ds, fun _ => 0, g, ?_⟩
  unfold runD at hF
  split at hF
  · rename_i d1 E1 g1 h1
    cases hF
    exact ⟨_, ist_start h0 hb ga r, h1, fun v H' fr ga' r' => q v H' fr ga' r'⟩
  · rename_i E1 g1 h1
    cases hF
    exact ⟨_, ist_start h0 hb ga r, h1, fun σ μ H' I => q _ H' I.fr I.ga .non⟩
  · cases hF
end
/-- a call of a def -/
def eCall (F : DF) (a : ML) : M := fun E g => match a E g with
  | none => none
  | some (ds, g1) => F ds g1
section
variable {k : Kx} {f : Fx} {sm : Bool} {X : Cx} {j n : Nat} {fa : Addr} {fd : FuncData} {ps : List Str} {x : Str} {p pos : Pos} {e : Expr} {es : List Expr} {ml : ML} {F : DF}
theorem de_call (hF : FnOk X.prog X.w X.K X.mg X.base CX0 j fa fd ps (spD k n F)) (hr : Room j X.A) (hg : Gl X x) (hm : X.mg x = some (.ref fa)) (hk : PySem.W.keepIn X.K (.ref fa) = true) (hb : Binds X.K fd ps [])
    (ha : PA X (e :: es) (tL k f sm ml)) (hn : ∀ E g ds g', ml E g = some (ds, g') → ds.length = n) (hdb : (x == ("__debug__" : Str)) = false := by decide) (he : starEach (e :: es) X.env = (false, eval e X.env) :: starEach es X.env := by rfl) (hpl : (backTo pos (starEach es X.env)).any (·.1) = false := by rfl) :
    PE X (.Call (.Name x p) (e :: es) [] pos) (tE k f sm (eCall F ml)) := pe_of (pe_call hF hr hg hm hk hb .nil pass0 ha hdb he hpl) fun σ H Q ⟨ex, E, μ, g, d, g', I, e, q⟩ => by
  unfold eCall at e
  split at e
  · cases e
  · rename_i ds g1 h1
    refine ⟨ex, E, μ, g, ds, g1, I, h1, fun vs H1 p1 r1 => ?_⟩
    have I1 := I.step p1
    show spD k n F (vs ++ []) H1 Q E0
    rw [List.append_nil]
    exact ⟨BE f sm E μ, ds, g1, d, g', hn _ _ _ _ h1, I.hb sm, fun b z => I1.be sm z, I1.ga, r1, e, fun v H' fr ga r => q v H' (p1.trans ⟨fr, ga⟩) r⟩
/-- the arguments by keywords -/
def pick {α : Type} (is : List Nat) (l : List α) (a : α) : List α := is.map fun i => l.getD i a
theorem pick_vals {zs : List V} {ws : List Value} (h : Vals zs ws) : ∀ is : List Nat, Vals (pick is zs .non) (pick is ws .none)
  | [] => .nil
  | i :: is => by
    refine .cons ?_ (pick_vals h is)
    show RelV (zs.getD i .non) (ws.getD i .none)
    rw [List.getD_eq_getElem?_getD, List.getD_eq_getElem?_getD]
    cases e : zs[i]? with
    | none => rw [h.none_of e]; rfl
    | some v =>
      obtain ⟨u, hu, r⟩ := h.get e
      rw [hu]; exact r
theorem pick_rp {H : Hp} {B : Addr → Prop} {zs : List V} {ds : List D} (h : RpA k H B zs ds) : ∀ is : List Nat, RpA k H B (pick is zs .non) (pick is ds .none)
  | [] => .nil
  | i :: is => by
    refine .cons ?_ (pick_rp h is)
    show Rp k H B (zs.getD i .non) (ds.getD i .none)
    rw [List.getD_eq_getElem?_getD, List.getD_eq_getElem?_getD]
    cases e : ds[i]? with
    | none =>
      have : zs[i]? = none := by
        rw [List.getElem?_eq_none_iff] at e ⊢
        rw [h.length]; exact e
      rw [this]; exact .non
    | some v =>
      obtain ⟨u, hu, r⟩ := h.get e
      rw [hu]; exact r
/-- how the keywords bind -/
def KwB (K : PySem.W.Frag) (fd : FuncData) (ps ks : List Str) (is : List Nat) : Prop := ∀ (s : Shared) (ws : List Value), K.In s.heap → ws.length = ks.length → BindsTo s fd ⟨[], ks.zip ws⟩ (ps.zip (pick is ws .none))
def eCallK (F : DF) (is : List Nat) (a : ML) : M := fun E g => match a E g with
  | none => none
  | some (ds, g1) => F (pick is ds .none) g1
theorem de_callK {kws : List Keyword} {ks : List Str} {is : List Nat} (hF : FnOk X.prog X.w X.K X.mg X.base CX0 j fa fd ps (spD k n F)) (hr : Room j X.A) (hg : Gl X x) (hm : X.mg x = some (.ref fa)) (hk : PySem.W.keepIn X.K (.ref fa) = true) (hb : KwB X.K fd ps ks is)
    (ha : PK X kws (tL k f sm ml)) (hn : is.length = n) (hks2 : ∀ E g ds g', ml E g = some (ds, g') → ds.length = ks.length) (hall : (backToKw pos (keywordEach kws X.env)).all (·.1.isSome) = true := by rfl) (hks : (backToKw pos (keywordEach kws X.env)).filterMap (·.1) = ks := by rfl)
    (hdb : (x == ("__debug__" : Str)) = false := by decide) (hpl : ((backTo pos (starEach [] X.env)).any (·.1) || (backToKw pos (keywordEach kws X.env)).any (·.1.isNone)) = false := by rfl) :
    PE X (.Call (.Name x p) [] kws pos) (tE k f sm (eCallK F is ml)) := by
  refine ⟨fun pins s σ H Q I0 ⟨ex, E, μ, g, d, g', I, e, q⟩ => ?_⟩
  unfold eCallK at e
  split at e
  · cases e
  · rename_i ds g1 h1
    refine wpAny_Call_Name_kw (ld_glob I0 hg hm ?_ hdb)
    refine PySem.W.callWith_KW0 (h₀ := X.base) I0.ok.mod.kin hk hall ?_ hpl
    refine thn (ha.run pos pins s σ H (fun vs H1 => PEd k g1 H H1 ∧ RpA k H1 (BE f sm E μ) vs ds) I0 ⟨ex, E, μ, g, ds, g1, I, h1, fun vs H1 p1 r1 => ⟨p1, r1⟩⟩) fun ws s2 ⟨zs, H2, I2, rz, p1, r1⟩ => ⟨I2.kIn, ?_⟩
    rw [hks]
    have I1 := I.step p1
    have hl : ws.length = ks.length := by rw [← rz.length, r1.length]; exact hks2 _ _ _ _ h1
    refine wpAny_call (codeAny_mono (hF.run X.A X.stack s2 H2 ⟨[], ks.zip ws⟩ (pick is ws .none) (pick is zs .non) Q E0 hr I2.env0 (hb s2 ws I2.kIn hl) (pick_vals rz is) ?_) fun r s' hq => ?_)
    · exact ⟨BE f sm E μ, pick is ds .none, g1, d, g', by unfold pick; rw [List.length_map]; exact hn, I.hb sm, fun b z => I1.be sm z, I1.ga, pick_rp r1 is, e, fun v H' fr ga r => q v H' (p1.trans ⟨fr, ga⟩) r⟩
    · cases r with
      | error e => exact hq.elim
      | ok fl =>
        cases fl with
        | ret u => exact I2.after hq
        | next => exact False.elim hq
        | brk => exact False.elim hq
        | cont => exact False.elim hq
theorem dk_nil : PK X [] (tL k f sm lNil) := ⟨fun pos pins s σ H Q I ⟨ex, E, μ, g, ds, g', J, e, q⟩ => by
  cases e
  exact pk_nil.run pos pins s σ H Q I (q [] H (.same (.refl H) J.ga) .nil)⟩
theorem dk_cons {m : M} {kws : List Keyword} {nm : Option Str} {kpos : Pos} (ha : PE X e (tE k f sm m)) (hr : PK X kws (tL k f sm ml)) : PK X (⟨nm, e, kpos⟩ :: kws) (tL k f sm (lCons m ml)) :=
  ⟨fun pos pins s σ H Q I0 ⟨ex, E, μ, g, ds, g', I, e, q⟩ => by
    refine (pk_cons ha hr).run pos pins s σ H Q I0 ?_
    unfold lCons at e
    split at e
    · cases e
    · rename_i d g1 h1
      split at e
      · cases e
      · rename_i ds2 g2 h2
        cases e
        refine ⟨ex, E, μ, g, d, g1, I, h1, fun v H1 p1 r1 => ?_⟩
        refine ⟨ex, E, μ, g1, ds2, g', I.step p1, h2, fun vs H2 p2 r2 => ?_⟩
        exact q _ H2 (p1.trans p2) (.cons (r1.step (I.hb sm) p2.fr) r2)⟩
end
/-- how many arguments -/
theorem ln_nil {E : En} {g : G} {ds : List D} {g' : G} (h : lNil E g = some (ds, g')) : ds.length = 0 := by cases h; rfl
theorem ln_cons {m : M} {ml : ML} {n : Nat} (hl : ∀ E g ds g', ml E g = some (ds, g') → ds.length = n) : ∀ (E : En) (g : G) (ds : List D) (g' : G), lCons m ml E g = some (ds, g') → ds.length = n + 1 := fun E g ds g' h => by
  unfold lCons at h
  split at h
  · cases h
  · split at h
    · cases h
    · rename_i d2 g2 h2
      cases h
      rw [List.length_cons, hl _ _ _ _ h2]
theorem ln0 : ∀ (E : En) (g : G) (ds : List D) (g' : G), lNil E g = some (ds, g') → ds.length = 0 := fun _ _ _ _ h => ln_nil h
end DL

set_option Elab.async false
set_option linter.all false
set_option maxRecDepth 100000
set_option maxHeartbeats 2000000
namespace DL
open PySem PySem.Spec PyProof.Rows L2 GenW
/-! ### a generator expression's frame -/
abbrev gx (X : Cx) (A : Around) (s : Shared) (H : Hp) (cenv : Env) (fp : List Addr) : Cx :=
  { X with A := A, s_0 := s, H_0 := H, env := cenv, outer := X.stack, stack := cenv :: X.stack, ex := fp, fn := fun _ => false, pn := [], xe := fun _ _ => False }
section
variable {X : Cx} {pins : List (Addr × Obj)} {σ : L2.St} {H : Hp} {s : Shared}
theorem gen_start {A : Around} {scope : Scope} {own : List (Str × Nat)} {fp : List Addr} {code it : Value} {go : Obj} {h' : Heap} {gs : GenState} {tk : Nat} (I : Inv X pins σ H s) (ok : BlkOk X.N X.env.scope scope own) (hcell : ∀ y ∈ scope.names, y.2 ≠ .cell) (hN : X.N.Nodup)
    (hfp : ∀ b ∈ fp, FpOk X pins H b ∧ b < s.heap.objs.size) (hA : A.handled = none) (hfr : A.frames = some (genEnv scope (cloFrom X.env.cells scope.names []) s.heap.objs.size code builtinsNs X.env :: X.stack)) (hcalm : X.calm = true)
    (hns : h'.Ns s.heap.objs.size (fun y => if y = ".0" then some it else none)) (hsb : Heap.SameBut s.heap.objs.size (s.heap.push { cls := .type "frame", data := .dict #[] }) h') (hgb : gs.bare = true) (hgo : (h'.push go).get? h'.objs.size = some go) (hgd : ∀ v, go.data ≠ .cell v) :
    Inv (gx X A s H (genEnv scope (cloFrom X.env.cells scope.names []) s.heap.objs.size code builtinsNs X.env) fp) [(h'.objs.size, go)] (wipe σ (own.map (·.2))) H { s with gens := s.gens.push gs, toks := tk, heap := h'.push go } := by
  have hfree : ∀ y ∈ scope.names, y.2 = .free → ∃ c, X.env.cells.lookup y.1 = some c := fun y hy e => by
    rcases ok.free y hy e with k | k
    · exact I.ok.has _ (.inl k)
    · exact I.ok.has _ (.inr k)
  have hsz : h'.objs.size = s.heap.objs.size + 1 := by rw [hsb.1, Heap.size_push]
  have kp1 : ∀ b o, s.heap.get? b = some o → h'.get? b = some o := fun b o e => (hsb.2 b (Nat.ne_of_lt (Heap.lt_size e))).trans (Heap.get?_push_of_some _ e)
  have kp : ∀ b o, s.heap.get? b = some o → (h'.push go).get? b = some o := fun b o e => Heap.get?_push_of_some _ (kp1 b o e)
  have cm : ∀ {y c}, (y, c) ∈ cloFrom X.env.cells scope.names [] → X.env.cells.lookup y = some c ∧ c < s.heap.objs.size := fun {y c} hm => by
    rcases cloFrom_mem hm with hm | ⟨h1, rfl⟩
    · cases hm
    · obtain ⟨c, hc⟩ := hfree _ h1 rfl
      rw [hc]
      obtain ⟨w, z⟩ := I.cell _ _ hc
      exact ⟨rfl, z.lt⟩
  have cl : ∀ {y c}, (cloFrom X.env.cells scope.names []).lookup y = some c → X.env.cells.lookup y = some c ∧ c < s.heap.objs.size := fun {y c} h => cm (PySem.mem_of_lookup h)
  have look : ∀ {y}, scope.names.lookup y = some .free → ∃ c, (cloFrom X.env.cells scope.names []).lookup y = some c := fun {y} hl => by
    have hy : (y, NameKind.free) ∈ scope.names := PySem.mem_of_lookup hl
    exact mem_lookup (cloFrom_has (cells := X.env.cells) (acc := []) hy)
  have nocell : ∀ y, scope.names.lookup y ≠ some .cell := fun y h => hcell _ (PySem.mem_of_lookup h) rfl
  have szC : ∀ b o, s.heap.get? b = some o → b ≠ s.heap.objs.size := fun b o e => Nat.ne_of_lt (Heap.lt_size e)
  have okB : (gx X A s H (genEnv scope (cloFrom X.env.cells scope.names []) s.heap.objs.size code builtinsNs X.env) fp).Ok := by
    refine ⟨I.ok.mod, ok.kind, I.ok.glob, rfl, Nat.le_refl _, fun y z c e1 e2 => ?_, fun y hy => ?_, fun y c z e => ?_, fun _ => hA, hfr, .inr ⟨rfl, rfl⟩, fun b hb => ⟨?_, fun y c e z => ?_⟩, I.bs, Nat.le_trans I.ok.bsz I.sz, fun b o e hb => ?_, fun b hb z => ?_, I.stack, I.stkFree⟩
    · exact I.ok.inj y z c (cl e1).1 (cl e2).1
    · have hy : scope.names.lookup y = some .cell ∨ scope.names.lookup y = some .free := hy
      rcases hy with hy | hy
      · exact absurd hy (nocell y)
      · exact look hy
    · cases z
    · exact Nat.ne_of_lt (hfp b hb).2
    · exact (hfp b hb).1.2.2.2.2.1 y c (cl e).1 z
    · rcases (hfp b hb).1.2.2.2.1 with z | z
      · exact I.ok.noex b o e z
      · exact absurd (Nat.lt_of_lt_of_le (Heap.lt_size e) (Nat.le_trans I.ok.bsz z)) (Nat.lt_irrefl _)
    · rcases List.mem_cons.mp (I.stkSub b z) with z | z
      · exact (hfp b hb).1.2.1 z
      · exact (hfp b hb).1.2.2.1 z
  refine ⟨okB, rfl, I.bare.push hgb, Un.kept kp, ⟨_, hns.push _, fun i y av e1 e2 e3 => ?_⟩, fun y c e => ?_, I.hok.fresh (Nat.le_refl _), fun y c e => ?_, fun p hp => ?_, I.hok.kept kp, by rw [wipe_length]; exact I.len⟩
  · obtain ⟨e2, hne⟩ := wipe_some e2
    have e3 : Vis scope y := e3
    have no : scope.names.lookup y ≠ some .local := fun e => by
      rcases ok.own _ (PySem.mem_of_lookup e) (.inl rfl) with e' | e'
      · obtain ⟨p, hp, hpy⟩ := List.mem_map.mp e'
        have e3 := ok.ix p hp
        have : p.1 = y := hpy
        rw [this] at e3
        exact hne (List.mem_map.mpr ⟨p, hp, nodup_ix hN e3 e1⟩)
      · exact e' (List.mem_of_getElem? e1)
    have hfr' : scope.names.lookup y = some .free := by
      rcases e3 with e3 | e3 | e3
      · exact absurd e3 no
      · exact absurd e3 (nocell y)
      · exact e3
    obtain ⟨m, hn, hl⟩ := I.loc
    have hvis : Vis X.env.scope y := (ok.free _ (PySem.mem_of_lookup hfr') rfl).elim (fun k => .inr (.inl k)) (fun k => .inr (.inr k))
    obtain ⟨w, r, q⟩ := hl i y av e1 e2 hvis
    refine ⟨w, r, .inr ⟨.inr hfr', ?_⟩⟩
    obtain ⟨c, h1⟩ := look hfr'
    rcases q with ⟨k, _⟩ | ⟨_, c', e', z⟩
    · have k : X.env.scope.names.lookup y = some .local := k
      rcases ok.free _ (PySem.mem_of_lookup hfr') rfl with k' | k' <;> rw [show X.env.scope.names.lookup y = _ from k'] at k <;> cases k
    · have := (cl h1).1
      rw [this] at e'
      cases e'
      exact ⟨c, h1, z.keeps kp⟩
  · obtain ⟨w, z⟩ := I.cell y c (cl e).1
    exact ⟨w, z.keeps kp⟩
  · exact I.freeC y c (cl e).1
  · rw [List.mem_singleton.mp (show p ∈ [(h'.objs.size, go)] from hp)]
    refine ⟨hgo, I.hok.fresh (by rw [hsz]; exact Nat.le_succ _), by show h'.objs.size ≠ s.heap.objs.size; rw [hsz]; exact Nat.succ_ne_self _, fun z => ?_, hgd⟩
    obtain ⟨_, o, ho, _⟩ := I.stack.mem z
    have h1 : (h'.objs.size : Nat) < s.heap.objs.size := Heap.lt_size ho
    rw [hsz] at h1
    exact absurd h1 (Nat.not_lt.mpr (Nat.le_succ _))
end

/-! ### its turns -/
/-- all(elt for tg in iter): W by the turn and how many are left -/
def tAllG (P : Addr) (wi : TI) (g : TG) (te : TE) (vs : List Nat) : TE := fun σ H Q => wi σ H fun J H1 => GxR.TabG H1 P ∧ ∀ H2, GxR.Tabbed P H1 H2 → ∃ W : Nat → Nat → Hp → Prop, (∃ m, W 0 m H2) ∧ (∀ i H, W i 0 H → J.stop i H ∧ Q (.bl true) H) ∧
  ∀ i m H, W i (m + 1) H → J.go i H ∧ ∀ x H', J.yld i H x H' → g x (wipe σ vs) H' fun σ2 H2 => wipe σ2 vs = wipe σ vs ∧ te σ2 H2 fun y H4 => ∃ b, y = .bl b ∧ if b = true then W (i + 1) m H4 else Q (.bl false) H4
section
variable {X : Cx} {A : Around} {s4 : Shared} {H4 : Hp} {cenv : Env} {fp : List Addr} {elt tgE iter : Expr} {scope : Scope} {gpos : Pos} {it a : Addr} {go : Obj} {g : Nat} {J : It} {tn : Nat → Heap → Prop} {gt : TG} {te : TE} {vs : List Nat} {σ : L2.St} {Q : VK} {W : Nat → Nat → Hp → Prop}
/-- where the generator stands between two turns -/
abbrev gA (A : Around) (elt tgE iter : Expr) (scope : Scope) (gpos : Pos) (it : Addr) (cenv : Env) : Around := A.over (.compLoop (.GeneratorExp elt [⟨tgE, iter, [], 0⟩] scope gpos) 0 (.ref it) .none cenv) []
abbrev gX (X : Cx) (A : Around) (s4 : Shared) (H4 : Hp) (cenv : Env) (fp : List Addr) (elt tgE iter : Expr) (scope : Scope) (gpos : Pos) (it : Addr) : Cx := gx X (gA A elt tgE iter scope gpos it cenv) s4 H4 cenv fp
/-- an end of the whole: b is told -/
def gFin (X' : Cx) (a : Addr) (go : Obj) (Q : VK) (b : Bool) (s : Shared) : Prop := ∃ σ H, Inv X' [(a, go)] σ H s ∧ Q (.bl b) H
def gR (X' : Cx) (a : Addr) (go : Obj) (Q : VK) : GenEnd := fun n _ r s => ((r = .ok (.ret .none) ∨ r = .ok .next) ∧ (n = 0 ∧ gFin X' a go Q true s)) ∨ ∃ e, r = .error e ∧ False
def gY (X' : Cx) (a : Addr) (go : Obj) (Q : VK) : Protocol := fun n _ v s kap => ∃ b, v = .bool b ∧ (∃ σ H, Inv X' [(a, go)] σ H s) ∧ (b = false → gFin X' a go Q false s) ∧ (b = true → ∀ s'', s''.heap = s.heap → s''.os = s.os → AllBare s''.gens → kap (.send .none) s'')
theorem inv_gens {X' : Cx} {pins : List (Addr × Obj)} {σ : L2.St} {H : Hp} {s s' : Shared} (I : Inv X' pins σ H s) (h1 : s'.heap = s.heap) (h2 : s'.os = s.os) (h3 : AllBare s'.gens) : Inv X' pins σ H s' := by
  refine I.call' (ch := []) h2 ?_ ?_ h3 (fun b z => by simp at z)
  · rw [h1]; exact Un.refl
  · rw [h1]; exact I.hok
theorem seg_gloop (hcalm : X.calm = true) (T : Turn X.prog X.w X.K tgE J fp it tn) (hco : cenv.scope.isCoroutine = false)
    (hg : PG (gX X A s4 H4 cenv fp elt tgE iter scope gpos it) tgE gt) (he : PE (gX X A s4 H4 cenv fp elt tgE iter scope gpos it) elt te)
    (stop : ∀ i H, W i 0 H → J.stop i H ∧ Q (.bl true) H)
    (turn : ∀ i m H, W i (m + 1) H → J.go i H ∧ ∀ x H', J.yld i H x H' → gt x (wipe σ vs) H' fun σ2 H2 => wipe σ2 vs = wipe σ vs ∧ te σ2 H2 fun y H4 => ∃ b, y = .bl b ∧ if b = true then W (i + 1) m H4 else Q (.bl false) H4) :
    ∀ (m i : Nat) (s₀ s : Shared) (H : Hp), W i m H → Inv (gX X A s4 H4 cenv fp elt tgE iter scope gpos it) [(a, go)] (wipe σ vs) H s → tn i s.heap → (∀ b ∈ fp, H b = none) → a ∉ fp →
      Seg (model X.prog X.w) A (gR (gX X A s4 H4 cenv fp elt tgE iter scope gpos it) a go Q) (gY (gX X A s4 H4 cenv fp elt tgE iter scope gpos it) a go Q) m s₀
        (.compLoop (.GeneratorExp elt [⟨tgE, iter, [], 0⟩] scope gpos) 0 (.ref it) .none cenv) ((model X.prog X.w).den (.compLoop (.GeneratorExp elt [⟨tgE, iter, [], 0⟩] scope gpos) 0 (.ref it) .none cenv)) [] s := by
  have stat : ∀ {σ' : L2.St} {H' : Hp} {s' : Shared}, Inv (gX X A s4 H4 cenv fp elt tgE iter scope gpos it) [(a, go)] σ' H' s' → (∀ b ∈ fp, H' b = none) → a ∉ fp → ∀ b ∈ fp, FpOk (gX X A s4 H4 cenv fp elt tgE iter scope gpos it) [(a, go)] H' b := fun {σ' H' s'} I' hn ha b hb =>
    ⟨hn b hb, (I'.ok.exf b hb).1, I'.ok.exfs b hb, .inl hb, fun x c e => (I'.ok.exf b hb).2 x c e, fun p hp => by
      rw [List.mem_singleton.mp (show p ∈ [(a, go)] from hp)]
      exact fun e => ha (by rw [show a = b from e]; exact hb)⟩
  intro m
  induction m with
  | zero =>
    intro i s₀ s H w I st nf ha
    show Seg _ A _ _ _ s₀ _ ((compTurn (.GeneratorExp elt [⟨tgE, iter, [], 0⟩] scope gpos) 0 (.ref it) .none cenv).onRaise (leaving cenv)) [] s
    rw [compTurn_gen, Sem.onRaise_eq_wrap]
    refine seg_bind_wrap (wpAny_standAt ?_)
    obtain ⟨h1, h2⟩ := stop i H w
    refine seg_bind_wrap (wpAny_mono (T.done (gX X A s4 H4 cenv fp elt tgE iter scope gpos it) rfl rfl rfl hcalm i [(a, go)] s _ H (fun _ _ => False) I (stat I nf ha) st h1) (fun r s1 hr => ?_) fun _ _ z => z.elim)
    obtain ⟨rfl, I1⟩ := hr
    exact seg_end (.ok .next) (.inl ⟨.inr rfl, rfl, _, H, I1, h2⟩)
  | succ m ih =>
    intro i s₀ s H w I st nf ha
    show Seg _ A _ _ _ s₀ _ ((compTurn (.GeneratorExp elt [⟨tgE, iter, [], 0⟩] scope gpos) 0 (.ref it) .none cenv).onRaise (leaving cenv)) [] s
    rw [compTurn_gen, Sem.onRaise_eq_wrap]
    refine seg_bind_wrap (wpAny_standAt ?_)
    obtain ⟨hgo, step⟩ := turn i m H w
    refine seg_bind_wrap (wpAny_mono (T.item (gX X A s4 H4 cenv fp elt tgE iter scope gpos it) rfl rfl rfl hcalm i [(a, go)] s _ H (fun _ _ => False) I (stat I nf ha) st hgo) (fun r s1 hr => ?_) fun _ _ z => z.elim)
    obtain ⟨u, rfl, h6⟩ := hr
    refine seg_bind_wrap (wpAny_mono h6 (fun _ s2 h7 => ?_) fun _ _ z => z.elim)
    obtain ⟨x, H2, I2, r2, y2, st2, n2⟩ := h7
    have I2' := I2.pinned (stat I2 n2 ha) (T.obj _ _ st2)
    refine seg_bind_wrap (wpAny_mono (hg.run _ s2 _ H2 x u _ I2' r2 (step x H2 y2)) (fun _ s3 h8 => ?_) fun _ _ z => z.elim)
    obtain ⟨σ3, H3, I3, hw3, q3⟩ := h8
    simp only [List.forIn_nil]
    refine seg_bind_wrap (wpAny_pure ?_)
    simp only [if_true]
    have hy : ∀ v, yieldOut cenv v = yieldValue v := fun v => by simp only [yieldOut, hco, Bool.false_eq_true, if_false]
    simp only [hy]
    rw [Sem.bind_eq_wrap', Sem.bind_eq_wrap', Sem.wrap_wrap, Sem.wrap_wrap]
    refine seg_wrap (wpAny_mono (he.run _ s3 σ3 H3 _ I3 q3) (fun y s5 h9 => ?_) fun _ _ z => z.elim)
    obtain ⟨yv, H5, I5, r5, b, rfl, q5⟩ := h9
    obtain rfl : y = Value.bool b := r5
    have pin' : ∀ b ∈ fp, ∀ o, s2.heap.get? b = some o → s5.heap.get? b = some o ∧ H5 b = none := fun b hb o e =>
      let z := I5.pin (b, o) (List.mem_append_right _ (List.mem_append_right _ (mem_pinsAt hb e)))
      ⟨z.1, z.2.1⟩
    have I6 : Inv (gX X A s4 H4 cenv fp elt tgE iter scope gpos it) [(a, go)] (wipe σ vs) H5 s5 := by
      refine (I5.unpinned (pins := [(a, go)])).weak ?_ fun j v e => ?_
      · rw [← hw3, wipe_length]
      · rw [← hw3] at e
        exact (wipe_some e).1
    refine seg_at (seg_yield rfl rfl rfl ⟨b, rfl, ⟨_, _, I6⟩, fun hb => ?_, fun hb s'' e1 e2 e3 => ?_⟩)
    · subst hb
      exact ⟨_, _, I6, q5⟩
    · subst hb
      refine seg_again rfl (ih (i + 1) s'' s'' H5 q5 (inv_gens I6 e1 e2 e3) ?_ (fun b hb => ?_) ha)
      · rw [e1]
        exact T.keep _ _ _ st2 fun b hb o e => (pin' b hb o e).1
      · obtain ⟨o, e, _⟩ := T.obj _ _ st2 b hb
        exact (pin' b hb o e).2
end
end DL

set_option Elab.async false
set_option linter.all false
set_option maxRecDepth 100000
set_option maxHeartbeats 2000000
namespace DL
open PySem PySem.Spec PyProof.Rows L2 GenW
section
variable {X : Cx} {A : Around} {s4 : Shared} {H4 : Hp} {cenv : Env} {fp : List Addr} {elt tgE iter : Expr} {scope : Scope} {gpos : Pos} {it a : Addr} {go : Obj} {g : Nat} {J : It} {tn : Nat → Heap → Prop} {gt : TG} {te : TE} {vs : List Nat} {σ : L2.St} {Q : VK} {W : Nat → Nat → Hp → Prop}
theorem seg_gstart {X' : Cx} {m i : Nat} {s₀ s : Shared} {M : Model}
    (loop : Seg M A (gR X' a go Q) (gY X' a go Q) m s₀ (.compLoop (.GeneratorExp elt [⟨tgE, iter, [], 0⟩] scope gpos) 0 (.ref it) .none cenv) (M.den (.compLoop (.GeneratorExp elt [⟨tgE, iter, [], 0⟩] scope gpos) 0 (.ref it) .none cenv)) [] s)
    (self : ∀ (A : Around) (Q : Value → Shared → Prop) (E : Value → Shared → Prop), Q (.ref it) s → wpAny M A (pyIter (.ref it)) Q E s)
    (hden : M.den (.compStart (.GeneratorExp elt [⟨tgE, iter, [], 0⟩] scope gpos) 0 (.ref it) .none cenv) = (compStart (.GeneratorExp elt [⟨tgE, iter, [], 0⟩] scope gpos) 0 (.ref it) .none cenv).onRaise (leaving cenv)) :
    Seg M A (gR X' a go Q) (gY X' a go Q) m s₀ (.compStart (.GeneratorExp elt [⟨tgE, iter, [], 0⟩] scope gpos) 0 (.ref it) .none cenv) (M.den (.compStart (.GeneratorExp elt [⟨tgE, iter, [], 0⟩] scope gpos) 0 (.ref it) .none cenv)) [] s := by
  rw [hden]
  unfold compStart
  rw [Sem.onRaise_eq_wrap]
  show Seg _ A _ _ _ s₀ _ ((ask >>= _).wrap _ _ _ _) [] s
  refine seg_bind_wrap (wpAny_askSetting ?_)
  split
  · exact seg_again rfl loop
  · first
      | exact seg_bind_wrap (wpAny_rule (seg_bind_wrap (wpAny_standAt (seg_bind_wrap (self _ _ _ (seg_again rfl loop))))))
      | (refine seg_bind_wrap (wpAny_rule ?_); show Seg _ A _ _ _ s₀ _ ((standAt iter.pos >>= _).wrap _ _ _ _) [] s; exact seg_bind_wrap (wpAny_standAt (seg_bind_wrap (self _ _ _ (seg_again rfl loop)))))
/-- the turns of all(..) over such a generator -/
theorem all_turns {X' : Cx} {B : Around} {R : Result → Shared → Prop} (hh : B.handled = none) (hd : B.depth < recursionLimit) (hgo : ∀ h : Heap, h.get? a = some go → h.IsGen a g)
    (fin : ∀ b s s', gFin X' a go Q b s → s'.os = s.os → (∀ b o, s.heap.get? b = some o → s'.heap.get? b = some o) → AllBare s'.gens → R (.ok (.ret (.bool b))) s') :
    ∀ (m : Nat) (s : Shared), (∃ σ H, Inv X' [(a, go)] σ H s) →
      (∃ gs, s.gens[g]? = some gs ∧ gs.Goes (model X'.prog X'.w) B.in1.in1 (gR X' a go Q) (gY X' a go Q) m (.send .none) (s.setGen g .running)) →
      codeAny (model X'.prog X'.w) B (.builtin "all.loop" ⟨[.ref a], []⟩) R s := by
  have isg : ∀ {σ : L2.St} {H : Hp} {s : Shared}, Inv X' [(a, go)] σ H s → s.heap.IsGen a g := fun {σ H s} I => hgo _ (I.pin (a, go) (List.mem_append_right _ (List.mem_singleton.mpr rfl))).1
  have goesE : ∀ {gs : GenState} {C : Around} {n : Nat} {r : Resume} {s : Shared}, gs.Goes (model X'.prog X'.w) C (gR X' a go Q) (gY X' a go Q) n r s →
      gs.Goes (model X'.prog X'.w) C (fun n _ r s => ((r = .ok (.ret .none) ∨ r = .ok .next) ∧ (n = 0 ∧ gFin X' a go Q true s)) ∨ ∃ e, r = .error e ∧ False) (gY X' a go Q) n r s := fun h => h
  have doneP : ∀ {s₁ : Shared} {h' : Heap}, gFin X' a go Q true s₁ → (∀ b o, s₁.heap.get? b = some o → h'.get? b = some o) → R (.ok (.ret (.bool true))) { s₁.setGen g .finished with heap := h' } := fun {s₁ h'} hf hk => by
    obtain ⟨σ, H, I, q⟩ := hf
    exact fin true s₁ _ ⟨σ, H, I, q⟩ rfl hk (allBare_setGen I.bare rfl)
  intro m
  induction m with
  | zero =>
    intro s ⟨σ, H, I⟩ ⟨gs, hgs, hgo'⟩
    refine codeAny_builtin F.entry_all_loop ?_
    rw [Around.under_plainId F.plain_all_loop _]
    show wpAny _ B.in1 (pyNext (.ref a) >>= _) _ _ s
    refine wpAny_bind (next_genG (A := B.in1) hh I.nolimit hd (isg I) hgs (goesE hgo') (fun v s₁ gs' hb hv => ?_) (fun s₁ hp h' hk => ?_) fun e s₁ he => he.elim)
    · obtain ⟨b, rfl, ⟨σ1, H1, I1⟩, hf, ht⟩ := hv
      cases b with
      | true => exact (ht rfl s₁ rfl rfl I1.bare).elim
      | false =>
        refine wpAny_bind (wpAny_holding (wpAny_truthy_bool ?_))
        refine wpAny_bind (wpAny_letGo ?_)
        simp only [Bool.false_eq_true, if_false]
        exact wpAny_bind (wpAny_rule (wpAny_pure (fin false s₁ _ (hf rfl) rfl (fun _ _ e => e) (allBare_setGen I1.bare hb))))
    · exact wpAny_bind (wpAny_rule (wpAny_pure (doneP hp.2 hk)))
  | succ m ih =>
    intro s ⟨σ, H, I⟩ ⟨gs, hgs, hgo'⟩
    have hgl : g < s.gens.size := (Array.getElem?_eq_some_iff.mp hgs).1
    refine codeAny_builtin F.entry_all_loop ?_
    rw [Around.under_plainId F.plain_all_loop _]
    show wpAny _ B.in1 (pyNext (.ref a) >>= _) _ _ s
    refine wpAny_bind (wpAny_gsz (n := g + 1) hgl (next_genG (A := B.in1) hh I.nolimit hd (isg I) hgs (goesE hgo') (fun v s₁ gs' hb hv => ?_) (fun s₁ hp h' hk => ?_) fun e s₁ he => he.elim))
    · intro hsz
      obtain ⟨b, rfl, ⟨σ1, H1, I1⟩, hf, ht⟩ := hv
      have hsz1 : g < s₁.gens.size := by
        have q : (s₁.setGen g gs').gens.size = s₁.gens.size := setGen_size _ _ _
        have hsz' : g + 1 ≤ (s₁.setGen g gs').gens.size := hsz
        omega
      cases b with
      | true =>
        refine wpAny_bind (wpAny_holding (wpAny_truthy_bool ?_))
        refine wpAny_bind (wpAny_letGo ?_)
        simp only [if_true]
        refine wpAny_pure ⟨plainId_quiet F.plain_all_loop _, ih _ ⟨σ1, H1, inv_gens I1 rfl rfl (allBare_setGen I1.bare hb)⟩ ⟨gs', setGen_at hsz1, ?_⟩⟩
        exact ht rfl _ rfl rfl (allBare_setGen (s := s₁.setGen g gs') (allBare_setGen I1.bare hb) rfl)
      | false =>
        refine wpAny_bind (wpAny_holding (wpAny_truthy_bool ?_))
        refine wpAny_bind (wpAny_letGo ?_)
        simp only [Bool.false_eq_true, if_false]
        exact wpAny_bind (wpAny_rule (wpAny_pure (fin false s₁ _ (hf rfl) rfl (fun _ _ e => e) (allBare_setGen I1.bare hb))))
    · intro hsz
      exact wpAny_bind (wpAny_rule (wpAny_pure (doneP hp.2 hk)))
end
end DL

set_option Elab.async false
set_option linter.all false
set_option maxRecDepth 100000
set_option maxHeartbeats 2000000
namespace DL
open PySem PySem.Spec PyProof.Rows L2 GenW
theorem over_comp_handled {A : Around} {e : Expr} {n : Nat} {it acc : Value} {env : Env} : (A.over (.compLoop e n it acc env) []).handled = A.handled := rfl
theorem over_comp_frames {A : Around} {e : Expr} {n : Nat} {it acc : Value} {env : Env} {st : List Env} (h : A.frames = some st) (he : (Code.compLoop e n it acc env).envs = [env]) : (A.over (.compLoop e n it acc env) []).frames = some (env :: st) := by
  show pushEnvs (Code.compLoop e n it acc env).envs (pushEnvs (envsOf []) A.frames) = _
  rw [he, h]
  simp [pushEnvs_eq, envsOf]
/-- the generator expression's own scope -/
structure GSc (scope : Scope) : Prop where
  kind : scope.kind = .function
  co : scope.isCoroutine = false
  cell : ∀ y ∈ scope.names, y.2 ≠ .cell
  dot : scope.names.lookup (".0" : Str) = some NameKind.local
section
variable {X : Cx} {j : Nat} {c P : Addr} {elt tgE iter : Expr} {scope : Scope} {own : List (Str × Nat)} {p pos gpos : Pos} {wi : TI} {gt : TG} {te : TE}
theorem pe_allG (hr : Room (j + 1) X.A) (hcalm : X.calm = true) (hN : X.N.Nodup) (hg : Gl X "all") (hm : X.mg "all" = none) (hb : bootBuiltins "all" = some (.builtin "all")) (TB : GxR.TabB X.base X.mg c P) (hcode : X.env.code = .ref c) (S : GSc scope) (ok : BlkOk X.N X.env.scope scope own)
    (hi : PI X tgE iter wi)
    (hgt : ∀ (A : Around) (s : Shared) (H : Hp) (cenv : Env) (fp : List Addr), cenv.scope = scope → PG (gx X A s H cenv fp) tgE gt)
    (he : ∀ (A : Around) (s : Shared) (H : Hp) (C : Addr) (cl : List (Str × Addr)) (code : Value) (fp : List Addr), Room j A → PE (gx X A s H (genEnv scope cl C code builtinsNs X.env) fp) elt te)
    (hs : ∀ v, genFold iter X.env v = pure v)
    (hse : starEach [.GeneratorExp elt [⟨tgE, iter, [], 0⟩] scope gpos] X.env = (false, eval (.GeneratorExp elt [⟨tgE, iter, [], 0⟩] scope gpos) X.env) :: starEach [] X.env := by rfl) :
    PE X (.Call (.Name "all" p) [.GeneratorExp elt [⟨tgE, iter, [], 0⟩] scope gpos] [] pos) (tAllG P wi gt te (own.map (·.2))) := by
  refine ⟨fun pins s σ H Q I h => ?_⟩
  refine wpAny_Call_Name_kw (ld_blt I hg hm hb ?_)
  refine PyProof.Rows.callWith_builtin1 ?_ hse (by rfl)
  rw [hse]
  show wpAny _ _ (spliced ((false, eval (.GeneratorExp elt [⟨tgE, iter, [], 0⟩] scope gpos) X.env) :: backTo pos (starEach [] X.env))) _ _ s
  have hfree : ∀ y ∈ scope.names, y.2 = .free → ∃ c, X.env.cells.lookup y.1 = some c := fun y hy e => by
    rcases ok.free y hy e with k | k
    · exact I.ok.has _ (.inl k)
    · exact I.ok.has _ (.inr k)
  refine Calls.spliced_cons (wpAny_GeneratorExp_make S.co (closure_ok hfree) S.cell S.dot S.kind (by have := hr.dp; omega) ?_ hs)
  refine thn (hi.run pins s σ H _ I h) fun xv s1 hx => thn hx fun itv s2 h2 => ?_
  obtain ⟨it, fp, tn, J, H2, rfl, I2, T, st2, f2, ⟨ps, hP, ht⟩, q⟩ := h2
  have hPs : s2.heap.get? P = some { cls := .none, data := .fields ps } := I2.hok P _ hP
  have hPlt : P < s2.heap.objs.size := Heap.lt_size hPs
  have nP : ∀ b, H2 b = none → b ≠ P := fun b e z => by rw [z, hP] at e; cases e
  have cd : PySem.W.CodeHd s2.heap c P := TB.code.keeps fun b u e => I2.bk b u e
  refine ⟨I2.nolimit, ?_⟩
  have cont : ∀ (code : Value) (h3 : Heap) (tk : Nat) (more : Array Value), Heap.ExtBut P s2.heap h3 → s2.heap.objs.size ≤ h3.objs.size → h3.get? P = some { cls := .none, data := .fields (ps ++ more) } → TriplesOk (ps ++ more).toList →
      wpAny (model X.prog X.w) X.A (builtinsFor X.env.globals X.env.builtins) (fun bi s₄ =>
        ∀ h', h'.Ns s₄.heap.objs.size (fun y => if y = ".0" then some (.ref it) else none) → Heap.SameBut s₄.heap.objs.size (s₄.heap.push { cls := .type "frame", data := .dict #[] }) h' →
          wpAny (model X.prog X.w) X.A (spliced (backTo pos (starEach [] X.env))) (fun us s6 => wpAny (model X.prog X.w) X.A (call (.builtin "all") (.ref h'.objs.size :: us)) (EP X pins σ Q) X.xe s6) X.xe { s₄ with
            gens := s₄.gens.push (.fresh (.compStart (.GeneratorExp elt [⟨tgE, iter, [], 0⟩] scope gpos) 0 (.ref it) .none (genEnv scope (cloFrom X.env.cells scope.names []) s₄.heap.objs.size code bi X.env))),
            toks := s₄.toks + 1 + 1 + 1,
            heap := h'.push { cls := .type "generator", data := .fields #[.int s₄.gens.size 0, .str "<genexpr>" (s₄.toks + 1), .str (X.env.qual ++ "<genexpr>") (s₄.toks + 1 + 1)] } }) X.xe { s2 with heap := h3, toks := tk } := by
    intro code h3 tk more hx hsz hP3 ht3
    obtain ⟨bm, ob, e1, e2, e3, e4, e5, e6, e7, e8⟩ := TB.bm
    have I4 : Inv X pins σ (upd H2 P (.tbl (ps ++ more))) { s2 with heap := h3, toks := tk } := GxR.inv_tab (g' := s2.gens) (d' := s2.drawn) I2 hP (fun b o hb e => hx b o hb e) hP3 I2.bare
    have keep3 : ∀ b u, b ≠ P → s2.heap.get? b = some u → h3.get? b = some u := fun b u hb e => hx b u hb e
    refine wpAny_builtinsFor (m := X.mg) (by rw [I2.ok.glob]; exact (I2.mod.glob.keeps I2.bk).extBut hx TB.gP) e1 e2 (keep3 _ _ e4 (I2.bk _ _ e5)) e6 e7 e8 ?_
    intro h' hns hsb
    have f4 : ∀ b ∈ fp, FpOk X pins (upd H2 P (.tbl (ps ++ more))) b ∧ b < h3.objs.size := fun b hb => by
      obtain ⟨o, eo, _⟩ := T.obj _ _ st2 b hb
      refine ⟨⟨?_, (f2 b hb).2⟩, Nat.lt_of_lt_of_le (Heap.lt_size eo) hsz⟩
      rw [upd_ne (nP b (f2 b hb).1)]
      exact (f2 b hb).1
    obtain ⟨W, ⟨m0, w0⟩, stop, turn⟩ := q (upd H2 P (.tbl (ps ++ more))) ⟨⟨_, upd_same, ht3⟩, fun b hb => upd_ne hb⟩
    have hsz' : h'.objs.size = h3.objs.size + 1 := by rw [hsb.1, Heap.size_push]
    refine Calls.spliced_nil ?_
    generalize hgo : ({ cls := .type "generator", data := .fields #[.int (s2.gens.size : Nat) 0, .str "<genexpr>" (tk + 1), .str (X.env.qual ++ "<genexpr>") (tk + 1 + 1)] } : Obj) = go
    have hpush : ∀ h : Heap, (h.push go).get? h.objs.size = some go := fun h => by subst hgo; exact Heap.get?_push_size _ rfl
    have hgd : ∀ v, go.data ≠ .cell v := fun v z => by subst hgo; cases z
    have hgen : ∀ h : Heap, h.get? h'.objs.size = some go → h.IsGen h'.objs.size s2.gens.size := fun h e => by
      subst hgo
      exact ⟨_, _, _, e, rfl, rfl, rfl⟩
    have hA0 : (X.A.in1.in1).frames = some X.stack := I.ok.frames
    have hAh : (gA X.A.in1.in1 elt tgE iter scope gpos it (genEnv scope (cloFrom X.env.cells scope.names []) h3.objs.size code builtinsNs X.env)).handled = none := hr.hd
    have I5 := gen_start (A := gA X.A.in1.in1 elt tgE iter scope gpos it (genEnv scope (cloFrom X.env.cells scope.names []) h3.objs.size code builtinsNs X.env)) (code := code) (tk := tk + 1 + 1 + 1)
      (gs := .fresh (.compStart (.GeneratorExp elt [⟨tgE, iter, [], 0⟩] scope gpos) 0 (.ref it) .none (genEnv scope (cloFrom X.env.cells scope.names []) h3.objs.size code builtinsNs X.env)))
      I4 ok S.cell hN f4 hAh (over_comp_frames hA0 rfl) hcalm hns hsb rfl (hpush h') hgd
    have st4 : tn 0 (h'.push go) := T.keep _ _ _ st2 fun b hb o e => by
      have h1 := keep3 b o (nP b (f2 b hb).1) e
      exact Heap.get?_push_of_some _ ((hsb.2 b (Nat.ne_of_lt (Heap.lt_size h1))).trans (Heap.get?_push_of_some _ h1))
    have n4 : ∀ b ∈ fp, (upd H2 P (.tbl (ps ++ more))) b = none := fun b hb => (f4 b hb).1.1
    have afp : h'.objs.size ∉ fp := fun hb => by
      have h1 : (h'.objs.size : Nat) < h3.objs.size := (f4 _ hb).2
      rw [hsz'] at h1
      exact absurd h1 (Nat.not_lt.mpr (Nat.le_succ _))
    have hRoom : Room j (gA X.A.in1.in1 elt tgE iter scope gpos it (genEnv scope (cloFrom X.env.cells scope.names []) h3.objs.size code builtinsNs X.env)) := by
      refine ⟨hAh, ?_, ?_⟩
      · have := hr.dp
        show X.A.depth + 1 + 3 * j + 5 < _
        omega
      · have := hr.un
        show X.A.units + 1 + 1 + 3 + 16 * j + 200 < _
        omega
    have hgtX := hgt (gA X.A.in1.in1 elt tgE iter scope gpos it (genEnv scope (cloFrom X.env.cells scope.names []) h3.objs.size code builtinsNs X.env)) { s2 with heap := h3, toks := tk } (upd H2 P (.tbl (ps ++ more))) (genEnv scope (cloFrom X.env.cells scope.names []) h3.objs.size code builtinsNs X.env) fp rfl
    have heX := he (gA X.A.in1.in1 elt tgE iter scope gpos it (genEnv scope (cloFrom X.env.cells scope.names []) h3.objs.size code builtinsNs X.env)) { s2 with heap := h3, toks := tk } (upd H2 P (.tbl (ps ++ more))) h3.objs.size (cloFrom X.env.cells scope.names []) code fp hRoom
    refine call_function_tree F.kind_all F.plain_all F.entry_all (F.args_all1 _) ?_
    unfold Builtin.«all»
    refine wpAny_bind (m := oneArg "all" _) (wpAny_pure ?_)
    refine wpAny_bind (wpAny_pyIter_gen (hgen _ (hpush h')) ?_)
    refine wpAny_pure ⟨plainId_quiet F.plain_all_loop _, ?_⟩
    refine all_turns (X' := gX X X.A.in1.in1 { s2 with heap := h3, toks := tk } (upd H2 P (.tbl (ps ++ more))) (genEnv scope (cloFrom X.env.cells scope.names []) h3.objs.size code builtinsNs X.env) fp elt tgE iter scope gpos it) (go := go) (g := s2.gens.size) (Q := Q)
      hr.hd (by have := hr.dp; omega) hgen (fun b s6 s7 hf os kk bare => ?_) m0 _ ⟨_, _, I5⟩ ⟨_, Array.getElem?_push_size .., rfl, ?_⟩
    · obtain ⟨σ6, H6, I6, q6⟩ := hf
      have un : Un (frs X.stack) fp (upd H2 P (.tbl (ps ++ more))) H6 h3 s7.heap := I6.base.trans (Un.kept kk)
      have J7 : Inv X pins σ H6 s7 := I4.call' (ch := fp) (os.trans I6.os) un (I6.hok.kept kk) bare fun b hb => ⟨(f4 b hb).1.2.2.2.1, (f4 b hb).1.2.1, (f4 b hb).1.2.2.2.2.1, (f4 b hb).1.2.2.2.2.2⟩
      exact ⟨.bl b, H6, J7, rfl, q6⟩
    · refine seg_gstart (i := 0) (seg_gloop hcalm T S.co hgtX heX stop turn m0 0 _ _ _ w0 (inv_gens I5 rfl rfl (allBare_setGen I5.bare rfl)) st4 n4 afp) (fun A Q E hq => T.self A 0 _ Q E st4 hq) rfl
  cases hf : codeAmong gpos ps.toList with
  | none =>
    refine wpAny_genexprCodeX hcode (cd.code hPs ht) (cd.tab hPs) hf fun c' h' tk hx hge hlt hco' _ htab' _ => ?_
    obtain ⟨o1, vs, f1, tf, fl, tg, inF, tx, tt, op, _, _, _, _, _, _, _, _, _, htr, _⟩ := hco'
    exact cont _ h' tk _ hx (Nat.le_trans hge (Nat.le_of_lt hlt)) htab'.2 htr
  | some cv =>
    refine wpAny_genexprCode_hit hcode (cd.code hPs ht) hf ?_
    exact cont cv s2.heap s2.toks #[] (Heap.ExtBut.refl _ _) (Nat.le_refl _) (by rw [Array.append_empty]; exact hPs) (by rw [Array.append_empty]; exact ht)
end
end DL

set_option Elab.async false
set_option linter.all false
set_option maxRecDepth 100000
set_option maxHeartbeats 2000000
namespace DL
open PySem PySem.Spec PyProof.Rows L2
def allL (tg : Tg) (e : M) (E : En) : List D → G → Option (Bool × G)
  | [], g => some (true, g)
  | d :: r, g => match tg.parts d with
    | none => none
    | some ps => match e (setsE ps E) g with
      | some (.bool true, g1) => allL tg e E r g1
      | some (.bool false, g1) => some (false, g1)
      | _ => none
def eAllG (tg : Tg) (ml : ML) (e : M) (vs : List Nat) : M := fun E g => if (vs.any (isOwn E) || !(tg.slots.all fun i => vs.contains i)) = true then none else match ml E g with
  | none => none
  | some (ds, g1) => match allL tg e (wipeE E vs) ds g1 with
    | none => none
    | some (b, g2) => some (.bool b, g2)
theorem tabbed_ped {k : Kx} {P : Addr} {g : G} {H H' : Hp} (hP : P ∈ k.T) (ga : GA k H g) (t : GxR.TabG H P) (h : GxR.Tabbed P H H') : PEd k g H H' := by
  obtain ⟨ps, hps, _⟩ := t
  have ne : ∀ {b : Addr} {xs : List V}, H b = some (.lst xs) → b ≠ P := fun {b xs} e z => by rw [z, hps] at e; cases e
  refine ⟨fun b o n e => ?_, ⟨?_, ?_, fun P' hP' => ?_⟩⟩
  · rw [h.2 b fun z => n (.inr (.inr (by rw [z]; exact hP)))]; exact e
  · intro ho; rw [h.2 _ (ne (ga.b ho))]; exact ga.b ho
  · intro ho; rw [h.2 _ (ne (ga.c ho))]; exact ga.c ho
  · by_cases e : P' = P
    · rw [e]; exact h.1
    · obtain ⟨qs, e1, e2⟩ := ga.t P' hP'
      exact ⟨qs, by rw [h.2 _ e]; exact e1, e2⟩
section
variable {k : Kx} {f : Fx} {sm sm' : Bool} {X : Cx} {j : Nat} {c P : Addr} {elt tgE iter : Expr} {scope : Scope} {own : List (Str × Nat)} {p pos gpos : Pos} {tg : Tg} {ml : ML} {m : M}
theorem t_allG (hP : P ∈ k.T) {σ : L2.St} {H : Hp} {Q : VK} (w : tE k f sm (eAllG tg ml m (own.map (·.2))) σ H Q) : tAllG P (tI k f ml) (tGx k tg) (tEx k sm' m) (own.map (·.2)) σ H Q := by
  obtain ⟨ex, E, μ, g, d, g', I, e, q⟩ := w
  generalize hvs : own.map (·.2) = vs at *
  unfold eAllG at e
  split at e
  · cases e
  · rename_i hc
    have hc1 : ∀ v ∈ vs, isOwn E v = false := fun v hv => by
      cases h : isOwn E v with
      | false => rfl
      | true => exact absurd (by rw [Bool.or_eq_true]; exact .inl (List.any_eq_true.mpr ⟨v, hv, h⟩)) hc
    have hc2 : ∀ i ∈ tg.slots, i ∈ vs := fun i hi => by
      by_cases h : (tg.slots.all fun i => vs.contains i) = true
      · exact List.contains_iff_mem.mp (List.all_eq_true.mp h i hi)
      · exact absurd (by rw [Bool.or_eq_true]; right; simpa using h) hc
    split at e
    · cases e
    · rename_i its g1 h1
      split at e
      · cases e
      · rename_i b g2 ha
        cases e
        refine ⟨ex, E, μ, g, its, g1, I, h1, fun J pn H1 p1 hpn hw => ⟨p1.ga.t P hP, fun H2 hT => ?_⟩⟩
        have p2 : PEd k g1 H1 H2 := tabbed_ped hP p1.ga (p1.ga.t P hP) hT
        have I1 := ((I.step p1).exS (ex' := pn ++ ex) fun p hp => (List.mem_append.mp hp).elim (hpn p) ((I.step p1).exs p)).step p2
        obtain ⟨I2, be⟩ := I1.wipe vs hc1
        refine ⟨fun i n H3 => n = its.length - i ∧ i ≤ its.length ∧ ∃ g3, Ist k f (pn ++ ex) (wipeE E vs) μ g3 (L2.wipe σ vs) H3 ∧ Fr0 k H H3 ∧ allL tg m (wipeE E vs) (its.drop i) g3 = some (b, g'), ⟨its.length, rfl, Nat.zero_le _, g1, I2, (p1.trans p2).fr, ha⟩, fun i H3 ⟨hn, hi, g3, I3, fr, el⟩ => ?_, fun i n H3 ⟨hn, hi, g3, I3, fr, el⟩ => ?_⟩
        · have hi' : i = its.length := by omega
          subst hi'
          obtain ⟨w1, w2⟩ := hw (BE f true (wipeE E vs) μ) H3 (fun b z => I3.be true z) (fun p hp => I3.exs p (List.mem_append_left _ hp))
          rw [List.drop_length] at el
          cases el
          exact ⟨w1 _ (Nat.le_refl _), q _ H3 ⟨fr, I3.ga⟩ (.bl _)⟩
        · have hl : i < its.length := by omega
          obtain ⟨w1, w2⟩ := hw (BE f true (wipeE E vs) μ) H3 (fun b z => I3.be true z) (fun p hp => I3.exs p (List.mem_append_left _ hp))
          rw [List.drop_eq_getElem_cons hl] at el
          unfold allL at el
          obtain ⟨go, yl⟩ := w2 i its[i] (List.getElem?_eq_getElem hl)
          refine ⟨go, fun x H4 hy => ?_⟩
          obtain ⟨s4, rx⟩ := yl x H4 hy
          have I4 := I3.step (.same s4 I3.ga)
          split at el
          · cases el
          · rename_i ps hps
            have hsl : ∀ p ∈ ps, p.1 ∈ vs := fun p hp => hc2 _ (parts_slots hps p hp)
            refine ⟨f, _, _, μ, g3, _, ps, I4, rx, hps, fun us ru => ?_⟩
            have I5 := I4.sets ps ru
            refine ⟨?_, ?_⟩
            · rw [wipe_sets _ _ vs fun p hp => ?_]
              · exact wipe_wipe σ vs
              · have hm := (List.of_mem_zip hp).1
                obtain ⟨p', hp', e'⟩ := List.mem_map.mp hm
                rw [← e']
                exact hsl p' hp'
            · split at el
              · rename_i g4 h4
                refine ⟨f, _, _, μ, g3, _, g4, I5, h4, fun v H5 p5 r5 => ?_⟩
                cases r5
                exact ⟨true, rfl, iteT ⟨by omega, hl, g4, I4.step p5, (fr.trans (.of s4)).trans p5.fr, el⟩⟩
              · rename_i g4 h4
                cases el
                refine ⟨f, _, _, μ, g3, _, g', I5, h4, fun v H5 p5 r5 => ?_⟩
                cases r5
                exact ⟨false, rfl, iteF (q _ H5 ⟨(fr.trans (.of s4)).trans p5.fr, p5.ga⟩ (.bl _))⟩
              · cases el
theorem de_allG (hP : P ∈ k.T) (hr : Room (j + 1) X.A) (hcalm : X.calm = true) (hN : X.N.Nodup) (hg : Gl X "all") (hm : X.mg "all" = none) (TB : GxR.TabB X.base X.mg c P) (hcode : X.env.code = .ref c) (S : GSc scope) (ok : BlkOk X.N X.env.scope scope own)
    (hi : PI X tgE iter (tI k f ml))
    (hgt : ∀ (f : Fx) (A : Around) (s : Shared) (H : Hp) (cenv : Env) (fp : List Addr), cenv.scope = scope → PG (gx X A s H cenv fp) tgE (tG k f tg))
    (he : ∀ (f : Fx) (A : Around) (s : Shared) (H : Hp) (C : Addr) (cl : List (Str × Addr)) (code : Value) (fp : List Addr), Room j A → PE (gx X A s H (genEnv scope cl C code builtinsNs X.env) fp) elt (tE k f false m))
    (hs : ∀ v, genFold iter X.env v = pure v := by intro _; rfl)
    (hse : starEach [.GeneratorExp elt [⟨tgE, iter, [], 0⟩] scope gpos] X.env = (false, eval (.GeneratorExp elt [⟨tgE, iter, [], 0⟩] scope gpos) X.env) :: starEach [] X.env := by rfl) :
    PE X (.Call (.Name "all" p) [.GeneratorExp elt [⟨tgE, iter, [], 0⟩] scope gpos] [] pos) (tE k f sm (eAllG tg ml m (own.map (·.2)))) :=
  pe_of (pe_allG hr hcalm hN hg hm (by decide +kernel) TB hcode S ok hi (fun A s H cenv fp hsc => pg_x fun f => hgt f A s H cenv fp hsc) (fun A s H C cl code fp hR => pe_x (sm := false) fun f => he f A s H C cl code fp hR) hs hse) fun σ H Q w => t_allG hP w
end
end DL

set_option Elab.async false
set_option linter.all false
set_option maxRecDepth 100000
set_option maxHeartbeats 2000000
namespace DL
open PySem PySem.Spec PyProof.Rows L2
/-! ### more lists -/
/-- one's own list and another one, put together anew -/
def nCatO (i : Nat) (b : M) : ML := fun E g => match E[i]? with
  | some (.own ds) => match b E g with
    | some (.list es, g1) => if ds.length + es.length ≤ sizeLine then some (ds ++ es, g1) else none
    | _ => none
  | _ => none
/-- sorted: a list of pairs of ints -/
def prD (p : Int × Int) : D := .tuple [.int p.1, .int p.2]
def isPrs : List D → Option (List (Int × Int))
  | [] => some []
  | .tuple [.int a, .int b] :: r => (isPrs r).map ((a, b) :: ·)
  | _ => none
/-- what a thing is that is sorted: any list that is sorted so -/
def SrtOf (xs ys : List D) : Prop := ys.Perm xs
section
variable {k : Kx} {f : Fx} {sm : Bool} {X : Cx} {pos p : Pos} {b : Expr} {mb : M}
theorem dn_catO (i : Nat) {x : Str} (hN : X.N[i]? = some x) (hb : PE X b (tE k f true mb)) (hv : Vis X.env.scope x := by first | exact Or.inl rfl | exact Or.inr (Or.inl rfl) | exact Or.inr (Or.inr rfl)) (hd : (x == ("__debug__" : Str)) = false := by decide)
    (hcd : (x == ("__classdict__" : Str)) = false := by decide) : PE X (.BinOp (.Name x p) .Add b pos) (tN k f true (nCatO i mb)) := pe_of (pe_op op_cat (pv i hN hv hd hcd) hb) fun σ H Q ⟨ex, E, μ, g, d, g', I, e, q⟩ => by
  unfold nCatO at e
  split at e
  · rename_i ds hi
    split at e
    · rename_i es g1 h1
      split at e
      · rename_i hl
        cases e
        obtain ⟨s1, _, s3, vs, s4, s5⟩ := I.own i ds hi
        refine ⟨_, s1, ex, E, μ, g, _, g', I, h1, fun v H1 p1 r1 => ?_⟩
        have I1 := I.step p1
        obtain ⟨t1, _, t3, us, t4, t5⟩ := I1.own i ds hi
        cases r1 with
        | lst n1 e1 r1 =>
          refine ⟨_, _, _, _, rfl, rfl, t4, e1, by rw [t5.length, r1.length]; exact hl, fun q' hq => ?_⟩
          exact q q' _ H1 p1 hq (t5.append r1)
      · cases e
    · cases e
  · cases e
end
theorem tyname {X : Cx} {T : String} {x : Str} (hg : Gl X x) (hm : X.mg x = none) (hb : bootBuiltins x = some (.type T)) (hn : x ≠ "__name__") (hd : (x == ("__debug__" : Str)) = false) : TyName X T x := ⟨hg, hm, hb, hn, hd⟩

/-! ### defs that stand -/
section
variable {P : Program} {w : World} {k : Kx} {mg : Str → Option Value} {base : Heap}
/-- a def of the module, its promise and how it is called -/
def Has (P : Program) (w : World) (k : Kx) (mg : Str → Option Value) (base : Heap) (x : Str) (j : Nat) (ps : List Str) (kws : List (List Str × List Nat)) (F : DF) : Prop :=
  ∃ fa fd, mg x = some (.ref fa) ∧ FnOk P w k.K mg base CX0 j fa fd ps (spD k ps.length F) ∧ PySem.W.keepIn k.K (.ref fa) = true ∧ Binds k.K fd ps [] ∧ ∀ q ∈ kws, q.2.length = ps.length ∧ KwB k.K fd ps q.1 q.2
theorem Has.mono {x : Str} {i j : Nat} {ps : List Str} {kws : List (List Str × List Nat)} {F : DF} (h : Has P w k mg base x i ps kws F) (hij : i ≤ j) : Has P w k mg base x j ps kws F :=
  let ⟨fa, fd, h1, h2, h3⟩ := h; ⟨fa, fd, h1, h2.mono hij, h3⟩
/-- a weaker reading of it -/
theorem Has.imp {x : Str} {j : Nat} {ps : List Str} {kws : List (List Str × List Nat)} {F F' : DF} (h : Has P w k mg base x j ps kws F) (hF : ∀ ds g r, F' ds g = some r → F ds g = some r) : Has P w k mg base x j ps kws F' := by
  obtain ⟨fa, fd, h1, h2, h3⟩ := h
  exact ⟨fa, fd, h1, h2.imp fun vs H Q E ⟨B, ds, g, d, g', a1, a2, a3, a4, a5, a6, a7⟩ => ⟨B, ds, g, d, g', a1, a2, a3, a4, a5, hF _ _ _ a6, a7⟩, h3⟩
theorem has_mk {x qual : Str} {st : Stmt} {fa : Addr} {fd : FuncData} {N ps : List Str} {j : Nat} {m : MS} {kws : List (List Str × List Nat)} (F : Fun k.K x qual st fa fd) (g : mg x = some (.ref fa)) (S : FnScope N ps (defScope st))
    (hbody : ∀ (cdv : Value) (A : Around) (outer : List Env) (s : Shared) (H : Hp) (E : XK) (f : Fx), Room j (A.deeper (envOfC qual (defScope st) s.heap.objs.size fa cdv)) →
      PSs (cxOf CX0 P w k.K mg base N qual (defScope st) fa cdv A outer s H E).nox (defBody st) (tS k f [] m))
    (hb : Binds k.K fd ps []) (hk : ∀ q ∈ kws, q.2.length = ps.length ∧ KwB k.K fd ps q.1 q.2) : Has P w k mg base x (j + 1) ps kws (runD N.length m) := ⟨fa, fd, g, def_ok F S hbody, F.kp, hb, hk⟩
/-- .. with its code object at c -/
structure FunC (K : PySem.W.Frag) (x qual : Str) (st : Stmt) (f : Addr) (fd : FuncData) (c : Addr) : Prop where
  fn : Fun K x qual st f fd
  ex : ∃ (oc : Value) (od : Option Addr) (kV doc pm : Value) (an : Option Addr) (ct : Value) (osl : Array (Option Value)),
    fd = PySem.W.fnOf x qual (defArgs st) (defBody st) (defScope st) .none kV doc pm an (.ref c) ct ∧ K.lookup f = some ⟨oc, od, .func fd, osl⟩ ∧ PySem.W.codeIn K (.ref c) qual = true
theorem has_mkC {x qual : Str} {st : Stmt} {fa : Addr} {fd : FuncData} {c : Addr} {N ps : List Str} {j : Nat} {m : MS} {kws : List (List Str × List Nat)} (F : FunC k.K x qual st fa fd c) (g : mg x = some (.ref fa)) (S : FnScope N ps (defScope st))
    (hbody : ∀ (A : Around) (outer : List Env) (s : Shared) (H : Hp) (E : XK) (f : Fx), Room j (A.deeper (envOfC qual (defScope st) s.heap.objs.size fa (.ref c))) →
      PSs (cxOf CX0 P w k.K mg base N qual (defScope st) fa (.ref c) A outer s H E).nox (defBody st) (tS k f [] m))
    (hb : Binds k.K fd ps []) (hk : ∀ q ∈ kws, q.2.length = ps.length ∧ KwB k.K fd ps q.1 q.2) : Has P w k mg base x (j + 1) ps kws (runD N.length m) := by
  refine ⟨fa, fd, g, ?_, F.fn.kp, hb, hk⟩
  obtain ⟨oc, od, kV, doc, pm, an, ct, osl, rfl, lk, hcd⟩ := F.ex
  refine fn_of lk hcd S (fun vs H Q E ⟨B, ds, g, d, g', hl, _, _, _, r, _⟩ => r.length.trans hl) fun A outer s H vs Q E hr ⟨B, ds, g, d, g', hl, h0, hb, ga, r, hF, q⟩ => ?_
  refine ⟨_, (hbody A outer s H E ⟨B, H⟩ hr).nox, startE N.length ds, fun _ => 0, g, ?_⟩
  unfold runD at hF
  split at hF
  · rename_i d1 E1 g1 h1
    cases hF
    exact ⟨_, ist_start h0 hb ga r, h1, fun v H' fr ga' r' => q v H' fr ga' r'⟩
  · rename_i E1 g1 h1
    cases hF
    exact ⟨_, ist_start h0 hb ga r, h1, fun σ μ H' I => q _ H' I.fr I.ga .non⟩
  · cases hF
end
section
variable {k : Kx} {f : Fx} {sm : Bool} {X : Cx} {j i : Nat} {ps : List Str} {kws : List (List Str × List Nat)} {x : Str} {p pos : Pos} {e : Expr} {es : List Expr} {ml : ML} {F : DF}
theorem de_fun (hF : Has X.prog X.w k X.mg X.base x i ps kws F) (hK : X.K = k.K) (hr : Room j X.A) (hij : i ≤ j) (hg : Gl X x) 
    (ha : PA X (e :: es) (tL k f sm ml)) (hn : ∀ E g ds g', ml E g = some (ds, g') → ds.length = ps.length) (hdb : (x == ("__debug__" : Str)) = false := by decide) (he : starEach (e :: es) X.env = (false, eval e X.env) :: starEach es X.env := by rfl) (hpl : (backTo pos (starEach es X.env)).any (·.1) = false := by rfl) :
    PE X (.Call (.Name x p) (e :: es) [] pos) (tE k f sm (eCall F ml)) := by
  obtain ⟨fa, fd, h1, h2, h3, h4, _⟩ := hF
  rw [← hK] at h2 h3 h4
  exact de_call h2 (hr.mono hij) hg h1 h3 h4 ha hn hdb he hpl
theorem de_funK {ks : List Str} {is : List Nat} {kwl : List Keyword} (hF : Has X.prog X.w k X.mg X.base x i ps kws F) (hK : X.K = k.K) (hr : Room j X.A) (hij : i ≤ j) (hg : Gl X x) (hm : (ks, is) ∈ kws)
    (ha : PK X kwl (tL k f sm ml)) (hn : ∀ E g ds g', ml E g = some (ds, g') → ds.length = ks.length) (hall : (backToKw pos (keywordEach kwl X.env)).all (·.1.isSome) = true := by rfl) (hks : (backToKw pos (keywordEach kwl X.env)).filterMap (·.1) = ks := by rfl)
    (hdb : (x == ("__debug__" : Str)) = false := by decide) (hpl : ((backTo pos (starEach [] X.env)).any (·.1) || (backToKw pos (keywordEach kwl X.env)).any (·.1.isNone)) = false := by rfl) :
    PE X (.Call (.Name x p) [] kwl pos) (tE k f sm (eCallK F is ml)) := by
  obtain ⟨fa, fd, h1, h2, h3, h4, h5⟩ := hF
  obtain ⟨h6, h7⟩ := h5 _ hm
  rw [← hK] at h2 h3 h7
  exact de_callK h2 (hr.mono hij) hg h1 h3 h7 ha h6 hn hall hks hdb hpl
end
end DL

set_option Elab.async false
set_option linter.all false
set_option maxRecDepth 100000
set_option maxHeartbeats 2000000
namespace DL
open PySem PySem.Spec PyProof.Rows L2
/-! ### sorted: pairs of ints -/
def leP (a b : Int × Int) : Bool := decide (a.1 < b.1 ∨ (a.1 = b.1 ∧ a.2 ≤ b.2))
def fSortP : List D → Option D
  | [.list ds] => match isPrs ds with
    | some ps => some (.list ((ps.mergeSort leP).map prD))
    | none => none
  | _ => none
def kOf (H : Hp) : V → Int × Int
  | .ref t => match H t with
    | some (.tup [.int i, .int j]) => (i, j)
    | _ => (0, 0)
  | _ => (0, 0)
theorem isPrs_map : ∀ {ds : List D} {ps : List (Int × Int)}, isPrs ds = some ps → ds = ps.map prD
  | [], _, h => by cases h; rfl
  | .tuple [.int a, .int b] :: r, _, h => by
    unfold isPrs at h
    cases e : isPrs r with
    | none => rw [e] at h; cases h
    | some q => rw [e] at h; cases h; rw [isPrs_map e]; rfl
theorem rp_pairs {k : Kx} {H : Hp} {B : Addr → Prop} : ∀ {xs : List V} {ps : List (Int × Int)}, RpA k H B xs (ps.map prD) → (∀ x ∈ xs, ∃ t, x = V.ref t ∧ ¬ B t ∧ H t = some (.tup [.int (kOf H x).1, .int (kOf H x).2])) ∧ xs.map (kOf H) = ps
  | _, [], r => by cases r; exact ⟨fun x h => absurd h (by simp), rfl⟩
  | _, p :: ps, r => by
    cases r with
    | cons r1 r2 =>
      obtain ⟨h1, h2⟩ := rp_pairs r2
      cases r1 with
      | tup nb h r3 =>
        rename_i a xs
        cases r3 with
        | cons r4 r5 =>
          cases r5 with
          | cons r6 r7 =>
            cases r7
            cases r4; cases r6
            have hk : kOf H (.ref a) = p := by
              unfold kOf
              simp only [h]
            refine ⟨fun x hx => ?_, ?_⟩
            · rcases List.mem_cons.mp hx with e | hx
              · subst e
                exact ⟨a, rfl, nb, by rw [hk]; exact h⟩
              · exact h1 x hx
            · rw [List.map_cons, hk, h2]
theorem pairs_rp {k : Kx} {H : Hp} {B : Addr → Prop} (κ : V → Int × Int) : ∀ {ys : List V}, (∀ x ∈ ys, ∃ t, x = V.ref t ∧ ¬ B t ∧ H t = some (.tup [.int (κ x).1, .int (κ x).2])) → RpA k H B ys ((ys.map κ).map prD)
  | [], _ => .nil
  | y :: ys, h => by
    obtain ⟨t, rfl, nb, ht⟩ := h y (List.mem_cons_self ..)
    exact .cons (.tup nb ht (.cons (.int _) (.cons (.int _) .nil))) (pairs_rp κ fun x hx => h x (List.mem_cons_of_mem _ hx))
theorem leP_no {a b : Int × Int} : leP a b = true ↔ SrtO.lexB b a = false := by
  rw [SrtO.lexB_no]
  unfold leP
  rw [decide_eq_true_eq]
  omega
theorem cd_sortP {k : Kx} : CaD k (rSortedPO k.K) fSortP := by
  intro B H xs ds z Q hB r hh q
  unfold fSortP at hh
  split at hh
  · rename_i ds0
    split at hh
    · rename_i ps hp
      cases hh
      cases r with
      | cons r1 r2 =>
        cases r2
        cases r1 with
        | lst n1 h1 r1 =>
          rw [isPrs_map hp] at r1
          obtain ⟨a1, a2⟩ := rp_pairs r1
          refine ⟨_, _, kOf H, rfl, .of h1, fun x hx => ?_, fun ys p hs hst hn => ?_⟩
          · obtain ⟨t, e, _, ht⟩ := a1 x hx
            exact ⟨t, e, ht⟩
          · refine q _ _ (Same.upd hn) (.newL hB hn ?_)
            have hy := pairs_rp (k := k) (B := B) (kOf H) (ys := ys) fun x hx => a1 x (hst.perm.mem_iff.mp hx)
            have e : ys.map (kOf H) = ps.mergeSort leP := by
              refine List.Perm.eq_of_pairwise (le := fun a b => leP a b = true) (fun a b _ _ h1 h2 => ?_) ?_ (List.pairwise_mergeSort (fun a b c h1 h2 => ?_) (fun a b => ?_) ps) ?_
              · unfold leP at h1 h2
                rw [decide_eq_true_eq] at h1 h2
                exact Prod.ext (by omega) (by omega)
              · have := SrtO.srtd_map (lt := SrtO.lexB) (f := kOf H) (l := ys) hs
                exact this.imp fun h => leP_no.mpr h
              · unfold leP at h1 h2 ⊢
                rw [decide_eq_true_eq] at h1 h2 ⊢
                omega
              · unfold leP
                rw [Bool.or_eq_true, decide_eq_true_eq, decide_eq_true_eq]
                omega
              · refine ((hst.perm.map (kOf H)).trans ?_).trans (List.mergeSort_perm ps leP).symm
                rw [a2]
            rw [e] at hy
            exact hy
    · cases hh
  · cases hh
end DL

set_option Elab.async false
set_option linter.all false
set_option maxRecDepth 100000
set_option maxHeartbeats 2000000
namespace DL
open PySem PySem.Spec PyProof.Rows L2
/-! ### the spring itself -/
abbrev grD : D := .dict [(.none, .none)]
section
variable {k : Kx} {H : Hp} {g : G}
theorem GA.bb (ho : k.on = true ∧ k.wl = false) (ga : GA k H g) : H k.β = some (.lst [.ref k.γ, .int g.p, .int g.q]) := by
  have h := ga.b ho.1
  rwa [ho.2, if_neg (by decide)] at h
theorem GA.cc (ho : k.on = true ∧ k.wl = false) (ga : GA k H g) : H k.γ = some (.lst (g.deep.map .int)) := by
  have h := ga.c ho.1
  rwa [ho.2, if_neg (by decide)] at h
theorem GA.mk' (ho : k.on = true ∧ k.wl = false) (b : H k.β = some (.lst [.ref k.γ, .int g.p, .int g.q])) (c : H k.γ = some (.lst (g.deep.map .int))) (t : ∀ P ∈ k.T, GxR.TabG H P) : GA k H g :=
  ⟨fun _ => by rw [ho.2, if_neg (by decide)]; exact b, fun _ => by rw [ho.2, if_neg (by decide)]; exact c, t⟩
theorem GA.ne (ho : k.on = true ∧ k.wl = false) (ga : GA k H g) : k.β ≠ k.γ := fun e => by
  have h1 := ga.bb ho
  have h2 := ga.cc ho
  rw [e, h2] at h1
  cases hd : g.deep with
  | nil => rw [hd] at h1; cases h1
  | cons n r => rw [hd] at h1; cases h1
theorem GA.setG (ho : k.on = true ∧ k.wl = false) (ga : GA k H g) (r : List Int) : PEd k ⟨r, g.p, g.q⟩ H (upd H k.γ (.lst (r.map .int))) := by
  refine ⟨fun b o n h => ?_, .mk' ho ?_ upd_same fun P hP => ?_⟩
  · rw [upd_ne fun e => n (.inr (.inl ⟨ho.1, e⟩))]; exact h
  · have hb := ga.bb ho
    rw [upd_ne (ga.ne ho)]; exact hb
  · obtain ⟨ps, e, t⟩ := ga.t P hP
    refine ⟨ps, ?_, t⟩
    rw [upd_ne fun z => by rw [z, ga.cc ho] at e; cases e]; exact e
theorem GA.setB (ho : k.on = true ∧ k.wl = false) (ga : GA k H g) (p q : Int) : PEd k ⟨g.deep, p, q⟩ H (upd H k.β (.lst [.ref k.γ, .int p, .int q])) := by
  refine ⟨fun b o n h => ?_, .mk' ho upd_same ?_ fun P hP => ?_⟩
  · rw [upd_ne fun e => n (.inl ⟨ho.1, e⟩)]; exact h
  · have hc := ga.cc ho
    rw [upd_ne (Ne.symm (ga.ne ho))]; exact hc
  · obtain ⟨ps, e, t⟩ := ga.t P hP
    refine ⟨ps, ?_, t⟩
    rw [upd_ne fun z => by rw [z, ga.bb ho] at e; cases e]; exact e
end
def eSp (i : Nat) (m : M) : M := fun E g => match m E g with
  | some (.dict [], g1) => some (match i with | 0 => grD | 1 => .int g1.p | _ => .int g1.q, g1)
  | _ => none
def eGr0 (m : M) : M := fun E g => match m E g with
  | some (.dict [(.none, .none)], g1) => match g1.deep with
    | n :: _ => some (.int n, g1)
    | [] => none
  | _ => none
def mGrNe (m : M) : MT := fun E g => match m E g with
  | some (.dict [(.none, .none)], g1) => some (!g1.deep.isEmpty, g1)
  | _ => none
def sGrPop (m : M) : MS := fun E g => match m E g with
  | some (.dict [(.none, .none)], g1) => match g1.deep with
    | _ :: r => some (.nx, E, ⟨r, g1.p, g1.q⟩)
    | [] => none
  | _ => none
def sGrSet (mv m : M) : MS := fun E g => match mv E g with
  | some (.int z, g1) => match m E g1 with
    | some (.dict [(.none, .none)], g2) => match g2.deep with
      | _ :: r => some (.nx, E, ⟨z :: r, g2.p, g2.q⟩)
      | [] => none
    | _ => none
  | _ => none
def sSpSet (i : Nat) (mv m : M) : MS := fun E g => match mv E g with
  | some (.int z, g1) => match m E g1 with
    | some (.dict [], g2) => some (.nx, E, match i with | 1 => ⟨g2.deep, z, g2.q⟩ | _ => ⟨g2.deep, g2.p, z⟩)
    | _ => none
  | _ => none
section
variable {k : Kx} {f : Fx} {sm sm' : Bool} {ex : List (V × D)} {X : Cx} {pos p2 p3 p4 : Pos} {a b c : Expr} {j : Nat} {m mv : M}
theorem de_spr (i : Nat) (hi : i < 3) (hK : X.K = k.K) (ho : k.on = true ∧ k.wl = false) (ha : PE X a (tE k f sm m)) : PE X (.Subscript a (.Constant (.int (i : Int)) j p2) pos) (tE k f sm (eSp i m)) :=
  pe_of (pe_ix ix_seq ha (de_int (k := k) (f := f) (sm := sm)) (by exact fun _ _ => rfl)) fun σ H Q ⟨ex, E, μ, g, d, g', I, e, q⟩ => by
    unfold eSp at e
    split at e
    · rename_i g1 h1
      cases e
      refine ⟨ex, E, μ, g, _, g', I, h1, fun v H1 p1 r1 => ?_⟩
      have I1 := I.step p1
      refine ⟨ex, E, μ, g', _, g', I1, rfl, fun u H2 p2 r2 => ?_⟩
      have I2 := I1.step p2
      cases r2
      cases r1
      rw [hK]
      obtain rfl | rfl | rfl : i = 0 ∨ i = 1 ∨ i = 2 := by omega
      · exact .inl ⟨_, _, _, _, rfl, rfl, .of (I2.ga.bb ho), rfl, q _ H2 (p1.trans p2) .gr⟩
      · exact .inl ⟨_, _, _, _, rfl, rfl, .of (I2.ga.bb ho), rfl, q _ H2 (p1.trans p2) (.int _)⟩
      · exact .inl ⟨_, _, _, _, rfl, rfl, .of (I2.ga.bb ho), rfl, q _ H2 (p1.trans p2) (.int _)⟩
    · cases e
theorem de_gr0 (hK : X.K = k.K) (ho : k.on = true ∧ k.wl = false) (ha : PE X a (tE k f sm m)) : PE X (.Subscript a (.Constant (.int 0) j p2) pos) (tE k f sm (eGr0 m)) :=
  pe_of (pe_ix ix_seq ha (de_int (k := k) (f := f) (sm := sm)) (by exact fun _ _ => rfl)) fun σ H Q ⟨ex, E, μ, g, d, g', I, e, q⟩ => by
    unfold eGr0 at e
    split at e
    · rename_i g1 h1
      split at e
      · rename_i n r hd
        cases e
        refine ⟨ex, E, μ, g, _, g', I, h1, fun v H1 p1 r1 => ?_⟩
        have I1 := I.step p1
        refine ⟨ex, E, μ, g', _, g', I1, rfl, fun u H2 p2 r2 => ?_⟩
        have I2 := I1.step p2
        cases r2
        cases r1
        rw [hK]
        have hc := I2.ga.cc ho
        rw [hd] at hc
        exact .inl ⟨_, _, _, _, rfl, rfl, .of hc, by simp [atI, ixN], q _ H2 (p1.trans p2) (.int _)⟩
      · cases e
    · cases e
theorem layInts : ∀ ns : List Int, PyData.canLayAll0 (ns.map PyData.int) = true
  | [] => rfl
  | n :: r => by
    show PyData.canLayAll0 (.int n :: r.map PyData.int) = true
    simp only [PyData.canLayAll0, PyData.canLay0, layInts r, Bool.and_self]
theorem depInts : ∀ ns : List Int, PyData.depth (.list (ns.map PyData.int)) ≤ 64 := fun ns => by
  have h : ∀ ns : List Int, PyData.depthAll (ns.map PyData.int) ≤ 1 := fun ns => by
    induction ns with
    | nil => simp [PyData.depthAll]
    | cons n r ih =>
      rw [List.map_cons]
      simp only [PyData.depthAll, PyData.depth]
      omega
  have := h ns
  simp only [PyData.depth]
  omega
theorem dt_grNe (hu : X.A.units + 64 < cLine) (hK : X.K = k.K) (ho : k.on = true ∧ k.wl = false) (ha : PE X a (tE k f false m)) : PT X (.Compare a [.NotEq] [.List [] p2] pos) (tT k f (mGrNe m)) :=
  pt_of (pt_cmpR (op_neD hu) ha (de_n (dn_lst (dl_nil (k := k) (f := f) (sm := false)))) (nomark _)) fun σ H Q ⟨ex, E, μ, g, d, g', I, e, q⟩ => by
    unfold mGrNe at e
    split at e
    · rename_i g1 h1
      cases e
      refine ⟨ex, E, μ, g, _, g', I, h1, fun v H1 p1 r1 => ?_⟩
      have I1 := I.step p1
      refine ⟨ex, E, μ, g', .list [], g', I1, rfl, fun u H2 p2 r2 => ?_⟩
      have I2 := I1.step p2
      cases r1
      have r3 : Rp k H2 (fun _ => False) (.ref k.γ) (.list (g'.deep.map .int)) := .lst (fun z => z) (I2.ga.cc ho) (rpa_ints _)
      refine ⟨.list (g'.deep.map .int), .list [], ?_, ?_, ?_, rfl, ?_⟩
      · rw [hK]
        exact Rp.dp (.list (g'.deep.map PyData.int)) _ (by simp only [PyData.canLay0]; exact layInts _) r3
      · rw [hK]
        exact Rp.dp _ _ (by rfl) r2
      · unfold SeqAt.shaped
        rw [Bool.and_eq_true]
        exact ⟨by simp only [PyData.canLay0]; exact layInts _, decide_eq_true (depInts _)⟩
      · refine ⟨_, rfl, ?_⟩
        have : (!PyData.eqv (.list (g'.deep.map PyData.int)) (.list [])) = !g'.deep.isEmpty := by
          cases g'.deep <;> rfl
        rw [this]
        exact q H2 (p1.trans p2)
    · cases e
theorem ds_grPop (hK : X.K = k.K) (ho : k.on = true ∧ k.wl = false) (ha : PE X a (tE k f true m)) (hm : PE X (.Call (.Attribute a "pop" p2) [.Constant (.int 0) j p4] [] p3) (tBM X.K "list" rPopAt (tE k f true m) (tCons (tE k f true (eK (.int 0))) tNil))) (hs : swapsWith (.Call (.Attribute a "pop" p2) [.Constant (.int 0) j p4] [] p3) none pos.line X.env = pure false := by rfl) :
    PS X (.Expr (.Call (.Attribute a "pop" p2) [.Constant (.int 0) j p4] [] p3) pos) (tS k f ex (sGrPop m)) := ps_of (ps_expr hm hs) fun Dn σ H ⟨E, μ, g, r, I, e, q⟩ => by
  unfold sGrPop at e
  split at e
  · rename_i g1 h1
    split at e
    · rename_i n r hd
      cases e
      refine ⟨ex, E, μ, g, _, g1, I, h1, fun v H1 p1 r1 => ?_⟩
      have I1 := I.step p1
      cases r1
      refine ⟨.inl ⟨rfl, _, .inl (.inl (I1.ga.cc ho))⟩, ex, E, μ, g1, _, g1, I1, rfl, fun u H2 p2 r2 => ?_⟩
      have I2 := I1.step p2
      cases r2
      have hc := I2.ga.cc ho
      rw [hd] at hc
      refine ⟨_, _, 0, 0, _, rfl, rfl, hc, by decide, by decide, ?_, rfl, ?_⟩
      · unfold seqIndex?
        simp
      · exact q _ μ _ (I2.step (I2.ga.setG ho r))
    · cases e
  · cases e
theorem ds_grSet (hK : X.K = k.K) (ho : k.on = true ∧ k.wl = false) (hv : PE X c (tE k f true mv)) (ha : PE X a (tE k f true m)) (hs : swapsWithSole [.Subscript a (.Constant (.int 0) j p2) p3] c pos.line X.env = pure false := by rfl) (hw : swappedStores [.Subscript a (.Constant (.int 0) j p2) p3] c X.env = pure none := by rfl)
    (h1 : (assignEach [.Subscript a (.Constant (.int 0) j p2) p3] X.env).map (·.2) = [assign (.Subscript a (.Constant (.int 0) j p2) p3) X.env] := by rfl) : PS X (.Assign [.Subscript a (.Constant (.int 0) j p2) p3] c pos) (tS k f ex (sGrSet mv m)) :=
  ps_of (ps_asg hv (pg_sub ha (de_int (k := k) (f := f) (sm := true)) set_list) hs hw h1) fun Dn σ H ⟨E, μ, g, r, I, e, q⟩ => by
    unfold sGrSet at e
    split at e
    · rename_i z g1 h1
      split at e
      · rename_i g2 h2
        split at e
        · rename_i n r hd
          cases e
          refine ⟨ex, E, μ, g, _, g1, I, h1, fun v H1 p1 r1 => ?_⟩
          cases r1
          have I1 := I.step p1
          refine ⟨ex, E, μ, g1, _, g2, I1, h2, fun v H2 p2 r2 => ?_⟩
          have I2 := I1.step p2
          cases r2
          refine ⟨ex, E, μ, g2, _, g2, I2, rfl, fun u H3 p3 r3 => ?_⟩
          have I3 := I2.step p3
          cases r3
          have hc := I3.ga.cc ho
          rw [hd] at hc
          refine ⟨_, _, 0, 0, rfl, rfl, hc, by simp [ixN], ?_⟩
          exact q _ μ _ (I3.step (I3.ga.setG ho (z :: r)))
        · cases e
      · cases e
    · cases e
theorem ds_spSet (i : Nat) (hi : i = 1 ∨ i = 2) (hK : X.K = k.K) (ho : k.on = true ∧ k.wl = false) (hv : PE X c (tE k f true mv)) (ha : PE X a (tE k f true m)) (hs : swapsWithSole [.Subscript a (.Constant (.int (i : Int)) j p2) p3] c pos.line X.env = pure false := by rfl) (hw : swappedStores [.Subscript a (.Constant (.int (i : Int)) j p2) p3] c X.env = pure none := by rfl)
    (h1 : (assignEach [.Subscript a (.Constant (.int (i : Int)) j p2) p3] X.env).map (·.2) = [assign (.Subscript a (.Constant (.int (i : Int)) j p2) p3) X.env] := by rfl) : PS X (.Assign [.Subscript a (.Constant (.int (i : Int)) j p2) p3] c pos) (tS k f ex (sSpSet i mv m)) :=
  ps_of (ps_asg hv (pg_sub ha (de_int (k := k) (f := f) (sm := true)) set_list) hs hw h1) fun Dn σ H ⟨E, μ, g, r, I, e, q⟩ => by
    unfold sSpSet at e
    split at e
    · rename_i z g1 h1
      split at e
      · rename_i g2 h2
        cases e
        refine ⟨ex, E, μ, g, _, g1, I, h1, fun v H1 p1 r1 => ?_⟩
        cases r1
        have I1 := I.step p1
        refine ⟨ex, E, μ, g1, _, g2, I1, h2, fun v H2 p2 r2 => ?_⟩
        have I2 := I1.step p2
        cases r2
        refine ⟨ex, E, μ, g2, _, g2, I2, rfl, fun u H3 p3 r3 => ?_⟩
        have I3 := I2.step p3
        cases r3
        rcases hi with rfl | rfl
        · refine ⟨_, _, _, 1, rfl, rfl, I3.ga.bb ho, rfl, ?_⟩
          exact q _ μ _ (I3.step (I3.ga.setB ho z g2.q))
        · refine ⟨_, _, _, 2, rfl, rfl, I3.ga.bb ho, rfl, ?_⟩
          exact q _ μ _ (I3.step (I3.ga.setB ho g2.p z))
      · cases e
    · cases e
end
end DL

set_option Elab.async false
set_option linter.all false
set_option maxRecDepth 100000
set_option maxHeartbeats 2000000
namespace DL
open PySem PySem.Spec PyProof.Rows L2
/-! ### what a run comes to -/
def Ok {α : Type} (x : Option (α × G)) (Q : α → G → Prop) : Prop := ∃ d g', x = some (d, g') ∧ Q d g'
def OkS (x : Option (Fl × En × G)) (Q : Fl → En → G → Prop) : Prop := ∃ r E g, x = some (r, E, g) ∧ Q r E g
section
variable {α : Type} {x : Option (α × G)} {Q R : α → G → Prop}
theorem Ok.mono (h : Ok x Q) (w : ∀ d g, Q d g → R d g) : Ok x R := let ⟨d, g, e, q⟩ := h; ⟨d, g, e, w d g q⟩
theorem OkS.mono {x : Option (Fl × En × G)} {Q R : Fl → En → G → Prop} (h : OkS x Q) (w : ∀ r E g, Q r E g → R r E g) : OkS x R := let ⟨r, E, g, e, q⟩ := h; ⟨r, E, g, e, w r E g q⟩
theorem ok_some {p : α × G} : Ok (some p) Q ↔ Q p.1 p.2 := ⟨fun ⟨_, _, e, q⟩ => by cases e; exact q, fun q => ⟨p.1, p.2, rfl, q⟩⟩
theorem ok_none : Ok (none : Option (α × G)) Q ↔ False := ⟨fun ⟨_, _, e, _⟩ => (nomatch e), False.elim⟩
theorem oks_some {r : Fl} {E : En} {g : G} {Q : Fl → En → G → Prop} : OkS (some (r, E, g)) Q ↔ Q r E g := ⟨fun ⟨_, _, _, e, q⟩ => by cases e; exact q, fun q => ⟨_, _, _, rfl, q⟩⟩
theorem ok_eq {d : α} {g : G} (e : x = some (d, g)) : Ok x Q ↔ Q d g := by rw [e]; exact ok_some
theorem Ok.eq {d : α} {g : G} (h : Ok x fun d' g' => d' = d ∧ g' = g) : x = some (d, g) := by
  obtain ⟨d', g', e, rfl, rfl⟩ := h
  exact e
end
section
variable {E : En} {g : G} {a b c : M} {ml : ML} {t u : MT} {h h' : D → D → Option D} {h1 : D → Option D} {hF : List D → Option D} {Q : D → G → Prop} {QL : List D → G → Prop} {QT : Bool → G → Prop} {F : DF}
theorem ok_eK {d : D} : Ok (eK d E g) Q ↔ Q d g := ok_some
theorem ok_lNil : Ok (lNil E g) QL ↔ QL [] g := ok_some
theorem ok_lCons : Ok (lCons a ml E g) QL ↔ Ok (a E g) fun x g1 => Ok (ml E g1) fun xs g2 => QL (x :: xs) g2 := by
  unfold lCons
  cases a E g with
  | none => simp only [ok_none]
  | some p =>
    simp only [ok_some]
    cases ml E p.2 with
    | none => simp only [ok_none]
    | some q => simp only [ok_some]
theorem ok_e2 : Ok (e2 h a b E g) Q ↔ Ok (a E g) fun x g1 => Ok (b E g1) fun y g2 => ∃ z, h x y = some z ∧ Q z g2 := by
  unfold e2
  cases a E g with
  | none => simp only [ok_none]
  | some p =>
    simp only [ok_some]
    cases b E p.2 with
    | none => simp only [ok_none]
    | some q =>
      simp only [ok_some]
      cases h p.1 q.1 with
      | none => simp [ok_none]
      | some z => simp [ok_some]
theorem ok_e1 : Ok (e1 h1 a E g) Q ↔ Ok (a E g) fun x g1 => ∃ z, h1 x = some z ∧ Q z g1 := by
  unfold e1
  cases a E g with
  | none => simp only [ok_none]
  | some p =>
    simp only [ok_some]
    cases h1 p.1 with
    | none => simp [ok_none]
    | some z => simp [ok_some]
theorem ok_eF : Ok (eF hF ml E g) Q ↔ Ok (ml E g) fun x g1 => ∃ z, hF x = some z ∧ Q z g1 := by
  unfold eF
  cases ml E g with
  | none => simp only [ok_none]
  | some p =>
    simp only [ok_some]
    cases hF p.1 with
    | none => simp [ok_none]
    | some z => simp [ok_some]
theorem ok_eTup : Ok (eTup ml E g) Q ↔ Ok (ml E g) fun xs g1 => xs.length ≤ sizeLine ∧ Q (.tuple xs) g1 := by
  unfold eTup
  cases ml E g with
  | none => simp only [ok_none]
  | some p =>
    simp only [ok_some]
    by_cases z : p.1.length ≤ sizeLine
    · simp only [ok_some, z, true_and, if_true]
    · simp only [ok_none, z, false_and, if_false]
theorem ok_nLst : Ok (nLst ml E g) QL ↔ Ok (ml E g) fun xs g1 => xs.length ≤ sizeLine ∧ QL xs g1 := by
  unfold nLst
  cases ml E g with
  | none => simp only [ok_none]
  | some p =>
    simp only [ok_some]
    by_cases z : p.1.length ≤ sizeLine
    · simp only [ok_some, z, true_and, if_true]
    · simp only [ok_none, z, false_and, if_false]
theorem ok_eN : Ok (eN ml E g) Q ↔ Ok (ml E g) fun xs g1 => Q (.list xs) g1 := by
  unfold eN
  cases ml E g with
  | none => simp only [ok_none]
  | some p => simp only [ok_some]
theorem ok_mB : Ok (mB a E g) QT ↔ Ok (a E g) fun d g1 => ∃ b, d = .bool b ∧ QT b g1 := by
  unfold mB
  cases a E g with
  | none => simp only [ok_none]
  | some p =>
    obtain ⟨d, g1⟩ := p
    simp only [ok_some]
    cases d <;> simp [ok_some, ok_none]
theorem ok_mTru : Ok (mTru a E g) QT ↔ Ok (a E g) fun d g1 => ∃ b, fTru d = some b ∧ QT b g1 := by
  unfold mTru
  cases a E g with
  | none => simp only [ok_none]
  | some p =>
    obtain ⟨d, g1⟩ := p
    simp only [ok_some]
    cases fTru d <;> simp [ok_some, ok_none]
theorem ok_mNot : Ok (mNot t E g) QT ↔ Ok (t E g) fun b g1 => QT (!b) g1 := by
  unfold mNot
  cases t E g with
  | none => simp only [ok_none]
  | some p => simp only [ok_some]
theorem ok_mAnd : Ok (mAnd t u E g) QT ↔ Ok (t E g) fun b g1 => if b = true then Ok (u E g1) QT else QT false g1 := by
  unfold mAnd
  cases t E g with
  | none => simp only [ok_none]
  | some p =>
    obtain ⟨d, g1⟩ := p
    cases d <;> simp [ok_some]
theorem ok_mOr : Ok (mOr t u E g) QT ↔ Ok (t E g) fun b g1 => if b = true then QT true g1 else Ok (u E g1) QT := by
  unfold mOr
  cases t E g with
  | none => simp only [ok_none]
  | some p =>
    obtain ⟨d, g1⟩ := p
    cases d <;> simp [ok_some]
theorem ok_eAnd : Ok (eAnd a b E g) Q ↔ Ok (a E g) fun d g1 => ∃ t, fTru d = some t ∧ if t = true then Ok (b E g1) Q else Q d g1 := by
  unfold eAnd
  cases a E g with
  | none => simp only [ok_none]
  | some p =>
    obtain ⟨d, g1⟩ := p
    simp only [ok_some]
    cases fTru d with
    | none => simp [ok_none]
    | some t => cases t <;> simp [ok_some]
theorem ok_eOr : Ok (eOr a b E g) Q ↔ Ok (a E g) fun d g1 => ∃ t, fTru d = some t ∧ if t = true then Q d g1 else Ok (b E g1) Q := by
  unfold eOr
  cases a E g with
  | none => simp only [ok_none]
  | some p =>
    obtain ⟨d, g1⟩ := p
    simp only [ok_some]
    cases fTru d with
    | none => simp [ok_none]
    | some t => cases t <;> simp [ok_some]
theorem ok_eNot : Ok (eNot a E g) Q ↔ Ok (a E g) fun d g1 => ∃ t, fTru d = some t ∧ Q (.bool !t) g1 := by
  unfold eNot
  cases a E g with
  | none => simp only [ok_none]
  | some p =>
    obtain ⟨d, g1⟩ := p
    simp only [ok_some]
    cases fTru d with
    | none => simp [ok_none]
    | some t => simp [ok_some]
theorem ok_eIf : Ok (eIf t a b E g) Q ↔ Ok (t E g) fun x g1 => if x = true then Ok (a E g1) Q else Ok (b E g1) Q := by
  unfold eIf
  cases t E g with
  | none => simp only [ok_none]
  | some p =>
    obtain ⟨d, g1⟩ := p
    cases d <;> simp [ok_some]
theorem ok_eIsi {T : String} : Ok (eIsi T a E g) Q ↔ Ok (a E g) fun d g1 => ∃ S, tyN d = some S ∧ Q (.bool (isT T S)) g1 := by
  unfold eIsi
  cases a E g with
  | none => simp only [ok_none]
  | some p =>
    obtain ⟨d, g1⟩ := p
    simp only [ok_some]
    cases tyN d <;> simp [ok_some, ok_none]
theorem ok_eIsi2 {T U : String} : Ok (eIsi2 T U a E g) Q ↔ Ok (a E g) fun d g1 => ∃ S, tyN d = some S ∧ Q (.bool (isT T S || isT U S)) g1 := by
  unfold eIsi2
  cases a E g with
  | none => simp only [ok_none]
  | some p =>
    obtain ⟨d, g1⟩ := p
    simp only [ok_some]
    cases tyN d <;> simp [ok_some, ok_none]
theorem ok_eTyC {neg : Bool} {T : String} : Ok (eTyC neg T a E g) Q ↔ Ok (a E g) fun d g1 => ∃ S, tyN d = some S ∧ Q (.bool (if neg then !decide (S = T) else decide (S = T))) g1 := by
  unfold eTyC
  cases a E g with
  | none => simp only [ok_none]
  | some p =>
    obtain ⟨d, g1⟩ := p
    simp only [ok_some]
    cases tyN d <;> simp [ok_some, ok_none]
theorem ok_eCall : Ok (eCall F ml E g) Q ↔ Ok (ml E g) fun ds g1 => Ok (F ds g1) Q := by
  unfold eCall
  cases ml E g with
  | none => simp only [ok_none]
  | some p => simp only [ok_some]
theorem ok_eCallK {is : List Nat} : Ok (eCallK F is ml E g) Q ↔ Ok (ml E g) fun ds g1 => Ok (F (pick is ds .none) g1) Q := by
  unfold eCallK
  cases ml E g with
  | none => simp only [ok_none]
  | some p => simp only [ok_some]
theorem ok_oNo {QO : Option Int → G → Prop} : Ok (oNo E g) QO ↔ QO none g := ok_some
theorem ok_oAt {QO : Option Int → G → Prop} : Ok (oAt a E g) QO ↔ Ok (a E g) fun d g1 => ∃ i, d = .int i ∧ QO (some i) g1 := by
  unfold oAt
  cases a E g with
  | none => simp only [ok_none]
  | some p =>
    obtain ⟨d, g1⟩ := p
    simp only [ok_some]
    cases d <;> simp [ok_some, ok_none]
theorem ok_eSl {lo hi : MO} : Ok (eSl a lo hi E g) Q ↔ Ok (a E g) fun d g1 => Ok (lo E g1) fun l g2 => Ok (hi E g2) fun u g3 => ∃ z, fSl d l u = some z ∧ Q z g3 := by
  unfold eSl
  cases a E g with
  | none => simp only [ok_none]
  | some p =>
    simp only [ok_some]
    cases lo E p.2 with
    | none => simp only [ok_none]
    | some q =>
      simp only [ok_some]
      cases hi E q.2 with
      | none => simp only [ok_none]
      | some r =>
        simp only [ok_some]
        cases fSl p.1 q.1 r.1 with
        | none => simp [ok_none]
        | some z => simp [ok_some]
theorem ok_iOf : Ok (iOf a E g) QL ↔ Ok (a E g) fun d g1 => ∃ ds, d = .list ds ∧ QL ds g1 := by
  unfold iOf
  cases a E g with
  | none => simp only [ok_none]
  | some p =>
    obtain ⟨d, g1⟩ := p
    simp only [ok_some]
    cases d <;> simp [ok_some, ok_none]
theorem ok_iOfT : Ok (iOfT a E g) QL ↔ Ok (a E g) fun d g1 => ∃ ds, d = .tuple ds ∧ QL ds g1 := by
  unfold iOfT
  cases a E g with
  | none => simp only [ok_none]
  | some p =>
    obtain ⟨d, g1⟩ := p
    simp only [ok_some]
    cases d <;> simp [ok_some, ok_none]
theorem ok_iRg1 : Ok (iRg1 ml E g) QL ↔ Ok (ml E g) fun ds g1 => ∃ j, ds = [.int j] ∧ (-(2 ^ 62) ≤ j ∧ j < 2 ^ 62) ∧ QL (intsD 0 j.toNat) g1 := by
  unfold iRg1
  cases ml E g with
  | none => simp only [ok_none]
  | some p =>
    obtain ⟨ds, g1⟩ := p
    simp only [ok_some]
    split
    · rename_i j g2 e
      cases e
      by_cases z : -(2 ^ 62) ≤ j ∧ j < 2 ^ 62
      · rw [if_pos z, ok_some]
        exact ⟨fun q => ⟨j, rfl, z, q⟩, fun ⟨_, e, _, q⟩ => by cases e; exact q⟩
      · rw [if_neg z, ok_none]
        exact ⟨False.elim, fun ⟨_, e, w, q⟩ => by cases e; exact z w⟩
    · rename_i hno
      rw [ok_none]
      exact ⟨False.elim, fun ⟨j, e, _, _⟩ => hno j g1 (by rw [e])⟩
end
/-! statements -/
section
variable {E : En} {g : G} {a b : MS} {m : M} {ml : ML} {t : MT} {i : Nat} {Q : Fl → En → G → Prop} {F : DF}
theorem oks_sNx : OkS (sNx E g) Q ↔ Q .nx E g := oks_some
theorem oks_sSeq : OkS (sSeq a b E g) Q ↔ OkS (a E g) fun r E1 g1 => match r with
    | .nx => OkS (b E1 g1) Q
    | r => Q r E1 g1 := by
  unfold sSeq
  cases a E g with
  | none => exact ⟨fun ⟨_, _, _, e, _⟩ => (nomatch e), fun ⟨_, _, _, e, _⟩ => nomatch e⟩
  | some p =>
    obtain ⟨r, E1, g1⟩ := p
    rw [oks_some]
    cases r <;> first | exact Iff.rfl | exact oks_some
theorem oks_sSet : OkS (sSet i m E g) Q ↔ Ok (m E g) fun d g1 => Q .nx (E.set i (.val d)) g1 := by
  unfold sSet
  cases m E g with
  | none => exact ⟨fun ⟨_, _, _, e, _⟩ => (nomatch e), fun ⟨_, _, e, _⟩ => nomatch e⟩
  | some p => simp only [oks_some, ok_some]
theorem oks_sOwn : OkS (sOwn i ml E g) Q ↔ Ok (ml E g) fun ds g1 => i < E.length ∧ Q .nx (E.set i (.own ds)) g1 := by
  unfold sOwn
  cases ml E g with
  | none => exact ⟨fun ⟨_, _, _, e, _⟩ => (nomatch e), fun ⟨_, _, e, _⟩ => nomatch e⟩
  | some p =>
    simp only [ok_some]
    by_cases z : i < E.length
    · simp only [oks_some, z, true_and, if_true]
    · simp only [z, false_and, if_false]
      exact ⟨fun ⟨_, _, _, e, _⟩ => (nomatch e), False.elim⟩
theorem oks_sDrop : OkS (sDrop m E g) Q ↔ Ok (m E g) fun _ g1 => Q .nx E g1 := by
  unfold sDrop
  cases m E g with
  | none => exact ⟨fun ⟨_, _, _, e, _⟩ => (nomatch e), fun ⟨_, _, e, _⟩ => nomatch e⟩
  | some p => simp only [oks_some, ok_some]
theorem oks_sRet : OkS (sRet m E g) Q ↔ Ok (m E g) fun d g1 => Q (.ret d) E g1 := by
  unfold sRet
  cases m E g with
  | none => exact ⟨fun ⟨_, _, _, e, _⟩ => (nomatch e), fun ⟨_, _, e, _⟩ => nomatch e⟩
  | some p => simp only [oks_some, ok_some]
theorem oks_sIf : OkS (sIf t a b E g) Q ↔ Ok (t E g) fun x g1 => if x = true then OkS (a E g1) Q else OkS (b E g1) Q := by
  unfold sIf
  cases t E g with
  | none => exact ⟨fun ⟨_, _, _, e, _⟩ => (nomatch e), fun ⟨_, _, e, _⟩ => nomatch e⟩
  | some p =>
    obtain ⟨d, g1⟩ := p
    cases d <;> simp [ok_some]
theorem oks_sAsg {tg : Tg} : OkS (sAsg tg m E g) Q ↔ Ok (m E g) fun d g1 => ∃ ps, tg.parts d = some ps ∧ Q .nx (setsE ps E) g1 := by
  unfold sAsg
  cases m E g with
  | none => exact ⟨fun ⟨_, _, _, e, _⟩ => (nomatch e), fun ⟨_, _, e, _⟩ => nomatch e⟩
  | some p =>
    simp only [ok_some]
    cases tg.parts p.1 with
    | none => exact ⟨fun ⟨_, _, _, e, _⟩ => (nomatch e), fun ⟨_, e, _⟩ => nomatch e⟩
    | some ps => simp [oks_some]
theorem oks_sPar {is : List Nat} : OkS (sPar is ml E g) Q ↔ Ok (ml E g) fun ds g1 => is.length = ds.length ∧ Q .nx (setsE (is.zip ds) E) g1 := by
  unfold sPar
  cases ml E g with
  | none => exact ⟨fun ⟨_, _, _, e, _⟩ => (nomatch e), fun ⟨_, _, e, _⟩ => nomatch e⟩
  | some p =>
    simp only [ok_some]
    by_cases z : is.length = p.1.length
    · simp only [oks_some, z, true_and, if_true]
    · simp only [z, false_and, if_false]
      exact ⟨fun ⟨_, _, _, e, _⟩ => (nomatch e), False.elim⟩
theorem oks_sFor {tg : Tg} : OkS (sFor tg ml b E g) Q ↔ Ok (ml E g) fun ds g1 => OkS (forL tg b ds E g1) Q := by
  unfold sFor
  cases ml E g with
  | none => exact ⟨fun ⟨_, _, _, e, _⟩ => (nomatch e), fun ⟨_, _, e, _⟩ => nomatch e⟩
  | some p => simp only [ok_some]
theorem ok_runD {n : Nat} {ds : List D} {QD : D → G → Prop} : Ok (runD n a ds g) QD ↔ OkS (a (startE n ds) g) fun r _ g1 => match r with
    | .ret d => QD d g1
    | .nx => QD .none g1
    | _ => False := by
  unfold runD
  cases a (startE n ds) g with
  | none => exact ⟨fun ⟨_, _, e, _⟩ => (nomatch e), fun ⟨_, _, _, e, _⟩ => nomatch e⟩
  | some p =>
    obtain ⟨r, E1, g1⟩ := p
    rw [oks_some]
    cases r <;> first | exact ok_some | exact ok_none
/-- the turns of a loop -/
theorem forL_ok {tg : Tg} {I : En → G → Prop} : ∀ (ds : List D) (E : En) (g : G), (∀ d ∈ ds, ∀ E g, I E g → ∃ ps, tg.parts d = some ps ∧ OkS (b (setsE ps E) g) fun r E' g' => r = .nx ∧ I E' g') → I E g → OkS (forL tg b ds E g) fun r E' g' => r = .nx ∧ I E' g'
  | [], E, g, _, hi => ⟨_, _, _, rfl, rfl, hi⟩
  | d :: ds, E, g, h, hi => by
    obtain ⟨ps, e1, r, E1, g1, e2, rfl, h2⟩ := h d (List.mem_cons_self ..) E g hi
    have := forL_ok ds E1 g1 (fun d hd => h d (List.mem_cons_of_mem _ hd)) h2
    unfold forL
    rw [e1]
    simp only [e2]
    exact this
/-- the turns of a list -/
theorem lcL_ok {tg : Tg} {e : M} {P : D → Prop} : ∀ (ds : List D) (g : G), (∀ d ∈ ds, ∀ g, ∃ ps, tg.parts d = some ps ∧ Ok (e (setsE ps E) g) fun x _ => P x) → Ok (lcL tg mYes e E ds g) fun xs _ => xs.length = ds.length ∧ ∀ x ∈ xs, P x
  | [], g, _ => ⟨_, _, rfl, rfl, fun x hx => absurd hx (by simp)⟩
  | d :: ds, g, h => by
    obtain ⟨ps, e1, x, g1, e2, hx⟩ := h d (List.mem_cons_self ..) g
    obtain ⟨xs, g2, e3, hl, hxs⟩ := lcL_ok ds g1 (fun d hd => h d (List.mem_cons_of_mem _ hd))
    unfold lcL
    rw [e1]
    simp only [mYes, e2, e3]
    refine ⟨_, _, rfl, by simp [hl], fun y hy => ?_⟩
    rcases List.mem_cons.mp hy with rfl | hy
    · exact hx
    · exact hxs y hy
theorem lcL_map {tg : Tg} {e : M} {φ : D → D} : ∀ (ds : List D), (∀ d ∈ ds, ∃ ps, tg.parts d = some ps ∧ e (setsE ps E) g = some (φ d, g)) → lcL tg mYes e E ds g = some (ds.map φ, g)
  | [], _ => rfl
  | d :: ds, h => by
    obtain ⟨ps, e1, e2⟩ := h d (List.mem_cons_self ..)
    have := lcL_map ds (fun d hd => h d (List.mem_cons_of_mem _ hd))
    unfold lcL
    rw [e1]
    simp only [mYes, e2, this, List.map_cons]
theorem allL_true {tg : Tg} {e : M} : ∀ (ds : List D), (∀ d ∈ ds, ∃ ps, tg.parts d = some ps ∧ e (setsE ps E) g = some (.bool true, g)) → allL tg e E ds g = some (true, g)
  | [], _ => rfl
  | d :: ds, h => by
    obtain ⟨ps, e1, e2⟩ := h d (List.mem_cons_self ..)
    have := allL_true ds (fun d hd => h d (List.mem_cons_of_mem _ hd))
    unfold allL
    rw [e1]
    simp only [e2, this]
end
section
variable {i j : Int} {b c : Bool} {xs ys : List D}
theorem fAdd_int : fAdd (.int i) (.int j) = some (.int (i + j)) := rfl
theorem fAdd_lst : fAdd (.list xs) (.list ys) = if xs.length + ys.length ≤ sizeLine then some (.list (xs ++ ys)) else none := rfl
theorem fAdd_tup : fAdd (.tuple xs) (.tuple ys) = if xs.length + ys.length ≤ sizeLine then some (.tuple (xs ++ ys)) else none := rfl
theorem fSub_int : fSub (.int i) (.int j) = some (.int (i - j)) := rfl
theorem fMul_int : fMul (.int i) (.int j) = if cMul i j = true then some (.int (i * j)) else none := rfl
theorem fDiv_int : fDiv (.int i) (.int j) = if cDiv i j = true then some (.int (i.fdiv j)) else none := rfl
theorem fMod_int : fMod (.int i) (.int j) = if decide (0 < j) = true then some (.int (i % j)) else none := rfl
theorem fPow_int : fPow (.int i) (.int j) = if (decide (0 ≤ j) && decide (j ≤ 1000000) && decide (i.natAbs < 2 ^ 64)) = true then some (.int (i ^ j.toNat)) else none := rfl
theorem fLt_int : fLt (.int i) (.int j) = some (.bool (decide (i < j))) := rfl
theorem fLe_int : fLe (.int i) (.int j) = some (.bool (decide (i ≤ j))) := rfl
theorem fGt_int : fGt (.int i) (.int j) = some (.bool (decide (j < i))) := rfl
theorem fGe_int : fGe (.int i) (.int j) = some (.bool (decide (j ≤ i))) := rfl
theorem fNeg_int : fNeg (.int i) = some (.int (-i)) := rfl
theorem fIx_lst : fIx (.list xs) (.int i) = atI xs i := rfl
theorem fIx_tup : fIx (.tuple xs) (.int i) = atI xs i := rfl
theorem fLen_lst : fLen [.list xs] = some (.int xs.length) := rfl
theorem fLen_tup : fLen [.tuple xs] = some (.int xs.length) := rfl
theorem fAbs_int : fAbs [.int i] = some (.int (if i < 0 then -i else i)) := rfl
theorem fInt1_int : fInt1 [.int i] = some (.int i) := rfl
theorem fInt1_bl : fInt1 [.bool b] = some (.int (if b then 1 else 0)) := rfl
theorem fGcd_int : fGcd [.int i, .int j] = some (.int (Nat.gcd i.natAbs j.natAbs : Nat)) := rfl
theorem fTuple_lst : fTuple [.list xs] = some (.tuple xs) := rfl
theorem fTuple_tup : fTuple [.tuple xs] = some (.tuple xs) := rfl
theorem fList_lst : fList [.list xs] = some (.list xs) := rfl
theorem fList_tup : fList [.tuple xs] = some (.list xs) := rfl
theorem fTru_bl : fTru (.bool b) = some b := rfl
theorem fTru_lst : fTru (.list xs) = some (!xs.isEmpty) := rfl
theorem fTru_tup : fTru (.tuple xs) = some (!xs.isEmpty) := rfl
theorem fIsB_bl {neg : Bool} : fIsB neg (.bool b) (.bool c) = some (.bool (if neg then !(b == c) else b == c)) := by cases neg <;> cases b <;> cases c <;> rfl
theorem atI_0 {x : D} : atI (x :: xs) 0 = some x := by simp [atI, ixN]
theorem atI_1 {x y : D} : atI (x :: y :: xs) 1 = some y := by
  unfold atI ixN
  rw [if_pos (by decide), if_pos (by simp only [List.length_cons]; omega)]
  rfl
theorem ty_int : tyN (.int i) = some "int" := rfl
theorem ty_bl : tyN (.bool b) = some "bool" := rfl
theorem ty_lst : tyN (.list xs) = some "list" := rfl
theorem ty_tup : tyN (.tuple xs) = some "tuple" := rfl
theorem ty_str {z : Str} : tyN (.str z) = some "str" := rfl
theorem ty_non : tyN .none = some "NoneType" := rfl
end
theorem fEq_int {a b : Int} : fEq (.int a) (.int b) = some (.bool (decide (a = b))) := by
  show (if (SeqAt.shaped (.int a) && SeqAt.shaped (.int b)) = true then some (PyData.bool (PyData.eqv (.int a) (.int b))) else none) = _
  rw [if_pos (by rfl)]
  by_cases h : a = b <;> simp [PyData.eqv, h]
theorem fNe_int {a b : Int} : fNe (.int a) (.int b) = some (.bool (!decide (a = b))) := by
  show (if (SeqAt.shaped (.int a) && SeqAt.shaped (.int b)) = true then some (PyData.bool (!PyData.eqv (.int a) (.int b))) else none) = _
  rw [if_pos (by rfl)]
  by_cases h : a = b <;> simp [PyData.eqv, h]
end DL

set_option Elab.async false
set_option linter.all false
set_option maxRecDepth 100000
set_option maxHeartbeats 2000000
namespace DL
open PySem PySem.Spec PyProof.Rows L2
/-! ### bit_length -/
def fBitL : D → Option D
  | .int i => some (.int (Builtin.Int.intBits i : Nat))
  | _ => none
section
variable {k : Kx} {f : Fx} {sm : Bool} {X : Cx} {pos p2 : Pos} {a : Expr} {m : M}
theorem de_bits (h : PE X (.Call (.Attribute a "bit_length" p2) [] [] pos) (tBits (tE k f sm m))) : PE X (.Call (.Attribute a "bit_length" p2) [] [] pos) (tE k f sm (e1 fBitL m)) :=
  pe_of h fun σ H Q ⟨ex, E, μ, g, d, g', I, e, q⟩ => by
    unfold e1 at e
    split at e
    · cases e
    · rename_i x g1 h1
      split at e
      · cases e
      · rename_i z h2
        cases e
        refine ⟨ex, E, μ, g, x, g', I, h1, fun v H1 p1 r1 => ?_⟩
        unfold fBitL at h2
        split at h2
        · cases h2
          cases r1
          exact ⟨_, rfl, q _ H1 p1 (.int _)⟩
        · cases h2
/-- a module's number -/
theorem de_globI {x : Str} {i : Int} (hg : Gl X x) (hm : ∃ t, X.mg x = some (.int i t)) (hdb : (x == ("__debug__" : Str)) = false := by decide) : PE X (.Name x pos) (tE k f sm (eK (.int i))) :=
  let ⟨t, h⟩ := hm
  de_glob (v := .int i) hg h ⟨t, rfl⟩ (fun _ _ => .int _) hdb
end
end DL

set_option Elab.async false
set_option linter.all false
set_option maxRecDepth 100000
set_option maxHeartbeats 4000000
namespace DL
open PySem PySem.Spec PyProof.Rows L2 HT
/-! ### tuples: in, turned about, many times -/
section
variable {prog : Program} {w : World} {A : Around} {E : Value → Shared → Prop} {s : Shared}
theorem applied_back {sl : Addr} {vk : Value} {n : Nat} {Q : Int × Int × Nat → Shared → Prop} (hs : s.heap.IsSliceOf sl .none .none vk) (pk : IsPart vk (some (-1))) (h : Q ((n : Int) - 1, -1, n) s) :
    wpAny (model prog w) A (Builtin.Slice.sliceApplied (.ref sl) (pure (n : Int))) Q E s := by
  obtain ⟨os, hos, hcs, hds⟩ := id hs
  unfold Builtin.Slice.sliceApplied
  unfold Builtin.Slice.sliceFields
  refine wpAny_bind (wpAny_bind (wpAny_field hos hds (x := .none) rfl (wpAny_bind (wpAny_field hos hds (x := .none) rfl (wpAny_bind (wpAny_field hos hds (x := vk) rfl (wpAny_pure ?_)))))))
  refine wpAny_bind (slicePart_ pk ?_); show wpAny _ _ (if ((-1 : Int) == 0) = true then _ else _) _ _ s
  rw [if_neg (show ¬ (((-1 : Int) == 0) = true) by decide)]; refine wpAny_bind (slicePart_none (wpAny_bind (slicePart_none (wpAny_bind (wpAny_pure ?_)))))
  have e : Builtin.Slice.slicePlaces ((n : Int) - 1) (-1) (-1) = n := by
    unfold Builtin.Slice.slicePlaces
    rw [if_neg (by decide)]
    by_cases hn : n = 0
    · subst hn; rfl
    · rw [if_pos (by omega), show (- -1 : Int) = 1 by decide, Int.ediv_one]
      omega
  show wpAny _ _ (pure ((n : Int) - 1, (-1 : Int), Builtin.Slice.slicePlaces ((n : Int) - 1) (-1) (-1))) _ _ s
  rw [e]
  exact wpAny_pure h
theorem pick_back (xs : Array Value) : ((List.range xs.size).filterMap fun (k : Nat) => xs[((xs.size : Int) - 1 + (k : Int) * (-1)).toNat]?).toArray = xs.toList.reverse.toArray := by
  have e : (fun (k : Nat) => xs[((xs.size : Int) - 1 + (k : Int) * (-1)).toNat]?) = (xs[·]?) ∘ fun k => xs.size - 1 - k := by
    funext k
    have : ((xs.size : Int) - 1 + (k : Int) * (-1)).toNat = xs.size - 1 - k := by omega
    simp only [Function.comp, this]
  rw [e, ← List.filterMap_map, PySem.W.krv_range, List.filterMap_reverse, PySem.W.krv_all]
theorem item_back {t sl : Addr} {items : Array Value} {vk : Value} {Q : Value → Shared → Prop} (ht : IsTup s.heap t items) (hs : s.heap.IsSliceOf sl .none .none vk) (pk : IsPart vk (some (-1))) (hsz : items.size ≤ sizeLine)
    (h : Q (.ref s.heap.objs.size) { s with heap := s.heap.push { cls := .type "tuple", data := .seq items.toList.reverse.toArray } }) : wpAny (model prog w) A (getItem (.ref t) (.ref sl)) Q E s := by
  have hok : sizeOk (.seq items.toList.reverse.toArray) := by
    show items.toList.reverse.toArray.size ≤ sizeLine
    rw [List.size_toArray, List.length_reverse, Array.length_toList]; exact hsz
  have hT : s.TypeIs (.ref sl) "slice" := let ⟨os, hos, hcs, _⟩ := hs; ⟨os, hos, hcs⟩
  unfold getItem; try with_reducible refine wpAny_holding ?_
  first | (refine wpAny_bind (wpAny_pure ?_)) | skip
  refine wpAny_bind (wpAny_sequenceKey ht.typeIs (by decide) (wpAny_bind (wpAny_callSpecial?_slot (name := Str.ofString "__getitem__") ht.typeIs PyProof.Rows.slot_tuple_getitem (wpAny_call_entry PyProof.Rows.slot_tuple_getitem ht.typeIs entry_tuple_getitem ?_ (args_tuple_getitem _ _)))))
  show wpAny _ _ (Builtin.Tuple.tupleItemsOf (.ref t) >>= fun _ => _) _ _ s
  refine wpAny_bind (tupleItemsOf_ ht (wpAny_bind (wpAny_typeOf hT ?_)))
  rw [if_pos (show ((Value.type "slice" : Value) == .type "slice") = true by decide)]
  refine wpAny_bind (applied_back hs pk ?_)
  have hno : ¬ ((((items.size : Int) - 1) == 0 && (-1 : Int) == 1 && items.size == items.size) = true) := by simp
  show wpAny _ _ (if ((((items.size : Int) - 1) == 0 && (-1 : Int) == 1 && items.size == items.size) = true) then _ else _) _ _ s
  rw [if_neg hno, pick_back]
  first
    | exact wpAny_bind (m := Builtin.Tuple.tupleExact _) (wpAny_newObj_type (wpAny_pure ⟨_, rfl, wpAny_pure h⟩) hok)
    | exact wpAny_bind (m := Builtin.Tuple.tupleExact _) (wpAny_newObj_type (wpAny_bind (wpAny_pure (wpAny_pure ⟨_, rfl, wpAny_pure h⟩))) hok)
    | exact wpAny_bind (wpAny_bind (m := Builtin.Tuple.tupleExact _) (wpAny_newObj_type (wpAny_pure (wpAny_pure ⟨_, rfl, wpAny_pure h⟩)) hok))
    | exact wpAny_bind (wpAny_bind (m := Builtin.Tuple.tupleExact _) (wpAny_newObj_type (wpAny_pure ⟨_, rfl, wpAny_pure h⟩) hok))
end
/-- t[::-1] -/
def tRevT (K : PySem.W.Frag) (te : TE) : TE := fun σ H Q => te σ H fun x H1 => ∃ a xs, x = .ref a ∧ SqT K H1 a xs ∧ ∀ p, H1 p = none → Q (.ref p) (upd H1 p (.tup xs.reverse))
theorem pe_revT {X : Cx} {e : Expr} {te : TE} {k : Nat} {p1 p2 p3 pos : Pos} (he : PE X e te) : PE X (.Subscript e (.Slice none none (some (.UnaryOp .USub (.Constant (.int 1) k p1) p2)) p3) pos) (tRevT X.K te) := by
  refine ⟨fun pins s0 σ H0 Q I0 h0 => Subscript_ (thn (he.run pins s0 σ H0 _ I0 h0) fun v s1 ⟨x, H1, I1, r1, q1⟩ => ?_)⟩
  obtain ⟨a, xs, rfl, hx, q⟩ := q1; cases r1
  have hst : PO X (some (Expr.UnaryOp .USub (.Constant (.int 1) k p1) p2)) (tPart (tUn (rU fun i => V.int (-i)) (tC (V.int 1)))) := po_some (pe_un un_neg pe_int)
  refine wpAny_Slice (thn (po_none.run pins s1 σ H1 (fun o H2 => o = none ∧ H2 = H1) I1 ⟨rfl, rfl⟩) fun vl s2 ⟨l, H2, I2, pl, el, e2⟩ => ?_); subst el e2
  refine thn (po_none.run pins s2 σ H2 (fun o H3 => o = none ∧ H3 = H2) I2 ⟨rfl, rfl⟩) fun vu s3 ⟨u, H3, I3, pu, eu, e3⟩ => ?_; subst eu e3
  refine thn (hst.run pins s3 σ H3 (fun o H4 => o = some (-1) ∧ H4 = H3) I3 ⟨1, rfl, -1, rfl, rfl, rfl⟩) fun vs s4 ⟨o, H4, I4, ps, eo, e4⟩ => ?_; subst eo e4
  have hl : vl = .none := by cases pl; rfl
  have hu : vu = .none := by cases pu; rfl
  subst hl hu
  have I5 : Inv X pins σ H4 { s4 with heap := s4.heap.push { cls := .type "slice", data := .fields #[Value.none, Value.none, vs] } } := I4.kept (t' := s4.toks) fun b ob z => Heap.get?_push_of_some _ z
  obtain ⟨its, r, ht, hz⟩ := I5.tuple hx
  have hlen := r.length
  show wpAny (model X.prog X.w) X.A (subscriptTail e (.Slice none none (some (.UnaryOp .USub (.Constant (.int 1) k p1) p2)) p3) (.ref a) (.ref s4.heap.objs.size)) (EP X pins σ Q) X.xe { s4 with heap := s4.heap.push { cls := .type "slice", data := .fields #[Value.none, Value.none, vs] } }
  refine tail_any (ops := [.ref a, .ref s4.heap.objs.size]) ht.typeIs PyProof.Rows.slot_tuple_getitem.lookup ?_ (by with_unfolding_all rfl)
  refine item_back ht (Heap.IsSliceOf.new _ Value.none Value.none vs) ps (by rw [List.size_toArray]; omega) ?_
  exact ⟨.ref _, _, I5.laid (t' := s4.toks) (o := .tup xs.reverse) (fun b ob z => Heap.get?_push_of_some _ z) (Nat.le_refl _) ⟨by rw [List.length_reverse]; exact hz, _, r.reverse, IsTup.new _ _⟩, rfl, q _ (I5.hok.fresh (Nat.le_refl _))⟩
theorem room65 {k : Nat} {A : Around} (r : Room k A) : A.units + 65 < cLine := by have := r.un; omega
/-- d in t, t a tuple of data -/
def rInT (K : PySem.W.Frag) (neg : Bool) : R2 := fun x y H Q => ∃ d ds, Dp K H x d ∧ Dp K H y (.tuple ds) ∧ SeqAt.shaped d = true ∧ SeqAt.shaped (.tuple ds) = true ∧ Q (.bl (if neg then !ds.any fun z => PyData.eqv z d else ds.any fun z => PyData.eqv z d)) H
theorem room_inT {A : Around} {d : PyData} {ds : List PyData} (sd : SeqAt.shaped d = true) (hu : A.units + 65 < cLine) : A.units + 1 + min (PyData.depthAll ds) d.depth < cLine := by
  unfold SeqAt.shaped at sd
  have h : d.depth ≤ 64 := of_decide_eq_true (Bool.and_eq_true_iff.mp sd).2
  omega
section
variable {X : Cx}
theorem op_inT (hu : X.A.units + 65 < cLine) : OpR X (compareOp .In) (rInT X.K false) := fun pins s σ H x y v u Q I rx ry ⟨d, ds, hd, he, sd, se, q⟩ => by
  obtain ⟨as, ra⟩ := Dp.reads I d x v hd rx
  obtain ⟨bs, rb⟩ := Dp.reads I (.tuple ds) y u he ry
  exact SeqAt.in_tuple_reads rb ra (SeqAt.canLay_of_shaped se) (SeqAt.canLay_of_shaped sd) (room_inT sd hu) ⟨.bl _, H, I, rfl, q⟩
theorem op_notInT (hu : X.A.units + 65 < cLine) : OpR X (compareOp .NotIn) (rInT X.K true) := fun pins s σ H x y v u Q I rx ry ⟨d, ds, hd, he, sd, se, q⟩ => by
  obtain ⟨as, ra⟩ := Dp.reads I d x v hd rx
  obtain ⟨bs, rb⟩ := Dp.reads I (.tuple ds) y u he ry
  exact SeqAt.notIn_tuple_reads rb ra (SeqAt.canLay_of_shaped se) (SeqAt.canLay_of_shaped sd) (room_inT sd hu) ⟨.bl _, H, I, rfl, q⟩
end
def fInT (neg : Bool) : D → D → Option D := fun d e => match e with
  | .tuple ds => if SeqAt.shaped d && SeqAt.shaped (.tuple ds) then some (.bool (if neg then !ds.any fun z => PyData.eqv z d else ds.any fun z => PyData.eqv z d)) else none
  | _ => none
theorem od_inT {k : Kx} {neg : Bool} : OpD k (rInT k.K neg) (fInT neg) := fun B H x y d e z Q hB rx ry h q => by
  unfold fInT at h
  split at h
  · rename_i ds
    split at h
    · rename_i hs
      obtain ⟨h1, h2⟩ := Bool.and_eq_true_iff.mp hs
      cases h
      exact ⟨d, ds, Rp.dp d x (SeqAt.canLay_of_shaped h1) rx, Rp.dp _ y (SeqAt.canLay_of_shaped h2) ry, h1, h2, q _ H (.refl H) (.bl _)⟩
    · cases h
  · cases h
/-- t * k -/
def fRepT : D → D → Option D
  | .tuple xs, .int k => if xs ≠ [] ∧ 2 ≤ k ∧ k ≤ 1000 ∧ xs.length ≤ 1000 then some (.tuple (List.replicate k.toNat xs).flatten) else none
  | _, _ => none
theorem RpA.rep {k : Kx} {H : Hp} {B : Addr → Prop} {vs : List V} {ds : List D} (r : RpA k H B vs ds) : ∀ n, RpA k H B (List.replicate n vs).flatten (List.replicate n ds).flatten
  | 0 => .nil
  | n + 1 => by
    rw [List.replicate_succ, List.replicate_succ, List.flatten_cons, List.flatten_cons]
    exact r.append (RpA.rep r n)
theorem od_repT {k : Kx} : OpD k (rRepT k.K) fRepT := fun B H x y d e z Q hB rx ry hh q => by
  unfold fRepT at hh
  split at hh
  · split at hh
    · rename_i xs n hl
      cases hh
      cases ry
      cases rx with
      | tup n1 h1 r1 =>
        have hn : r1.length = r1.length := rfl
        refine ⟨_, _, _, rfl, rfl, .of h1, fun e => ?_, hl.2.1, hl.2.2.1, by rw [r1.length]; exact hl.2.2.2, fun p hp => q _ _ (Same.upd hp) (.newT hB hp (r1.rep _))⟩
        rw [e] at r1
        cases r1
        exact hl.1 rfl
    · cases hh
  · cases hh
/-- t[::-1] over data -/
def fRevT : D → Option D
  | .tuple xs => some (.tuple xs.reverse)
  | _ => none
def sSet2 (i j : Nat) (m : M) : MS := fun E g => match m E g with
  | none => none
  | some (d, g1) => some (.nx, (E.set i (.val d)).set j (.val d), g1)
section
variable {k : Kx} {f : Fx} {sm : Bool} {ex : List (V × D)} {X : Cx} {pos p2 p3 : Pos} {a e : Expr} {ma m : M}
theorem de_revT (hK : X.K = k.K) (ha : PE X a (tE k f sm ma)) {j : Nat} {p1 p2 p3 : Pos} : PE X (.Subscript a (.Slice none none (some (.UnaryOp .USub (.Constant (.int 1) j p1) p2)) p3) pos) (tE k f sm (e1 fRevT ma)) :=
  pe_of (pe_revT ha) fun σ H Q ⟨ex, E, μ, g, d, g', I, e, q⟩ => by
    unfold e1 at e
    split at e
    · cases e
    · rename_i x g1 h1
      split at e
      · cases e
      · rename_i z h3
        cases e
        refine ⟨ex, E, μ, g, x, g', I, h1, fun v H1 p1 r1 => ?_⟩
        have I1 := I.step p1
        unfold fRevT at h3
        split at h3
        · cases h3
          cases r1 with
          | tup n1 e1 ra =>
            refine ⟨_, _, rfl, by rw [hK]; exact .of e1, fun p hp => ?_⟩
            exact q _ _ (p1.trans (.same (Same.upd hp) I1.ga)) (.newT (fun b z => I1.be sm z) hp ra.rev)
        · cases h3
theorem ds_set2 {i j : Nat} {x y : Str} {px py : Pos} (hN : X.N.Nodup) (hi : X.N[i]? = some x) (hj : X.N[j]? = some y) (hx : Loc X.env.scope x) (hy : Loc X.env.scope y) (he : PE X e (tE k f true m)) (hw : swappedStores [.Name x px, .Name y py] e X.env = pure none := by rfl)
    (ha : (assignEach [.Name x px, .Name y py] X.env).map (·.2) = [assign (.Name x px) X.env, assign (.Name y py) X.env] := by rfl)
    (hfx : X.fn x = true ∨ X.env.scope.names.lookup x = some .local := by first | exact .inl rfl | exact .inr rfl | assumption) (hfy : X.fn y = true ∨ X.env.scope.names.lookup y = some .local := by first | exact .inl rfl | exact .inr rfl | assumption) :
    PS X (.Assign [.Name x px, .Name y py] e pos) (tS k f ex (sSet2 i j m)) := ps_of (ps_asg2 he (pg_name hN hi hx hfx) (pg_name hN hj hy hfy) ha hw) fun Dn σ H ⟨E, μ, g, r, I, e, q⟩ => by
  unfold sSet2 at e
  split at e
  · cases e
  · rename_i d g1 h
    cases e
    refine ⟨ex, E, μ, g, d, g1, I, h, fun v H1 p1 r1 => ?_⟩
    have I1 := (I.step p1).setVal i r1
    exact q _ μ H1 (I1.setVal j (r1.shrink BE.set))
end
end DL

set_option Elab.async false
set_option linter.all false
set_option maxRecDepth 100000
set_option maxHeartbeats 2000000
namespace K06
open PySem PySem.Spec PyProof.Rows L2 DL
def topS (i : Nat) : Stmt := PySem.Challenge.pw_drawntold_k06_whole_axes_moved_and_turne.main.body.getD i (.Pass ⟨0, 0, 0, 0⟩)
def fuI (i : Nat) : En → G → Nat := fun E _ => match E[i]? with
  | some (.val (.int z)) => z.natAbs + 2
  | _ => 0
def fuG : En → G → Nat := fun _ g => g.deep.length + 1
def fuN (n : Nat) : En → G → Nat := fun _ _ => n
structure Tx (mg : Str → Option Value) : Prop where
  m_abs : mg "abs" = none
  m_all : mg "all" = none
  m_bool : mg "bool" = none
  m_gcd : mg "gcd" = some (.builtin "math.gcd")
  m_int : mg "int" = none
  m_len : mg "len" = none
  m_range : mg "range" = none
  m_tuple : mg "tuple" = none
  m_type : mg "type" = none
  c_FEWEST_VALUES : ∃ t, mg "FEWEST_VALUES" = some (.int 2 t)
  c_MOST_VALUES : ∃ t, mg "MOST_VALUES" = some (.int 10 t)
/-- what the spring gives -/
def Fd_law_drop : DF := fun ds g => match ds with
  | [.dict [], .int m] => if 0 < m then
      match g.deep.dropWhile (· == 0) with
      | n :: r => if m.natAbs.log2 < 9000 then some (.int (n % m), ⟨n / m :: r, g.p, g.q⟩) else none
      | [] =>
        let p := (g.p * 6364136223846793005 + (g.q + 1) * 1442695040888963407) % 2305843009213693951
        some (.int (p * p % 2305843009213693921 / 1048576 % m), ⟨[], p, g.q + 1⟩)
    else none
  | _ => none
section
variable {P : Program} {w : World} {k : Kx} {mg : Str → Option Value} {base : Heap}
abbrev sis_integer : Stmt := topS 7
theorem scis_integer : FnScope ["value"] ["value"] (defScope sis_integer) := ⟨rfl, rfl, rfl, by decide +kernel, rfl, by decide +kernel, by decide +kernel⟩
def mis_integer : MS := sRet (eTyC false "int" (eV false 0))
def Fis_integer : DF := runD 1 mis_integer
theorem okis_integer (T : Tx mg)  {fa : Addr} {fd : FuncData} (FN : Fun k.K "is_integer" "is_integer" sis_integer fa fd) (gn : mg "is_integer" = some (.ref fa)) : Has P w k mg base "is_integer" 1 ["value"] [] Fis_integer :=
  has_mk (j := 0) FN gn scis_integer (fun cdv A outer s H E f hr =>
    (dss_one (ds_ret (by exact (de_tyEq (.inr (.inr (.inl rfl))) rfl rfl T.m_type (tyname (T := "int") (x := "int") rfl T.m_int (by decide +kernel) (by decide) (by decide)) (de_var 0)))))) (FN.binds fun _ _ _ _ _ _ us hl => match us, hl with | [_], _ => rfl) (fun q hq => by simp at hq)
abbrev sis_between : Stmt := topS 8
theorem scis_between : FnScope ["value", "low", "high"] ["value", "low", "high"] (defScope sis_between) := ⟨rfl, rfl, rfl, by decide +kernel, rfl, by decide +kernel, by decide +kernel⟩
def mis_between : MS := sRet (eAnd (eTyC false "int" (eV false 0)) (eCh fLe fLe (eV false 1) (eV false 0) (eV false 2)))
def Fis_between : DF := runD 3 mis_between
theorem okis_between (T : Tx mg)  {fa : Addr} {fd : FuncData} (FN : Fun k.K "is_between" "is_between" sis_between fa fd) (gn : mg "is_between" = some (.ref fa)) : Has P w k mg base "is_between" 1 ["value", "low", "high"] [] Fis_between :=
  has_mk (j := 0) FN gn scis_between (fun cdv A outer s H E f hr =>
    (dss_one (ds_ret (by exact (de_and rfl (by exact (de_tyEq (.inr (.inr (.inl rfl))) rfl rfl T.m_type (tyname (T := "int") (x := "int") rfl T.m_int (by decide +kernel) (by decide) (by decide)) (de_var 0))) (de_one (by exact (de_chain op_le od_le op_le od_le (de_var 1) (de_var 0) (de_var 2))))))))) (FN.binds fun _ _ _ _ _ _ us hl => match us, hl with | [_, _, _], _ => rfl) (fun q hq => by simp at hq)
abbrev sis_tuple_of : Stmt := topS 9
theorem scis_tuple_of : FnScope ["value", "size"] ["value", "size"] (defScope sis_tuple_of) := ⟨rfl, rfl, rfl, by decide +kernel, rfl, by decide +kernel, by decide +kernel⟩
def mis_tuple_of : MS := sRet (eAnd (eTyC false "tuple" (eV false 0)) (e2 fEq (eF fLen (lCons (eV false 0) (lNil))) (eV false 1)))
def Fis_tuple_of : DF := runD 2 mis_tuple_of
theorem okis_tuple_of (T : Tx mg)  {fa : Addr} {fd : FuncData} (FN : Fun k.K "is_tuple_of" "is_tuple_of" sis_tuple_of fa fd) (gn : mg "is_tuple_of" = some (.ref fa)) : Has P w k mg base "is_tuple_of" 1 ["value", "size"] [] Fis_tuple_of :=
  has_mk (j := 0) FN gn scis_tuple_of (fun cdv A outer s H E f hr =>
    (dss_one (ds_ret (by exact (de_and rfl (by exact (de_tyEq (.inr (.inr (.inr (.inr (.inr rfl))))) rfl rfl T.m_type (tyname (T := "tuple") (x := "tuple") rfl T.m_tuple (by decide +kernel) (by decide) (by decide)) (de_var 0))) (de_one (by exact (de_cmp (op_eqD hr.units) od_eq (by exact (de_callB call_lenA cd_len rfl T.m_len PySem.boot_len (dl_cons (de_var 0) dl_nil))) (de_var 1) (nomark _))))))))) (FN.binds fun _ _ _ _ _ _ us hl => match us, hl with | [_, _], _ => rfl) (fun q hq => by simp at hq)
abbrev sis_fraction : Stmt := topS 11
theorem scis_fraction : FnScope ["value", "top", "bottom"] ["value"] (defScope sis_fraction) := ⟨rfl, rfl, rfl, by decide +kernel, rfl, by decide +kernel, by decide +kernel⟩
def mis_fraction : MS := sSeq (sIf (mNot (mTru (eCall Fis_tuple_of (lCons (eV false 0) (lCons (eK (.int 2)) (lNil)))))) (sRet (eK (.bool false))) (sNx)) (sSeq (sAsg (.many [1, 2]) (eV true 0)) (sRet (eAnd (eCall Fis_integer (lCons (eV false 1) (lNil))) (eAnd (eCall Fis_integer (lCons (eV false 2) (lNil))) (eAnd (e2 fGt (eV false 2) (eK (.int 0))) (e2 fEq (eF fGcd (lCons (eV false 1) (lCons (eV false 2) (lNil)))) (eK (.int 1))))))))
def Fis_fraction : DF := runD 3 mis_fraction
theorem okis_fraction (T : Tx mg) (his_tuple_of : Has P w k mg base "is_tuple_of" 1 ["value", "size"] [] Fis_tuple_of) (his_integer : Has P w k mg base "is_integer" 1 ["value"] [] Fis_integer) {fa : Addr} {fd : FuncData} (FN : Fun k.K "is_fraction" "is_fraction" sis_fraction fa fd) (gn : mg "is_fraction" = some (.ref fa)) : Has P w k mg base "is_fraction" 2 ["value"] [] Fis_fraction :=
  has_mk (j := 1) FN gn scis_fraction (fun cdv A outer s H E f hr =>
    (dss_cons (ds_if (by exact (dt_not (by exact (dt_tru (sm := false) rfl (by exact (de_fun his_tuple_of rfl hr (by decide) rfl (dl_cons (de_var 0) (dl_cons de_int dl_nil)) (ln_cons (ln_cons ln0)))))))) (dss_one (ds_ret de_bl)) dss_nil) (dss_cons (ds_asg (de_var 0) (dg_tup (is := [1, 2]) rfl rfl (pgs_cons (pg_name (i := 1) scis_fraction.nd rfl (.inl rfl)) (pgs_cons (pg_name (i := 2) scis_fraction.nd rfl (.inl rfl)) pgs_nil)))) (dss_one (ds_ret (by exact (de_and rfl (by exact (de_fun his_integer rfl hr (by decide) rfl (dl_cons (de_var 1) dl_nil) (ln_cons ln0))) (de_and rfl (by exact (de_fun his_integer rfl hr (by decide) rfl (dl_cons (de_var 2) dl_nil) (ln_cons ln0))) (de_and rfl (by exact (de_cmp op_gt od_gt (de_var 2) de_int (nomark _))) (de_one (by exact (de_cmp (op_eqD hr.units) od_eq (by exact (de_callFun cr_gcd cd_gcd rfl T.m_gcd (dl_cons (de_var 1) (dl_cons (de_var 2) dl_nil)))) de_int (nomark _))))))))))))) (FN.binds fun _ _ _ _ _ _ us hl => match us, hl with | [_], _ => rfl) (fun q hq => by simp at hq)
abbrev s_reduced : Stmt := topS 20
theorem sc_reduced : FnScope ["top", "bottom", "divisor"] ["top", "bottom"] (defScope s_reduced) := ⟨rfl, rfl, rfl, by decide +kernel, rfl, by decide +kernel, by decide +kernel⟩
def m_reduced : MS := sSeq (sSet 2 (eF fGcd (lCons (eV true 0) (lCons (eV true 1) (lNil))))) (sSeq (sIf (mB (e2 fLt (eV false 1) (eK (.int 0)))) (sSet 2 (e1 fNeg (eV true 2))) (sNx)) (sRet (eTup (lCons (e2 fDiv (eV false 0) (eV false 2)) (lCons (e2 fDiv (eV false 1) (eV false 2)) (lNil))))))
def F_reduced : DF := runD 3 m_reduced
theorem ok_reduced (T : Tx mg)  {fa : Addr} {fd : FuncData} (FN : Fun k.K "_reduced" "_reduced" s_reduced fa fd) (gn : mg "_reduced" = some (.ref fa)) : Has P w k mg base "_reduced" 1 ["top", "bottom"] [] F_reduced :=
  has_mk (j := 0) FN gn sc_reduced (fun cdv A outer s H E f hr =>
    (dss_cons (ds_set (i := 2) sc_reduced.nd rfl (.inl rfl) (by exact (de_callFun cr_gcd cd_gcd rfl T.m_gcd (dl_cons (de_var 0) (dl_cons (de_var 1) dl_nil))))) (dss_cons (ds_if (by exact (dt_cmp op_lt od_lt (de_var 1) de_int (nomark _))) (dss_one (ds_set (i := 2) sc_reduced.nd rfl (.inl rfl) (by exact (de_un un_neg ud_neg (de_var 2))))) dss_nil) (dss_one (ds_ret (by exact (de_tup (dl_cons (by exact (de_op op_fdivZ od_div (de_var 0) (de_var 2))) (dl_cons (by exact (de_op op_fdivZ od_div (de_var 1) (de_var 2))) dl_nil))))))))) (FN.binds fun _ _ _ _ _ _ us hl => match us, hl with | [_, _], _ => rfl) (fun q hq => by simp at hq)
abbrev sfraction : Stmt := topS 12
theorem scfraction : FnScope ["top", "bottom"] ["top", "bottom"] (defScope sfraction) := ⟨rfl, rfl, rfl, by decide +kernel, rfl, by decide +kernel, by decide +kernel⟩
def mfraction : MS := sSeq (sIf (mOr (mNot (mTru (eCall Fis_integer (lCons (eV false 0) (lNil))))) (mOr (mNot (mTru (eCall Fis_integer (lCons (eV false 1) (lNil))))) (mB (e2 fEq (eV false 1) (eK (.int 0)))))) (sNo) (sNx)) (sRet (eCall F_reduced (lCons (eV false 0) (lCons (eV false 1) (lNil)))))
def Ffraction : DF := runD 2 mfraction
theorem okfraction (T : Tx mg) (h_reduced : Has P w k mg base "_reduced" 1 ["top", "bottom"] [] F_reduced) (his_integer : Has P w k mg base "is_integer" 1 ["value"] [] Fis_integer) {fa : Addr} {fd : FuncData} (FN : Fun k.K "fraction" "fraction" sfraction fa fd) (gn : mg "fraction" = some (.ref fa)) : Has P w k mg base "fraction" 2 ["top", "bottom"] [] Ffraction :=
  has_mk (j := 1) FN gn scfraction (fun cdv A outer s H E f hr =>
    (dss_cons (ds_if (by exact (PW.pt (dw_or (by exact (dt_not (by exact (dt_tru (sm := false) rfl (by exact (de_fun his_integer rfl hr (by decide) rfl (dl_cons (de_var 0) dl_nil) (ln_cons ln0))))))) (dw_or (by exact (dt_not (by exact (dt_tru (sm := false) rfl (by exact (de_fun his_integer rfl hr (by decide) rfl (dl_cons (de_var 1) dl_nil) (ln_cons ln0))))))) (dw_or1 (by exact (dt_cmp (op_eqD hr.units) od_eq (de_var 1) de_int (nomark _)))))))) (dss_one ds_no) dss_nil) (dss_one (ds_ret (by exact (de_fun h_reduced rfl hr (by decide) rfl (dl_cons (de_var 0) (dl_cons (de_var 1) dl_nil)) (ln_cons (ln_cons ln0)))))))) (FN.binds fun _ _ _ _ _ _ us hl => match us, hl with | [_, _], _ => rfl) (fun q hq => by simp at hq)
abbrev s_check_both : Stmt := topS 19
theorem sc_check_both : FnScope ["one", "other"] ["one", "other"] (defScope s_check_both) := ⟨rfl, rfl, rfl, by decide +kernel, rfl, by decide +kernel, by decide +kernel⟩
def m_check_both : MS := sIf (mOr (mNot (mTru (eCall Fis_fraction (lCons (eV false 0) (lNil))))) (mNot (mTru (eCall Fis_fraction (lCons (eV false 1) (lNil)))))) (sNo) (sNx)
def F_check_both : DF := runD 2 m_check_both
theorem ok_check_both (T : Tx mg) (his_fraction : Has P w k mg base "is_fraction" 2 ["value"] [] Fis_fraction) {fa : Addr} {fd : FuncData} (FN : Fun k.K "_check_both" "_check_both" s_check_both fa fd) (gn : mg "_check_both" = some (.ref fa)) : Has P w k mg base "_check_both" 3 ["one", "other"] [] F_check_both :=
  has_mk (j := 2) FN gn sc_check_both (fun cdv A outer s H E f hr =>
    (dss_one (ds_if (by exact (PW.pt (dw_or (by exact (dt_not (by exact (dt_tru (sm := false) rfl (by exact (de_fun his_fraction rfl hr (by decide) rfl (dl_cons (de_var 0) dl_nil) (ln_cons ln0))))))) (dw_or1 (by exact (dt_not (by exact (dt_tru (sm := false) rfl (by exact (de_fun his_fraction rfl hr (by decide) rfl (dl_cons (de_var 1) dl_nil) (ln_cons ln0))))))))))) (dss_one ds_no) dss_nil))) (FN.binds fun _ _ _ _ _ _ us hl => match us, hl with | [_, _], _ => rfl) (fun q hq => by simp at hq)
abbrev splus : Stmt := topS 13
theorem scplus : FnScope ["one", "other"] ["one", "other"] (defScope splus) := ⟨rfl, rfl, rfl, by decide +kernel, rfl, by decide +kernel, by decide +kernel⟩
def mplus : MS := sSeq (sDrop (eCall F_check_both (lCons (eV true 0) (lCons (eV true 1) (lNil))))) (sRet (eCall F_reduced (lCons (e2 fAdd (e2 fMul (e2 fIx (eV false 0) (eK (.int 0))) (e2 fIx (eV false 1) (eK (.int 1)))) (e2 fMul (e2 fIx (eV false 1) (eK (.int 0))) (e2 fIx (eV false 0) (eK (.int 1))))) (lCons (e2 fMul (e2 fIx (eV false 0) (eK (.int 1))) (e2 fIx (eV false 1) (eK (.int 1)))) (lNil)))))
def Fplus : DF := runD 2 mplus
theorem okplus (T : Tx mg) (h_check_both : Has P w k mg base "_check_both" 3 ["one", "other"] [] F_check_both) (h_reduced : Has P w k mg base "_reduced" 1 ["top", "bottom"] [] F_reduced) {fa : Addr} {fd : FuncData} (FN : Fun k.K "plus" "plus" splus fa fd) (gn : mg "plus" = some (.ref fa)) : Has P w k mg base "plus" 4 ["one", "other"] [] Fplus :=
  has_mk (j := 3) FN gn scplus (fun cdv A outer s H E f hr =>
    (dss_cons (ds_drop (by exact (de_fun h_check_both rfl hr (by decide) rfl (dl_cons (de_var 0) (dl_cons (de_var 1) dl_nil)) (ln_cons (ln_cons ln0))))) (dss_one (ds_ret (by exact (de_fun h_reduced rfl hr (by decide) rfl (dl_cons (by exact (de_op op_addA od_add (by exact (de_op op_mulA od_mul (by exact (de_ix ix_seq od_ix (de_var 0) de_int)) (by exact (de_ix ix_seq od_ix (de_var 1) de_int)))) (by exact (de_op op_mulA od_mul (by exact (de_ix ix_seq od_ix (de_var 1) de_int)) (by exact (de_ix ix_seq od_ix (de_var 0) de_int)))))) (dl_cons (by exact (de_op op_mulA od_mul (by exact (de_ix ix_seq od_ix (de_var 0) de_int)) (by exact (de_ix ix_seq od_ix (de_var 1) de_int)))) dl_nil)) (ln_cons (ln_cons ln0)))))))) (FN.binds fun _ _ _ _ _ _ us hl => match us, hl with | [_, _], _ => rfl) (fun q hq => by simp at hq)
abbrev sminus : Stmt := topS 14
theorem scminus : FnScope ["one", "other"] ["one", "other"] (defScope sminus) := ⟨rfl, rfl, rfl, by decide +kernel, rfl, by decide +kernel, by decide +kernel⟩
def mminus : MS := sSeq (sDrop (eCall F_check_both (lCons (eV true 0) (lCons (eV true 1) (lNil))))) (sRet (eCall F_reduced (lCons (e2 fSub (e2 fMul (e2 fIx (eV false 0) (eK (.int 0))) (e2 fIx (eV false 1) (eK (.int 1)))) (e2 fMul (e2 fIx (eV false 1) (eK (.int 0))) (e2 fIx (eV false 0) (eK (.int 1))))) (lCons (e2 fMul (e2 fIx (eV false 0) (eK (.int 1))) (e2 fIx (eV false 1) (eK (.int 1)))) (lNil)))))
def Fminus : DF := runD 2 mminus
theorem okminus (T : Tx mg) (h_check_both : Has P w k mg base "_check_both" 3 ["one", "other"] [] F_check_both) (h_reduced : Has P w k mg base "_reduced" 1 ["top", "bottom"] [] F_reduced) {fa : Addr} {fd : FuncData} (FN : Fun k.K "minus" "minus" sminus fa fd) (gn : mg "minus" = some (.ref fa)) : Has P w k mg base "minus" 4 ["one", "other"] [] Fminus :=
  has_mk (j := 3) FN gn scminus (fun cdv A outer s H E f hr =>
    (dss_cons (ds_drop (by exact (de_fun h_check_both rfl hr (by decide) rfl (dl_cons (de_var 0) (dl_cons (de_var 1) dl_nil)) (ln_cons (ln_cons ln0))))) (dss_one (ds_ret (by exact (de_fun h_reduced rfl hr (by decide) rfl (dl_cons (by exact (de_op op_sub od_sub (by exact (de_op op_mulA od_mul (by exact (de_ix ix_seq od_ix (de_var 0) de_int)) (by exact (de_ix ix_seq od_ix (de_var 1) de_int)))) (by exact (de_op op_mulA od_mul (by exact (de_ix ix_seq od_ix (de_var 1) de_int)) (by exact (de_ix ix_seq od_ix (de_var 0) de_int)))))) (dl_cons (by exact (de_op op_mulA od_mul (by exact (de_ix ix_seq od_ix (de_var 0) de_int)) (by exact (de_ix ix_seq od_ix (de_var 1) de_int)))) dl_nil)) (ln_cons (ln_cons ln0)))))))) (FN.binds fun _ _ _ _ _ _ us hl => match us, hl with | [_, _], _ => rfl) (fun q hq => by simp at hq)
abbrev stimes : Stmt := topS 15
theorem sctimes : FnScope ["one", "other"] ["one", "other"] (defScope stimes) := ⟨rfl, rfl, rfl, by decide +kernel, rfl, by decide +kernel, by decide +kernel⟩
def mtimes : MS := sSeq (sDrop (eCall F_check_both (lCons (eV true 0) (lCons (eV true 1) (lNil))))) (sRet (eCall F_reduced (lCons (e2 fMul (e2 fIx (eV false 0) (eK (.int 0))) (e2 fIx (eV false 1) (eK (.int 0)))) (lCons (e2 fMul (e2 fIx (eV false 0) (eK (.int 1))) (e2 fIx (eV false 1) (eK (.int 1)))) (lNil)))))
def Ftimes : DF := runD 2 mtimes
theorem oktimes (T : Tx mg) (h_check_both : Has P w k mg base "_check_both" 3 ["one", "other"] [] F_check_both) (h_reduced : Has P w k mg base "_reduced" 1 ["top", "bottom"] [] F_reduced) {fa : Addr} {fd : FuncData} (FN : Fun k.K "times" "times" stimes fa fd) (gn : mg "times" = some (.ref fa)) : Has P w k mg base "times" 4 ["one", "other"] [] Ftimes :=
  has_mk (j := 3) FN gn sctimes (fun cdv A outer s H E f hr =>
    (dss_cons (ds_drop (by exact (de_fun h_check_both rfl hr (by decide) rfl (dl_cons (de_var 0) (dl_cons (de_var 1) dl_nil)) (ln_cons (ln_cons ln0))))) (dss_one (ds_ret (by exact (de_fun h_reduced rfl hr (by decide) rfl (dl_cons (by exact (de_op op_mulA od_mul (by exact (de_ix ix_seq od_ix (de_var 0) de_int)) (by exact (de_ix ix_seq od_ix (de_var 1) de_int)))) (dl_cons (by exact (de_op op_mulA od_mul (by exact (de_ix ix_seq od_ix (de_var 0) de_int)) (by exact (de_ix ix_seq od_ix (de_var 1) de_int)))) dl_nil)) (ln_cons (ln_cons ln0)))))))) (FN.binds fun _ _ _ _ _ _ us hl => match us, hl with | [_, _], _ => rfl) (fun q hq => by simp at hq)
abbrev sover : Stmt := topS 16
theorem scover : FnScope ["one", "other"] ["one", "other"] (defScope sover) := ⟨rfl, rfl, rfl, by decide +kernel, rfl, by decide +kernel, by decide +kernel⟩
def mover : MS := sSeq (sDrop (eCall F_check_both (lCons (eV true 0) (lCons (eV true 1) (lNil))))) (sSeq (sIf (mB (e2 fEq (e2 fIx (eV false 1) (eK (.int 0))) (eK (.int 0)))) (sNo) (sNx)) (sRet (eCall F_reduced (lCons (e2 fMul (e2 fIx (eV false 0) (eK (.int 0))) (e2 fIx (eV false 1) (eK (.int 1)))) (lCons (e2 fMul (e2 fIx (eV false 0) (eK (.int 1))) (e2 fIx (eV false 1) (eK (.int 0)))) (lNil))))))
def Fover : DF := runD 2 mover
theorem okover (T : Tx mg) (h_check_both : Has P w k mg base "_check_both" 3 ["one", "other"] [] F_check_both) (h_reduced : Has P w k mg base "_reduced" 1 ["top", "bottom"] [] F_reduced) {fa : Addr} {fd : FuncData} (FN : Fun k.K "over" "over" sover fa fd) (gn : mg "over" = some (.ref fa)) : Has P w k mg base "over" 4 ["one", "other"] [] Fover :=
  has_mk (j := 3) FN gn scover (fun cdv A outer s H E f hr =>
    (dss_cons (ds_drop (by exact (de_fun h_check_both rfl hr (by decide) rfl (dl_cons (de_var 0) (dl_cons (de_var 1) dl_nil)) (ln_cons (ln_cons ln0))))) (dss_cons (ds_if (by exact (dt_cmp (op_eqD hr.units) od_eq (by exact (de_ix ix_seq od_ix (de_var 1) de_int)) de_int (nomark _))) (dss_one ds_no) dss_nil) (dss_one (ds_ret (by exact (de_fun h_reduced rfl hr (by decide) rfl (dl_cons (by exact (de_op op_mulA od_mul (by exact (de_ix ix_seq od_ix (de_var 0) de_int)) (by exact (de_ix ix_seq od_ix (de_var 1) de_int)))) (dl_cons (by exact (de_op op_mulA od_mul (by exact (de_ix ix_seq od_ix (de_var 0) de_int)) (by exact (de_ix ix_seq od_ix (de_var 1) de_int)))) dl_nil)) (ln_cons (ln_cons ln0))))))))) (FN.binds fun _ _ _ _ _ _ us hl => match us, hl with | [_, _], _ => rfl) (fun q hq => by simp at hq)
abbrev sbelow : Stmt := topS 17
theorem scbelow : FnScope ["one", "other"] ["one", "other"] (defScope sbelow) := ⟨rfl, rfl, rfl, by decide +kernel, rfl, by decide +kernel, by decide +kernel⟩
def mbelow : MS := sSeq (sDrop (eCall F_check_both (lCons (eV true 0) (lCons (eV true 1) (lNil))))) (sRet (e2 fLt (e2 fMul (e2 fIx (eV false 0) (eK (.int 0))) (e2 fIx (eV false 1) (eK (.int 1)))) (e2 fMul (e2 fIx (eV false 1) (eK (.int 0))) (e2 fIx (eV false 0) (eK (.int 1))))))
def Fbelow : DF := runD 2 mbelow
theorem okbelow (T : Tx mg) (h_check_both : Has P w k mg base "_check_both" 3 ["one", "other"] [] F_check_both) {fa : Addr} {fd : FuncData} (FN : Fun k.K "below" "below" sbelow fa fd) (gn : mg "below" = some (.ref fa)) : Has P w k mg base "below" 4 ["one", "other"] [] Fbelow :=
  has_mk (j := 3) FN gn scbelow (fun cdv A outer s H E f hr =>
    (dss_cons (ds_drop (by exact (de_fun h_check_both rfl hr (by decide) rfl (dl_cons (de_var 0) (dl_cons (de_var 1) dl_nil)) (ln_cons (ln_cons ln0))))) (dss_one (ds_ret (by exact (de_cmp op_lt od_lt (by exact (de_op op_mulA od_mul (by exact (de_ix ix_seq od_ix (de_var 0) de_int)) (by exact (de_ix ix_seq od_ix (de_var 1) de_int)))) (by exact (de_op op_mulA od_mul (by exact (de_ix ix_seq od_ix (de_var 1) de_int)) (by exact (de_ix ix_seq od_ix (de_var 0) de_int)))) (nomark _))))))) (FN.binds fun _ _ _ _ _ _ us hl => match us, hl with | [_, _], _ => rfl) (fun q hq => by simp at hq)
abbrev spower_of_ten : Stmt := topS 18
theorem scpower_of_ten : FnScope ["exponent", "power", "square"] ["exponent"] (defScope spower_of_ten) := ⟨rfl, rfl, rfl, by decide +kernel, rfl, by decide +kernel, by decide +kernel⟩
def mpower_of_ten : MS := sSeq (sSet 1 (eK (.int 1))) (sSeq (sSet 2 (eK (.int 10))) (sSeq (sWhile (fuI 0) (mB (e2 fGt (eV false 0) (eK (.int 0)))) (sSeq (sIf (mB (e2 fEq (e2 fMod (eV false 0) (eK (.int 2))) (eK (.int 1)))) (sSet 1 (e2 fMul (eV true 1) (eV true 2))) (sNx)) (sSeq (sSet 2 (e2 fMul (eV true 2) (eV true 2))) (sSet 0 (e2 fDiv (eV true 0) (eK (.int 2))))))) (sRet (eV false 1))))
def Fpower_of_ten : DF := runD 3 mpower_of_ten
theorem okpower_of_ten (T : Tx mg)  {fa : Addr} {fd : FuncData} (FN : Fun k.K "power_of_ten" "power_of_ten" spower_of_ten fa fd) (gn : mg "power_of_ten" = some (.ref fa)) : Has P w k mg base "power_of_ten" 1 ["exponent"] [] Fpower_of_ten :=
  has_mk (j := 0) FN gn scpower_of_ten (fun cdv A outer s H E f hr =>
    (dss_cons (ds_set (i := 1) scpower_of_ten.nd rfl (.inl rfl) de_int) (dss_cons (ds_set (i := 2) scpower_of_ten.nd rfl (.inl rfl) de_int) (dss_cons (ds_while (fu := fuI 0) PassesOwn.never (by exact (dt_cmp op_gt od_gt (de_var 0) de_int (nomark _))) (dss_cons (ds_if (by exact (dt_cmp (op_eqD hr.units) od_eq (by exact (de_op op_mod od_mod (de_var 0) de_int)) de_int (nomark _))) (dss_one (ds_set (i := 1) scpower_of_ten.nd rfl (.inl rfl) (by exact (de_op op_mulA od_mul (de_var 1) (de_var 2))))) dss_nil) (dss_cons (ds_set (i := 2) scpower_of_ten.nd rfl (.inl rfl) (by exact (de_op op_mulA od_mul (de_var 2) (de_var 2)))) (dss_one (ds_set (i := 0) scpower_of_ten.nd rfl (.inl rfl) (by exact (de_op op_fdivZ od_div (de_var 0) de_int))))))) (dss_one (ds_ret (de_var 1))))))) (FN.binds fun _ _ _ _ _ _ us hl => match us, hl with | [_], _ => rfl) (fun q hq => by simp at hq)
abbrev s_check_fractions : Stmt := topS 28
theorem sc_check_fractions : FnScope ["values", "value"] ["values"] (defScope s_check_fractions) := ⟨rfl, rfl, rfl, by decide +kernel, rfl, by decide +kernel, by decide +kernel⟩
def m_check_fractions : MS := sIf (mNot (mTru (eAllG (.one 1) (iOfT (eV true 0)) (eCall Fis_fraction (lCons (eV false 1) (lNil))) [1]))) (sNo) (sNx)
def F_check_fractions : DF := runD 2 m_check_fractions
theorem ok_check_fractions (T : Tx mg) (his_fraction : Has P w k mg base "is_fraction" 2 ["value"] [] Fis_fraction) {fa c Pt : Addr} {fd : FuncData} (FC : FunC k.K "_check_fractions" "_check_fractions" s_check_fractions fa fd c) (gn : mg "_check_fractions" = some (.ref fa)) (hPT : Pt ∈ k.T) (TB : GxR.TabB base mg c Pt) : Has P w k mg base "_check_fractions" 4 ["values"] [] F_check_fractions := by
  have FN := FC.fn
  exact has_mkC (j := 3) FC gn sc_check_fractions (fun A outer s H E f hr =>
    (dss_one (ds_if (by exact (dt_not (by exact (dt_tru (sm := false) rfl (by exact (de_allG (own := [("value", 1)]) hPT hr rfl sc_check_fractions.nd rfl T.m_all TB rfl ⟨rfl, rfl, by decide +kernel, rfl⟩ (by exact blkOk_by (own := [("value", 1)]) (by show blkC ["values", "value"] (defScope s_check_fractions) _ _ = true; decide +kernel)) (by exact (di_tup rfl (de_var 0))) (fun _ _ _ _ _ _ hsc => by exact (dg_name (i := 1) sc_check_fractions.nd rfl (.inl (by exact (congrArg (fun z : Scope => z.names.lookup ("value" : Str)) hsc).trans rfl)) (.inr (by exact (congrArg (fun z : Scope => z.names.lookup ("value" : Str)) hsc).trans rfl)))) (fun _ _ _ _ _ _ _ _ hR => (by exact (de_fun his_fraction rfl hR (by decide) rfl (dl_cons (de_var 1) dl_nil) (ln_cons ln0)))))))))) (dss_one ds_no) dss_nil))) (FN.binds fun _ _ _ _ _ _ us hl => match us, hl with | [_], _ => rfl) (fun q hq => by simp at hq)
abbrev s_check_ends : Stmt := topS 30
theorem sc_check_ends : FnScope ["low", "high"] ["low", "high"] (defScope s_check_ends) := ⟨rfl, rfl, rfl, by decide +kernel, rfl, by decide +kernel, by decide +kernel⟩
def m_check_ends : MS := sIf (mNot (mTru (eCall Fbelow (lCons (eV false 0) (lCons (eV false 1) (lNil)))))) (sNo) (sNx)
def F_check_ends : DF := runD 2 m_check_ends
theorem ok_check_ends (T : Tx mg) (hbelow : Has P w k mg base "below" 4 ["one", "other"] [] Fbelow) {fa : Addr} {fd : FuncData} (FN : Fun k.K "_check_ends" "_check_ends" s_check_ends fa fd) (gn : mg "_check_ends" = some (.ref fa)) : Has P w k mg base "_check_ends" 5 ["low", "high"] [] F_check_ends :=
  has_mk (j := 4) FN gn sc_check_ends (fun cdv A outer s H E f hr =>
    (dss_one (ds_if (by exact (dt_not (by exact (dt_tru (sm := false) rfl (by exact (de_fun hbelow rfl hr (by decide) rfl (dl_cons (de_var 0) (dl_cons (de_var 1) dl_nil)) (ln_cons (ln_cons ln0)))))))) (dss_one ds_no) dss_nil))) (FN.binds fun _ _ _ _ _ _ us hl => match us, hl with | [_, _], _ => rfl) (fun q hq => by simp at hq)
abbrev s_exponent_near : Stmt := topS 32
theorem sc_exponent_near : FnScope ["length", "bits", "top", "bottom"] ["length"] (defScope s_exponent_near) := ⟨rfl, rfl, rfl, by decide +kernel, rfl, by decide +kernel, by decide +kernel⟩
def m_exponent_near : MS := sSeq (sAsg (.many [2, 3]) (eV true 0)) (sSeq (sSet 1 (e2 fSub (e1 fBitL (eV true 2)) (e1 fBitL (eV true 3)))) (sRet (e2 fDiv (e2 fMul (eV false 1) (eK (.int 30103))) (eK (.int 100000)))))
def F_exponent_near : DF := runD 4 m_exponent_near
theorem ok_exponent_near (T : Tx mg)  {fa : Addr} {fd : FuncData} (FN : Fun k.K "_exponent_near" "_exponent_near" s_exponent_near fa fd) (gn : mg "_exponent_near" = some (.ref fa)) : Has P w k mg base "_exponent_near" 1 ["length"] [] F_exponent_near :=
  has_mk (j := 0) FN gn sc_exponent_near (fun cdv A outer s H E f hr =>
    (dss_cons (ds_asg (de_var 0) (dg_tup (is := [2, 3]) rfl rfl (pgs_cons (pg_name (i := 2) sc_exponent_near.nd rfl (.inl rfl)) (pgs_cons (pg_name (i := 3) sc_exponent_near.nd rfl (.inl rfl)) pgs_nil)))) (dss_cons (ds_set (i := 1) sc_exponent_near.nd rfl (.inl rfl) (by exact (de_op op_sub od_sub (by exact (de_bits (pe_bits (de_var 2)))) (by exact (de_bits (pe_bits (de_var 3))))))) (dss_one (ds_ret (by exact (de_op op_fdivZ od_div (by exact (de_op op_mulA od_mul (de_var 1) de_int)) de_int))))))) (FN.binds fun _ _ _ _ _ _ us hl => match us, hl with | [_], _ => rfl) (fun q hq => by simp at hq)
abbrev s_step : Stmt := topS 33
theorem sc_step : FnScope ["digit", "exponent"] ["digit", "exponent"] (defScope s_step) := ⟨rfl, rfl, rfl, by decide +kernel, rfl, by decide +kernel, by decide +kernel⟩
def m_step : MS := sSeq (sIf (mB (e2 fLt (eV false 1) (eK (.int 0)))) (sRet (eCall Ffraction (lCons (eV false 0) (lCons (eCall Fpower_of_ten (lCons (e1 fNeg (eV false 1)) (lNil))) (lNil))))) (sNx)) (sRet (eTup (lCons (e2 fMul (eV false 0) (eCall Fpower_of_ten (lCons (eV false 1) (lNil)))) (lCons (eK (.int 1)) (lNil)))))
def F_step : DF := runD 2 m_step
theorem ok_step (T : Tx mg) (hfraction : Has P w k mg base "fraction" 2 ["top", "bottom"] [] Ffraction) (hpower_of_ten : Has P w k mg base "power_of_ten" 1 ["exponent"] [] Fpower_of_ten) {fa : Addr} {fd : FuncData} (FN : Fun k.K "_step" "_step" s_step fa fd) (gn : mg "_step" = some (.ref fa)) : Has P w k mg base "_step" 3 ["digit", "exponent"] [] F_step :=
  has_mk (j := 2) FN gn sc_step (fun cdv A outer s H E f hr =>
    (dss_cons (ds_if (by exact (dt_cmp op_lt od_lt (de_var 1) de_int (nomark _))) (dss_one (ds_ret (by exact (de_fun hfraction rfl hr (by decide) rfl (dl_cons (de_var 0) (dl_cons (by exact (de_fun hpower_of_ten rfl hr (by decide) rfl (dl_cons (by exact (de_un un_neg ud_neg (de_var 1))) dl_nil) (ln_cons ln0))) dl_nil)) (ln_cons (ln_cons ln0)))))) dss_nil) (dss_one (ds_ret (by exact (de_tup (dl_cons (by exact (de_op op_mulA od_mul (de_var 0) (by exact (de_fun hpower_of_ten rfl hr (by decide) rfl (dl_cons (de_var 1) dl_nil) (ln_cons ln0))))) (dl_cons de_int dl_nil)))))))) (FN.binds fun _ _ _ _ _ _ us hl => match us, hl with | [_, _], _ => rfl) (fun q hq => by simp at hq)
abbrev s_floor_over : Stmt := topS 34
theorem sc_floor_over : FnScope ["number", "step"] ["number", "step"] (defScope s_floor_over) := ⟨rfl, rfl, rfl, by decide +kernel, rfl, by decide +kernel, by decide +kernel⟩
def m_floor_over : MS := sRet (e2 fDiv (e2 fMul (e2 fIx (eV false 0) (eK (.int 0))) (e2 fIx (eV false 1) (eK (.int 1)))) (e2 fMul (e2 fIx (eV false 0) (eK (.int 1))) (e2 fIx (eV false 1) (eK (.int 0)))))
def F_floor_over : DF := runD 2 m_floor_over
theorem ok_floor_over (T : Tx mg)  {fa : Addr} {fd : FuncData} (FN : Fun k.K "_floor_over" "_floor_over" s_floor_over fa fd) (gn : mg "_floor_over" = some (.ref fa)) : Has P w k mg base "_floor_over" 1 ["number", "step"] [] F_floor_over :=
  has_mk (j := 0) FN gn sc_floor_over (fun cdv A outer s H E f hr =>
    (dss_one (ds_ret (by exact (de_op op_fdivZ od_div (by exact (de_op op_mulA od_mul (by exact (de_ix ix_seq od_ix (de_var 0) de_int)) (by exact (de_ix ix_seq od_ix (de_var 1) de_int)))) (by exact (de_op op_mulA od_mul (by exact (de_ix ix_seq od_ix (de_var 0) de_int)) (by exact (de_ix ix_seq od_ix (de_var 1) de_int))))))))) (FN.binds fun _ _ _ _ _ _ us hl => match us, hl with | [_, _], _ => rfl) (fun q hq => by simp at hq)
abbrev s_steps : Stmt := topS 31
theorem sc_steps : FnScope ["low", "high", "middle", "found", "exponent", "digit", "step", "first", "count"] ["low", "high"] (defScope s_steps) := ⟨rfl, rfl, rfl, by decide +kernel, rfl, by decide +kernel, by decide +kernel⟩
def m_steps : MS := sSeq (sSet 2 (eCall F_exponent_near (lCons (eCall Fminus (lCons (eV true 1) (lCons (eV true 0) (lNil)))) (lNil)))) (sSeq (sOwn 3 (nLst (lNil))) (sSeq (sFor (.one 4) (iRg2 (lCons (e2 fSub (eV true 2) (eK (.int 2))) (lCons (e2 fAdd (eV true 2) (eK (.int 2))) (lNil)))) (sFor (.one 5) (iOfT (eTup (lCons (eK (.int 1)) (lCons (eK (.int 2)) (lCons (eK (.int 5)) (lNil)))))) (sSeq (sSet 6 (eCall F_step (lCons (eV true 5) (lCons (eV true 4) (lNil))))) (sSeq (sSet 7 (e1 fNeg (eCall F_floor_over (lCons (eCall Fminus (lCons (eTup (lCons (eK (.int 0)) (lCons (eK (.int 1)) (lNil)))) (lCons (eV true 0) (lNil)))) (lCons (eV true 6) (lNil)))))) (sSeq (sSet 8 (e2 fAdd (e2 fSub (eCall F_floor_over (lCons (eV true 1) (lCons (eV true 6) (lNil)))) (eV true 7)) (eK (.int 1)))) (sIf (mB (eCh fLe fLe (eK (.int 2)) (eV false 8) (eK (.int 10)))) (sApp 3 (eTup (lCons (eV true 6) (lCons (eV true 7) (lCons (eV true 8) (lNil)))))) (sNx))))))) (sRet (eV false 3))))
def F_steps : DF := runD 9 m_steps
theorem ok_steps (T : Tx mg) (h_exponent_near : Has P w k mg base "_exponent_near" 1 ["length"] [] F_exponent_near) (hminus : Has P w k mg base "minus" 4 ["one", "other"] [] Fminus) (h_step : Has P w k mg base "_step" 3 ["digit", "exponent"] [] F_step) (h_floor_over : Has P w k mg base "_floor_over" 1 ["number", "step"] [] F_floor_over) {fa : Addr} {fd : FuncData} (FN : Fun k.K "_steps" "_steps" s_steps fa fd) (gn : mg "_steps" = some (.ref fa)) : Has P w k mg base "_steps" 5 ["low", "high"] [] F_steps :=
  has_mk (j := 4) FN gn sc_steps (fun cdv A outer s H E f hr =>
    (dss_cons (ds_set (i := 2) sc_steps.nd rfl (.inl rfl) (by exact (de_fun h_exponent_near rfl hr (by decide) rfl (dl_cons (by exact (de_fun hminus rfl hr (by decide) rfl (dl_cons (de_var 1) (dl_cons (de_var 0) dl_nil)) (ln_cons (ln_cons ln0)))) dl_nil) (ln_cons ln0)))) (dss_cons (ds_own (i := 3) sc_steps.nd rfl (.inl rfl) (by exact (dn_lst dl_nil))) (dss_cons (ds_for PassesOwn.never rfl (by exact (di_rg2 rfl T.m_range (dl_cons (by exact (de_op op_sub od_sub (de_var 2) de_int)) (dl_cons (by exact (de_op op_addA od_add (de_var 2) de_int)) dl_nil)))) (dg_name (i := 4) sc_steps.nd rfl (.inl rfl)) fun _ => (dss_one (ds_for PassesOwn.never rfl (by exact (di_tup rfl (by exact (de_tup (dl_cons de_int (dl_cons de_int (dl_cons de_int dl_nil))))))) (dg_name (i := 5) sc_steps.nd rfl (.inl rfl)) fun _ => (dss_cons (ds_set (i := 6) sc_steps.nd rfl (.inl rfl) (by exact (de_fun h_step rfl hr (by decide) rfl (dl_cons (de_var 5) (dl_cons (de_var 4) dl_nil)) (ln_cons (ln_cons ln0))))) (dss_cons (ds_set (i := 7) sc_steps.nd rfl (.inl rfl) (by exact (de_un un_neg ud_neg (by exact (de_fun h_floor_over rfl hr (by decide) rfl (dl_cons (by exact (de_fun hminus rfl hr (by decide) rfl (dl_cons (by exact (de_tup (dl_cons de_int (dl_cons de_int dl_nil)))) (dl_cons (de_var 0) dl_nil)) (ln_cons (ln_cons ln0)))) (dl_cons (de_var 6) dl_nil)) (ln_cons (ln_cons ln0))))))) (dss_cons (ds_set (i := 8) sc_steps.nd rfl (.inl rfl) (by exact (de_op op_addA od_add (by exact (de_op op_sub od_sub (by exact (de_fun h_floor_over rfl hr (by decide) rfl (dl_cons (de_var 1) (dl_cons (de_var 6) dl_nil)) (ln_cons (ln_cons ln0)))) (de_var 7))) de_int))) (dss_one (ds_if (by exact (dt_chain op_le od_le op_le od_le (by exact (de_globI rfl T.c_FEWEST_VALUES)) (de_var 8) (by exact (de_globI rfl T.c_MOST_VALUES)))) (dss_one (ds_app (i := 3) rfl (by exact (de_tup (dl_cons (de_var 6) (dl_cons (de_var 7) (dl_cons (de_var 8) dl_nil))))) (hm := pe_bm PySem.F.plainAttrs_list PySem.F.slot_list_append PySem.F.type_list_append mt_append (pv 3) (pa_cons (by exact (de_tup (dl_cons (de_var 6) (dl_cons (de_var 7) (dl_cons (de_var 8) dl_nil))))) pa_nil)))) dss_nil)))))))) (dss_one (ds_ret (de_var 3))))))) (FN.binds fun _ _ _ _ _ _ us hl => match us, hl with | [_, _], _ => rfl) (fun q hq => by simp at hq)
abbrev ssteps_within : Stmt := topS 24
theorem scsteps_within : FnScope ["low", "high", "step", "_"] ["low", "high"] (defScope ssteps_within) := ⟨rfl, rfl, rfl, by decide +kernel, rfl, by decide +kernel, by decide +kernel⟩
def msteps_within : MS := sSeq (sDrop (eCall F_check_fractions (lCons (eTup (lCons (eV true 0) (lCons (eV true 1) (lNil)))) (lNil)))) (sSeq (sDrop (eCall F_check_ends (lCons (eV true 0) (lCons (eV true 1) (lNil))))) (sRet (eF fTuple (lCons (eN (nLc (.many [2, 3, 3]) (iOf (eCall F_steps (lCons (eV true 0) (lCons (eV true 1) (lNil))))) (mYes) (eV false 2) [2, 3, 3])) (lNil)))))
def Fsteps_within : DF := runD 4 msteps_within
theorem oksteps_within (T : Tx mg) (h_check_fractions : Has P w k mg base "_check_fractions" 4 ["values"] [] F_check_fractions) (h_check_ends : Has P w k mg base "_check_ends" 5 ["low", "high"] [] F_check_ends) (h_steps : Has P w k mg base "_steps" 5 ["low", "high"] [] F_steps) {fa : Addr} {fd : FuncData} (FN : Fun k.K "steps_within" "steps_within" ssteps_within fa fd) (gn : mg "steps_within" = some (.ref fa)) : Has P w k mg base "steps_within" 6 ["low", "high"] [] Fsteps_within :=
  has_mk (j := 5) FN gn scsteps_within (fun cdv A outer s H E f hr =>
    (dss_cons (ds_drop (by exact (de_fun h_check_fractions rfl hr (by decide) rfl (dl_cons (by exact (de_tup (dl_cons (de_var 0) (dl_cons (de_var 1) dl_nil)))) dl_nil) (ln_cons ln0)))) (dss_cons (ds_drop (by exact (de_fun h_check_ends rfl hr (by decide) rfl (dl_cons (de_var 0) (dl_cons (de_var 1) dl_nil)) (ln_cons (ln_cons ln0))))) (dss_one (ds_ret (by exact (de_callTy call_tuple_of cd_tuple rfl T.m_tuple (by decide +kernel) (dl_cons (by exact (de_n (by exact (dn_lc (own := [("step", 2), ("_", 3), ("_", 3)]) rfl scsteps_within.nd (by exact (di_list rfl (by exact (de_fun h_steps rfl hr (by decide) rfl (dl_cons (de_var 0) (dl_cons (de_var 1) dl_nil)) (ln_cons (ln_cons ln0)))))) (by exact blkOk_by (own := [("step", 2), ("_", 3), ("_", 3)]) (by show blkC ["low", "high", "step", "_"] (defScope ssteps_within) _ _ = true; decide +kernel)) (fun _ _ _ _ _ _ => (dg_tup (is := [2, 3, 3]) rfl rfl (pgs_cons (pg_name (i := 2) scsteps_within.nd rfl (.inl rfl)) (pgs_cons (pg_name (i := 3) scsteps_within.nd rfl (.inl rfl)) (pgs_cons (pg_name (i := 3) scsteps_within.nd rfl (.inl rfl)) pgs_nil))))) (fun _ _ _ _ _ => pts_y) (fun _ _ _ _ _ _ => (de_var 2)))))) dl_nil)))))))) (FN.binds fun _ _ _ _ _ _ us hl => match us, hl with | [_, _], _ => rfl) (fun q hq => by simp at hq)
abbrev s_distance : Stmt := topS 35
theorem sc_distance : FnScope ["told", "wished", "_", "count"] ["told", "wished"] (defScope s_distance) := ⟨rfl, rfl, rfl, by decide +kernel, rfl, by decide +kernel, by decide +kernel⟩
def m_distance : MS := sSeq (sAsg (.many [2, 2, 3]) (eV true 0)) (sRet (eF fAbs (lCons (e2 fSub (eV false 3) (eV false 1)) (lNil))))
def F_distance : DF := runD 4 m_distance
theorem ok_distance (T : Tx mg)  {fa : Addr} {fd : FuncData} (FN : Fun k.K "_distance" "_distance" s_distance fa fd) (gn : mg "_distance" = some (.ref fa)) : Has P w k mg base "_distance" 1 ["told", "wished"] [] F_distance :=
  has_mk (j := 0) FN gn sc_distance (fun cdv A outer s H E f hr =>
    (dss_cons (ds_asg (de_var 0) (dg_tup (is := [2, 2, 3]) rfl rfl (pgs_cons (pg_name (i := 2) sc_distance.nd rfl (.inl rfl)) (pgs_cons (pg_name (i := 2) sc_distance.nd rfl (.inl rfl)) (pgs_cons (pg_name (i := 3) sc_distance.nd rfl (.inl rfl)) pgs_nil))))) (dss_one (ds_ret (by exact (de_callB call_abs cd_abs rfl T.m_abs (by decide +kernel) (dl_cons (by exact (de_op op_sub od_sub (de_var 3) (de_var 1))) dl_nil))))))) (FN.binds fun _ _ _ _ _ _ us hl => match us, hl with | [_, _], _ => rfl) (fun q hq => by simp at hq)
abbrev sticks : Stmt := topS 25
theorem scticks : FnScope ["low", "high", "wished", "steps", "best", "told", "step", "first", "count", "k"] ["low", "high", "wished"] (defScope sticks) := ⟨rfl, rfl, rfl, by decide +kernel, rfl, by decide +kernel, by decide +kernel⟩
def mticks : MS := sSeq (sDrop (eCall F_check_fractions (lCons (eTup (lCons (eV true 0) (lCons (eV true 1) (lNil)))) (lNil)))) (sSeq (sIf (mNot (mTru (eCall Fis_between (lCons (eV false 2) (lCons (eK (.int 2)) (lCons (eK (.int 10)) (lNil))))))) (sNo) (sNx)) (sSeq (sDrop (eCall F_check_ends (lCons (eV true 0) (lCons (eV true 1) (lNil))))) (sSeq (sSet 3 (eCall F_steps (lCons (eV true 0) (lCons (eV true 1) (lNil))))) (sSeq (sSet 4 (e2 fIx (eV true 3) (eK (.int 0)))) (sSeq (sFor (.one 5) (iOf (eV true 3)) (sIf (mB (e2 fLe (eCall F_distance (lCons (eV false 5) (lCons (eV false 2) (lNil)))) (eCall F_distance (lCons (eV false 4) (lCons (eV false 2) (lNil)))))) (sSet 4 (eV true 5)) (sNx))) (sSeq (sAsg (.many [6, 7, 8]) (eV true 4)) (sRet (eTup (lCons (eV false 6) (lCons (eF fTuple (lCons (eN (nLc (.one 9) (iRg1 (lCons (eV true 8) (lNil))) (mYes) (eCall Ftimes (lCons (eTup (lCons (e2 fAdd (eV false 7) (eV false 9)) (lCons (eK (.int 1)) (lNil)))) (lCons (eV false 6) (lNil)))) [9])) (lNil))) (lNil)))))))))))
def Fticks : DF := runD 10 mticks
theorem okticks (T : Tx mg) (h_check_fractions : Has P w k mg base "_check_fractions" 4 ["values"] [] F_check_fractions) (h_check_ends : Has P w k mg base "_check_ends" 5 ["low", "high"] [] F_check_ends) (h_steps : Has P w k mg base "_steps" 5 ["low", "high"] [] F_steps) (his_between : Has P w k mg base "is_between" 1 ["value", "low", "high"] [] Fis_between) (h_distance : Has P w k mg base "_distance" 1 ["told", "wished"] [] F_distance) (htimes : Has P w k mg base "times" 4 ["one", "other"] [] Ftimes) {fa : Addr} {fd : FuncData} (FN : Fun k.K "ticks" "ticks" sticks fa fd) (gn : mg "ticks" = some (.ref fa)) : Has P w k mg base "ticks" 6 ["low", "high", "wished"] [] Fticks :=
  has_mk (j := 5) FN gn scticks (fun cdv A outer s H E f hr =>
    (dss_cons (ds_drop (by exact (de_fun h_check_fractions rfl hr (by decide) rfl (dl_cons (by exact (de_tup (dl_cons (de_var 0) (dl_cons (de_var 1) dl_nil)))) dl_nil) (ln_cons ln0)))) (dss_cons (ds_if (by exact (dt_not (by exact (dt_tru (sm := false) rfl (by exact (de_fun his_between rfl hr (by decide) rfl (dl_cons (de_var 2) (dl_cons (by exact (de_globI rfl T.c_FEWEST_VALUES)) (dl_cons (by exact (de_globI rfl T.c_MOST_VALUES)) dl_nil))) (ln_cons (ln_cons (ln_cons ln0))))))))) (dss_one ds_no) dss_nil) (dss_cons (ds_drop (by exact (de_fun h_check_ends rfl hr (by decide) rfl (dl_cons (de_var 0) (dl_cons (de_var 1) dl_nil)) (ln_cons (ln_cons ln0))))) (dss_cons (ds_set (i := 3) scticks.nd rfl (.inl rfl) (by exact (de_fun h_steps rfl hr (by decide) rfl (dl_cons (de_var 0) (dl_cons (de_var 1) dl_nil)) (ln_cons (ln_cons ln0))))) (dss_cons (ds_set (i := 4) scticks.nd rfl (.inl rfl) (by exact (de_ix ix_seq od_ix (de_var 3) de_int))) (dss_cons (ds_for PassesOwn.never rfl (by exact (di_list rfl (de_var 3))) (dg_name (i := 5) scticks.nd rfl (.inl rfl)) fun _ => (dss_one (ds_if (by exact (dt_cmp op_le od_le (by exact (de_fun h_distance rfl hr (by decide) rfl (dl_cons (de_var 5) (dl_cons (de_var 2) dl_nil)) (ln_cons (ln_cons ln0)))) (by exact (de_fun h_distance rfl hr (by decide) rfl (dl_cons (de_var 4) (dl_cons (de_var 2) dl_nil)) (ln_cons (ln_cons ln0)))) (nomark _))) (dss_one (ds_set (i := 4) scticks.nd rfl (.inl rfl) (de_var 5))) dss_nil))) (dss_cons (ds_asg (de_var 4) (dg_tup (is := [6, 7, 8]) rfl rfl (pgs_cons (pg_name (i := 6) scticks.nd rfl (.inr rfl)) (pgs_cons (pg_name (i := 7) scticks.nd rfl (.inr rfl)) (pgs_cons (pg_name (i := 8) scticks.nd rfl (.inl rfl)) pgs_nil))))) (dss_one (ds_ret (by exact (de_tup (dl_cons (de_var 6) (dl_cons (by exact (de_callTy call_tuple_of cd_tuple rfl T.m_tuple (by decide +kernel) (dl_cons (by exact (de_n (by exact (dn_lc (own := [("k", 9)]) rfl scticks.nd (by exact (di_rg1 rfl T.m_range (dl_cons (de_var 8) dl_nil))) (by exact blkOk_by (own := [("k", 9)]) (by show blkC ["low", "high", "wished", "steps", "best", "told", "step", "first", "count", "k"] (defScope sticks) _ _ = true; decide +kernel)) (fun _ _ _ _ _ _ => (dg_name (i := 9) scticks.nd rfl (.inl rfl))) (fun _ _ _ _ _ => pts_y) (fun _ _ _ _ _ _ => (by exact (de_fun htimes rfl hr (by decide) rfl (dl_cons (by exact (de_tup (dl_cons (by exact (de_op op_addA od_add (de_var 7) (de_var 9))) (dl_cons de_int dl_nil)))) (dl_cons (de_var 6) dl_nil)) (ln_cons (ln_cons ln0))))))))) dl_nil))) dl_nil)))))))))))))) (FN.binds fun _ _ _ _ _ _ us hl => match us, hl with | [_, _, _], _ => rfl) (fun q hq => by simp at hq)
abbrev s_check_numbers : Stmt := topS 29
theorem sc_check_numbers : FnScope ["numbers"] ["numbers"] (defScope s_check_numbers) := ⟨rfl, rfl, rfl, by decide +kernel, rfl, by decide +kernel, by decide +kernel⟩
def m_check_numbers : MS := sSeq (sIf (mOr (mB (eTyC true "tuple" (eV false 0))) (mNot (mTru (eV false 0)))) (sNo) (sNx)) (sDrop (eCall F_check_fractions (lCons (eV true 0) (lNil))))
def F_check_numbers : DF := runD 1 m_check_numbers
theorem ok_check_numbers (T : Tx mg) (h_check_fractions : Has P w k mg base "_check_fractions" 4 ["values"] [] F_check_fractions) {fa : Addr} {fd : FuncData} (FN : Fun k.K "_check_numbers" "_check_numbers" s_check_numbers fa fd) (gn : mg "_check_numbers" = some (.ref fa)) : Has P w k mg base "_check_numbers" 5 ["numbers"] [] F_check_numbers :=
  has_mk (j := 4) FN gn sc_check_numbers (fun cdv A outer s H E f hr =>
    (dss_cons (ds_if (by exact (PW.pt (dw_or (by exact (dt_tyNe (.inr (.inr (.inr (.inr (.inr rfl))))) rfl rfl T.m_type (tyname (T := "tuple") (x := "tuple") rfl T.m_tuple (by decide +kernel) (by decide) (by decide)) (de_var 0))) (dw_or1 (by exact (dt_not (by exact (dt_tru (sm := false) rfl (de_var 0))))))))) (dss_one ds_no) dss_nil) (dss_one (ds_drop (by exact (de_fun h_check_fractions rfl hr (by decide) rfl (dl_cons (de_var 0) dl_nil) (ln_cons ln0))))))) (FN.binds fun _ _ _ _ _ _ us hl => match us, hl with | [_], _ => rfl) (fun q hq => by simp at hq)
abbrev sspan_of : Stmt := topS 26
theorem scspan_of : FnScope ["numbers", "with_nought", "low", "high", "number"] ["numbers", "with_nought"] (defScope sspan_of) := ⟨rfl, rfl, rfl, by decide +kernel, rfl, by decide +kernel, by decide +kernel⟩
def mspan_of : MS := sSeq (sDrop (eCall F_check_numbers (lCons (eV true 0) (lNil)))) (sSeq (sIf (mB (eTyC true "bool" (eV false 1))) (sNo) (sNx)) (sSeq (sSet2 2 3 (eIf (mTru (eV false 1)) (eTup (lCons (eK (.int 0)) (lCons (eK (.int 1)) (lNil)))) (e2 fIx (eV true 0) (eK (.int 0))))) (sSeq (sFor (.one 4) (iOfT (eV true 0)) (sSeq (sSet 2 (eIf (mTru (eCall Fbelow (lCons (eV false 4) (lCons (eV false 2) (lNil))))) (eV true 4) (eV true 2))) (sSet 3 (eIf (mTru (eCall Fbelow (lCons (eV false 3) (lCons (eV false 4) (lNil))))) (eV true 4) (eV true 3))))) (sRet (eTup (lCons (eV false 2) (lCons (eIf (mB (e2 fEq (eV false 2) (eV false 3))) (eCall Fplus (lCons (eV false 2) (lCons (eTup (lCons (eK (.int 1)) (lCons (eK (.int 1)) (lNil)))) (lNil)))) (eV false 3)) (lNil))))))))
def Fspan_of : DF := runD 5 mspan_of
theorem okspan_of (T : Tx mg) (h_check_numbers : Has P w k mg base "_check_numbers" 5 ["numbers"] [] F_check_numbers) (hbelow : Has P w k mg base "below" 4 ["one", "other"] [] Fbelow) (hplus : Has P w k mg base "plus" 4 ["one", "other"] [] Fplus) {fa : Addr} {fd : FuncData} (FN : Fun k.K "span_of" "span_of" sspan_of fa fd) (gn : mg "span_of" = some (.ref fa)) : Has P w k mg base "span_of" 6 ["numbers", "with_nought"] [(["with_nought", "numbers"], [1, 0])] Fspan_of :=
  has_mk (j := 5) FN gn scspan_of (fun cdv A outer s H E f hr =>
    (dss_cons (ds_drop (by exact (de_fun h_check_numbers rfl hr (by decide) rfl (dl_cons (de_var 0) dl_nil) (ln_cons ln0)))) (dss_cons (ds_if (by exact (dt_tyNe (.inr (.inl rfl)) rfl rfl T.m_type (tyname (T := "bool") (x := "bool") rfl T.m_bool (by decide +kernel) (by decide) (by decide)) (de_var 1))) (dss_one ds_no) dss_nil) (dss_cons (ds_set2 (i := 2) (j := 3) scspan_of.nd rfl rfl (.inl rfl) (.inl rfl) (by exact (de_if (by exact (dt_tru (sm := false) rfl (de_var 1))) (by exact (de_tup (dl_cons de_int (dl_cons de_int dl_nil)))) (by exact (de_ix ix_seq od_ix (de_var 0) de_int))))) (dss_cons (ds_for PassesOwn.never rfl (by exact (di_tup rfl (de_var 0))) (dg_name (i := 4) scspan_of.nd rfl (.inl rfl)) fun _ => (dss_cons (ds_set (i := 2) scspan_of.nd rfl (.inl rfl) (by exact (de_if (by exact (dt_tru (sm := false) rfl (by exact (de_fun hbelow rfl hr (by decide) rfl (dl_cons (de_var 4) (dl_cons (de_var 2) dl_nil)) (ln_cons (ln_cons ln0)))))) (de_var 4) (de_var 2)))) (dss_one (ds_set (i := 3) scspan_of.nd rfl (.inl rfl) (by exact (de_if (by exact (dt_tru (sm := false) rfl (by exact (de_fun hbelow rfl hr (by decide) rfl (dl_cons (de_var 3) (dl_cons (de_var 4) dl_nil)) (ln_cons (ln_cons ln0)))))) (de_var 4) (de_var 3))))))) (dss_one (ds_ret (by exact (de_tup (dl_cons (de_var 2) (dl_cons (by exact (de_if (by exact (dt_cmp (op_eqD hr.units) od_eq (de_var 2) (de_var 3) (nomark _))) (by exact (de_fun hplus rfl hr (by decide) rfl (dl_cons (de_var 2) (dl_cons (by exact (de_tup (dl_cons de_int (dl_cons de_int dl_nil)))) dl_nil)) (ln_cons (ln_cons ln0)))) (de_var 3))) dl_nil))))))))))) (FN.binds fun _ _ _ _ _ _ us hl => match us, hl with | [_, _], _ => rfl) (fun q hq => by
    simp only [List.mem_cons, List.mem_nil_iff, or_false] at hq
    rcases hq with rfl
    · refine ⟨rfl, fun s ws _ hl => ?_⟩
      obtain ⟨oc, od, kV, dc, pm, an, cdv, ct, osl, rfl, _, _⟩ := FN.ex
      match ws, hl with
      | [_, _], _ => exact .of_eq rfl)
abbrev splaced : Stmt := topS 27
theorem scplaced : FnScope ["number", "low", "high"] ["number", "low", "high"] (defScope splaced) := ⟨rfl, rfl, rfl, by decide +kernel, rfl, by decide +kernel, by decide +kernel⟩
def mplaced : MS := sSeq (sDrop (eCall F_check_fractions (lCons (eTup (lCons (eV true 0) (lCons (eV true 1) (lCons (eV true 2) (lNil))))) (lNil)))) (sSeq (sDrop (eCall F_check_ends (lCons (eV true 1) (lCons (eV true 2) (lNil))))) (sRet (eCall Fover (lCons (eCall Ftimes (lCons (eTup (lCons (eK (.int 100)) (lCons (eK (.int 1)) (lNil)))) (lCons (eCall Fminus (lCons (eV false 0) (lCons (eV false 1) (lNil)))) (lNil)))) (lCons (eCall Fminus (lCons (eV false 2) (lCons (eV false 1) (lNil)))) (lNil))))))
def Fplaced : DF := runD 3 mplaced
theorem okplaced (T : Tx mg) (h_check_fractions : Has P w k mg base "_check_fractions" 4 ["values"] [] F_check_fractions) (h_check_ends : Has P w k mg base "_check_ends" 5 ["low", "high"] [] F_check_ends) (hover : Has P w k mg base "over" 4 ["one", "other"] [] Fover) (htimes : Has P w k mg base "times" 4 ["one", "other"] [] Ftimes) (hminus : Has P w k mg base "minus" 4 ["one", "other"] [] Fminus) {fa : Addr} {fd : FuncData} (FN : Fun k.K "placed" "placed" splaced fa fd) (gn : mg "placed" = some (.ref fa)) : Has P w k mg base "placed" 6 ["number", "low", "high"] [] Fplaced :=
  has_mk (j := 5) FN gn scplaced (fun cdv A outer s H E f hr =>
    (dss_cons (ds_drop (by exact (de_fun h_check_fractions rfl hr (by decide) rfl (dl_cons (by exact (de_tup (dl_cons (de_var 0) (dl_cons (de_var 1) (dl_cons (de_var 2) dl_nil))))) dl_nil) (ln_cons ln0)))) (dss_cons (ds_drop (by exact (de_fun h_check_ends rfl hr (by decide) rfl (dl_cons (de_var 1) (dl_cons (de_var 2) dl_nil)) (ln_cons (ln_cons ln0))))) (dss_one (ds_ret (by exact (de_fun hover rfl hr (by decide) rfl (dl_cons (by exact (de_fun htimes rfl hr (by decide) rfl (dl_cons (by exact (de_tup (dl_cons de_int (dl_cons de_int dl_nil)))) (dl_cons (by exact (de_fun hminus rfl hr (by decide) rfl (dl_cons (de_var 0) (dl_cons (de_var 1) dl_nil)) (ln_cons (ln_cons ln0)))) dl_nil)) (ln_cons (ln_cons ln0)))) (dl_cons (by exact (de_fun hminus rfl hr (by decide) rfl (dl_cons (de_var 2) (dl_cons (de_var 1) dl_nil)) (ln_cons (ln_cons ln0)))) dl_nil)) (ln_cons (ln_cons ln0))))))))) (FN.binds fun _ _ _ _ _ _ us hl => match us, hl with | [_, _, _], _ => rfl) (fun q hq => by simp at hq)
abbrev s_law_spring : Stmt := topS 37
theorem sc_law_spring : FnScope ["script", "great", "mixed", "cell"] ["script"] (defScope s_law_spring) := ⟨rfl, rfl, rfl, by decide +kernel, rfl, by decide +kernel, by decide +kernel⟩
def m_law_spring : MS := sSeq (sSet 1 (eN (nLc (.one 3) (iOfZ (eV true 0)) (mB (e2 fGe (eV false 3) (e2 fPow (eK (.int 10)) (eK (.int 18))))) (e2 fSub (eV true 3) (e2 fPow (eK (.int 10)) (eK (.int 18)))) [3]))) (sSeq (sSet 2 (e2 fAdd (eK (.int 15485863)) (e2 fMul (eK (.int 2)) (eF fLen (lCons (eV true 0) (lNil)))))) (sSeq (sFor (.one 3) (iOfZ (eV true 0)) (sSet 2 (e2 fMod (eF fInt1 (lCons (e2 fAdd (e2 fAdd (e2 fMul (eV true 2) (eK (.int 982451653))) (e2 fMul (eV true 3) (eK (.int 49979687)))) (eK (.int 32452843))) (lNil))) (eK (.int 2305843009213693951))))) (sRet (eN (nLst (lCons (eV false 1) (lCons (eV false 2) (lCons (eK (.int 0)) (lNil)))))))))
def F_law_spring : DF := runD 4 m_law_spring
theorem ok_law_spring (T : Tx mg)  {fa : Addr} {fd : FuncData} (FN : Fun k.K "_law_spring" "_law_spring" s_law_spring fa fd) (gn : mg "_law_spring" = some (.ref fa)) : Has P w k mg base "_law_spring" 1 ["script"] [] F_law_spring :=
  has_mk (j := 0) FN gn sc_law_spring (fun cdv A outer s H E f hr =>
    (dss_cons (ds_setLc (own := [("cell", 3)]) (i := 1) rfl sc_law_spring.nd rfl rfl (sw_true rfl rfl rfl (by decide +kernel)) (by exact (di_fz rfl (de_var 0))) (by exact blkOk_by (own := [("cell", 3)]) (by show blkC ["script", "great", "mixed", "cell"] (defScope s_law_spring) _ _ = true; decide +kernel)) (fun _ _ _ _ _ _ => (dg_name (i := 3) sc_law_spring.nd rfl (.inl rfl))) (fun _ _ _ _ _ => pts_x fun _ => (by exact (dt_cmp op_ge od_ge (de_var 3) (by exact (de_op op_pow od_pow de_int de_int)) (nomark _)))) (fun _ _ _ _ _ _ => (by exact (de_op op_sub od_sub (de_var 3) (by exact (de_op op_pow od_pow de_int de_int)))))) (dss_cons (ds_set (i := 2) sc_law_spring.nd rfl (.inl rfl) (by exact (de_op op_addA od_add de_int (by exact (de_op op_mulA od_mul de_int (by exact (de_callB call_lenA cd_len rfl T.m_len PySem.boot_len (dl_cons (de_var 0) dl_nil)))))))) (dss_cons (ds_for PassesOwn.never rfl (by exact (di_fz rfl (de_var 0))) (dg_name (i := 3) sc_law_spring.nd rfl (.inl rfl)) fun _ => (dss_one (ds_set (i := 2) sc_law_spring.nd rfl (.inl rfl) (by exact (de_op op_mod od_mod (by exact (de_callTy call_int1 cd_int1 rfl T.m_int (by decide +kernel) (dl_cons (by exact (de_op op_addA od_add (by exact (de_op op_addA od_add (by exact (de_op op_mulA od_mul (de_var 2) de_int)) (by exact (de_op op_mulA od_mul (de_var 3) de_int)))) de_int)) dl_nil))) de_int))))) (dss_one (ds_ret (by exact (de_n (by exact (dn_lst (dl_cons (de_var 1) (dl_cons (de_var 2) (dl_cons de_int dl_nil))))))))))))) (FN.binds fun _ _ _ _ _ _ us hl => match us, hl with | [_], _ => rfl) (fun q hq => by simp at hq)
abbrev s_law_drop : Stmt := topS 38
theorem sc_law_drop : FnScope ["spring", "many", "great", "found"] ["spring", "many"] (defScope s_law_drop) := ⟨rfl, rfl, rfl, by decide +kernel, rfl, by decide +kernel, by decide +kernel⟩
def m_law_drop : MS := sSeq (sSet 2 (eSp 0 (eV true 0))) (sSeq (sWhile (fuG) (mAnd (mGrNe (eV false 2)) (mB (e2 fEq (eGr0 (eV false 2)) (eK (.int 0))))) (sGrPop (eV true 2))) (sSeq (sIf (mGrNe (eV false 2)) (sSeq (sSet 3 (e2 fMod (eF fInt1 (lCons (eGr0 (eV true 2)) (lNil))) (eV true 1))) (sSeq (sGrSet (e2 fDiv (eGr0 (eV true 2)) (eV true 1)) (eV true 2)) (sRet (eV false 3)))) (sNx)) (sSeq (sSpSet 2 (e2 fAdd (eSp 2 (eV true 0)) (eK (.int 1))) (eV true 0)) (sSeq (sSpSet 1 (e2 fMod (eF fInt1 (lCons (e2 fAdd (e2 fMul (eSp 1 (eV true 0)) (eK (.int 6364136223846793005))) (e2 fMul (eSp 2 (eV true 0)) (eK (.int 1442695040888963407)))) (lNil))) (eK (.int 2305843009213693951))) (eV true 0)) (sRet (e2 fMod (e2 fDiv (e2 fMod (eF fInt1 (lCons (e2 fMul (eSp 1 (eV false 0)) (eSp 1 (eV false 0))) (lNil))) (eK (.int 2305843009213693921))) (eK (.int 1048576))) (eV false 1)))))))
def F_law_drop : DF := runD 4 m_law_drop
theorem ok_law_drop (T : Tx mg)  (ho : k.on = true ∧ k.wl = false) {fa : Addr} {fd : FuncData} (FN : Fun k.K "_law_drop" "_law_drop" s_law_drop fa fd) (gn : mg "_law_drop" = some (.ref fa)) : Has P w k mg base "_law_drop" 1 ["spring", "many"] [] F_law_drop :=
  has_mk (j := 0) FN gn sc_law_drop (fun cdv A outer s H E f hr =>
    (dss_cons (ds_set (i := 2) sc_law_drop.nd rfl (.inl rfl) (by exact (de_spr 0 (by decide) rfl ho (de_var 0)))) (dss_cons (ds_while (fu := fuG) PassesOwn.never (by exact (PW.pt (dw_and (by exact (dt_grNe hr.units rfl ho (de_var 2))) (dw_and1 (by exact (dt_cmp (op_eqD hr.units) od_eq (by exact (de_gr0 rfl ho (de_var 2))) de_int (nomark _))))))) (dss_one (ds_grPop rfl ho (de_var 2) (pe_bm PySem.F.plainAttrs_list PySem.F.slot_list_pop PySem.F.type_list_pop mt_popAt (de_var 2) (pa_cons de_int pa_nil))))) (dss_cons (ds_if (by exact (dt_grNe hr.units rfl ho (de_var 2))) (dss_cons (ds_set (i := 3) sc_law_drop.nd rfl (.inl rfl) (by exact (de_op op_mod od_mod (by exact (de_callTy call_int1 cd_int1 rfl T.m_int (by decide +kernel) (dl_cons (by exact (de_gr0 rfl ho (de_var 2))) dl_nil))) (de_var 1)))) (dss_cons (ds_grSet rfl ho (by exact (de_op op_fdivZ od_div (by exact (de_gr0 rfl ho (de_var 2))) (de_var 1))) (de_var 2)) (dss_one (ds_ret (de_var 3))))) dss_nil) (dss_cons (ds_spSet 2 (by decide) rfl ho (by exact (de_op op_addA od_add (by exact (de_spr 2 (by decide) rfl ho (de_var 0))) de_int)) (de_var 0)) (dss_cons (ds_spSet 1 (by decide) rfl ho (by exact (de_op op_mod od_mod (by exact (de_callTy call_int1 cd_int1 rfl T.m_int (by decide +kernel) (dl_cons (by exact (de_op op_addA od_add (by exact (de_op op_mulA od_mul (by exact (de_spr 1 (by decide) rfl ho (de_var 0))) de_int)) (by exact (de_op op_mulA od_mul (by exact (de_spr 2 (by decide) rfl ho (de_var 0))) de_int)))) dl_nil))) de_int)) (de_var 0)) (dss_one (ds_ret (by exact (de_op op_mod od_mod (by exact (de_op op_fdivZ od_div (by exact (de_op op_mod od_mod (by exact (de_callTy call_int1 cd_int1 rfl T.m_int (by decide +kernel) (dl_cons (by exact (de_op op_mulA od_mul (by exact (de_spr 1 (by decide) rfl ho (de_var 0))) (by exact (de_spr 1 (by decide) rfl ho (de_var 0))))) dl_nil))) de_int)) de_int)) (de_var 1))))))))))) (FN.binds fun _ _ _ _ _ _ us hl => match us, hl with | [_, _], _ => rfl) (fun q hq => by simp at hq)
abbrev s_law_low : Stmt := topS 39
theorem sc_law_low : FnScope ["top", "bottom", "one", "other"] ["top", "bottom"] (defScope s_law_low) := ⟨rfl, rfl, rfl, by decide +kernel, rfl, by decide +kernel, by decide +kernel⟩
def m_law_low : MS := sSeq (sPar [2, 3] (lCons (eF fAbs (lCons (eV true 0) (lNil))) (lCons (eF fAbs (lCons (eV true 1) (lNil))) (lNil)))) (sSeq (sWhile (fuI 3) (mB (e2 fGt (eV false 3) (eK (.int 0)))) (sPar [2, 3] (lCons (eV true 3) (lCons (e2 fMod (eF fInt1 (lCons (eV true 2) (lNil))) (eV true 3)) (lNil))))) (sSeq (sSet 2 (eIf (mB (e2 fGt (eV false 1) (eK (.int 0)))) (eV true 2) (e1 fNeg (eV true 2)))) (sRet (eTup (lCons (e2 fDiv (eV false 0) (eV false 2)) (lCons (e2 fDiv (eV false 1) (eV false 2)) (lNil)))))))
def F_law_low : DF := runD 4 m_law_low
theorem ok_law_low (T : Tx mg)  {fa : Addr} {fd : FuncData} (FN : Fun k.K "_law_low" "_law_low" s_law_low fa fd) (gn : mg "_law_low" = some (.ref fa)) : Has P w k mg base "_law_low" 1 ["top", "bottom"] [] F_law_low :=
  has_mk (j := 0) FN gn sc_law_low (fun cdv A outer s H E f hr =>
    (dss_cons (ds_par2 (i := 2) (j := 3) rfl sc_law_low.nd rfl rfl (by decide) rfl rfl (dl_cons (by exact (de_callB call_abs cd_abs rfl T.m_abs (by decide +kernel) (dl_cons (de_var 0) dl_nil))) (dl_cons (by exact (de_callB call_abs cd_abs rfl T.m_abs (by decide +kernel) (dl_cons (de_var 1) dl_nil))) dl_nil)) (by rfl)) (dss_cons (ds_while (fu := fuI 3) PassesOwn.never (by exact (dt_cmp op_gt od_gt (de_var 3) de_int (nomark _))) (dss_one (ds_par2 (i := 2) (j := 3) rfl sc_law_low.nd rfl rfl (by decide) rfl rfl (dl_cons (de_var 3) (dl_cons (by exact (de_op op_mod od_mod (by exact (de_callTy call_int1 cd_int1 rfl T.m_int (by decide +kernel) (dl_cons (de_var 2) dl_nil))) (de_var 3))) dl_nil)) (by rfl)))) (dss_cons (ds_set (i := 2) sc_law_low.nd rfl (.inl rfl) (by exact (de_if (by exact (dt_cmp op_gt od_gt (de_var 1) de_int (nomark _))) (de_var 2) (by exact (de_un un_neg ud_neg (de_var 2)))))) (dss_one (ds_ret (by exact (de_tup (dl_cons (by exact (de_op op_fdivZ od_div (de_var 0) (de_var 2))) (dl_cons (by exact (de_op op_fdivZ od_div (de_var 1) (de_var 2))) dl_nil)))))))))) (FN.binds fun _ _ _ _ _ _ us hl => match us, hl with | [_, _], _ => rfl) (fun q hq => by simp at hq)
abbrev s_law_plus : Stmt := topS 40
theorem sc_law_plus : FnScope ["one", "other"] ["one", "other"] (defScope s_law_plus) := ⟨rfl, rfl, rfl, by decide +kernel, rfl, by decide +kernel, by decide +kernel⟩
def m_law_plus : MS := sRet (eCall F_law_low (lCons (e2 fAdd (e2 fMul (e2 fIx (eV false 0) (eK (.int 0))) (e2 fIx (eV false 1) (eK (.int 1)))) (e2 fMul (e2 fIx (eV false 1) (eK (.int 0))) (e2 fIx (eV false 0) (eK (.int 1))))) (lCons (e2 fMul (e2 fIx (eV false 0) (eK (.int 1))) (e2 fIx (eV false 1) (eK (.int 1)))) (lNil))))
def F_law_plus : DF := runD 2 m_law_plus
theorem ok_law_plus (T : Tx mg) (h_law_low : Has P w k mg base "_law_low" 1 ["top", "bottom"] [] F_law_low) {fa : Addr} {fd : FuncData} (FN : Fun k.K "_law_plus" "_law_plus" s_law_plus fa fd) (gn : mg "_law_plus" = some (.ref fa)) : Has P w k mg base "_law_plus" 2 ["one", "other"] [] F_law_plus :=
  has_mk (j := 1) FN gn sc_law_plus (fun cdv A outer s H E f hr =>
    (dss_one (ds_ret (by exact (de_fun h_law_low rfl hr (by decide) rfl (dl_cons (by exact (de_op op_addA od_add (by exact (de_op op_mulA od_mul (by exact (de_ix ix_seq od_ix (de_var 0) de_int)) (by exact (de_ix ix_seq od_ix (de_var 1) de_int)))) (by exact (de_op op_mulA od_mul (by exact (de_ix ix_seq od_ix (de_var 1) de_int)) (by exact (de_ix ix_seq od_ix (de_var 0) de_int)))))) (dl_cons (by exact (de_op op_mulA od_mul (by exact (de_ix ix_seq od_ix (de_var 0) de_int)) (by exact (de_ix ix_seq od_ix (de_var 1) de_int)))) dl_nil)) (ln_cons (ln_cons ln0))))))) (FN.binds fun _ _ _ _ _ _ us hl => match us, hl with | [_, _], _ => rfl) (fun q hq => by simp at hq)
abbrev s_law_minus : Stmt := topS 41
theorem sc_law_minus : FnScope ["one", "other"] ["one", "other"] (defScope s_law_minus) := ⟨rfl, rfl, rfl, by decide +kernel, rfl, by decide +kernel, by decide +kernel⟩
def m_law_minus : MS := sRet (eCall F_law_plus (lCons (eV false 0) (lCons (eTup (lCons (e1 fNeg (e2 fIx (eV false 1) (eK (.int 0)))) (lCons (e2 fIx (eV false 1) (eK (.int 1))) (lNil)))) (lNil))))
def F_law_minus : DF := runD 2 m_law_minus
theorem ok_law_minus (T : Tx mg) (h_law_plus : Has P w k mg base "_law_plus" 2 ["one", "other"] [] F_law_plus) {fa : Addr} {fd : FuncData} (FN : Fun k.K "_law_minus" "_law_minus" s_law_minus fa fd) (gn : mg "_law_minus" = some (.ref fa)) : Has P w k mg base "_law_minus" 3 ["one", "other"] [] F_law_minus :=
  has_mk (j := 2) FN gn sc_law_minus (fun cdv A outer s H E f hr =>
    (dss_one (ds_ret (by exact (de_fun h_law_plus rfl hr (by decide) rfl (dl_cons (de_var 0) (dl_cons (by exact (de_tup (dl_cons (by exact (de_un un_neg ud_neg (by exact (de_ix ix_seq od_ix (de_var 1) de_int)))) (dl_cons (by exact (de_ix ix_seq od_ix (de_var 1) de_int)) dl_nil)))) dl_nil)) (ln_cons (ln_cons ln0))))))) (FN.binds fun _ _ _ _ _ _ us hl => match us, hl with | [_, _], _ => rfl) (fun q hq => by simp at hq)
abbrev s_law_times : Stmt := topS 42
theorem sc_law_times : FnScope ["one", "other"] ["one", "other"] (defScope s_law_times) := ⟨rfl, rfl, rfl, by decide +kernel, rfl, by decide +kernel, by decide +kernel⟩
def m_law_times : MS := sRet (eCall F_law_low (lCons (e2 fMul (e2 fIx (eV false 0) (eK (.int 0))) (e2 fIx (eV false 1) (eK (.int 0)))) (lCons (e2 fMul (e2 fIx (eV false 0) (eK (.int 1))) (e2 fIx (eV false 1) (eK (.int 1)))) (lNil))))
def F_law_times : DF := runD 2 m_law_times
theorem ok_law_times (T : Tx mg) (h_law_low : Has P w k mg base "_law_low" 1 ["top", "bottom"] [] F_law_low) {fa : Addr} {fd : FuncData} (FN : Fun k.K "_law_times" "_law_times" s_law_times fa fd) (gn : mg "_law_times" = some (.ref fa)) : Has P w k mg base "_law_times" 2 ["one", "other"] [] F_law_times :=
  has_mk (j := 1) FN gn sc_law_times (fun cdv A outer s H E f hr =>
    (dss_one (ds_ret (by exact (de_fun h_law_low rfl hr (by decide) rfl (dl_cons (by exact (de_op op_mulA od_mul (by exact (de_ix ix_seq od_ix (de_var 0) de_int)) (by exact (de_ix ix_seq od_ix (de_var 1) de_int)))) (dl_cons (by exact (de_op op_mulA od_mul (by exact (de_ix ix_seq od_ix (de_var 0) de_int)) (by exact (de_ix ix_seq od_ix (de_var 1) de_int)))) dl_nil)) (ln_cons (ln_cons ln0))))))) (FN.binds fun _ _ _ _ _ _ us hl => match us, hl with | [_, _], _ => rfl) (fun q hq => by simp at hq)
abbrev s_law_below : Stmt := topS 43
theorem sc_law_below : FnScope ["one", "other"] ["one", "other"] (defScope s_law_below) := ⟨rfl, rfl, rfl, by decide +kernel, rfl, by decide +kernel, by decide +kernel⟩
def m_law_below : MS := sRet (e2 fLt (e2 fMul (e2 fIx (eV false 0) (eK (.int 0))) (e2 fIx (eV false 1) (eK (.int 1)))) (e2 fMul (e2 fIx (eV false 1) (eK (.int 0))) (e2 fIx (eV false 0) (eK (.int 1)))))
def F_law_below : DF := runD 2 m_law_below
theorem ok_law_below (T : Tx mg)  {fa : Addr} {fd : FuncData} (FN : Fun k.K "_law_below" "_law_below" s_law_below fa fd) (gn : mg "_law_below" = some (.ref fa)) : Has P w k mg base "_law_below" 1 ["one", "other"] [] F_law_below :=
  has_mk (j := 0) FN gn sc_law_below (fun cdv A outer s H E f hr =>
    (dss_one (ds_ret (by exact (de_cmp op_lt od_lt (by exact (de_op op_mulA od_mul (by exact (de_ix ix_seq od_ix (de_var 0) de_int)) (by exact (de_ix ix_seq od_ix (de_var 1) de_int)))) (by exact (de_op op_mulA od_mul (by exact (de_ix ix_seq od_ix (de_var 1) de_int)) (by exact (de_ix ix_seq od_ix (de_var 0) de_int)))) (nomark _)))))) (FN.binds fun _ _ _ _ _ _ us hl => match us, hl with | [_, _], _ => rfl) (fun q hq => by simp at hq)
abbrev s_law_number : Stmt := topS 44
theorem sc_law_number : FnScope ["spring", "way"] ["spring"] (defScope s_law_number) := ⟨rfl, rfl, rfl, by decide +kernel, rfl, by decide +kernel, by decide +kernel⟩
def m_law_number : MS := sSeq (sSet 1 (eCall Fd_law_drop (lCons (eV true 0) (lCons (eK (.int 6)) (lNil))))) (sSeq (sIf (mB (e2 fEq (eV false 1) (eK (.int 0)))) (sRet (eTup (lCons (e2 fSub (eCall Fd_law_drop (lCons (eV false 0) (lCons (eK (.int 2001)) (lNil)))) (eK (.int 1000))) (lCons (eK (.int 1)) (lNil))))) (sNx)) (sSeq (sIf (mB (e2 fLt (eV false 1) (eK (.int 3)))) (sRet (eCall F_law_low (lCons (e2 fSub (eCall Fd_law_drop (lCons (eV false 0) (lCons (eK (.int 2000001)) (lNil)))) (eK (.int 1000000))) (lCons (e2 fIx (eN (nLst (lCons (eK (.int 100)) (lCons (eK (.int 1000)) (lCons (eK (.int 8)) (lCons (eK (.int 20)) (lNil))))))) (eCall Fd_law_drop (lCons (eV false 0) (lCons (eK (.int 4)) (lNil))))) (lNil))))) (sNx)) (sSeq (sIf (mB (e2 fLt (eV false 1) (eK (.int 5)))) (sRet (eCall F_law_low (lCons (e2 fSub (eCall Fd_law_drop (lCons (eV false 0) (lCons (eK (.int 41)) (lNil)))) (eK (.int 20))) (lCons (e2 fAdd (eK (.int 1)) (eCall Fd_law_drop (lCons (eV false 0) (lCons (eK (.int 12)) (lNil))))) (lNil))))) (sNx)) (sRet (eCall F_law_low (lCons (e2 fSub (eCall Fd_law_drop (lCons (eV false 0) (lCons (eK (.int 2000001)) (lNil)))) (eK (.int 1000000))) (lCons (e2 fAdd (eK (.int 1)) (eCall Fd_law_drop (lCons (eV false 0) (lCons (eK (.int 1000)) (lNil))))) (lNil))))))))
def F_law_number : DF := runD 2 m_law_number
theorem ok_law_number (T : Tx mg) (h_law_drop : Has P w k mg base "_law_drop" 1 ["spring", "many"] [] Fd_law_drop) (h_law_low : Has P w k mg base "_law_low" 1 ["top", "bottom"] [] F_law_low) {fa : Addr} {fd : FuncData} (FN : Fun k.K "_law_number" "_law_number" s_law_number fa fd) (gn : mg "_law_number" = some (.ref fa)) : Has P w k mg base "_law_number" 2 ["spring"] [] F_law_number :=
  has_mk (j := 1) FN gn sc_law_number (fun cdv A outer s H E f hr =>
    (dss_cons (ds_set (i := 1) sc_law_number.nd rfl (.inl rfl) (by exact (de_fun h_law_drop rfl hr (by decide) rfl (dl_cons (de_var 0) (dl_cons de_int dl_nil)) (ln_cons (ln_cons ln0))))) (dss_cons (ds_if (by exact (dt_cmp (op_eqD hr.units) od_eq (de_var 1) de_int (nomark _))) (dss_one (ds_ret (by exact (de_tup (dl_cons (by exact (de_op op_sub od_sub (by exact (de_fun h_law_drop rfl hr (by decide) rfl (dl_cons (de_var 0) (dl_cons de_int dl_nil)) (ln_cons (ln_cons ln0)))) de_int)) (dl_cons de_int dl_nil)))))) dss_nil) (dss_cons (ds_if (by exact (dt_cmp op_lt od_lt (de_var 1) de_int (nomark _))) (dss_one (ds_ret (by exact (de_fun h_law_low rfl hr (by decide) rfl (dl_cons (by exact (de_op op_sub od_sub (by exact (de_fun h_law_drop rfl hr (by decide) rfl (dl_cons (de_var 0) (dl_cons de_int dl_nil)) (ln_cons (ln_cons ln0)))) de_int)) (dl_cons (by exact (de_ix ix_seq od_ix (by exact (de_n (by exact (dn_lst (dl_cons de_int (dl_cons de_int (dl_cons de_int (dl_cons de_int dl_nil)))))))) (by exact (de_fun h_law_drop rfl hr (by decide) rfl (dl_cons (de_var 0) (dl_cons de_int dl_nil)) (ln_cons (ln_cons ln0)))))) dl_nil)) (ln_cons (ln_cons ln0)))))) dss_nil) (dss_cons (ds_if (by exact (dt_cmp op_lt od_lt (de_var 1) de_int (nomark _))) (dss_one (ds_ret (by exact (de_fun h_law_low rfl hr (by decide) rfl (dl_cons (by exact (de_op op_sub od_sub (by exact (de_fun h_law_drop rfl hr (by decide) rfl (dl_cons (de_var 0) (dl_cons de_int dl_nil)) (ln_cons (ln_cons ln0)))) de_int)) (dl_cons (by exact (de_op op_addA od_add de_int (by exact (de_fun h_law_drop rfl hr (by decide) rfl (dl_cons (de_var 0) (dl_cons de_int dl_nil)) (ln_cons (ln_cons ln0)))))) dl_nil)) (ln_cons (ln_cons ln0)))))) dss_nil) (dss_one (ds_ret (by exact (de_fun h_law_low rfl hr (by decide) rfl (dl_cons (by exact (de_op op_sub od_sub (by exact (de_fun h_law_drop rfl hr (by decide) rfl (dl_cons (de_var 0) (dl_cons de_int dl_nil)) (ln_cons (ln_cons ln0)))) de_int)) (dl_cons (by exact (de_op op_addA od_add de_int (by exact (de_fun h_law_drop rfl hr (by decide) rfl (dl_cons (de_var 0) (dl_cons de_int dl_nil)) (ln_cons (ln_cons ln0)))))) dl_nil)) (ln_cons (ln_cons ln0))))))))))) (FN.binds fun _ _ _ _ _ _ us hl => match us, hl with | [_], _ => rfl) (fun q hq => by simp at hq)
abbrev s_law_above : Stmt := topS 45
theorem sc_law_above : FnScope ["spring", "top", "bottom"] ["spring"] (defScope s_law_above) := ⟨rfl, rfl, rfl, by decide +kernel, rfl, by decide +kernel, by decide +kernel⟩
def m_law_above : MS := sSeq (sAsg (.many [1, 2]) (eCall F_law_number (lCons (eV true 0) (lNil)))) (sRet (eIf (mB (e2 fNe (eV false 1) (eK (.int 0)))) (eTup (lCons (eF fAbs (lCons (eV false 1) (lNil))) (lCons (eV false 2) (lNil)))) (eTup (lCons (eK (.int 1)) (lCons (eK (.int 100)) (lNil))))))
def F_law_above : DF := runD 3 m_law_above
theorem ok_law_above (T : Tx mg) (h_law_number : Has P w k mg base "_law_number" 2 ["spring"] [] F_law_number) {fa : Addr} {fd : FuncData} (FN : Fun k.K "_law_above" "_law_above" s_law_above fa fd) (gn : mg "_law_above" = some (.ref fa)) : Has P w k mg base "_law_above" 3 ["spring"] [] F_law_above :=
  has_mk (j := 2) FN gn sc_law_above (fun cdv A outer s H E f hr =>
    (dss_cons (ds_asg (by exact (de_fun h_law_number rfl hr (by decide) rfl (dl_cons (de_var 0) dl_nil) (ln_cons ln0))) (dg_tup (is := [1, 2]) rfl rfl (pgs_cons (pg_name (i := 1) sc_law_above.nd rfl (.inl rfl)) (pgs_cons (pg_name (i := 2) sc_law_above.nd rfl (.inl rfl)) pgs_nil)))) (dss_one (ds_ret (by exact (de_if (by exact (dt_cmp (op_neD hr.units) od_ne (de_var 1) de_int (nomark _))) (by exact (de_tup (dl_cons (by exact (de_callB call_abs cd_abs rfl T.m_abs (by decide +kernel) (dl_cons (de_var 1) dl_nil))) (dl_cons (de_var 2) dl_nil)))) (by exact (de_tup (dl_cons de_int (dl_cons de_int dl_nil)))))))))) (FN.binds fun _ _ _ _ _ _ us hl => match us, hl with | [_], _ => rfl) (fun q hq => by simp at hq)
abbrev s_law_end : Stmt := topS 46
theorem sc_law_end : FnScope ["spring", "way"] ["spring"] (defScope s_law_end) := ⟨rfl, rfl, rfl, by decide +kernel, rfl, by decide +kernel, by decide +kernel⟩
def m_law_end : MS := sSeq (sSet 1 (eCall Fd_law_drop (lCons (eV true 0) (lCons (eK (.int 6)) (lNil))))) (sSeq (sIf (mB (e2 fEq (eV false 1) (eK (.int 0)))) (sRet (eTup (lCons (e2 fSub (eCall Fd_law_drop (lCons (eV false 0) (lCons (eK (.int 41)) (lNil)))) (eK (.int 20))) (lCons (eK (.int 1)) (lNil))))) (sNx)) (sSeq (sIf (mB (e2 fEq (eV false 1) (eK (.int 1)))) (sRet (eCall F_law_low (lCons (e2 fSub (eCall Fd_law_drop (lCons (eV false 0) (lCons (eK (.int 2001)) (lNil)))) (eK (.int 1000))) (lCons (e2 fIx (eN (nLst (lCons (eK (.int 100)) (lCons (eK (.int 1000)) (lCons (eK (.int 8)) (lNil)))))) (eCall Fd_law_drop (lCons (eV false 0) (lCons (eK (.int 3)) (lNil))))) (lNil))))) (sNx)) (sSeq (sIf (mB (e2 fEq (eV false 1) (eK (.int 2)))) (sRet (eTup (lCons (eK (.int 0)) (lCons (eK (.int 1)) (lNil))))) (sNx)) (sSeq (sIf (mB (e2 fEq (eV false 1) (eK (.int 3)))) (sRet (eCall F_law_low (lCons (e2 fSub (eCall Fd_law_drop (lCons (eV false 0) (lCons (e2 fPow (eK (.int 10)) (eK (.int 12))) (lNil)))) (e2 fPow (eK (.int 10)) (eK (.int 11)))) (lCons (e2 fAdd (eK (.int 1)) (eCall Fd_law_drop (lCons (eV false 0) (lCons (eK (.int 9)) (lNil))))) (lNil))))) (sNx)) (sSeq (sIf (mB (e2 fEq (eV false 1) (eK (.int 4)))) (sRet (eCall F_law_low (lCons (eCall Fd_law_drop (lCons (eV false 0) (lCons (eK (.int 1000)) (lNil)))) (lCons (e2 fIx (eN (nLst (lCons (e2 fPow (eK (.int 10)) (eK (.int 12))) (lCons (e2 fPow (eK (.int 10)) (eK (.int 40))) (lNil))))) (eCall Fd_law_drop (lCons (eV false 0) (lCons (eK (.int 2)) (lNil))))) (lNil))))) (sNx)) (sSeq (sIf (mB (e2 fEq (eCall Fd_law_drop (lCons (eV false 0) (lCons (eK (.int 6)) (lNil)))) (eK (.int 0)))) (sRet (eTup (lCons (e2 fMul (e2 fSub (eCall Fd_law_drop (lCons (eV false 0) (lCons (eK (.int 199)) (lNil)))) (eK (.int 99))) (e2 fPow (eK (.int 10)) (eK (.int 40)))) (lCons (eK (.int 1)) (lNil))))) (sNx)) (sRet (eCall F_law_number (lCons (eV false 0) (lNil))))))))))
def F_law_end : DF := runD 2 m_law_end
theorem ok_law_end (T : Tx mg) (h_law_drop : Has P w k mg base "_law_drop" 1 ["spring", "many"] [] Fd_law_drop) (h_law_number : Has P w k mg base "_law_number" 2 ["spring"] [] F_law_number) (h_law_low : Has P w k mg base "_law_low" 1 ["top", "bottom"] [] F_law_low) {fa : Addr} {fd : FuncData} (FN : Fun k.K "_law_end" "_law_end" s_law_end fa fd) (gn : mg "_law_end" = some (.ref fa)) : Has P w k mg base "_law_end" 3 ["spring"] [] F_law_end :=
  has_mk (j := 2) FN gn sc_law_end (fun cdv A outer s H E f hr =>
    (dss_cons (ds_set (i := 1) sc_law_end.nd rfl (.inl rfl) (by exact (de_fun h_law_drop rfl hr (by decide) rfl (dl_cons (de_var 0) (dl_cons de_int dl_nil)) (ln_cons (ln_cons ln0))))) (dss_cons (ds_if (by exact (dt_cmp (op_eqD hr.units) od_eq (de_var 1) de_int (nomark _))) (dss_one (ds_ret (by exact (de_tup (dl_cons (by exact (de_op op_sub od_sub (by exact (de_fun h_law_drop rfl hr (by decide) rfl (dl_cons (de_var 0) (dl_cons de_int dl_nil)) (ln_cons (ln_cons ln0)))) de_int)) (dl_cons de_int dl_nil)))))) dss_nil) (dss_cons (ds_if (by exact (dt_cmp (op_eqD hr.units) od_eq (de_var 1) de_int (nomark _))) (dss_one (ds_ret (by exact (de_fun h_law_low rfl hr (by decide) rfl (dl_cons (by exact (de_op op_sub od_sub (by exact (de_fun h_law_drop rfl hr (by decide) rfl (dl_cons (de_var 0) (dl_cons de_int dl_nil)) (ln_cons (ln_cons ln0)))) de_int)) (dl_cons (by exact (de_ix ix_seq od_ix (by exact (de_n (by exact (dn_lst (dl_cons de_int (dl_cons de_int (dl_cons de_int dl_nil))))))) (by exact (de_fun h_law_drop rfl hr (by decide) rfl (dl_cons (de_var 0) (dl_cons de_int dl_nil)) (ln_cons (ln_cons ln0)))))) dl_nil)) (ln_cons (ln_cons ln0)))))) dss_nil) (dss_cons (ds_if (by exact (dt_cmp (op_eqD hr.units) od_eq (de_var 1) de_int (nomark _))) (dss_one (ds_ret (by exact (de_tup (dl_cons de_int (dl_cons de_int dl_nil)))))) dss_nil) (dss_cons (ds_if (by exact (dt_cmp (op_eqD hr.units) od_eq (de_var 1) de_int (nomark _))) (dss_one (ds_ret (by exact (de_fun h_law_low rfl hr (by decide) rfl (dl_cons (by exact (de_op op_sub od_sub (by exact (de_fun h_law_drop rfl hr (by decide) rfl (dl_cons (de_var 0) (dl_cons (by exact (de_op op_pow od_pow de_int de_int)) dl_nil)) (ln_cons (ln_cons ln0)))) (by exact (de_op op_pow od_pow de_int de_int)))) (dl_cons (by exact (de_op op_addA od_add de_int (by exact (de_fun h_law_drop rfl hr (by decide) rfl (dl_cons (de_var 0) (dl_cons de_int dl_nil)) (ln_cons (ln_cons ln0)))))) dl_nil)) (ln_cons (ln_cons ln0)))))) dss_nil) (dss_cons (ds_if (by exact (dt_cmp (op_eqD hr.units) od_eq (de_var 1) de_int (nomark _))) (dss_one (ds_ret (by exact (de_fun h_law_low rfl hr (by decide) rfl (dl_cons (by exact (de_fun h_law_drop rfl hr (by decide) rfl (dl_cons (de_var 0) (dl_cons de_int dl_nil)) (ln_cons (ln_cons ln0)))) (dl_cons (by exact (de_ix ix_seq od_ix (by exact (de_n (by exact (dn_lst (dl_cons (by exact (de_op op_pow od_pow de_int de_int)) (dl_cons (by exact (de_op op_pow od_pow de_int de_int)) dl_nil)))))) (by exact (de_fun h_law_drop rfl hr (by decide) rfl (dl_cons (de_var 0) (dl_cons de_int dl_nil)) (ln_cons (ln_cons ln0)))))) dl_nil)) (ln_cons (ln_cons ln0)))))) dss_nil) (dss_cons (ds_if (by exact (dt_cmp (op_eqD hr.units) od_eq (by exact (de_fun h_law_drop rfl hr (by decide) rfl (dl_cons (de_var 0) (dl_cons de_int dl_nil)) (ln_cons (ln_cons ln0)))) de_int (nomark _))) (dss_one (ds_ret (by exact (de_tup (dl_cons (by exact (de_op op_mulA od_mul (by exact (de_op op_sub od_sub (by exact (de_fun h_law_drop rfl hr (by decide) rfl (dl_cons (de_var 0) (dl_cons de_int dl_nil)) (ln_cons (ln_cons ln0)))) de_int)) (by exact (de_op op_pow od_pow de_int de_int)))) (dl_cons de_int dl_nil)))))) dss_nil) (dss_one (ds_ret (by exact (de_fun h_law_number rfl hr (by decide) rfl (dl_cons (de_var 0) dl_nil) (ln_cons ln0))))))))))))) (FN.binds fun _ _ _ _ _ _ us hl => match us, hl with | [_], _ => rfl) (fun q hq => by simp at hq)
abbrev s_law_axis : Stmt := topS 47
theorem sc_law_axis : FnScope ["spring", "way", "low", "high", "far", "turn"] ["spring"] (defScope s_law_axis) := ⟨rfl, rfl, rfl, by decide +kernel, rfl, by decide +kernel, by decide +kernel⟩
def m_law_axis : MS := sSeq (sPar [2, 3] (lCons (eCall F_law_end (lCons (eV true 0) (lNil))) (lCons (eCall F_law_end (lCons (eV true 0) (lNil))) (lNil)))) (sSeq (sSet 1 (eCall Fd_law_drop (lCons (eV true 0) (lCons (eK (.int 4)) (lNil))))) (sSeq (sIf (mB (e2 fEq (eV false 1) (eK (.int 0)))) (sSet 3 (eCall F_law_plus (lCons (eV true 2) (lCons (eCall F_law_low (lCons (e2 fAdd (eK (.int 1)) (eCall Fd_law_drop (lCons (eV true 0) (lCons (eK (.int 12)) (lNil))))) (lCons (e2 fIx (eN (nLst (lCons (eK (.int 1)) (lCons (eK (.int 2)) (lCons (eK (.int 5)) (lCons (eK (.int 10)) (lCons (eK (.int 100)) (lCons (eK (.int 7)) (lNil))))))))) (eCall Fd_law_drop (lCons (eV true 0) (lCons (eK (.int 6)) (lNil))))) (lNil)))) (lNil))))) (sNx)) (sSeq (sIf (mB (e2 fEq (eV false 1) (eK (.int 1)))) (sSeq (sSet 4 (eCall F_law_low (lCons (e2 fIx (eN (nLst (lCons (eK (.int 1)) (lCons (eK (.int 2)) (lCons (eK (.int 5)) (lCons (eK (.int 10)) (lCons (eK (.int 11)) (lCons (eK (.int 99)) (lNil))))))))) (eCall Fd_law_drop (lCons (eV true 0) (lCons (eK (.int 6)) (lNil))))) (lCons (eK (.int 1)) (lNil))))) (sSeq (sFor (.one 5) (iRg1 (lCons (eCall Fd_law_drop (lCons (eV true 0) (lCons (eK (.int 9)) (lNil)))) (lNil))) (sSet 4 (eCall F_law_times (lCons (eV true 4) (lCons (e2 fIx (eN (nLst (lCons (eTup (lCons (eK (.int 10)) (lCons (eK (.int 1)) (lNil)))) (lCons (eTup (lCons (eK (.int 1)) (lCons (eK (.int 10)) (lNil)))) (lNil))))) (eCall Fd_law_drop (lCons (eV true 0) (lCons (eK (.int 2)) (lNil))))) (lNil)))))) (sSet 3 (eCall F_law_plus (lCons (eV true 2) (lCons (eV true 4) (lNil))))))) (sNx)) (sSeq (sIf (mB (e2 fEq (eV false 3) (eV false 2))) (sSet 3 (eCall F_law_plus (lCons (eV true 2) (lCons (eTup (lCons (eK (.int 1)) (lCons (eK (.int 1)) (lNil)))) (lNil))))) (sNx)) (sRet (eIf (mTru (eCall F_law_below (lCons (eV false 2) (lCons (eV false 3) (lNil))))) (eTup (lCons (eV false 2) (lCons (eV false 3) (lNil)))) (eTup (lCons (eV false 3) (lCons (eV false 2) (lNil))))))))))
def F_law_axis : DF := runD 6 m_law_axis
theorem ok_law_axis (T : Tx mg) (h_law_drop : Has P w k mg base "_law_drop" 1 ["spring", "many"] [] Fd_law_drop) (h_law_end : Has P w k mg base "_law_end" 3 ["spring"] [] F_law_end) (h_law_plus : Has P w k mg base "_law_plus" 2 ["one", "other"] [] F_law_plus) (h_law_low : Has P w k mg base "_law_low" 1 ["top", "bottom"] [] F_law_low) (h_law_below : Has P w k mg base "_law_below" 1 ["one", "other"] [] F_law_below) (h_law_times : Has P w k mg base "_law_times" 2 ["one", "other"] [] F_law_times) {fa : Addr} {fd : FuncData} (FN : Fun k.K "_law_axis" "_law_axis" s_law_axis fa fd) (gn : mg "_law_axis" = some (.ref fa)) : Has P w k mg base "_law_axis" 4 ["spring"] [] F_law_axis :=
  has_mk (j := 3) FN gn sc_law_axis (fun cdv A outer s H E f hr =>
    (dss_cons (ds_par2 (i := 2) (j := 3) rfl sc_law_axis.nd rfl rfl (by decide) rfl rfl (dl_cons (by exact (de_fun h_law_end rfl hr (by decide) rfl (dl_cons (de_var 0) dl_nil) (ln_cons ln0))) (dl_cons (by exact (de_fun h_law_end rfl hr (by decide) rfl (dl_cons (de_var 0) dl_nil) (ln_cons ln0))) dl_nil)) (by rfl)) (dss_cons (ds_set (i := 1) sc_law_axis.nd rfl (.inl rfl) (by exact (de_fun h_law_drop rfl hr (by decide) rfl (dl_cons (de_var 0) (dl_cons de_int dl_nil)) (ln_cons (ln_cons ln0))))) (dss_cons (ds_if (by exact (dt_cmp (op_eqD hr.units) od_eq (de_var 1) de_int (nomark _))) (dss_one (ds_set (i := 3) sc_law_axis.nd rfl (.inl rfl) (by exact (de_fun h_law_plus rfl hr (by decide) rfl (dl_cons (de_var 2) (dl_cons (by exact (de_fun h_law_low rfl hr (by decide) rfl (dl_cons (by exact (de_op op_addA od_add de_int (by exact (de_fun h_law_drop rfl hr (by decide) rfl (dl_cons (de_var 0) (dl_cons de_int dl_nil)) (ln_cons (ln_cons ln0)))))) (dl_cons (by exact (de_ix ix_seq od_ix (by exact (de_n (by exact (dn_lst (dl_cons de_int (dl_cons de_int (dl_cons de_int (dl_cons de_int (dl_cons de_int (dl_cons de_int dl_nil)))))))))) (by exact (de_fun h_law_drop rfl hr (by decide) rfl (dl_cons (de_var 0) (dl_cons de_int dl_nil)) (ln_cons (ln_cons ln0)))))) dl_nil)) (ln_cons (ln_cons ln0)))) dl_nil)) (ln_cons (ln_cons ln0)))))) dss_nil) (dss_cons (ds_if (by exact (dt_cmp (op_eqD hr.units) od_eq (de_var 1) de_int (nomark _))) (dss_cons (ds_set (i := 4) sc_law_axis.nd rfl (.inl rfl) (by exact (de_fun h_law_low rfl hr (by decide) rfl (dl_cons (by exact (de_ix ix_seq od_ix (by exact (de_n (by exact (dn_lst (dl_cons de_int (dl_cons de_int (dl_cons de_int (dl_cons de_int (dl_cons de_int (dl_cons de_int dl_nil)))))))))) (by exact (de_fun h_law_drop rfl hr (by decide) rfl (dl_cons (de_var 0) (dl_cons de_int dl_nil)) (ln_cons (ln_cons ln0)))))) (dl_cons de_int dl_nil)) (ln_cons (ln_cons ln0))))) (dss_cons (ds_for PassesOwn.never rfl (by exact (di_rg1 rfl T.m_range (dl_cons (by exact (de_fun h_law_drop rfl hr (by decide) rfl (dl_cons (de_var 0) (dl_cons de_int dl_nil)) (ln_cons (ln_cons ln0)))) dl_nil))) (dg_name (i := 5) sc_law_axis.nd rfl (.inl rfl)) fun _ => (dss_one (ds_set (i := 4) sc_law_axis.nd rfl (.inl rfl) (by exact (de_fun h_law_times rfl hr (by decide) rfl (dl_cons (de_var 4) (dl_cons (by exact (de_ix ix_seq od_ix (by exact (de_n (by exact (dn_lst (dl_cons (by exact (de_tup (dl_cons de_int (dl_cons de_int dl_nil)))) (dl_cons (by exact (de_tup (dl_cons de_int (dl_cons de_int dl_nil)))) dl_nil)))))) (by exact (de_fun h_law_drop rfl hr (by decide) rfl (dl_cons (de_var 0) (dl_cons de_int dl_nil)) (ln_cons (ln_cons ln0)))))) dl_nil)) (ln_cons (ln_cons ln0))))))) (dss_one (ds_set (i := 3) sc_law_axis.nd rfl (.inl rfl) (by exact (de_fun h_law_plus rfl hr (by decide) rfl (dl_cons (de_var 2) (dl_cons (de_var 4) dl_nil)) (ln_cons (ln_cons ln0)))))))) dss_nil) (dss_cons (ds_if (by exact (dt_cmp (op_eqD hr.units) od_eq (de_var 3) (de_var 2) (nomark _))) (dss_one (ds_set (i := 3) sc_law_axis.nd rfl (.inl rfl) (by exact (de_fun h_law_plus rfl hr (by decide) rfl (dl_cons (de_var 2) (dl_cons (by exact (de_tup (dl_cons de_int (dl_cons de_int dl_nil)))) dl_nil)) (ln_cons (ln_cons ln0)))))) dss_nil) (dss_one (ds_ret (by exact (de_if (by exact (dt_tru (sm := false) rfl (by exact (de_fun h_law_below rfl hr (by decide) rfl (dl_cons (de_var 2) (dl_cons (de_var 3) dl_nil)) (ln_cons (ln_cons ln0)))))) (by exact (de_tup (dl_cons (de_var 2) (dl_cons (de_var 3) dl_nil)))) (by exact (de_tup (dl_cons (de_var 3) (dl_cons (de_var 2) dl_nil)))))))))))))) (FN.binds fun _ _ _ _ _ _ us hl => match us, hl with | [_], _ => rfl) (fun q hq => by simp at hq)
abbrev s_law_turned : Stmt := topS 48
theorem sc_law_turned : FnScope ["number"] ["number"] (defScope s_law_turned) := ⟨rfl, rfl, rfl, by decide +kernel, rfl, by decide +kernel, by decide +kernel⟩
def m_law_turned : MS := sRet (eTup (lCons (e1 fNeg (e2 fIx (eV false 0) (eK (.int 0)))) (lCons (e2 fIx (eV false 0) (eK (.int 1))) (lNil))))
def F_law_turned : DF := runD 1 m_law_turned
theorem ok_law_turned (T : Tx mg)  {fa : Addr} {fd : FuncData} (FN : Fun k.K "_law_turned" "_law_turned" s_law_turned fa fd) (gn : mg "_law_turned" = some (.ref fa)) : Has P w k mg base "_law_turned" 1 ["number"] [] F_law_turned :=
  has_mk (j := 0) FN gn sc_law_turned (fun cdv A outer s H E f hr =>
    (dss_one (ds_ret (by exact (de_tup (dl_cons (by exact (de_un un_neg ud_neg (by exact (de_ix ix_seq od_ix (de_var 0) de_int)))) (dl_cons (by exact (de_ix ix_seq od_ix (de_var 0) de_int)) dl_nil))))))) (FN.binds fun _ _ _ _ _ _ us hl => match us, hl with | [_], _ => rfl) (fun q hq => by simp at hq)
abbrev s_law_alike_axes : Stmt := topS 49
theorem sc_law_alike_axes : FnScope ["low", "high", "wished", "other", "factor", "steps", "step", "values", "told", "value"] ["low", "high", "wished"] (defScope s_law_alike_axes) := ⟨rfl, rfl, rfl, by decide +kernel, rfl, by decide +kernel, by decide +kernel⟩
def m_law_alike_axes : MS := sSeq (sAsg (.many [6, 7]) (eCall Fticks (lCons (eV true 0) (lCons (eV true 1) (lCons (eV true 2) (lNil)))))) (sSeq (sSet 3 (eCall Fticks (lCons (eCall F_law_turned (lCons (eV true 1) (lNil))) (lCons (eCall F_law_turned (lCons (eV true 0) (lNil))) (lCons (eV true 2) (lNil)))))) (sSeq (sIf (mB (e2 fNe (eV false 3) (eTup (lCons (eV false 6) (lCons (eF fTuple (lCons (eN (nLc (.one 9) (iOfT (e1 fRevT (eV true 7))) (mYes) (eCall F_law_turned (lCons (eV false 9) (lNil))) [9])) (lNil))) (lNil)))))) (sRet (eK (.bool false))) (sNx)) (sSeq (sFor (.one 4) (iOf (eN (nLst (lCons (eTup (lCons (eK (.int 10)) (lCons (eK (.int 1)) (lNil)))) (lCons (eTup (lCons (eK (.int 1)) (lCons (eK (.int 100)) (lNil)))) (lNil)))))) (sSeq (sSet 8 (eCall Fticks (lCons (eCall F_law_times (lCons (eV true 4) (lCons (eV true 0) (lNil)))) (lCons (eCall F_law_times (lCons (eV true 4) (lCons (eV true 1) (lNil)))) (lCons (eV true 2) (lNil)))))) (sIf (mB (e2 fNe (eV false 8) (eTup (lCons (eCall F_law_times (lCons (eV false 4) (lCons (eV false 6) (lNil)))) (lCons (eF fTuple (lCons (eN (nLc (.one 9) (iOfT (eV true 7)) (mYes) (eCall F_law_times (lCons (eV false 4) (lCons (eV false 9) (lNil)))) [9])) (lNil))) (lNil)))))) (sRet (eK (.bool false))) (sNx)))) (sSeq (sSet 5 (eCall Fsteps_within (lCons (eV true 0) (lCons (eV true 1) (lNil))))) (sRet (eAnd (e2 fEq (eCall Fsteps_within (lCons (eCall F_law_turned (lCons (eV false 1) (lNil))) (lCons (eCall F_law_turned (lCons (eV false 0) (lNil))) (lNil)))) (eV false 5)) (e2 (fInT false) (eV false 6) (eV false 5))))))))
def F_law_alike_axes : DF := runD 10 m_law_alike_axes
theorem ok_law_alike_axes (T : Tx mg) (hticks : Has P w k mg base "ticks" 6 ["low", "high", "wished"] [] Fticks) (hsteps_within : Has P w k mg base "steps_within" 6 ["low", "high"] [] Fsteps_within) (h_law_turned : Has P w k mg base "_law_turned" 1 ["number"] [] F_law_turned) (h_law_times : Has P w k mg base "_law_times" 2 ["one", "other"] [] F_law_times) {fa : Addr} {fd : FuncData} (FN : Fun k.K "_law_alike_axes" "_law_alike_axes" s_law_alike_axes fa fd) (gn : mg "_law_alike_axes" = some (.ref fa)) : Has P w k mg base "_law_alike_axes" 7 ["low", "high", "wished"] [] F_law_alike_axes :=
  has_mk (j := 6) FN gn sc_law_alike_axes (fun cdv A outer s H E f hr =>
    (dss_cons (ds_asg (by exact (de_fun hticks rfl hr (by decide) rfl (dl_cons (de_var 0) (dl_cons (de_var 1) (dl_cons (de_var 2) dl_nil))) (ln_cons (ln_cons (ln_cons ln0))))) (dg_tup (is := [6, 7]) rfl rfl (pgs_cons (pg_name (i := 6) sc_law_alike_axes.nd rfl (.inl rfl)) (pgs_cons (pg_name (i := 7) sc_law_alike_axes.nd rfl (.inl rfl)) pgs_nil)))) (dss_cons (ds_set (i := 3) sc_law_alike_axes.nd rfl (.inl rfl) (by exact (de_fun hticks rfl hr (by decide) rfl (dl_cons (by exact (de_fun h_law_turned rfl hr (by decide) rfl (dl_cons (de_var 1) dl_nil) (ln_cons ln0))) (dl_cons (by exact (de_fun h_law_turned rfl hr (by decide) rfl (dl_cons (de_var 0) dl_nil) (ln_cons ln0))) (dl_cons (de_var 2) dl_nil))) (ln_cons (ln_cons (ln_cons ln0)))))) (dss_cons (ds_if (by exact (dt_cmp (op_neD hr.units) od_ne (de_var 3) (by exact (de_tup (dl_cons (de_var 6) (dl_cons (by exact (de_callTy call_tuple_of cd_tuple rfl T.m_tuple (by decide +kernel) (dl_cons (by exact (de_n (by exact (dn_lc (own := [("value", 9)]) rfl sc_law_alike_axes.nd (by exact (di_tup rfl (by exact (de_revT rfl (de_var 7))))) (by exact blkOk_by (own := [("value", 9)]) (by show blkC ["low", "high", "wished", "other", "factor", "steps", "step", "values", "told", "value"] (defScope s_law_alike_axes) _ _ = true; decide +kernel)) (fun _ _ _ _ _ _ => (dg_name (i := 9) sc_law_alike_axes.nd rfl (.inl rfl))) (fun _ _ _ _ _ => pts_y) (fun _ _ _ _ _ _ => (by exact (de_fun h_law_turned rfl hr (by decide) rfl (dl_cons (de_var 9) dl_nil) (ln_cons ln0)))))))) dl_nil))) dl_nil)))) (nomark _))) (dss_one (ds_ret de_bl)) dss_nil) (dss_cons (ds_for PassesOwn.never rfl (by exact (di_list rfl (by exact (de_n (by exact (dn_lst (dl_cons (by exact (de_tup (dl_cons de_int (dl_cons de_int dl_nil)))) (dl_cons (by exact (de_tup (dl_cons de_int (dl_cons de_int dl_nil)))) dl_nil)))))))) (dg_name (i := 4) sc_law_alike_axes.nd rfl (.inr rfl)) fun _ => (dss_cons (ds_set (i := 8) sc_law_alike_axes.nd rfl (.inl rfl) (by exact (de_fun hticks rfl hr (by decide) rfl (dl_cons (by exact (de_fun h_law_times rfl hr (by decide) rfl (dl_cons (de_var 4) (dl_cons (de_var 0) dl_nil)) (ln_cons (ln_cons ln0)))) (dl_cons (by exact (de_fun h_law_times rfl hr (by decide) rfl (dl_cons (de_var 4) (dl_cons (de_var 1) dl_nil)) (ln_cons (ln_cons ln0)))) (dl_cons (de_var 2) dl_nil))) (ln_cons (ln_cons (ln_cons ln0)))))) (dss_one (ds_if (by exact (dt_cmp (op_neD hr.units) od_ne (de_var 8) (by exact (de_tup (dl_cons (by exact (de_fun h_law_times rfl hr (by decide) rfl (dl_cons (de_var 4) (dl_cons (de_var 6) dl_nil)) (ln_cons (ln_cons ln0)))) (dl_cons (by exact (de_callTy call_tuple_of cd_tuple rfl T.m_tuple (by decide +kernel) (dl_cons (by exact (de_n (by exact (dn_lc (own := [("value", 9)]) rfl sc_law_alike_axes.nd (by exact (di_tup rfl (de_var 7))) (by exact blkOk_by (own := [("value", 9)]) (by show blkC ["low", "high", "wished", "other", "factor", "steps", "step", "values", "told", "value"] (defScope s_law_alike_axes) _ _ = true; decide +kernel)) (fun _ _ _ _ _ _ => (dg_name (i := 9) sc_law_alike_axes.nd rfl (.inl rfl))) (fun _ _ _ _ _ => pts_y) (fun _ _ _ _ _ _ => (by exact (de_fun h_law_times rfl hr (by decide) rfl (dl_cons (de_var 4) (dl_cons (de_var 9) dl_nil)) (ln_cons (ln_cons ln0))))))))) dl_nil))) dl_nil)))) (nomark _))) (dss_one (ds_ret de_bl)) dss_nil)))) (dss_cons (ds_set (i := 5) sc_law_alike_axes.nd rfl (.inl rfl) (by exact (de_fun hsteps_within rfl hr (by decide) rfl (dl_cons (de_var 0) (dl_cons (de_var 1) dl_nil)) (ln_cons (ln_cons ln0))))) (dss_one (ds_ret (by exact (de_and rfl (by exact (de_cmp (op_eqD hr.units) od_eq (by exact (de_fun hsteps_within rfl hr (by decide) rfl (dl_cons (by exact (de_fun h_law_turned rfl hr (by decide) rfl (dl_cons (de_var 1) dl_nil) (ln_cons ln0))) (dl_cons (by exact (de_fun h_law_turned rfl hr (by decide) rfl (dl_cons (de_var 0) dl_nil) (ln_cons ln0))) dl_nil)) (ln_cons (ln_cons ln0)))) (de_var 5) (nomark _))) (de_one (by exact (de_cmp (op_inT (room65 hr)) od_inT (de_var 6) (de_var 5) (by rfl)))))))))))))) (FN.binds fun _ _ _ _ _ _ us hl => match us, hl with | [_, _, _], _ => rfl) (fun q hq => by simp at hq)
abbrev s_law_values_right : Stmt := topS 50
theorem sc_law_values_right : FnScope ["low", "high", "step", "values", "k", "many"] ["low", "high", "step", "values"] (defScope s_law_values_right) := ⟨rfl, rfl, rfl, by decide +kernel, rfl, by decide +kernel, by decide +kernel⟩
def m_law_values_right : MS := sSeq (sIf (mNot (mB (eCh fLe fLe (eK (.int 2)) (eF fLen (lCons (eV false 3) (lNil))) (eK (.int 10))))) (sRet (eK (.bool false))) (sNx)) (sSeq (sFor (.one 4) (iRg1 (lCons (eF fLen (lCons (eV true 3) (lNil))) (lNil))) (sSeq (sSet 5 (eCall F_law_low (lCons (e2 fMul (e2 fIx (e2 fIx (eV true 3) (eV true 4)) (eK (.int 0))) (e2 fIx (eV true 2) (eK (.int 1)))) (lCons (e2 fMul (e2 fIx (e2 fIx (eV true 3) (eV true 4)) (eK (.int 1))) (e2 fIx (eV true 2) (eK (.int 0)))) (lNil))))) (sIf (mOr (mB (e2 fNe (e2 fIx (eV false 5) (eK (.int 1))) (eK (.int 1)))) (mAnd (mB (e2 fGt (eV false 4) (eK (.int 0)))) (mB (e2 fNe (eCall F_law_minus (lCons (e2 fIx (eV false 3) (eV false 4)) (lCons (e2 fIx (eV false 3) (e2 fSub (eV false 4) (eK (.int 1)))) (lNil)))) (eV false 2))))) (sRet (eK (.bool false))) (sNx)))) (sSeq (sIf (mOr (mTru (eCall F_law_below (lCons (e2 fIx (eV false 3) (eK (.int 0))) (lCons (eV false 0) (lNil))))) (mTru (eCall F_law_below (lCons (eV false 1) (lCons (e2 fIx (eV false 3) (e1 fNeg (eK (.int 1)))) (lNil)))))) (sRet (eK (.bool false))) (sNx)) (sRet (eAnd (eCall F_law_below (lCons (eCall F_law_minus (lCons (e2 fIx (eV false 3) (eK (.int 0))) (lCons (eV false 2) (lNil)))) (lCons (eV false 0) (lNil)))) (eCall F_law_below (lCons (eV false 1) (lCons (eCall F_law_plus (lCons (e2 fIx (eV false 3) (e1 fNeg (eK (.int 1)))) (lCons (eV false 2) (lNil)))) (lNil))))))))
def F_law_values_right : DF := runD 6 m_law_values_right
theorem ok_law_values_right (T : Tx mg) (h_law_low : Has P w k mg base "_law_low" 1 ["top", "bottom"] [] F_law_low) (h_law_below : Has P w k mg base "_law_below" 1 ["one", "other"] [] F_law_below) (h_law_minus : Has P w k mg base "_law_minus" 3 ["one", "other"] [] F_law_minus) (h_law_plus : Has P w k mg base "_law_plus" 2 ["one", "other"] [] F_law_plus) {fa : Addr} {fd : FuncData} (FN : Fun k.K "_law_values_right" "_law_values_right" s_law_values_right fa fd) (gn : mg "_law_values_right" = some (.ref fa)) : Has P w k mg base "_law_values_right" 4 ["low", "high", "step", "values"] [] F_law_values_right :=
  has_mk (j := 3) FN gn sc_law_values_right (fun cdv A outer s H E f hr =>
    (dss_cons (ds_if (by exact (dt_not (by exact (dt_chain op_le od_le op_le od_le de_int (by exact (de_callB call_lenA cd_len rfl T.m_len PySem.boot_len (dl_cons (de_var 3) dl_nil))) de_int)))) (dss_one (ds_ret de_bl)) dss_nil) (dss_cons (ds_for PassesOwn.never rfl (by exact (di_rg1 rfl T.m_range (dl_cons (by exact (de_callB call_lenA cd_len rfl T.m_len PySem.boot_len (dl_cons (de_var 3) dl_nil))) dl_nil))) (dg_name (i := 4) sc_law_values_right.nd rfl (.inl rfl)) fun _ => (dss_cons (ds_set (i := 5) sc_law_values_right.nd rfl (.inl rfl) (by exact (de_fun h_law_low rfl hr (by decide) rfl (dl_cons (by exact (de_op op_mulA od_mul (by exact (de_ix ix_seq od_ix (by exact (de_ix ix_seq od_ix (de_var 3) (de_var 4))) de_int)) (by exact (de_ix ix_seq od_ix (de_var 2) de_int)))) (dl_cons (by exact (de_op op_mulA od_mul (by exact (de_ix ix_seq od_ix (by exact (de_ix ix_seq od_ix (de_var 3) (de_var 4))) de_int)) (by exact (de_ix ix_seq od_ix (de_var 2) de_int)))) dl_nil)) (ln_cons (ln_cons ln0))))) (dss_one (ds_if (by exact (PW.pt (dw_or (by exact (dt_cmp (op_neD hr.units) od_ne (by exact (de_ix ix_seq od_ix (de_var 5) de_int)) de_int (nomark _))) (dw_or1 (by exact (PW.pt (dw_and (by exact (dt_cmp op_gt od_gt (de_var 4) de_int (nomark _))) (dw_and1 (by exact (dt_cmp (op_neD hr.units) od_ne (by exact (de_fun h_law_minus rfl hr (by decide) rfl (dl_cons (by exact (de_ix ix_seq od_ix (de_var 3) (de_var 4))) (dl_cons (by exact (de_ix ix_seq od_ix (de_var 3) (by exact (de_op op_sub od_sub (de_var 4) de_int)))) dl_nil)) (ln_cons (ln_cons ln0)))) (de_var 2) (nomark _))))))))))) (dss_one (ds_ret de_bl)) dss_nil)))) (dss_cons (ds_if (by exact (PW.pt (dw_or (by exact (dt_tru (sm := false) rfl (by exact (de_fun h_law_below rfl hr (by decide) rfl (dl_cons (by exact (de_ix ix_seq od_ix (de_var 3) de_int)) (dl_cons (de_var 0) dl_nil)) (ln_cons (ln_cons ln0)))))) (dw_or1 (by exact (dt_tru (sm := false) rfl (by exact (de_fun h_law_below rfl hr (by decide) rfl (dl_cons (de_var 1) (dl_cons (by exact (de_ix ix_seq od_ix (de_var 3) (by exact (de_un un_neg ud_neg de_int)))) dl_nil)) (ln_cons (ln_cons ln0)))))))))) (dss_one (ds_ret de_bl)) dss_nil) (dss_one (ds_ret (by exact (de_and rfl (by exact (de_fun h_law_below rfl hr (by decide) rfl (dl_cons (by exact (de_fun h_law_minus rfl hr (by decide) rfl (dl_cons (by exact (de_ix ix_seq od_ix (de_var 3) de_int)) (dl_cons (de_var 2) dl_nil)) (ln_cons (ln_cons ln0)))) (dl_cons (de_var 0) dl_nil)) (ln_cons (ln_cons ln0)))) (de_one (by exact (de_fun h_law_below rfl hr (by decide) rfl (dl_cons (de_var 1) (dl_cons (by exact (de_fun h_law_plus rfl hr (by decide) rfl (dl_cons (by exact (de_ix ix_seq od_ix (de_var 3) (by exact (de_un un_neg ud_neg de_int)))) (dl_cons (de_var 2) dl_nil)) (ln_cons (ln_cons ln0)))) dl_nil)) (ln_cons (ln_cons ln0))))))))))))) (FN.binds fun _ _ _ _ _ _ us hl => match us, hl with | [_, _, _, _], _ => rfl) (fun q hq => by simp at hq)
abbrev s_law_moved_right : Stmt := topS 51
theorem sc_law_moved_right : FnScope ["spring", "low", "high", "wished", "way", "moved", "other", "places", "far", "k", "step", "values", "value"] ["spring", "low", "high", "wished"] (defScope s_law_moved_right) := ⟨rfl, rfl, rfl, by decide +kernel, rfl, by decide +kernel, by decide +kernel⟩
def m_law_moved_right : MS := sSeq (sAsg (.many [10, 11]) (eCall Fticks (lCons (eV true 1) (lCons (eV true 2) (lCons (eV true 3) (lNil)))))) (sSeq (sSet 4 (eCall F_law_times (lCons (eV true 10) (lCons (eTup (lCons (e2 fSub (eCall Fd_law_drop (lCons (eV true 0) (lCons (eK (.int 41)) (lNil)))) (eK (.int 20))) (lCons (eK (.int 1)) (lNil)))) (lNil))))) (sSeq (sSet 5 (eTup (lCons (eCall F_law_plus (lCons (eV true 1) (lCons (eV true 4) (lNil)))) (lCons (eCall F_law_plus (lCons (eV true 2) (lCons (eV true 4) (lNil)))) (lNil))))) (sSeq (sFor (.one 6) (iOfT (eCall Fsteps_within (lCons (eV true 1) (lCons (eV true 2) (lNil))))) (sIf (mAnd (mB (e2 fEq (eV false 6) (eV false 10))) (mB (e2 (fInT true) (eV false 6) (eCall Fsteps_within (lCons (e2 fIx (eV false 5) (eK (.int 0))) (lCons (e2 fIx (eV false 5) (eK (.int 1))) (lNil))))))) (sRet (eK (.bool false))) (sNx))) (sSeq (sSet 7 (eN (nLc (.one 12) (iOfT (eV true 11)) (mYes) (eCall Fplaced (lCons (eV true 12) (lCons (eV true 1) (lCons (eV true 2) (lNil))))) [12]))) (sSeq (sSet 8 (eCall F_law_times (lCons (eTup (lCons (eK (.int 100)) (lCons (eK (.int 1)) (lNil)))) (lCons (eCall F_law_low (lCons (e2 fMul (e2 fIx (eV true 10) (eK (.int 0))) (e2 fMul (e2 fIx (eV true 2) (eK (.int 1))) (e2 fIx (eV true 1) (eK (.int 1))))) (lCons (e2 fMul (e2 fIx (eV true 10) (eK (.int 1))) (e2 fSub (e2 fMul (e2 fIx (eV true 2) (eK (.int 0))) (e2 fIx (eV true 1) (eK (.int 1)))) (e2 fMul (e2 fIx (eV true 1) (eK (.int 0))) (e2 fIx (eV true 2) (eK (.int 1)))))) (lNil)))) (lNil))))) (sSeq (sFor (.one 9) (iRg2 (lCons (eK (.int 1)) (lCons (eF fLen (lCons (eV true 7) (lNil))) (lNil)))) (sIf (mB (e2 fNe (eCall F_law_minus (lCons (e2 fIx (eV false 7) (eV false 9)) (lCons (e2 fIx (eV false 7) (e2 fSub (eV false 9) (eK (.int 1)))) (lNil)))) (eV false 8))) (sRet (eK (.bool false))) (sNx))) (sSeq (sIf (mB (e2 fNe (eN (nLst (lCons (eCall Fplaced (lCons (eV false 1) (lCons (eV false 1) (lCons (eV false 2) (lNil))))) (lCons (eCall Fplaced (lCons (eV false 2) (lCons (eV false 1) (lCons (eV false 2) (lNil))))) (lCons (eCall Fplaced (lCons (eCall F_law_plus (lCons (eV false 1) (lCons (eV false 4) (lNil)))) (lCons (e2 fIx (eV false 5) (eK (.int 0))) (lCons (e2 fIx (eV false 5) (eK (.int 1))) (lNil))))) (lNil)))))) (eN (nLst (lCons (eTup (lCons (eK (.int 0)) (lCons (eK (.int 1)) (lNil)))) (lCons (eTup (lCons (eK (.int 100)) (lCons (eK (.int 1)) (lNil)))) (lCons (eTup (lCons (eK (.int 0)) (lCons (eK (.int 1)) (lNil)))) (lNil)))))))) (sRet (eK (.bool false))) (sNx)) (sRet (e2 fEq (eN (nLc (.one 12) (iOfT (eV true 11)) (mYes) (eCall Fplaced (lCons (eCall F_law_plus (lCons (eV false 12) (lCons (eV false 4) (lNil)))) (lCons (e2 fIx (eV false 5) (eK (.int 0))) (lCons (e2 fIx (eV false 5) (eK (.int 1))) (lNil))))) [12])) (eV false 7))))))))))
def F_law_moved_right : DF := runD 13 m_law_moved_right
theorem ok_law_moved_right (T : Tx mg) (hticks : Has P w k mg base "ticks" 6 ["low", "high", "wished"] [] Fticks) (h_law_times : Has P w k mg base "_law_times" 2 ["one", "other"] [] F_law_times) (hsteps_within : Has P w k mg base "steps_within" 6 ["low", "high"] [] Fsteps_within) (h_law_plus : Has P w k mg base "_law_plus" 2 ["one", "other"] [] F_law_plus) (hplaced : Has P w k mg base "placed" 6 ["number", "low", "high"] [] Fplaced) (h_law_low : Has P w k mg base "_law_low" 1 ["top", "bottom"] [] F_law_low) (h_law_minus : Has P w k mg base "_law_minus" 3 ["one", "other"] [] F_law_minus) (h_law_drop : Has P w k mg base "_law_drop" 1 ["spring", "many"] [] Fd_law_drop) {fa : Addr} {fd : FuncData} (FN : Fun k.K "_law_moved_right" "_law_moved_right" s_law_moved_right fa fd) (gn : mg "_law_moved_right" = some (.ref fa)) : Has P w k mg base "_law_moved_right" 7 ["spring", "low", "high", "wished"] [] F_law_moved_right :=
  has_mk (j := 6) FN gn sc_law_moved_right (fun cdv A outer s H E f hr =>
    (dss_cons (ds_asg (by exact (de_fun hticks rfl hr (by decide) rfl (dl_cons (de_var 1) (dl_cons (de_var 2) (dl_cons (de_var 3) dl_nil))) (ln_cons (ln_cons (ln_cons ln0))))) (dg_tup (is := [10, 11]) rfl rfl (pgs_cons (pg_name (i := 10) sc_law_moved_right.nd rfl (.inl rfl)) (pgs_cons (pg_name (i := 11) sc_law_moved_right.nd rfl (.inl rfl)) pgs_nil)))) (dss_cons (ds_set (i := 4) sc_law_moved_right.nd rfl (.inr rfl) (by exact (de_fun h_law_times rfl hr (by decide) rfl (dl_cons (de_var 10) (dl_cons (by exact (de_tup (dl_cons (by exact (de_op op_sub od_sub (by exact (de_fun h_law_drop rfl hr (by decide) rfl (dl_cons (de_var 0) (dl_cons de_int dl_nil)) (ln_cons (ln_cons ln0)))) de_int)) (dl_cons de_int dl_nil)))) dl_nil)) (ln_cons (ln_cons ln0))))) (dss_cons (ds_set (i := 5) sc_law_moved_right.nd rfl (.inr rfl) (by exact (de_tup (dl_cons (by exact (de_fun h_law_plus rfl hr (by decide) rfl (dl_cons (de_var 1) (dl_cons (de_var 4) dl_nil)) (ln_cons (ln_cons ln0)))) (dl_cons (by exact (de_fun h_law_plus rfl hr (by decide) rfl (dl_cons (de_var 2) (dl_cons (de_var 4) dl_nil)) (ln_cons (ln_cons ln0)))) dl_nil))))) (dss_cons (ds_for PassesOwn.never rfl (by exact (di_tup rfl (by exact (de_fun hsteps_within rfl hr (by decide) rfl (dl_cons (de_var 1) (dl_cons (de_var 2) dl_nil)) (ln_cons (ln_cons ln0)))))) (dg_name (i := 6) sc_law_moved_right.nd rfl (.inl rfl)) fun _ => (dss_one (ds_if (by exact (PW.pt (dw_and (by exact (dt_cmp (op_eqD hr.units) od_eq (de_var 6) (de_var 10) (nomark _))) (dw_and1 (by exact (dt_cmp (op_notInT (room65 hr)) od_inT (de_var 6) (by exact (de_fun hsteps_within rfl hr (by decide) rfl (dl_cons (by exact (de_ix ix_seq od_ix (de_var 5) de_int)) (dl_cons (by exact (de_ix ix_seq od_ix (de_var 5) de_int)) dl_nil)) (ln_cons (ln_cons ln0)))) (by rfl))))))) (dss_one (ds_ret de_bl)) dss_nil))) (dss_cons (ds_setLc (own := [("value", 12)]) (i := 7) rfl sc_law_moved_right.nd rfl rfl (sw_true rfl rfl rfl (by decide +kernel)) (by exact (di_tup rfl (de_var 11))) (by exact blkOk_by (own := [("value", 12)]) (by show blkC ["spring", "low", "high", "wished", "way", "moved", "other", "places", "far", "k", "step", "values", "value"] (defScope s_law_moved_right) _ _ = true; decide +kernel)) (fun _ _ _ _ _ _ => (dg_name (i := 12) sc_law_moved_right.nd rfl (.inl rfl))) (fun _ _ _ _ _ => pts_y) (fun _ _ _ _ _ _ => (by exact (de_fun hplaced rfl hr (by decide) rfl (dl_cons (de_var 12) (dl_cons (de_var 1) (dl_cons (de_var 2) dl_nil))) (ln_cons (ln_cons (ln_cons ln0))))))) (dss_cons (ds_set (i := 8) sc_law_moved_right.nd rfl (.inl rfl) (by exact (de_fun h_law_times rfl hr (by decide) rfl (dl_cons (by exact (de_tup (dl_cons de_int (dl_cons de_int dl_nil)))) (dl_cons (by exact (de_fun h_law_low rfl hr (by decide) rfl (dl_cons (by exact (de_op op_mulA od_mul (by exact (de_ix ix_seq od_ix (de_var 10) de_int)) (by exact (de_op op_mulA od_mul (by exact (de_ix ix_seq od_ix (de_var 2) de_int)) (by exact (de_ix ix_seq od_ix (de_var 1) de_int)))))) (dl_cons (by exact (de_op op_mulA od_mul (by exact (de_ix ix_seq od_ix (de_var 10) de_int)) (by exact (de_op op_sub od_sub (by exact (de_op op_mulA od_mul (by exact (de_ix ix_seq od_ix (de_var 2) de_int)) (by exact (de_ix ix_seq od_ix (de_var 1) de_int)))) (by exact (de_op op_mulA od_mul (by exact (de_ix ix_seq od_ix (de_var 1) de_int)) (by exact (de_ix ix_seq od_ix (de_var 2) de_int)))))))) dl_nil)) (ln_cons (ln_cons ln0)))) dl_nil)) (ln_cons (ln_cons ln0))))) (dss_cons (ds_for PassesOwn.never rfl (by exact (di_rg2 rfl T.m_range (dl_cons de_int (dl_cons (by exact (de_callB call_lenA cd_len rfl T.m_len PySem.boot_len (dl_cons (de_var 7) dl_nil))) dl_nil)))) (dg_name (i := 9) sc_law_moved_right.nd rfl (.inl rfl)) fun _ => (dss_one (ds_if (by exact (dt_cmp (op_neD hr.units) od_ne (by exact (de_fun h_law_minus rfl hr (by decide) rfl (dl_cons (by exact (de_ix ix_seq od_ix (de_var 7) (de_var 9))) (dl_cons (by exact (de_ix ix_seq od_ix (de_var 7) (by exact (de_op op_sub od_sub (de_var 9) de_int)))) dl_nil)) (ln_cons (ln_cons ln0)))) (de_var 8) (nomark _))) (dss_one (ds_ret de_bl)) dss_nil))) (dss_cons (ds_if (by exact (dt_cmp (op_neD hr.units) od_ne (by exact (de_n (by exact (dn_lst (dl_cons (by exact (de_fun hplaced rfl hr (by decide) rfl (dl_cons (de_var 1) (dl_cons (de_var 1) (dl_cons (de_var 2) dl_nil))) (ln_cons (ln_cons (ln_cons ln0))))) (dl_cons (by exact (de_fun hplaced rfl hr (by decide) rfl (dl_cons (de_var 2) (dl_cons (de_var 1) (dl_cons (de_var 2) dl_nil))) (ln_cons (ln_cons (ln_cons ln0))))) (dl_cons (by exact (de_fun hplaced rfl hr (by decide) rfl (dl_cons (by exact (de_fun h_law_plus rfl hr (by decide) rfl (dl_cons (de_var 1) (dl_cons (de_var 4) dl_nil)) (ln_cons (ln_cons ln0)))) (dl_cons (by exact (de_ix ix_seq od_ix (de_var 5) de_int)) (dl_cons (by exact (de_ix ix_seq od_ix (de_var 5) de_int)) dl_nil))) (ln_cons (ln_cons (ln_cons ln0))))) dl_nil))))))) (by exact (de_n (by exact (dn_lst (dl_cons (by exact (de_tup (dl_cons de_int (dl_cons de_int dl_nil)))) (dl_cons (by exact (de_tup (dl_cons de_int (dl_cons de_int dl_nil)))) (dl_cons (by exact (de_tup (dl_cons de_int (dl_cons de_int dl_nil)))) dl_nil))))))) (nomark _))) (dss_one (ds_ret de_bl)) dss_nil) (dss_one (ds_ret (by exact (de_cmp (op_eqD hr.units) od_eq (by exact (de_n (by exact (dn_lc (own := [("value", 12)]) rfl sc_law_moved_right.nd (by exact (di_tup rfl (de_var 11))) (by exact blkOk_by (own := [("value", 12)]) (by show blkC ["spring", "low", "high", "wished", "way", "moved", "other", "places", "far", "k", "step", "values", "value"] (defScope s_law_moved_right) _ _ = true; decide +kernel)) (fun _ _ _ _ _ _ => (dg_name (i := 12) sc_law_moved_right.nd rfl (.inl rfl))) (fun _ _ _ _ _ => pts_y) (fun _ _ _ _ _ _ => (by exact (de_fun hplaced rfl hr (by decide) rfl (dl_cons (by exact (de_fun h_law_plus rfl hr (by decide) rfl (dl_cons (de_var 12) (dl_cons (de_var 4) dl_nil)) (ln_cons (ln_cons ln0)))) (dl_cons (by exact (de_ix ix_seq od_ix (de_var 5) de_int)) (dl_cons (by exact (de_ix ix_seq od_ix (de_var 5) de_int)) dl_nil))) (ln_cons (ln_cons (ln_cons ln0)))))))))) (de_var 7) (nomark _)))))))))))))) (FN.binds fun _ _ _ _ _ _ us hl => match us, hl with | [_, _, _, _], _ => rfl) (fun q hq => by simp at hq)
abbrev s_law_spans_right : Stmt := topS 52
theorem sc_law_spans_right : FnScope ["spring", "numbers", "truth", "part", "based", "low", "high", "k"] ["spring"] (defScope s_law_spans_right) := ⟨rfl, rfl, rfl, by decide +kernel, rfl, by decide +kernel, by decide +kernel⟩
def m_law_spans_right : MS := sSeq (sSet 1 (eF fTuple (lCons (eN (nLc (.one 7) (iRg1 (lCons (e2 fAdd (eK (.int 1)) (eCall Fd_law_drop (lCons (eV true 0) (lCons (eK (.int 12)) (lNil))))) (lNil))) (mYes) (eCall F_law_end (lCons (eV true 0) (lNil))) [7])) (lNil)))) (sSeq (sSet 2 (e2 fEq (eCall Fd_law_drop (lCons (eV true 0) (lCons (eK (.int 2)) (lNil)))) (eK (.int 0)))) (sSeq (sAsg (.many [5, 6]) (eCall Fspan_of (lCons (eV true 1) (lCons (eV true 2) (lNil))))) (sSeq (sIf (mOr (mB (e2 fNe (eCall Fspan_of (lCons (eTup (lCons (eV false 6) (lCons (eV false 5) (lNil)))) (lCons (eV false 2) (lNil)))) (eTup (lCons (eV false 5) (lCons (eV false 6) (lNil)))))) (mOr (mB (e2 fNe (eCall Fspan_of (lCons (e1 fRevT (eV false 1)) (lCons (eV false 2) (lNil)))) (eTup (lCons (eV false 5) (lCons (eV false 6) (lNil)))))) (mB (e2 fNe (eCallK Fspan_of [1, 0] (lCons (eV false 2) (lCons (e2 fRepT (eV false 1) (eK (.int 2))) (lNil)))) (eTup (lCons (eV false 5) (lCons (eV false 6) (lNil)))))))) (sRet (eK (.bool false))) (sNx)) (sSeq (sSet 3 (eCall Fspan_of (lCons (eSl (eV true 1) (oNo) (oAt (e2 fAdd (eK (.int 1)) (eCall Fd_law_drop (lCons (eV true 0) (lCons (eF fLen (lCons (eV true 1) (lNil))) (lNil))))))) (lCons (eV true 2) (lNil))))) (sSeq (sIf (mOr (mTru (eCall F_law_below (lCons (e2 fIx (eV false 3) (eK (.int 0))) (lCons (eV false 5) (lNil))))) (mAnd (mTru (eCall F_law_below (lCons (eV false 6) (lCons (e2 fIx (eV false 3) (eK (.int 1))) (lNil))))) (mB (e2 fNe (eCall F_law_minus (lCons (e2 fIx (eV false 3) (eK (.int 1))) (lCons (e2 fIx (eV false 3) (eK (.int 0))) (lNil)))) (eTup (lCons (eK (.int 1)) (lCons (eK (.int 1)) (lNil)))))))) (sRet (eK (.bool false))) (sNx)) (sSeq (sSet 4 (eCall Fspan_of (lCons (eV true 1) (lCons (eK (.bool true)) (lNil))))) (sRet (eAnd (eNot (eCall F_law_below (lCons (eTup (lCons (eK (.int 0)) (lCons (eK (.int 1)) (lNil)))) (lCons (e2 fIx (eV false 4) (eK (.int 0))) (lNil))))) (eAnd (eNot (eCall F_law_below (lCons (e2 fIx (eV false 4) (eK (.int 1))) (lCons (eTup (lCons (eK (.int 0)) (lCons (eK (.int 1)) (lNil)))) (lNil))))) (e2 fEq (eV false 4) (eCall Fspan_of (lCons (e2 fAdd (eV false 1) (eTup (lCons (eTup (lCons (eK (.int 0)) (lCons (eK (.int 1)) (lNil)))) (lNil)))) (lCons (eK (.bool false)) (lNil))))))))))))))
def F_law_spans_right : DF := runD 8 m_law_spans_right
theorem ok_law_spans_right (T : Tx mg) (hspan_of : Has P w k mg base "span_of" 6 ["numbers", "with_nought"] [(["with_nought", "numbers"], [1, 0])] Fspan_of) (h_law_drop : Has P w k mg base "_law_drop" 1 ["spring", "many"] [] Fd_law_drop) (h_law_below : Has P w k mg base "_law_below" 1 ["one", "other"] [] F_law_below) (h_law_end : Has P w k mg base "_law_end" 3 ["spring"] [] F_law_end) (h_law_minus : Has P w k mg base "_law_minus" 3 ["one", "other"] [] F_law_minus) {fa : Addr} {fd : FuncData} (FN : Fun k.K "_law_spans_right" "_law_spans_right" s_law_spans_right fa fd) (gn : mg "_law_spans_right" = some (.ref fa)) : Has P w k mg base "_law_spans_right" 7 ["spring"] [] F_law_spans_right :=
  has_mk (j := 6) FN gn sc_law_spans_right (fun cdv A outer s H E f hr =>
    (dss_cons (ds_set (i := 1) sc_law_spans_right.nd rfl (.inl rfl) (by exact (de_callTy call_tuple_of cd_tuple rfl T.m_tuple (by decide +kernel) (dl_cons (by exact (de_n (by exact (dn_lc (own := [("k", 7)]) rfl sc_law_spans_right.nd (by exact (di_rg1 rfl T.m_range (dl_cons (by exact (de_op op_addA od_add de_int (by exact (de_fun h_law_drop rfl hr (by decide) rfl (dl_cons (de_var 0) (dl_cons de_int dl_nil)) (ln_cons (ln_cons ln0)))))) dl_nil))) (by exact blkOk_by (own := [("k", 7)]) (by show blkC ["spring", "numbers", "truth", "part", "based", "low", "high", "k"] (defScope s_law_spans_right) _ _ = true; decide +kernel)) (fun _ _ _ _ _ _ => (dg_name (i := 7) sc_law_spans_right.nd rfl (.inl rfl))) (fun _ _ _ _ _ => pts_y) (fun _ _ _ _ _ _ => (by exact (de_fun h_law_end rfl hr (by decide) rfl (dl_cons (de_var 0) dl_nil) (ln_cons ln0)))))))) dl_nil)))) (dss_cons (ds_set (i := 2) sc_law_spans_right.nd rfl (.inl rfl) (by exact (de_cmp (op_eqD hr.units) od_eq (by exact (de_fun h_law_drop rfl hr (by decide) rfl (dl_cons (de_var 0) (dl_cons de_int dl_nil)) (ln_cons (ln_cons ln0)))) de_int (nomark _)))) (dss_cons (ds_asg (by exact (de_fun hspan_of rfl hr (by decide) rfl (dl_cons (de_var 1) (dl_cons (de_var 2) dl_nil)) (ln_cons (ln_cons ln0)))) (dg_tup (is := [5, 6]) rfl rfl (pgs_cons (pg_name (i := 5) sc_law_spans_right.nd rfl (.inl rfl)) (pgs_cons (pg_name (i := 6) sc_law_spans_right.nd rfl (.inl rfl)) pgs_nil)))) (dss_cons (ds_if (by exact (PW.pt (dw_or (by exact (dt_cmp (op_neD hr.units) od_ne (by exact (de_fun hspan_of rfl hr (by decide) rfl (dl_cons (by exact (de_tup (dl_cons (de_var 6) (dl_cons (de_var 5) dl_nil)))) (dl_cons (de_var 2) dl_nil)) (ln_cons (ln_cons ln0)))) (by exact (de_tup (dl_cons (de_var 5) (dl_cons (de_var 6) dl_nil)))) (nomark _))) (dw_or (by exact (dt_cmp (op_neD hr.units) od_ne (by exact (de_fun hspan_of rfl hr (by decide) rfl (dl_cons (by exact (de_revT rfl (de_var 1))) (dl_cons (de_var 2) dl_nil)) (ln_cons (ln_cons ln0)))) (by exact (de_tup (dl_cons (de_var 5) (dl_cons (de_var 6) dl_nil)))) (nomark _))) (dw_or1 (by exact (dt_cmp (op_neD hr.units) od_ne (by exact (de_funK (ks := ["with_nought", "numbers"]) (is := [1, 0]) hspan_of rfl hr (by decide) rfl (by decide) (dk_cons (de_var 2) (dk_cons (by exact (de_op op_repT od_repT (de_var 1) de_int)) dk_nil)) (ln_cons (ln_cons ln0)))) (by exact (de_tup (dl_cons (de_var 5) (dl_cons (de_var 6) dl_nil)))) (nomark _)))))))) (dss_one (ds_ret de_bl)) dss_nil) (dss_cons (ds_set (i := 3) sc_law_spans_right.nd rfl (.inl rfl) (by exact (de_fun hspan_of rfl hr (by decide) rfl (dl_cons (by exact (de_slice rfl (de_var 1) do_none (do_some (sm := true) (by exact (de_op op_addA od_add de_int (by exact (de_fun h_law_drop rfl hr (by decide) rfl (dl_cons (de_var 0) (dl_cons (by exact (de_callB call_lenA cd_len rfl T.m_len PySem.boot_len (dl_cons (de_var 1) dl_nil))) dl_nil)) (ln_cons (ln_cons ln0))))))))) (dl_cons (de_var 2) dl_nil)) (ln_cons (ln_cons ln0))))) (dss_cons (ds_if (by exact (PW.pt (dw_or (by exact (dt_tru (sm := false) rfl (by exact (de_fun h_law_below rfl hr (by decide) rfl (dl_cons (by exact (de_ix ix_seq od_ix (de_var 3) de_int)) (dl_cons (de_var 5) dl_nil)) (ln_cons (ln_cons ln0)))))) (dw_or1 (by exact (PW.pt (dw_and (by exact (dt_tru (sm := false) rfl (by exact (de_fun h_law_below rfl hr (by decide) rfl (dl_cons (de_var 6) (dl_cons (by exact (de_ix ix_seq od_ix (de_var 3) de_int)) dl_nil)) (ln_cons (ln_cons ln0)))))) (dw_and1 (by exact (dt_cmp (op_neD hr.units) od_ne (by exact (de_fun h_law_minus rfl hr (by decide) rfl (dl_cons (by exact (de_ix ix_seq od_ix (de_var 3) de_int)) (dl_cons (by exact (de_ix ix_seq od_ix (de_var 3) de_int)) dl_nil)) (ln_cons (ln_cons ln0)))) (by exact (de_tup (dl_cons de_int (dl_cons de_int dl_nil)))) (nomark _))))))))))) (dss_one (ds_ret de_bl)) dss_nil) (dss_cons (ds_set (i := 4) sc_law_spans_right.nd rfl (.inl rfl) (by exact (de_fun hspan_of rfl hr (by decide) rfl (dl_cons (de_var 1) (dl_cons de_bl dl_nil)) (ln_cons (ln_cons ln0))))) (dss_one (ds_ret (by exact (de_and rfl (by exact (de_not rfl (by exact (de_fun h_law_below rfl hr (by decide) rfl (dl_cons (by exact (de_tup (dl_cons de_int (dl_cons de_int dl_nil)))) (dl_cons (by exact (de_ix ix_seq od_ix (de_var 4) de_int)) dl_nil)) (ln_cons (ln_cons ln0)))))) (de_and rfl (by exact (de_not rfl (by exact (de_fun h_law_below rfl hr (by decide) rfl (dl_cons (by exact (de_ix ix_seq od_ix (de_var 4) de_int)) (dl_cons (by exact (de_tup (dl_cons de_int (dl_cons de_int dl_nil)))) dl_nil)) (ln_cons (ln_cons ln0)))))) (de_one (by exact (de_cmp (op_eqD hr.units) od_eq (de_var 4) (by exact (de_fun hspan_of rfl hr (by decide) rfl (dl_cons (by exact (de_op op_addA od_add (de_var 1) (by exact (de_tup (dl_cons (by exact (de_tup (dl_cons de_int (dl_cons de_int dl_nil)))) dl_nil))))) (dl_cons de_bl dl_nil)) (ln_cons (ln_cons ln0)))) (nomark _))))))))))))))))) (FN.binds fun _ _ _ _ _ _ us hl => match us, hl with | [_], _ => rfl) (fun q hq => by simp at hq)
abbrev slaw : Stmt := topS 53
theorem sclaw : FnScope ["script", "spring", "turn", "wished", "low", "high", "step", "values"] ["script"] (defScope slaw) := ⟨rfl, rfl, rfl, by decide +kernel, rfl, by decide +kernel, by decide +kernel⟩
def mlaw : MS := sSeq (sFor (.one 2) (iRg1 (lCons (eK (.int 5)) (lNil))) (sSeq (sAsg (.many [4, 5]) (eCall F_law_axis (lCons (eV true 1) (lNil)))) (sSeq (sSet 3 (e2 fAdd (eK (.int 2)) (eCall Fd_law_drop (lCons (eV true 1) (lCons (eK (.int 9)) (lNil)))))) (sSeq (sAsg (.many [6, 7]) (eCall Fticks (lCons (eV true 4) (lCons (eV true 5) (lCons (eV true 3) (lNil)))))) (sSeq (sIf (mOr (mNot (mTru (eCall F_law_alike_axes (lCons (eV false 4) (lCons (eV false 5) (lCons (eV false 3) (lNil))))))) (mNot (mTru (eCall F_law_values_right (lCons (eV false 4) (lCons (eV false 5) (lCons (eV false 6) (lCons (eV false 7) (lNil))))))))) (sRet (eK (.bool false))) (sNx)) (sIf (mOr (mNot (mTru (eCall F_law_moved_right (lCons (eV false 1) (lCons (eV false 4) (lCons (eV false 5) (lCons (eV false 3) (lNil)))))))) (mNot (mTru (eCall F_law_spans_right (lCons (eV false 1) (lNil)))))) (sRet (eK (.bool false))) (sNx))))))) (sRet (eK (.bool true)))
theorem restlaw (T : Tx mg) (h_law_axis : Has P w k mg base "_law_axis" 4 ["spring"] [] F_law_axis) (hticks : Has P w k mg base "ticks" 6 ["low", "high", "wished"] [] Fticks) (h_law_drop : Has P w k mg base "_law_drop" 1 ["spring", "many"] [] Fd_law_drop) (h_law_alike_axes : Has P w k mg base "_law_alike_axes" 7 ["low", "high", "wished"] [] F_law_alike_axes) (h_law_values_right : Has P w k mg base "_law_values_right" 4 ["low", "high", "step", "values"] [] F_law_values_right) (h_law_moved_right : Has P w k mg base "_law_moved_right" 7 ["spring", "low", "high", "wished"] [] F_law_moved_right) (h_law_spans_right : Has P w k mg base "_law_spans_right" 7 ["spring"] [] F_law_spans_right) {fa : Addr} (cdv : Value) (A : Around) (outer : List Env) (s : Shared) (H : Hp) (E : XK) (f : Fx) (hr : Room 7 (A.deeper (envOfC "law" (defScope slaw) s.heap.objs.size fa cdv))) :
    PSs (cxOf CX0 P w k.K mg base ["script", "spring", "turn", "wished", "low", "high", "step", "values"] "law" (defScope slaw) fa cdv A outer s H E).nox ((defBody slaw).drop 1) (tS k f [] mlaw) :=
    (dss_cons (ds_for PassesOwn.never rfl (by exact (di_rg1 rfl T.m_range (dl_cons de_int dl_nil))) (dg_name (i := 2) sclaw.nd rfl (.inl rfl)) fun _ => (dss_cons (ds_asg (by exact (de_fun h_law_axis rfl hr (by decide) rfl (dl_cons (de_var 1) dl_nil) (ln_cons ln0))) (dg_tup (is := [4, 5]) rfl rfl (pgs_cons (pg_name (i := 4) sclaw.nd rfl (.inl rfl)) (pgs_cons (pg_name (i := 5) sclaw.nd rfl (.inl rfl)) pgs_nil)))) (dss_cons (ds_set (i := 3) sclaw.nd rfl (.inl rfl) (by exact (de_op op_addA od_add de_int (by exact (de_fun h_law_drop rfl hr (by decide) rfl (dl_cons (de_var 1) (dl_cons de_int dl_nil)) (ln_cons (ln_cons ln0))))))) (dss_cons (ds_asg (by exact (de_fun hticks rfl hr (by decide) rfl (dl_cons (de_var 4) (dl_cons (de_var 5) (dl_cons (de_var 3) dl_nil))) (ln_cons (ln_cons (ln_cons ln0))))) (dg_tup (is := [6, 7]) rfl rfl (pgs_cons (pg_name (i := 6) sclaw.nd rfl (.inl rfl)) (pgs_cons (pg_name (i := 7) sclaw.nd rfl (.inl rfl)) pgs_nil)))) (dss_cons (ds_if (by exact (PW.pt (dw_or (by exact (dt_not (by exact (dt_tru (sm := false) rfl (by exact (de_fun h_law_alike_axes rfl hr (by decide) rfl (dl_cons (de_var 4) (dl_cons (de_var 5) (dl_cons (de_var 3) dl_nil))) (ln_cons (ln_cons (ln_cons ln0))))))))) (dw_or1 (by exact (dt_not (by exact (dt_tru (sm := false) rfl (by exact (de_fun h_law_values_right rfl hr (by decide) rfl (dl_cons (de_var 4) (dl_cons (de_var 5) (dl_cons (de_var 6) (dl_cons (de_var 7) dl_nil)))) (ln_cons (ln_cons (ln_cons (ln_cons ln0)))))))))))))) (dss_one (ds_ret de_bl)) dss_nil) (dss_one (ds_if (by exact (PW.pt (dw_or (by exact (dt_not (by exact (dt_tru (sm := false) rfl (by exact (de_fun h_law_moved_right rfl hr (by decide) rfl (dl_cons (de_var 1) (dl_cons (de_var 4) (dl_cons (de_var 5) (dl_cons (de_var 3) dl_nil)))) (ln_cons (ln_cons (ln_cons (ln_cons ln0)))))))))) (dw_or1 (by exact (dt_not (by exact (dt_tru (sm := false) rfl (by exact (de_fun h_law_spans_right rfl hr (by decide) rfl (dl_cons (de_var 1) dl_nil) (ln_cons ln0))))))))))) (dss_one (ds_ret de_bl)) dss_nil))))))) (dss_one (ds_ret de_bl)))
end
end K06

set_option Elab.async false
set_option linter.all false
set_option maxRecDepth 100000
set_option maxHeartbeats 4000000
namespace K06
open PySem PySem.Spec PyProof.Rows L2 DL
/-! ### fractions -/
def fr (r : Rat) : D := .tuple [.int r.num, .int (r.den : Int)]
/-- by lowest terms: what both ways come to -/
theorem low_num {t b : Int} (hb : b ≠ 0) : t.fdiv (if b < 0 then -(Nat.gcd t.natAbs b.natAbs : Int) else (Nat.gcd t.natAbs b.natAbs : Int)) = (Rat.divInt t b).num := by
  rw [Rat.num_divInt]
  have hg : (Nat.gcd t.natAbs b.natAbs : Int) = (b.gcd t : Int) := by rw [Int.gcd, Nat.gcd_comm]
  rw [hg]
  have h0 : (b.gcd t : Int) ≠ 0 := by
    intro z
    have : b.gcd t = 0 := by omega
    exact hb (Int.gcd_eq_zero_iff.mp this).1
  obtain ⟨k, hk⟩ := Int.gcd_dvd_right (a := b) (b := t)
  generalize (b.gcd t : Int) = d at *
  subst hk
  by_cases h : b < 0
  · rw [if_pos h, Int.sign_eq_neg_one_of_neg h]
    rw [show -1 * (d * k) = d * (-k) by rw [Int.mul_neg]; omega, Int.mul_ediv_cancel_left _ h0, show d * k = (-d) * (-k) by rw [Int.neg_mul_neg], Int.mul_fdiv_cancel_left _ (by omega)]
  · rw [if_neg h, Int.sign_eq_one_of_pos (by omega), Int.one_mul, Int.mul_ediv_cancel_left _ h0, Int.mul_fdiv_cancel_left _ h0]
theorem low_den {t b : Int} (hb : b ≠ 0) : b.fdiv (if b < 0 then -(Nat.gcd t.natAbs b.natAbs : Int) else (Nat.gcd t.natAbs b.natAbs : Int)) = ((Rat.divInt t b).den : Int) := by
  rw [Rat.den_divInt, if_neg hb]
  have hg : (Nat.gcd t.natAbs b.natAbs : Int) = (b.gcd t : Int) := by rw [Int.gcd, Nat.gcd_comm]
  rw [hg, Int.natCast_ediv]
  have h0 : (b.gcd t : Int) ≠ 0 := by
    intro z
    have : b.gcd t = 0 := by omega
    exact hb (Int.gcd_eq_zero_iff.mp this).1
  obtain ⟨k, hk⟩ := Int.gcd_dvd_left (a := b) (b := t)
  by_cases h : b < 0
  · rw [if_pos h]
    have e : (b.natAbs : Int) = (b.gcd t : Int) * (-k) := by rw [Int.mul_neg, ← hk]; omega
    rw [e, Int.mul_ediv_cancel_left _ h0]
    generalize (b.gcd t : Int) = d at *
    subst hk
    rw [show d * k = (-d) * (-k) by rw [Int.neg_mul_neg], Int.mul_fdiv_cancel_left _ (by omega)]
  · rw [if_neg h]
    have e : (b.natAbs : Int) = (b.gcd t : Int) * k := by rw [← hk]; omega
    rw [e, Int.mul_ediv_cancel_left _ h0]
    generalize (b.gcd t : Int) = d at *
    subst hk
    rw [Int.mul_fdiv_cancel_left _ h0]
theorem log_of {n : Nat} (h : n < 2 ^ 9000) : n.log2 < 9000 := by
  by_cases z : n = 0
  · subst z; decide
  · exact (Nat.log2_lt z).mpr h
theorem gcd_bd {t b : Int} (hb : b ≠ 0) (h : b.natAbs < 2 ^ 9000) : Nat.gcd t.natAbs b.natAbs ≠ 0 ∧ (Nat.gcd t.natAbs b.natAbs).log2 < 9000 := by
  have h1 : Nat.gcd t.natAbs b.natAbs ≤ b.natAbs := Nat.gcd_le_right _ (by omega)
  exact ⟨fun z => hb (by have := (Nat.gcd_eq_zero_iff.mp z).2; omega), log_of (by omega)⟩
theorem sz_ok {n : Nat} (h : n ≤ 100) : n ≤ sizeLine := Nat.le_trans h (by decide)
theorem reduced_ok {t b : Int} (hb : b ≠ 0) (h : b.natAbs < 2 ^ 9000) (g : G) : F_reduced [.int t, .int b] g = some (fr (Rat.divInt t b), g) := by
  obtain ⟨h1, h2⟩ := gcd_bd (t := t) hb h
  refine Ok.eq ?_
  unfold F_reduced m_reduced
  (try simp only [fEq_int, fNe_int, ok_eK, ok_lNil, ok_lCons, ok_e2, ok_e1, ok_eF, ok_eTup, ok_nLst, ok_eN, ok_mB, ok_mTru, ok_mNot, ok_mAnd, ok_mOr, ok_eAnd, ok_eOr, ok_eNot, ok_eIf, ok_eIsi, ok_eIsi2, ok_eTyC, ok_eCall, ok_eCallK, ok_oNo, ok_oAt, ok_eSl, ok_iOf, ok_iOfT, ok_iRg1, oks_sNx, oks_sSeq, oks_sSet, oks_sOwn, oks_sDrop, oks_sRet, oks_sIf, oks_sAsg, oks_sPar, oks_sFor, ok_runD, ok_some, oks_some, startE, eV, setsE, Tg.parts, fAdd_int, fAdd_lst, fAdd_tup, fSub_int, fMul_int, fDiv_int, fMod_int, fPow_int, fLt_int, fLe_int, fGt_int, fGe_int, fNeg_int, fIx_lst, fIx_tup, fLen_lst, fLen_tup, fAbs_int, fInt1_int, fInt1_bl, fGcd_int, fTuple_lst, fTuple_tup, fList_lst, fList_tup, fTru_bl, fTru_lst, fTru_tup, fIsB_bl, atI_0, atI_1, ty_int, ty_bl, ty_lst, ty_tup, ty_str, ty_non, List.map_cons, List.map_nil, List.length_cons, List.length_nil, List.replicate, List.cons_append, List.nil_append, List.getElem?_cons_zero, List.getElem?_cons_succ, List.set_cons_zero, List.set_cons_succ, List.zip_cons_cons, List.zip_nil_right, List.zip_nil_left, Option.some.injEq, exists_eq_left', exists_eq_left, Nat.reduceAdd, Nat.reduceSub, Nat.reduceEqDiff, PyData.bool.injEq, PyData.int.injEq, PyData.list.injEq, PyData.tuple.injEq, if_true, if_false, reduceIte, true_and, and_true, decide_true, decide_false, Bool.false_eq_true])
  by_cases hn : b < 0
  · have e1 := low_num (t := t) hb
    have e2 := low_den (t := t) hb
    rw [if_pos hn] at e1 e2
    simp only [hn, decide_true, if_true, cDiv, Int.natAbs_neg, Int.natAbs_natCast]
    simp [h1, h2, e1, e2, fr, sz_ok]
  · have e1 := low_num (t := t) hb
    have e2 := low_den (t := t) hb
    rw [if_neg hn] at e1 e2
    simp only [hn, decide_false, cDiv, Int.natAbs_natCast]
    simp [h1, h2, e1, e2, fr, sz_ok]
abbrev cLow : MT := mB (e2 fGt (eV false 3) (eK (.int 0)))
abbrev bLow : MS := sPar [2, 3] (lCons (eV true 3) (lCons (e2 fMod (eF fInt1 (lCons (eV true 2) (lNil))) (eV true 3)) (lNil)))
theorem whLow (t b : Sl) (g : G) : ∀ (n x y : Nat), y < n → whL cLow bLow n [t, b, .val (.int x), .val (.int y)] g = some (.nx, [t, b, .val (.int (Nat.gcd x y : Nat)), .val (.int 0)], g)
  | 0, _, _, h => absurd h (by omega)
  | n + 1, x, y, h => by
    have hc : cLow [t, b, .val (.int x), .val (.int y)] g = some (decide (0 < y), g) := by
      refine Ok.eq ?_
      (try simp only [fEq_int, fNe_int, ok_eK, ok_lNil, ok_lCons, ok_e2, ok_e1, ok_eF, ok_eTup, ok_nLst, ok_eN, ok_mB, ok_mTru, ok_mNot, ok_mAnd, ok_mOr, ok_eAnd, ok_eOr, ok_eNot, ok_eIf, ok_eIsi, ok_eIsi2, ok_eTyC, ok_eCall, ok_eCallK, ok_oNo, ok_oAt, ok_eSl, ok_iOf, ok_iOfT, ok_iRg1, oks_sNx, oks_sSeq, oks_sSet, oks_sOwn, oks_sDrop, oks_sRet, oks_sIf, oks_sAsg, oks_sPar, oks_sFor, ok_runD, ok_some, oks_some, startE, eV, setsE, Tg.parts, fAdd_int, fAdd_lst, fAdd_tup, fSub_int, fMul_int, fDiv_int, fMod_int, fPow_int, fLt_int, fLe_int, fGt_int, fGe_int, fNeg_int, fIx_lst, fIx_tup, fLen_lst, fLen_tup, fAbs_int, fInt1_int, fInt1_bl, fGcd_int, fTuple_lst, fTuple_tup, fList_lst, fList_tup, fTru_bl, fTru_lst, fTru_tup, fIsB_bl, atI_0, atI_1, ty_int, ty_bl, ty_lst, ty_tup, ty_str, ty_non, List.map_cons, List.map_nil, List.length_cons, List.length_nil, List.replicate, List.cons_append, List.nil_append, List.getElem?_cons_zero, List.getElem?_cons_succ, List.set_cons_zero, List.set_cons_succ, List.zip_cons_cons, List.zip_nil_right, List.zip_nil_left, Option.some.injEq, exists_eq_left', exists_eq_left, Nat.reduceAdd, Nat.reduceSub, Nat.reduceEqDiff, PyData.bool.injEq, PyData.int.injEq, PyData.list.injEq, PyData.tuple.injEq, if_true, if_false, reduceIte, true_and, and_true, decide_true, decide_false, Bool.false_eq_true])
      simp
    unfold whL
    rw [hc]
    by_cases hy : 0 < y
    · have hb : bLow [t, b, .val (.int x), .val (.int y)] g = some (.nx, [t, b, .val (.int y), .val (.int (x % y : Nat))], g) := by
        have : OkS (bLow [t, b, .val (.int x), .val (.int y)] g) fun r E' g' => r = .nx ∧ E' = [t, b, .val (.int y), .val (.int (x % y : Nat))] ∧ g' = g := by
          (try simp only [fEq_int, fNe_int, ok_eK, ok_lNil, ok_lCons, ok_e2, ok_e1, ok_eF, ok_eTup, ok_nLst, ok_eN, ok_mB, ok_mTru, ok_mNot, ok_mAnd, ok_mOr, ok_eAnd, ok_eOr, ok_eNot, ok_eIf, ok_eIsi, ok_eIsi2, ok_eTyC, ok_eCall, ok_eCallK, ok_oNo, ok_oAt, ok_eSl, ok_iOf, ok_iOfT, ok_iRg1, oks_sNx, oks_sSeq, oks_sSet, oks_sOwn, oks_sDrop, oks_sRet, oks_sIf, oks_sAsg, oks_sPar, oks_sFor, ok_runD, ok_some, oks_some, startE, eV, setsE, Tg.parts, fAdd_int, fAdd_lst, fAdd_tup, fSub_int, fMul_int, fDiv_int, fMod_int, fPow_int, fLt_int, fLe_int, fGt_int, fGe_int, fNeg_int, fIx_lst, fIx_tup, fLen_lst, fLen_tup, fAbs_int, fInt1_int, fInt1_bl, fGcd_int, fTuple_lst, fTuple_tup, fList_lst, fList_tup, fTru_bl, fTru_lst, fTru_tup, fIsB_bl, atI_0, atI_1, ty_int, ty_bl, ty_lst, ty_tup, ty_str, ty_non, List.map_cons, List.map_nil, List.length_cons, List.length_nil, List.replicate, List.cons_append, List.nil_append, List.getElem?_cons_zero, List.getElem?_cons_succ, List.set_cons_zero, List.set_cons_succ, List.zip_cons_cons, List.zip_nil_right, List.zip_nil_left, Option.some.injEq, exists_eq_left', exists_eq_left, Nat.reduceAdd, Nat.reduceSub, Nat.reduceEqDiff, PyData.bool.injEq, PyData.int.injEq, PyData.list.injEq, PyData.tuple.injEq, if_true, if_false, reduceIte, true_and, and_true, decide_true, decide_false, Bool.false_eq_true])
          simp [hy]
        obtain ⟨r, E', g', e, rfl, rfl, rfl⟩ := this
        exact e
      simp only [hy, decide_true, hb]
      have := whLow t b g n y (x % y) (by have := Nat.mod_lt x hy; omega)
      rw [this, show Nat.gcd y (x % y) = Nat.gcd x y by rw [Nat.gcd_comm x y, Nat.gcd_rec y x, Nat.gcd_comm]]
    · obtain rfl : y = 0 := by omega
      simp
theorem low_ok {t b : Int} (hb : b ≠ 0) (h : b.natAbs < 2 ^ 9000) (g : G) : F_law_low [.int t, .int b] g = some (fr (Rat.divInt t b), g) := by
  obtain ⟨h1, h2⟩ := gcd_bd (t := t) hb h
  refine Ok.eq ?_
  unfold F_law_low m_law_low
  (try simp only [fEq_int, fNe_int, ok_eK, ok_lNil, ok_lCons, ok_e2, ok_e1, ok_eF, ok_eTup, ok_nLst, ok_eN, ok_mB, ok_mTru, ok_mNot, ok_mAnd, ok_mOr, ok_eAnd, ok_eOr, ok_eNot, ok_eIf, ok_eIsi, ok_eIsi2, ok_eTyC, ok_eCall, ok_eCallK, ok_oNo, ok_oAt, ok_eSl, ok_iOf, ok_iOfT, ok_iRg1, oks_sNx, oks_sSeq, oks_sSet, oks_sOwn, oks_sDrop, oks_sRet, oks_sIf, oks_sAsg, oks_sPar, oks_sFor, ok_runD, ok_some, oks_some, startE, eV, setsE, Tg.parts, fAdd_int, fAdd_lst, fAdd_tup, fSub_int, fMul_int, fDiv_int, fMod_int, fPow_int, fLt_int, fLe_int, fGt_int, fGe_int, fNeg_int, fIx_lst, fIx_tup, fLen_lst, fLen_tup, fAbs_int, fInt1_int, fInt1_bl, fGcd_int, fTuple_lst, fTuple_tup, fList_lst, fList_tup, fTru_bl, fTru_lst, fTru_tup, fIsB_bl, atI_0, atI_1, ty_int, ty_bl, ty_lst, ty_tup, ty_str, ty_non, List.map_cons, List.map_nil, List.length_cons, List.length_nil, List.replicate, List.cons_append, List.nil_append, List.getElem?_cons_zero, List.getElem?_cons_succ, List.set_cons_zero, List.set_cons_succ, List.zip_cons_cons, List.zip_nil_right, List.zip_nil_left, Option.some.injEq, exists_eq_left', exists_eq_left, Nat.reduceAdd, Nat.reduceSub, Nat.reduceEqDiff, PyData.bool.injEq, PyData.int.injEq, PyData.list.injEq, PyData.tuple.injEq, if_true, if_false, reduceIte, true_and, and_true, decide_true, decide_false, Bool.false_eq_true])
  have ea : ∀ i : Int, (if i < 0 then -i else i) = (i.natAbs : Int) := fun i => by split <;> omega
  rw [ea, ea]
  unfold sWhile
  have hf : fuI 3 [Sl.val (.int t), Sl.val (.int b), Sl.val (.int (t.natAbs : Int)), Sl.val (.int (b.natAbs : Int))] g = b.natAbs + 2 := by
    show (b.natAbs : Int).natAbs + 2 = _
    rw [Int.natAbs_natCast]
  rw [hf, whLow _ _ g (b.natAbs + 2) t.natAbs b.natAbs (by omega)]
  (try simp only [fEq_int, fNe_int, ok_eK, ok_lNil, ok_lCons, ok_e2, ok_e1, ok_eF, ok_eTup, ok_nLst, ok_eN, ok_mB, ok_mTru, ok_mNot, ok_mAnd, ok_mOr, ok_eAnd, ok_eOr, ok_eNot, ok_eIf, ok_eIsi, ok_eIsi2, ok_eTyC, ok_eCall, ok_eCallK, ok_oNo, ok_oAt, ok_eSl, ok_iOf, ok_iOfT, ok_iRg1, oks_sNx, oks_sSeq, oks_sSet, oks_sOwn, oks_sDrop, oks_sRet, oks_sIf, oks_sAsg, oks_sPar, oks_sFor, ok_runD, ok_some, oks_some, startE, eV, setsE, Tg.parts, fAdd_int, fAdd_lst, fAdd_tup, fSub_int, fMul_int, fDiv_int, fMod_int, fPow_int, fLt_int, fLe_int, fGt_int, fGe_int, fNeg_int, fIx_lst, fIx_tup, fLen_lst, fLen_tup, fAbs_int, fInt1_int, fInt1_bl, fGcd_int, fTuple_lst, fTuple_tup, fList_lst, fList_tup, fTru_bl, fTru_lst, fTru_tup, fIsB_bl, atI_0, atI_1, ty_int, ty_bl, ty_lst, ty_tup, ty_str, ty_non, List.map_cons, List.map_nil, List.length_cons, List.length_nil, List.replicate, List.cons_append, List.nil_append, List.getElem?_cons_zero, List.getElem?_cons_succ, List.set_cons_zero, List.set_cons_succ, List.zip_cons_cons, List.zip_nil_right, List.zip_nil_left, Option.some.injEq, exists_eq_left', exists_eq_left, Nat.reduceAdd, Nat.reduceSub, Nat.reduceEqDiff, PyData.bool.injEq, PyData.int.injEq, PyData.list.injEq, PyData.tuple.injEq, if_true, if_false, reduceIte, true_and, and_true, decide_true, decide_false, Bool.false_eq_true])
  by_cases hn : b < 0
  · have e1 := low_num (t := t) hb
    have e2 := low_den (t := t) hb
    rw [if_pos hn] at e1 e2
    have hp : ¬ (0 < b) := by omega
    simp only [hp, decide_false, cDiv]
    (try simp only [fEq_int, fNe_int, ok_eK, ok_lNil, ok_lCons, ok_e2, ok_e1, ok_eF, ok_eTup, ok_nLst, ok_eN, ok_mB, ok_mTru, ok_mNot, ok_mAnd, ok_mOr, ok_eAnd, ok_eOr, ok_eNot, ok_eIf, ok_eIsi, ok_eIsi2, ok_eTyC, ok_eCall, ok_eCallK, ok_oNo, ok_oAt, ok_eSl, ok_iOf, ok_iOfT, ok_iRg1, oks_sNx, oks_sSeq, oks_sSet, oks_sOwn, oks_sDrop, oks_sRet, oks_sIf, oks_sAsg, oks_sPar, oks_sFor, ok_runD, ok_some, oks_some, startE, eV, setsE, Tg.parts, fAdd_int, fAdd_lst, fAdd_tup, fSub_int, fMul_int, fDiv_int, fMod_int, fPow_int, fLt_int, fLe_int, fGt_int, fGe_int, fNeg_int, fIx_lst, fIx_tup, fLen_lst, fLen_tup, fAbs_int, fInt1_int, fInt1_bl, fGcd_int, fTuple_lst, fTuple_tup, fList_lst, fList_tup, fTru_bl, fTru_lst, fTru_tup, fIsB_bl, atI_0, atI_1, ty_int, ty_bl, ty_lst, ty_tup, ty_str, ty_non, List.map_cons, List.map_nil, List.length_cons, List.length_nil, List.replicate, List.cons_append, List.nil_append, List.getElem?_cons_zero, List.getElem?_cons_succ, List.set_cons_zero, List.set_cons_succ, List.zip_cons_cons, List.zip_nil_right, List.zip_nil_left, Option.some.injEq, exists_eq_left', exists_eq_left, Nat.reduceAdd, Nat.reduceSub, Nat.reduceEqDiff, PyData.bool.injEq, PyData.int.injEq, PyData.list.injEq, PyData.tuple.injEq, if_true, if_false, reduceIte, true_and, and_true, decide_true, decide_false, Bool.false_eq_true])
    simp [h1, h2, e1, e2, fr, sz_ok]
  · have e1 := low_num (t := t) hb
    have e2 := low_den (t := t) hb
    rw [if_neg hn] at e1 e2
    have hp : 0 < b := by omega
    simp only [hp, decide_true, cDiv]
    (try simp only [fEq_int, fNe_int, ok_eK, ok_lNil, ok_lCons, ok_e2, ok_e1, ok_eF, ok_eTup, ok_nLst, ok_eN, ok_mB, ok_mTru, ok_mNot, ok_mAnd, ok_mOr, ok_eAnd, ok_eOr, ok_eNot, ok_eIf, ok_eIsi, ok_eIsi2, ok_eTyC, ok_eCall, ok_eCallK, ok_oNo, ok_oAt, ok_eSl, ok_iOf, ok_iOfT, ok_iRg1, oks_sNx, oks_sSeq, oks_sSet, oks_sOwn, oks_sDrop, oks_sRet, oks_sIf, oks_sAsg, oks_sPar, oks_sFor, ok_runD, ok_some, oks_some, startE, eV, setsE, Tg.parts, fAdd_int, fAdd_lst, fAdd_tup, fSub_int, fMul_int, fDiv_int, fMod_int, fPow_int, fLt_int, fLe_int, fGt_int, fGe_int, fNeg_int, fIx_lst, fIx_tup, fLen_lst, fLen_tup, fAbs_int, fInt1_int, fInt1_bl, fGcd_int, fTuple_lst, fTuple_tup, fList_lst, fList_tup, fTru_bl, fTru_lst, fTru_tup, fIsB_bl, atI_0, atI_1, ty_int, ty_bl, ty_lst, ty_tup, ty_str, ty_non, List.map_cons, List.map_nil, List.length_cons, List.length_nil, List.replicate, List.cons_append, List.nil_append, List.getElem?_cons_zero, List.getElem?_cons_succ, List.set_cons_zero, List.set_cons_succ, List.zip_cons_cons, List.zip_nil_right, List.zip_nil_left, Option.some.injEq, exists_eq_left', exists_eq_left, Nat.reduceAdd, Nat.reduceSub, Nat.reduceEqDiff, PyData.bool.injEq, PyData.int.injEq, PyData.list.injEq, PyData.tuple.injEq, if_true, if_false, reduceIte, true_and, and_true, decide_true, decide_false, Bool.false_eq_true])
    simp [h1, h2, e1, e2, fr, sz_ok]
theorem isint {d : D} {S : String} (h : tyN d = some S) (g : G) : Fis_integer [d] g = some (.bool (decide (S = "int")), g) := by
  refine Ok.eq ?_
  unfold Fis_integer mis_integer
  simp only [ok_runD, oks_sRet, ok_eTyC, startE, eV, ok_some, List.map_cons, List.map_nil, List.length_cons, List.length_nil, List.cons_append, List.getElem?_cons_zero, h]
  simp
theorem isT2 (ds : List D) (g : G) : Fis_tuple_of [.tuple ds, .int 2] g = some (.bool (decide (ds.length = 2)), g) := by
  refine Ok.eq ?_
  unfold Fis_tuple_of mis_tuple_of
  (try simp only [fEq_int, fNe_int, ok_eK, ok_lNil, ok_lCons, ok_e2, ok_e1, ok_eF, ok_eTup, ok_nLst, ok_eN, ok_mB, ok_mTru, ok_mNot, ok_mAnd, ok_mOr, ok_eAnd, ok_eOr, ok_eNot, ok_eIf, ok_eIsi, ok_eIsi2, ok_eTyC, ok_eCall, ok_eCallK, ok_oNo, ok_oAt, ok_eSl, ok_iOf, ok_iOfT, ok_iRg1, oks_sNx, oks_sSeq, oks_sSet, oks_sOwn, oks_sDrop, oks_sRet, oks_sIf, oks_sAsg, oks_sPar, oks_sFor, ok_runD, ok_some, oks_some, startE, eV, setsE, Tg.parts, fAdd_int, fAdd_lst, fAdd_tup, fSub_int, fMul_int, fDiv_int, fMod_int, fPow_int, fLt_int, fLe_int, fGt_int, fGe_int, fNeg_int, fIx_lst, fIx_tup, fLen_lst, fLen_tup, fAbs_int, fInt1_int, fInt1_bl, fGcd_int, fTuple_lst, fTuple_tup, fList_lst, fList_tup, fTru_bl, fTru_lst, fTru_tup, fIsB_bl, atI_0, atI_1, ty_int, ty_bl, ty_lst, ty_tup, ty_str, ty_non, List.map_cons, List.map_nil, List.length_cons, List.length_nil, List.replicate, List.cons_append, List.nil_append, List.getElem?_cons_zero, List.getElem?_cons_succ, List.set_cons_zero, List.set_cons_succ, List.zip_cons_cons, List.zip_nil_right, List.zip_nil_left, Option.some.injEq, exists_eq_left', exists_eq_left, Nat.reduceAdd, Nat.reduceSub, Nat.reduceEqDiff, PyData.bool.injEq, PyData.int.injEq, PyData.list.injEq, PyData.tuple.injEq, if_true, if_false, reduceIte, true_and, and_true, decide_true, decide_false, Bool.false_eq_true])
  simp
  omega
theorem isT2' {d : D} {S : String} (h : tyN d = some S) (hs : S ≠ "tuple") (g : G) : Fis_tuple_of [d, .int 2] g = some (.bool false, g) := by
  refine Ok.eq ?_
  unfold Fis_tuple_of mis_tuple_of
  simp only [ok_runD, oks_sRet, ok_eAnd, ok_eTyC, startE, eV, ok_some, List.map_cons, List.map_nil, List.length_cons, List.length_nil, List.cons_append, List.getElem?_cons_zero, h, Option.some.injEq, exists_eq_left']
  simp [hs, fTru]
/-- a fraction, by its look -/
def isFr : D → Bool
  | .tuple [.int t, .int b] => decide (0 < b) && (Nat.gcd t.natAbs b.natAbs == 1)
  | _ => false
theorem isf_pair (t b : Int) (g : G) : Fis_fraction [.tuple [.int t, .int b]] g = some (.bool (isFr (.tuple [.int t, .int b])), g) := by
  refine Ok.eq ?_
  unfold Fis_fraction mis_fraction
  (try simp only [fEq_int, fNe_int, ok_eK, ok_lNil, ok_lCons, ok_e2, ok_e1, ok_eF, ok_eTup, ok_nLst, ok_eN, ok_mB, ok_mTru, ok_mNot, ok_mAnd, ok_mOr, ok_eAnd, ok_eOr, ok_eNot, ok_eIf, ok_eIsi, ok_eIsi2, ok_eTyC, ok_eCall, ok_eCallK, ok_oNo, ok_oAt, ok_eSl, ok_iOf, ok_iOfT, ok_iRg1, oks_sNx, oks_sSeq, oks_sSet, oks_sOwn, oks_sDrop, oks_sRet, oks_sIf, oks_sAsg, oks_sPar, oks_sFor, ok_runD, ok_some, oks_some, startE, eV, setsE, Tg.parts, fAdd_int, fAdd_lst, fAdd_tup, fSub_int, fMul_int, fDiv_int, fMod_int, fPow_int, fLt_int, fLe_int, fGt_int, fGe_int, fNeg_int, fIx_lst, fIx_tup, fLen_lst, fLen_tup, fAbs_int, fInt1_int, fInt1_bl, fGcd_int, fTuple_lst, fTuple_tup, fList_lst, fList_tup, fTru_bl, fTru_lst, fTru_tup, fIsB_bl, atI_0, atI_1, ty_int, ty_bl, ty_lst, ty_tup, ty_str, ty_non, List.map_cons, List.map_nil, List.length_cons, List.length_nil, List.replicate, List.cons_append, List.nil_append, List.getElem?_cons_zero, List.getElem?_cons_succ, List.set_cons_zero, List.set_cons_succ, List.zip_cons_cons, List.zip_nil_right, List.zip_nil_left, Option.some.injEq, exists_eq_left', exists_eq_left, Nat.reduceAdd, Nat.reduceSub, Nat.reduceEqDiff, PyData.bool.injEq, PyData.int.injEq, PyData.list.injEq, PyData.tuple.injEq, if_true, if_false, reduceIte, true_and, and_true, decide_true, decide_false, Bool.false_eq_true])
  rw [isT2]
  (try simp only [fEq_int, fNe_int, ok_eK, ok_lNil, ok_lCons, ok_e2, ok_e1, ok_eF, ok_eTup, ok_nLst, ok_eN, ok_mB, ok_mTru, ok_mNot, ok_mAnd, ok_mOr, ok_eAnd, ok_eOr, ok_eNot, ok_eIf, ok_eIsi, ok_eIsi2, ok_eTyC, ok_eCall, ok_eCallK, ok_oNo, ok_oAt, ok_eSl, ok_iOf, ok_iOfT, ok_iRg1, oks_sNx, oks_sSeq, oks_sSet, oks_sOwn, oks_sDrop, oks_sRet, oks_sIf, oks_sAsg, oks_sPar, oks_sFor, ok_runD, ok_some, oks_some, startE, eV, setsE, Tg.parts, fAdd_int, fAdd_lst, fAdd_tup, fSub_int, fMul_int, fDiv_int, fMod_int, fPow_int, fLt_int, fLe_int, fGt_int, fGe_int, fNeg_int, fIx_lst, fIx_tup, fLen_lst, fLen_tup, fAbs_int, fInt1_int, fInt1_bl, fGcd_int, fTuple_lst, fTuple_tup, fList_lst, fList_tup, fTru_bl, fTru_lst, fTru_tup, fIsB_bl, atI_0, atI_1, ty_int, ty_bl, ty_lst, ty_tup, ty_str, ty_non, List.map_cons, List.map_nil, List.length_cons, List.length_nil, List.replicate, List.cons_append, List.nil_append, List.getElem?_cons_zero, List.getElem?_cons_succ, List.set_cons_zero, List.set_cons_succ, List.zip_cons_cons, List.zip_nil_right, List.zip_nil_left, Option.some.injEq, exists_eq_left', exists_eq_left, Nat.reduceAdd, Nat.reduceSub, Nat.reduceEqDiff, PyData.bool.injEq, PyData.int.injEq, PyData.list.injEq, PyData.tuple.injEq, if_true, if_false, reduceIte, true_and, and_true, decide_true, decide_false, Bool.false_eq_true])
  simp only [List.length_cons, List.length_nil, decide_true, Bool.not_true, Bool.false_eq_true, if_false]
  (try simp only [fEq_int, fNe_int, ok_eK, ok_lNil, ok_lCons, ok_e2, ok_e1, ok_eF, ok_eTup, ok_nLst, ok_eN, ok_mB, ok_mTru, ok_mNot, ok_mAnd, ok_mOr, ok_eAnd, ok_eOr, ok_eNot, ok_eIf, ok_eIsi, ok_eIsi2, ok_eTyC, ok_eCall, ok_eCallK, ok_oNo, ok_oAt, ok_eSl, ok_iOf, ok_iOfT, ok_iRg1, oks_sNx, oks_sSeq, oks_sSet, oks_sOwn, oks_sDrop, oks_sRet, oks_sIf, oks_sAsg, oks_sPar, oks_sFor, ok_runD, ok_some, oks_some, startE, eV, setsE, Tg.parts, fAdd_int, fAdd_lst, fAdd_tup, fSub_int, fMul_int, fDiv_int, fMod_int, fPow_int, fLt_int, fLe_int, fGt_int, fGe_int, fNeg_int, fIx_lst, fIx_tup, fLen_lst, fLen_tup, fAbs_int, fInt1_int, fInt1_bl, fGcd_int, fTuple_lst, fTuple_tup, fList_lst, fList_tup, fTru_bl, fTru_lst, fTru_tup, fIsB_bl, atI_0, atI_1, ty_int, ty_bl, ty_lst, ty_tup, ty_str, ty_non, List.map_cons, List.map_nil, List.length_cons, List.length_nil, List.replicate, List.cons_append, List.nil_append, List.getElem?_cons_zero, List.getElem?_cons_succ, List.set_cons_zero, List.set_cons_succ, List.zip_cons_cons, List.zip_nil_right, List.zip_nil_left, Option.some.injEq, exists_eq_left', exists_eq_left, Nat.reduceAdd, Nat.reduceSub, Nat.reduceEqDiff, PyData.bool.injEq, PyData.int.injEq, PyData.list.injEq, PyData.tuple.injEq, if_true, if_false, reduceIte, true_and, and_true, decide_true, decide_false, Bool.false_eq_true])
  rw [isint (S := "int") rfl]
  (try simp only [fEq_int, fNe_int, ok_eK, ok_lNil, ok_lCons, ok_e2, ok_e1, ok_eF, ok_eTup, ok_nLst, ok_eN, ok_mB, ok_mTru, ok_mNot, ok_mAnd, ok_mOr, ok_eAnd, ok_eOr, ok_eNot, ok_eIf, ok_eIsi, ok_eIsi2, ok_eTyC, ok_eCall, ok_eCallK, ok_oNo, ok_oAt, ok_eSl, ok_iOf, ok_iOfT, ok_iRg1, oks_sNx, oks_sSeq, oks_sSet, oks_sOwn, oks_sDrop, oks_sRet, oks_sIf, oks_sAsg, oks_sPar, oks_sFor, ok_runD, ok_some, oks_some, startE, eV, setsE, Tg.parts, fAdd_int, fAdd_lst, fAdd_tup, fSub_int, fMul_int, fDiv_int, fMod_int, fPow_int, fLt_int, fLe_int, fGt_int, fGe_int, fNeg_int, fIx_lst, fIx_tup, fLen_lst, fLen_tup, fAbs_int, fInt1_int, fInt1_bl, fGcd_int, fTuple_lst, fTuple_tup, fList_lst, fList_tup, fTru_bl, fTru_lst, fTru_tup, fIsB_bl, atI_0, atI_1, ty_int, ty_bl, ty_lst, ty_tup, ty_str, ty_non, List.map_cons, List.map_nil, List.length_cons, List.length_nil, List.replicate, List.cons_append, List.nil_append, List.getElem?_cons_zero, List.getElem?_cons_succ, List.set_cons_zero, List.set_cons_succ, List.zip_cons_cons, List.zip_nil_right, List.zip_nil_left, Option.some.injEq, exists_eq_left', exists_eq_left, Nat.reduceAdd, Nat.reduceSub, Nat.reduceEqDiff, PyData.bool.injEq, PyData.int.injEq, PyData.list.injEq, PyData.tuple.injEq, if_true, if_false, reduceIte, true_and, and_true, decide_true, decide_false, Bool.false_eq_true])
  simp only [ok_eq (isint (d := .int b) (S := "int") rfl g)]
  by_cases hb : 0 < b
  · unfold isFr
    generalize hq : Nat.gcd t.natAbs b.natAbs = n
    by_cases hn : n = 1
    · simp [hb, fTru, hn, hq]
    · have : (n : Int) ≠ 1 := by omega
      simp [hb, fTru, hn, this, hq]
  · simp [hb, fTru, isFr]
theorem isf_two (x y : D) (S T : String) (hx : tyN x = some S) (hy : tyN y = some T) (h : S ≠ "int" ∨ T ≠ "int") (g : G) : Fis_fraction [.tuple [x, y]] g = some (.bool false, g) := by
  refine Ok.eq ?_
  unfold Fis_fraction mis_fraction
  (try simp only [fEq_int, fNe_int, ok_eK, ok_lNil, ok_lCons, ok_e2, ok_e1, ok_eF, ok_eTup, ok_nLst, ok_eN, ok_mB, ok_mTru, ok_mNot, ok_mAnd, ok_mOr, ok_eAnd, ok_eOr, ok_eNot, ok_eIf, ok_eIsi, ok_eIsi2, ok_eTyC, ok_eCall, ok_eCallK, ok_oNo, ok_oAt, ok_eSl, ok_iOf, ok_iOfT, ok_iRg1, oks_sNx, oks_sSeq, oks_sSet, oks_sOwn, oks_sDrop, oks_sRet, oks_sIf, oks_sAsg, oks_sPar, oks_sFor, ok_runD, ok_some, oks_some, startE, eV, setsE, Tg.parts, fAdd_int, fAdd_lst, fAdd_tup, fSub_int, fMul_int, fDiv_int, fMod_int, fPow_int, fLt_int, fLe_int, fGt_int, fGe_int, fNeg_int, fIx_lst, fIx_tup, fLen_lst, fLen_tup, fAbs_int, fInt1_int, fInt1_bl, fGcd_int, fTuple_lst, fTuple_tup, fList_lst, fList_tup, fTru_bl, fTru_lst, fTru_tup, fIsB_bl, atI_0, atI_1, ty_int, ty_bl, ty_lst, ty_tup, ty_str, ty_non, List.map_cons, List.map_nil, List.length_cons, List.length_nil, List.replicate, List.cons_append, List.nil_append, List.getElem?_cons_zero, List.getElem?_cons_succ, List.set_cons_zero, List.set_cons_succ, List.zip_cons_cons, List.zip_nil_right, List.zip_nil_left, Option.some.injEq, exists_eq_left', exists_eq_left, Nat.reduceAdd, Nat.reduceSub, Nat.reduceEqDiff, PyData.bool.injEq, PyData.int.injEq, PyData.list.injEq, PyData.tuple.injEq, if_true, if_false, reduceIte, true_and, and_true, decide_true, decide_false, Bool.false_eq_true])
  rw [isT2]
  (try simp only [fEq_int, fNe_int, ok_eK, ok_lNil, ok_lCons, ok_e2, ok_e1, ok_eF, ok_eTup, ok_nLst, ok_eN, ok_mB, ok_mTru, ok_mNot, ok_mAnd, ok_mOr, ok_eAnd, ok_eOr, ok_eNot, ok_eIf, ok_eIsi, ok_eIsi2, ok_eTyC, ok_eCall, ok_eCallK, ok_oNo, ok_oAt, ok_eSl, ok_iOf, ok_iOfT, ok_iRg1, oks_sNx, oks_sSeq, oks_sSet, oks_sOwn, oks_sDrop, oks_sRet, oks_sIf, oks_sAsg, oks_sPar, oks_sFor, ok_runD, ok_some, oks_some, startE, eV, setsE, Tg.parts, fAdd_int, fAdd_lst, fAdd_tup, fSub_int, fMul_int, fDiv_int, fMod_int, fPow_int, fLt_int, fLe_int, fGt_int, fGe_int, fNeg_int, fIx_lst, fIx_tup, fLen_lst, fLen_tup, fAbs_int, fInt1_int, fInt1_bl, fGcd_int, fTuple_lst, fTuple_tup, fList_lst, fList_tup, fTru_bl, fTru_lst, fTru_tup, fIsB_bl, atI_0, atI_1, ty_int, ty_bl, ty_lst, ty_tup, ty_str, ty_non, List.map_cons, List.map_nil, List.length_cons, List.length_nil, List.replicate, List.cons_append, List.nil_append, List.getElem?_cons_zero, List.getElem?_cons_succ, List.set_cons_zero, List.set_cons_succ, List.zip_cons_cons, List.zip_nil_right, List.zip_nil_left, Option.some.injEq, exists_eq_left', exists_eq_left, Nat.reduceAdd, Nat.reduceSub, Nat.reduceEqDiff, PyData.bool.injEq, PyData.int.injEq, PyData.list.injEq, PyData.tuple.injEq, if_true, if_false, reduceIte, true_and, and_true, decide_true, decide_false, Bool.false_eq_true])
  simp only [List.length_cons, List.length_nil, decide_true, Bool.not_true, Bool.false_eq_true, if_false]
  (try simp only [fEq_int, fNe_int, ok_eK, ok_lNil, ok_lCons, ok_e2, ok_e1, ok_eF, ok_eTup, ok_nLst, ok_eN, ok_mB, ok_mTru, ok_mNot, ok_mAnd, ok_mOr, ok_eAnd, ok_eOr, ok_eNot, ok_eIf, ok_eIsi, ok_eIsi2, ok_eTyC, ok_eCall, ok_eCallK, ok_oNo, ok_oAt, ok_eSl, ok_iOf, ok_iOfT, ok_iRg1, oks_sNx, oks_sSeq, oks_sSet, oks_sOwn, oks_sDrop, oks_sRet, oks_sIf, oks_sAsg, oks_sPar, oks_sFor, ok_runD, ok_some, oks_some, startE, eV, setsE, Tg.parts, fAdd_int, fAdd_lst, fAdd_tup, fSub_int, fMul_int, fDiv_int, fMod_int, fPow_int, fLt_int, fLe_int, fGt_int, fGe_int, fNeg_int, fIx_lst, fIx_tup, fLen_lst, fLen_tup, fAbs_int, fInt1_int, fInt1_bl, fGcd_int, fTuple_lst, fTuple_tup, fList_lst, fList_tup, fTru_bl, fTru_lst, fTru_tup, fIsB_bl, atI_0, atI_1, ty_int, ty_bl, ty_lst, ty_tup, ty_str, ty_non, List.map_cons, List.map_nil, List.length_cons, List.length_nil, List.replicate, List.cons_append, List.nil_append, List.getElem?_cons_zero, List.getElem?_cons_succ, List.set_cons_zero, List.set_cons_succ, List.zip_cons_cons, List.zip_nil_right, List.zip_nil_left, Option.some.injEq, exists_eq_left', exists_eq_left, Nat.reduceAdd, Nat.reduceSub, Nat.reduceEqDiff, PyData.bool.injEq, PyData.int.injEq, PyData.list.injEq, PyData.tuple.injEq, if_true, if_false, reduceIte, true_and, and_true, decide_true, decide_false, Bool.false_eq_true])
  rw [isint hx]
  (try simp only [fEq_int, fNe_int, ok_eK, ok_lNil, ok_lCons, ok_e2, ok_e1, ok_eF, ok_eTup, ok_nLst, ok_eN, ok_mB, ok_mTru, ok_mNot, ok_mAnd, ok_mOr, ok_eAnd, ok_eOr, ok_eNot, ok_eIf, ok_eIsi, ok_eIsi2, ok_eTyC, ok_eCall, ok_eCallK, ok_oNo, ok_oAt, ok_eSl, ok_iOf, ok_iOfT, ok_iRg1, oks_sNx, oks_sSeq, oks_sSet, oks_sOwn, oks_sDrop, oks_sRet, oks_sIf, oks_sAsg, oks_sPar, oks_sFor, ok_runD, ok_some, oks_some, startE, eV, setsE, Tg.parts, fAdd_int, fAdd_lst, fAdd_tup, fSub_int, fMul_int, fDiv_int, fMod_int, fPow_int, fLt_int, fLe_int, fGt_int, fGe_int, fNeg_int, fIx_lst, fIx_tup, fLen_lst, fLen_tup, fAbs_int, fInt1_int, fInt1_bl, fGcd_int, fTuple_lst, fTuple_tup, fList_lst, fList_tup, fTru_bl, fTru_lst, fTru_tup, fIsB_bl, atI_0, atI_1, ty_int, ty_bl, ty_lst, ty_tup, ty_str, ty_non, List.map_cons, List.map_nil, List.length_cons, List.length_nil, List.replicate, List.cons_append, List.nil_append, List.getElem?_cons_zero, List.getElem?_cons_succ, List.set_cons_zero, List.set_cons_succ, List.zip_cons_cons, List.zip_nil_right, List.zip_nil_left, Option.some.injEq, exists_eq_left', exists_eq_left, Nat.reduceAdd, Nat.reduceSub, Nat.reduceEqDiff, PyData.bool.injEq, PyData.int.injEq, PyData.list.injEq, PyData.tuple.injEq, if_true, if_false, reduceIte, true_and, and_true, decide_true, decide_false, Bool.false_eq_true])
  by_cases hS : S = "int"
  · have hT : T ≠ "int" := h.resolve_left (fun z => z hS)
    simp only [hS, decide_true, if_true, ok_eq (isint hy g)]
    simp [hT, fTru]
  · simp [hS]
theorem isf_len (ds : List D) (h : ds.length ≠ 2) (g : G) : Fis_fraction [.tuple ds] g = some (.bool false, g) := by
  refine Ok.eq ?_
  unfold Fis_fraction mis_fraction
  (try simp only [fEq_int, fNe_int, ok_eK, ok_lNil, ok_lCons, ok_e2, ok_e1, ok_eF, ok_eTup, ok_nLst, ok_eN, ok_mB, ok_mTru, ok_mNot, ok_mAnd, ok_mOr, ok_eAnd, ok_eOr, ok_eNot, ok_eIf, ok_eIsi, ok_eIsi2, ok_eTyC, ok_eCall, ok_eCallK, ok_oNo, ok_oAt, ok_eSl, ok_iOf, ok_iOfT, ok_iRg1, oks_sNx, oks_sSeq, oks_sSet, oks_sOwn, oks_sDrop, oks_sRet, oks_sIf, oks_sAsg, oks_sPar, oks_sFor, ok_runD, ok_some, oks_some, startE, eV, setsE, Tg.parts, fAdd_int, fAdd_lst, fAdd_tup, fSub_int, fMul_int, fDiv_int, fMod_int, fPow_int, fLt_int, fLe_int, fGt_int, fGe_int, fNeg_int, fIx_lst, fIx_tup, fLen_lst, fLen_tup, fAbs_int, fInt1_int, fInt1_bl, fGcd_int, fTuple_lst, fTuple_tup, fList_lst, fList_tup, fTru_bl, fTru_lst, fTru_tup, fIsB_bl, atI_0, atI_1, ty_int, ty_bl, ty_lst, ty_tup, ty_str, ty_non, List.map_cons, List.map_nil, List.length_cons, List.length_nil, List.replicate, List.cons_append, List.nil_append, List.getElem?_cons_zero, List.getElem?_cons_succ, List.set_cons_zero, List.set_cons_succ, List.zip_cons_cons, List.zip_nil_right, List.zip_nil_left, Option.some.injEq, exists_eq_left', exists_eq_left, Nat.reduceAdd, Nat.reduceSub, Nat.reduceEqDiff, PyData.bool.injEq, PyData.int.injEq, PyData.list.injEq, PyData.tuple.injEq, if_true, if_false, reduceIte, true_and, and_true, decide_true, decide_false, Bool.false_eq_true])
  rw [isT2]
  (try simp only [fEq_int, fNe_int, ok_eK, ok_lNil, ok_lCons, ok_e2, ok_e1, ok_eF, ok_eTup, ok_nLst, ok_eN, ok_mB, ok_mTru, ok_mNot, ok_mAnd, ok_mOr, ok_eAnd, ok_eOr, ok_eNot, ok_eIf, ok_eIsi, ok_eIsi2, ok_eTyC, ok_eCall, ok_eCallK, ok_oNo, ok_oAt, ok_eSl, ok_iOf, ok_iOfT, ok_iRg1, oks_sNx, oks_sSeq, oks_sSet, oks_sOwn, oks_sDrop, oks_sRet, oks_sIf, oks_sAsg, oks_sPar, oks_sFor, ok_runD, ok_some, oks_some, startE, eV, setsE, Tg.parts, fAdd_int, fAdd_lst, fAdd_tup, fSub_int, fMul_int, fDiv_int, fMod_int, fPow_int, fLt_int, fLe_int, fGt_int, fGe_int, fNeg_int, fIx_lst, fIx_tup, fLen_lst, fLen_tup, fAbs_int, fInt1_int, fInt1_bl, fGcd_int, fTuple_lst, fTuple_tup, fList_lst, fList_tup, fTru_bl, fTru_lst, fTru_tup, fIsB_bl, atI_0, atI_1, ty_int, ty_bl, ty_lst, ty_tup, ty_str, ty_non, List.map_cons, List.map_nil, List.length_cons, List.length_nil, List.replicate, List.cons_append, List.nil_append, List.getElem?_cons_zero, List.getElem?_cons_succ, List.set_cons_zero, List.set_cons_succ, List.zip_cons_cons, List.zip_nil_right, List.zip_nil_left, Option.some.injEq, exists_eq_left', exists_eq_left, Nat.reduceAdd, Nat.reduceSub, Nat.reduceEqDiff, PyData.bool.injEq, PyData.int.injEq, PyData.list.injEq, PyData.tuple.injEq, if_true, if_false, reduceIte, true_and, and_true, decide_true, decide_false, Bool.false_eq_true])
  simp [h]
theorem isf_no {d : D} {S : String} (h : tyN d = some S) (hs : S ≠ "tuple") (g : G) : Fis_fraction [d] g = some (.bool false, g) := by
  refine Ok.eq ?_
  unfold Fis_fraction mis_fraction
  (try simp only [fEq_int, fNe_int, ok_eK, ok_lNil, ok_lCons, ok_e2, ok_e1, ok_eF, ok_eTup, ok_nLst, ok_eN, ok_mB, ok_mTru, ok_mNot, ok_mAnd, ok_mOr, ok_eAnd, ok_eOr, ok_eNot, ok_eIf, ok_eIsi, ok_eIsi2, ok_eTyC, ok_eCall, ok_eCallK, ok_oNo, ok_oAt, ok_eSl, ok_iOf, ok_iOfT, ok_iRg1, oks_sNx, oks_sSeq, oks_sSet, oks_sOwn, oks_sDrop, oks_sRet, oks_sIf, oks_sAsg, oks_sPar, oks_sFor, ok_runD, ok_some, oks_some, startE, eV, setsE, Tg.parts, fAdd_int, fAdd_lst, fAdd_tup, fSub_int, fMul_int, fDiv_int, fMod_int, fPow_int, fLt_int, fLe_int, fGt_int, fGe_int, fNeg_int, fIx_lst, fIx_tup, fLen_lst, fLen_tup, fAbs_int, fInt1_int, fInt1_bl, fGcd_int, fTuple_lst, fTuple_tup, fList_lst, fList_tup, fTru_bl, fTru_lst, fTru_tup, fIsB_bl, atI_0, atI_1, ty_int, ty_bl, ty_lst, ty_tup, ty_str, ty_non, List.map_cons, List.map_nil, List.length_cons, List.length_nil, List.replicate, List.cons_append, List.nil_append, List.getElem?_cons_zero, List.getElem?_cons_succ, List.set_cons_zero, List.set_cons_succ, List.zip_cons_cons, List.zip_nil_right, List.zip_nil_left, Option.some.injEq, exists_eq_left', exists_eq_left, Nat.reduceAdd, Nat.reduceSub, Nat.reduceEqDiff, PyData.bool.injEq, PyData.int.injEq, PyData.list.injEq, PyData.tuple.injEq, if_true, if_false, reduceIte, true_and, and_true, decide_true, decide_false, Bool.false_eq_true])
  rw [isT2' h hs]
  (try simp only [fEq_int, fNe_int, ok_eK, ok_lNil, ok_lCons, ok_e2, ok_e1, ok_eF, ok_eTup, ok_nLst, ok_eN, ok_mB, ok_mTru, ok_mNot, ok_mAnd, ok_mOr, ok_eAnd, ok_eOr, ok_eNot, ok_eIf, ok_eIsi, ok_eIsi2, ok_eTyC, ok_eCall, ok_eCallK, ok_oNo, ok_oAt, ok_eSl, ok_iOf, ok_iOfT, ok_iRg1, oks_sNx, oks_sSeq, oks_sSet, oks_sOwn, oks_sDrop, oks_sRet, oks_sIf, oks_sAsg, oks_sPar, oks_sFor, ok_runD, ok_some, oks_some, startE, eV, setsE, Tg.parts, fAdd_int, fAdd_lst, fAdd_tup, fSub_int, fMul_int, fDiv_int, fMod_int, fPow_int, fLt_int, fLe_int, fGt_int, fGe_int, fNeg_int, fIx_lst, fIx_tup, fLen_lst, fLen_tup, fAbs_int, fInt1_int, fInt1_bl, fGcd_int, fTuple_lst, fTuple_tup, fList_lst, fList_tup, fTru_bl, fTru_lst, fTru_tup, fIsB_bl, atI_0, atI_1, ty_int, ty_bl, ty_lst, ty_tup, ty_str, ty_non, List.map_cons, List.map_nil, List.length_cons, List.length_nil, List.replicate, List.cons_append, List.nil_append, List.getElem?_cons_zero, List.getElem?_cons_succ, List.set_cons_zero, List.set_cons_succ, List.zip_cons_cons, List.zip_nil_right, List.zip_nil_left, Option.some.injEq, exists_eq_left', exists_eq_left, Nat.reduceAdd, Nat.reduceSub, Nat.reduceEqDiff, PyData.bool.injEq, PyData.int.injEq, PyData.list.injEq, PyData.tuple.injEq, if_true, if_false, reduceIte, true_and, and_true, decide_true, decide_false, Bool.false_eq_true])
  simp
theorem isFr_fr (r : Rat) : isFr (fr r) = true := by
  have h1 := r.den_pos
  have h2 := r.reduced
  unfold fr isFr
  have h3 : (Nat.gcd r.num.natAbs (r.den : Int).natAbs == 1) = true := by rw [Int.natAbs_natCast]; exact beq_iff_eq.mpr h2
  simp only [h3, Bool.and_true, decide_eq_true_eq]
  omega
theorem isf_fr (r : Rat) (g : G) : Fis_fraction [fr r] g = some (.bool true, g) := by
  have := isf_pair r.num r.den g
  rw [show (PyData.tuple [.int r.num, .int (r.den : Int)]) = fr r from rfl, isFr_fr] at this
  exact this
theorem check_ok (r s : Rat) (g : G) : F_check_both [fr r, fr s] g = some (.none, g) := by
  refine Ok.eq ?_
  unfold F_check_both m_check_both
  (try simp only [fEq_int, fNe_int, ok_eK, ok_lNil, ok_lCons, ok_e2, ok_e1, ok_eF, ok_eTup, ok_nLst, ok_eN, ok_mB, ok_mTru, ok_mNot, ok_mAnd, ok_mOr, ok_eAnd, ok_eOr, ok_eNot, ok_eIf, ok_eIsi, ok_eIsi2, ok_eTyC, ok_eCall, ok_eCallK, ok_oNo, ok_oAt, ok_eSl, ok_iOf, ok_iOfT, ok_iRg1, oks_sNx, oks_sSeq, oks_sSet, oks_sOwn, oks_sDrop, oks_sRet, oks_sIf, oks_sAsg, oks_sPar, oks_sFor, ok_runD, ok_some, oks_some, startE, eV, setsE, Tg.parts, fAdd_int, fAdd_lst, fAdd_tup, fSub_int, fMul_int, fDiv_int, fMod_int, fPow_int, fLt_int, fLe_int, fGt_int, fGe_int, fNeg_int, fIx_lst, fIx_tup, fLen_lst, fLen_tup, fAbs_int, fInt1_int, fInt1_bl, fGcd_int, fTuple_lst, fTuple_tup, fList_lst, fList_tup, fTru_bl, fTru_lst, fTru_tup, fIsB_bl, atI_0, atI_1, ty_int, ty_bl, ty_lst, ty_tup, ty_str, ty_non, List.map_cons, List.map_nil, List.length_cons, List.length_nil, List.replicate, List.cons_append, List.nil_append, List.getElem?_cons_zero, List.getElem?_cons_succ, List.set_cons_zero, List.set_cons_succ, List.zip_cons_cons, List.zip_nil_right, List.zip_nil_left, Option.some.injEq, exists_eq_left', exists_eq_left, Nat.reduceAdd, Nat.reduceSub, Nat.reduceEqDiff, PyData.bool.injEq, PyData.int.injEq, PyData.list.injEq, PyData.tuple.injEq, if_true, if_false, reduceIte, true_and, and_true, decide_true, decide_false, Bool.false_eq_true])
  simp only [ok_eq (isf_fr r g), ok_eq (isf_fr s g), fTru, Option.some.injEq, exists_eq_left', Bool.not_true, Bool.false_eq_true, if_false]
  try (try simp only [fEq_int, fNe_int, ok_eK, ok_lNil, ok_lCons, ok_e2, ok_e1, ok_eF, ok_eTup, ok_nLst, ok_eN, ok_mB, ok_mTru, ok_mNot, ok_mAnd, ok_mOr, ok_eAnd, ok_eOr, ok_eNot, ok_eIf, ok_eIsi, ok_eIsi2, ok_eTyC, ok_eCall, ok_eCallK, ok_oNo, ok_oAt, ok_eSl, ok_iOf, ok_iOfT, ok_iRg1, oks_sNx, oks_sSeq, oks_sSet, oks_sOwn, oks_sDrop, oks_sRet, oks_sIf, oks_sAsg, oks_sPar, oks_sFor, ok_runD, ok_some, oks_some, startE, eV, setsE, Tg.parts, fAdd_int, fAdd_lst, fAdd_tup, fSub_int, fMul_int, fDiv_int, fMod_int, fPow_int, fLt_int, fLe_int, fGt_int, fGe_int, fNeg_int, fIx_lst, fIx_tup, fLen_lst, fLen_tup, fAbs_int, fInt1_int, fInt1_bl, fGcd_int, fTuple_lst, fTuple_tup, fList_lst, fList_tup, fTru_bl, fTru_lst, fTru_tup, fIsB_bl, atI_0, atI_1, ty_int, ty_bl, ty_lst, ty_tup, ty_str, ty_non, List.map_cons, List.map_nil, List.length_cons, List.length_nil, List.replicate, List.cons_append, List.nil_append, List.getElem?_cons_zero, List.getElem?_cons_succ, List.set_cons_zero, List.set_cons_succ, List.zip_cons_cons, List.zip_nil_right, List.zip_nil_left, Option.some.injEq, exists_eq_left', exists_eq_left, Nat.reduceAdd, Nat.reduceSub, Nat.reduceEqDiff, PyData.bool.injEq, PyData.int.injEq, PyData.list.injEq, PyData.tuple.injEq, if_true, if_false, reduceIte, true_and, and_true, decide_true, decide_false, Bool.false_eq_true])
/-- how great -/
def Sz (n : Nat) (r : Rat) : Prop := r.num.natAbs < 2 ^ n ∧ r.den < 2 ^ n
theorem Sz.mono {n m : Nat} {r : Rat} (h : Sz n r) (l : n ≤ m) : Sz m r := ⟨Nat.lt_of_lt_of_le h.1 (Nat.pow_le_pow_right (by decide) l), Nat.lt_of_lt_of_le h.2 (Nat.pow_le_pow_right (by decide) l)⟩
theorem mul_bd {a b : Int} {m n : Nat} (ha : a.natAbs < 2 ^ m) (hb : b.natAbs < 2 ^ n) : (a * b).natAbs < 2 ^ (m + n) := by
  rw [Int.natAbs_mul, Nat.pow_add]
  exact Nat.mul_lt_mul_of_lt_of_lt ha hb
theorem cmul_bd {a b : Int} {m n : Nat} (ha : a.natAbs < 2 ^ m) (hb : b.natAbs < 2 ^ n) (h : m + n < 100000) : cMul a b = true := by
  unfold cMul
  have lg : ∀ {i : Int} {k : Nat}, i.natAbs < 2 ^ k → i.natAbs.log2 ≤ k := fun {i k} h => by
    by_cases z : i.natAbs = 0
    · rw [z]; exact Nat.zero_le _
    · exact Nat.le_of_lt ((Nat.log2_lt z).mpr h)
  have h1 := lg ha
  have h2 := lg hb
  simp only [Bool.or_eq_true, decide_eq_true_eq]
  exact .inr (by omega)
theorem divInt_sz {t b : Int} {n : Nat} (hb : b ≠ 0) (ht : t.natAbs < 2 ^ n) (h : b.natAbs < 2 ^ n) : Sz n (Rat.divInt t b) := by
  constructor
  · rw [Rat.num_divInt]
    have : (b.sign * t / (b.gcd t : Int)).natAbs ≤ t.natAbs := by
      refine Nat.le_trans (Int.natAbs_ediv_le_natAbs _ _) ?_
      rw [Int.natAbs_mul, Int.natAbs_sign_of_ne_zero hb, Nat.one_mul]
      exact Nat.le_refl _
    omega
  · rw [Rat.den_divInt, if_neg hb]
    exact Nat.lt_of_le_of_lt (Nat.div_le_self _ _) h
theorem den_ne (r : Rat) : (r.den : Int) ≠ 0 := by have := r.den_pos; omega
theorem add_div (r s : Rat) : Rat.divInt (r.num * s.den + s.num * r.den) (r.den * s.den) = r + s := by
  rw [← Rat.divInt_add_divInt _ _ (den_ne r) (den_ne s), Rat.num_divInt_den, Rat.num_divInt_den]
theorem sub_div (r s : Rat) : Rat.divInt (r.num * s.den - s.num * r.den) (r.den * s.den) = r - s := by
  have := add_div r (-s)
  rw [Rat.sub_eq_add_neg, ← this]
  simp [Int.sub_eq_add_neg, Int.neg_mul]
theorem mul_div (r s : Rat) : Rat.divInt (r.num * s.num) (r.den * s.den) = r * s := by
  rw [← Rat.divInt_mul_divInt, Rat.num_divInt_den, Rat.num_divInt_den]
theorem den_mul_ne (r s : Rat) : (r.den : Int) * s.den ≠ 0 := Int.mul_ne_zero (den_ne r) (den_ne s)
theorem num_ne {r : Rat} (h : r ≠ 0) : r.num ≠ 0 := fun z => h (Rat.num_eq_zero.mp z)
theorem over_div (r s : Rat) (hs : s ≠ 0) : Rat.divInt (r.num * s.den) (r.den * s.num) = r / s := by
  rw [← Rat.divInt_mul_divInt, Rat.num_divInt_den, Rat.div_def]
  congr 1
  rw [← Rat.inv_divInt, Rat.num_divInt_den]
theorem den_bd {n : Nat} {r : Rat} (h : Sz n r) : (r.den : Int).natAbs < 2 ^ n := by rw [Int.natAbs_natCast]; exact h.2
theorem bd9 {i : Int} {n : Nat} (h : i.natAbs < 2 ^ n) (hn : n ≤ 9000) : i.natAbs < 2 ^ 9000 := Nat.lt_of_lt_of_le h (Nat.pow_le_pow_right (by decide) hn)
theorem add_bd {i j : Int} {n : Nat} (hi : i.natAbs < 2 ^ n) (hj : j.natAbs < 2 ^ n) : (i + j).natAbs < 2 ^ (n + 1) := by
  rw [Nat.pow_succ]
  have := Int.natAbs_add_le i j
  omega
theorem up1 {i : Int} {n : Nat} (h : i.natAbs < 2 ^ n) : i.natAbs < 2 ^ (n + 1) := by
  rw [Nat.pow_succ]
  omega
theorem Sz.add {m n : Nat} {r s : Rat} (hr : Sz m r) (hs : Sz n s) : Sz (m + n + 1) (r + s) := by
  rw [← add_div]
  refine divInt_sz (den_mul_ne r s) (add_bd (mul_bd hr.1 (den_bd hs)) ?_) (up1 (mul_bd (den_bd hr) (den_bd hs)))
  rw [Nat.add_comm m n]
  exact mul_bd hs.1 (den_bd hr)
theorem Sz.sub {m n : Nat} {r s : Rat} (hr : Sz m r) (hs : Sz n s) : Sz (m + n + 1) (r - s) := by
  rw [Rat.sub_eq_add_neg]
  exact hr.add ⟨by rw [Rat.neg_num, Int.natAbs_neg]; exact hs.1, by rw [Rat.neg_den]; exact hs.2⟩
theorem Sz.mul {m n : Nat} {r s : Rat} (hr : Sz m r) (hs : Sz n s) : Sz (m + n) (r * s) := by
  rw [← mul_div]
  exact divInt_sz (den_mul_ne r s) (mul_bd hr.1 hs.1) (mul_bd (den_bd hr) (den_bd hs))
theorem Sz.over {m n : Nat} {r s : Rat} (hr : Sz m r) (hs : Sz n s) (h : s ≠ 0) : Sz (m + n) (r / s) := by
  rw [← over_div r s h]
  exact divInt_sz (Int.mul_ne_zero (den_ne r) (num_ne h)) (mul_bd hr.1 (den_bd hs)) (mul_bd (den_bd hr) hs.1)
section
variable {m n : Nat} {r s : Rat} (hr : Sz m r) (hs : Sz n s) (hm : m ≤ 4000) (hn : n ≤ 4000)
include hr hs hm hn
theorem plus_ok (g : G) : Fplus [fr r, fr s] g = some (fr (r + s), g) := by
  refine Ok.eq ?_
  unfold Fplus mplus
  (try simp only [fEq_int, fNe_int, ok_eK, ok_lNil, ok_lCons, ok_e2, ok_e1, ok_eF, ok_eTup, ok_nLst, ok_eN, ok_mB, ok_mTru, ok_mNot, ok_mAnd, ok_mOr, ok_eAnd, ok_eOr, ok_eNot, ok_eIf, ok_eIsi, ok_eIsi2, ok_eTyC, ok_eCall, ok_eCallK, ok_oNo, ok_oAt, ok_eSl, ok_iOf, ok_iOfT, ok_iRg1, oks_sNx, oks_sSeq, oks_sSet, oks_sOwn, oks_sDrop, oks_sRet, oks_sIf, oks_sAsg, oks_sPar, oks_sFor, ok_runD, ok_some, oks_some, startE, eV, setsE, Tg.parts, fAdd_int, fAdd_lst, fAdd_tup, fSub_int, fMul_int, fDiv_int, fMod_int, fPow_int, fLt_int, fLe_int, fGt_int, fGe_int, fNeg_int, fIx_lst, fIx_tup, fLen_lst, fLen_tup, fAbs_int, fInt1_int, fInt1_bl, fGcd_int, fTuple_lst, fTuple_tup, fList_lst, fList_tup, fTru_bl, fTru_lst, fTru_tup, fIsB_bl, atI_0, atI_1, ty_int, ty_bl, ty_lst, ty_tup, ty_str, ty_non, List.map_cons, List.map_nil, List.length_cons, List.length_nil, List.replicate, List.cons_append, List.nil_append, List.getElem?_cons_zero, List.getElem?_cons_succ, List.set_cons_zero, List.set_cons_succ, List.zip_cons_cons, List.zip_nil_right, List.zip_nil_left, Option.some.injEq, exists_eq_left', exists_eq_left, Nat.reduceAdd, Nat.reduceSub, Nat.reduceEqDiff, PyData.bool.injEq, PyData.int.injEq, PyData.list.injEq, PyData.tuple.injEq, if_true, if_false, reduceIte, true_and, and_true, decide_true, decide_false, Bool.false_eq_true])
  rw [ok_eq (check_ok r s g)]
  simp only [fr]
  (try simp only [fEq_int, fNe_int, ok_eK, ok_lNil, ok_lCons, ok_e2, ok_e1, ok_eF, ok_eTup, ok_nLst, ok_eN, ok_mB, ok_mTru, ok_mNot, ok_mAnd, ok_mOr, ok_eAnd, ok_eOr, ok_eNot, ok_eIf, ok_eIsi, ok_eIsi2, ok_eTyC, ok_eCall, ok_eCallK, ok_oNo, ok_oAt, ok_eSl, ok_iOf, ok_iOfT, ok_iRg1, oks_sNx, oks_sSeq, oks_sSet, oks_sOwn, oks_sDrop, oks_sRet, oks_sIf, oks_sAsg, oks_sPar, oks_sFor, ok_runD, ok_some, oks_some, startE, eV, setsE, Tg.parts, fAdd_int, fAdd_lst, fAdd_tup, fSub_int, fMul_int, fDiv_int, fMod_int, fPow_int, fLt_int, fLe_int, fGt_int, fGe_int, fNeg_int, fIx_lst, fIx_tup, fLen_lst, fLen_tup, fAbs_int, fInt1_int, fInt1_bl, fGcd_int, fTuple_lst, fTuple_tup, fList_lst, fList_tup, fTru_bl, fTru_lst, fTru_tup, fIsB_bl, atI_0, atI_1, ty_int, ty_bl, ty_lst, ty_tup, ty_str, ty_non, List.map_cons, List.map_nil, List.length_cons, List.length_nil, List.replicate, List.cons_append, List.nil_append, List.getElem?_cons_zero, List.getElem?_cons_succ, List.set_cons_zero, List.set_cons_succ, List.zip_cons_cons, List.zip_nil_right, List.zip_nil_left, Option.some.injEq, exists_eq_left', exists_eq_left, Nat.reduceAdd, Nat.reduceSub, Nat.reduceEqDiff, PyData.bool.injEq, PyData.int.injEq, PyData.list.injEq, PyData.tuple.injEq, if_true, if_false, reduceIte, true_and, and_true, decide_true, decide_false, Bool.false_eq_true])
  simp only [cmul_bd hr.1 (den_bd hs) (by omega), cmul_bd hs.1 (den_bd hr) (by omega), cmul_bd (den_bd hr) (den_bd hs) (by omega), if_true]
  (try simp only [fEq_int, fNe_int, ok_eK, ok_lNil, ok_lCons, ok_e2, ok_e1, ok_eF, ok_eTup, ok_nLst, ok_eN, ok_mB, ok_mTru, ok_mNot, ok_mAnd, ok_mOr, ok_eAnd, ok_eOr, ok_eNot, ok_eIf, ok_eIsi, ok_eIsi2, ok_eTyC, ok_eCall, ok_eCallK, ok_oNo, ok_oAt, ok_eSl, ok_iOf, ok_iOfT, ok_iRg1, oks_sNx, oks_sSeq, oks_sSet, oks_sOwn, oks_sDrop, oks_sRet, oks_sIf, oks_sAsg, oks_sPar, oks_sFor, ok_runD, ok_some, oks_some, startE, eV, setsE, Tg.parts, fAdd_int, fAdd_lst, fAdd_tup, fSub_int, fMul_int, fDiv_int, fMod_int, fPow_int, fLt_int, fLe_int, fGt_int, fGe_int, fNeg_int, fIx_lst, fIx_tup, fLen_lst, fLen_tup, fAbs_int, fInt1_int, fInt1_bl, fGcd_int, fTuple_lst, fTuple_tup, fList_lst, fList_tup, fTru_bl, fTru_lst, fTru_tup, fIsB_bl, atI_0, atI_1, ty_int, ty_bl, ty_lst, ty_tup, ty_str, ty_non, List.map_cons, List.map_nil, List.length_cons, List.length_nil, List.replicate, List.cons_append, List.nil_append, List.getElem?_cons_zero, List.getElem?_cons_succ, List.set_cons_zero, List.set_cons_succ, List.zip_cons_cons, List.zip_nil_right, List.zip_nil_left, Option.some.injEq, exists_eq_left', exists_eq_left, Nat.reduceAdd, Nat.reduceSub, Nat.reduceEqDiff, PyData.bool.injEq, PyData.int.injEq, PyData.list.injEq, PyData.tuple.injEq, if_true, if_false, reduceIte, true_and, and_true, decide_true, decide_false, Bool.false_eq_true])
  rw [ok_eq (reduced_ok (den_mul_ne r s) (bd9 (mul_bd (den_bd hr) (den_bd hs)) (by omega)) g), add_div]
  exact ⟨rfl, rfl⟩
theorem minus_ok (g : G) : Fminus [fr r, fr s] g = some (fr (r - s), g) := by
  refine Ok.eq ?_
  unfold Fminus mminus
  (try simp only [fEq_int, fNe_int, ok_eK, ok_lNil, ok_lCons, ok_e2, ok_e1, ok_eF, ok_eTup, ok_nLst, ok_eN, ok_mB, ok_mTru, ok_mNot, ok_mAnd, ok_mOr, ok_eAnd, ok_eOr, ok_eNot, ok_eIf, ok_eIsi, ok_eIsi2, ok_eTyC, ok_eCall, ok_eCallK, ok_oNo, ok_oAt, ok_eSl, ok_iOf, ok_iOfT, ok_iRg1, oks_sNx, oks_sSeq, oks_sSet, oks_sOwn, oks_sDrop, oks_sRet, oks_sIf, oks_sAsg, oks_sPar, oks_sFor, ok_runD, ok_some, oks_some, startE, eV, setsE, Tg.parts, fAdd_int, fAdd_lst, fAdd_tup, fSub_int, fMul_int, fDiv_int, fMod_int, fPow_int, fLt_int, fLe_int, fGt_int, fGe_int, fNeg_int, fIx_lst, fIx_tup, fLen_lst, fLen_tup, fAbs_int, fInt1_int, fInt1_bl, fGcd_int, fTuple_lst, fTuple_tup, fList_lst, fList_tup, fTru_bl, fTru_lst, fTru_tup, fIsB_bl, atI_0, atI_1, ty_int, ty_bl, ty_lst, ty_tup, ty_str, ty_non, List.map_cons, List.map_nil, List.length_cons, List.length_nil, List.replicate, List.cons_append, List.nil_append, List.getElem?_cons_zero, List.getElem?_cons_succ, List.set_cons_zero, List.set_cons_succ, List.zip_cons_cons, List.zip_nil_right, List.zip_nil_left, Option.some.injEq, exists_eq_left', exists_eq_left, Nat.reduceAdd, Nat.reduceSub, Nat.reduceEqDiff, PyData.bool.injEq, PyData.int.injEq, PyData.list.injEq, PyData.tuple.injEq, if_true, if_false, reduceIte, true_and, and_true, decide_true, decide_false, Bool.false_eq_true])
  rw [ok_eq (check_ok r s g)]
  simp only [fr]
  (try simp only [fEq_int, fNe_int, ok_eK, ok_lNil, ok_lCons, ok_e2, ok_e1, ok_eF, ok_eTup, ok_nLst, ok_eN, ok_mB, ok_mTru, ok_mNot, ok_mAnd, ok_mOr, ok_eAnd, ok_eOr, ok_eNot, ok_eIf, ok_eIsi, ok_eIsi2, ok_eTyC, ok_eCall, ok_eCallK, ok_oNo, ok_oAt, ok_eSl, ok_iOf, ok_iOfT, ok_iRg1, oks_sNx, oks_sSeq, oks_sSet, oks_sOwn, oks_sDrop, oks_sRet, oks_sIf, oks_sAsg, oks_sPar, oks_sFor, ok_runD, ok_some, oks_some, startE, eV, setsE, Tg.parts, fAdd_int, fAdd_lst, fAdd_tup, fSub_int, fMul_int, fDiv_int, fMod_int, fPow_int, fLt_int, fLe_int, fGt_int, fGe_int, fNeg_int, fIx_lst, fIx_tup, fLen_lst, fLen_tup, fAbs_int, fInt1_int, fInt1_bl, fGcd_int, fTuple_lst, fTuple_tup, fList_lst, fList_tup, fTru_bl, fTru_lst, fTru_tup, fIsB_bl, atI_0, atI_1, ty_int, ty_bl, ty_lst, ty_tup, ty_str, ty_non, List.map_cons, List.map_nil, List.length_cons, List.length_nil, List.replicate, List.cons_append, List.nil_append, List.getElem?_cons_zero, List.getElem?_cons_succ, List.set_cons_zero, List.set_cons_succ, List.zip_cons_cons, List.zip_nil_right, List.zip_nil_left, Option.some.injEq, exists_eq_left', exists_eq_left, Nat.reduceAdd, Nat.reduceSub, Nat.reduceEqDiff, PyData.bool.injEq, PyData.int.injEq, PyData.list.injEq, PyData.tuple.injEq, if_true, if_false, reduceIte, true_and, and_true, decide_true, decide_false, Bool.false_eq_true])
  simp only [cmul_bd hr.1 (den_bd hs) (by omega), cmul_bd hs.1 (den_bd hr) (by omega), cmul_bd (den_bd hr) (den_bd hs) (by omega), if_true]
  (try simp only [fEq_int, fNe_int, ok_eK, ok_lNil, ok_lCons, ok_e2, ok_e1, ok_eF, ok_eTup, ok_nLst, ok_eN, ok_mB, ok_mTru, ok_mNot, ok_mAnd, ok_mOr, ok_eAnd, ok_eOr, ok_eNot, ok_eIf, ok_eIsi, ok_eIsi2, ok_eTyC, ok_eCall, ok_eCallK, ok_oNo, ok_oAt, ok_eSl, ok_iOf, ok_iOfT, ok_iRg1, oks_sNx, oks_sSeq, oks_sSet, oks_sOwn, oks_sDrop, oks_sRet, oks_sIf, oks_sAsg, oks_sPar, oks_sFor, ok_runD, ok_some, oks_some, startE, eV, setsE, Tg.parts, fAdd_int, fAdd_lst, fAdd_tup, fSub_int, fMul_int, fDiv_int, fMod_int, fPow_int, fLt_int, fLe_int, fGt_int, fGe_int, fNeg_int, fIx_lst, fIx_tup, fLen_lst, fLen_tup, fAbs_int, fInt1_int, fInt1_bl, fGcd_int, fTuple_lst, fTuple_tup, fList_lst, fList_tup, fTru_bl, fTru_lst, fTru_tup, fIsB_bl, atI_0, atI_1, ty_int, ty_bl, ty_lst, ty_tup, ty_str, ty_non, List.map_cons, List.map_nil, List.length_cons, List.length_nil, List.replicate, List.cons_append, List.nil_append, List.getElem?_cons_zero, List.getElem?_cons_succ, List.set_cons_zero, List.set_cons_succ, List.zip_cons_cons, List.zip_nil_right, List.zip_nil_left, Option.some.injEq, exists_eq_left', exists_eq_left, Nat.reduceAdd, Nat.reduceSub, Nat.reduceEqDiff, PyData.bool.injEq, PyData.int.injEq, PyData.list.injEq, PyData.tuple.injEq, if_true, if_false, reduceIte, true_and, and_true, decide_true, decide_false, Bool.false_eq_true])
  rw [ok_eq (reduced_ok (den_mul_ne r s) (bd9 (mul_bd (den_bd hr) (den_bd hs)) (by omega)) g), sub_div]
  exact ⟨rfl, rfl⟩
theorem over_ok (h : s ≠ 0) (g : G) : Fover [fr r, fr s] g = some (fr (r / s), g) := by
  refine Ok.eq ?_
  unfold Fover mover
  (try simp only [fEq_int, fNe_int, ok_eK, ok_lNil, ok_lCons, ok_e2, ok_e1, ok_eF, ok_eTup, ok_nLst, ok_eN, ok_mB, ok_mTru, ok_mNot, ok_mAnd, ok_mOr, ok_eAnd, ok_eOr, ok_eNot, ok_eIf, ok_eIsi, ok_eIsi2, ok_eTyC, ok_eCall, ok_eCallK, ok_oNo, ok_oAt, ok_eSl, ok_iOf, ok_iOfT, ok_iRg1, oks_sNx, oks_sSeq, oks_sSet, oks_sOwn, oks_sDrop, oks_sRet, oks_sIf, oks_sAsg, oks_sPar, oks_sFor, ok_runD, ok_some, oks_some, startE, eV, setsE, Tg.parts, fAdd_int, fAdd_lst, fAdd_tup, fSub_int, fMul_int, fDiv_int, fMod_int, fPow_int, fLt_int, fLe_int, fGt_int, fGe_int, fNeg_int, fIx_lst, fIx_tup, fLen_lst, fLen_tup, fAbs_int, fInt1_int, fInt1_bl, fGcd_int, fTuple_lst, fTuple_tup, fList_lst, fList_tup, fTru_bl, fTru_lst, fTru_tup, fIsB_bl, atI_0, atI_1, ty_int, ty_bl, ty_lst, ty_tup, ty_str, ty_non, List.map_cons, List.map_nil, List.length_cons, List.length_nil, List.replicate, List.cons_append, List.nil_append, List.getElem?_cons_zero, List.getElem?_cons_succ, List.set_cons_zero, List.set_cons_succ, List.zip_cons_cons, List.zip_nil_right, List.zip_nil_left, Option.some.injEq, exists_eq_left', exists_eq_left, Nat.reduceAdd, Nat.reduceSub, Nat.reduceEqDiff, PyData.bool.injEq, PyData.int.injEq, PyData.list.injEq, PyData.tuple.injEq, if_true, if_false, reduceIte, true_and, and_true, decide_true, decide_false, Bool.false_eq_true])
  rw [ok_eq (check_ok r s g)]
  simp only [fr]
  (try simp only [fEq_int, fNe_int, ok_eK, ok_lNil, ok_lCons, ok_e2, ok_e1, ok_eF, ok_eTup, ok_nLst, ok_eN, ok_mB, ok_mTru, ok_mNot, ok_mAnd, ok_mOr, ok_eAnd, ok_eOr, ok_eNot, ok_eIf, ok_eIsi, ok_eIsi2, ok_eTyC, ok_eCall, ok_eCallK, ok_oNo, ok_oAt, ok_eSl, ok_iOf, ok_iOfT, ok_iRg1, oks_sNx, oks_sSeq, oks_sSet, oks_sOwn, oks_sDrop, oks_sRet, oks_sIf, oks_sAsg, oks_sPar, oks_sFor, ok_runD, ok_some, oks_some, startE, eV, setsE, Tg.parts, fAdd_int, fAdd_lst, fAdd_tup, fSub_int, fMul_int, fDiv_int, fMod_int, fPow_int, fLt_int, fLe_int, fGt_int, fGe_int, fNeg_int, fIx_lst, fIx_tup, fLen_lst, fLen_tup, fAbs_int, fInt1_int, fInt1_bl, fGcd_int, fTuple_lst, fTuple_tup, fList_lst, fList_tup, fTru_bl, fTru_lst, fTru_tup, fIsB_bl, atI_0, atI_1, ty_int, ty_bl, ty_lst, ty_tup, ty_str, ty_non, List.map_cons, List.map_nil, List.length_cons, List.length_nil, List.replicate, List.cons_append, List.nil_append, List.getElem?_cons_zero, List.getElem?_cons_succ, List.set_cons_zero, List.set_cons_succ, List.zip_cons_cons, List.zip_nil_right, List.zip_nil_left, Option.some.injEq, exists_eq_left', exists_eq_left, Nat.reduceAdd, Nat.reduceSub, Nat.reduceEqDiff, PyData.bool.injEq, PyData.int.injEq, PyData.list.injEq, PyData.tuple.injEq, if_true, if_false, reduceIte, true_and, and_true, decide_true, decide_false, Bool.false_eq_true])
  simp only [num_ne h, cmul_bd hr.1 (den_bd hs) (by omega), cmul_bd (den_bd hr) hs.1 (by omega), if_true, decide_false, Bool.false_eq_true, if_false]
  (try simp only [fEq_int, fNe_int, ok_eK, ok_lNil, ok_lCons, ok_e2, ok_e1, ok_eF, ok_eTup, ok_nLst, ok_eN, ok_mB, ok_mTru, ok_mNot, ok_mAnd, ok_mOr, ok_eAnd, ok_eOr, ok_eNot, ok_eIf, ok_eIsi, ok_eIsi2, ok_eTyC, ok_eCall, ok_eCallK, ok_oNo, ok_oAt, ok_eSl, ok_iOf, ok_iOfT, ok_iRg1, oks_sNx, oks_sSeq, oks_sSet, oks_sOwn, oks_sDrop, oks_sRet, oks_sIf, oks_sAsg, oks_sPar, oks_sFor, ok_runD, ok_some, oks_some, startE, eV, setsE, Tg.parts, fAdd_int, fAdd_lst, fAdd_tup, fSub_int, fMul_int, fDiv_int, fMod_int, fPow_int, fLt_int, fLe_int, fGt_int, fGe_int, fNeg_int, fIx_lst, fIx_tup, fLen_lst, fLen_tup, fAbs_int, fInt1_int, fInt1_bl, fGcd_int, fTuple_lst, fTuple_tup, fList_lst, fList_tup, fTru_bl, fTru_lst, fTru_tup, fIsB_bl, atI_0, atI_1, ty_int, ty_bl, ty_lst, ty_tup, ty_str, ty_non, List.map_cons, List.map_nil, List.length_cons, List.length_nil, List.replicate, List.cons_append, List.nil_append, List.getElem?_cons_zero, List.getElem?_cons_succ, List.set_cons_zero, List.set_cons_succ, List.zip_cons_cons, List.zip_nil_right, List.zip_nil_left, Option.some.injEq, exists_eq_left', exists_eq_left, Nat.reduceAdd, Nat.reduceSub, Nat.reduceEqDiff, PyData.bool.injEq, PyData.int.injEq, PyData.list.injEq, PyData.tuple.injEq, if_true, if_false, reduceIte, true_and, and_true, decide_true, decide_false, Bool.false_eq_true])
  rw [ok_eq (reduced_ok (Int.mul_ne_zero (den_ne r) (num_ne h)) (bd9 (mul_bd (den_bd hr) hs.1) (by omega)) g), over_div r s h]
  exact ⟨rfl, rfl⟩
theorem times_ok (g : G) : Ftimes [fr r, fr s] g = some (fr (r * s), g) := by
  refine Ok.eq ?_
  unfold Ftimes mtimes
  (try simp only [fEq_int, fNe_int, ok_eK, ok_lNil, ok_lCons, ok_e2, ok_e1, ok_eF, ok_eTup, ok_nLst, ok_eN, ok_mB, ok_mTru, ok_mNot, ok_mAnd, ok_mOr, ok_eAnd, ok_eOr, ok_eNot, ok_eIf, ok_eIsi, ok_eIsi2, ok_eTyC, ok_eCall, ok_eCallK, ok_oNo, ok_oAt, ok_eSl, ok_iOf, ok_iOfT, ok_iRg1, oks_sNx, oks_sSeq, oks_sSet, oks_sOwn, oks_sDrop, oks_sRet, oks_sIf, oks_sAsg, oks_sPar, oks_sFor, ok_runD, ok_some, oks_some, startE, eV, setsE, Tg.parts, fAdd_int, fAdd_lst, fAdd_tup, fSub_int, fMul_int, fDiv_int, fMod_int, fPow_int, fLt_int, fLe_int, fGt_int, fGe_int, fNeg_int, fIx_lst, fIx_tup, fLen_lst, fLen_tup, fAbs_int, fInt1_int, fInt1_bl, fGcd_int, fTuple_lst, fTuple_tup, fList_lst, fList_tup, fTru_bl, fTru_lst, fTru_tup, fIsB_bl, atI_0, atI_1, ty_int, ty_bl, ty_lst, ty_tup, ty_str, ty_non, List.map_cons, List.map_nil, List.length_cons, List.length_nil, List.replicate, List.cons_append, List.nil_append, List.getElem?_cons_zero, List.getElem?_cons_succ, List.set_cons_zero, List.set_cons_succ, List.zip_cons_cons, List.zip_nil_right, List.zip_nil_left, Option.some.injEq, exists_eq_left', exists_eq_left, Nat.reduceAdd, Nat.reduceSub, Nat.reduceEqDiff, PyData.bool.injEq, PyData.int.injEq, PyData.list.injEq, PyData.tuple.injEq, if_true, if_false, reduceIte, true_and, and_true, decide_true, decide_false, Bool.false_eq_true])
  rw [ok_eq (check_ok r s g)]
  simp only [fr]
  (try simp only [fEq_int, fNe_int, ok_eK, ok_lNil, ok_lCons, ok_e2, ok_e1, ok_eF, ok_eTup, ok_nLst, ok_eN, ok_mB, ok_mTru, ok_mNot, ok_mAnd, ok_mOr, ok_eAnd, ok_eOr, ok_eNot, ok_eIf, ok_eIsi, ok_eIsi2, ok_eTyC, ok_eCall, ok_eCallK, ok_oNo, ok_oAt, ok_eSl, ok_iOf, ok_iOfT, ok_iRg1, oks_sNx, oks_sSeq, oks_sSet, oks_sOwn, oks_sDrop, oks_sRet, oks_sIf, oks_sAsg, oks_sPar, oks_sFor, ok_runD, ok_some, oks_some, startE, eV, setsE, Tg.parts, fAdd_int, fAdd_lst, fAdd_tup, fSub_int, fMul_int, fDiv_int, fMod_int, fPow_int, fLt_int, fLe_int, fGt_int, fGe_int, fNeg_int, fIx_lst, fIx_tup, fLen_lst, fLen_tup, fAbs_int, fInt1_int, fInt1_bl, fGcd_int, fTuple_lst, fTuple_tup, fList_lst, fList_tup, fTru_bl, fTru_lst, fTru_tup, fIsB_bl, atI_0, atI_1, ty_int, ty_bl, ty_lst, ty_tup, ty_str, ty_non, List.map_cons, List.map_nil, List.length_cons, List.length_nil, List.replicate, List.cons_append, List.nil_append, List.getElem?_cons_zero, List.getElem?_cons_succ, List.set_cons_zero, List.set_cons_succ, List.zip_cons_cons, List.zip_nil_right, List.zip_nil_left, Option.some.injEq, exists_eq_left', exists_eq_left, Nat.reduceAdd, Nat.reduceSub, Nat.reduceEqDiff, PyData.bool.injEq, PyData.int.injEq, PyData.list.injEq, PyData.tuple.injEq, if_true, if_false, reduceIte, true_and, and_true, decide_true, decide_false, Bool.false_eq_true])
  simp only [cmul_bd hr.1 hs.1 (by omega), cmul_bd (den_bd hr) (den_bd hs) (by omega), if_true]
  (try simp only [fEq_int, fNe_int, ok_eK, ok_lNil, ok_lCons, ok_e2, ok_e1, ok_eF, ok_eTup, ok_nLst, ok_eN, ok_mB, ok_mTru, ok_mNot, ok_mAnd, ok_mOr, ok_eAnd, ok_eOr, ok_eNot, ok_eIf, ok_eIsi, ok_eIsi2, ok_eTyC, ok_eCall, ok_eCallK, ok_oNo, ok_oAt, ok_eSl, ok_iOf, ok_iOfT, ok_iRg1, oks_sNx, oks_sSeq, oks_sSet, oks_sOwn, oks_sDrop, oks_sRet, oks_sIf, oks_sAsg, oks_sPar, oks_sFor, ok_runD, ok_some, oks_some, startE, eV, setsE, Tg.parts, fAdd_int, fAdd_lst, fAdd_tup, fSub_int, fMul_int, fDiv_int, fMod_int, fPow_int, fLt_int, fLe_int, fGt_int, fGe_int, fNeg_int, fIx_lst, fIx_tup, fLen_lst, fLen_tup, fAbs_int, fInt1_int, fInt1_bl, fGcd_int, fTuple_lst, fTuple_tup, fList_lst, fList_tup, fTru_bl, fTru_lst, fTru_tup, fIsB_bl, atI_0, atI_1, ty_int, ty_bl, ty_lst, ty_tup, ty_str, ty_non, List.map_cons, List.map_nil, List.length_cons, List.length_nil, List.replicate, List.cons_append, List.nil_append, List.getElem?_cons_zero, List.getElem?_cons_succ, List.set_cons_zero, List.set_cons_succ, List.zip_cons_cons, List.zip_nil_right, List.zip_nil_left, Option.some.injEq, exists_eq_left', exists_eq_left, Nat.reduceAdd, Nat.reduceSub, Nat.reduceEqDiff, PyData.bool.injEq, PyData.int.injEq, PyData.list.injEq, PyData.tuple.injEq, if_true, if_false, reduceIte, true_and, and_true, decide_true, decide_false, Bool.false_eq_true])
  rw [ok_eq (reduced_ok (den_mul_ne r s) (bd9 (mul_bd (den_bd hr) (den_bd hs)) (by omega)) g), mul_div]
  exact ⟨rfl, rfl⟩
theorem below_ok (g : G) : Fbelow [fr r, fr s] g = some (.bool (decide (r < s)), g) := by
  refine Ok.eq ?_
  unfold Fbelow mbelow
  (try simp only [fEq_int, fNe_int, ok_eK, ok_lNil, ok_lCons, ok_e2, ok_e1, ok_eF, ok_eTup, ok_nLst, ok_eN, ok_mB, ok_mTru, ok_mNot, ok_mAnd, ok_mOr, ok_eAnd, ok_eOr, ok_eNot, ok_eIf, ok_eIsi, ok_eIsi2, ok_eTyC, ok_eCall, ok_eCallK, ok_oNo, ok_oAt, ok_eSl, ok_iOf, ok_iOfT, ok_iRg1, oks_sNx, oks_sSeq, oks_sSet, oks_sOwn, oks_sDrop, oks_sRet, oks_sIf, oks_sAsg, oks_sPar, oks_sFor, ok_runD, ok_some, oks_some, startE, eV, setsE, Tg.parts, fAdd_int, fAdd_lst, fAdd_tup, fSub_int, fMul_int, fDiv_int, fMod_int, fPow_int, fLt_int, fLe_int, fGt_int, fGe_int, fNeg_int, fIx_lst, fIx_tup, fLen_lst, fLen_tup, fAbs_int, fInt1_int, fInt1_bl, fGcd_int, fTuple_lst, fTuple_tup, fList_lst, fList_tup, fTru_bl, fTru_lst, fTru_tup, fIsB_bl, atI_0, atI_1, ty_int, ty_bl, ty_lst, ty_tup, ty_str, ty_non, List.map_cons, List.map_nil, List.length_cons, List.length_nil, List.replicate, List.cons_append, List.nil_append, List.getElem?_cons_zero, List.getElem?_cons_succ, List.set_cons_zero, List.set_cons_succ, List.zip_cons_cons, List.zip_nil_right, List.zip_nil_left, Option.some.injEq, exists_eq_left', exists_eq_left, Nat.reduceAdd, Nat.reduceSub, Nat.reduceEqDiff, PyData.bool.injEq, PyData.int.injEq, PyData.list.injEq, PyData.tuple.injEq, if_true, if_false, reduceIte, true_and, and_true, decide_true, decide_false, Bool.false_eq_true])
  rw [ok_eq (check_ok r s g)]
  simp only [fr]
  (try simp only [fEq_int, fNe_int, ok_eK, ok_lNil, ok_lCons, ok_e2, ok_e1, ok_eF, ok_eTup, ok_nLst, ok_eN, ok_mB, ok_mTru, ok_mNot, ok_mAnd, ok_mOr, ok_eAnd, ok_eOr, ok_eNot, ok_eIf, ok_eIsi, ok_eIsi2, ok_eTyC, ok_eCall, ok_eCallK, ok_oNo, ok_oAt, ok_eSl, ok_iOf, ok_iOfT, ok_iRg1, oks_sNx, oks_sSeq, oks_sSet, oks_sOwn, oks_sDrop, oks_sRet, oks_sIf, oks_sAsg, oks_sPar, oks_sFor, ok_runD, ok_some, oks_some, startE, eV, setsE, Tg.parts, fAdd_int, fAdd_lst, fAdd_tup, fSub_int, fMul_int, fDiv_int, fMod_int, fPow_int, fLt_int, fLe_int, fGt_int, fGe_int, fNeg_int, fIx_lst, fIx_tup, fLen_lst, fLen_tup, fAbs_int, fInt1_int, fInt1_bl, fGcd_int, fTuple_lst, fTuple_tup, fList_lst, fList_tup, fTru_bl, fTru_lst, fTru_tup, fIsB_bl, atI_0, atI_1, ty_int, ty_bl, ty_lst, ty_tup, ty_str, ty_non, List.map_cons, List.map_nil, List.length_cons, List.length_nil, List.replicate, List.cons_append, List.nil_append, List.getElem?_cons_zero, List.getElem?_cons_succ, List.set_cons_zero, List.set_cons_succ, List.zip_cons_cons, List.zip_nil_right, List.zip_nil_left, Option.some.injEq, exists_eq_left', exists_eq_left, Nat.reduceAdd, Nat.reduceSub, Nat.reduceEqDiff, PyData.bool.injEq, PyData.int.injEq, PyData.list.injEq, PyData.tuple.injEq, if_true, if_false, reduceIte, true_and, and_true, decide_true, decide_false, Bool.false_eq_true])
  simp only [cmul_bd hr.1 (den_bd hs) (by omega), cmul_bd hs.1 (den_bd hr) (by omega), if_true]
  (try simp only [fEq_int, fNe_int, ok_eK, ok_lNil, ok_lCons, ok_e2, ok_e1, ok_eF, ok_eTup, ok_nLst, ok_eN, ok_mB, ok_mTru, ok_mNot, ok_mAnd, ok_mOr, ok_eAnd, ok_eOr, ok_eNot, ok_eIf, ok_eIsi, ok_eIsi2, ok_eTyC, ok_eCall, ok_eCallK, ok_oNo, ok_oAt, ok_eSl, ok_iOf, ok_iOfT, ok_iRg1, oks_sNx, oks_sSeq, oks_sSet, oks_sOwn, oks_sDrop, oks_sRet, oks_sIf, oks_sAsg, oks_sPar, oks_sFor, ok_runD, ok_some, oks_some, startE, eV, setsE, Tg.parts, fAdd_int, fAdd_lst, fAdd_tup, fSub_int, fMul_int, fDiv_int, fMod_int, fPow_int, fLt_int, fLe_int, fGt_int, fGe_int, fNeg_int, fIx_lst, fIx_tup, fLen_lst, fLen_tup, fAbs_int, fInt1_int, fInt1_bl, fGcd_int, fTuple_lst, fTuple_tup, fList_lst, fList_tup, fTru_bl, fTru_lst, fTru_tup, fIsB_bl, atI_0, atI_1, ty_int, ty_bl, ty_lst, ty_tup, ty_str, ty_non, List.map_cons, List.map_nil, List.length_cons, List.length_nil, List.replicate, List.cons_append, List.nil_append, List.getElem?_cons_zero, List.getElem?_cons_succ, List.set_cons_zero, List.set_cons_succ, List.zip_cons_cons, List.zip_nil_right, List.zip_nil_left, Option.some.injEq, exists_eq_left', exists_eq_left, Nat.reduceAdd, Nat.reduceSub, Nat.reduceEqDiff, PyData.bool.injEq, PyData.int.injEq, PyData.list.injEq, PyData.tuple.injEq, if_true, if_false, reduceIte, true_and, and_true, decide_true, decide_false, Bool.false_eq_true])
  simp [Rat.lt_iff]
theorem lplus_ok (g : G) : F_law_plus [fr r, fr s] g = some (fr (r + s), g) := by
  refine Ok.eq ?_
  unfold F_law_plus m_law_plus
  simp only [fr]
  (try simp only [fEq_int, fNe_int, ok_eK, ok_lNil, ok_lCons, ok_e2, ok_e1, ok_eF, ok_eTup, ok_nLst, ok_eN, ok_mB, ok_mTru, ok_mNot, ok_mAnd, ok_mOr, ok_eAnd, ok_eOr, ok_eNot, ok_eIf, ok_eIsi, ok_eIsi2, ok_eTyC, ok_eCall, ok_eCallK, ok_oNo, ok_oAt, ok_eSl, ok_iOf, ok_iOfT, ok_iRg1, oks_sNx, oks_sSeq, oks_sSet, oks_sOwn, oks_sDrop, oks_sRet, oks_sIf, oks_sAsg, oks_sPar, oks_sFor, ok_runD, ok_some, oks_some, startE, eV, setsE, Tg.parts, fAdd_int, fAdd_lst, fAdd_tup, fSub_int, fMul_int, fDiv_int, fMod_int, fPow_int, fLt_int, fLe_int, fGt_int, fGe_int, fNeg_int, fIx_lst, fIx_tup, fLen_lst, fLen_tup, fAbs_int, fInt1_int, fInt1_bl, fGcd_int, fTuple_lst, fTuple_tup, fList_lst, fList_tup, fTru_bl, fTru_lst, fTru_tup, fIsB_bl, atI_0, atI_1, ty_int, ty_bl, ty_lst, ty_tup, ty_str, ty_non, List.map_cons, List.map_nil, List.length_cons, List.length_nil, List.replicate, List.cons_append, List.nil_append, List.getElem?_cons_zero, List.getElem?_cons_succ, List.set_cons_zero, List.set_cons_succ, List.zip_cons_cons, List.zip_nil_right, List.zip_nil_left, Option.some.injEq, exists_eq_left', exists_eq_left, Nat.reduceAdd, Nat.reduceSub, Nat.reduceEqDiff, PyData.bool.injEq, PyData.int.injEq, PyData.list.injEq, PyData.tuple.injEq, if_true, if_false, reduceIte, true_and, and_true, decide_true, decide_false, Bool.false_eq_true])
  simp only [cmul_bd hr.1 (den_bd hs) (by omega), cmul_bd hs.1 (den_bd hr) (by omega), cmul_bd (den_bd hr) (den_bd hs) (by omega), if_true]
  (try simp only [fEq_int, fNe_int, ok_eK, ok_lNil, ok_lCons, ok_e2, ok_e1, ok_eF, ok_eTup, ok_nLst, ok_eN, ok_mB, ok_mTru, ok_mNot, ok_mAnd, ok_mOr, ok_eAnd, ok_eOr, ok_eNot, ok_eIf, ok_eIsi, ok_eIsi2, ok_eTyC, ok_eCall, ok_eCallK, ok_oNo, ok_oAt, ok_eSl, ok_iOf, ok_iOfT, ok_iRg1, oks_sNx, oks_sSeq, oks_sSet, oks_sOwn, oks_sDrop, oks_sRet, oks_sIf, oks_sAsg, oks_sPar, oks_sFor, ok_runD, ok_some, oks_some, startE, eV, setsE, Tg.parts, fAdd_int, fAdd_lst, fAdd_tup, fSub_int, fMul_int, fDiv_int, fMod_int, fPow_int, fLt_int, fLe_int, fGt_int, fGe_int, fNeg_int, fIx_lst, fIx_tup, fLen_lst, fLen_tup, fAbs_int, fInt1_int, fInt1_bl, fGcd_int, fTuple_lst, fTuple_tup, fList_lst, fList_tup, fTru_bl, fTru_lst, fTru_tup, fIsB_bl, atI_0, atI_1, ty_int, ty_bl, ty_lst, ty_tup, ty_str, ty_non, List.map_cons, List.map_nil, List.length_cons, List.length_nil, List.replicate, List.cons_append, List.nil_append, List.getElem?_cons_zero, List.getElem?_cons_succ, List.set_cons_zero, List.set_cons_succ, List.zip_cons_cons, List.zip_nil_right, List.zip_nil_left, Option.some.injEq, exists_eq_left', exists_eq_left, Nat.reduceAdd, Nat.reduceSub, Nat.reduceEqDiff, PyData.bool.injEq, PyData.int.injEq, PyData.list.injEq, PyData.tuple.injEq, if_true, if_false, reduceIte, true_and, and_true, decide_true, decide_false, Bool.false_eq_true])
  rw [ok_eq (low_ok (den_mul_ne r s) (bd9 (mul_bd (den_bd hr) (den_bd hs)) (by omega)) g), add_div]
  exact ⟨rfl, rfl⟩
end
theorem lplus2 {m n : Nat} {r s : Rat} (hr : Sz m r) (hs : Sz n s) (h : m + n ≤ 9000) (g : G) : F_law_plus [fr r, fr s] g = some (fr (r + s), g) := by
  refine Ok.eq ?_
  unfold F_law_plus m_law_plus
  simp only [fr]
  (try simp only [fEq_int, fNe_int, ok_eK, ok_lNil, ok_lCons, ok_e2, ok_e1, ok_eF, ok_eTup, ok_nLst, ok_eN, ok_mB, ok_mTru, ok_mNot, ok_mAnd, ok_mOr, ok_eAnd, ok_eOr, ok_eNot, ok_eIf, ok_eIsi, ok_eIsi2, ok_eTyC, ok_eCall, ok_eCallK, ok_oNo, ok_oAt, ok_eSl, ok_iOf, ok_iOfT, ok_iRg1, oks_sNx, oks_sSeq, oks_sSet, oks_sOwn, oks_sDrop, oks_sRet, oks_sIf, oks_sAsg, oks_sPar, oks_sFor, ok_runD, ok_some, oks_some, startE, eV, setsE, Tg.parts, fAdd_int, fAdd_lst, fAdd_tup, fSub_int, fMul_int, fDiv_int, fMod_int, fPow_int, fLt_int, fLe_int, fGt_int, fGe_int, fNeg_int, fIx_lst, fIx_tup, fLen_lst, fLen_tup, fAbs_int, fInt1_int, fInt1_bl, fGcd_int, fTuple_lst, fTuple_tup, fList_lst, fList_tup, fTru_bl, fTru_lst, fTru_tup, fIsB_bl, atI_0, atI_1, ty_int, ty_bl, ty_lst, ty_tup, ty_str, ty_non, List.map_cons, List.map_nil, List.length_cons, List.length_nil, List.replicate, List.cons_append, List.nil_append, List.getElem?_cons_zero, List.getElem?_cons_succ, List.set_cons_zero, List.set_cons_succ, List.zip_cons_cons, List.zip_nil_right, List.zip_nil_left, Option.some.injEq, exists_eq_left', exists_eq_left, Nat.reduceAdd, Nat.reduceSub, Nat.reduceEqDiff, PyData.bool.injEq, PyData.int.injEq, PyData.list.injEq, PyData.tuple.injEq, if_true, if_false, reduceIte, true_and, and_true, decide_true, decide_false, Bool.false_eq_true])
  simp only [cmul_bd hr.1 (den_bd hs) (by omega), cmul_bd hs.1 (den_bd hr) (by omega), cmul_bd (den_bd hr) (den_bd hs) (by omega), if_true]
  (try simp only [fEq_int, fNe_int, ok_eK, ok_lNil, ok_lCons, ok_e2, ok_e1, ok_eF, ok_eTup, ok_nLst, ok_eN, ok_mB, ok_mTru, ok_mNot, ok_mAnd, ok_mOr, ok_eAnd, ok_eOr, ok_eNot, ok_eIf, ok_eIsi, ok_eIsi2, ok_eTyC, ok_eCall, ok_eCallK, ok_oNo, ok_oAt, ok_eSl, ok_iOf, ok_iOfT, ok_iRg1, oks_sNx, oks_sSeq, oks_sSet, oks_sOwn, oks_sDrop, oks_sRet, oks_sIf, oks_sAsg, oks_sPar, oks_sFor, ok_runD, ok_some, oks_some, startE, eV, setsE, Tg.parts, fAdd_int, fAdd_lst, fAdd_tup, fSub_int, fMul_int, fDiv_int, fMod_int, fPow_int, fLt_int, fLe_int, fGt_int, fGe_int, fNeg_int, fIx_lst, fIx_tup, fLen_lst, fLen_tup, fAbs_int, fInt1_int, fInt1_bl, fGcd_int, fTuple_lst, fTuple_tup, fList_lst, fList_tup, fTru_bl, fTru_lst, fTru_tup, fIsB_bl, atI_0, atI_1, ty_int, ty_bl, ty_lst, ty_tup, ty_str, ty_non, List.map_cons, List.map_nil, List.length_cons, List.length_nil, List.replicate, List.cons_append, List.nil_append, List.getElem?_cons_zero, List.getElem?_cons_succ, List.set_cons_zero, List.set_cons_succ, List.zip_cons_cons, List.zip_nil_right, List.zip_nil_left, Option.some.injEq, exists_eq_left', exists_eq_left, Nat.reduceAdd, Nat.reduceSub, Nat.reduceEqDiff, PyData.bool.injEq, PyData.int.injEq, PyData.list.injEq, PyData.tuple.injEq, if_true, if_false, reduceIte, true_and, and_true, decide_true, decide_false, Bool.false_eq_true])
  rw [ok_eq (low_ok (den_mul_ne r s) (bd9 (mul_bd (den_bd hr) (den_bd hs)) (by omega)) g), add_div]
  exact ⟨rfl, rfl⟩
theorem fraction_ok {t b : Int} (hb : b ≠ 0) (h : b.natAbs < 2 ^ 9000) (g : G) : Ffraction [.int t, .int b] g = some (fr (Rat.divInt t b), g) := by
  refine Ok.eq ?_
  unfold Ffraction mfraction
  (try simp only [fEq_int, fNe_int, ok_eK, ok_lNil, ok_lCons, ok_e2, ok_e1, ok_eF, ok_eTup, ok_nLst, ok_eN, ok_mB, ok_mTru, ok_mNot, ok_mAnd, ok_mOr, ok_eAnd, ok_eOr, ok_eNot, ok_eIf, ok_eIsi, ok_eIsi2, ok_eTyC, ok_eCall, ok_eCallK, ok_oNo, ok_oAt, ok_eSl, ok_iOf, ok_iOfT, ok_iRg1, oks_sNx, oks_sSeq, oks_sSet, oks_sOwn, oks_sDrop, oks_sRet, oks_sIf, oks_sAsg, oks_sPar, oks_sFor, ok_runD, ok_some, oks_some, startE, eV, setsE, Tg.parts, fAdd_int, fAdd_lst, fAdd_tup, fSub_int, fMul_int, fDiv_int, fMod_int, fPow_int, fLt_int, fLe_int, fGt_int, fGe_int, fNeg_int, fIx_lst, fIx_tup, fLen_lst, fLen_tup, fAbs_int, fInt1_int, fInt1_bl, fGcd_int, fTuple_lst, fTuple_tup, fList_lst, fList_tup, fTru_bl, fTru_lst, fTru_tup, fIsB_bl, atI_0, atI_1, ty_int, ty_bl, ty_lst, ty_tup, ty_str, ty_non, List.map_cons, List.map_nil, List.length_cons, List.length_nil, List.replicate, List.cons_append, List.nil_append, List.getElem?_cons_zero, List.getElem?_cons_succ, List.set_cons_zero, List.set_cons_succ, List.zip_cons_cons, List.zip_nil_right, List.zip_nil_left, Option.some.injEq, exists_eq_left', exists_eq_left, Nat.reduceAdd, Nat.reduceSub, Nat.reduceEqDiff, PyData.bool.injEq, PyData.int.injEq, PyData.list.injEq, PyData.tuple.injEq, if_true, if_false, reduceIte, true_and, and_true, decide_true, decide_false, Bool.false_eq_true])
  simp only [ok_eq (isint (d := .int b) (S := "int") rfl g), ok_eq (isint (d := .int t) (S := "int") rfl g)]
  (try simp only [fEq_int, fNe_int, ok_eK, ok_lNil, ok_lCons, ok_e2, ok_e1, ok_eF, ok_eTup, ok_nLst, ok_eN, ok_mB, ok_mTru, ok_mNot, ok_mAnd, ok_mOr, ok_eAnd, ok_eOr, ok_eNot, ok_eIf, ok_eIsi, ok_eIsi2, ok_eTyC, ok_eCall, ok_eCallK, ok_oNo, ok_oAt, ok_eSl, ok_iOf, ok_iOfT, ok_iRg1, oks_sNx, oks_sSeq, oks_sSet, oks_sOwn, oks_sDrop, oks_sRet, oks_sIf, oks_sAsg, oks_sPar, oks_sFor, ok_runD, ok_some, oks_some, startE, eV, setsE, Tg.parts, fAdd_int, fAdd_lst, fAdd_tup, fSub_int, fMul_int, fDiv_int, fMod_int, fPow_int, fLt_int, fLe_int, fGt_int, fGe_int, fNeg_int, fIx_lst, fIx_tup, fLen_lst, fLen_tup, fAbs_int, fInt1_int, fInt1_bl, fGcd_int, fTuple_lst, fTuple_tup, fList_lst, fList_tup, fTru_bl, fTru_lst, fTru_tup, fIsB_bl, atI_0, atI_1, ty_int, ty_bl, ty_lst, ty_tup, ty_str, ty_non, List.map_cons, List.map_nil, List.length_cons, List.length_nil, List.replicate, List.cons_append, List.nil_append, List.getElem?_cons_zero, List.getElem?_cons_succ, List.set_cons_zero, List.set_cons_succ, List.zip_cons_cons, List.zip_nil_right, List.zip_nil_left, Option.some.injEq, exists_eq_left', exists_eq_left, Nat.reduceAdd, Nat.reduceSub, Nat.reduceEqDiff, PyData.bool.injEq, PyData.int.injEq, PyData.list.injEq, PyData.tuple.injEq, if_true, if_false, reduceIte, true_and, and_true, decide_true, decide_false, Bool.false_eq_true])
  simp only [Bool.not_true, Bool.false_eq_true, if_false, hb, decide_false]
  (try simp only [fEq_int, fNe_int, ok_eK, ok_lNil, ok_lCons, ok_e2, ok_e1, ok_eF, ok_eTup, ok_nLst, ok_eN, ok_mB, ok_mTru, ok_mNot, ok_mAnd, ok_mOr, ok_eAnd, ok_eOr, ok_eNot, ok_eIf, ok_eIsi, ok_eIsi2, ok_eTyC, ok_eCall, ok_eCallK, ok_oNo, ok_oAt, ok_eSl, ok_iOf, ok_iOfT, ok_iRg1, oks_sNx, oks_sSeq, oks_sSet, oks_sOwn, oks_sDrop, oks_sRet, oks_sIf, oks_sAsg, oks_sPar, oks_sFor, ok_runD, ok_some, oks_some, startE, eV, setsE, Tg.parts, fAdd_int, fAdd_lst, fAdd_tup, fSub_int, fMul_int, fDiv_int, fMod_int, fPow_int, fLt_int, fLe_int, fGt_int, fGe_int, fNeg_int, fIx_lst, fIx_tup, fLen_lst, fLen_tup, fAbs_int, fInt1_int, fInt1_bl, fGcd_int, fTuple_lst, fTuple_tup, fList_lst, fList_tup, fTru_bl, fTru_lst, fTru_tup, fIsB_bl, atI_0, atI_1, ty_int, ty_bl, ty_lst, ty_tup, ty_str, ty_non, List.map_cons, List.map_nil, List.length_cons, List.length_nil, List.replicate, List.cons_append, List.nil_append, List.getElem?_cons_zero, List.getElem?_cons_succ, List.set_cons_zero, List.set_cons_succ, List.zip_cons_cons, List.zip_nil_right, List.zip_nil_left, Option.some.injEq, exists_eq_left', exists_eq_left, Nat.reduceAdd, Nat.reduceSub, Nat.reduceEqDiff, PyData.bool.injEq, PyData.int.injEq, PyData.list.injEq, PyData.tuple.injEq, if_true, if_false, reduceIte, true_and, and_true, decide_true, decide_false, Bool.false_eq_true])
  rw [ok_eq (reduced_ok hb h g)]
  exact ⟨rfl, rfl⟩
theorem fr_eq {r s : Rat} : (r.num = s.num ∧ (r.den : Int) = s.den) ↔ r = s := ⟨fun ⟨h1, h2⟩ => Rat.ext h1 (by omega), fun h => by rw [h]; exact ⟨rfl, rfl⟩⟩
theorem eqv_pair {a b c d : Int} : PyData.eqv (.tuple [.int a, .int b]) (.tuple [.int c, .int d]) = (decide (a = c) && decide (b = d)) := by
  by_cases h : a = c <;> by_cases h2 : b = d <;> simp [PyData.eqv, PyData.eqvAll, h, h2]
theorem shaped_pair {a b : Int} : SeqAt.shaped (.tuple [.int a, .int b]) = true := by rfl
theorem fEq_pair {a b c d : Int} : fEq (.tuple [.int a, .int b]) (.tuple [.int c, .int d]) = some (.bool (decide (a = c) && decide (b = d))) := by
  unfold fEq
  rw [shaped_pair, shaped_pair, eqv_pair]
  rfl
theorem eqv_fr {r s : Rat} : PyData.eqv (fr r) (fr s) = decide (r = s) := by
  unfold fr
  rw [eqv_pair]
  by_cases h : r = s
  · subst h; simp
  · have := fun z => h (fr_eq.mp z)
    simp only [h, decide_false]
    by_cases h1 : r.num = s.num
    · have h2 : ¬ (r.den : Int) = s.den := fun z => this ⟨h1, z⟩
      simp only [h1, h2, decide_false, Bool.and_false]
    · simp only [h1, decide_false, Bool.false_and]
theorem fEq_fr {r s : Rat} : fEq (fr r) (fr s) = some (.bool (decide (r = s))) := by
  unfold fEq
  rw [eqv_fr]
  rfl
theorem fNe_fr {r s : Rat} : fNe (fr r) (fr s) = some (.bool (!decide (r = s))) := by
  unfold fNe
  rw [eqv_fr]
  rfl
theorem fEq_bl {b c : Bool} : fEq (.bool b) (.bool c) = some (.bool (b == c)) := by cases b <;> cases c <;> rfl
/-! alike -/
def knd (a b c d e f : Bool) : D := .list [.bool a, .bool b, .bool c, .bool d, .bool e, .bool f]
theorem fNe_knd {a b c d e f : Bool} : fNe (knd a b c d e f) (knd a b c d e f) = some (.bool false) := by
  cases a <;> cases b <;> cases c <;> cases d <;> cases e <;> cases f <;> rfl
theorem bools_true {α : Type} : ∀ ds : List α, bools (ds.map fun _ => PyData.bool true) = some (ds.map fun _ => true)
  | [] => rfl
  | _ :: r => by
    show (bools (r.map fun _ => PyData.bool true)).map (true :: ·) = _
    rw [bools_true r]
    rfl
theorem fAll_true {α : Type} (ds : List α) : fAll [.list (ds.map fun _ => PyData.bool true)] = some (.bool true) := by
  show ((bools _).map fun bs => PyData.bool (bs.all id)) = _
  rw [bools_true]
  simp
theorem ok_nLc {tg : Tg} {ml : ML} {c : MT} {e : M} {vs : List Nat} {E : En} {g : G} {Q : List D → G → Prop} (h : (vs.any (isOwn E) || !(tg.slots.all fun i => vs.contains i)) = false) :
    Ok (nLc tg ml c e vs E g) Q ↔ Ok (ml E g) fun ds g1 => ds.length ≤ sizeLine ∧ Ok (lcL tg c e (wipeE E vs) ds g1) Q := by
  unfold nLc
  rw [h, if_neg (by decide)]
  cases ml E g with
  | none => simp only [ok_none]
  | some p =>
    obtain ⟨ds, g1⟩ := p
    simp only [ok_some]
    by_cases z : ds.length ≤ sizeLine
    · simp only [z, if_true, true_and]
    · simp only [z, if_false, false_and, ok_none]
theorem len_ints (lo : Int) (n : Nat) : (intsD lo n).length = n := by unfold intsD; simp
theorem mem_ints {n : Nat} {d : D} (h : d ∈ intsD 0 n) : ∃ i : Nat, i < n ∧ d = .int (i : Int) := by
  unfold intsD at h
  obtain ⟨i, hi, e⟩ := List.mem_map.mp h
  exact ⟨i, List.mem_range.mp hi, by rw [← e, Int.zero_add]⟩
theorem atI_nat {ds : List D} {i : Nat} (h : i < ds.length) : atI ds (i : Int) = some ds[i] := by
  unfold atI ixN
  rw [if_pos (by omega), if_pos (by omega)]
  simp [h]
theorem rg62 {n : Nat} (h : n ≤ 100) : -(2 ^ 62) ≤ (n : Int) ∧ (n : Int) < 2 ^ 62 := by
  have h1 : (0 : Int) ≤ 2 ^ 62 := by decide
  have h2 : (100 : Int) < 2 ^ 62 := by decide
  omega
/-! ### the spring -/
theorem drop_ok {m : Int} (h0 : 0 < m) (h1 : m.natAbs < 2 ^ 9000) (g : G) : Ok (Fd_law_drop [.dict [], .int m] g) fun d _ => ∃ v, d = .int v ∧ 0 ≤ v ∧ v < m := by
  have h2 := log_of h1
  unfold Fd_law_drop
  simp only [h0, if_true]
  split
  · rw [if_pos h2, ok_some]
    exact ⟨_, rfl, Int.emod_nonneg _ (by omega), Int.emod_lt_of_pos _ h0⟩
  · rw [ok_some]
    exact ⟨_, rfl, Int.emod_nonneg _ (by omega), Int.emod_lt_of_pos _ h0⟩
/-- m, then what is done with it -/
theorem drop_then {m : Int} (h0 : 0 < m) (h1 : m.natAbs < 2 ^ 9000) {g : G} {Q : D → G → Prop} (q : ∀ v g', 0 ≤ v → v < m → Q (.int v) g') : Ok (Fd_law_drop [.dict [], .int m] g) Q :=
  (drop_ok h0 h1 g).mono fun d g' ⟨v, e, a, b⟩ => by subst e; exact q v g' a b
theorem small9 {m : Nat} (h : m ≤ 2 ^ 200) : m < 2 ^ 9000 := Nat.lt_of_le_of_lt h (Nat.pow_lt_pow_right (by decide) (by decide))
def IsFr (d : D) (_ : G) : Prop := ∃ r : Rat, d = fr r ∧ Sz 140 r
theorem low_fr {t b : Int} (hb : b ≠ 0) (h : b.natAbs < 2 ^ 140) (ht : t.natAbs < 2 ^ 140) (g : G) : Ok (F_law_low [.int t, .int b] g) IsFr := by
  rw [ok_eq (low_ok hb (bd9 h (by decide)) g)]
  exact ⟨_, rfl, divInt_sz hb ht h⟩
theorem int_fr (t : Int) (h : t.natAbs < 2 ^ 140) (g : G) : IsFr (.tuple [.int t, .int 1]) g := by
  refine ⟨(t : Rat), ?_, ?_⟩
  · unfold fr
    rw [Rat.num_intCast, Rat.den_intCast]
    rfl
  · refine ⟨by rw [Rat.num_intCast]; exact h, by rw [Rat.den_intCast]; decide⟩
theorem number_ok (g : G) : Ok (F_law_number [.dict []] g) IsFr := by
  have p140 : (2000001 : Nat) < 2 ^ 140 := by decide
  unfold F_law_number m_law_number
  (try simp only [fEq_int, fNe_int, ok_eK, ok_lNil, ok_lCons, ok_e2, ok_e1, ok_eF, ok_eTup, ok_nLst, ok_eN, ok_mB, ok_mTru, ok_mNot, ok_mAnd, ok_mOr, ok_eAnd, ok_eOr, ok_eNot, ok_eIf, ok_eIsi, ok_eIsi2, ok_eTyC, ok_eCall, ok_eCallK, ok_oNo, ok_oAt, ok_eSl, ok_iOf, ok_iOfT, ok_iRg1, oks_sNx, oks_sSeq, oks_sSet, oks_sOwn, oks_sDrop, oks_sRet, oks_sIf, oks_sAsg, oks_sPar, oks_sFor, ok_runD, ok_some, oks_some, startE, eV, setsE, Tg.parts, fAdd_int, fAdd_lst, fAdd_tup, fSub_int, fMul_int, fDiv_int, fMod_int, fPow_int, fLt_int, fLe_int, fGt_int, fGe_int, fNeg_int, fIx_lst, fIx_tup, fLen_lst, fLen_tup, fAbs_int, fInt1_int, fInt1_bl, fGcd_int, fTuple_lst, fTuple_tup, fList_lst, fList_tup, fTru_bl, fTru_lst, fTru_tup, fIsB_bl, atI_0, atI_1, ty_int, ty_bl, ty_lst, ty_tup, ty_str, ty_non, List.map_cons, List.map_nil, List.length_cons, List.length_nil, List.replicate, List.cons_append, List.nil_append, List.getElem?_cons_zero, List.getElem?_cons_succ, List.set_cons_zero, List.set_cons_succ, List.zip_cons_cons, List.zip_nil_right, List.zip_nil_left, Option.some.injEq, exists_eq_left', exists_eq_left, Nat.reduceAdd, Nat.reduceSub, Nat.reduceEqDiff, PyData.bool.injEq, PyData.int.injEq, PyData.list.injEq, PyData.tuple.injEq, if_true, if_false, reduceIte, true_and, and_true, decide_true, decide_false, Bool.false_eq_true])
  refine drop_then (by decide) (by exact small9 (by decide)) fun w g1 w0 w1 => ?_
  (try simp only [fEq_int, fNe_int, ok_eK, ok_lNil, ok_lCons, ok_e2, ok_e1, ok_eF, ok_eTup, ok_nLst, ok_eN, ok_mB, ok_mTru, ok_mNot, ok_mAnd, ok_mOr, ok_eAnd, ok_eOr, ok_eNot, ok_eIf, ok_eIsi, ok_eIsi2, ok_eTyC, ok_eCall, ok_eCallK, ok_oNo, ok_oAt, ok_eSl, ok_iOf, ok_iOfT, ok_iRg1, oks_sNx, oks_sSeq, oks_sSet, oks_sOwn, oks_sDrop, oks_sRet, oks_sIf, oks_sAsg, oks_sPar, oks_sFor, ok_runD, ok_some, oks_some, startE, eV, setsE, Tg.parts, fAdd_int, fAdd_lst, fAdd_tup, fSub_int, fMul_int, fDiv_int, fMod_int, fPow_int, fLt_int, fLe_int, fGt_int, fGe_int, fNeg_int, fIx_lst, fIx_tup, fLen_lst, fLen_tup, fAbs_int, fInt1_int, fInt1_bl, fGcd_int, fTuple_lst, fTuple_tup, fList_lst, fList_tup, fTru_bl, fTru_lst, fTru_tup, fIsB_bl, atI_0, atI_1, ty_int, ty_bl, ty_lst, ty_tup, ty_str, ty_non, List.map_cons, List.map_nil, List.length_cons, List.length_nil, List.replicate, List.cons_append, List.nil_append, List.getElem?_cons_zero, List.getElem?_cons_succ, List.set_cons_zero, List.set_cons_succ, List.zip_cons_cons, List.zip_nil_right, List.zip_nil_left, Option.some.injEq, exists_eq_left', exists_eq_left, Nat.reduceAdd, Nat.reduceSub, Nat.reduceEqDiff, PyData.bool.injEq, PyData.int.injEq, PyData.list.injEq, PyData.tuple.injEq, if_true, if_false, reduceIte, true_and, and_true, decide_true, decide_false, Bool.false_eq_true])
  by_cases h0 : w = 0
  · simp only [h0, decide_true, if_true]
    (try simp only [fEq_int, fNe_int, ok_eK, ok_lNil, ok_lCons, ok_e2, ok_e1, ok_eF, ok_eTup, ok_nLst, ok_eN, ok_mB, ok_mTru, ok_mNot, ok_mAnd, ok_mOr, ok_eAnd, ok_eOr, ok_eNot, ok_eIf, ok_eIsi, ok_eIsi2, ok_eTyC, ok_eCall, ok_eCallK, ok_oNo, ok_oAt, ok_eSl, ok_iOf, ok_iOfT, ok_iRg1, oks_sNx, oks_sSeq, oks_sSet, oks_sOwn, oks_sDrop, oks_sRet, oks_sIf, oks_sAsg, oks_sPar, oks_sFor, ok_runD, ok_some, oks_some, startE, eV, setsE, Tg.parts, fAdd_int, fAdd_lst, fAdd_tup, fSub_int, fMul_int, fDiv_int, fMod_int, fPow_int, fLt_int, fLe_int, fGt_int, fGe_int, fNeg_int, fIx_lst, fIx_tup, fLen_lst, fLen_tup, fAbs_int, fInt1_int, fInt1_bl, fGcd_int, fTuple_lst, fTuple_tup, fList_lst, fList_tup, fTru_bl, fTru_lst, fTru_tup, fIsB_bl, atI_0, atI_1, ty_int, ty_bl, ty_lst, ty_tup, ty_str, ty_non, List.map_cons, List.map_nil, List.length_cons, List.length_nil, List.replicate, List.cons_append, List.nil_append, List.getElem?_cons_zero, List.getElem?_cons_succ, List.set_cons_zero, List.set_cons_succ, List.zip_cons_cons, List.zip_nil_right, List.zip_nil_left, Option.some.injEq, exists_eq_left', exists_eq_left, Nat.reduceAdd, Nat.reduceSub, Nat.reduceEqDiff, PyData.bool.injEq, PyData.int.injEq, PyData.list.injEq, PyData.tuple.injEq, if_true, if_false, reduceIte, true_and, and_true, decide_true, decide_false, Bool.false_eq_true])
    refine drop_then (by decide) (by exact small9 (by decide)) fun v g2 v0 v1 => ?_
    (try simp only [fEq_int, fNe_int, ok_eK, ok_lNil, ok_lCons, ok_e2, ok_e1, ok_eF, ok_eTup, ok_nLst, ok_eN, ok_mB, ok_mTru, ok_mNot, ok_mAnd, ok_mOr, ok_eAnd, ok_eOr, ok_eNot, ok_eIf, ok_eIsi, ok_eIsi2, ok_eTyC, ok_eCall, ok_eCallK, ok_oNo, ok_oAt, ok_eSl, ok_iOf, ok_iOfT, ok_iRg1, oks_sNx, oks_sSeq, oks_sSet, oks_sOwn, oks_sDrop, oks_sRet, oks_sIf, oks_sAsg, oks_sPar, oks_sFor, ok_runD, ok_some, oks_some, startE, eV, setsE, Tg.parts, fAdd_int, fAdd_lst, fAdd_tup, fSub_int, fMul_int, fDiv_int, fMod_int, fPow_int, fLt_int, fLe_int, fGt_int, fGe_int, fNeg_int, fIx_lst, fIx_tup, fLen_lst, fLen_tup, fAbs_int, fInt1_int, fInt1_bl, fGcd_int, fTuple_lst, fTuple_tup, fList_lst, fList_tup, fTru_bl, fTru_lst, fTru_tup, fIsB_bl, atI_0, atI_1, ty_int, ty_bl, ty_lst, ty_tup, ty_str, ty_non, List.map_cons, List.map_nil, List.length_cons, List.length_nil, List.replicate, List.cons_append, List.nil_append, List.getElem?_cons_zero, List.getElem?_cons_succ, List.set_cons_zero, List.set_cons_succ, List.zip_cons_cons, List.zip_nil_right, List.zip_nil_left, Option.some.injEq, exists_eq_left', exists_eq_left, Nat.reduceAdd, Nat.reduceSub, Nat.reduceEqDiff, PyData.bool.injEq, PyData.int.injEq, PyData.list.injEq, PyData.tuple.injEq, if_true, if_false, reduceIte, true_and, and_true, decide_true, decide_false, Bool.false_eq_true])
    exact ⟨by decide, int_fr _ (by omega) _⟩
  · simp only [h0, decide_false, Bool.false_eq_true, if_false]
    (try simp only [fEq_int, fNe_int, ok_eK, ok_lNil, ok_lCons, ok_e2, ok_e1, ok_eF, ok_eTup, ok_nLst, ok_eN, ok_mB, ok_mTru, ok_mNot, ok_mAnd, ok_mOr, ok_eAnd, ok_eOr, ok_eNot, ok_eIf, ok_eIsi, ok_eIsi2, ok_eTyC, ok_eCall, ok_eCallK, ok_oNo, ok_oAt, ok_eSl, ok_iOf, ok_iOfT, ok_iRg1, oks_sNx, oks_sSeq, oks_sSet, oks_sOwn, oks_sDrop, oks_sRet, oks_sIf, oks_sAsg, oks_sPar, oks_sFor, ok_runD, ok_some, oks_some, startE, eV, setsE, Tg.parts, fAdd_int, fAdd_lst, fAdd_tup, fSub_int, fMul_int, fDiv_int, fMod_int, fPow_int, fLt_int, fLe_int, fGt_int, fGe_int, fNeg_int, fIx_lst, fIx_tup, fLen_lst, fLen_tup, fAbs_int, fInt1_int, fInt1_bl, fGcd_int, fTuple_lst, fTuple_tup, fList_lst, fList_tup, fTru_bl, fTru_lst, fTru_tup, fIsB_bl, atI_0, atI_1, ty_int, ty_bl, ty_lst, ty_tup, ty_str, ty_non, List.map_cons, List.map_nil, List.length_cons, List.length_nil, List.replicate, List.cons_append, List.nil_append, List.getElem?_cons_zero, List.getElem?_cons_succ, List.set_cons_zero, List.set_cons_succ, List.zip_cons_cons, List.zip_nil_right, List.zip_nil_left, Option.some.injEq, exists_eq_left', exists_eq_left, Nat.reduceAdd, Nat.reduceSub, Nat.reduceEqDiff, PyData.bool.injEq, PyData.int.injEq, PyData.list.injEq, PyData.tuple.injEq, if_true, if_false, reduceIte, true_and, and_true, decide_true, decide_false, Bool.false_eq_true])
    by_cases h1 : w < 3
    · simp only [h1, decide_true, if_true]
      (try simp only [fEq_int, fNe_int, ok_eK, ok_lNil, ok_lCons, ok_e2, ok_e1, ok_eF, ok_eTup, ok_nLst, ok_eN, ok_mB, ok_mTru, ok_mNot, ok_mAnd, ok_mOr, ok_eAnd, ok_eOr, ok_eNot, ok_eIf, ok_eIsi, ok_eIsi2, ok_eTyC, ok_eCall, ok_eCallK, ok_oNo, ok_oAt, ok_eSl, ok_iOf, ok_iOfT, ok_iRg1, oks_sNx, oks_sSeq, oks_sSet, oks_sOwn, oks_sDrop, oks_sRet, oks_sIf, oks_sAsg, oks_sPar, oks_sFor, ok_runD, ok_some, oks_some, startE, eV, setsE, Tg.parts, fAdd_int, fAdd_lst, fAdd_tup, fSub_int, fMul_int, fDiv_int, fMod_int, fPow_int, fLt_int, fLe_int, fGt_int, fGe_int, fNeg_int, fIx_lst, fIx_tup, fLen_lst, fLen_tup, fAbs_int, fInt1_int, fInt1_bl, fGcd_int, fTuple_lst, fTuple_tup, fList_lst, fList_tup, fTru_bl, fTru_lst, fTru_tup, fIsB_bl, atI_0, atI_1, ty_int, ty_bl, ty_lst, ty_tup, ty_str, ty_non, List.map_cons, List.map_nil, List.length_cons, List.length_nil, List.replicate, List.cons_append, List.nil_append, List.getElem?_cons_zero, List.getElem?_cons_succ, List.set_cons_zero, List.set_cons_succ, List.zip_cons_cons, List.zip_nil_right, List.zip_nil_left, Option.some.injEq, exists_eq_left', exists_eq_left, Nat.reduceAdd, Nat.reduceSub, Nat.reduceEqDiff, PyData.bool.injEq, PyData.int.injEq, PyData.list.injEq, PyData.tuple.injEq, if_true, if_false, reduceIte, true_and, and_true, decide_true, decide_false, Bool.false_eq_true])
      refine drop_then (by decide) (by exact small9 (by decide)) fun v g2 v0 v1 => ?_
      (try simp only [fEq_int, fNe_int, ok_eK, ok_lNil, ok_lCons, ok_e2, ok_e1, ok_eF, ok_eTup, ok_nLst, ok_eN, ok_mB, ok_mTru, ok_mNot, ok_mAnd, ok_mOr, ok_eAnd, ok_eOr, ok_eNot, ok_eIf, ok_eIsi, ok_eIsi2, ok_eTyC, ok_eCall, ok_eCallK, ok_oNo, ok_oAt, ok_eSl, ok_iOf, ok_iOfT, ok_iRg1, oks_sNx, oks_sSeq, oks_sSet, oks_sOwn, oks_sDrop, oks_sRet, oks_sIf, oks_sAsg, oks_sPar, oks_sFor, ok_runD, ok_some, oks_some, startE, eV, setsE, Tg.parts, fAdd_int, fAdd_lst, fAdd_tup, fSub_int, fMul_int, fDiv_int, fMod_int, fPow_int, fLt_int, fLe_int, fGt_int, fGe_int, fNeg_int, fIx_lst, fIx_tup, fLen_lst, fLen_tup, fAbs_int, fInt1_int, fInt1_bl, fGcd_int, fTuple_lst, fTuple_tup, fList_lst, fList_tup, fTru_bl, fTru_lst, fTru_tup, fIsB_bl, atI_0, atI_1, ty_int, ty_bl, ty_lst, ty_tup, ty_str, ty_non, List.map_cons, List.map_nil, List.length_cons, List.length_nil, List.replicate, List.cons_append, List.nil_append, List.getElem?_cons_zero, List.getElem?_cons_succ, List.set_cons_zero, List.set_cons_succ, List.zip_cons_cons, List.zip_nil_right, List.zip_nil_left, Option.some.injEq, exists_eq_left', exists_eq_left, Nat.reduceAdd, Nat.reduceSub, Nat.reduceEqDiff, PyData.bool.injEq, PyData.int.injEq, PyData.list.injEq, PyData.tuple.injEq, if_true, if_false, reduceIte, true_and, and_true, decide_true, decide_false, Bool.false_eq_true])
      refine ⟨by decide, drop_then (by decide) (by exact small9 (by decide)) fun u g3 u0 u1 => ?_⟩
      have : u = 0 ∨ u = 1 ∨ u = 2 ∨ u = 3 := by omega
      rcases this with rfl | rfl | rfl | rfl
      · exact ⟨.int 100, rfl, low_fr (by decide) (by decide) (by omega) _⟩
      · exact ⟨.int 1000, rfl, low_fr (by decide) (by decide) (by omega) _⟩
      · exact ⟨.int 8, rfl, low_fr (by decide) (by decide) (by omega) _⟩
      · exact ⟨.int 20, rfl, low_fr (by decide) (by decide) (by omega) _⟩
    · simp only [h1, decide_false, Bool.false_eq_true, if_false]
      (try simp only [fEq_int, fNe_int, ok_eK, ok_lNil, ok_lCons, ok_e2, ok_e1, ok_eF, ok_eTup, ok_nLst, ok_eN, ok_mB, ok_mTru, ok_mNot, ok_mAnd, ok_mOr, ok_eAnd, ok_eOr, ok_eNot, ok_eIf, ok_eIsi, ok_eIsi2, ok_eTyC, ok_eCall, ok_eCallK, ok_oNo, ok_oAt, ok_eSl, ok_iOf, ok_iOfT, ok_iRg1, oks_sNx, oks_sSeq, oks_sSet, oks_sOwn, oks_sDrop, oks_sRet, oks_sIf, oks_sAsg, oks_sPar, oks_sFor, ok_runD, ok_some, oks_some, startE, eV, setsE, Tg.parts, fAdd_int, fAdd_lst, fAdd_tup, fSub_int, fMul_int, fDiv_int, fMod_int, fPow_int, fLt_int, fLe_int, fGt_int, fGe_int, fNeg_int, fIx_lst, fIx_tup, fLen_lst, fLen_tup, fAbs_int, fInt1_int, fInt1_bl, fGcd_int, fTuple_lst, fTuple_tup, fList_lst, fList_tup, fTru_bl, fTru_lst, fTru_tup, fIsB_bl, atI_0, atI_1, ty_int, ty_bl, ty_lst, ty_tup, ty_str, ty_non, List.map_cons, List.map_nil, List.length_cons, List.length_nil, List.replicate, List.cons_append, List.nil_append, List.getElem?_cons_zero, List.getElem?_cons_succ, List.set_cons_zero, List.set_cons_succ, List.zip_cons_cons, List.zip_nil_right, List.zip_nil_left, Option.some.injEq, exists_eq_left', exists_eq_left, Nat.reduceAdd, Nat.reduceSub, Nat.reduceEqDiff, PyData.bool.injEq, PyData.int.injEq, PyData.list.injEq, PyData.tuple.injEq, if_true, if_false, reduceIte, true_and, and_true, decide_true, decide_false, Bool.false_eq_true])
      by_cases h2 : w < 5
      · simp only [h2, decide_true, if_true]
        (try simp only [fEq_int, fNe_int, ok_eK, ok_lNil, ok_lCons, ok_e2, ok_e1, ok_eF, ok_eTup, ok_nLst, ok_eN, ok_mB, ok_mTru, ok_mNot, ok_mAnd, ok_mOr, ok_eAnd, ok_eOr, ok_eNot, ok_eIf, ok_eIsi, ok_eIsi2, ok_eTyC, ok_eCall, ok_eCallK, ok_oNo, ok_oAt, ok_eSl, ok_iOf, ok_iOfT, ok_iRg1, oks_sNx, oks_sSeq, oks_sSet, oks_sOwn, oks_sDrop, oks_sRet, oks_sIf, oks_sAsg, oks_sPar, oks_sFor, ok_runD, ok_some, oks_some, startE, eV, setsE, Tg.parts, fAdd_int, fAdd_lst, fAdd_tup, fSub_int, fMul_int, fDiv_int, fMod_int, fPow_int, fLt_int, fLe_int, fGt_int, fGe_int, fNeg_int, fIx_lst, fIx_tup, fLen_lst, fLen_tup, fAbs_int, fInt1_int, fInt1_bl, fGcd_int, fTuple_lst, fTuple_tup, fList_lst, fList_tup, fTru_bl, fTru_lst, fTru_tup, fIsB_bl, atI_0, atI_1, ty_int, ty_bl, ty_lst, ty_tup, ty_str, ty_non, List.map_cons, List.map_nil, List.length_cons, List.length_nil, List.replicate, List.cons_append, List.nil_append, List.getElem?_cons_zero, List.getElem?_cons_succ, List.set_cons_zero, List.set_cons_succ, List.zip_cons_cons, List.zip_nil_right, List.zip_nil_left, Option.some.injEq, exists_eq_left', exists_eq_left, Nat.reduceAdd, Nat.reduceSub, Nat.reduceEqDiff, PyData.bool.injEq, PyData.int.injEq, PyData.list.injEq, PyData.tuple.injEq, if_true, if_false, reduceIte, true_and, and_true, decide_true, decide_false, Bool.false_eq_true])
        refine drop_then (by decide) (by exact small9 (by decide)) fun v g2 v0 v1 => ?_
        (try simp only [fEq_int, fNe_int, ok_eK, ok_lNil, ok_lCons, ok_e2, ok_e1, ok_eF, ok_eTup, ok_nLst, ok_eN, ok_mB, ok_mTru, ok_mNot, ok_mAnd, ok_mOr, ok_eAnd, ok_eOr, ok_eNot, ok_eIf, ok_eIsi, ok_eIsi2, ok_eTyC, ok_eCall, ok_eCallK, ok_oNo, ok_oAt, ok_eSl, ok_iOf, ok_iOfT, ok_iRg1, oks_sNx, oks_sSeq, oks_sSet, oks_sOwn, oks_sDrop, oks_sRet, oks_sIf, oks_sAsg, oks_sPar, oks_sFor, ok_runD, ok_some, oks_some, startE, eV, setsE, Tg.parts, fAdd_int, fAdd_lst, fAdd_tup, fSub_int, fMul_int, fDiv_int, fMod_int, fPow_int, fLt_int, fLe_int, fGt_int, fGe_int, fNeg_int, fIx_lst, fIx_tup, fLen_lst, fLen_tup, fAbs_int, fInt1_int, fInt1_bl, fGcd_int, fTuple_lst, fTuple_tup, fList_lst, fList_tup, fTru_bl, fTru_lst, fTru_tup, fIsB_bl, atI_0, atI_1, ty_int, ty_bl, ty_lst, ty_tup, ty_str, ty_non, List.map_cons, List.map_nil, List.length_cons, List.length_nil, List.replicate, List.cons_append, List.nil_append, List.getElem?_cons_zero, List.getElem?_cons_succ, List.set_cons_zero, List.set_cons_succ, List.zip_cons_cons, List.zip_nil_right, List.zip_nil_left, Option.some.injEq, exists_eq_left', exists_eq_left, Nat.reduceAdd, Nat.reduceSub, Nat.reduceEqDiff, PyData.bool.injEq, PyData.int.injEq, PyData.list.injEq, PyData.tuple.injEq, if_true, if_false, reduceIte, true_and, and_true, decide_true, decide_false, Bool.false_eq_true])
        refine drop_then (by decide) (by exact small9 (by decide)) fun u g3 u0 u1 => ?_
        (try simp only [fEq_int, fNe_int, ok_eK, ok_lNil, ok_lCons, ok_e2, ok_e1, ok_eF, ok_eTup, ok_nLst, ok_eN, ok_mB, ok_mTru, ok_mNot, ok_mAnd, ok_mOr, ok_eAnd, ok_eOr, ok_eNot, ok_eIf, ok_eIsi, ok_eIsi2, ok_eTyC, ok_eCall, ok_eCallK, ok_oNo, ok_oAt, ok_eSl, ok_iOf, ok_iOfT, ok_iRg1, oks_sNx, oks_sSeq, oks_sSet, oks_sOwn, oks_sDrop, oks_sRet, oks_sIf, oks_sAsg, oks_sPar, oks_sFor, ok_runD, ok_some, oks_some, startE, eV, setsE, Tg.parts, fAdd_int, fAdd_lst, fAdd_tup, fSub_int, fMul_int, fDiv_int, fMod_int, fPow_int, fLt_int, fLe_int, fGt_int, fGe_int, fNeg_int, fIx_lst, fIx_tup, fLen_lst, fLen_tup, fAbs_int, fInt1_int, fInt1_bl, fGcd_int, fTuple_lst, fTuple_tup, fList_lst, fList_tup, fTru_bl, fTru_lst, fTru_tup, fIsB_bl, atI_0, atI_1, ty_int, ty_bl, ty_lst, ty_tup, ty_str, ty_non, List.map_cons, List.map_nil, List.length_cons, List.length_nil, List.replicate, List.cons_append, List.nil_append, List.getElem?_cons_zero, List.getElem?_cons_succ, List.set_cons_zero, List.set_cons_succ, List.zip_cons_cons, List.zip_nil_right, List.zip_nil_left, Option.some.injEq, exists_eq_left', exists_eq_left, Nat.reduceAdd, Nat.reduceSub, Nat.reduceEqDiff, PyData.bool.injEq, PyData.int.injEq, PyData.list.injEq, PyData.tuple.injEq, if_true, if_false, reduceIte, true_and, and_true, decide_true, decide_false, Bool.false_eq_true])
        exact low_fr (by omega) (by omega) (by omega) _
      · simp only [h2, decide_false, Bool.false_eq_true, if_false]
        (try simp only [fEq_int, fNe_int, ok_eK, ok_lNil, ok_lCons, ok_e2, ok_e1, ok_eF, ok_eTup, ok_nLst, ok_eN, ok_mB, ok_mTru, ok_mNot, ok_mAnd, ok_mOr, ok_eAnd, ok_eOr, ok_eNot, ok_eIf, ok_eIsi, ok_eIsi2, ok_eTyC, ok_eCall, ok_eCallK, ok_oNo, ok_oAt, ok_eSl, ok_iOf, ok_iOfT, ok_iRg1, oks_sNx, oks_sSeq, oks_sSet, oks_sOwn, oks_sDrop, oks_sRet, oks_sIf, oks_sAsg, oks_sPar, oks_sFor, ok_runD, ok_some, oks_some, startE, eV, setsE, Tg.parts, fAdd_int, fAdd_lst, fAdd_tup, fSub_int, fMul_int, fDiv_int, fMod_int, fPow_int, fLt_int, fLe_int, fGt_int, fGe_int, fNeg_int, fIx_lst, fIx_tup, fLen_lst, fLen_tup, fAbs_int, fInt1_int, fInt1_bl, fGcd_int, fTuple_lst, fTuple_tup, fList_lst, fList_tup, fTru_bl, fTru_lst, fTru_tup, fIsB_bl, atI_0, atI_1, ty_int, ty_bl, ty_lst, ty_tup, ty_str, ty_non, List.map_cons, List.map_nil, List.length_cons, List.length_nil, List.replicate, List.cons_append, List.nil_append, List.getElem?_cons_zero, List.getElem?_cons_succ, List.set_cons_zero, List.set_cons_succ, List.zip_cons_cons, List.zip_nil_right, List.zip_nil_left, Option.some.injEq, exists_eq_left', exists_eq_left, Nat.reduceAdd, Nat.reduceSub, Nat.reduceEqDiff, PyData.bool.injEq, PyData.int.injEq, PyData.list.injEq, PyData.tuple.injEq, if_true, if_false, reduceIte, true_and, and_true, decide_true, decide_false, Bool.false_eq_true])
        refine drop_then (by decide) (by exact small9 (by decide)) fun v g2 v0 v1 => ?_
        (try simp only [fEq_int, fNe_int, ok_eK, ok_lNil, ok_lCons, ok_e2, ok_e1, ok_eF, ok_eTup, ok_nLst, ok_eN, ok_mB, ok_mTru, ok_mNot, ok_mAnd, ok_mOr, ok_eAnd, ok_eOr, ok_eNot, ok_eIf, ok_eIsi, ok_eIsi2, ok_eTyC, ok_eCall, ok_eCallK, ok_oNo, ok_oAt, ok_eSl, ok_iOf, ok_iOfT, ok_iRg1, oks_sNx, oks_sSeq, oks_sSet, oks_sOwn, oks_sDrop, oks_sRet, oks_sIf, oks_sAsg, oks_sPar, oks_sFor, ok_runD, ok_some, oks_some, startE, eV, setsE, Tg.parts, fAdd_int, fAdd_lst, fAdd_tup, fSub_int, fMul_int, fDiv_int, fMod_int, fPow_int, fLt_int, fLe_int, fGt_int, fGe_int, fNeg_int, fIx_lst, fIx_tup, fLen_lst, fLen_tup, fAbs_int, fInt1_int, fInt1_bl, fGcd_int, fTuple_lst, fTuple_tup, fList_lst, fList_tup, fTru_bl, fTru_lst, fTru_tup, fIsB_bl, atI_0, atI_1, ty_int, ty_bl, ty_lst, ty_tup, ty_str, ty_non, List.map_cons, List.map_nil, List.length_cons, List.length_nil, List.replicate, List.cons_append, List.nil_append, List.getElem?_cons_zero, List.getElem?_cons_succ, List.set_cons_zero, List.set_cons_succ, List.zip_cons_cons, List.zip_nil_right, List.zip_nil_left, Option.some.injEq, exists_eq_left', exists_eq_left, Nat.reduceAdd, Nat.reduceSub, Nat.reduceEqDiff, PyData.bool.injEq, PyData.int.injEq, PyData.list.injEq, PyData.tuple.injEq, if_true, if_false, reduceIte, true_and, and_true, decide_true, decide_false, Bool.false_eq_true])
        refine drop_then (by decide) (by exact small9 (by decide)) fun u g3 u0 u1 => ?_
        (try simp only [fEq_int, fNe_int, ok_eK, ok_lNil, ok_lCons, ok_e2, ok_e1, ok_eF, ok_eTup, ok_nLst, ok_eN, ok_mB, ok_mTru, ok_mNot, ok_mAnd, ok_mOr, ok_eAnd, ok_eOr, ok_eNot, ok_eIf, ok_eIsi, ok_eIsi2, ok_eTyC, ok_eCall, ok_eCallK, ok_oNo, ok_oAt, ok_eSl, ok_iOf, ok_iOfT, ok_iRg1, oks_sNx, oks_sSeq, oks_sSet, oks_sOwn, oks_sDrop, oks_sRet, oks_sIf, oks_sAsg, oks_sPar, oks_sFor, ok_runD, ok_some, oks_some, startE, eV, setsE, Tg.parts, fAdd_int, fAdd_lst, fAdd_tup, fSub_int, fMul_int, fDiv_int, fMod_int, fPow_int, fLt_int, fLe_int, fGt_int, fGe_int, fNeg_int, fIx_lst, fIx_tup, fLen_lst, fLen_tup, fAbs_int, fInt1_int, fInt1_bl, fGcd_int, fTuple_lst, fTuple_tup, fList_lst, fList_tup, fTru_bl, fTru_lst, fTru_tup, fIsB_bl, atI_0, atI_1, ty_int, ty_bl, ty_lst, ty_tup, ty_str, ty_non, List.map_cons, List.map_nil, List.length_cons, List.length_nil, List.replicate, List.cons_append, List.nil_append, List.getElem?_cons_zero, List.getElem?_cons_succ, List.set_cons_zero, List.set_cons_succ, List.zip_cons_cons, List.zip_nil_right, List.zip_nil_left, Option.some.injEq, exists_eq_left', exists_eq_left, Nat.reduceAdd, Nat.reduceSub, Nat.reduceEqDiff, PyData.bool.injEq, PyData.int.injEq, PyData.list.injEq, PyData.tuple.injEq, if_true, if_false, reduceIte, true_and, and_true, decide_true, decide_false, Bool.false_eq_true])
        exact low_fr (by omega) (by omega) (by omega) _
end K06

set_option Elab.async false
set_option linter.all false
set_option maxRecDepth 100000
set_option maxHeartbeats 4000000
namespace K06
open PySem PySem.Spec PyProof.Rows L2 DL
theorem oks_seqI {a b : MS} {E : En} {g : G} {P : En → G → Prop} {Q : Fl → En → G → Prop} (h : OkS (a E g) fun r E' g' => r = .nx ∧ P E' g') (k : ∀ E' g', P E' g' → OkS (b E' g') Q) : OkS (sSeq a b E g) Q := by
  rw [oks_sSeq]
  refine h.mono fun r E' g' ⟨e, p⟩ => ?_
  subst e
  exact k E' g' p
abbrev SP : Sl := .val (.dict [])
theorem neg_fr (r : Rat) : PyData.tuple [.int (-r.num), .int (r.den : Int)] = fr (-r) := by
  unfold fr
  rw [Rat.neg_num, Rat.neg_den]
theorem oks_ret {d : D} {E : En} {g : G} {Q : Fl → En → G → Prop} : OkS (sRet (eK d) E g) Q ↔ Q (.ret d) E g := by (try simp only [fEq_int, fNe_int, ok_eK, ok_lNil, ok_lCons, ok_e2, ok_e1, ok_eF, ok_eTup, ok_nLst, ok_eN, ok_mB, ok_mTru, ok_mNot, ok_mAnd, ok_mOr, ok_eAnd, ok_eOr, ok_eNot, ok_eIf, ok_eIsi, ok_eIsi2, ok_eTyC, ok_eCall, ok_eCallK, ok_oNo, ok_oAt, ok_eSl, ok_iOf, ok_iOfT, ok_iRg1, oks_sNx, oks_sSeq, oks_sSet, oks_sOwn, oks_sDrop, oks_sRet, oks_sIf, oks_sAsg, oks_sPar, oks_sFor, ok_runD, ok_some, oks_some, startE, eV, setsE, Tg.parts, fAdd_int, fAdd_lst, fAdd_tup, fSub_int, fMul_int, fDiv_int, fMod_int, fPow_int, fLt_int, fLe_int, fGt_int, fGe_int, fNeg_int, fIx_lst, fIx_tup, fLen_lst, fLen_tup, fAbs_int, fInt1_int, fInt1_bl, fGcd_int, fTuple_lst, fTuple_tup, fList_lst, fList_tup, fTru_bl, fTru_lst, fTru_tup, fIsB_bl, atI_0, atI_1, ty_int, ty_bl, ty_lst, ty_tup, ty_str, ty_non, List.map_cons, List.map_nil, List.length_cons, List.length_nil, List.replicate, List.cons_append, List.nil_append, List.getElem?_cons_zero, List.getElem?_cons_succ, List.set_cons_zero, List.set_cons_succ, List.zip_cons_cons, List.zip_nil_right, List.zip_nil_left, Option.some.injEq, exists_eq_left', exists_eq_left, Nat.reduceAdd, Nat.reduceSub, Nat.reduceEqDiff, PyData.bool.injEq, PyData.int.injEq, PyData.list.injEq, PyData.tuple.injEq, if_true, if_false, reduceIte, true_and, and_true, decide_true, decide_false, Bool.false_eq_true])
theorem must {m : M} {E : En} {g : G} {P : En → G → Prop} (h : Ok (m E g) fun d _ => d = .bool true) (hp : ∀ g', P E g') : OkS (sIf (mNot (mTru m)) (sRet (eK (.bool false))) sNx E g) fun r E' g' => r = .nx ∧ P E' g' := by
  rw [oks_sIf, ok_mNot, ok_mTru]
  refine h.mono fun d g' e => ?_
  subst e
  refine ⟨true, rfl, ?_⟩
  rw [if_neg (by decide)]
  exact ⟨_, _, _, rfl, rfl, hp g'⟩
theorem idx4 {a b c d : D} {v : Int} (h0 : 0 ≤ v) (h1 : v < 4) {P : D → Prop} (ha : P a) (hb : P b) (hc : P c) (hd : P d) : ∃ z, atI [a, b, c, d] v = some z ∧ P z := by
  have : v = 0 ∨ v = 1 ∨ v = 2 ∨ v = 3 := by omega
  rcases this with rfl | rfl | rfl | rfl
  · exact ⟨a, rfl, ha⟩
  · exact ⟨b, rfl, hb⟩
  · exact ⟨c, rfl, hc⟩
  · exact ⟨d, rfl, hd⟩
theorem idx6 {a b c d e f : D} {v : Int} (h0 : 0 ≤ v) (h1 : v < 6) {P : D → Prop} (ha : P a) (hb : P b) (hc : P c) (hd : P d) (he : P e) (hf : P f) : ∃ z, atI [a, b, c, d, e, f] v = some z ∧ P z := by
  have : v = 0 ∨ v = 1 ∨ v = 2 ∨ v = 3 ∨ v = 4 ∨ v = 5 := by omega
  rcases this with rfl | rfl | rfl | rfl | rfl | rfl
  · exact ⟨a, rfl, ha⟩
  · exact ⟨b, rfl, hb⟩
  · exact ⟨c, rfl, hc⟩
  · exact ⟨d, rfl, hd⟩
  · exact ⟨e, rfl, he⟩
  · exact ⟨f, rfl, hf⟩
theorem Sz.neg {n : Nat} {r : Rat} (h : Sz n r) : Sz n (-r) := ⟨by rw [Rat.neg_num, Int.natAbs_neg]; exact h.1, by rw [Rat.neg_den]; exact h.2⟩
theorem oks_sApp {i : Nat} {m : M} {E : En} {g : G} {Q : Fl → En → G → Prop} : OkS (sApp i m E g) Q ↔ Ok (m E g) fun d g1 => ∃ ds, E[i]? = some (.own ds) ∧ ds.length < sizeLine ∧ Q .nx (E.set i (.own (ds ++ [d]))) g1 := by
  unfold sApp
  cases m E g with
  | none => exact ⟨fun ⟨_, _, _, e, _⟩ => (nomatch e), fun ⟨_, _, e, _⟩ => nomatch e⟩
  | some p =>
    simp only [ok_some]
    cases h : E[i]? with
    | none => exact ⟨fun ⟨_, _, _, e, _⟩ => (nomatch e), fun ⟨_, e, _⟩ => nomatch e⟩
    | some z =>
      cases z with
      | own ds =>
        by_cases hl : ds.length < sizeLine
        · simp only [hl, if_true, oks_some]
          exact ⟨fun q => ⟨ds, rfl, hl, q⟩, fun ⟨_, e, _, q⟩ => by cases e; exact q⟩
        · simp only [hl, if_false]
          exact ⟨fun ⟨_, _, _, e, _⟩ => (nomatch e), fun ⟨_, e, w, _⟩ => by cases e; exact absurd w hl⟩
      | _ => exact ⟨fun ⟨_, _, _, e, _⟩ => (nomatch e), fun ⟨_, e, _⟩ => nomatch e⟩
theorem fIx_fr0 {r : Rat} : fIx (fr r) (.int 0) = some (.int r.num) := rfl
theorem fIx_fr1 {r : Rat} : fIx (fr r) (.int 1) = some (.int (r.den : Int)) := rfl
theorem lcL_two {tg : Tg} {e : M} {E : En} {g : G} {x y a b : D} {ps qs : List (Nat × D)} (h1 : tg.parts x = some ps) (h2 : e (setsE ps E) g = some (a, g)) (h3 : tg.parts y = some qs) (h4 : e (setsE qs E) g = some (b, g)) : lcL tg mYes e E [x, y] g = some ([a, b], g) := by
  unfold lcL
  rw [h1]
  simp only [mYes, h2]
  unfold lcL
  rw [h3]
  simp only [mYes, h4]
  rfl
theorem fAll_two (a b : Bool) : fAll [.list [.bool a, .bool b]] = some (.bool (a && b)) := by cases a <;> cases b <;> rfl
theorem num_pos {c : Rat} : 0 < c.num ↔ 0 < c := by
  have h1 := Rat.num_nonneg (q := c)
  have h2 := Rat.num_eq_zero (q := c)
  grind
abbrev cDr : MT := mAnd (mGrNe (eV false 2)) (mB (e2 fEq (eGr0 (eV false 2)) (eK (.int 0))))
abbrev bDr : MS := sGrPop (eV true 2)
abbrev EDr (m : Int) (x : Sl) : En := [.val (.dict []), .val (.int m), .val grD, x]
theorem grNe (m : Int) (x : Sl) (g : G) : mGrNe (eV false 2) (EDr m x) g = some (!g.deep.isEmpty, g) := rfl
theorem gr0 (b : Bool) (m : Int) (x : Sl) (n : Int) (r : List Int) (p q : Int) : eGr0 (eV b 2) (EDr m x) ⟨n :: r, p, q⟩ = some (.int n, ⟨n :: r, p, q⟩) := by cases b <;> rfl
theorem whDr (m : Int) (x : Sl) (p q : Int) : ∀ (l : List Int) (n : Nat), l.length < n → whL cDr bDr n (EDr m x) ⟨l, p, q⟩ = some (.nx, EDr m x, ⟨l.dropWhile (· == 0), p, q⟩)
  | _, 0, h => absurd h (by omega)
  | [], n + 1, _ => by
    have hc : cDr (EDr m x) ⟨[], p, q⟩ = some (false, ⟨[], p, q⟩) := rfl
    unfold whL
    rw [hc]
    rfl
  | y :: r, n + 1, h => by
    have hc : cDr (EDr m x) ⟨y :: r, p, q⟩ = some (decide (y = 0), ⟨y :: r, p, q⟩) := by
      refine Ok.eq ?_
      show Ok (mAnd _ _ _ _) _
      rw [ok_mAnd, ok_eq (grNe m x _)]
      simp only [List.isEmpty_cons, Bool.not_false, if_true]
      rw [ok_mB, ok_e2, ok_eq (gr0 false m x y r p q)]
      (try simp only [fEq_int, fNe_int, ok_eK, ok_lNil, ok_lCons, ok_e2, ok_e1, ok_eF, ok_eTup, ok_nLst, ok_eN, ok_mB, ok_mTru, ok_mNot, ok_mAnd, ok_mOr, ok_eAnd, ok_eOr, ok_eNot, ok_eIf, ok_eIsi, ok_eIsi2, ok_eTyC, ok_eCall, ok_eCallK, ok_oNo, ok_oAt, ok_eSl, ok_iOf, ok_iOfT, ok_iRg1, oks_sNx, oks_sSeq, oks_sSet, oks_sOwn, oks_sDrop, oks_sRet, oks_sIf, oks_sAsg, oks_sPar, oks_sFor, ok_runD, ok_some, oks_some, startE, eV, setsE, Tg.parts, fAdd_int, fAdd_lst, fAdd_tup, fSub_int, fMul_int, fDiv_int, fMod_int, fPow_int, fLt_int, fLe_int, fGt_int, fGe_int, fNeg_int, fIx_lst, fIx_tup, fLen_lst, fLen_tup, fAbs_int, fInt1_int, fInt1_bl, fGcd_int, fTuple_lst, fTuple_tup, fList_lst, fList_tup, fTru_bl, fTru_lst, fTru_tup, fIsB_bl, atI_0, atI_1, ty_int, ty_bl, ty_lst, ty_tup, ty_str, ty_non, List.map_cons, List.map_nil, List.length_cons, List.length_nil, List.replicate, List.cons_append, List.nil_append, List.getElem?_cons_zero, List.getElem?_cons_succ, List.set_cons_zero, List.set_cons_succ, List.zip_cons_cons, List.zip_nil_right, List.zip_nil_left, Option.some.injEq, exists_eq_left', exists_eq_left, Nat.reduceAdd, Nat.reduceSub, Nat.reduceEqDiff, PyData.bool.injEq, PyData.int.injEq, PyData.list.injEq, PyData.tuple.injEq, if_true, if_false, reduceIte, true_and, and_true, decide_true, decide_false, Bool.false_eq_true])
    unfold whL
    rw [hc]
    by_cases hy : y = 0
    · have hb : bDr (EDr m x) ⟨y :: r, p, q⟩ = some (.nx, EDr m x, ⟨r, p, q⟩) := rfl
      simp only [hy, decide_true]
      rw [hy] at hb
      simp only [hb]
      rw [whDr m x p q r n (by simpa using h)]
      simp
    · simp [hy]
theorem c1 (p : Int) : cMul p 6364136223846793005 = true := by
  unfold cMul
  simp
theorem c2 (p : Int) : cMul p 1442695040888963407 = true := by
  unfold cMul
  simp
theorem c3 {p : Int} (h0 : 0 ≤ p) (h1 : p < 2305843009213693951) : cMul p p = true := by
  unfold cMul
  have : p.natAbs < 2 ^ 64 := by omega
  simp [this]
theorem drop_imp (ds : List D) (g : G) (r : D × G) (h : Fd_law_drop ds g = some r) : F_law_drop ds g = some r := by
  unfold Fd_law_drop at h
  split at h
  · rename_i m
    split at h
    · rename_i hm
      suffices hs : Ok (F_law_drop [.dict [], .int m] g) fun d g' => r = (d, g') by
        obtain ⟨d, g', e, rfl⟩ := hs
        exact e
      obtain ⟨deep, p, q⟩ := g
      unfold F_law_drop m_law_drop
      rw [ok_runD, oks_sSeq, oks_sSet]
      have h1' : eSp 0 (eV true 0) (startE 4 [.dict [], .int m]) ⟨deep, p, q⟩ = some (grD, ⟨deep, p, q⟩) := rfl
      rw [ok_eq h1']
      show OkS (sSeq _ _ (EDr m .no) _) _
      rw [oks_sSeq]
      have h2' : sWhile fuG cDr bDr (EDr m .no) ⟨deep, p, q⟩ = some (.nx, EDr m .no, ⟨deep.dropWhile (· == 0), p, q⟩) := whDr m .no p q deep (deep.length + 1) (by omega)
      show OkS (sWhile fuG cDr bDr (EDr m .no) ⟨deep, p, q⟩) _
      rw [h2', oks_some]
      show OkS (sSeq _ _ (EDr m .no) _) _
      generalize deep.dropWhile (· == 0) = dd at h ⊢
      rw [oks_sSeq, oks_sIf, ok_eq (grNe m .no _)]
      cases dd with
      | cons n rr =>
        simp only at h
        split at h
        · rename_i hl
          cases h
          simp only [List.isEmpty_cons, Bool.not_false, if_true]
          have hm2 : decide (0 < m) = true := decide_eq_true hm
          rw [oks_sSeq, oks_sSet, ok_e2, ok_eF, ok_lCons, ok_eq (gr0 true m .no n rr p q)]
          (try simp only [fEq_int, fNe_int, ok_eK, ok_lNil, ok_lCons, ok_e2, ok_e1, ok_eF, ok_eTup, ok_nLst, ok_eN, ok_mB, ok_mTru, ok_mNot, ok_mAnd, ok_mOr, ok_eAnd, ok_eOr, ok_eNot, ok_eIf, ok_eIsi, ok_eIsi2, ok_eTyC, ok_eCall, ok_eCallK, ok_oNo, ok_oAt, ok_eSl, ok_iOf, ok_iOfT, ok_iRg1, oks_sNx, oks_sSeq, oks_sSet, oks_sOwn, oks_sDrop, oks_sRet, oks_sIf, oks_sAsg, oks_sPar, oks_sFor, ok_runD, ok_some, oks_some, startE, eV, setsE, Tg.parts, fAdd_int, fAdd_lst, fAdd_tup, fSub_int, fMul_int, fDiv_int, fMod_int, fPow_int, fLt_int, fLe_int, fGt_int, fGe_int, fNeg_int, fIx_lst, fIx_tup, fLen_lst, fLen_tup, fAbs_int, fInt1_int, fInt1_bl, fGcd_int, fTuple_lst, fTuple_tup, fList_lst, fList_tup, fTru_bl, fTru_lst, fTru_tup, fIsB_bl, atI_0, atI_1, ty_int, ty_bl, ty_lst, ty_tup, ty_str, ty_non, List.map_cons, List.map_nil, List.length_cons, List.length_nil, List.replicate, List.cons_append, List.nil_append, List.getElem?_cons_zero, List.getElem?_cons_succ, List.set_cons_zero, List.set_cons_succ, List.zip_cons_cons, List.zip_nil_right, List.zip_nil_left, Option.some.injEq, exists_eq_left', exists_eq_left, Nat.reduceAdd, Nat.reduceSub, Nat.reduceEqDiff, PyData.bool.injEq, PyData.int.injEq, PyData.list.injEq, PyData.tuple.injEq, if_true, if_false, reduceIte, true_and, and_true, decide_true, decide_false, Bool.false_eq_true, hm2])
          have cd : cDiv n m = true := by
            unfold cDiv
            rw [Bool.and_eq_true, decide_eq_true_eq, decide_eq_true_eq]
            exact ⟨by omega, hl⟩
          have e3 : OkS (sGrSet (e2 fDiv (eGr0 (eV true 2)) (eV true 1)) (eV true 2) [.val (.dict []), .val (.int m), .val grD, .val (.int (n % m))] ⟨n :: rr, p, q⟩) fun f E' g' => f = .nx ∧ E' = [.val (.dict []), .val (.int m), .val grD, .val (.int (n % m))] ∧ g' = ⟨n.fdiv m :: rr, p, q⟩ := by
            have e4 : (e2 fDiv (eGr0 (eV true 2)) (eV true 1)) (EDr m (.val (.int (n % m)))) ⟨n :: rr, p, q⟩ = some (.int (n.fdiv m), ⟨n :: rr, p, q⟩) := by
              refine Ok.eq ?_
              rw [ok_e2, ok_eq (gr0 true m _ n rr p q)]
              (try simp only [fEq_int, fNe_int, ok_eK, ok_lNil, ok_lCons, ok_e2, ok_e1, ok_eF, ok_eTup, ok_nLst, ok_eN, ok_mB, ok_mTru, ok_mNot, ok_mAnd, ok_mOr, ok_eAnd, ok_eOr, ok_eNot, ok_eIf, ok_eIsi, ok_eIsi2, ok_eTyC, ok_eCall, ok_eCallK, ok_oNo, ok_oAt, ok_eSl, ok_iOf, ok_iOfT, ok_iRg1, oks_sNx, oks_sSeq, oks_sSet, oks_sOwn, oks_sDrop, oks_sRet, oks_sIf, oks_sAsg, oks_sPar, oks_sFor, ok_runD, ok_some, oks_some, startE, eV, setsE, Tg.parts, fAdd_int, fAdd_lst, fAdd_tup, fSub_int, fMul_int, fDiv_int, fMod_int, fPow_int, fLt_int, fLe_int, fGt_int, fGe_int, fNeg_int, fIx_lst, fIx_tup, fLen_lst, fLen_tup, fAbs_int, fInt1_int, fInt1_bl, fGcd_int, fTuple_lst, fTuple_tup, fList_lst, fList_tup, fTru_bl, fTru_lst, fTru_tup, fIsB_bl, atI_0, atI_1, ty_int, ty_bl, ty_lst, ty_tup, ty_str, ty_non, List.map_cons, List.map_nil, List.length_cons, List.length_nil, List.replicate, List.cons_append, List.nil_append, List.getElem?_cons_zero, List.getElem?_cons_succ, List.set_cons_zero, List.set_cons_succ, List.zip_cons_cons, List.zip_nil_right, List.zip_nil_left, Option.some.injEq, exists_eq_left', exists_eq_left, Nat.reduceAdd, Nat.reduceSub, Nat.reduceEqDiff, PyData.bool.injEq, PyData.int.injEq, PyData.list.injEq, PyData.tuple.injEq, if_true, if_false, reduceIte, true_and, and_true, decide_true, decide_false, Bool.false_eq_true, cd])
            have e5 : eV true 2 (EDr m (.val (.int (n % m)))) ⟨n :: rr, p, q⟩ = some (grD, ⟨n :: rr, p, q⟩) := rfl
            unfold sGrSet
            rw [e4]
            simp only
            rw [e5]
            exact ⟨_, _, _, rfl, rfl, rfl, rfl⟩
          refine e3.mono fun f E' g' ⟨f1, f2, f3⟩ => ?_
          subst f1; subst f2; subst f3
          (try simp only [fEq_int, fNe_int, ok_eK, ok_lNil, ok_lCons, ok_e2, ok_e1, ok_eF, ok_eTup, ok_nLst, ok_eN, ok_mB, ok_mTru, ok_mNot, ok_mAnd, ok_mOr, ok_eAnd, ok_eOr, ok_eNot, ok_eIf, ok_eIsi, ok_eIsi2, ok_eTyC, ok_eCall, ok_eCallK, ok_oNo, ok_oAt, ok_eSl, ok_iOf, ok_iOfT, ok_iRg1, oks_sNx, oks_sSeq, oks_sSet, oks_sOwn, oks_sDrop, oks_sRet, oks_sIf, oks_sAsg, oks_sPar, oks_sFor, ok_runD, ok_some, oks_some, startE, eV, setsE, Tg.parts, fAdd_int, fAdd_lst, fAdd_tup, fSub_int, fMul_int, fDiv_int, fMod_int, fPow_int, fLt_int, fLe_int, fGt_int, fGe_int, fNeg_int, fIx_lst, fIx_tup, fLen_lst, fLen_tup, fAbs_int, fInt1_int, fInt1_bl, fGcd_int, fTuple_lst, fTuple_tup, fList_lst, fList_tup, fTru_bl, fTru_lst, fTru_tup, fIsB_bl, atI_0, atI_1, ty_int, ty_bl, ty_lst, ty_tup, ty_str, ty_non, List.map_cons, List.map_nil, List.length_cons, List.length_nil, List.replicate, List.cons_append, List.nil_append, List.getElem?_cons_zero, List.getElem?_cons_succ, List.set_cons_zero, List.set_cons_succ, List.zip_cons_cons, List.zip_nil_right, List.zip_nil_left, Option.some.injEq, exists_eq_left', exists_eq_left, Nat.reduceAdd, Nat.reduceSub, Nat.reduceEqDiff, PyData.bool.injEq, PyData.int.injEq, PyData.list.injEq, PyData.tuple.injEq, if_true, if_false, reduceIte, true_and, and_true, decide_true, decide_false, Bool.false_eq_true])
          rw [Int.fdiv_eq_ediv_of_nonneg _ (by omega)]
        · cases h
      | nil =>
        cases h
        simp only [List.isEmpty_nil, Bool.not_true, Bool.false_eq_true, if_false]
        have hm2 : decide (0 < m) = true := decide_eq_true hm
        rw [oks_sNx]
        show OkS (sSeq _ _ (EDr m .no) _) _
        have s2 : sSpSet 2 (e2 fAdd (eSp 2 (eV true 0)) (eK (.int 1))) (eV true 0) (EDr m .no) ⟨[], p, q⟩ = some (.nx, EDr m .no, ⟨[], p, q + 1⟩) := rfl
        rw [oks_sSeq, s2, oks_some]
        show OkS (sSeq _ _ (EDr m .no) _) _
        have v1 : (e2 fMod (eF fInt1 (lCons (e2 fAdd (e2 fMul (eSp 1 (eV true 0)) (eK (.int 6364136223846793005))) (e2 fMul (eSp 2 (eV true 0)) (eK (.int 1442695040888963407)))) (lNil))) (eK (.int 2305843009213693951))) (EDr m .no) ⟨[], p, q + 1⟩ = some (.int ((p * 6364136223846793005 + (q + 1) * 1442695040888963407) % 2305843009213693951), ⟨[], p, q + 1⟩) := by
          have x1 : eSp 1 (eV true 0) (EDr m .no) ⟨[], p, q + 1⟩ = some (.int p, ⟨[], p, q + 1⟩) := rfl
          have x2 : eSp 2 (eV true 0) (EDr m .no) ⟨[], p, q + 1⟩ = some (.int (q + 1), ⟨[], p, q + 1⟩) := rfl
          refine Ok.eq ?_
          rw [ok_e2, ok_eF, ok_lCons, ok_e2, ok_e2, ok_eq x1]
          simp only [ok_eK, fMul_int, c1, if_true, Option.some.injEq, exists_eq_left', ok_e2, ok_eq x2, c2]
          (try simp only [fEq_int, fNe_int, ok_eK, ok_lNil, ok_lCons, ok_e2, ok_e1, ok_eF, ok_eTup, ok_nLst, ok_eN, ok_mB, ok_mTru, ok_mNot, ok_mAnd, ok_mOr, ok_eAnd, ok_eOr, ok_eNot, ok_eIf, ok_eIsi, ok_eIsi2, ok_eTyC, ok_eCall, ok_eCallK, ok_oNo, ok_oAt, ok_eSl, ok_iOf, ok_iOfT, ok_iRg1, oks_sNx, oks_sSeq, oks_sSet, oks_sOwn, oks_sDrop, oks_sRet, oks_sIf, oks_sAsg, oks_sPar, oks_sFor, ok_runD, ok_some, oks_some, startE, eV, setsE, Tg.parts, fAdd_int, fAdd_lst, fAdd_tup, fSub_int, fMul_int, fDiv_int, fMod_int, fPow_int, fLt_int, fLe_int, fGt_int, fGe_int, fNeg_int, fIx_lst, fIx_tup, fLen_lst, fLen_tup, fAbs_int, fInt1_int, fInt1_bl, fGcd_int, fTuple_lst, fTuple_tup, fList_lst, fList_tup, fTru_bl, fTru_lst, fTru_tup, fIsB_bl, atI_0, atI_1, ty_int, ty_bl, ty_lst, ty_tup, ty_str, ty_non, List.map_cons, List.map_nil, List.length_cons, List.length_nil, List.replicate, List.cons_append, List.nil_append, List.getElem?_cons_zero, List.getElem?_cons_succ, List.set_cons_zero, List.set_cons_succ, List.zip_cons_cons, List.zip_nil_right, List.zip_nil_left, Option.some.injEq, exists_eq_left', exists_eq_left, Nat.reduceAdd, Nat.reduceSub, Nat.reduceEqDiff, PyData.bool.injEq, PyData.int.injEq, PyData.list.injEq, PyData.tuple.injEq, if_true, if_false, reduceIte, true_and, and_true, decide_true, decide_false, Bool.false_eq_true])
          simp
        have s1 : sSpSet 1 (e2 fMod (eF fInt1 (lCons (e2 fAdd (e2 fMul (eSp 1 (eV true 0)) (eK (.int 6364136223846793005))) (e2 fMul (eSp 2 (eV true 0)) (eK (.int 1442695040888963407)))) (lNil))) (eK (.int 2305843009213693951))) (eV true 0) (EDr m .no) ⟨[], p, q + 1⟩ = some (.nx, EDr m .no, ⟨[], (p * 6364136223846793005 + (q + 1) * 1442695040888963407) % 2305843009213693951, q + 1⟩) := by
          unfold sSpSet
          rw [v1]
          rfl
        rw [oks_sSeq, s1, oks_some]
        generalize hP : (p * 6364136223846793005 + (q + 1) * 1442695040888963407) % 2305843009213693951 = P
        have P0 : 0 ≤ P := by rw [← hP]; exact Int.emod_nonneg _ (by decide)
        have P1 : P < 2305843009213693951 := by rw [← hP]; exact Int.emod_lt_of_pos _ (by decide)
        show OkS (sRet _ (EDr m .no) _) _
        have x1 : eSp 1 (eV false 0) (EDr m .no) ⟨[], P, q + 1⟩ = some (.int P, ⟨[], P, q + 1⟩) := rfl
        rw [oks_sRet, ok_e2, ok_e2, ok_e2, ok_eF, ok_lCons, ok_e2, ok_eq x1, ok_eq x1]
        have cd : ∀ z : Int, cDiv z 1048576 = true := fun z => by unfold cDiv; decide
        simp only [fMul_int, c3 P0 P1, if_true, Option.some.injEq, exists_eq_left', ok_lNil, fInt1_int, ok_eK, fMod_int, fDiv_int, cd, hm2]
        (try simp only [fEq_int, fNe_int, ok_eK, ok_lNil, ok_lCons, ok_e2, ok_e1, ok_eF, ok_eTup, ok_nLst, ok_eN, ok_mB, ok_mTru, ok_mNot, ok_mAnd, ok_mOr, ok_eAnd, ok_eOr, ok_eNot, ok_eIf, ok_eIsi, ok_eIsi2, ok_eTyC, ok_eCall, ok_eCallK, ok_oNo, ok_oAt, ok_eSl, ok_iOf, ok_iOfT, ok_iRg1, oks_sNx, oks_sSeq, oks_sSet, oks_sOwn, oks_sDrop, oks_sRet, oks_sIf, oks_sAsg, oks_sPar, oks_sFor, ok_runD, ok_some, oks_some, startE, eV, setsE, Tg.parts, fAdd_int, fAdd_lst, fAdd_tup, fSub_int, fMul_int, fDiv_int, fMod_int, fPow_int, fLt_int, fLe_int, fGt_int, fGe_int, fNeg_int, fIx_lst, fIx_tup, fLen_lst, fLen_tup, fAbs_int, fInt1_int, fInt1_bl, fGcd_int, fTuple_lst, fTuple_tup, fList_lst, fList_tup, fTru_bl, fTru_lst, fTru_tup, fIsB_bl, atI_0, atI_1, ty_int, ty_bl, ty_lst, ty_tup, ty_str, ty_non, List.map_cons, List.map_nil, List.length_cons, List.length_nil, List.replicate, List.cons_append, List.nil_append, List.getElem?_cons_zero, List.getElem?_cons_succ, List.set_cons_zero, List.set_cons_succ, List.zip_cons_cons, List.zip_nil_right, List.zip_nil_left, Option.some.injEq, exists_eq_left', exists_eq_left, Nat.reduceAdd, Nat.reduceSub, Nat.reduceEqDiff, PyData.bool.injEq, PyData.int.injEq, PyData.list.injEq, PyData.tuple.injEq, if_true, if_false, reduceIte, true_and, and_true, decide_true, decide_false, Bool.false_eq_true, hm2])
        simp [hm]
        refine ⟨.int ((P * P % 2305843009213693921).fdiv 1048576), by rw [fDiv_int, if_pos (cd _)], ?_⟩
        rw [fMod_int, if_pos hm2, Int.fdiv_eq_ediv_of_nonneg _ (by decide)]
    · cases h
  · cases h
abbrev scD (ns : List Int) : D := .dict [(.none, .list (ns.map .int))]
abbrev cSp : MT := mB (e2 fGe (eV false 3) (e2 fPow (eK (.int 10)) (eK (.int 18))))
abbrev eSpr : M := e2 fSub (eV true 3) (e2 fPow (eK (.int 10)) (eK (.int 18)))
theorem lcSp (x y z : Sl) (g : G) : ∀ ns : List Int, ∃ ms : List Int, ms.length ≤ ns.length ∧ lcL (.one 3) cSp eSpr [x, y, z, .no] (ns.map .int) g = some (ms.map .int, g)
  | [] => ⟨[], Nat.le_refl _, rfl⟩
  | n :: ns => by
    obtain ⟨ms, hl, h⟩ := lcSp x y z g ns
    have c18 : (decide ((0 : Int) ≤ 18) && decide ((18 : Int) ≤ 1000000) && decide ((10 : Int).natAbs < 2 ^ 64)) = true := by decide
    have hc : cSp [x, y, z, .val (.int n)] g = some (decide ((10 : Int) ^ (18 : Int).toNat ≤ n), g) := by
      refine Ok.eq ?_
      (try simp only [fEq_int, fNe_int, ok_eK, ok_lNil, ok_lCons, ok_e2, ok_e1, ok_eF, ok_eTup, ok_nLst, ok_eN, ok_mB, ok_mTru, ok_mNot, ok_mAnd, ok_mOr, ok_eAnd, ok_eOr, ok_eNot, ok_eIf, ok_eIsi, ok_eIsi2, ok_eTyC, ok_eCall, ok_eCallK, ok_oNo, ok_oAt, ok_eSl, ok_iOf, ok_iOfT, ok_iRg1, oks_sNx, oks_sSeq, oks_sSet, oks_sOwn, oks_sDrop, oks_sRet, oks_sIf, oks_sAsg, oks_sPar, oks_sFor, ok_runD, ok_some, oks_some, startE, eV, setsE, Tg.parts, fAdd_int, fAdd_lst, fAdd_tup, fSub_int, fMul_int, fDiv_int, fMod_int, fPow_int, fLt_int, fLe_int, fGt_int, fGe_int, fNeg_int, fIx_lst, fIx_tup, fLen_lst, fLen_tup, fAbs_int, fInt1_int, fInt1_bl, fGcd_int, fTuple_lst, fTuple_tup, fList_lst, fList_tup, fTru_bl, fTru_lst, fTru_tup, fIsB_bl, atI_0, atI_1, ty_int, ty_bl, ty_lst, ty_tup, ty_str, ty_non, List.map_cons, List.map_nil, List.length_cons, List.length_nil, List.replicate, List.cons_append, List.nil_append, List.getElem?_cons_zero, List.getElem?_cons_succ, List.set_cons_zero, List.set_cons_succ, List.zip_cons_cons, List.zip_nil_right, List.zip_nil_left, Option.some.injEq, exists_eq_left', exists_eq_left, Nat.reduceAdd, Nat.reduceSub, Nat.reduceEqDiff, PyData.bool.injEq, PyData.int.injEq, PyData.list.injEq, PyData.tuple.injEq, if_true, if_false, reduceIte, true_and, and_true, decide_true, decide_false, Bool.false_eq_true, c18])
    have he : eSpr [x, y, z, .val (.int n)] g = some (.int (n - (10 : Int) ^ (18 : Int).toNat), g) := by
      refine Ok.eq ?_
      (try simp only [fEq_int, fNe_int, ok_eK, ok_lNil, ok_lCons, ok_e2, ok_e1, ok_eF, ok_eTup, ok_nLst, ok_eN, ok_mB, ok_mTru, ok_mNot, ok_mAnd, ok_mOr, ok_eAnd, ok_eOr, ok_eNot, ok_eIf, ok_eIsi, ok_eIsi2, ok_eTyC, ok_eCall, ok_eCallK, ok_oNo, ok_oAt, ok_eSl, ok_iOf, ok_iOfT, ok_iRg1, oks_sNx, oks_sSeq, oks_sSet, oks_sOwn, oks_sDrop, oks_sRet, oks_sIf, oks_sAsg, oks_sPar, oks_sFor, ok_runD, ok_some, oks_some, startE, eV, setsE, Tg.parts, fAdd_int, fAdd_lst, fAdd_tup, fSub_int, fMul_int, fDiv_int, fMod_int, fPow_int, fLt_int, fLe_int, fGt_int, fGe_int, fNeg_int, fIx_lst, fIx_tup, fLen_lst, fLen_tup, fAbs_int, fInt1_int, fInt1_bl, fGcd_int, fTuple_lst, fTuple_tup, fList_lst, fList_tup, fTru_bl, fTru_lst, fTru_tup, fIsB_bl, atI_0, atI_1, ty_int, ty_bl, ty_lst, ty_tup, ty_str, ty_non, List.map_cons, List.map_nil, List.length_cons, List.length_nil, List.replicate, List.cons_append, List.nil_append, List.getElem?_cons_zero, List.getElem?_cons_succ, List.set_cons_zero, List.set_cons_succ, List.zip_cons_cons, List.zip_nil_right, List.zip_nil_left, Option.some.injEq, exists_eq_left', exists_eq_left, Nat.reduceAdd, Nat.reduceSub, Nat.reduceEqDiff, PyData.bool.injEq, PyData.int.injEq, PyData.list.injEq, PyData.tuple.injEq, if_true, if_false, reduceIte, true_and, and_true, decide_true, decide_false, Bool.false_eq_true, c18])
    by_cases hn : (10 : Int) ^ (18 : Int).toNat ≤ n
    · refine ⟨(n - (10 : Int) ^ (18 : Int).toNat) :: ms, by simp only [List.length_cons]; omega, ?_⟩
      rw [List.map_cons]
      unfold lcL
      show (match cSp [x, y, z, .val (.int n)] g with
        | none => none
        | some (false, g1) => lcL (.one 3) cSp eSpr [x, y, z, .no] (ns.map .int) g1
        | some (true, g1) => match eSpr [x, y, z, .val (.int n)] g1 with
          | none => none
          | some (w, g2) => match lcL (.one 3) cSp eSpr [x, y, z, .no] (ns.map .int) g2 with
            | none => none
            | some (xs, g3) => some (w :: xs, g3)) = _
      rw [hc, decide_eq_true hn]
      simp only
      rw [he]
      simp only
      rw [h]
      rfl
    · refine ⟨ms, by simp only [List.length_cons]; omega, ?_⟩
      rw [List.map_cons]
      unfold lcL
      show (match cSp [x, y, z, .val (.int n)] g with
        | none => none
        | some (false, g1) => lcL (.one 3) cSp eSpr [x, y, z, .no] (ns.map .int) g1
        | some (true, g1) => match eSpr [x, y, z, .val (.int n)] g1 with
          | none => none
          | some (w, g2) => match lcL (.one 3) cSp eSpr [x, y, z, .no] (ns.map .int) g2 with
            | none => none
            | some (xs, g3) => some (w :: xs, g3)) = _
      rw [hc, decide_eq_false hn]
      exact h
theorem d1 (p : Int) : cMul p 982451653 = true := by
  unfold cMul
  simp
theorem d2 (p : Int) : cMul p 49979687 = true := by
  unfold cMul
  simp
theorem d3 (p : Int) : cMul 2 p = true := by
  unfold cMul
  simp
theorem spring_ok (ns : List Int) (hl : ns.length ≤ 100) (g : G) : Ok (F_law_spring [scD ns] g) fun d g' => ∃ (deep : List Int) (p : Int), d = .list [.list (deep.map .int), .int p, .int 0] ∧ g' = g := by
  have hs : ns.length ≤ sizeLine := sz_ok hl
  unfold F_law_spring m_law_spring
  rw [ok_runD]
  have iz : ∀ (E : En) (h0 : E[0]? = some (.val (scD ns))), iOfZ (eV true 0) E g = some (ns.map .int, g) := fun E h0 => by
    unfold iOfZ eV
    rw [h0]
  refine oks_seqI (P := fun E' g' => ∃ deep : List Int, g' = g ∧ E' = [.val (scD ns), .val (.list (deep.map .int)), .no, .no]) ?_ ?_
  · rw [oks_sSet, ok_eN, ok_nLc (by rfl), ok_eq (iz _ rfl)]
    obtain ⟨ms, hm, h⟩ := lcSp (.val (scD ns)) .no .no g ns
    refine ⟨by rw [List.length_map]; exact hs, ?_⟩
    show Ok (lcL (.one 3) cSp eSpr [.val (scD ns), .no, .no, .no] (ns.map .int) g) _
    rw [ok_eq h]
    exact ⟨rfl, ms, rfl, rfl⟩
  rintro _ g1 ⟨deep, rfl, rfl⟩
  refine oks_seqI (P := fun E' g' => ∃ p : Int, g' = g1 ∧ E' = [.val (scD ns), .val (.list (deep.map .int)), .val (.int p), .no]) ?_ ?_
  · have fl : fLen [scD ns] = some (.int ns.length) := by
      show some (PyData.int ((ns.map PyData.int).length : Int)) = _
      rw [List.length_map]
    (try simp only [fEq_int, fNe_int, ok_eK, ok_lNil, ok_lCons, ok_e2, ok_e1, ok_eF, ok_eTup, ok_nLst, ok_eN, ok_mB, ok_mTru, ok_mNot, ok_mAnd, ok_mOr, ok_eAnd, ok_eOr, ok_eNot, ok_eIf, ok_eIsi, ok_eIsi2, ok_eTyC, ok_eCall, ok_eCallK, ok_oNo, ok_oAt, ok_eSl, ok_iOf, ok_iOfT, ok_iRg1, oks_sNx, oks_sSeq, oks_sSet, oks_sOwn, oks_sDrop, oks_sRet, oks_sIf, oks_sAsg, oks_sPar, oks_sFor, ok_runD, ok_some, oks_some, startE, eV, setsE, Tg.parts, fAdd_int, fAdd_lst, fAdd_tup, fSub_int, fMul_int, fDiv_int, fMod_int, fPow_int, fLt_int, fLe_int, fGt_int, fGe_int, fNeg_int, fIx_lst, fIx_tup, fLen_lst, fLen_tup, fAbs_int, fInt1_int, fInt1_bl, fGcd_int, fTuple_lst, fTuple_tup, fList_lst, fList_tup, fTru_bl, fTru_lst, fTru_tup, fIsB_bl, atI_0, atI_1, ty_int, ty_bl, ty_lst, ty_tup, ty_str, ty_non, List.map_cons, List.map_nil, List.length_cons, List.length_nil, List.replicate, List.cons_append, List.nil_append, List.getElem?_cons_zero, List.getElem?_cons_succ, List.set_cons_zero, List.set_cons_succ, List.zip_cons_cons, List.zip_nil_right, List.zip_nil_left, Option.some.injEq, exists_eq_left', exists_eq_left, Nat.reduceAdd, Nat.reduceSub, Nat.reduceEqDiff, PyData.bool.injEq, PyData.int.injEq, PyData.list.injEq, PyData.tuple.injEq, if_true, if_false, reduceIte, true_and, and_true, decide_true, decide_false, Bool.false_eq_true, fl, d3])
    exact ⟨_, rfl⟩
  rintro _ g2 ⟨p, rfl, rfl⟩
  refine oks_seqI (P := fun E' g' => g' = g2 ∧ ∃ (p : Int) (x : Sl), E' = [.val (scD ns), .val (.list (deep.map .int)), .val (.int p), x]) ?_ ?_
  · rw [oks_sFor, ok_eq (iz _ rfl)]
    refine forL_ok (I := fun E' g' => g' = g2 ∧ ∃ (p : Int) (x : Sl), E' = [.val (scD ns), .val (.list (deep.map .int)), .val (.int p), x]) _ _ _ (fun d hd E' g' ⟨h1, p, x, h2⟩ => ?_) ⟨rfl, _, _, rfl⟩
    subst h1; subst h2
    obtain ⟨n, _, rfl⟩ := List.mem_map.mp hd
    refine ⟨_, rfl, ?_⟩
    show OkS (sSet 2 _ [.val (scD ns), .val (.list (deep.map .int)), .val (.int p), .val (.int n)] _) _
    have m0 : decide ((0 : Int) < 2305843009213693951) = true := by decide
    (try simp only [fEq_int, fNe_int, ok_eK, ok_lNil, ok_lCons, ok_e2, ok_e1, ok_eF, ok_eTup, ok_nLst, ok_eN, ok_mB, ok_mTru, ok_mNot, ok_mAnd, ok_mOr, ok_eAnd, ok_eOr, ok_eNot, ok_eIf, ok_eIsi, ok_eIsi2, ok_eTyC, ok_eCall, ok_eCallK, ok_oNo, ok_oAt, ok_eSl, ok_iOf, ok_iOfT, ok_iRg1, oks_sNx, oks_sSeq, oks_sSet, oks_sOwn, oks_sDrop, oks_sRet, oks_sIf, oks_sAsg, oks_sPar, oks_sFor, ok_runD, ok_some, oks_some, startE, eV, setsE, Tg.parts, fAdd_int, fAdd_lst, fAdd_tup, fSub_int, fMul_int, fDiv_int, fMod_int, fPow_int, fLt_int, fLe_int, fGt_int, fGe_int, fNeg_int, fIx_lst, fIx_tup, fLen_lst, fLen_tup, fAbs_int, fInt1_int, fInt1_bl, fGcd_int, fTuple_lst, fTuple_tup, fList_lst, fList_tup, fTru_bl, fTru_lst, fTru_tup, fIsB_bl, atI_0, atI_1, ty_int, ty_bl, ty_lst, ty_tup, ty_str, ty_non, List.map_cons, List.map_nil, List.length_cons, List.length_nil, List.replicate, List.cons_append, List.nil_append, List.getElem?_cons_zero, List.getElem?_cons_succ, List.set_cons_zero, List.set_cons_succ, List.zip_cons_cons, List.zip_nil_right, List.zip_nil_left, Option.some.injEq, exists_eq_left', exists_eq_left, Nat.reduceAdd, Nat.reduceSub, Nat.reduceEqDiff, PyData.bool.injEq, PyData.int.injEq, PyData.list.injEq, PyData.tuple.injEq, if_true, if_false, reduceIte, true_and, and_true, decide_true, decide_false, Bool.false_eq_true, d1, d2, m0])
    exact ⟨_, _, rfl⟩
  rintro _ g3 ⟨rfl, p, x, rfl⟩
  have z3 : 3 ≤ sizeLine := sz_ok (by decide)
  (try simp only [fEq_int, fNe_int, ok_eK, ok_lNil, ok_lCons, ok_e2, ok_e1, ok_eF, ok_eTup, ok_nLst, ok_eN, ok_mB, ok_mTru, ok_mNot, ok_mAnd, ok_mOr, ok_eAnd, ok_eOr, ok_eNot, ok_eIf, ok_eIsi, ok_eIsi2, ok_eTyC, ok_eCall, ok_eCallK, ok_oNo, ok_oAt, ok_eSl, ok_iOf, ok_iOfT, ok_iRg1, oks_sNx, oks_sSeq, oks_sSet, oks_sOwn, oks_sDrop, oks_sRet, oks_sIf, oks_sAsg, oks_sPar, oks_sFor, ok_runD, ok_some, oks_some, startE, eV, setsE, Tg.parts, fAdd_int, fAdd_lst, fAdd_tup, fSub_int, fMul_int, fDiv_int, fMod_int, fPow_int, fLt_int, fLe_int, fGt_int, fGe_int, fNeg_int, fIx_lst, fIx_tup, fLen_lst, fLen_tup, fAbs_int, fInt1_int, fInt1_bl, fGcd_int, fTuple_lst, fTuple_tup, fList_lst, fList_tup, fTru_bl, fTru_lst, fTru_tup, fIsB_bl, atI_0, atI_1, ty_int, ty_bl, ty_lst, ty_tup, ty_str, ty_non, List.map_cons, List.map_nil, List.length_cons, List.length_nil, List.replicate, List.cons_append, List.nil_append, List.getElem?_cons_zero, List.getElem?_cons_succ, List.set_cons_zero, List.set_cons_succ, List.zip_cons_cons, List.zip_nil_right, List.zip_nil_left, Option.some.injEq, exists_eq_left', exists_eq_left, Nat.reduceAdd, Nat.reduceSub, Nat.reduceEqDiff, PyData.bool.injEq, PyData.int.injEq, PyData.list.injEq, PyData.tuple.injEq, if_true, if_false, reduceIte, true_and, and_true, decide_true, decide_false, Bool.false_eq_true, z3])
  exact ⟨deep, p, rfl⟩
end K06

set_option linter.all false
namespace M5
def pt (e : Int) : Rat := if e < 0 then 1 / ((10 ^ (-e).toNat : Nat) : Rat) else ((10 ^ e.toNat : Nat) : Rat)
theorem tp (n : Nat) : (0 : Rat) < ((10 ^ n : Nat) : Rat) := by
  have : 0 < 10 ^ n := Nat.pow_pos (by decide)
  exact_mod_cast this
theorem pt_succ (e : Int) : pt (e + 1) = 10 * pt e := by
  unfold pt
  by_cases h : e < 0
  · rw [if_pos h]
    by_cases h1 : e + 1 < 0
    · rw [if_pos h1]
      have : (-e).toNat = (-(e + 1)).toNat + 1 := by omega
      rw [this, Nat.pow_succ]
      have := tp (-(e + 1)).toNat
      generalize (10 ^ (-(e + 1)).toNat) = n at *
      push_cast
      grind
    · have : e = -1 := by omega
      subst this
      decide +kernel
  · rw [if_neg h, if_neg (by omega)]
    have : (e + 1).toNat = e.toNat + 1 := by omega
    rw [this, Nat.pow_succ]
    push_cast
    grind
theorem pt_pos (e : Int) : 0 < pt e := by
  unfold pt
  split
  · have := tp (-e).toNat
    generalize ((10 ^ (-e).toNat : Nat) : Rat) = x at *
    rw [Rat.div_def, Rat.one_mul]
    exact Rat.inv_pos.mpr this
  · exact tp _
theorem pt_add (e : Int) (n : Nat) : pt (e + n) = 10 ^ n * pt e := by
  induction n with
  | zero => simp [Rat.one_mul]
  | succ n ih =>
    rw [show e + ((n + 1 : Nat) : Int) = (e + n) + 1 by omega, pt_succ, ih, Rat.pow_succ]
    grind
def dg (i : Int) : Rat := if i % 3 = 0 then 1 else if i % 3 = 1 then 2 else 5
def u (i : Int) : Rat := dg i * pt (i / 3)
theorem u0 (e : Int) : u (3 * e) = pt e := by
  unfold u dg
  rw [if_pos (by omega), show 3 * e / 3 = e by omega, Rat.one_mul]
theorem u1 (e : Int) : u (3 * e + 1) = 2 * pt e := by
  unfold u dg
  rw [if_neg (by omega), if_pos (by omega), show (3 * e + 1) / 3 = e by omega]
theorem u2 (e : Int) : u (3 * e + 2) = 5 * pt e := by
  unfold u dg
  rw [if_neg (by omega), if_neg (by omega), show (3 * e + 2) / 3 = e by omega]
theorem by3 (i : Int) : ∃ e, i = 3 * e ∨ i = 3 * e + 1 ∨ i = 3 * e + 2 := ⟨i / 3, by omega⟩
theorem u_pos (i : Int) : 0 < u i := by
  obtain ⟨e, rfl | rfl | rfl⟩ := by3 i
  · rw [u0]; exact pt_pos e
  · rw [u1]; have := pt_pos e; grind
  · rw [u2]; have := pt_pos e; grind
theorem u_succ (i : Int) : u i < u (i + 1) := by
  obtain ⟨e, rfl | rfl | rfl⟩ := by3 i
  · rw [u0, u1]; have := pt_pos e; grind
  · rw [show 3 * e + 1 + 1 = 3 * e + 2 by omega, u1, u2]; have := pt_pos e; grind
  · rw [show 3 * e + 2 + 1 = 3 * (e + 1) by omega, u2, u0, pt_succ]; have := pt_pos e; grind
theorem u_add (i : Int) (n : Nat) : u i ≤ u (i + n) := by
  induction n with
  | zero => simp
  | succ n ih =>
    have := u_succ (i + n)
    rw [show i + ((n + 1 : Nat) : Int) = i + n + 1 by omega]
    grind
theorem u_mono {i j : Int} (h : i ≤ j) : u i ≤ u j := by
  have := u_add i (j - i).toNat
  rwa [show i + ((j - i).toNat : Int) = j by omega] at this
/-- how often a step goes into a number -/
def fl (r s : Rat) : Int := (r.num * s.den).fdiv (r.den * s.num)
theorem nd (r : Rat) : r * (r.den : Rat) = (r.num : Rat) := by
  have h := Rat.num_divInt_den r
  rw [Rat.divInt_eq_div, Rat.intCast_natCast] at h
  have : (r.den : Rat) ≠ 0 := by
    have := r.den_pos
    have h2 : r.den ≠ 0 := by omega
    exact_mod_cast h2
  generalize (r.den : Rat) = x at *
  generalize (r.num : Rat) = y at *
  grind
theorem numpos {s : Rat} (h : 0 < s) : 0 < s.num := by
  have h1 : 0 ≤ s.num := Rat.num_nonneg.mpr (Rat.le_of_lt h)
  have h2 : s.num ≠ 0 := fun z => by rw [Rat.num_eq_zero.mp z] at h; exact absurd h (by decide)
  omega
theorem le_of_mul {a b c : Rat} (hc : 0 < c) (h : a * c ≤ b * c) : a ≤ b := by
  by_cases z : a ≤ b
  · exact z
  · have z : b < a := by grind
    have := Rat.mul_lt_mul_of_pos_right z hc
    grind
theorem lt_of_mul {a b c : Rat} (hc : 0 < c) (h : a * c < b * c) : a < b := by
  by_cases z : a < b
  · exact z
  · have z : b ≤ a := by grind
    have := Rat.mul_le_mul_of_nonneg_right z (Rat.le_of_lt hc)
    grind
theorem fl_spec (r : Rat) {s : Rat} (hs : 0 < s) : (fl r s : Rat) * s ≤ r ∧ r < ((fl r s : Rat) + 1) * s := by
  have hd : 0 < (r.den : Int) * s.num := Int.mul_pos (by have := r.den_pos; omega) (numpos hs)
  have hr := nd r
  have hq := nd s
  have e : fl r s = (r.num * s.den) / ((r.den : Int) * s.num) := by
    unfold fl
    rw [Int.fdiv_eq_ediv_of_nonneg _ (Int.le_of_lt hd)]
  have h1 : fl r s * ((r.den : Int) * s.num) ≤ r.num * s.den := by
    rw [e]; exact Int.ediv_mul_le _ (by omega)
  have h2 : r.num * s.den < (fl r s + 1) * ((r.den : Int) * s.num) := by
    rw [e]; exact Int.lt_ediv_add_one_mul_self _ hd
  generalize fl r s = q at *
  have h1' : (q : Rat) * ((r.den : Rat) * (s.num : Rat)) ≤ (r.num : Rat) * (s.den : Rat) := by exact_mod_cast h1
  have h2' : (r.num : Rat) * (s.den : Rat) < ((q : Rat) + 1) * ((r.den : Rat) * (s.num : Rat)) := by exact_mod_cast h2
  have p : (0 : Rat) < (r.den : Rat) * (s.den : Rat) := by
    have a1 := r.den_pos
    have a2 := s.den_pos
    have : 0 < r.den * s.den := Nat.mul_pos a1 a2
    exact_mod_cast this
  rw [← hr, ← hq] at h1' h2'
  constructor
  · refine le_of_mul p ?_
    grind
  · refine lt_of_mul p ?_
    grind
theorem int_lt {a b : Int} {s : Rat} (hs : 0 < s) (h : (a : Rat) * s < (b : Rat) * s) : a < b := by
  have := lt_of_mul hs h
  exact_mod_cast this
theorem fl_eq {r s : Rat} (hs : 0 < s) {q : Int} (h1 : (q : Rat) * s ≤ r) (h2 : r < ((q : Rat) + 1) * s) : fl r s = q := by
  obtain ⟨a1, a2⟩ := fl_spec r hs
  have b1 : fl r s < q + 1 := int_lt hs (by push_cast; grind)
  have b2 : q < fl r s + 1 := int_lt hs (by push_cast; grind)
  omega
/-- how many values, the first one -/
def fst (lo s : Rat) : Int := -(fl (-lo) s)
def cnt (lo hi s : Rat) : Int := fl hi s - fst lo s + 1
theorem cnt_spec {lo hi s : Rat} (hs : 0 < s) : ((cnt lo hi s : Rat) - 1) * s ≤ hi - lo ∧ hi - lo < ((cnt lo hi s : Rat) + 1) * s := by
  obtain ⟨a1, a2⟩ := fl_spec (-lo) hs
  obtain ⟨b1, b2⟩ := fl_spec hi hs
  unfold cnt fst
  push_cast
  constructor <;> grind
theorem cnt_small {lo hi s : Rat} (hs : 0 < s) (h : 2 ≤ cnt lo hi s) : s ≤ hi - lo := by
  obtain ⟨a1, a2⟩ := cnt_spec (lo := lo) (hi := hi) hs
  have : (2 : Rat) ≤ (cnt lo hi s : Rat) := by exact_mod_cast h
  have := Rat.mul_le_mul_of_nonneg_right (show (1 : Rat) ≤ (cnt lo hi s : Rat) - 1 by grind) (Rat.le_of_lt hs)
  grind
theorem cnt_great {lo hi s : Rat} (hs : 0 < s) (h : cnt lo hi s ≤ 10) : hi - lo < 11 * s := by
  obtain ⟨a1, a2⟩ := cnt_spec (lo := lo) (hi := hi) hs
  have : (cnt lo hi s : Rat) ≤ 10 := by exact_mod_cast h
  have := Rat.mul_le_mul_of_nonneg_right (show (cnt lo hi s : Rat) + 1 ≤ 11 by grind) (Rat.le_of_lt hs)
  grind
theorem cnt_in {lo hi s : Rat} (hs : 0 < s) (h1 : 2 * s ≤ hi - lo) (h2 : hi - lo < 10 * s) : 2 ≤ cnt lo hi s ∧ cnt lo hi s ≤ 10 := by
  obtain ⟨a1, a2⟩ := cnt_spec (lo := lo) (hi := hi) hs
  have b1 : (2 : Int) < cnt lo hi s + 1 := int_lt hs (by push_cast; grind)
  have b2 : cnt lo hi s - 1 < 10 := int_lt hs (by push_cast; grind)
  omega
theorem cnt_pos {lo hi s : Rat} (hs : 0 < s) (h : lo < hi) : 0 ≤ cnt lo hi s := by
  obtain ⟨a1, a2⟩ := cnt_spec (lo := lo) (hi := hi) hs
  have b1 : (0 : Int) < cnt lo hi s + 1 := int_lt hs (by push_cast; grind)
  omega
def okI (lo hi : Rat) (i : Int) : Bool := decide (2 ≤ cnt lo hi (u i)) && decide (cnt lo hi (u i) ≤ 10)
theorem ok_in {lo hi : Rat} {i : Int} (h : okI lo hi i = true) : u i ≤ hi - lo ∧ hi - lo < 11 * u i := by
  unfold okI at h
  rw [Bool.and_eq_true, decide_eq_true_eq, decide_eq_true_eq] at h
  exact ⟨cnt_small (u_pos i) h.1, cnt_great (u_pos i) h.2⟩
/-- a window of steps -/
def win (a : Int) (n : Nat) : List Int := (List.range n).map fun j : Nat => a + (j : Int)
theorem win_app (a : Int) (m n : Nat) : win a (m + n) = win a m ++ win (a + m) n := by
  unfold win
  rw [List.range_add, List.map_append, List.map_map]
  congr 1
  apply List.map_congr_left
  intro j _
  simp only [Function.comp]
  omega
theorem win_none {p : Int → Bool} {a : Int} {n : Nat} (h : ∀ i, a ≤ i → i < a + n → p i = false) : (win a n).filter p = [] := by
  rw [List.filter_eq_nil_iff]
  intro i hi
  unfold win at hi
  obtain ⟨j, hj, rfl⟩ := List.mem_map.mp hi
  have := List.mem_range.mp hj
  rw [h _ (by omega) (by omega)]
  decide
theorem win_in {p : Int → Bool} {a : Int} {n x y : Nat} (h : ∀ i, p i = true → a ≤ i ∧ i < a + n) : (win (a - x) (x + (n + y))).filter p = (win a n).filter p := by
  rw [win_app, List.filter_append, win_none, List.nil_append, show a - (x : Int) + x = a by omega, win_app, List.filter_append]
  rw [win_none (a := a + (n : Int)), List.append_nil]
  · intro i h1 h2
    cases e : p i with
    | false => rfl
    | true => have := h i e; omega
  · intro i h1 h2
    cases e : p i with
    | false => rfl
    | true => have := h i e; omega
theorem win_eq {p : Int → Bool} {a c : Int} {n m : Nat} (h : ∀ i, p i = true → a ≤ i ∧ i < a + n) (h' : ∀ i, p i = true → c ≤ i ∧ i < c + m) : (win a n).filter p = (win c m).filter p := by
  have e1 := win_in (x := (a - min a c).toNat) (y := (max (a + n) (c + m) - (a + n)).toNat) h
  have e2 := win_in (x := (c - min a c).toNat) (y := (max (a + n) (c + m) - (c + m)).toNat) h'
  have s1 : a - ((a - min a c).toNat : Int) = c - ((c - min a c).toNat : Int) := by omega
  have s2 : (a - min a c).toNat + (n + (max (a + n) (c + m) - (a + n)).toNat) = (c - min a c).toNat + (m + (max (a + n) (c + m) - (c + m)).toNat) := by omega
  rw [← e1, ← e2, s1, s2]
/-- the law's window -/
theorem lawwin {lo hi : Rat} {p : Int} (h1 : hi - lo ≤ pt p) (h2 : pt p ≤ 1000 * (hi - lo)) (h0 : lo < hi) : ∀ i, okI lo hi i = true → 3 * (p - 6) ≤ i ∧ i < 3 * (p - 6) + (21 : Nat) := fun i h => by
  obtain ⟨a1, a2⟩ := ok_in h
  have pp := pt_pos p
  constructor
  · by_cases z : 3 * (p - 6) ≤ i
    · exact z
    · have m := u_mono (show i ≤ 3 * (p - 7) + 2 by omega)
      rw [u2] at m
      have e := pt_add (p - 7) 7
      rw [show p - 7 + ((7 : Nat) : Int) = p by omega] at e
      grind
  · by_cases z : i < 3 * (p - 6) + (21 : Nat)
    · exact z
    · have m := u_mono (show 3 * (p + 1) ≤ i by omega)
      rw [u0, pt_succ] at m
      grind
theorem some_ok {lo hi : Rat} {p : Int} (h1 : hi - lo ≤ pt p) (h2 : pt p ≤ 1000 * (hi - lo)) (h0 : lo < hi) : ∃ i, okI lo hi i = true := by
  have key : ∀ e, 2 * pt e ≤ hi - lo → hi - lo < 20 * pt e → ∃ i, okI lo hi i = true := fun e a b => by
    have pe := pt_pos e
    by_cases z : hi - lo < 10 * pt e
    · refine ⟨3 * e, ?_⟩
      have := cnt_in (lo := lo) (hi := hi) (s := u (3 * e)) (u_pos _) (by rw [u0]; exact a) (by rw [u0]; exact z)
      unfold okI
      rw [decide_eq_true this.1, decide_eq_true this.2]
      rfl
    · refine ⟨3 * e + 2, ?_⟩
      have := cnt_in (lo := lo) (hi := hi) (s := u (3 * e + 2)) (u_pos _) (by rw [u2]; grind) (by rw [u2]; grind)
      unfold okI
      rw [decide_eq_true this.1, decide_eq_true this.2]
      rfl
  have p1 := pt_succ (p - 1)
  have p2 := pt_succ (p - 2)
  have p3 := pt_succ (p - 3)
  have p4 := pt_succ (p - 4)
  rw [show p - 1 + 1 = p by omega] at p1
  rw [show p - 2 + 1 = p - 1 by omega] at p2
  rw [show p - 3 + 1 = p - 2 by omega] at p3
  rw [show p - 4 + 1 = p - 3 by omega] at p4
  by_cases z1 : 2 * pt (p - 1) ≤ hi - lo
  · exact key (p - 1) z1 (by grind)
  · by_cases z2 : 2 * pt (p - 2) ≤ hi - lo
    · exact key (p - 2) z2 (by grind)
    · by_cases z3 : 2 * pt (p - 3) ≤ hi - lo
      · exact key (p - 3) z3 (by grind)
      · exact key (p - 4) (by grind) (by grind)
end M5

set_option linter.all false
set_option maxRecDepth 100000
set_option exponentiation.threshold 1000
namespace M5
/-- numbers: near which power -/
def mid (b : Int) : Int := (b * 30103).fdiv 100000
def chk (n : Nat) : Bool := decide (-130 ≤ mid ((n : Int) - 420) ∧ mid ((n : Int) - 420) ≤ 130) && decide (2 ^ (n + 1) * 10 ^ 200 ≤ 10 ^ (mid ((n : Int) - 420) + 2 + 200).toNat * 2 ^ 420) && decide (55 * 10 ^ (mid ((n : Int) - 420) - 3 + 200).toNat * 2 ^ 421 ≤ 2 ^ n * 10 ^ 200)
theorem chk_all : (List.range 841).all chk = true := by decide +kernel
theorem chk_ok {n : Nat} (h : n ≤ 840) : chk n = true := List.all_eq_true.mp chk_all n (List.mem_range.mpr (by omega))
theorem x200 : (10 : Rat) ^ 200 * pt (-200) = 1 := by
  have := pt_add (-200) 200
  rw [← this]
  rfl
theorem lemA {t X P Y N d : Nat} (h1 : t < X) (pw : X * P = Y * N) (h4 : Y ≤ 2 * d) (hP : 0 < P) : t * P < d * (2 * N) := by
  have s1 : t * P < X * P := Nat.mul_lt_mul_of_pos_right h1 hP
  have s2 : Y * N ≤ 2 * d * N := Nat.mul_le_mul_right _ h4
  have s3 : d * (2 * N) = 2 * d * N := by rw [← Nat.mul_assoc, Nat.mul_comm d 2]
  omega
theorem lemB {t P d N2 W A : Nat} (h : t * P < d * N2) (hW : 0 < W) (c : N2 * W ≤ A * P) : t * W < d * A := by
  have s1 : t * P * W < d * N2 * W := Nat.mul_lt_mul_of_pos_right h hW
  have s2 : d * (N2 * W) ≤ d * (A * P) := Nat.mul_le_mul_left _ c
  have e1 : d * N2 * W = d * (N2 * W) := Nat.mul_assoc ..
  have e2 : t * P * W = t * W * P := by rw [Nat.mul_assoc, Nat.mul_comm P W, Nat.mul_assoc]
  have e3 : d * (A * P) = d * A * P := (Nat.mul_assoc ..).symm
  have s3 : t * W * P < d * A * P := by rw [← e2, ← e3]; rw [e1] at s1; exact Nat.lt_of_lt_of_le s1 s2
  exact Nat.lt_of_mul_lt_mul_right s3
theorem lemC {t X P Y N d : Nat} (h3 : d < Y) (pw : X * P = Y * N) (h2 : X ≤ 2 * t) : d * N ≤ t * (2 * P) := by
  have s1 : d * N ≤ Y * N := Nat.mul_le_mul_right _ (Nat.le_of_lt h3)
  have s2 : X * P ≤ 2 * t * P := Nat.mul_le_mul_right _ h2
  have s3 : t * (2 * P) = 2 * t * P := by rw [← Nat.mul_assoc, Nat.mul_comm t 2]
  omega
theorem lemD {t d N P2 W A : Nat} (h : d * N ≤ t * P2) (c : A * P2 ≤ N * W) (hP : 0 < P2) : A * d ≤ t * W := by
  have s1 : A * P2 * d ≤ N * W * d := Nat.mul_le_mul_right _ c
  have s2 : d * N * W ≤ t * P2 * W := Nat.mul_le_mul_right _ h
  have q1 : A * P2 * d = A * d * P2 := by rw [Nat.mul_assoc, Nat.mul_comm P2, Nat.mul_assoc]
  have q2 : N * W * d = d * N * W := by rw [Nat.mul_comm, Nat.mul_assoc]
  have q3 : t * P2 * W = t * W * P2 := by rw [Nat.mul_assoc, Nat.mul_comm P2, Nat.mul_assoc]
  have s3 : A * d * P2 ≤ t * W * P2 := by rw [← q1, ← q3]; rw [q2] at s1; exact Nat.le_trans s1 s2
  exact Nat.le_of_mul_le_mul_right s3 hP
theorem near {r : Rat} (hr : 0 < r) {bt bd : Nat} (h1 : r.num.toNat < 2 ^ bt) (h2 : 2 ^ bt ≤ 2 * r.num.toNat) (h3 : r.den < 2 ^ bd) (h4 : 2 ^ bd ≤ 2 * r.den) (ht : bt ≤ 420) (hd : bd ≤ 420) :
    r < pt (mid ((bt : Int) - bd) + 2) ∧ 55 * pt (mid ((bt : Int) - bd) - 3) ≤ r ∧ -130 ≤ mid ((bt : Int) - bd) ∧ mid ((bt : Int) - bd) ≤ 130 := by
  obtain ⟨n, hn⟩ : ∃ n : Nat, (n : Int) = bt - bd + 420 := ⟨(bt - bd + 420 : Int).toNat, by omega⟩
  have c := chk_ok (n := n) (by omega)
  unfold chk at c
  rw [show (n : Int) - 420 = bt - bd by omega, Bool.and_eq_true, Bool.and_eq_true, decide_eq_true_eq, decide_eq_true_eq, decide_eq_true_eq] at c
  obtain ⟨⟨⟨c1, c2⟩, c3⟩, c4⟩ := c
  generalize hm : mid ((bt : Int) - bd) = m at *
  have num := numpos hr
  obtain ⟨t, et⟩ : ∃ t : Nat, r.num = t := ⟨r.num.toNat, by omega⟩
  have e := nd r
  rw [et] at e h1 h2
  rw [Int.toNat_natCast] at h1 h2
  have dp := r.den_pos
  generalize hd0 : r.den = d at *
  have pw : 2 ^ bt * 2 ^ 420 = 2 ^ bd * 2 ^ n := by
    rw [← Nat.pow_add, ← Nat.pow_add]
    congr 1
    omega
  have e421 : 2 ^ 421 = 2 * 2 ^ 420 := by rw [Nat.pow_succ, Nat.mul_comm]
  have en : 2 ^ (n + 1) = 2 * 2 ^ n := by rw [Nat.pow_succ, Nat.mul_comm]
  rw [e421] at c4
  rw [en] at c3
  have hP : 0 < 2 ^ 420 := Nat.pow_pos (by decide)
  have hW : 0 < 10 ^ 200 := Nat.pow_pos (by decide)
  have b1 : t * 10 ^ 200 < d * 10 ^ (m + 2 + 200).toNat := lemB (lemA h1 pw h4 hP) hW c3
  have b2 : 55 * 10 ^ (m - 3 + 200).toNat * d ≤ t * 10 ^ 200 := lemD (lemC h3 pw h2) c4 (Nat.mul_pos (by decide) hP)
  -- in fractions
  have xp := pt_pos (-200)
  have x2 := x200
  have p1 := pt_add (-200) (m + 2 + 200).toNat
  have p2 := pt_add (-200) (m - 3 + 200).toNat
  rw [show -200 + ((m + 2 + 200).toNat : Int) = m + 2 by omega] at p1
  rw [show -200 + ((m - 3 + 200).toNat : Int) = m - 3 by omega] at p2
  have b1' : (t : Rat) * 10 ^ 200 < (d : Rat) * 10 ^ (m + 2 + 200).toNat := by exact_mod_cast b1
  have b2' : 55 * (10 : Rat) ^ (m - 3 + 200).toNat * (d : Rat) ≤ (t : Rat) * 10 ^ 200 := by exact_mod_cast b2
  have dp' : (0 : Rat) < (d : Rat) := by exact_mod_cast dp
  rw [p1, p2]
  rw [Rat.intCast_natCast] at e
  generalize (10 : Rat) ^ 200 = y at *
  generalize (10 : Rat) ^ (m + 2 + 200).toNat = y1 at *
  generalize (10 : Rat) ^ (m - 3 + 200).toNat = y2 at *
  generalize pt (-200) = x at *
  generalize (t : Rat) = T at *
  generalize (d : Rat) = dd at *
  refine ⟨?_, ?_, c1, c2⟩
  · refine lt_of_mul dp' ?_
    have q := Rat.mul_lt_mul_of_pos_right b1' xp
    have q1 : T * y * x = T := by rw [Rat.mul_assoc, x2, Rat.mul_one]
    rw [q1] at q
    rw [e]
    have q2 : dd * y1 * x = y1 * x * dd := by grind
    rw [← q2]
    exact q
  · refine le_of_mul dp' ?_
    have q := Rat.mul_le_mul_of_nonneg_right b2' (Rat.le_of_lt xp)
    have q1 : T * y * x = T := by rw [Rat.mul_assoc, x2, Rat.mul_one]
    rw [q1] at q
    rw [e]
    have q2 : 55 * (y2 * x) * dd = 55 * y2 * dd * x := by grind
    rw [q2]
    exact q
/-- the program's window -/
theorem progwin {lo hi : Rat} {m : Int} (h1 : hi - lo < pt (m + 2)) (h2 : 55 * pt (m - 3) ≤ hi - lo) : ∀ i, okI lo hi i = true → 3 * (m - 2) ≤ i ∧ i < 3 * (m - 2) + (12 : Nat) := fun i h => by
  obtain ⟨a1, a2⟩ := ok_in h
  constructor
  · by_cases z : 3 * (m - 2) ≤ i
    · exact z
    · have q := u_mono (show i ≤ 3 * (m - 3) + 2 by omega)
      rw [u2] at q
      grind
  · by_cases z : i < 3 * (m - 2) + (12 : Nat)
    · exact z
    · have q := u_mono (show 3 * (m + 2) ≤ i by omega)
      rw [u0] at q
      grind
/-! the best of some -/
section
variable {α : Type} (d : α → Int)
def bst : α → List α → α
  | x, [] => x
  | x, y :: l => if d x < d (bst y l) then x else bst y l
theorem bst_le : ∀ (l : List α) (x : α), d (bst d x l) ≤ d x
  | [], x => Int.le_refl _
  | y :: l, x => by
    unfold bst
    split
    · exact Int.le_refl _
    · omega
theorem bst_mem : ∀ (l : List α) (x : α), bst d x l ∈ x :: l
  | [], x => by simp [bst]
  | y :: l, x => by
    unfold bst
    split
    · simp
    · exact List.mem_cons_of_mem _ (bst_mem l y)
def fLE (b t : α) : α := if d t ≤ d b then t else b
def fLT (b t : α) : α := if d t < d b then t else b
theorem fold_le : ∀ (l : List α) (b y : α), (y :: l).foldl (fLE d) b = if d (bst d y l) ≤ d b then bst d y l else b
  | [], b, y => rfl
  | z :: l, b, y => by
    show (z :: l).foldl (fLE d) (fLE d b y) = _
    rw [fold_le l (fLE d b y) z]
    unfold fLE
    rw [show bst d y (z :: l) = if d y < d (bst d z l) then y else bst d z l from rfl]
    generalize bst d z l = m
    by_cases h1 : d y ≤ d b <;> by_cases h2 : d y < d m <;> by_cases h3 : d m ≤ d b <;> by_cases h4 : d m ≤ d y <;> simp [h1, h2, h3, h4] <;> omega
theorem fold_first (x : α) (l : List α) : (x :: l).foldl (fLE d) x = bst d x l := by
  rw [fold_le, if_pos (bst_le d l x)]
theorem fold_rev : ∀ (l : List α) (x : α), ∃ r0 rt, (x :: l).reverse = r0 :: rt ∧ rt.foldl (fLT d) r0 = bst d x l
  | [], x => ⟨x, [], rfl, rfl⟩
  | y :: l, x => by
    obtain ⟨r0, rt, h1, h2⟩ := fold_rev l y
    refine ⟨r0, rt ++ [x], ?_, ?_⟩
    · rw [List.reverse_cons, h1]; rfl
    · rw [List.foldl_append, h2]
      rfl
end
end M5

set_option Elab.async false
set_option linter.all false
set_option maxRecDepth 100000
set_option maxHeartbeats 4000000
namespace K06
open PySem PySem.Spec PyProof.Rows L2 DL
open M5 (pt u fl fst cnt okI win mid)
theorem neg_lt0 : True := trivial
section
variable {m n : Nat} {r s : Rat} (hr : Sz m r) (hs : Sz n s) (h : m + n ≤ 8000)
include hr hs h
theorem ltimes_ok (g : G) : F_law_times [fr r, fr s] g = some (fr (r * s), g) := by
  refine Ok.eq ?_
  unfold F_law_times m_law_times
  simp only [fr]
  (try simp only [fEq_int, fNe_int, ok_eK, ok_lNil, ok_lCons, ok_e2, ok_e1, ok_eF, ok_eTup, ok_nLst, ok_eN, ok_mB, ok_mTru, ok_mNot, ok_mAnd, ok_mOr, ok_eAnd, ok_eOr, ok_eNot, ok_eIf, ok_eIsi, ok_eIsi2, ok_eTyC, ok_eCall, ok_eCallK, ok_oNo, ok_oAt, ok_eSl, ok_iOf, ok_iOfT, ok_iRg1, oks_sNx, oks_sSeq, oks_sSet, oks_sOwn, oks_sDrop, oks_sRet, oks_sIf, oks_sAsg, oks_sPar, oks_sFor, ok_runD, ok_some, oks_some, startE, eV, setsE, Tg.parts, fAdd_int, fAdd_lst, fAdd_tup, fSub_int, fMul_int, fDiv_int, fMod_int, fPow_int, fLt_int, fLe_int, fGt_int, fGe_int, fNeg_int, fIx_lst, fIx_tup, fLen_lst, fLen_tup, fAbs_int, fInt1_int, fInt1_bl, fGcd_int, fTuple_lst, fTuple_tup, fList_lst, fList_tup, fTru_bl, fTru_lst, fTru_tup, fIsB_bl, atI_0, atI_1, ty_int, ty_bl, ty_lst, ty_tup, ty_str, ty_non, List.map_cons, List.map_nil, List.length_cons, List.length_nil, List.replicate, List.cons_append, List.nil_append, List.getElem?_cons_zero, List.getElem?_cons_succ, List.set_cons_zero, List.set_cons_succ, List.zip_cons_cons, List.zip_nil_right, List.zip_nil_left, Option.some.injEq, exists_eq_left', exists_eq_left, Nat.reduceAdd, Nat.reduceSub, Nat.reduceEqDiff, PyData.bool.injEq, PyData.int.injEq, PyData.list.injEq, PyData.tuple.injEq, if_true, if_false, reduceIte, true_and, and_true, decide_true, decide_false, Bool.false_eq_true])
  simp only [cmul_bd hr.1 hs.1 (by omega), cmul_bd (den_bd hr) (den_bd hs) (by omega), if_true]
  (try simp only [fEq_int, fNe_int, ok_eK, ok_lNil, ok_lCons, ok_e2, ok_e1, ok_eF, ok_eTup, ok_nLst, ok_eN, ok_mB, ok_mTru, ok_mNot, ok_mAnd, ok_mOr, ok_eAnd, ok_eOr, ok_eNot, ok_eIf, ok_eIsi, ok_eIsi2, ok_eTyC, ok_eCall, ok_eCallK, ok_oNo, ok_oAt, ok_eSl, ok_iOf, ok_iOfT, ok_iRg1, oks_sNx, oks_sSeq, oks_sSet, oks_sOwn, oks_sDrop, oks_sRet, oks_sIf, oks_sAsg, oks_sPar, oks_sFor, ok_runD, ok_some, oks_some, startE, eV, setsE, Tg.parts, fAdd_int, fAdd_lst, fAdd_tup, fSub_int, fMul_int, fDiv_int, fMod_int, fPow_int, fLt_int, fLe_int, fGt_int, fGe_int, fNeg_int, fIx_lst, fIx_tup, fLen_lst, fLen_tup, fAbs_int, fInt1_int, fInt1_bl, fGcd_int, fTuple_lst, fTuple_tup, fList_lst, fList_tup, fTru_bl, fTru_lst, fTru_tup, fIsB_bl, atI_0, atI_1, ty_int, ty_bl, ty_lst, ty_tup, ty_str, ty_non, List.map_cons, List.map_nil, List.length_cons, List.length_nil, List.replicate, List.cons_append, List.nil_append, List.getElem?_cons_zero, List.getElem?_cons_succ, List.set_cons_zero, List.set_cons_succ, List.zip_cons_cons, List.zip_nil_right, List.zip_nil_left, Option.some.injEq, exists_eq_left', exists_eq_left, Nat.reduceAdd, Nat.reduceSub, Nat.reduceEqDiff, PyData.bool.injEq, PyData.int.injEq, PyData.list.injEq, PyData.tuple.injEq, if_true, if_false, reduceIte, true_and, and_true, decide_true, decide_false, Bool.false_eq_true])
  rw [ok_eq (low_ok (den_mul_ne r s) (bd9 (mul_bd (den_bd hr) (den_bd hs)) (by omega)) g), mul_div]
  exact ⟨rfl, rfl⟩
theorem lbelow_ok (g : G) : F_law_below [fr r, fr s] g = some (.bool (decide (r < s)), g) := by
  refine Ok.eq ?_
  unfold F_law_below m_law_below
  simp only [fr]
  (try simp only [fEq_int, fNe_int, ok_eK, ok_lNil, ok_lCons, ok_e2, ok_e1, ok_eF, ok_eTup, ok_nLst, ok_eN, ok_mB, ok_mTru, ok_mNot, ok_mAnd, ok_mOr, ok_eAnd, ok_eOr, ok_eNot, ok_eIf, ok_eIsi, ok_eIsi2, ok_eTyC, ok_eCall, ok_eCallK, ok_oNo, ok_oAt, ok_eSl, ok_iOf, ok_iOfT, ok_iRg1, oks_sNx, oks_sSeq, oks_sSet, oks_sOwn, oks_sDrop, oks_sRet, oks_sIf, oks_sAsg, oks_sPar, oks_sFor, ok_runD, ok_some, oks_some, startE, eV, setsE, Tg.parts, fAdd_int, fAdd_lst, fAdd_tup, fSub_int, fMul_int, fDiv_int, fMod_int, fPow_int, fLt_int, fLe_int, fGt_int, fGe_int, fNeg_int, fIx_lst, fIx_tup, fLen_lst, fLen_tup, fAbs_int, fInt1_int, fInt1_bl, fGcd_int, fTuple_lst, fTuple_tup, fList_lst, fList_tup, fTru_bl, fTru_lst, fTru_tup, fIsB_bl, atI_0, atI_1, ty_int, ty_bl, ty_lst, ty_tup, ty_str, ty_non, List.map_cons, List.map_nil, List.length_cons, List.length_nil, List.replicate, List.cons_append, List.nil_append, List.getElem?_cons_zero, List.getElem?_cons_succ, List.set_cons_zero, List.set_cons_succ, List.zip_cons_cons, List.zip_nil_right, List.zip_nil_left, Option.some.injEq, exists_eq_left', exists_eq_left, Nat.reduceAdd, Nat.reduceSub, Nat.reduceEqDiff, PyData.bool.injEq, PyData.int.injEq, PyData.list.injEq, PyData.tuple.injEq, if_true, if_false, reduceIte, true_and, and_true, decide_true, decide_false, Bool.false_eq_true])
  simp only [cmul_bd hr.1 (den_bd hs) (by omega), cmul_bd hs.1 (den_bd hr) (by omega), if_true]
  (try simp only [fEq_int, fNe_int, ok_eK, ok_lNil, ok_lCons, ok_e2, ok_e1, ok_eF, ok_eTup, ok_nLst, ok_eN, ok_mB, ok_mTru, ok_mNot, ok_mAnd, ok_mOr, ok_eAnd, ok_eOr, ok_eNot, ok_eIf, ok_eIsi, ok_eIsi2, ok_eTyC, ok_eCall, ok_eCallK, ok_oNo, ok_oAt, ok_eSl, ok_iOf, ok_iOfT, ok_iRg1, oks_sNx, oks_sSeq, oks_sSet, oks_sOwn, oks_sDrop, oks_sRet, oks_sIf, oks_sAsg, oks_sPar, oks_sFor, ok_runD, ok_some, oks_some, startE, eV, setsE, Tg.parts, fAdd_int, fAdd_lst, fAdd_tup, fSub_int, fMul_int, fDiv_int, fMod_int, fPow_int, fLt_int, fLe_int, fGt_int, fGe_int, fNeg_int, fIx_lst, fIx_tup, fLen_lst, fLen_tup, fAbs_int, fInt1_int, fInt1_bl, fGcd_int, fTuple_lst, fTuple_tup, fList_lst, fList_tup, fTru_bl, fTru_lst, fTru_tup, fIsB_bl, atI_0, atI_1, ty_int, ty_bl, ty_lst, ty_tup, ty_str, ty_non, List.map_cons, List.map_nil, List.length_cons, List.length_nil, List.replicate, List.cons_append, List.nil_append, List.getElem?_cons_zero, List.getElem?_cons_succ, List.set_cons_zero, List.set_cons_succ, List.zip_cons_cons, List.zip_nil_right, List.zip_nil_left, Option.some.injEq, exists_eq_left', exists_eq_left, Nat.reduceAdd, Nat.reduceSub, Nat.reduceEqDiff, PyData.bool.injEq, PyData.int.injEq, PyData.list.injEq, PyData.tuple.injEq, if_true, if_false, reduceIte, true_and, and_true, decide_true, decide_false, Bool.false_eq_true])
  simp [Rat.lt_iff]
theorem lminus_ok (g : G) : F_law_minus [fr r, fr s] g = some (fr (r - s), g) := by
  refine Ok.eq ?_
  unfold F_law_minus m_law_minus
  have z2 : 2 ≤ sizeLine := sz_ok (by decide)
  (try simp only [fEq_int, fNe_int, ok_eK, ok_lNil, ok_lCons, ok_e2, ok_e1, ok_eF, ok_eTup, ok_nLst, ok_eN, ok_mB, ok_mTru, ok_mNot, ok_mAnd, ok_mOr, ok_eAnd, ok_eOr, ok_eNot, ok_eIf, ok_eIsi, ok_eIsi2, ok_eTyC, ok_eCall, ok_eCallK, ok_oNo, ok_oAt, ok_eSl, ok_iOf, ok_iOfT, ok_iRg1, oks_sNx, oks_sSeq, oks_sSet, oks_sOwn, oks_sDrop, oks_sRet, oks_sIf, oks_sAsg, oks_sPar, oks_sFor, ok_runD, ok_some, oks_some, startE, eV, setsE, Tg.parts, fAdd_int, fAdd_lst, fAdd_tup, fSub_int, fMul_int, fDiv_int, fMod_int, fPow_int, fLt_int, fLe_int, fGt_int, fGe_int, fNeg_int, fIx_lst, fIx_tup, fLen_lst, fLen_tup, fAbs_int, fInt1_int, fInt1_bl, fGcd_int, fTuple_lst, fTuple_tup, fList_lst, fList_tup, fTru_bl, fTru_lst, fTru_tup, fIsB_bl, atI_0, atI_1, ty_int, ty_bl, ty_lst, ty_tup, ty_str, ty_non, List.map_cons, List.map_nil, List.length_cons, List.length_nil, List.replicate, List.cons_append, List.nil_append, List.getElem?_cons_zero, List.getElem?_cons_succ, List.set_cons_zero, List.set_cons_succ, List.zip_cons_cons, List.zip_nil_right, List.zip_nil_left, Option.some.injEq, exists_eq_left', exists_eq_left, Nat.reduceAdd, Nat.reduceSub, Nat.reduceEqDiff, PyData.bool.injEq, PyData.int.injEq, PyData.list.injEq, PyData.tuple.injEq, if_true, if_false, reduceIte, true_and, and_true, decide_true, decide_false, Bool.false_eq_true, fIx_fr0, fIx_fr1, z2, neg_fr])
  rw [ok_eq (lplus2 hr hs.neg (by omega) g)]
  refine ⟨?_, rfl⟩
  rw [Rat.sub_eq_add_neg]
theorem fl_ok (h0 : 0 < s) (g : G) : F_floor_over [fr r, fr s] g = some (.int (fl r s), g) := by
  refine Ok.eq ?_
  unfold F_floor_over m_floor_over
  have hb := bd9 (mul_bd (den_bd hr) hs.1) (by omega)
  have cd : cDiv (r.num * s.den) (r.den * s.num) = true := by
    unfold cDiv
    rw [Bool.and_eq_true, decide_eq_true_eq, decide_eq_true_eq]
    exact ⟨Int.mul_ne_zero (den_ne r) (num_ne fun z => by rw [z] at h0; exact absurd h0 (by decide)), log_of hb⟩
  simp only [fr]
  (try simp only [fEq_int, fNe_int, ok_eK, ok_lNil, ok_lCons, ok_e2, ok_e1, ok_eF, ok_eTup, ok_nLst, ok_eN, ok_mB, ok_mTru, ok_mNot, ok_mAnd, ok_mOr, ok_eAnd, ok_eOr, ok_eNot, ok_eIf, ok_eIsi, ok_eIsi2, ok_eTyC, ok_eCall, ok_eCallK, ok_oNo, ok_oAt, ok_eSl, ok_iOf, ok_iOfT, ok_iRg1, oks_sNx, oks_sSeq, oks_sSet, oks_sOwn, oks_sDrop, oks_sRet, oks_sIf, oks_sAsg, oks_sPar, oks_sFor, ok_runD, ok_some, oks_some, startE, eV, setsE, Tg.parts, fAdd_int, fAdd_lst, fAdd_tup, fSub_int, fMul_int, fDiv_int, fMod_int, fPow_int, fLt_int, fLe_int, fGt_int, fGe_int, fNeg_int, fIx_lst, fIx_tup, fLen_lst, fLen_tup, fAbs_int, fInt1_int, fInt1_bl, fGcd_int, fTuple_lst, fTuple_tup, fList_lst, fList_tup, fTru_bl, fTru_lst, fTru_tup, fIsB_bl, atI_0, atI_1, ty_int, ty_bl, ty_lst, ty_tup, ty_str, ty_non, List.map_cons, List.map_nil, List.length_cons, List.length_nil, List.replicate, List.cons_append, List.nil_append, List.getElem?_cons_zero, List.getElem?_cons_succ, List.set_cons_zero, List.set_cons_succ, List.zip_cons_cons, List.zip_nil_right, List.zip_nil_left, Option.some.injEq, exists_eq_left', exists_eq_left, Nat.reduceAdd, Nat.reduceSub, Nat.reduceEqDiff, PyData.bool.injEq, PyData.int.injEq, PyData.list.injEq, PyData.tuple.injEq, if_true, if_false, reduceIte, true_and, and_true, decide_true, decide_false, Bool.false_eq_true])
  simp only [cmul_bd hr.1 (den_bd hs) (by omega), cmul_bd (den_bd hr) hs.1 (by omega), if_true]
  (try simp only [fEq_int, fNe_int, ok_eK, ok_lNil, ok_lCons, ok_e2, ok_e1, ok_eF, ok_eTup, ok_nLst, ok_eN, ok_mB, ok_mTru, ok_mNot, ok_mAnd, ok_mOr, ok_eAnd, ok_eOr, ok_eNot, ok_eIf, ok_eIsi, ok_eIsi2, ok_eTyC, ok_eCall, ok_eCallK, ok_oNo, ok_oAt, ok_eSl, ok_iOf, ok_iOfT, ok_iRg1, oks_sNx, oks_sSeq, oks_sSet, oks_sOwn, oks_sDrop, oks_sRet, oks_sIf, oks_sAsg, oks_sPar, oks_sFor, ok_runD, ok_some, oks_some, startE, eV, setsE, Tg.parts, fAdd_int, fAdd_lst, fAdd_tup, fSub_int, fMul_int, fDiv_int, fMod_int, fPow_int, fLt_int, fLe_int, fGt_int, fGe_int, fNeg_int, fIx_lst, fIx_tup, fLen_lst, fLen_tup, fAbs_int, fInt1_int, fInt1_bl, fGcd_int, fTuple_lst, fTuple_tup, fList_lst, fList_tup, fTru_bl, fTru_lst, fTru_tup, fIsB_bl, atI_0, atI_1, ty_int, ty_bl, ty_lst, ty_tup, ty_str, ty_non, List.map_cons, List.map_nil, List.length_cons, List.length_nil, List.replicate, List.cons_append, List.nil_append, List.getElem?_cons_zero, List.getElem?_cons_succ, List.set_cons_zero, List.set_cons_succ, List.zip_cons_cons, List.zip_nil_right, List.zip_nil_left, Option.some.injEq, exists_eq_left', exists_eq_left, Nat.reduceAdd, Nat.reduceSub, Nat.reduceEqDiff, PyData.bool.injEq, PyData.int.injEq, PyData.list.injEq, PyData.tuple.injEq, if_true, if_false, reduceIte, true_and, and_true, decide_true, decide_false, Bool.false_eq_true, cd])
  exact rfl
end
theorem half_int (n : Nat) : (n : Int).fdiv 2 = ((n / 2 : Nat) : Int) := by
  rw [Int.fdiv_eq_ediv_of_nonneg _ (by decide)]
  omega
/-! ten to a power -/
abbrev cPw : MT := mB (e2 fGt (eV false 0) (eK (.int 0)))
abbrev bPw : MS := sSeq (sIf (mB (e2 fEq (e2 fMod (eV false 0) (eK (.int 2))) (eK (.int 1)))) (sSet 1 (e2 fMul (eV true 1) (eV true 2))) (sNx)) (sSeq (sSet 2 (e2 fMul (eV true 2) (eV true 2))) (sSet 0 (e2 fDiv (eV true 0) (eK (.int 2)))))
theorem whPw (g : G) : ∀ (fu n p q a b : Nat), n < fu → p < 2 ^ a → q < 2 ^ b → a + 2 * b * n ≤ 90000 → ∃ q' : Sl, whL cPw bPw fu [.val (.int n), .val (.int p), .val (.int q)] g = some (.nx, [.val (.int 0), .val (.int (p * q ^ n : Nat)), q'], g)
  | 0, n, p, q, a, b, h, _, _, _ => absurd h (by omega)
  | fu + 1, n, p, q, a, b, h, hp, hq, hs => by
    have hc : cPw [.val (.int n), .val (.int p), .val (.int q)] g = some (decide (0 < n), g) := by
      refine Ok.eq ?_
      (try simp only [fEq_int, fNe_int, ok_eK, ok_lNil, ok_lCons, ok_e2, ok_e1, ok_eF, ok_eTup, ok_nLst, ok_eN, ok_mB, ok_mTru, ok_mNot, ok_mAnd, ok_mOr, ok_eAnd, ok_eOr, ok_eNot, ok_eIf, ok_eIsi, ok_eIsi2, ok_eTyC, ok_eCall, ok_eCallK, ok_oNo, ok_oAt, ok_eSl, ok_iOf, ok_iOfT, ok_iRg1, oks_sNx, oks_sSeq, oks_sSet, oks_sOwn, oks_sDrop, oks_sRet, oks_sIf, oks_sAsg, oks_sPar, oks_sFor, ok_runD, ok_some, oks_some, startE, eV, setsE, Tg.parts, fAdd_int, fAdd_lst, fAdd_tup, fSub_int, fMul_int, fDiv_int, fMod_int, fPow_int, fLt_int, fLe_int, fGt_int, fGe_int, fNeg_int, fIx_lst, fIx_tup, fLen_lst, fLen_tup, fAbs_int, fInt1_int, fInt1_bl, fGcd_int, fTuple_lst, fTuple_tup, fList_lst, fList_tup, fTru_bl, fTru_lst, fTru_tup, fIsB_bl, atI_0, atI_1, ty_int, ty_bl, ty_lst, ty_tup, ty_str, ty_non, List.map_cons, List.map_nil, List.length_cons, List.length_nil, List.replicate, List.cons_append, List.nil_append, List.getElem?_cons_zero, List.getElem?_cons_succ, List.set_cons_zero, List.set_cons_succ, List.zip_cons_cons, List.zip_nil_right, List.zip_nil_left, Option.some.injEq, exists_eq_left', exists_eq_left, Nat.reduceAdd, Nat.reduceSub, Nat.reduceEqDiff, PyData.bool.injEq, PyData.int.injEq, PyData.list.injEq, PyData.tuple.injEq, if_true, if_false, reduceIte, true_and, and_true, decide_true, decide_false, Bool.false_eq_true])
      simp
    unfold whL
    rw [hc]
    by_cases hn : 0 < n
    · have h2b : 2 * b * n = 2 * b * (n - 1) + 2 * b := by
        obtain ⟨k, rfl⟩ : ∃ k, n = k + 1 := ⟨n - 1, by omega⟩
        rw [Nat.add_sub_cancel, Nat.mul_succ]
      have cq : cMul (q : Int) q = true := cmul_bd (m := b) (n := b) (by simpa using hq) (by simpa using hq) (by omega)
      have cp : cMul (p : Int) q = true := cmul_bd (m := a) (n := b) (by simpa using hp) (by simpa using hq) (by omega)
      have cd : cDiv (n : Int) 2 = true := by unfold cDiv; decide
      have hqq : q * q < 2 ^ (2 * b) := by
        rw [show 2 * b = b + b by omega, Nat.pow_add]
        exact Nat.mul_lt_mul_of_lt_of_lt hq hq
      have m2 : decide ((0 : Int) < 2) = true := by decide
      have hb : bPw [.val (.int n), .val (.int p), .val (.int q)] g = some (.nx, [.val (.int (n / 2 : Nat)), .val (.int ((if n % 2 = 1 then p * q else p) : Nat)), .val (.int (q * q : Nat))], g) := by
        have : OkS (bPw [.val (.int n), .val (.int p), .val (.int q)] g) fun r E' g' => r = .nx ∧ E' = [.val (.int (n / 2 : Nat)), .val (.int ((if n % 2 = 1 then p * q else p) : Nat)), .val (.int (q * q : Nat))] ∧ g' = g := by
          (try simp only [fEq_int, fNe_int, ok_eK, ok_lNil, ok_lCons, ok_e2, ok_e1, ok_eF, ok_eTup, ok_nLst, ok_eN, ok_mB, ok_mTru, ok_mNot, ok_mAnd, ok_mOr, ok_eAnd, ok_eOr, ok_eNot, ok_eIf, ok_eIsi, ok_eIsi2, ok_eTyC, ok_eCall, ok_eCallK, ok_oNo, ok_oAt, ok_eSl, ok_iOf, ok_iOfT, ok_iRg1, oks_sNx, oks_sSeq, oks_sSet, oks_sOwn, oks_sDrop, oks_sRet, oks_sIf, oks_sAsg, oks_sPar, oks_sFor, ok_runD, ok_some, oks_some, startE, eV, setsE, Tg.parts, fAdd_int, fAdd_lst, fAdd_tup, fSub_int, fMul_int, fDiv_int, fMod_int, fPow_int, fLt_int, fLe_int, fGt_int, fGe_int, fNeg_int, fIx_lst, fIx_tup, fLen_lst, fLen_tup, fAbs_int, fInt1_int, fInt1_bl, fGcd_int, fTuple_lst, fTuple_tup, fList_lst, fList_tup, fTru_bl, fTru_lst, fTru_tup, fIsB_bl, atI_0, atI_1, ty_int, ty_bl, ty_lst, ty_tup, ty_str, ty_non, List.map_cons, List.map_nil, List.length_cons, List.length_nil, List.replicate, List.cons_append, List.nil_append, List.getElem?_cons_zero, List.getElem?_cons_succ, List.set_cons_zero, List.set_cons_succ, List.zip_cons_cons, List.zip_nil_right, List.zip_nil_left, Option.some.injEq, exists_eq_left', exists_eq_left, Nat.reduceAdd, Nat.reduceSub, Nat.reduceEqDiff, PyData.bool.injEq, PyData.int.injEq, PyData.list.injEq, PyData.tuple.injEq, if_true, if_false, reduceIte, true_and, and_true, decide_true, decide_false, Bool.false_eq_true, m2])
          by_cases ho : n % 2 = 1
          · have ho' : (n : Int) % 2 = 1 := by omega
            simp only [ho', decide_true, if_true, ho]
            (try simp only [fEq_int, fNe_int, ok_eK, ok_lNil, ok_lCons, ok_e2, ok_e1, ok_eF, ok_eTup, ok_nLst, ok_eN, ok_mB, ok_mTru, ok_mNot, ok_mAnd, ok_mOr, ok_eAnd, ok_eOr, ok_eNot, ok_eIf, ok_eIsi, ok_eIsi2, ok_eTyC, ok_eCall, ok_eCallK, ok_oNo, ok_oAt, ok_eSl, ok_iOf, ok_iOfT, ok_iRg1, oks_sNx, oks_sSeq, oks_sSet, oks_sOwn, oks_sDrop, oks_sRet, oks_sIf, oks_sAsg, oks_sPar, oks_sFor, ok_runD, ok_some, oks_some, startE, eV, setsE, Tg.parts, fAdd_int, fAdd_lst, fAdd_tup, fSub_int, fMul_int, fDiv_int, fMod_int, fPow_int, fLt_int, fLe_int, fGt_int, fGe_int, fNeg_int, fIx_lst, fIx_tup, fLen_lst, fLen_tup, fAbs_int, fInt1_int, fInt1_bl, fGcd_int, fTuple_lst, fTuple_tup, fList_lst, fList_tup, fTru_bl, fTru_lst, fTru_tup, fIsB_bl, atI_0, atI_1, ty_int, ty_bl, ty_lst, ty_tup, ty_str, ty_non, List.map_cons, List.map_nil, List.length_cons, List.length_nil, List.replicate, List.cons_append, List.nil_append, List.getElem?_cons_zero, List.getElem?_cons_succ, List.set_cons_zero, List.set_cons_succ, List.zip_cons_cons, List.zip_nil_right, List.zip_nil_left, Option.some.injEq, exists_eq_left', exists_eq_left, Nat.reduceAdd, Nat.reduceSub, Nat.reduceEqDiff, PyData.bool.injEq, PyData.int.injEq, PyData.list.injEq, PyData.tuple.injEq, if_true, if_false, reduceIte, true_and, and_true, decide_true, decide_false, Bool.false_eq_true, cp, cq, cd, half_int])
            simp
          · have ho' : ¬ (n : Int) % 2 = 1 := by omega
            simp only [ho', decide_false, Bool.false_eq_true, if_false, ho]
            (try simp only [fEq_int, fNe_int, ok_eK, ok_lNil, ok_lCons, ok_e2, ok_e1, ok_eF, ok_eTup, ok_nLst, ok_eN, ok_mB, ok_mTru, ok_mNot, ok_mAnd, ok_mOr, ok_eAnd, ok_eOr, ok_eNot, ok_eIf, ok_eIsi, ok_eIsi2, ok_eTyC, ok_eCall, ok_eCallK, ok_oNo, ok_oAt, ok_eSl, ok_iOf, ok_iOfT, ok_iRg1, oks_sNx, oks_sSeq, oks_sSet, oks_sOwn, oks_sDrop, oks_sRet, oks_sIf, oks_sAsg, oks_sPar, oks_sFor, ok_runD, ok_some, oks_some, startE, eV, setsE, Tg.parts, fAdd_int, fAdd_lst, fAdd_tup, fSub_int, fMul_int, fDiv_int, fMod_int, fPow_int, fLt_int, fLe_int, fGt_int, fGe_int, fNeg_int, fIx_lst, fIx_tup, fLen_lst, fLen_tup, fAbs_int, fInt1_int, fInt1_bl, fGcd_int, fTuple_lst, fTuple_tup, fList_lst, fList_tup, fTru_bl, fTru_lst, fTru_tup, fIsB_bl, atI_0, atI_1, ty_int, ty_bl, ty_lst, ty_tup, ty_str, ty_non, List.map_cons, List.map_nil, List.length_cons, List.length_nil, List.replicate, List.cons_append, List.nil_append, List.getElem?_cons_zero, List.getElem?_cons_succ, List.set_cons_zero, List.set_cons_succ, List.zip_cons_cons, List.zip_nil_right, List.zip_nil_left, Option.some.injEq, exists_eq_left', exists_eq_left, Nat.reduceAdd, Nat.reduceSub, Nat.reduceEqDiff, PyData.bool.injEq, PyData.int.injEq, PyData.list.injEq, PyData.tuple.injEq, if_true, if_false, reduceIte, true_and, and_true, decide_true, decide_false, Bool.false_eq_true, cp, cq, cd, half_int])
            simp
        obtain ⟨r, E', g', e, rfl, rfl, rfl⟩ := this
        exact e
      simp only [hn, decide_true, hb]
      have key : ∃ a', (if n % 2 = 1 then p * q else p) < 2 ^ a' ∧ a' + 2 * (2 * b) * (n / 2) ≤ 90000 := by
        have hk : n = 2 * (n / 2) + n % 2 := by omega
        have e4 : 2 * (2 * b) * (n / 2) = 2 * b * (2 * (n / 2)) := by rw [Nat.mul_assoc, Nat.mul_assoc, Nat.mul_assoc, Nat.mul_left_comm b 2]
        by_cases ho : n % 2 = 1
        · refine ⟨a + b, ?_, ?_⟩
          · rw [if_pos ho, Nat.pow_add]
            exact Nat.mul_lt_mul_of_lt_of_lt hp hq
          · rw [ho] at hk
            rw [e4]
            have : 2 * b * n = 2 * b * (2 * (n / 2)) + 2 * b := by
              conv => lhs; rw [hk]
              rw [Nat.mul_succ]
            omega
        · refine ⟨a, by rw [if_neg ho]; exact hp, ?_⟩
          have : 2 * b * n = 2 * b * (2 * (n / 2)) := by
            conv => lhs; rw [show n = 2 * (n / 2) by omega]
          omega
      obtain ⟨a', ha, hs'⟩ := key
      obtain ⟨q', h'⟩ := whPw g fu (n / 2) (if n % 2 = 1 then p * q else p) (q * q) a' (2 * b) (by omega) ha hqq hs'
      refine ⟨q', ?_⟩
      rw [h']
      have ev : (if n % 2 = 1 then p * q else p) * (q * q) ^ (n / 2) = p * q ^ n := by
        have e2 : (q * q) ^ (n / 2) = q ^ (2 * (n / 2)) := by rw [← Nat.pow_two, ← Nat.pow_mul]
        rw [e2]
        by_cases ho : n % 2 = 1
        · rw [if_pos ho, Nat.mul_assoc, ← Nat.pow_succ']
          congr 2
          omega
        · rw [if_neg ho]
          congr 2
          omega
      rw [ev]
    · obtain rfl : n = 0 := by omega
      exact ⟨.val (.int q), by simp⟩
theorem ten_ok (n : Nat) (h : n ≤ 1000) (g : G) : Fpower_of_ten [.int n] g = some (.int (10 ^ n : Nat), g) := by
  refine Ok.eq ?_
  unfold Fpower_of_ten mpower_of_ten
  obtain ⟨q', hw⟩ := whPw g (n + 2) n 1 10 1 4 (by omega) (by decide) (by decide) (by omega)
  rw [ok_runD]
  refine oks_seqI (P := fun E' g' => g' = g ∧ E' = [.val (.int n), .val (.int 1), .no]) (by (try simp only [fEq_int, fNe_int, ok_eK, ok_lNil, ok_lCons, ok_e2, ok_e1, ok_eF, ok_eTup, ok_nLst, ok_eN, ok_mB, ok_mTru, ok_mNot, ok_mAnd, ok_mOr, ok_eAnd, ok_eOr, ok_eNot, ok_eIf, ok_eIsi, ok_eIsi2, ok_eTyC, ok_eCall, ok_eCallK, ok_oNo, ok_oAt, ok_eSl, ok_iOf, ok_iOfT, ok_iRg1, oks_sNx, oks_sSeq, oks_sSet, oks_sOwn, oks_sDrop, oks_sRet, oks_sIf, oks_sAsg, oks_sPar, oks_sFor, ok_runD, ok_some, oks_some, startE, eV, setsE, Tg.parts, fAdd_int, fAdd_lst, fAdd_tup, fSub_int, fMul_int, fDiv_int, fMod_int, fPow_int, fLt_int, fLe_int, fGt_int, fGe_int, fNeg_int, fIx_lst, fIx_tup, fLen_lst, fLen_tup, fAbs_int, fInt1_int, fInt1_bl, fGcd_int, fTuple_lst, fTuple_tup, fList_lst, fList_tup, fTru_bl, fTru_lst, fTru_tup, fIsB_bl, atI_0, atI_1, ty_int, ty_bl, ty_lst, ty_tup, ty_str, ty_non, List.map_cons, List.map_nil, List.length_cons, List.length_nil, List.replicate, List.cons_append, List.nil_append, List.getElem?_cons_zero, List.getElem?_cons_succ, List.set_cons_zero, List.set_cons_succ, List.zip_cons_cons, List.zip_nil_right, List.zip_nil_left, Option.some.injEq, exists_eq_left', exists_eq_left, Nat.reduceAdd, Nat.reduceSub, Nat.reduceEqDiff, PyData.bool.injEq, PyData.int.injEq, PyData.list.injEq, PyData.tuple.injEq, if_true, if_false, reduceIte, true_and, and_true, decide_true, decide_false, Bool.false_eq_true])) ?_
  rintro _ g1 ⟨rfl, rfl⟩
  refine oks_seqI (P := fun E' g' => g' = g1 ∧ E' = [.val (.int n), .val (.int 1), .val (.int 10)]) (by (try simp only [fEq_int, fNe_int, ok_eK, ok_lNil, ok_lCons, ok_e2, ok_e1, ok_eF, ok_eTup, ok_nLst, ok_eN, ok_mB, ok_mTru, ok_mNot, ok_mAnd, ok_mOr, ok_eAnd, ok_eOr, ok_eNot, ok_eIf, ok_eIsi, ok_eIsi2, ok_eTyC, ok_eCall, ok_eCallK, ok_oNo, ok_oAt, ok_eSl, ok_iOf, ok_iOfT, ok_iRg1, oks_sNx, oks_sSeq, oks_sSet, oks_sOwn, oks_sDrop, oks_sRet, oks_sIf, oks_sAsg, oks_sPar, oks_sFor, ok_runD, ok_some, oks_some, startE, eV, setsE, Tg.parts, fAdd_int, fAdd_lst, fAdd_tup, fSub_int, fMul_int, fDiv_int, fMod_int, fPow_int, fLt_int, fLe_int, fGt_int, fGe_int, fNeg_int, fIx_lst, fIx_tup, fLen_lst, fLen_tup, fAbs_int, fInt1_int, fInt1_bl, fGcd_int, fTuple_lst, fTuple_tup, fList_lst, fList_tup, fTru_bl, fTru_lst, fTru_tup, fIsB_bl, atI_0, atI_1, ty_int, ty_bl, ty_lst, ty_tup, ty_str, ty_non, List.map_cons, List.map_nil, List.length_cons, List.length_nil, List.replicate, List.cons_append, List.nil_append, List.getElem?_cons_zero, List.getElem?_cons_succ, List.set_cons_zero, List.set_cons_succ, List.zip_cons_cons, List.zip_nil_right, List.zip_nil_left, Option.some.injEq, exists_eq_left', exists_eq_left, Nat.reduceAdd, Nat.reduceSub, Nat.reduceEqDiff, PyData.bool.injEq, PyData.int.injEq, PyData.list.injEq, PyData.tuple.injEq, if_true, if_false, reduceIte, true_and, and_true, decide_true, decide_false, Bool.false_eq_true])) ?_
  rintro _ g2 ⟨rfl, rfl⟩
  refine oks_seqI (P := fun E' g' => g' = g2 ∧ E' = [.val (.int 0), .val (.int (10 ^ n : Nat)), q']) ?_ ?_
  · have hf : fuI 0 [Sl.val (.int n), Sl.val (.int 1), Sl.val (.int 10)] g2 = n + 2 := by
      show (n : Int).natAbs + 2 = _
      rw [Int.natAbs_natCast]
    unfold sWhile
    rw [hf]
    refine ⟨_, _, _, hw, rfl, rfl, ?_⟩
    rw [Nat.one_mul]
  rintro _ _ ⟨rfl, rfl⟩
  (try simp only [fEq_int, fNe_int, ok_eK, ok_lNil, ok_lCons, ok_e2, ok_e1, ok_eF, ok_eTup, ok_nLst, ok_eN, ok_mB, ok_mTru, ok_mNot, ok_mAnd, ok_mOr, ok_eAnd, ok_eOr, ok_eNot, ok_eIf, ok_eIsi, ok_eIsi2, ok_eTyC, ok_eCall, ok_eCallK, ok_oNo, ok_oAt, ok_eSl, ok_iOf, ok_iOfT, ok_iRg1, oks_sNx, oks_sSeq, oks_sSet, oks_sOwn, oks_sDrop, oks_sRet, oks_sIf, oks_sAsg, oks_sPar, oks_sFor, ok_runD, ok_some, oks_some, startE, eV, setsE, Tg.parts, fAdd_int, fAdd_lst, fAdd_tup, fSub_int, fMul_int, fDiv_int, fMod_int, fPow_int, fLt_int, fLe_int, fGt_int, fGe_int, fNeg_int, fIx_lst, fIx_tup, fLen_lst, fLen_tup, fAbs_int, fInt1_int, fInt1_bl, fGcd_int, fTuple_lst, fTuple_tup, fList_lst, fList_tup, fTru_bl, fTru_lst, fTru_tup, fIsB_bl, atI_0, atI_1, ty_int, ty_bl, ty_lst, ty_tup, ty_str, ty_non, List.map_cons, List.map_nil, List.length_cons, List.length_nil, List.replicate, List.cons_append, List.nil_append, List.getElem?_cons_zero, List.getElem?_cons_succ, List.set_cons_zero, List.set_cons_succ, List.zip_cons_cons, List.zip_nil_right, List.zip_nil_left, Option.some.injEq, exists_eq_left', exists_eq_left, Nat.reduceAdd, Nat.reduceSub, Nat.reduceEqDiff, PyData.bool.injEq, PyData.int.injEq, PyData.list.injEq, PyData.tuple.injEq, if_true, if_false, reduceIte, true_and, and_true, decide_true, decide_false, Bool.false_eq_true])
theorem ten_bd {n : Nat} (h : n ≤ 1000) : 10 ^ n < 2 ^ 4001 := by
  have h1 : 10 ^ n ≤ 16 ^ n := Nat.pow_le_pow_left (by decide) n
  have h2 : 16 ^ n = 2 ^ (4 * n) := by rw [show (16 : Nat) = 2 ^ 4 by decide, ← Nat.pow_mul]
  have h3 : 2 ^ (4 * n) < 2 ^ 4001 := Nat.pow_lt_pow_right (by decide) (by omega)
  omega
theorem int_is (t : Int) : PyData.tuple [.int t, .int 1] = fr (t : Rat) := by
  unfold fr
  rw [Rat.num_intCast, Rat.den_intCast]
  rfl
/-- a step -/
theorem step_ok {d : Nat} (hd : d ≤ 5) {e : Int} (he : -1000 ≤ e ∧ e ≤ 1000) (g : G) : F_step [.int d, .int e] g = some (fr ((d : Rat) * pt e), g) := by
  refine Ok.eq ?_
  unfold F_step m_step
  rw [ok_runD]
  by_cases h : e < 0
  · obtain ⟨k, hk⟩ : ∃ k : Nat, -e = k := ⟨(-e).toNat, by omega⟩
    have h1 := ten_ok k (by omega) g
    have hb := ten_bd (n := k) (by omega)
    have h2 : (((10 ^ k : Nat) : Int)) ≠ 0 := by
      have := Nat.pow_pos (n := k) (show 0 < 10 by decide)
      omega
    have h3 := fraction_ok (t := d) h2 (by rw [Int.natAbs_natCast]; exact Nat.lt_trans hb (Nat.pow_lt_pow_right (by decide) (by decide))) g
    (try simp only [fEq_int, fNe_int, ok_eK, ok_lNil, ok_lCons, ok_e2, ok_e1, ok_eF, ok_eTup, ok_nLst, ok_eN, ok_mB, ok_mTru, ok_mNot, ok_mAnd, ok_mOr, ok_eAnd, ok_eOr, ok_eNot, ok_eIf, ok_eIsi, ok_eIsi2, ok_eTyC, ok_eCall, ok_eCallK, ok_oNo, ok_oAt, ok_eSl, ok_iOf, ok_iOfT, ok_iRg1, oks_sNx, oks_sSeq, oks_sSet, oks_sOwn, oks_sDrop, oks_sRet, oks_sIf, oks_sAsg, oks_sPar, oks_sFor, ok_runD, ok_some, oks_some, startE, eV, setsE, Tg.parts, fAdd_int, fAdd_lst, fAdd_tup, fSub_int, fMul_int, fDiv_int, fMod_int, fPow_int, fLt_int, fLe_int, fGt_int, fGe_int, fNeg_int, fIx_lst, fIx_tup, fLen_lst, fLen_tup, fAbs_int, fInt1_int, fInt1_bl, fGcd_int, fTuple_lst, fTuple_tup, fList_lst, fList_tup, fTru_bl, fTru_lst, fTru_tup, fIsB_bl, atI_0, atI_1, ty_int, ty_bl, ty_lst, ty_tup, ty_str, ty_non, List.map_cons, List.map_nil, List.length_cons, List.length_nil, List.replicate, List.cons_append, List.nil_append, List.getElem?_cons_zero, List.getElem?_cons_succ, List.set_cons_zero, List.set_cons_succ, List.zip_cons_cons, List.zip_nil_right, List.zip_nil_left, Option.some.injEq, exists_eq_left', exists_eq_left, Nat.reduceAdd, Nat.reduceSub, Nat.reduceEqDiff, PyData.bool.injEq, PyData.int.injEq, PyData.list.injEq, PyData.tuple.injEq, if_true, if_false, reduceIte, true_and, and_true, decide_true, decide_false, Bool.false_eq_true, h])
    rw [hk, ok_eq h1]
    (try simp only [fEq_int, fNe_int, ok_eK, ok_lNil, ok_lCons, ok_e2, ok_e1, ok_eF, ok_eTup, ok_nLst, ok_eN, ok_mB, ok_mTru, ok_mNot, ok_mAnd, ok_mOr, ok_eAnd, ok_eOr, ok_eNot, ok_eIf, ok_eIsi, ok_eIsi2, ok_eTyC, ok_eCall, ok_eCallK, ok_oNo, ok_oAt, ok_eSl, ok_iOf, ok_iOfT, ok_iRg1, oks_sNx, oks_sSeq, oks_sSet, oks_sOwn, oks_sDrop, oks_sRet, oks_sIf, oks_sAsg, oks_sPar, oks_sFor, ok_runD, ok_some, oks_some, startE, eV, setsE, Tg.parts, fAdd_int, fAdd_lst, fAdd_tup, fSub_int, fMul_int, fDiv_int, fMod_int, fPow_int, fLt_int, fLe_int, fGt_int, fGe_int, fNeg_int, fIx_lst, fIx_tup, fLen_lst, fLen_tup, fAbs_int, fInt1_int, fInt1_bl, fGcd_int, fTuple_lst, fTuple_tup, fList_lst, fList_tup, fTru_bl, fTru_lst, fTru_tup, fIsB_bl, atI_0, atI_1, ty_int, ty_bl, ty_lst, ty_tup, ty_str, ty_non, List.map_cons, List.map_nil, List.length_cons, List.length_nil, List.replicate, List.cons_append, List.nil_append, List.getElem?_cons_zero, List.getElem?_cons_succ, List.set_cons_zero, List.set_cons_succ, List.zip_cons_cons, List.zip_nil_right, List.zip_nil_left, Option.some.injEq, exists_eq_left', exists_eq_left, Nat.reduceAdd, Nat.reduceSub, Nat.reduceEqDiff, PyData.bool.injEq, PyData.int.injEq, PyData.list.injEq, PyData.tuple.injEq, if_true, if_false, reduceIte, true_and, and_true, decide_true, decide_false, Bool.false_eq_true])
    rw [ok_eq h3]
    refine ⟨?_, rfl⟩
    unfold M5.pt
    rw [if_pos h, hk, Int.toNat_natCast, Rat.divInt_eq_div, Rat.intCast_natCast, Rat.intCast_natCast]
    congr 1
    rw [Rat.div_def, Rat.div_def, Rat.one_mul]
  · obtain ⟨k, hk⟩ : ∃ k : Nat, e = k := ⟨e.toNat, by omega⟩
    have h1 := ten_ok k (by omega) g
    have z2 : 2 ≤ sizeLine := sz_ok (by decide)
    have cm : cMul (d : Int) (10 ^ k : Nat) = true := by
      unfold cMul
      have : (d : Int).natAbs < 2 ^ 64 := by omega
      rw [decide_eq_true this, Bool.true_or, Bool.true_or]
    (try simp only [fEq_int, fNe_int, ok_eK, ok_lNil, ok_lCons, ok_e2, ok_e1, ok_eF, ok_eTup, ok_nLst, ok_eN, ok_mB, ok_mTru, ok_mNot, ok_mAnd, ok_mOr, ok_eAnd, ok_eOr, ok_eNot, ok_eIf, ok_eIsi, ok_eIsi2, ok_eTyC, ok_eCall, ok_eCallK, ok_oNo, ok_oAt, ok_eSl, ok_iOf, ok_iOfT, ok_iRg1, oks_sNx, oks_sSeq, oks_sSet, oks_sOwn, oks_sDrop, oks_sRet, oks_sIf, oks_sAsg, oks_sPar, oks_sFor, ok_runD, ok_some, oks_some, startE, eV, setsE, Tg.parts, fAdd_int, fAdd_lst, fAdd_tup, fSub_int, fMul_int, fDiv_int, fMod_int, fPow_int, fLt_int, fLe_int, fGt_int, fGe_int, fNeg_int, fIx_lst, fIx_tup, fLen_lst, fLen_tup, fAbs_int, fInt1_int, fInt1_bl, fGcd_int, fTuple_lst, fTuple_tup, fList_lst, fList_tup, fTru_bl, fTru_lst, fTru_tup, fIsB_bl, atI_0, atI_1, ty_int, ty_bl, ty_lst, ty_tup, ty_str, ty_non, List.map_cons, List.map_nil, List.length_cons, List.length_nil, List.replicate, List.cons_append, List.nil_append, List.getElem?_cons_zero, List.getElem?_cons_succ, List.set_cons_zero, List.set_cons_succ, List.zip_cons_cons, List.zip_nil_right, List.zip_nil_left, Option.some.injEq, exists_eq_left', exists_eq_left, Nat.reduceAdd, Nat.reduceSub, Nat.reduceEqDiff, PyData.bool.injEq, PyData.int.injEq, PyData.list.injEq, PyData.tuple.injEq, if_true, if_false, reduceIte, true_and, and_true, decide_true, decide_false, Bool.false_eq_true, h])
    subst hk
    rw [ok_eq h1]
    (try simp only [fEq_int, fNe_int, ok_eK, ok_lNil, ok_lCons, ok_e2, ok_e1, ok_eF, ok_eTup, ok_nLst, ok_eN, ok_mB, ok_mTru, ok_mNot, ok_mAnd, ok_mOr, ok_eAnd, ok_eOr, ok_eNot, ok_eIf, ok_eIsi, ok_eIsi2, ok_eTyC, ok_eCall, ok_eCallK, ok_oNo, ok_oAt, ok_eSl, ok_iOf, ok_iOfT, ok_iRg1, oks_sNx, oks_sSeq, oks_sSet, oks_sOwn, oks_sDrop, oks_sRet, oks_sIf, oks_sAsg, oks_sPar, oks_sFor, ok_runD, ok_some, oks_some, startE, eV, setsE, Tg.parts, fAdd_int, fAdd_lst, fAdd_tup, fSub_int, fMul_int, fDiv_int, fMod_int, fPow_int, fLt_int, fLe_int, fGt_int, fGe_int, fNeg_int, fIx_lst, fIx_tup, fLen_lst, fLen_tup, fAbs_int, fInt1_int, fInt1_bl, fGcd_int, fTuple_lst, fTuple_tup, fList_lst, fList_tup, fTru_bl, fTru_lst, fTru_tup, fIsB_bl, atI_0, atI_1, ty_int, ty_bl, ty_lst, ty_tup, ty_str, ty_non, List.map_cons, List.map_nil, List.length_cons, List.length_nil, List.replicate, List.cons_append, List.nil_append, List.getElem?_cons_zero, List.getElem?_cons_succ, List.set_cons_zero, List.set_cons_succ, List.zip_cons_cons, List.zip_nil_right, List.zip_nil_left, Option.some.injEq, exists_eq_left', exists_eq_left, Nat.reduceAdd, Nat.reduceSub, Nat.reduceEqDiff, PyData.bool.injEq, PyData.int.injEq, PyData.list.injEq, PyData.tuple.injEq, if_true, if_false, reduceIte, true_and, and_true, decide_true, decide_false, Bool.false_eq_true, cm, z2, int_is])
    unfold M5.pt
    rw [if_neg h, Int.toNat_natCast, Rat.intCast_mul, Rat.intCast_natCast, Rat.intCast_natCast]
/-! the power that is near -/
theorem bits_lt {n : Nat} (h : 0 < n) : n < 2 ^ (n.log2 + 1) ∧ 2 ^ (n.log2 + 1) ≤ 2 * n := by
  have h0 : n ≠ 0 := by omega
  refine ⟨Nat.lt_log2_self, ?_⟩
  have := Nat.log2_self_le h0
  rw [Nat.pow_succ]
  omega
theorem near_ok {r : Rat} (h0 : 0 < r) (hs : Sz 420 r) (g : G) : ∃ m : Int, F_exponent_near [fr r] g = some (.int m, g) ∧ r < pt (m + 2) ∧ 55 * pt (m - 3) ≤ r ∧ -130 ≤ m ∧ m ≤ 130 := by
  have hn := M5.numpos h0
  have hd := r.den_pos
  have e1 : Builtin.Int.intBits r.num = r.num.toNat.log2 + 1 := by
    unfold Builtin.Int.intBits
    rw [if_neg (by rw [beq_iff_eq]; omega), show r.num.natAbs = r.num.toNat by omega]
  have e2 : Builtin.Int.intBits (r.den : Int) = r.den.log2 + 1 := by
    unfold Builtin.Int.intBits
    rw [if_neg (by rw [beq_iff_eq]; omega), Int.natAbs_natCast]
  have l1 : r.num.toNat.log2 + 1 ≤ 420 := by
    have := (Nat.log2_lt (n := r.num.toNat) (k := 420) (by omega)).mpr (by have := hs.1; rwa [show r.num.toNat = r.num.natAbs by omega])
    omega
  have l2 : r.den.log2 + 1 ≤ 420 := by
    have := (Nat.log2_lt (n := r.den) (k := 420) (by omega)).mpr hs.2
    omega
  have k := M5.near h0 (bits_lt (n := r.num.toNat) (by omega)).1 (bits_lt (n := r.num.toNat) (by omega)).2 (bits_lt hd).1 (bits_lt hd).2 l1 l2
  refine ⟨_, ?_, k⟩
  refine Ok.eq ?_
  unfold F_exponent_near m_exponent_near
  have b1 : ∀ i : Int, fBitL (.int i) = some (.int (Builtin.Int.intBits i : Nat)) := fun _ => rfl
  have cm : ∀ i : Int, cMul i 30103 = true := fun i => by
    unfold cMul
    simp
  have cd : ∀ i : Int, cDiv i 100000 = true := fun i => by
    unfold cDiv
    decide
  simp only [fr]
  (try simp only [fEq_int, fNe_int, ok_eK, ok_lNil, ok_lCons, ok_e2, ok_e1, ok_eF, ok_eTup, ok_nLst, ok_eN, ok_mB, ok_mTru, ok_mNot, ok_mAnd, ok_mOr, ok_eAnd, ok_eOr, ok_eNot, ok_eIf, ok_eIsi, ok_eIsi2, ok_eTyC, ok_eCall, ok_eCallK, ok_oNo, ok_oAt, ok_eSl, ok_iOf, ok_iOfT, ok_iRg1, oks_sNx, oks_sSeq, oks_sSet, oks_sOwn, oks_sDrop, oks_sRet, oks_sIf, oks_sAsg, oks_sPar, oks_sFor, ok_runD, ok_some, oks_some, startE, eV, setsE, Tg.parts, fAdd_int, fAdd_lst, fAdd_tup, fSub_int, fMul_int, fDiv_int, fMod_int, fPow_int, fLt_int, fLe_int, fGt_int, fGe_int, fNeg_int, fIx_lst, fIx_tup, fLen_lst, fLen_tup, fAbs_int, fInt1_int, fInt1_bl, fGcd_int, fTuple_lst, fTuple_tup, fList_lst, fList_tup, fTru_bl, fTru_lst, fTru_tup, fIsB_bl, atI_0, atI_1, ty_int, ty_bl, ty_lst, ty_tup, ty_str, ty_non, List.map_cons, List.map_nil, List.length_cons, List.length_nil, List.replicate, List.cons_append, List.nil_append, List.getElem?_cons_zero, List.getElem?_cons_succ, List.set_cons_zero, List.set_cons_succ, List.zip_cons_cons, List.zip_nil_right, List.zip_nil_left, Option.some.injEq, exists_eq_left', exists_eq_left, Nat.reduceAdd, Nat.reduceSub, Nat.reduceEqDiff, PyData.bool.injEq, PyData.int.injEq, PyData.list.injEq, PyData.tuple.injEq, if_true, if_false, reduceIte, true_and, and_true, decide_true, decide_false, Bool.false_eq_true, b1, cm, cd, e1, e2])
  exact rfl
end K06

set_option Elab.async false
set_option linter.all false
set_option maxRecDepth 100000
set_option maxHeartbeats 4000000
namespace K06
open PySem PySem.Spec PyProof.Rows L2 DL
open M5 (pt u fl fst cnt okI win mid)
/-! loops by their turn -/
theorem forL_rg {tg : Tg} {b : MS} {I : Nat → En → G → Prop} (F : Nat → D) (n : Nat) (h : ∀ i < n, ∀ E g, I i E g → ∃ ps, tg.parts (F i) = some ps ∧ OkS (b (setsE ps E) g) fun r E' g' => r = .nx ∧ I (i + 1) E' g') :
    ∀ (m j : Nat), j + m = n → ∀ E g, I j E g → OkS (forL tg b ((List.range' j m).map F) E g) fun r E' g' => r = .nx ∧ I n E' g'
  | 0, j, hj, E, g, hi => ⟨_, _, _, rfl, rfl, by rw [← hj]; exact hi⟩
  | m + 1, j, hj, E, g, hi => by
    obtain ⟨ps, e1, r, E1, g1, e2, rfl, h2⟩ := h j (by omega) E g hi
    have := forL_rg F n h m (j + 1) (by omega) E1 g1 h2
    rw [List.range'_succ, List.map_cons]
    unfold forL
    rw [e1]
    simp only [e2]
    exact this
theorem forL_0 {tg : Tg} {b : MS} {I : Nat → En → G → Prop} (F : Nat → D) (n : Nat) (h : ∀ i < n, ∀ E g, I i E g → ∃ ps, tg.parts (F i) = some ps ∧ OkS (b (setsE ps E) g) fun r E' g' => r = .nx ∧ I (i + 1) E' g') {E : En} {g : G} (hi : I 0 E g) :
    OkS (forL tg b ((List.range n).map F) E g) fun r E' g' => r = .nx ∧ I n E' g' := by
  rw [List.range_eq_range']
  exact forL_rg F n h n 0 (by omega) E g hi
/-- by folding -/
theorem forL_fold {α β : Type} {tg : Tg} {b : MS} {I : β → En → G → Prop} {f : β → α → β} {φ : α → D} : ∀ (l : List α) (x : β) (E : En) (g : G), (∀ a ∈ l, ∀ x E g, I x E g → ∃ ps, tg.parts (φ a) = some ps ∧ OkS (b (setsE ps E) g) fun r E' g' => r = .nx ∧ I (f x a) E' g') → I x E g →
    OkS (forL tg b (l.map φ) E g) fun r E' g' => r = .nx ∧ I (l.foldl f x) E' g'
  | [], x, E, g, _, hi => ⟨_, _, _, rfl, rfl, hi⟩
  | a :: l, x, E, g, h, hi => by
    obtain ⟨ps, e1, r, E1, g1, e2, rfl, h2⟩ := h a (List.mem_cons_self ..) x E g hi
    have := forL_fold l (f x a) E1 g1 (fun a ha => h a (List.mem_cons_of_mem _ ha)) h2
    rw [List.map_cons]
    unfold forL
    rw [e1]
    simp only [e2]
    exact this
/-! how great -/
theorem ten4 (n : Nat) : 10 ^ n ≤ 2 ^ (4 * n) := by
  have h1 : 10 ^ n ≤ 16 ^ n := Nat.pow_le_pow_left (by decide) n
  have h2 : 16 ^ n = 2 ^ (4 * n) := by rw [show (16 : Nat) = 2 ^ 4 by decide, ← Nat.pow_mul]
  omega
theorem pt_sz {e : Int} (h : -150 ≤ e ∧ e ≤ 150) : Sz 610 (pt e) := by
  have hp : ∀ n : Nat, n ≤ 150 → ((10 ^ n : Nat) : Int).natAbs < 2 ^ 610 := fun n hn => by
    rw [Int.natAbs_natCast]
    exact Nat.lt_of_le_of_lt (ten4 n) (Nat.pow_lt_pow_right (by decide) (by omega))
  have h1 : (1 : Int).natAbs < 2 ^ 610 := hp 0 (by decide)
  unfold M5.pt
  split
  · have e0 : (1 : Rat) / ((10 ^ (-e).toNat : Nat) : Rat) = Rat.divInt 1 (10 ^ (-e).toNat : Nat) := by
      rw [Rat.divInt_eq_div, Rat.intCast_natCast]
      rfl
    rw [e0]
    refine divInt_sz ?_ h1 (hp _ (by omega))
    have := Nat.pow_pos (n := (-e).toNat) (show 0 < 10 by decide)
    omega
  · refine ⟨?_, ?_⟩
    · rw [Rat.num_natCast]
      exact hp _ (by omega)
    · rw [Rat.den_natCast]
      exact h1
def dN (j : Nat) : Nat := if j = 0 then 1 else if j = 1 then 2 else 5
theorem dN_le (j : Nat) : dN j ≤ 5 := by
  unfold dN
  split
  · omega
  · split <;> omega
theorem u_dN (e : Int) {j : Nat} (h : j < 3) : u (3 * e + j) = (dN j : Rat) * pt e := by
  obtain rfl | rfl | rfl : j = 0 ∨ j = 1 ∨ j = 2 := by omega
  · rw [show 3 * e + ((0 : Nat) : Int) = 3 * e by omega, M5.u0]
    exact (Rat.one_mul _).symm
  · exact M5.u1 e
  · exact M5.u2 e
theorem u_sz {i : Int} (h : -450 ≤ i ∧ i ≤ 450) : Sz 613 (u i) := by
  obtain ⟨e, rfl | rfl | rfl⟩ := M5.by3 i
  · rw [M5.u0]; exact (pt_sz (by omega)).mono (by decide)
  · rw [M5.u1]
    have : Sz 3 (2 : Rat) := by constructor <;> decide
    have := this.mul (pt_sz (e := e) (by omega))
    exact this.mono (by decide)
  · rw [M5.u2]
    have : Sz 3 (5 : Rat) := by constructor <;> decide
    have := this.mul (pt_sz (e := e) (by omega))
    exact this.mono (by decide)
/-! the steps of an axis, as the program finds them -/
def trip (lo hi : Rat) (i : Int) : D := .tuple [fr (u i), .int (fst lo (u i)), .int (cnt lo hi (u i))]
abbrev okL (lo hi : Rat) (a : Int) (n : Nat) : List Int := (win a n).filter (okI lo hi)
theorem okL_succ (lo hi : Rat) (a : Int) (n : Nat) : okL lo hi a (n + 1) = okL lo hi a n ++ if okI lo hi (a + n) then [a + n] else [] := by
  show (win a (n + 1)).filter _ = _
  rw [M5.win_app, List.filter_append]
  congr 1
  have : win (a + n) 1 = [a + n] := by
    unfold M5.win
    simp
  rw [this]
  by_cases h : okI lo hi (a + n) = true
  · rw [if_pos h, List.filter_cons_of_pos h]; rfl
  · rw [if_neg h, List.filter_cons_of_neg h]; rfl
theorem okL_len (lo hi : Rat) (a : Int) (n : Nat) : (okL lo hi a n).length ≤ n := by
  have h : (win a n).length = n := by unfold M5.win; simp
  have := List.length_filter_le (okI lo hi) (win a n)
  rw [h] at this
  exact this
theorem ok_eCh_i {h h' : D → D → Option D} {a b c : M} {E : En} {g : G} {Q : D → G → Prop} : Ok (eCh h h' a b c E g) Q ↔ Ok (a E g) fun x g1 => Ok (b E g1) fun y g2 => ∃ t, h x y = some (.bool t) ∧ if t = true then Ok (c E g2) fun z g3 => ∃ w, h' y z = some w ∧ Q w g3 else Q (.bool false) g2 := by
  unfold eCh
  cases a E g with
  | none => simp only [ok_none]
  | some p =>
    simp only [ok_some]
    cases b E p.2 with
    | none => simp only [ok_none]
    | some q =>
      simp only [ok_some]
      cases h p.1 q.1 with
      | none => simp [ok_none]
      | some z =>
        cases z with
        | bool t =>
          cases t with
          | false => simp [ok_some]
          | true =>
            simp only [Option.some.injEq, PyData.bool.injEq, exists_eq_left', if_true]
            cases c E q.2 with
            | none => simp only [ok_none]
            | some r =>
              simp only [ok_some]
              cases h' q.1 r.1 with
              | none => simp [ok_none]
              | some w => simp [ok_some]
        | _ => simp [ok_none]
theorem ok_iRg2 {ml : ML} {E : En} {g : G} {QL : List D → G → Prop} : Ok (iRg2 ml E g) QL ↔ Ok (ml E g) fun ds g1 => ∃ i j, ds = [.int i, .int j] ∧ (-(2 ^ 62) ≤ i ∧ i < 2 ^ 62 ∧ -(2 ^ 62) ≤ j ∧ j < 2 ^ 62) ∧ QL (intsD i (j - i).toNat) g1 := by
  unfold iRg2
  cases ml E g with
  | none => simp only [ok_none]
  | some p =>
    obtain ⟨ds, g1⟩ := p
    simp only [ok_some]
    split
    · rename_i i j g2 e
      cases e
      by_cases z : -(2 ^ 62) ≤ i ∧ i < 2 ^ 62 ∧ -(2 ^ 62) ≤ j ∧ j < 2 ^ 62
      · rw [if_pos z, ok_some]
        exact ⟨fun q => ⟨i, j, rfl, z, q⟩, fun ⟨_, _, e, _, q⟩ => by cases e; exact q⟩
      · rw [if_neg z, ok_none]
        exact ⟨False.elim, fun ⟨_, _, e, w, q⟩ => by cases e; exact z w⟩
    · rename_i hno
      rw [ok_none]
      exact ⟨False.elim, fun ⟨i, j, e, _, _⟩ => hno i j g1 (by rw [e])⟩
abbrev ESt (lo hi : Rat) (m : Int) (L : List Int) (x4 x5 x6 x7 x8 : Sl) : En := [.val (fr lo), .val (fr hi), .val (.int m), .own (L.map (trip lo hi)), x4, x5, x6, x7, x8]
section
variable {lo hi : Rat} (hlo : Sz 1000 lo) (hhi : Sz 1000 hi)
include hlo hhi
theorem st_turn {m e : Int} (he : -140 ≤ e ∧ e ≤ 140) {j : Nat} (hj : j < 3) {L : List Int} (hL : L.length < 100) (x6 x7 x8 : Sl) (g : G) : OkS ((sSeq (sSet 6 (eCall F_step (lCons (eV true 5) (lCons (eV true 4) (lNil))))) (sSeq (sSet 7 (e1 fNeg (eCall F_floor_over (lCons (eCall Fminus (lCons (eTup (lCons (eK (.int 0)) (lCons (eK (.int 1)) (lNil)))) (lCons (eV true 0) (lNil)))) (lCons (eV true 6) (lNil)))))) (sSeq (sSet 8 (e2 fAdd (e2 fSub (eCall F_floor_over (lCons (eV true 1) (lCons (eV true 6) (lNil)))) (eV true 7)) (eK (.int 1)))) (sIf (mB (eCh fLe fLe (eK (.int 2)) (eV false 8) (eK (.int 10)))) (sApp 3 (eTup (lCons (eV true 6) (lCons (eV true 7) (lCons (eV true 8) (lNil)))))) (sNx))))) (ESt lo hi m L (.val (.int e)) (.val (.int (dN j))) x6 x7 x8) g) fun r E' g' => r = .nx ∧ g' = g ∧ ∃ y6 y7 y8, E' = ESt lo hi m (L ++ if okI lo hi (3 * e + j) then [3 * e + (j : Int)] else []) (.val (.int e)) (.val (.int (dN j))) y6 y7 y8 := by
  have us := u_sz (i := 3 * e + j) (by omega)
  have up := M5.u_pos (3 * e + j)
  have z2 : 2 ≤ sizeLine := sz_ok (by decide)
  have z3 : 3 ≤ sizeLine := sz_ok (by decide)
  have zl : L.length < sizeLine := Nat.lt_of_lt_of_le hL (sz_ok (Nat.le_refl 100))
  have s0 : Sz 1000 (0 : Rat) := ⟨Nat.pow_pos (n := 1000) (by decide), Nat.one_lt_two_pow (n := 1000) (by decide)⟩
  have f0 : PyData.tuple [.int 0, .int 1] = fr 0 := rfl
  refine oks_seqI (P := fun E' g' => g' = g ∧ E' = ESt lo hi m L (.val (.int e)) (.val (.int (dN j))) (.val (fr (u (3 * e + j)))) x7 x8) ?_ ?_
  · (try simp only [fEq_int, fNe_int, ok_eK, ok_lNil, ok_lCons, ok_e2, ok_e1, ok_eF, ok_eTup, ok_nLst, ok_eN, ok_mB, ok_mTru, ok_mNot, ok_mAnd, ok_mOr, ok_eAnd, ok_eOr, ok_eNot, ok_eIf, ok_eIsi, ok_eIsi2, ok_eTyC, ok_eCall, ok_eCallK, ok_oNo, ok_oAt, ok_eSl, ok_iOf, ok_iOfT, ok_iRg1, oks_sNx, oks_sSeq, oks_sSet, oks_sOwn, oks_sDrop, oks_sRet, oks_sIf, oks_sAsg, oks_sPar, oks_sFor, ok_runD, ok_some, oks_some, startE, eV, setsE, Tg.parts, fAdd_int, fAdd_lst, fAdd_tup, fSub_int, fMul_int, fDiv_int, fMod_int, fPow_int, fLt_int, fLe_int, fGt_int, fGe_int, fNeg_int, fIx_lst, fIx_tup, fLen_lst, fLen_tup, fAbs_int, fInt1_int, fInt1_bl, fGcd_int, fTuple_lst, fTuple_tup, fList_lst, fList_tup, fTru_bl, fTru_lst, fTru_tup, fIsB_bl, atI_0, atI_1, ty_int, ty_bl, ty_lst, ty_tup, ty_str, ty_non, List.map_cons, List.map_nil, List.length_cons, List.length_nil, List.replicate, List.cons_append, List.nil_append, List.getElem?_cons_zero, List.getElem?_cons_succ, List.set_cons_zero, List.set_cons_succ, List.zip_cons_cons, List.zip_nil_right, List.zip_nil_left, Option.some.injEq, exists_eq_left', exists_eq_left, Nat.reduceAdd, Nat.reduceSub, Nat.reduceEqDiff, PyData.bool.injEq, PyData.int.injEq, PyData.list.injEq, PyData.tuple.injEq, if_true, if_false, reduceIte, true_and, and_true, decide_true, decide_false, Bool.false_eq_true])
    rw [ok_eq (step_ok (dN_le j) (by omega) g), u_dN e hj]
    exact ⟨rfl, rfl⟩
  rintro _ g1 ⟨rfl, rfl⟩
  refine oks_seqI (P := fun E' g' => g' = g1 ∧ E' = ESt lo hi m L (.val (.int e)) (.val (.int (dN j))) (.val (fr (u (3 * e + j)))) (.val (.int (fst lo (u (3 * e + j))))) x8) ?_ ?_
  · (try simp only [fEq_int, fNe_int, ok_eK, ok_lNil, ok_lCons, ok_e2, ok_e1, ok_eF, ok_eTup, ok_nLst, ok_eN, ok_mB, ok_mTru, ok_mNot, ok_mAnd, ok_mOr, ok_eAnd, ok_eOr, ok_eNot, ok_eIf, ok_eIsi, ok_eIsi2, ok_eTyC, ok_eCall, ok_eCallK, ok_oNo, ok_oAt, ok_eSl, ok_iOf, ok_iOfT, ok_iRg1, oks_sNx, oks_sSeq, oks_sSet, oks_sOwn, oks_sDrop, oks_sRet, oks_sIf, oks_sAsg, oks_sPar, oks_sFor, ok_runD, ok_some, oks_some, startE, eV, setsE, Tg.parts, fAdd_int, fAdd_lst, fAdd_tup, fSub_int, fMul_int, fDiv_int, fMod_int, fPow_int, fLt_int, fLe_int, fGt_int, fGe_int, fNeg_int, fIx_lst, fIx_tup, fLen_lst, fLen_tup, fAbs_int, fInt1_int, fInt1_bl, fGcd_int, fTuple_lst, fTuple_tup, fList_lst, fList_tup, fTru_bl, fTru_lst, fTru_tup, fIsB_bl, atI_0, atI_1, ty_int, ty_bl, ty_lst, ty_tup, ty_str, ty_non, List.map_cons, List.map_nil, List.length_cons, List.length_nil, List.replicate, List.cons_append, List.nil_append, List.getElem?_cons_zero, List.getElem?_cons_succ, List.set_cons_zero, List.set_cons_succ, List.zip_cons_cons, List.zip_nil_right, List.zip_nil_left, Option.some.injEq, exists_eq_left', exists_eq_left, Nat.reduceAdd, Nat.reduceSub, Nat.reduceEqDiff, PyData.bool.injEq, PyData.int.injEq, PyData.list.injEq, PyData.tuple.injEq, if_true, if_false, reduceIte, true_and, and_true, decide_true, decide_false, Bool.false_eq_true, z2, f0])
    rw [ok_eq (minus_ok s0 hlo (by decide) (by decide) g1)]
    (try simp only [fEq_int, fNe_int, ok_eK, ok_lNil, ok_lCons, ok_e2, ok_e1, ok_eF, ok_eTup, ok_nLst, ok_eN, ok_mB, ok_mTru, ok_mNot, ok_mAnd, ok_mOr, ok_eAnd, ok_eOr, ok_eNot, ok_eIf, ok_eIsi, ok_eIsi2, ok_eTyC, ok_eCall, ok_eCallK, ok_oNo, ok_oAt, ok_eSl, ok_iOf, ok_iOfT, ok_iRg1, oks_sNx, oks_sSeq, oks_sSet, oks_sOwn, oks_sDrop, oks_sRet, oks_sIf, oks_sAsg, oks_sPar, oks_sFor, ok_runD, ok_some, oks_some, startE, eV, setsE, Tg.parts, fAdd_int, fAdd_lst, fAdd_tup, fSub_int, fMul_int, fDiv_int, fMod_int, fPow_int, fLt_int, fLe_int, fGt_int, fGe_int, fNeg_int, fIx_lst, fIx_tup, fLen_lst, fLen_tup, fAbs_int, fInt1_int, fInt1_bl, fGcd_int, fTuple_lst, fTuple_tup, fList_lst, fList_tup, fTru_bl, fTru_lst, fTru_tup, fIsB_bl, atI_0, atI_1, ty_int, ty_bl, ty_lst, ty_tup, ty_str, ty_non, List.map_cons, List.map_nil, List.length_cons, List.length_nil, List.replicate, List.cons_append, List.nil_append, List.getElem?_cons_zero, List.getElem?_cons_succ, List.set_cons_zero, List.set_cons_succ, List.zip_cons_cons, List.zip_nil_right, List.zip_nil_left, Option.some.injEq, exists_eq_left', exists_eq_left, Nat.reduceAdd, Nat.reduceSub, Nat.reduceEqDiff, PyData.bool.injEq, PyData.int.injEq, PyData.list.injEq, PyData.tuple.injEq, if_true, if_false, reduceIte, true_and, and_true, decide_true, decide_false, Bool.false_eq_true])
    rw [ok_eq (fl_ok ((s0.sub hlo).mono (m := 2100) (by decide)) us (by decide) up g1)]
    (try simp only [fEq_int, fNe_int, ok_eK, ok_lNil, ok_lCons, ok_e2, ok_e1, ok_eF, ok_eTup, ok_nLst, ok_eN, ok_mB, ok_mTru, ok_mNot, ok_mAnd, ok_mOr, ok_eAnd, ok_eOr, ok_eNot, ok_eIf, ok_eIsi, ok_eIsi2, ok_eTyC, ok_eCall, ok_eCallK, ok_oNo, ok_oAt, ok_eSl, ok_iOf, ok_iOfT, ok_iRg1, oks_sNx, oks_sSeq, oks_sSet, oks_sOwn, oks_sDrop, oks_sRet, oks_sIf, oks_sAsg, oks_sPar, oks_sFor, ok_runD, ok_some, oks_some, startE, eV, setsE, Tg.parts, fAdd_int, fAdd_lst, fAdd_tup, fSub_int, fMul_int, fDiv_int, fMod_int, fPow_int, fLt_int, fLe_int, fGt_int, fGe_int, fNeg_int, fIx_lst, fIx_tup, fLen_lst, fLen_tup, fAbs_int, fInt1_int, fInt1_bl, fGcd_int, fTuple_lst, fTuple_tup, fList_lst, fList_tup, fTru_bl, fTru_lst, fTru_tup, fIsB_bl, atI_0, atI_1, ty_int, ty_bl, ty_lst, ty_tup, ty_str, ty_non, List.map_cons, List.map_nil, List.length_cons, List.length_nil, List.replicate, List.cons_append, List.nil_append, List.getElem?_cons_zero, List.getElem?_cons_succ, List.set_cons_zero, List.set_cons_succ, List.zip_cons_cons, List.zip_nil_right, List.zip_nil_left, Option.some.injEq, exists_eq_left', exists_eq_left, Nat.reduceAdd, Nat.reduceSub, Nat.reduceEqDiff, PyData.bool.injEq, PyData.int.injEq, PyData.list.injEq, PyData.tuple.injEq, if_true, if_false, reduceIte, true_and, and_true, decide_true, decide_false, Bool.false_eq_true])
    have : (0 : Rat) - lo = -lo := by grind
    rw [this]
    rfl
  rintro _ g2 ⟨rfl, rfl⟩
  refine oks_seqI (P := fun E' g' => g' = g2 ∧ E' = ESt lo hi m L (.val (.int e)) (.val (.int (dN j))) (.val (fr (u (3 * e + j)))) (.val (.int (fst lo (u (3 * e + j))))) (.val (.int (cnt lo hi (u (3 * e + j)))))) ?_ ?_
  · (try simp only [fEq_int, fNe_int, ok_eK, ok_lNil, ok_lCons, ok_e2, ok_e1, ok_eF, ok_eTup, ok_nLst, ok_eN, ok_mB, ok_mTru, ok_mNot, ok_mAnd, ok_mOr, ok_eAnd, ok_eOr, ok_eNot, ok_eIf, ok_eIsi, ok_eIsi2, ok_eTyC, ok_eCall, ok_eCallK, ok_oNo, ok_oAt, ok_eSl, ok_iOf, ok_iOfT, ok_iRg1, oks_sNx, oks_sSeq, oks_sSet, oks_sOwn, oks_sDrop, oks_sRet, oks_sIf, oks_sAsg, oks_sPar, oks_sFor, ok_runD, ok_some, oks_some, startE, eV, setsE, Tg.parts, fAdd_int, fAdd_lst, fAdd_tup, fSub_int, fMul_int, fDiv_int, fMod_int, fPow_int, fLt_int, fLe_int, fGt_int, fGe_int, fNeg_int, fIx_lst, fIx_tup, fLen_lst, fLen_tup, fAbs_int, fInt1_int, fInt1_bl, fGcd_int, fTuple_lst, fTuple_tup, fList_lst, fList_tup, fTru_bl, fTru_lst, fTru_tup, fIsB_bl, atI_0, atI_1, ty_int, ty_bl, ty_lst, ty_tup, ty_str, ty_non, List.map_cons, List.map_nil, List.length_cons, List.length_nil, List.replicate, List.cons_append, List.nil_append, List.getElem?_cons_zero, List.getElem?_cons_succ, List.set_cons_zero, List.set_cons_succ, List.zip_cons_cons, List.zip_nil_right, List.zip_nil_left, Option.some.injEq, exists_eq_left', exists_eq_left, Nat.reduceAdd, Nat.reduceSub, Nat.reduceEqDiff, PyData.bool.injEq, PyData.int.injEq, PyData.list.injEq, PyData.tuple.injEq, if_true, if_false, reduceIte, true_and, and_true, decide_true, decide_false, Bool.false_eq_true])
    rw [ok_eq (fl_ok hhi us (by decide) up g2)]
    (try simp only [fEq_int, fNe_int, ok_eK, ok_lNil, ok_lCons, ok_e2, ok_e1, ok_eF, ok_eTup, ok_nLst, ok_eN, ok_mB, ok_mTru, ok_mNot, ok_mAnd, ok_mOr, ok_eAnd, ok_eOr, ok_eNot, ok_eIf, ok_eIsi, ok_eIsi2, ok_eTyC, ok_eCall, ok_eCallK, ok_oNo, ok_oAt, ok_eSl, ok_iOf, ok_iOfT, ok_iRg1, oks_sNx, oks_sSeq, oks_sSet, oks_sOwn, oks_sDrop, oks_sRet, oks_sIf, oks_sAsg, oks_sPar, oks_sFor, ok_runD, ok_some, oks_some, startE, eV, setsE, Tg.parts, fAdd_int, fAdd_lst, fAdd_tup, fSub_int, fMul_int, fDiv_int, fMod_int, fPow_int, fLt_int, fLe_int, fGt_int, fGe_int, fNeg_int, fIx_lst, fIx_tup, fLen_lst, fLen_tup, fAbs_int, fInt1_int, fInt1_bl, fGcd_int, fTuple_lst, fTuple_tup, fList_lst, fList_tup, fTru_bl, fTru_lst, fTru_tup, fIsB_bl, atI_0, atI_1, ty_int, ty_bl, ty_lst, ty_tup, ty_str, ty_non, List.map_cons, List.map_nil, List.length_cons, List.length_nil, List.replicate, List.cons_append, List.nil_append, List.getElem?_cons_zero, List.getElem?_cons_succ, List.set_cons_zero, List.set_cons_succ, List.zip_cons_cons, List.zip_nil_right, List.zip_nil_left, Option.some.injEq, exists_eq_left', exists_eq_left, Nat.reduceAdd, Nat.reduceSub, Nat.reduceEqDiff, PyData.bool.injEq, PyData.int.injEq, PyData.list.injEq, PyData.tuple.injEq, if_true, if_false, reduceIte, true_and, and_true, decide_true, decide_false, Bool.false_eq_true])
    rfl
  rintro _ g3 ⟨rfl, rfl⟩
  (try simp only [fEq_int, fNe_int, ok_eK, ok_lNil, ok_lCons, ok_e2, ok_e1, ok_eF, ok_eTup, ok_nLst, ok_eN, ok_mB, ok_mTru, ok_mNot, ok_mAnd, ok_mOr, ok_eAnd, ok_eOr, ok_eNot, ok_eIf, ok_eIsi, ok_eIsi2, ok_eTyC, ok_eCall, ok_eCallK, ok_oNo, ok_oAt, ok_eSl, ok_iOf, ok_iOfT, ok_iRg1, oks_sNx, oks_sSeq, oks_sSet, oks_sOwn, oks_sDrop, oks_sRet, oks_sIf, oks_sAsg, oks_sPar, oks_sFor, ok_runD, ok_some, oks_some, startE, eV, setsE, Tg.parts, fAdd_int, fAdd_lst, fAdd_tup, fSub_int, fMul_int, fDiv_int, fMod_int, fPow_int, fLt_int, fLe_int, fGt_int, fGe_int, fNeg_int, fIx_lst, fIx_tup, fLen_lst, fLen_tup, fAbs_int, fInt1_int, fInt1_bl, fGcd_int, fTuple_lst, fTuple_tup, fList_lst, fList_tup, fTru_bl, fTru_lst, fTru_tup, fIsB_bl, atI_0, atI_1, ty_int, ty_bl, ty_lst, ty_tup, ty_str, ty_non, List.map_cons, List.map_nil, List.length_cons, List.length_nil, List.replicate, List.cons_append, List.nil_append, List.getElem?_cons_zero, List.getElem?_cons_succ, List.set_cons_zero, List.set_cons_succ, List.zip_cons_cons, List.zip_nil_right, List.zip_nil_left, Option.some.injEq, exists_eq_left', exists_eq_left, Nat.reduceAdd, Nat.reduceSub, Nat.reduceEqDiff, PyData.bool.injEq, PyData.int.injEq, PyData.list.injEq, PyData.tuple.injEq, if_true, if_false, reduceIte, true_and, and_true, decide_true, decide_false, Bool.false_eq_true, ok_eCh_i])
  by_cases h2 : 2 ≤ cnt lo hi (u (3 * e + j))
  · by_cases h10 : cnt lo hi (u (3 * e + j)) ≤ 10
    · have ho : okI lo hi (3 * e + j) = true := by unfold M5.okI; rw [decide_eq_true h2, decide_eq_true h10]; rfl
      simp only [h2, h10, decide_true, if_true, ho]
      (try simp only [fEq_int, fNe_int, ok_eK, ok_lNil, ok_lCons, ok_e2, ok_e1, ok_eF, ok_eTup, ok_nLst, ok_eN, ok_mB, ok_mTru, ok_mNot, ok_mAnd, ok_mOr, ok_eAnd, ok_eOr, ok_eNot, ok_eIf, ok_eIsi, ok_eIsi2, ok_eTyC, ok_eCall, ok_eCallK, ok_oNo, ok_oAt, ok_eSl, ok_iOf, ok_iOfT, ok_iRg1, oks_sNx, oks_sSeq, oks_sSet, oks_sOwn, oks_sDrop, oks_sRet, oks_sIf, oks_sAsg, oks_sPar, oks_sFor, ok_runD, ok_some, oks_some, startE, eV, setsE, Tg.parts, fAdd_int, fAdd_lst, fAdd_tup, fSub_int, fMul_int, fDiv_int, fMod_int, fPow_int, fLt_int, fLe_int, fGt_int, fGe_int, fNeg_int, fIx_lst, fIx_tup, fLen_lst, fLen_tup, fAbs_int, fInt1_int, fInt1_bl, fGcd_int, fTuple_lst, fTuple_tup, fList_lst, fList_tup, fTru_bl, fTru_lst, fTru_tup, fIsB_bl, atI_0, atI_1, ty_int, ty_bl, ty_lst, ty_tup, ty_str, ty_non, List.map_cons, List.map_nil, List.length_cons, List.length_nil, List.replicate, List.cons_append, List.nil_append, List.getElem?_cons_zero, List.getElem?_cons_succ, List.set_cons_zero, List.set_cons_succ, List.zip_cons_cons, List.zip_nil_right, List.zip_nil_left, Option.some.injEq, exists_eq_left', exists_eq_left, Nat.reduceAdd, Nat.reduceSub, Nat.reduceEqDiff, PyData.bool.injEq, PyData.int.injEq, PyData.list.injEq, PyData.tuple.injEq, if_true, if_false, reduceIte, true_and, and_true, decide_true, decide_false, Bool.false_eq_true, oks_sApp, z3, List.length_map, zl])
      refine ⟨_, rfl, by rw [List.length_map]; exact zl, .val (fr (u (3 * e + j))), .val (.int (fst lo (u (3 * e + j)))), .val (.int (cnt lo hi (u (3 * e + j)))), ?_⟩
      show _ = ESt lo hi m _ _ _ _ _ _
      simp only [ESt, List.map_append]
      rfl
    · have ho : okI lo hi (3 * e + j) = false := by unfold M5.okI; rw [decide_eq_false h10, Bool.and_false]
      simp only [h2, h10, decide_true, decide_false, if_true, ho, Bool.false_eq_true, if_false, List.append_nil]
      (try simp only [fEq_int, fNe_int, ok_eK, ok_lNil, ok_lCons, ok_e2, ok_e1, ok_eF, ok_eTup, ok_nLst, ok_eN, ok_mB, ok_mTru, ok_mNot, ok_mAnd, ok_mOr, ok_eAnd, ok_eOr, ok_eNot, ok_eIf, ok_eIsi, ok_eIsi2, ok_eTyC, ok_eCall, ok_eCallK, ok_oNo, ok_oAt, ok_eSl, ok_iOf, ok_iOfT, ok_iRg1, oks_sNx, oks_sSeq, oks_sSet, oks_sOwn, oks_sDrop, oks_sRet, oks_sIf, oks_sAsg, oks_sPar, oks_sFor, ok_runD, ok_some, oks_some, startE, eV, setsE, Tg.parts, fAdd_int, fAdd_lst, fAdd_tup, fSub_int, fMul_int, fDiv_int, fMod_int, fPow_int, fLt_int, fLe_int, fGt_int, fGe_int, fNeg_int, fIx_lst, fIx_tup, fLen_lst, fLen_tup, fAbs_int, fInt1_int, fInt1_bl, fGcd_int, fTuple_lst, fTuple_tup, fList_lst, fList_tup, fTru_bl, fTru_lst, fTru_tup, fIsB_bl, atI_0, atI_1, ty_int, ty_bl, ty_lst, ty_tup, ty_str, ty_non, List.map_cons, List.map_nil, List.length_cons, List.length_nil, List.replicate, List.cons_append, List.nil_append, List.getElem?_cons_zero, List.getElem?_cons_succ, List.set_cons_zero, List.set_cons_succ, List.zip_cons_cons, List.zip_nil_right, List.zip_nil_left, Option.some.injEq, exists_eq_left', exists_eq_left, Nat.reduceAdd, Nat.reduceSub, Nat.reduceEqDiff, PyData.bool.injEq, PyData.int.injEq, PyData.list.injEq, PyData.tuple.injEq, if_true, if_false, reduceIte, true_and, and_true, decide_true, decide_false, Bool.false_eq_true])
      exact ⟨_, _, _, rfl⟩
  · have ho : okI lo hi (3 * e + j) = false := by unfold M5.okI; rw [decide_eq_false h2, Bool.false_and]
    simp only [h2, decide_false, ho, Bool.false_eq_true, if_false, List.append_nil]
    (try simp only [fEq_int, fNe_int, ok_eK, ok_lNil, ok_lCons, ok_e2, ok_e1, ok_eF, ok_eTup, ok_nLst, ok_eN, ok_mB, ok_mTru, ok_mNot, ok_mAnd, ok_mOr, ok_eAnd, ok_eOr, ok_eNot, ok_eIf, ok_eIsi, ok_eIsi2, ok_eTyC, ok_eCall, ok_eCallK, ok_oNo, ok_oAt, ok_eSl, ok_iOf, ok_iOfT, ok_iRg1, oks_sNx, oks_sSeq, oks_sSet, oks_sOwn, oks_sDrop, oks_sRet, oks_sIf, oks_sAsg, oks_sPar, oks_sFor, ok_runD, ok_some, oks_some, startE, eV, setsE, Tg.parts, fAdd_int, fAdd_lst, fAdd_tup, fSub_int, fMul_int, fDiv_int, fMod_int, fPow_int, fLt_int, fLe_int, fGt_int, fGe_int, fNeg_int, fIx_lst, fIx_tup, fLen_lst, fLen_tup, fAbs_int, fInt1_int, fInt1_bl, fGcd_int, fTuple_lst, fTuple_tup, fList_lst, fList_tup, fTru_bl, fTru_lst, fTru_tup, fIsB_bl, atI_0, atI_1, ty_int, ty_bl, ty_lst, ty_tup, ty_str, ty_non, List.map_cons, List.map_nil, List.length_cons, List.length_nil, List.replicate, List.cons_append, List.nil_append, List.getElem?_cons_zero, List.getElem?_cons_succ, List.set_cons_zero, List.set_cons_succ, List.zip_cons_cons, List.zip_nil_right, List.zip_nil_left, Option.some.injEq, exists_eq_left', exists_eq_left, Nat.reduceAdd, Nat.reduceSub, Nat.reduceEqDiff, PyData.bool.injEq, PyData.int.injEq, PyData.list.injEq, PyData.tuple.injEq, if_true, if_false, reduceIte, true_and, and_true, decide_true, decide_false, Bool.false_eq_true])
    exact ⟨_, _, _, rfl⟩
theorem steps_ok (hd : Sz 420 (hi - lo)) (h : lo < hi) (g : G) : ∃ m : Int, -130 ≤ m ∧ m ≤ 130 ∧ (∀ i, okI lo hi i = true → 3 * (m - 2) ≤ i ∧ i < 3 * (m - 2) + (12 : Nat)) ∧ F_steps [fr lo, fr hi] g = some (.list ((okL lo hi (3 * (m - 2)) 12).map (trip lo hi)), g) := by
  have hp : 0 < hi - lo := by grind
  obtain ⟨m, e1, n1, n2, m1, m2⟩ := near_ok hp hd g
  refine ⟨m, m1, m2, M5.progwin n1 n2, ?_⟩
  refine Ok.eq ?_
  unfold F_steps m_steps
  rw [ok_runD]
  refine oks_seqI (P := fun E' g' => g' = g ∧ E' = [.val (fr lo), .val (fr hi), .val (.int m), .no, .no, .no, .no, .no, .no]) ?_ ?_
  · (try simp only [fEq_int, fNe_int, ok_eK, ok_lNil, ok_lCons, ok_e2, ok_e1, ok_eF, ok_eTup, ok_nLst, ok_eN, ok_mB, ok_mTru, ok_mNot, ok_mAnd, ok_mOr, ok_eAnd, ok_eOr, ok_eNot, ok_eIf, ok_eIsi, ok_eIsi2, ok_eTyC, ok_eCall, ok_eCallK, ok_oNo, ok_oAt, ok_eSl, ok_iOf, ok_iOfT, ok_iRg1, oks_sNx, oks_sSeq, oks_sSet, oks_sOwn, oks_sDrop, oks_sRet, oks_sIf, oks_sAsg, oks_sPar, oks_sFor, ok_runD, ok_some, oks_some, startE, eV, setsE, Tg.parts, fAdd_int, fAdd_lst, fAdd_tup, fSub_int, fMul_int, fDiv_int, fMod_int, fPow_int, fLt_int, fLe_int, fGt_int, fGe_int, fNeg_int, fIx_lst, fIx_tup, fLen_lst, fLen_tup, fAbs_int, fInt1_int, fInt1_bl, fGcd_int, fTuple_lst, fTuple_tup, fList_lst, fList_tup, fTru_bl, fTru_lst, fTru_tup, fIsB_bl, atI_0, atI_1, ty_int, ty_bl, ty_lst, ty_tup, ty_str, ty_non, List.map_cons, List.map_nil, List.length_cons, List.length_nil, List.replicate, List.cons_append, List.nil_append, List.getElem?_cons_zero, List.getElem?_cons_succ, List.set_cons_zero, List.set_cons_succ, List.zip_cons_cons, List.zip_nil_right, List.zip_nil_left, Option.some.injEq, exists_eq_left', exists_eq_left, Nat.reduceAdd, Nat.reduceSub, Nat.reduceEqDiff, PyData.bool.injEq, PyData.int.injEq, PyData.list.injEq, PyData.tuple.injEq, if_true, if_false, reduceIte, true_and, and_true, decide_true, decide_false, Bool.false_eq_true])
    rw [ok_eq (minus_ok hhi hlo (by decide) (by decide) g)]
    (try simp only [fEq_int, fNe_int, ok_eK, ok_lNil, ok_lCons, ok_e2, ok_e1, ok_eF, ok_eTup, ok_nLst, ok_eN, ok_mB, ok_mTru, ok_mNot, ok_mAnd, ok_mOr, ok_eAnd, ok_eOr, ok_eNot, ok_eIf, ok_eIsi, ok_eIsi2, ok_eTyC, ok_eCall, ok_eCallK, ok_oNo, ok_oAt, ok_eSl, ok_iOf, ok_iOfT, ok_iRg1, oks_sNx, oks_sSeq, oks_sSet, oks_sOwn, oks_sDrop, oks_sRet, oks_sIf, oks_sAsg, oks_sPar, oks_sFor, ok_runD, ok_some, oks_some, startE, eV, setsE, Tg.parts, fAdd_int, fAdd_lst, fAdd_tup, fSub_int, fMul_int, fDiv_int, fMod_int, fPow_int, fLt_int, fLe_int, fGt_int, fGe_int, fNeg_int, fIx_lst, fIx_tup, fLen_lst, fLen_tup, fAbs_int, fInt1_int, fInt1_bl, fGcd_int, fTuple_lst, fTuple_tup, fList_lst, fList_tup, fTru_bl, fTru_lst, fTru_tup, fIsB_bl, atI_0, atI_1, ty_int, ty_bl, ty_lst, ty_tup, ty_str, ty_non, List.map_cons, List.map_nil, List.length_cons, List.length_nil, List.replicate, List.cons_append, List.nil_append, List.getElem?_cons_zero, List.getElem?_cons_succ, List.set_cons_zero, List.set_cons_succ, List.zip_cons_cons, List.zip_nil_right, List.zip_nil_left, Option.some.injEq, exists_eq_left', exists_eq_left, Nat.reduceAdd, Nat.reduceSub, Nat.reduceEqDiff, PyData.bool.injEq, PyData.int.injEq, PyData.list.injEq, PyData.tuple.injEq, if_true, if_false, reduceIte, true_and, and_true, decide_true, decide_false, Bool.false_eq_true])
    rw [ok_eq e1]
    exact ⟨rfl, rfl⟩
  rintro _ g1 ⟨rfl, rfl⟩
  refine oks_seqI (P := fun E' g' => g' = g1 ∧ E' = ESt lo hi m [] .no .no .no .no .no) ?_ ?_
  · have z0 : 0 ≤ sizeLine := Nat.zero_le _
    (try simp only [fEq_int, fNe_int, ok_eK, ok_lNil, ok_lCons, ok_e2, ok_e1, ok_eF, ok_eTup, ok_nLst, ok_eN, ok_mB, ok_mTru, ok_mNot, ok_mAnd, ok_mOr, ok_eAnd, ok_eOr, ok_eNot, ok_eIf, ok_eIsi, ok_eIsi2, ok_eTyC, ok_eCall, ok_eCallK, ok_oNo, ok_oAt, ok_eSl, ok_iOf, ok_iOfT, ok_iRg1, oks_sNx, oks_sSeq, oks_sSet, oks_sOwn, oks_sDrop, oks_sRet, oks_sIf, oks_sAsg, oks_sPar, oks_sFor, ok_runD, ok_some, oks_some, startE, eV, setsE, Tg.parts, fAdd_int, fAdd_lst, fAdd_tup, fSub_int, fMul_int, fDiv_int, fMod_int, fPow_int, fLt_int, fLe_int, fGt_int, fGe_int, fNeg_int, fIx_lst, fIx_tup, fLen_lst, fLen_tup, fAbs_int, fInt1_int, fInt1_bl, fGcd_int, fTuple_lst, fTuple_tup, fList_lst, fList_tup, fTru_bl, fTru_lst, fTru_tup, fIsB_bl, atI_0, atI_1, ty_int, ty_bl, ty_lst, ty_tup, ty_str, ty_non, List.map_cons, List.map_nil, List.length_cons, List.length_nil, List.replicate, List.cons_append, List.nil_append, List.getElem?_cons_zero, List.getElem?_cons_succ, List.set_cons_zero, List.set_cons_succ, List.zip_cons_cons, List.zip_nil_right, List.zip_nil_left, Option.some.injEq, exists_eq_left', exists_eq_left, Nat.reduceAdd, Nat.reduceSub, Nat.reduceEqDiff, PyData.bool.injEq, PyData.int.injEq, PyData.list.injEq, PyData.tuple.injEq, if_true, if_false, reduceIte, true_and, and_true, decide_true, decide_false, Bool.false_eq_true, z0])
    exact ⟨by decide, rfl⟩
  rintro _ g2 ⟨rfl, rfl⟩
  refine oks_seqI (P := fun E' g' => g' = g2 ∧ ∃ x4 x5 x6 x7 x8, E' = ESt lo hi m (okL lo hi (3 * (m - 2)) 12) x4 x5 x6 x7 x8) ?_ ?_
  · have p62 : (1000 : Int) < 2 ^ 62 := by decide
    have z3 : 3 ≤ sizeLine := sz_ok (by decide)
    rw [oks_sFor, ok_iRg2]
    (try simp only [fEq_int, fNe_int, ok_eK, ok_lNil, ok_lCons, ok_e2, ok_e1, ok_eF, ok_eTup, ok_nLst, ok_eN, ok_mB, ok_mTru, ok_mNot, ok_mAnd, ok_mOr, ok_eAnd, ok_eOr, ok_eNot, ok_eIf, ok_eIsi, ok_eIsi2, ok_eTyC, ok_eCall, ok_eCallK, ok_oNo, ok_oAt, ok_eSl, ok_iOf, ok_iOfT, ok_iRg1, oks_sNx, oks_sSeq, oks_sSet, oks_sOwn, oks_sDrop, oks_sRet, oks_sIf, oks_sAsg, oks_sPar, oks_sFor, ok_runD, ok_some, oks_some, startE, eV, setsE, Tg.parts, fAdd_int, fAdd_lst, fAdd_tup, fSub_int, fMul_int, fDiv_int, fMod_int, fPow_int, fLt_int, fLe_int, fGt_int, fGe_int, fNeg_int, fIx_lst, fIx_tup, fLen_lst, fLen_tup, fAbs_int, fInt1_int, fInt1_bl, fGcd_int, fTuple_lst, fTuple_tup, fList_lst, fList_tup, fTru_bl, fTru_lst, fTru_tup, fIsB_bl, atI_0, atI_1, ty_int, ty_bl, ty_lst, ty_tup, ty_str, ty_non, List.map_cons, List.map_nil, List.length_cons, List.length_nil, List.replicate, List.cons_append, List.nil_append, List.getElem?_cons_zero, List.getElem?_cons_succ, List.set_cons_zero, List.set_cons_succ, List.zip_cons_cons, List.zip_nil_right, List.zip_nil_left, Option.some.injEq, exists_eq_left', exists_eq_left, Nat.reduceAdd, Nat.reduceSub, Nat.reduceEqDiff, PyData.bool.injEq, PyData.int.injEq, PyData.list.injEq, PyData.tuple.injEq, if_true, if_false, reduceIte, true_and, and_true, decide_true, decide_false, Bool.false_eq_true])
    refine ⟨m - 2, m + 2, rfl, by omega, ?_⟩
    rw [show (m + 2 - (m - 2)).toNat = 4 by omega]
    unfold intsD
    refine (forL_0 (I := fun j E' g' => g' = g2 ∧ ∃ x4 x5 x6 x7 x8, E' = ESt lo hi m (okL lo hi (3 * (m - 2)) (3 * j)) x4 x5 x6 x7 x8) (fun i => .int (m - 2 + (i : Int))) 4 (fun j hj E' g' ⟨hg, x4, x5, x6, x7, x8, hE⟩ => ?_) ⟨rfl, _, _, _, _, _, rfl⟩)
    subst hg; subst hE
    refine ⟨[(4, .int (m - 2 + j))], rfl, ?_⟩
    show OkS (sFor (.one 5) _ _ (ESt lo hi m (okL lo hi (3 * (m - 2)) (3 * j)) (.val (.int (m - 2 + j))) x5 x6 x7 x8) g') _
    rw [oks_sFor]
    (try simp only [fEq_int, fNe_int, ok_eK, ok_lNil, ok_lCons, ok_e2, ok_e1, ok_eF, ok_eTup, ok_nLst, ok_eN, ok_mB, ok_mTru, ok_mNot, ok_mAnd, ok_mOr, ok_eAnd, ok_eOr, ok_eNot, ok_eIf, ok_eIsi, ok_eIsi2, ok_eTyC, ok_eCall, ok_eCallK, ok_oNo, ok_oAt, ok_eSl, ok_iOf, ok_iOfT, ok_iRg1, oks_sNx, oks_sSeq, oks_sSet, oks_sOwn, oks_sDrop, oks_sRet, oks_sIf, oks_sAsg, oks_sPar, oks_sFor, ok_runD, ok_some, oks_some, startE, eV, setsE, Tg.parts, fAdd_int, fAdd_lst, fAdd_tup, fSub_int, fMul_int, fDiv_int, fMod_int, fPow_int, fLt_int, fLe_int, fGt_int, fGe_int, fNeg_int, fIx_lst, fIx_tup, fLen_lst, fLen_tup, fAbs_int, fInt1_int, fInt1_bl, fGcd_int, fTuple_lst, fTuple_tup, fList_lst, fList_tup, fTru_bl, fTru_lst, fTru_tup, fIsB_bl, atI_0, atI_1, ty_int, ty_bl, ty_lst, ty_tup, ty_str, ty_non, List.map_cons, List.map_nil, List.length_cons, List.length_nil, List.replicate, List.cons_append, List.nil_append, List.getElem?_cons_zero, List.getElem?_cons_succ, List.set_cons_zero, List.set_cons_succ, List.zip_cons_cons, List.zip_nil_right, List.zip_nil_left, Option.some.injEq, exists_eq_left', exists_eq_left, Nat.reduceAdd, Nat.reduceSub, Nat.reduceEqDiff, PyData.bool.injEq, PyData.int.injEq, PyData.list.injEq, PyData.tuple.injEq, if_true, if_false, reduceIte, true_and, and_true, decide_true, decide_false, Bool.false_eq_true, z3])
    refine (forL_0 (I := fun t E' g'' => g'' = g' ∧ ∃ x5 x6 x7 x8, E' = ESt lo hi m (okL lo hi (3 * (m - 2)) (3 * j + t)) (.val (.int (m - 2 + j))) x5 x6 x7 x8) (fun i => .int (dN i)) 3 (fun t ht E' g'' ⟨hg, x5, x6, x7, x8, hE⟩ => ?_) ⟨rfl, _, _, _, _, rfl⟩).mono fun r E' g'' ⟨h1, h2, x5, x6, x7, x8, h3⟩ => ⟨h1, h2, _, _, _, _, _, h3⟩
    subst hg; subst hE
    refine ⟨[(5, .int (dN t))], rfl, ?_⟩
    have hl := okL_len lo hi (3 * (m - 2)) (3 * j + t)
    have st := st_turn hlo hhi (m := m) (e := m - 2 + j) (by omega) ht (L := okL lo hi (3 * (m - 2)) (3 * j + t)) (by omega) x6 x7 x8 g''
    refine st.mono fun r E' g3 ⟨h1, h4, y6, y7, y8, h2⟩ => ⟨h1, h4, .val (.int (dN t)), y6, y7, y8, h2.trans ?_⟩
    rw [show 3 * j + (t + 1) = (3 * j + t) + 1 by omega, okL_succ, show 3 * (m - 2) + ((3 * j + t : Nat) : Int) = 3 * (m - 2 + j) + t by omega]
  rintro _ g3 ⟨rfl, x4, x5, x6, x7, x8, rfl⟩
  (try simp only [fEq_int, fNe_int, ok_eK, ok_lNil, ok_lCons, ok_e2, ok_e1, ok_eF, ok_eTup, ok_nLst, ok_eN, ok_mB, ok_mTru, ok_mNot, ok_mAnd, ok_mOr, ok_eAnd, ok_eOr, ok_eNot, ok_eIf, ok_eIsi, ok_eIsi2, ok_eTyC, ok_eCall, ok_eCallK, ok_oNo, ok_oAt, ok_eSl, ok_iOf, ok_iOfT, ok_iRg1, oks_sNx, oks_sSeq, oks_sSet, oks_sOwn, oks_sDrop, oks_sRet, oks_sIf, oks_sAsg, oks_sPar, oks_sFor, ok_runD, ok_some, oks_some, startE, eV, setsE, Tg.parts, fAdd_int, fAdd_lst, fAdd_tup, fSub_int, fMul_int, fDiv_int, fMod_int, fPow_int, fLt_int, fLe_int, fGt_int, fGe_int, fNeg_int, fIx_lst, fIx_tup, fLen_lst, fLen_tup, fAbs_int, fInt1_int, fInt1_bl, fGcd_int, fTuple_lst, fTuple_tup, fList_lst, fList_tup, fTru_bl, fTru_lst, fTru_tup, fIsB_bl, atI_0, atI_1, ty_int, ty_bl, ty_lst, ty_tup, ty_str, ty_non, List.map_cons, List.map_nil, List.length_cons, List.length_nil, List.replicate, List.cons_append, List.nil_append, List.getElem?_cons_zero, List.getElem?_cons_succ, List.set_cons_zero, List.set_cons_succ, List.zip_cons_cons, List.zip_nil_right, List.zip_nil_left, Option.some.injEq, exists_eq_left', exists_eq_left, Nat.reduceAdd, Nat.reduceSub, Nat.reduceEqDiff, PyData.bool.injEq, PyData.int.injEq, PyData.list.injEq, PyData.tuple.injEq, if_true, if_false, reduceIte, true_and, and_true, decide_true, decide_false, Bool.false_eq_true])
/-! what is told of an axis -/
end
end K06

set_option Elab.async false
set_option linter.all false
set_option maxRecDepth 100000
set_option maxHeartbeats 4000000
namespace K06
open PySem PySem.Spec PyProof.Rows L2 DL
open M5 (pt u fl fst cnt okI win mid)
theorem ok_eAllG {tg : Tg} {ml : ML} {e : M} {vs : List Nat} {E : En} {g : G} {Q : D → G → Prop} (h : (vs.any (isOwn E) || !(tg.slots.all fun i => vs.contains i)) = false) :
    Ok (eAllG tg ml e vs E g) Q ↔ Ok (ml E g) fun ds g1 => Ok (allL tg e (wipeE E vs) ds g1) fun b g2 => Q (.bool b) g2 := by
  unfold eAllG
  rw [h, if_neg (by decide)]
  cases ml E g with
  | none => simp only [ok_none]
  | some p =>
    simp only [ok_some]
    cases allL tg e (wipeE E vs) p.1 p.2 with
    | none => simp only [ok_none]
    | some q => simp only [ok_some]
theorem checkf_ok (lo hi : Rat) (g : G) : F_check_fractions [.tuple [fr lo, fr hi]] g = some (.none, g) := by
  refine Ok.eq ?_
  unfold F_check_fractions m_check_fractions
  (try simp only [fEq_int, fNe_int, ok_eK, ok_lNil, ok_lCons, ok_e2, ok_e1, ok_eF, ok_eTup, ok_nLst, ok_eN, ok_mB, ok_mTru, ok_mNot, ok_mAnd, ok_mOr, ok_eAnd, ok_eOr, ok_eNot, ok_eIf, ok_eIsi, ok_eIsi2, ok_eTyC, ok_eCall, ok_eCallK, ok_oNo, ok_oAt, ok_eSl, ok_iOf, ok_iOfT, ok_iRg1, oks_sNx, oks_sSeq, oks_sSet, oks_sOwn, oks_sDrop, oks_sRet, oks_sIf, oks_sAsg, oks_sPar, oks_sFor, ok_runD, ok_some, oks_some, startE, eV, setsE, Tg.parts, fAdd_int, fAdd_lst, fAdd_tup, fSub_int, fMul_int, fDiv_int, fMod_int, fPow_int, fLt_int, fLe_int, fGt_int, fGe_int, fNeg_int, fIx_lst, fIx_tup, fLen_lst, fLen_tup, fAbs_int, fInt1_int, fInt1_bl, fGcd_int, fTuple_lst, fTuple_tup, fList_lst, fList_tup, fTru_bl, fTru_lst, fTru_tup, fIsB_bl, atI_0, atI_1, ty_int, ty_bl, ty_lst, ty_tup, ty_str, ty_non, List.map_cons, List.map_nil, List.length_cons, List.length_nil, List.replicate, List.cons_append, List.nil_append, List.getElem?_cons_zero, List.getElem?_cons_succ, List.set_cons_zero, List.set_cons_succ, List.zip_cons_cons, List.zip_nil_right, List.zip_nil_left, Option.some.injEq, exists_eq_left', exists_eq_left, Nat.reduceAdd, Nat.reduceSub, Nat.reduceEqDiff, PyData.bool.injEq, PyData.int.injEq, PyData.list.injEq, PyData.tuple.injEq, if_true, if_false, reduceIte, true_and, and_true, decide_true, decide_false, Bool.false_eq_true])
  rw [ok_eAllG (by rfl)]
  (try simp only [fEq_int, fNe_int, ok_eK, ok_lNil, ok_lCons, ok_e2, ok_e1, ok_eF, ok_eTup, ok_nLst, ok_eN, ok_mB, ok_mTru, ok_mNot, ok_mAnd, ok_mOr, ok_eAnd, ok_eOr, ok_eNot, ok_eIf, ok_eIsi, ok_eIsi2, ok_eTyC, ok_eCall, ok_eCallK, ok_oNo, ok_oAt, ok_eSl, ok_iOf, ok_iOfT, ok_iRg1, oks_sNx, oks_sSeq, oks_sSet, oks_sOwn, oks_sDrop, oks_sRet, oks_sIf, oks_sAsg, oks_sPar, oks_sFor, ok_runD, ok_some, oks_some, startE, eV, setsE, Tg.parts, fAdd_int, fAdd_lst, fAdd_tup, fSub_int, fMul_int, fDiv_int, fMod_int, fPow_int, fLt_int, fLe_int, fGt_int, fGe_int, fNeg_int, fIx_lst, fIx_tup, fLen_lst, fLen_tup, fAbs_int, fInt1_int, fInt1_bl, fGcd_int, fTuple_lst, fTuple_tup, fList_lst, fList_tup, fTru_bl, fTru_lst, fTru_tup, fIsB_bl, atI_0, atI_1, ty_int, ty_bl, ty_lst, ty_tup, ty_str, ty_non, List.map_cons, List.map_nil, List.length_cons, List.length_nil, List.replicate, List.cons_append, List.nil_append, List.getElem?_cons_zero, List.getElem?_cons_succ, List.set_cons_zero, List.set_cons_succ, List.zip_cons_cons, List.zip_nil_right, List.zip_nil_left, Option.some.injEq, exists_eq_left', exists_eq_left, Nat.reduceAdd, Nat.reduceSub, Nat.reduceEqDiff, PyData.bool.injEq, PyData.int.injEq, PyData.list.injEq, PyData.tuple.injEq, if_true, if_false, reduceIte, true_and, and_true, decide_true, decide_false, Bool.false_eq_true])
  rw [ok_eq (allL_true [fr lo, fr hi] fun d hdd => by
    have hd := hdd
    have : ∃ r : Rat, d = fr r := by
      rcases List.mem_cons.mp hd with rfl | hd
      · exact ⟨_, rfl⟩
      · rcases List.mem_cons.mp hd with rfl | hd
        · exact ⟨_, rfl⟩
        · exact absurd hd (by simp)
    obtain ⟨r, rfl⟩ := this
    refine ⟨_, rfl, ?_⟩
    show eCall Fis_fraction (lCons (eV false 1) lNil) [.val (.tuple [fr lo, fr hi]), .val (fr r)] g = some (.bool true, g)
    refine Ok.eq ?_
    (try simp only [fEq_int, fNe_int, ok_eK, ok_lNil, ok_lCons, ok_e2, ok_e1, ok_eF, ok_eTup, ok_nLst, ok_eN, ok_mB, ok_mTru, ok_mNot, ok_mAnd, ok_mOr, ok_eAnd, ok_eOr, ok_eNot, ok_eIf, ok_eIsi, ok_eIsi2, ok_eTyC, ok_eCall, ok_eCallK, ok_oNo, ok_oAt, ok_eSl, ok_iOf, ok_iOfT, ok_iRg1, oks_sNx, oks_sSeq, oks_sSet, oks_sOwn, oks_sDrop, oks_sRet, oks_sIf, oks_sAsg, oks_sPar, oks_sFor, ok_runD, ok_some, oks_some, startE, eV, setsE, Tg.parts, fAdd_int, fAdd_lst, fAdd_tup, fSub_int, fMul_int, fDiv_int, fMod_int, fPow_int, fLt_int, fLe_int, fGt_int, fGe_int, fNeg_int, fIx_lst, fIx_tup, fLen_lst, fLen_tup, fAbs_int, fInt1_int, fInt1_bl, fGcd_int, fTuple_lst, fTuple_tup, fList_lst, fList_tup, fTru_bl, fTru_lst, fTru_tup, fIsB_bl, atI_0, atI_1, ty_int, ty_bl, ty_lst, ty_tup, ty_str, ty_non, List.map_cons, List.map_nil, List.length_cons, List.length_nil, List.replicate, List.cons_append, List.nil_append, List.getElem?_cons_zero, List.getElem?_cons_succ, List.set_cons_zero, List.set_cons_succ, List.zip_cons_cons, List.zip_nil_right, List.zip_nil_left, Option.some.injEq, exists_eq_left', exists_eq_left, Nat.reduceAdd, Nat.reduceSub, Nat.reduceEqDiff, PyData.bool.injEq, PyData.int.injEq, PyData.list.injEq, PyData.tuple.injEq, if_true, if_false, reduceIte, true_and, and_true, decide_true, decide_false, Bool.false_eq_true])
    rw [ok_eq (isf_fr r g)]
    exact ⟨rfl, rfl⟩)]
  (try simp only [fEq_int, fNe_int, ok_eK, ok_lNil, ok_lCons, ok_e2, ok_e1, ok_eF, ok_eTup, ok_nLst, ok_eN, ok_mB, ok_mTru, ok_mNot, ok_mAnd, ok_mOr, ok_eAnd, ok_eOr, ok_eNot, ok_eIf, ok_eIsi, ok_eIsi2, ok_eTyC, ok_eCall, ok_eCallK, ok_oNo, ok_oAt, ok_eSl, ok_iOf, ok_iOfT, ok_iRg1, oks_sNx, oks_sSeq, oks_sSet, oks_sOwn, oks_sDrop, oks_sRet, oks_sIf, oks_sAsg, oks_sPar, oks_sFor, ok_runD, ok_some, oks_some, startE, eV, setsE, Tg.parts, fAdd_int, fAdd_lst, fAdd_tup, fSub_int, fMul_int, fDiv_int, fMod_int, fPow_int, fLt_int, fLe_int, fGt_int, fGe_int, fNeg_int, fIx_lst, fIx_tup, fLen_lst, fLen_tup, fAbs_int, fInt1_int, fInt1_bl, fGcd_int, fTuple_lst, fTuple_tup, fList_lst, fList_tup, fTru_bl, fTru_lst, fTru_tup, fIsB_bl, atI_0, atI_1, ty_int, ty_bl, ty_lst, ty_tup, ty_str, ty_non, List.map_cons, List.map_nil, List.length_cons, List.length_nil, List.replicate, List.cons_append, List.nil_append, List.getElem?_cons_zero, List.getElem?_cons_succ, List.set_cons_zero, List.set_cons_succ, List.zip_cons_cons, List.zip_nil_right, List.zip_nil_left, Option.some.injEq, exists_eq_left', exists_eq_left, Nat.reduceAdd, Nat.reduceSub, Nat.reduceEqDiff, PyData.bool.injEq, PyData.int.injEq, PyData.list.injEq, PyData.tuple.injEq, if_true, if_false, reduceIte, true_and, and_true, decide_true, decide_false, Bool.false_eq_true, Bool.not_true])
section
variable {lo hi : Rat} (hlo : Sz 1000 lo) (hhi : Sz 1000 hi) (h : lo < hi)
include hlo hhi h
theorem checke_ok (g : G) : F_check_ends [fr lo, fr hi] g = some (.none, g) := by
  refine Ok.eq ?_
  unfold F_check_ends m_check_ends
  (try simp only [fEq_int, fNe_int, ok_eK, ok_lNil, ok_lCons, ok_e2, ok_e1, ok_eF, ok_eTup, ok_nLst, ok_eN, ok_mB, ok_mTru, ok_mNot, ok_mAnd, ok_mOr, ok_eAnd, ok_eOr, ok_eNot, ok_eIf, ok_eIsi, ok_eIsi2, ok_eTyC, ok_eCall, ok_eCallK, ok_oNo, ok_oAt, ok_eSl, ok_iOf, ok_iOfT, ok_iRg1, oks_sNx, oks_sSeq, oks_sSet, oks_sOwn, oks_sDrop, oks_sRet, oks_sIf, oks_sAsg, oks_sPar, oks_sFor, ok_runD, ok_some, oks_some, startE, eV, setsE, Tg.parts, fAdd_int, fAdd_lst, fAdd_tup, fSub_int, fMul_int, fDiv_int, fMod_int, fPow_int, fLt_int, fLe_int, fGt_int, fGe_int, fNeg_int, fIx_lst, fIx_tup, fLen_lst, fLen_tup, fAbs_int, fInt1_int, fInt1_bl, fGcd_int, fTuple_lst, fTuple_tup, fList_lst, fList_tup, fTru_bl, fTru_lst, fTru_tup, fIsB_bl, atI_0, atI_1, ty_int, ty_bl, ty_lst, ty_tup, ty_str, ty_non, List.map_cons, List.map_nil, List.length_cons, List.length_nil, List.replicate, List.cons_append, List.nil_append, List.getElem?_cons_zero, List.getElem?_cons_succ, List.set_cons_zero, List.set_cons_succ, List.zip_cons_cons, List.zip_nil_right, List.zip_nil_left, Option.some.injEq, exists_eq_left', exists_eq_left, Nat.reduceAdd, Nat.reduceSub, Nat.reduceEqDiff, PyData.bool.injEq, PyData.int.injEq, PyData.list.injEq, PyData.tuple.injEq, if_true, if_false, reduceIte, true_and, and_true, decide_true, decide_false, Bool.false_eq_true])
  rw [ok_eq (below_ok hlo hhi (by decide) (by decide) g)]
  (try simp only [fEq_int, fNe_int, ok_eK, ok_lNil, ok_lCons, ok_e2, ok_e1, ok_eF, ok_eTup, ok_nLst, ok_eN, ok_mB, ok_mTru, ok_mNot, ok_mAnd, ok_mOr, ok_eAnd, ok_eOr, ok_eNot, ok_eIf, ok_eIsi, ok_eIsi2, ok_eTyC, ok_eCall, ok_eCallK, ok_oNo, ok_oAt, ok_eSl, ok_iOf, ok_iOfT, ok_iRg1, oks_sNx, oks_sSeq, oks_sSet, oks_sOwn, oks_sDrop, oks_sRet, oks_sIf, oks_sAsg, oks_sPar, oks_sFor, ok_runD, ok_some, oks_some, startE, eV, setsE, Tg.parts, fAdd_int, fAdd_lst, fAdd_tup, fSub_int, fMul_int, fDiv_int, fMod_int, fPow_int, fLt_int, fLe_int, fGt_int, fGe_int, fNeg_int, fIx_lst, fIx_tup, fLen_lst, fLen_tup, fAbs_int, fInt1_int, fInt1_bl, fGcd_int, fTuple_lst, fTuple_tup, fList_lst, fList_tup, fTru_bl, fTru_lst, fTru_tup, fIsB_bl, atI_0, atI_1, ty_int, ty_bl, ty_lst, ty_tup, ty_str, ty_non, List.map_cons, List.map_nil, List.length_cons, List.length_nil, List.replicate, List.cons_append, List.nil_append, List.getElem?_cons_zero, List.getElem?_cons_succ, List.set_cons_zero, List.set_cons_succ, List.zip_cons_cons, List.zip_nil_right, List.zip_nil_left, Option.some.injEq, exists_eq_left', exists_eq_left, Nat.reduceAdd, Nat.reduceSub, Nat.reduceEqDiff, PyData.bool.injEq, PyData.int.injEq, PyData.list.injEq, PyData.tuple.injEq, if_true, if_false, reduceIte, true_and, and_true, decide_true, decide_false, Bool.false_eq_true, h, Bool.not_true])
def hdD : D → D
  | .tuple (x :: _) => x
  | d => d
/-- what is told of an axis: its steps -/
def stepsD (lo hi : Rat) (l : List Int) : D := .tuple (l.map fun i => fr (u i))
theorem within_ok (hd : Sz 420 (hi - lo)) (g : G) : ∃ m : Int, (∀ i, okI lo hi i = true → 3 * (m - 2) ≤ i ∧ i < 3 * (m - 2) + (12 : Nat)) ∧ Fsteps_within [fr lo, fr hi] g = some (stepsD lo hi (okL lo hi (3 * (m - 2)) 12), g) := by
  obtain ⟨m, m1, m2, m3, e⟩ := steps_ok hlo hhi hd h g
  refine ⟨m, m3, Ok.eq ?_⟩
  unfold Fsteps_within msteps_within
  have z2 : 2 ≤ sizeLine := sz_ok (by decide)
  have hl := okL_len lo hi (3 * (m - 2)) 12
  (try simp only [fEq_int, fNe_int, ok_eK, ok_lNil, ok_lCons, ok_e2, ok_e1, ok_eF, ok_eTup, ok_nLst, ok_eN, ok_mB, ok_mTru, ok_mNot, ok_mAnd, ok_mOr, ok_eAnd, ok_eOr, ok_eNot, ok_eIf, ok_eIsi, ok_eIsi2, ok_eTyC, ok_eCall, ok_eCallK, ok_oNo, ok_oAt, ok_eSl, ok_iOf, ok_iOfT, ok_iRg1, oks_sNx, oks_sSeq, oks_sSet, oks_sOwn, oks_sDrop, oks_sRet, oks_sIf, oks_sAsg, oks_sPar, oks_sFor, ok_runD, ok_some, oks_some, startE, eV, setsE, Tg.parts, fAdd_int, fAdd_lst, fAdd_tup, fSub_int, fMul_int, fDiv_int, fMod_int, fPow_int, fLt_int, fLe_int, fGt_int, fGe_int, fNeg_int, fIx_lst, fIx_tup, fLen_lst, fLen_tup, fAbs_int, fInt1_int, fInt1_bl, fGcd_int, fTuple_lst, fTuple_tup, fList_lst, fList_tup, fTru_bl, fTru_lst, fTru_tup, fIsB_bl, atI_0, atI_1, ty_int, ty_bl, ty_lst, ty_tup, ty_str, ty_non, List.map_cons, List.map_nil, List.length_cons, List.length_nil, List.replicate, List.cons_append, List.nil_append, List.getElem?_cons_zero, List.getElem?_cons_succ, List.set_cons_zero, List.set_cons_succ, List.zip_cons_cons, List.zip_nil_right, List.zip_nil_left, Option.some.injEq, exists_eq_left', exists_eq_left, Nat.reduceAdd, Nat.reduceSub, Nat.reduceEqDiff, PyData.bool.injEq, PyData.int.injEq, PyData.list.injEq, PyData.tuple.injEq, if_true, if_false, reduceIte, true_and, and_true, decide_true, decide_false, Bool.false_eq_true, z2])
  rw [ok_eq (checkf_ok lo hi g)]
  (try simp only [fEq_int, fNe_int, ok_eK, ok_lNil, ok_lCons, ok_e2, ok_e1, ok_eF, ok_eTup, ok_nLst, ok_eN, ok_mB, ok_mTru, ok_mNot, ok_mAnd, ok_mOr, ok_eAnd, ok_eOr, ok_eNot, ok_eIf, ok_eIsi, ok_eIsi2, ok_eTyC, ok_eCall, ok_eCallK, ok_oNo, ok_oAt, ok_eSl, ok_iOf, ok_iOfT, ok_iRg1, oks_sNx, oks_sSeq, oks_sSet, oks_sOwn, oks_sDrop, oks_sRet, oks_sIf, oks_sAsg, oks_sPar, oks_sFor, ok_runD, ok_some, oks_some, startE, eV, setsE, Tg.parts, fAdd_int, fAdd_lst, fAdd_tup, fSub_int, fMul_int, fDiv_int, fMod_int, fPow_int, fLt_int, fLe_int, fGt_int, fGe_int, fNeg_int, fIx_lst, fIx_tup, fLen_lst, fLen_tup, fAbs_int, fInt1_int, fInt1_bl, fGcd_int, fTuple_lst, fTuple_tup, fList_lst, fList_tup, fTru_bl, fTru_lst, fTru_tup, fIsB_bl, atI_0, atI_1, ty_int, ty_bl, ty_lst, ty_tup, ty_str, ty_non, List.map_cons, List.map_nil, List.length_cons, List.length_nil, List.replicate, List.cons_append, List.nil_append, List.getElem?_cons_zero, List.getElem?_cons_succ, List.set_cons_zero, List.set_cons_succ, List.zip_cons_cons, List.zip_nil_right, List.zip_nil_left, Option.some.injEq, exists_eq_left', exists_eq_left, Nat.reduceAdd, Nat.reduceSub, Nat.reduceEqDiff, PyData.bool.injEq, PyData.int.injEq, PyData.list.injEq, PyData.tuple.injEq, if_true, if_false, reduceIte, true_and, and_true, decide_true, decide_false, Bool.false_eq_true])
  rw [ok_eq (checke_ok hlo hhi h g)]
  (try simp only [fEq_int, fNe_int, ok_eK, ok_lNil, ok_lCons, ok_e2, ok_e1, ok_eF, ok_eTup, ok_nLst, ok_eN, ok_mB, ok_mTru, ok_mNot, ok_mAnd, ok_mOr, ok_eAnd, ok_eOr, ok_eNot, ok_eIf, ok_eIsi, ok_eIsi2, ok_eTyC, ok_eCall, ok_eCallK, ok_oNo, ok_oAt, ok_eSl, ok_iOf, ok_iOfT, ok_iRg1, oks_sNx, oks_sSeq, oks_sSet, oks_sOwn, oks_sDrop, oks_sRet, oks_sIf, oks_sAsg, oks_sPar, oks_sFor, ok_runD, ok_some, oks_some, startE, eV, setsE, Tg.parts, fAdd_int, fAdd_lst, fAdd_tup, fSub_int, fMul_int, fDiv_int, fMod_int, fPow_int, fLt_int, fLe_int, fGt_int, fGe_int, fNeg_int, fIx_lst, fIx_tup, fLen_lst, fLen_tup, fAbs_int, fInt1_int, fInt1_bl, fGcd_int, fTuple_lst, fTuple_tup, fList_lst, fList_tup, fTru_bl, fTru_lst, fTru_tup, fIsB_bl, atI_0, atI_1, ty_int, ty_bl, ty_lst, ty_tup, ty_str, ty_non, List.map_cons, List.map_nil, List.length_cons, List.length_nil, List.replicate, List.cons_append, List.nil_append, List.getElem?_cons_zero, List.getElem?_cons_succ, List.set_cons_zero, List.set_cons_succ, List.zip_cons_cons, List.zip_nil_right, List.zip_nil_left, Option.some.injEq, exists_eq_left', exists_eq_left, Nat.reduceAdd, Nat.reduceSub, Nat.reduceEqDiff, PyData.bool.injEq, PyData.int.injEq, PyData.list.injEq, PyData.tuple.injEq, if_true, if_false, reduceIte, true_and, and_true, decide_true, decide_false, Bool.false_eq_true])
  rw [ok_nLc (by rfl)]
  (try simp only [fEq_int, fNe_int, ok_eK, ok_lNil, ok_lCons, ok_e2, ok_e1, ok_eF, ok_eTup, ok_nLst, ok_eN, ok_mB, ok_mTru, ok_mNot, ok_mAnd, ok_mOr, ok_eAnd, ok_eOr, ok_eNot, ok_eIf, ok_eIsi, ok_eIsi2, ok_eTyC, ok_eCall, ok_eCallK, ok_oNo, ok_oAt, ok_eSl, ok_iOf, ok_iOfT, ok_iRg1, oks_sNx, oks_sSeq, oks_sSet, oks_sOwn, oks_sDrop, oks_sRet, oks_sIf, oks_sAsg, oks_sPar, oks_sFor, ok_runD, ok_some, oks_some, startE, eV, setsE, Tg.parts, fAdd_int, fAdd_lst, fAdd_tup, fSub_int, fMul_int, fDiv_int, fMod_int, fPow_int, fLt_int, fLe_int, fGt_int, fGe_int, fNeg_int, fIx_lst, fIx_tup, fLen_lst, fLen_tup, fAbs_int, fInt1_int, fInt1_bl, fGcd_int, fTuple_lst, fTuple_tup, fList_lst, fList_tup, fTru_bl, fTru_lst, fTru_tup, fIsB_bl, atI_0, atI_1, ty_int, ty_bl, ty_lst, ty_tup, ty_str, ty_non, List.map_cons, List.map_nil, List.length_cons, List.length_nil, List.replicate, List.cons_append, List.nil_append, List.getElem?_cons_zero, List.getElem?_cons_succ, List.set_cons_zero, List.set_cons_succ, List.zip_cons_cons, List.zip_nil_right, List.zip_nil_left, Option.some.injEq, exists_eq_left', exists_eq_left, Nat.reduceAdd, Nat.reduceSub, Nat.reduceEqDiff, PyData.bool.injEq, PyData.int.injEq, PyData.list.injEq, PyData.tuple.injEq, if_true, if_false, reduceIte, true_and, and_true, decide_true, decide_false, Bool.false_eq_true])
  rw [ok_eq e]
  (try simp only [fEq_int, fNe_int, ok_eK, ok_lNil, ok_lCons, ok_e2, ok_e1, ok_eF, ok_eTup, ok_nLst, ok_eN, ok_mB, ok_mTru, ok_mNot, ok_mAnd, ok_mOr, ok_eAnd, ok_eOr, ok_eNot, ok_eIf, ok_eIsi, ok_eIsi2, ok_eTyC, ok_eCall, ok_eCallK, ok_oNo, ok_oAt, ok_eSl, ok_iOf, ok_iOfT, ok_iRg1, oks_sNx, oks_sSeq, oks_sSet, oks_sOwn, oks_sDrop, oks_sRet, oks_sIf, oks_sAsg, oks_sPar, oks_sFor, ok_runD, ok_some, oks_some, startE, eV, setsE, Tg.parts, fAdd_int, fAdd_lst, fAdd_tup, fSub_int, fMul_int, fDiv_int, fMod_int, fPow_int, fLt_int, fLe_int, fGt_int, fGe_int, fNeg_int, fIx_lst, fIx_tup, fLen_lst, fLen_tup, fAbs_int, fInt1_int, fInt1_bl, fGcd_int, fTuple_lst, fTuple_tup, fList_lst, fList_tup, fTru_bl, fTru_lst, fTru_tup, fIsB_bl, atI_0, atI_1, ty_int, ty_bl, ty_lst, ty_tup, ty_str, ty_non, List.map_cons, List.map_nil, List.length_cons, List.length_nil, List.replicate, List.cons_append, List.nil_append, List.getElem?_cons_zero, List.getElem?_cons_succ, List.set_cons_zero, List.set_cons_succ, List.zip_cons_cons, List.zip_nil_right, List.zip_nil_left, Option.some.injEq, exists_eq_left', exists_eq_left, Nat.reduceAdd, Nat.reduceSub, Nat.reduceEqDiff, PyData.bool.injEq, PyData.int.injEq, PyData.list.injEq, PyData.tuple.injEq, if_true, if_false, reduceIte, true_and, and_true, decide_true, decide_false, Bool.false_eq_true])
  refine ⟨by rw [List.length_map]; exact Nat.le_trans hl (sz_ok (by decide)), ?_⟩
  rw [ok_eq (lcL_map (φ := hdD) _ (fun d hd => ?_))]
  · (try simp only [fEq_int, fNe_int, ok_eK, ok_lNil, ok_lCons, ok_e2, ok_e1, ok_eF, ok_eTup, ok_nLst, ok_eN, ok_mB, ok_mTru, ok_mNot, ok_mAnd, ok_mOr, ok_eAnd, ok_eOr, ok_eNot, ok_eIf, ok_eIsi, ok_eIsi2, ok_eTyC, ok_eCall, ok_eCallK, ok_oNo, ok_oAt, ok_eSl, ok_iOf, ok_iOfT, ok_iRg1, oks_sNx, oks_sSeq, oks_sSet, oks_sOwn, oks_sDrop, oks_sRet, oks_sIf, oks_sAsg, oks_sPar, oks_sFor, ok_runD, ok_some, oks_some, startE, eV, setsE, Tg.parts, fAdd_int, fAdd_lst, fAdd_tup, fSub_int, fMul_int, fDiv_int, fMod_int, fPow_int, fLt_int, fLe_int, fGt_int, fGe_int, fNeg_int, fIx_lst, fIx_tup, fLen_lst, fLen_tup, fAbs_int, fInt1_int, fInt1_bl, fGcd_int, fTuple_lst, fTuple_tup, fList_lst, fList_tup, fTru_bl, fTru_lst, fTru_tup, fIsB_bl, atI_0, atI_1, ty_int, ty_bl, ty_lst, ty_tup, ty_str, ty_non, List.map_cons, List.map_nil, List.length_cons, List.length_nil, List.replicate, List.cons_append, List.nil_append, List.getElem?_cons_zero, List.getElem?_cons_succ, List.set_cons_zero, List.set_cons_succ, List.zip_cons_cons, List.zip_nil_right, List.zip_nil_left, Option.some.injEq, exists_eq_left', exists_eq_left, Nat.reduceAdd, Nat.reduceSub, Nat.reduceEqDiff, PyData.bool.injEq, PyData.int.injEq, PyData.list.injEq, PyData.tuple.injEq, if_true, if_false, reduceIte, true_and, and_true, decide_true, decide_false, Bool.false_eq_true])
    rw [List.map_map]
    rfl
  · obtain ⟨i, _, rfl⟩ := List.mem_map.mp hd
    exact ⟨_, rfl, rfl⟩
/-! the step that is nearest -/
def dst (lo hi : Rat) (w : Int) (i : Int) : Int := if cnt lo hi (u i) - w < 0 then -(cnt lo hi (u i) - w) else cnt lo hi (u i) - w
def valsD (lo s : Rat) (n : Nat) : List D := (List.range n).map fun (k : Nat) => fr (((fst lo s + (k : Int) : Int) : Rat) * s)
def row (lo hi : Rat) (i : Int) : D := .tuple [fr (u i), .tuple (valsD lo (u i) (cnt lo hi (u i)).toNat)]
omit hlo hhi h in
theorem dist_ok (w i : Int) (g : G) : F_distance [trip lo hi i, .int w] g = some (.int (dst lo hi w i), g) := by
  refine Ok.eq ?_
  unfold F_distance m_distance trip
  (try simp only [fEq_int, fNe_int, ok_eK, ok_lNil, ok_lCons, ok_e2, ok_e1, ok_eF, ok_eTup, ok_nLst, ok_eN, ok_mB, ok_mTru, ok_mNot, ok_mAnd, ok_mOr, ok_eAnd, ok_eOr, ok_eNot, ok_eIf, ok_eIsi, ok_eIsi2, ok_eTyC, ok_eCall, ok_eCallK, ok_oNo, ok_oAt, ok_eSl, ok_iOf, ok_iOfT, ok_iRg1, oks_sNx, oks_sSeq, oks_sSet, oks_sOwn, oks_sDrop, oks_sRet, oks_sIf, oks_sAsg, oks_sPar, oks_sFor, ok_runD, ok_some, oks_some, startE, eV, setsE, Tg.parts, fAdd_int, fAdd_lst, fAdd_tup, fSub_int, fMul_int, fDiv_int, fMod_int, fPow_int, fLt_int, fLe_int, fGt_int, fGe_int, fNeg_int, fIx_lst, fIx_tup, fLen_lst, fLen_tup, fAbs_int, fInt1_int, fInt1_bl, fGcd_int, fTuple_lst, fTuple_tup, fList_lst, fList_tup, fTru_bl, fTru_lst, fTru_tup, fIsB_bl, atI_0, atI_1, ty_int, ty_bl, ty_lst, ty_tup, ty_str, ty_non, List.map_cons, List.map_nil, List.length_cons, List.length_nil, List.replicate, List.cons_append, List.nil_append, List.getElem?_cons_zero, List.getElem?_cons_succ, List.set_cons_zero, List.set_cons_succ, List.zip_cons_cons, List.zip_nil_right, List.zip_nil_left, Option.some.injEq, exists_eq_left', exists_eq_left, Nat.reduceAdd, Nat.reduceSub, Nat.reduceEqDiff, PyData.bool.injEq, PyData.int.injEq, PyData.list.injEq, PyData.tuple.injEq, if_true, if_false, reduceIte, true_and, and_true, decide_true, decide_false, Bool.false_eq_true])
  first | rfl | exact ⟨rfl, rfl⟩
omit hhi h in
theorem fst_bd {i : Int} (hi : -450 ≤ i ∧ i ≤ 450) : (fst lo (u i)).natAbs < 2 ^ 1613 := by
  have us := u_sz hi
  unfold M5.fst M5.fl
  rw [Int.natAbs_neg, Int.fdiv_eq_ediv_of_nonneg _ (Int.mul_nonneg (by omega) (by have := M5.numpos (M5.u_pos i); omega))]
  refine Nat.lt_of_le_of_lt (Int.natAbs_ediv_le_natAbs _ _) ?_
  exact mul_bd hlo.neg.1 (den_bd us)
omit hhi h in
theorem val_ok {i : Int} (hi : -450 ≤ i ∧ i ≤ 450) (k : Nat) (hk : k ≤ 20) : Sz 1620 (((fst lo (u i) + (k : Int) : Int) : Rat)) := by
  have := fst_bd hlo hi
  have hk2 : ((k : Int)).natAbs < 2 ^ 1613 := by
    rw [Int.natAbs_natCast]
    exact Nat.lt_of_le_of_lt (show k ≤ 2 ^ 5 by omega) (Nat.pow_lt_pow_right (by decide) (by decide))
  refine ⟨?_, ?_⟩
  · rw [Rat.num_intCast]
    exact Nat.lt_of_lt_of_le (add_bd this hk2) (Nat.pow_le_pow_right (by decide) (by decide))
  · rw [Rat.den_intCast]
    exact Nat.one_lt_two_pow (by decide)
theorem ticks_ok (hd : Sz 420 (hi - lo)) {w : Int} (hw : 2 ≤ w ∧ w ≤ 10) (hne : ∃ i, okI lo hi i = true) (g : G) : ∃ (m x : Int) (l : List Int), (∀ i, okI lo hi i = true → 3 * (m - 2) ≤ i ∧ i < 3 * (m - 2) + (12 : Nat)) ∧ okL lo hi (3 * (m - 2)) 12 = x :: l ∧ Fticks [fr lo, fr hi, .int w] g = some (row lo hi (M5.bst (dst lo hi w) x l), g) := by
  obtain ⟨m, m1, m2, m3, e⟩ := steps_ok hlo hhi hd h g
  have z2 : 2 ≤ sizeLine := sz_ok (by decide)
  cases hL : okL lo hi (3 * (m - 2)) 12 with
  | nil =>
    obtain ⟨i, hii⟩ := hne
    have := m3 i hii
    have : i ∈ okL lo hi (3 * (m - 2)) 12 := by
      refine List.mem_filter.mpr ⟨?_, hii⟩
      unfold M5.win
      exact List.mem_map.mpr ⟨(i - 3 * (m - 2)).toNat, List.mem_range.mpr (by omega), by omega⟩
    rw [hL] at this
    exact absurd this (by simp)
  | cons x l =>
    refine ⟨m, x, l, m3, hL, ?_⟩
    rw [hL] at e
    refine Ok.eq ?_
    unfold Fticks mticks
    rw [ok_runD]
    refine oks_seqI (P := fun E' g' => g' = g ∧ E' = [.val (fr lo), .val (fr hi), .val (.int w), .no, .no, .no, .no, .no, .no, .no]) ?_ ?_
    · (try simp only [fEq_int, fNe_int, ok_eK, ok_lNil, ok_lCons, ok_e2, ok_e1, ok_eF, ok_eTup, ok_nLst, ok_eN, ok_mB, ok_mTru, ok_mNot, ok_mAnd, ok_mOr, ok_eAnd, ok_eOr, ok_eNot, ok_eIf, ok_eIsi, ok_eIsi2, ok_eTyC, ok_eCall, ok_eCallK, ok_oNo, ok_oAt, ok_eSl, ok_iOf, ok_iOfT, ok_iRg1, oks_sNx, oks_sSeq, oks_sSet, oks_sOwn, oks_sDrop, oks_sRet, oks_sIf, oks_sAsg, oks_sPar, oks_sFor, ok_runD, ok_some, oks_some, startE, eV, setsE, Tg.parts, fAdd_int, fAdd_lst, fAdd_tup, fSub_int, fMul_int, fDiv_int, fMod_int, fPow_int, fLt_int, fLe_int, fGt_int, fGe_int, fNeg_int, fIx_lst, fIx_tup, fLen_lst, fLen_tup, fAbs_int, fInt1_int, fInt1_bl, fGcd_int, fTuple_lst, fTuple_tup, fList_lst, fList_tup, fTru_bl, fTru_lst, fTru_tup, fIsB_bl, atI_0, atI_1, ty_int, ty_bl, ty_lst, ty_tup, ty_str, ty_non, List.map_cons, List.map_nil, List.length_cons, List.length_nil, List.replicate, List.cons_append, List.nil_append, List.getElem?_cons_zero, List.getElem?_cons_succ, List.set_cons_zero, List.set_cons_succ, List.zip_cons_cons, List.zip_nil_right, List.zip_nil_left, Option.some.injEq, exists_eq_left', exists_eq_left, Nat.reduceAdd, Nat.reduceSub, Nat.reduceEqDiff, PyData.bool.injEq, PyData.int.injEq, PyData.list.injEq, PyData.tuple.injEq, if_true, if_false, reduceIte, true_and, and_true, decide_true, decide_false, Bool.false_eq_true, z2])
      rw [ok_eq (checkf_ok lo hi g)]
      try exact ⟨rfl, rfl⟩
    rintro _ g1 ⟨rfl, rfl⟩
    refine oks_seqI (P := fun E' g' => g' = g1 ∧ E' = [.val (fr lo), .val (fr hi), .val (.int w), .no, .no, .no, .no, .no, .no, .no]) ?_ ?_
    · have hb : Fis_between [.int w, .int 2, .int 10] g1 = some (.bool true, g1) := by
        refine Ok.eq ?_
        unfold Fis_between mis_between
        (try simp only [fEq_int, fNe_int, ok_eK, ok_lNil, ok_lCons, ok_e2, ok_e1, ok_eF, ok_eTup, ok_nLst, ok_eN, ok_mB, ok_mTru, ok_mNot, ok_mAnd, ok_mOr, ok_eAnd, ok_eOr, ok_eNot, ok_eIf, ok_eIsi, ok_eIsi2, ok_eTyC, ok_eCall, ok_eCallK, ok_oNo, ok_oAt, ok_eSl, ok_iOf, ok_iOfT, ok_iRg1, oks_sNx, oks_sSeq, oks_sSet, oks_sOwn, oks_sDrop, oks_sRet, oks_sIf, oks_sAsg, oks_sPar, oks_sFor, ok_runD, ok_some, oks_some, startE, eV, setsE, Tg.parts, fAdd_int, fAdd_lst, fAdd_tup, fSub_int, fMul_int, fDiv_int, fMod_int, fPow_int, fLt_int, fLe_int, fGt_int, fGe_int, fNeg_int, fIx_lst, fIx_tup, fLen_lst, fLen_tup, fAbs_int, fInt1_int, fInt1_bl, fGcd_int, fTuple_lst, fTuple_tup, fList_lst, fList_tup, fTru_bl, fTru_lst, fTru_tup, fIsB_bl, atI_0, atI_1, ty_int, ty_bl, ty_lst, ty_tup, ty_str, ty_non, List.map_cons, List.map_nil, List.length_cons, List.length_nil, List.replicate, List.cons_append, List.nil_append, List.getElem?_cons_zero, List.getElem?_cons_succ, List.set_cons_zero, List.set_cons_succ, List.zip_cons_cons, List.zip_nil_right, List.zip_nil_left, Option.some.injEq, exists_eq_left', exists_eq_left, Nat.reduceAdd, Nat.reduceSub, Nat.reduceEqDiff, PyData.bool.injEq, PyData.int.injEq, PyData.list.injEq, PyData.tuple.injEq, if_true, if_false, reduceIte, true_and, and_true, decide_true, decide_false, Bool.false_eq_true, ok_eCh_i, hw.1, hw.2])
        try simp [fTru]
      (try simp only [fEq_int, fNe_int, ok_eK, ok_lNil, ok_lCons, ok_e2, ok_e1, ok_eF, ok_eTup, ok_nLst, ok_eN, ok_mB, ok_mTru, ok_mNot, ok_mAnd, ok_mOr, ok_eAnd, ok_eOr, ok_eNot, ok_eIf, ok_eIsi, ok_eIsi2, ok_eTyC, ok_eCall, ok_eCallK, ok_oNo, ok_oAt, ok_eSl, ok_iOf, ok_iOfT, ok_iRg1, oks_sNx, oks_sSeq, oks_sSet, oks_sOwn, oks_sDrop, oks_sRet, oks_sIf, oks_sAsg, oks_sPar, oks_sFor, ok_runD, ok_some, oks_some, startE, eV, setsE, Tg.parts, fAdd_int, fAdd_lst, fAdd_tup, fSub_int, fMul_int, fDiv_int, fMod_int, fPow_int, fLt_int, fLe_int, fGt_int, fGe_int, fNeg_int, fIx_lst, fIx_tup, fLen_lst, fLen_tup, fAbs_int, fInt1_int, fInt1_bl, fGcd_int, fTuple_lst, fTuple_tup, fList_lst, fList_tup, fTru_bl, fTru_lst, fTru_tup, fIsB_bl, atI_0, atI_1, ty_int, ty_bl, ty_lst, ty_tup, ty_str, ty_non, List.map_cons, List.map_nil, List.length_cons, List.length_nil, List.replicate, List.cons_append, List.nil_append, List.getElem?_cons_zero, List.getElem?_cons_succ, List.set_cons_zero, List.set_cons_succ, List.zip_cons_cons, List.zip_nil_right, List.zip_nil_left, Option.some.injEq, exists_eq_left', exists_eq_left, Nat.reduceAdd, Nat.reduceSub, Nat.reduceEqDiff, PyData.bool.injEq, PyData.int.injEq, PyData.list.injEq, PyData.tuple.injEq, if_true, if_false, reduceIte, true_and, and_true, decide_true, decide_false, Bool.false_eq_true])
      rw [ok_eq hb]
      (try simp only [fEq_int, fNe_int, ok_eK, ok_lNil, ok_lCons, ok_e2, ok_e1, ok_eF, ok_eTup, ok_nLst, ok_eN, ok_mB, ok_mTru, ok_mNot, ok_mAnd, ok_mOr, ok_eAnd, ok_eOr, ok_eNot, ok_eIf, ok_eIsi, ok_eIsi2, ok_eTyC, ok_eCall, ok_eCallK, ok_oNo, ok_oAt, ok_eSl, ok_iOf, ok_iOfT, ok_iRg1, oks_sNx, oks_sSeq, oks_sSet, oks_sOwn, oks_sDrop, oks_sRet, oks_sIf, oks_sAsg, oks_sPar, oks_sFor, ok_runD, ok_some, oks_some, startE, eV, setsE, Tg.parts, fAdd_int, fAdd_lst, fAdd_tup, fSub_int, fMul_int, fDiv_int, fMod_int, fPow_int, fLt_int, fLe_int, fGt_int, fGe_int, fNeg_int, fIx_lst, fIx_tup, fLen_lst, fLen_tup, fAbs_int, fInt1_int, fInt1_bl, fGcd_int, fTuple_lst, fTuple_tup, fList_lst, fList_tup, fTru_bl, fTru_lst, fTru_tup, fIsB_bl, atI_0, atI_1, ty_int, ty_bl, ty_lst, ty_tup, ty_str, ty_non, List.map_cons, List.map_nil, List.length_cons, List.length_nil, List.replicate, List.cons_append, List.nil_append, List.getElem?_cons_zero, List.getElem?_cons_succ, List.set_cons_zero, List.set_cons_succ, List.zip_cons_cons, List.zip_nil_right, List.zip_nil_left, Option.some.injEq, exists_eq_left', exists_eq_left, Nat.reduceAdd, Nat.reduceSub, Nat.reduceEqDiff, PyData.bool.injEq, PyData.int.injEq, PyData.list.injEq, PyData.tuple.injEq, if_true, if_false, reduceIte, true_and, and_true, decide_true, decide_false, Bool.false_eq_true, Bool.not_true])
      try trivial
    rintro _ g2 ⟨rfl, rfl⟩
    refine oks_seqI (P := fun E' g' => g' = g2 ∧ E' = [.val (fr lo), .val (fr hi), .val (.int w), .no, .no, .no, .no, .no, .no, .no]) ?_ ?_
    · (try simp only [fEq_int, fNe_int, ok_eK, ok_lNil, ok_lCons, ok_e2, ok_e1, ok_eF, ok_eTup, ok_nLst, ok_eN, ok_mB, ok_mTru, ok_mNot, ok_mAnd, ok_mOr, ok_eAnd, ok_eOr, ok_eNot, ok_eIf, ok_eIsi, ok_eIsi2, ok_eTyC, ok_eCall, ok_eCallK, ok_oNo, ok_oAt, ok_eSl, ok_iOf, ok_iOfT, ok_iRg1, oks_sNx, oks_sSeq, oks_sSet, oks_sOwn, oks_sDrop, oks_sRet, oks_sIf, oks_sAsg, oks_sPar, oks_sFor, ok_runD, ok_some, oks_some, startE, eV, setsE, Tg.parts, fAdd_int, fAdd_lst, fAdd_tup, fSub_int, fMul_int, fDiv_int, fMod_int, fPow_int, fLt_int, fLe_int, fGt_int, fGe_int, fNeg_int, fIx_lst, fIx_tup, fLen_lst, fLen_tup, fAbs_int, fInt1_int, fInt1_bl, fGcd_int, fTuple_lst, fTuple_tup, fList_lst, fList_tup, fTru_bl, fTru_lst, fTru_tup, fIsB_bl, atI_0, atI_1, ty_int, ty_bl, ty_lst, ty_tup, ty_str, ty_non, List.map_cons, List.map_nil, List.length_cons, List.length_nil, List.replicate, List.cons_append, List.nil_append, List.getElem?_cons_zero, List.getElem?_cons_succ, List.set_cons_zero, List.set_cons_succ, List.zip_cons_cons, List.zip_nil_right, List.zip_nil_left, Option.some.injEq, exists_eq_left', exists_eq_left, Nat.reduceAdd, Nat.reduceSub, Nat.reduceEqDiff, PyData.bool.injEq, PyData.int.injEq, PyData.list.injEq, PyData.tuple.injEq, if_true, if_false, reduceIte, true_and, and_true, decide_true, decide_false, Bool.false_eq_true])
      rw [ok_eq (checke_ok hlo hhi h g2)]
      try exact ⟨rfl, rfl⟩
    rintro _ g3 ⟨rfl, rfl⟩
    refine oks_seqI (P := fun E' g' => g' = g3 ∧ E' = [.val (fr lo), .val (fr hi), .val (.int w), .val (.list ((x :: l).map (trip lo hi))), .no, .no, .no, .no, .no, .no]) ?_ ?_
    · (try simp only [fEq_int, fNe_int, ok_eK, ok_lNil, ok_lCons, ok_e2, ok_e1, ok_eF, ok_eTup, ok_nLst, ok_eN, ok_mB, ok_mTru, ok_mNot, ok_mAnd, ok_mOr, ok_eAnd, ok_eOr, ok_eNot, ok_eIf, ok_eIsi, ok_eIsi2, ok_eTyC, ok_eCall, ok_eCallK, ok_oNo, ok_oAt, ok_eSl, ok_iOf, ok_iOfT, ok_iRg1, oks_sNx, oks_sSeq, oks_sSet, oks_sOwn, oks_sDrop, oks_sRet, oks_sIf, oks_sAsg, oks_sPar, oks_sFor, ok_runD, ok_some, oks_some, startE, eV, setsE, Tg.parts, fAdd_int, fAdd_lst, fAdd_tup, fSub_int, fMul_int, fDiv_int, fMod_int, fPow_int, fLt_int, fLe_int, fGt_int, fGe_int, fNeg_int, fIx_lst, fIx_tup, fLen_lst, fLen_tup, fAbs_int, fInt1_int, fInt1_bl, fGcd_int, fTuple_lst, fTuple_tup, fList_lst, fList_tup, fTru_bl, fTru_lst, fTru_tup, fIsB_bl, atI_0, atI_1, ty_int, ty_bl, ty_lst, ty_tup, ty_str, ty_non, List.map_cons, List.map_nil, List.length_cons, List.length_nil, List.replicate, List.cons_append, List.nil_append, List.getElem?_cons_zero, List.getElem?_cons_succ, List.set_cons_zero, List.set_cons_succ, List.zip_cons_cons, List.zip_nil_right, List.zip_nil_left, Option.some.injEq, exists_eq_left', exists_eq_left, Nat.reduceAdd, Nat.reduceSub, Nat.reduceEqDiff, PyData.bool.injEq, PyData.int.injEq, PyData.list.injEq, PyData.tuple.injEq, if_true, if_false, reduceIte, true_and, and_true, decide_true, decide_false, Bool.false_eq_true])
      rw [ok_eq e]
      try exact ⟨rfl, rfl⟩
    rintro _ g4 ⟨rfl, rfl⟩
    refine oks_seqI (P := fun E' g' => g' = g4 ∧ E' = [.val (fr lo), .val (fr hi), .val (.int w), .val (.list ((x :: l).map (trip lo hi))), .val (trip lo hi x), .no, .no, .no, .no, .no]) ?_ ?_
    · (try simp only [fEq_int, fNe_int, ok_eK, ok_lNil, ok_lCons, ok_e2, ok_e1, ok_eF, ok_eTup, ok_nLst, ok_eN, ok_mB, ok_mTru, ok_mNot, ok_mAnd, ok_mOr, ok_eAnd, ok_eOr, ok_eNot, ok_eIf, ok_eIsi, ok_eIsi2, ok_eTyC, ok_eCall, ok_eCallK, ok_oNo, ok_oAt, ok_eSl, ok_iOf, ok_iOfT, ok_iRg1, oks_sNx, oks_sSeq, oks_sSet, oks_sOwn, oks_sDrop, oks_sRet, oks_sIf, oks_sAsg, oks_sPar, oks_sFor, ok_runD, ok_some, oks_some, startE, eV, setsE, Tg.parts, fAdd_int, fAdd_lst, fAdd_tup, fSub_int, fMul_int, fDiv_int, fMod_int, fPow_int, fLt_int, fLe_int, fGt_int, fGe_int, fNeg_int, fIx_lst, fIx_tup, fLen_lst, fLen_tup, fAbs_int, fInt1_int, fInt1_bl, fGcd_int, fTuple_lst, fTuple_tup, fList_lst, fList_tup, fTru_bl, fTru_lst, fTru_tup, fIsB_bl, atI_0, atI_1, ty_int, ty_bl, ty_lst, ty_tup, ty_str, ty_non, List.map_cons, List.map_nil, List.length_cons, List.length_nil, List.replicate, List.cons_append, List.nil_append, List.getElem?_cons_zero, List.getElem?_cons_succ, List.set_cons_zero, List.set_cons_succ, List.zip_cons_cons, List.zip_nil_right, List.zip_nil_left, Option.some.injEq, exists_eq_left', exists_eq_left, Nat.reduceAdd, Nat.reduceSub, Nat.reduceEqDiff, PyData.bool.injEq, PyData.int.injEq, PyData.list.injEq, PyData.tuple.injEq, if_true, if_false, reduceIte, true_and, and_true, decide_true, decide_false, Bool.false_eq_true])
    rintro _ g5 ⟨rfl, rfl⟩
    refine oks_seqI (P := fun E' g' => g' = g5 ∧ ∃ y, E' = [.val (fr lo), .val (fr hi), .val (.int w), .val (.list ((x :: l).map (trip lo hi))), .val (trip lo hi (M5.bst (dst lo hi w) x l)), y, .no, .no, .no, .no]) ?_ ?_
    · rw [oks_sFor]
      (try simp only [fEq_int, fNe_int, ok_eK, ok_lNil, ok_lCons, ok_e2, ok_e1, ok_eF, ok_eTup, ok_nLst, ok_eN, ok_mB, ok_mTru, ok_mNot, ok_mAnd, ok_mOr, ok_eAnd, ok_eOr, ok_eNot, ok_eIf, ok_eIsi, ok_eIsi2, ok_eTyC, ok_eCall, ok_eCallK, ok_oNo, ok_oAt, ok_eSl, ok_iOf, ok_iOfT, ok_iRg1, oks_sNx, oks_sSeq, oks_sSet, oks_sOwn, oks_sDrop, oks_sRet, oks_sIf, oks_sAsg, oks_sPar, oks_sFor, ok_runD, ok_some, oks_some, startE, eV, setsE, Tg.parts, fAdd_int, fAdd_lst, fAdd_tup, fSub_int, fMul_int, fDiv_int, fMod_int, fPow_int, fLt_int, fLe_int, fGt_int, fGe_int, fNeg_int, fIx_lst, fIx_tup, fLen_lst, fLen_tup, fAbs_int, fInt1_int, fInt1_bl, fGcd_int, fTuple_lst, fTuple_tup, fList_lst, fList_tup, fTru_bl, fTru_lst, fTru_tup, fIsB_bl, atI_0, atI_1, ty_int, ty_bl, ty_lst, ty_tup, ty_str, ty_non, List.map_cons, List.map_nil, List.length_cons, List.length_nil, List.replicate, List.cons_append, List.nil_append, List.getElem?_cons_zero, List.getElem?_cons_succ, List.set_cons_zero, List.set_cons_succ, List.zip_cons_cons, List.zip_nil_right, List.zip_nil_left, Option.some.injEq, exists_eq_left', exists_eq_left, Nat.reduceAdd, Nat.reduceSub, Nat.reduceEqDiff, PyData.bool.injEq, PyData.int.injEq, PyData.list.injEq, PyData.tuple.injEq, if_true, if_false, reduceIte, true_and, and_true, decide_true, decide_false, Bool.false_eq_true])
      rw [← M5.fold_first]
      refine forL_fold (I := fun b E' g' => g' = g5 ∧ ∃ y, E' = [.val (fr lo), .val (fr hi), .val (.int w), .val (.list ((x :: l).map (trip lo hi))), .val (trip lo hi b), y, .no, .no, .no, .no]) (φ := trip lo hi) (x :: l) x _ _ (fun a ha b E' g' ⟨hg, y, hE⟩ => ?_) ⟨rfl, _, rfl⟩
      subst hg; subst hE
      refine ⟨[(5, trip lo hi a)], rfl, ?_⟩
      (try simp only [fEq_int, fNe_int, ok_eK, ok_lNil, ok_lCons, ok_e2, ok_e1, ok_eF, ok_eTup, ok_nLst, ok_eN, ok_mB, ok_mTru, ok_mNot, ok_mAnd, ok_mOr, ok_eAnd, ok_eOr, ok_eNot, ok_eIf, ok_eIsi, ok_eIsi2, ok_eTyC, ok_eCall, ok_eCallK, ok_oNo, ok_oAt, ok_eSl, ok_iOf, ok_iOfT, ok_iRg1, oks_sNx, oks_sSeq, oks_sSet, oks_sOwn, oks_sDrop, oks_sRet, oks_sIf, oks_sAsg, oks_sPar, oks_sFor, ok_runD, ok_some, oks_some, startE, eV, setsE, Tg.parts, fAdd_int, fAdd_lst, fAdd_tup, fSub_int, fMul_int, fDiv_int, fMod_int, fPow_int, fLt_int, fLe_int, fGt_int, fGe_int, fNeg_int, fIx_lst, fIx_tup, fLen_lst, fLen_tup, fAbs_int, fInt1_int, fInt1_bl, fGcd_int, fTuple_lst, fTuple_tup, fList_lst, fList_tup, fTru_bl, fTru_lst, fTru_tup, fIsB_bl, atI_0, atI_1, ty_int, ty_bl, ty_lst, ty_tup, ty_str, ty_non, List.map_cons, List.map_nil, List.length_cons, List.length_nil, List.replicate, List.cons_append, List.nil_append, List.getElem?_cons_zero, List.getElem?_cons_succ, List.set_cons_zero, List.set_cons_succ, List.zip_cons_cons, List.zip_nil_right, List.zip_nil_left, Option.some.injEq, exists_eq_left', exists_eq_left, Nat.reduceAdd, Nat.reduceSub, Nat.reduceEqDiff, PyData.bool.injEq, PyData.int.injEq, PyData.list.injEq, PyData.tuple.injEq, if_true, if_false, reduceIte, true_and, and_true, decide_true, decide_false, Bool.false_eq_true])
      rw [ok_eq (dist_ok w a g')]
      (try simp only [fEq_int, fNe_int, ok_eK, ok_lNil, ok_lCons, ok_e2, ok_e1, ok_eF, ok_eTup, ok_nLst, ok_eN, ok_mB, ok_mTru, ok_mNot, ok_mAnd, ok_mOr, ok_eAnd, ok_eOr, ok_eNot, ok_eIf, ok_eIsi, ok_eIsi2, ok_eTyC, ok_eCall, ok_eCallK, ok_oNo, ok_oAt, ok_eSl, ok_iOf, ok_iOfT, ok_iRg1, oks_sNx, oks_sSeq, oks_sSet, oks_sOwn, oks_sDrop, oks_sRet, oks_sIf, oks_sAsg, oks_sPar, oks_sFor, ok_runD, ok_some, oks_some, startE, eV, setsE, Tg.parts, fAdd_int, fAdd_lst, fAdd_tup, fSub_int, fMul_int, fDiv_int, fMod_int, fPow_int, fLt_int, fLe_int, fGt_int, fGe_int, fNeg_int, fIx_lst, fIx_tup, fLen_lst, fLen_tup, fAbs_int, fInt1_int, fInt1_bl, fGcd_int, fTuple_lst, fTuple_tup, fList_lst, fList_tup, fTru_bl, fTru_lst, fTru_tup, fIsB_bl, atI_0, atI_1, ty_int, ty_bl, ty_lst, ty_tup, ty_str, ty_non, List.map_cons, List.map_nil, List.length_cons, List.length_nil, List.replicate, List.cons_append, List.nil_append, List.getElem?_cons_zero, List.getElem?_cons_succ, List.set_cons_zero, List.set_cons_succ, List.zip_cons_cons, List.zip_nil_right, List.zip_nil_left, Option.some.injEq, exists_eq_left', exists_eq_left, Nat.reduceAdd, Nat.reduceSub, Nat.reduceEqDiff, PyData.bool.injEq, PyData.int.injEq, PyData.list.injEq, PyData.tuple.injEq, if_true, if_false, reduceIte, true_and, and_true, decide_true, decide_false, Bool.false_eq_true])
      rw [ok_eq (dist_ok w b g')]
      (try simp only [fEq_int, fNe_int, ok_eK, ok_lNil, ok_lCons, ok_e2, ok_e1, ok_eF, ok_eTup, ok_nLst, ok_eN, ok_mB, ok_mTru, ok_mNot, ok_mAnd, ok_mOr, ok_eAnd, ok_eOr, ok_eNot, ok_eIf, ok_eIsi, ok_eIsi2, ok_eTyC, ok_eCall, ok_eCallK, ok_oNo, ok_oAt, ok_eSl, ok_iOf, ok_iOfT, ok_iRg1, oks_sNx, oks_sSeq, oks_sSet, oks_sOwn, oks_sDrop, oks_sRet, oks_sIf, oks_sAsg, oks_sPar, oks_sFor, ok_runD, ok_some, oks_some, startE, eV, setsE, Tg.parts, fAdd_int, fAdd_lst, fAdd_tup, fSub_int, fMul_int, fDiv_int, fMod_int, fPow_int, fLt_int, fLe_int, fGt_int, fGe_int, fNeg_int, fIx_lst, fIx_tup, fLen_lst, fLen_tup, fAbs_int, fInt1_int, fInt1_bl, fGcd_int, fTuple_lst, fTuple_tup, fList_lst, fList_tup, fTru_bl, fTru_lst, fTru_tup, fIsB_bl, atI_0, atI_1, ty_int, ty_bl, ty_lst, ty_tup, ty_str, ty_non, List.map_cons, List.map_nil, List.length_cons, List.length_nil, List.replicate, List.cons_append, List.nil_append, List.getElem?_cons_zero, List.getElem?_cons_succ, List.set_cons_zero, List.set_cons_succ, List.zip_cons_cons, List.zip_nil_right, List.zip_nil_left, Option.some.injEq, exists_eq_left', exists_eq_left, Nat.reduceAdd, Nat.reduceSub, Nat.reduceEqDiff, PyData.bool.injEq, PyData.int.injEq, PyData.list.injEq, PyData.tuple.injEq, if_true, if_false, reduceIte, true_and, and_true, decide_true, decide_false, Bool.false_eq_true])
      unfold M5.fLE
      by_cases hd : dst lo hi w a ≤ dst lo hi w b
      · simp only [hd, decide_true, if_true]
        (try simp only [fEq_int, fNe_int, ok_eK, ok_lNil, ok_lCons, ok_e2, ok_e1, ok_eF, ok_eTup, ok_nLst, ok_eN, ok_mB, ok_mTru, ok_mNot, ok_mAnd, ok_mOr, ok_eAnd, ok_eOr, ok_eNot, ok_eIf, ok_eIsi, ok_eIsi2, ok_eTyC, ok_eCall, ok_eCallK, ok_oNo, ok_oAt, ok_eSl, ok_iOf, ok_iOfT, ok_iRg1, oks_sNx, oks_sSeq, oks_sSet, oks_sOwn, oks_sDrop, oks_sRet, oks_sIf, oks_sAsg, oks_sPar, oks_sFor, ok_runD, ok_some, oks_some, startE, eV, setsE, Tg.parts, fAdd_int, fAdd_lst, fAdd_tup, fSub_int, fMul_int, fDiv_int, fMod_int, fPow_int, fLt_int, fLe_int, fGt_int, fGe_int, fNeg_int, fIx_lst, fIx_tup, fLen_lst, fLen_tup, fAbs_int, fInt1_int, fInt1_bl, fGcd_int, fTuple_lst, fTuple_tup, fList_lst, fList_tup, fTru_bl, fTru_lst, fTru_tup, fIsB_bl, atI_0, atI_1, ty_int, ty_bl, ty_lst, ty_tup, ty_str, ty_non, List.map_cons, List.map_nil, List.length_cons, List.length_nil, List.replicate, List.cons_append, List.nil_append, List.getElem?_cons_zero, List.getElem?_cons_succ, List.set_cons_zero, List.set_cons_succ, List.zip_cons_cons, List.zip_nil_right, List.zip_nil_left, Option.some.injEq, exists_eq_left', exists_eq_left, Nat.reduceAdd, Nat.reduceSub, Nat.reduceEqDiff, PyData.bool.injEq, PyData.int.injEq, PyData.list.injEq, PyData.tuple.injEq, if_true, if_false, reduceIte, true_and, and_true, decide_true, decide_false, Bool.false_eq_true])
        exact ⟨_, rfl⟩
      · simp only [hd, decide_false, if_false, Bool.false_eq_true]
        (try simp only [fEq_int, fNe_int, ok_eK, ok_lNil, ok_lCons, ok_e2, ok_e1, ok_eF, ok_eTup, ok_nLst, ok_eN, ok_mB, ok_mTru, ok_mNot, ok_mAnd, ok_mOr, ok_eAnd, ok_eOr, ok_eNot, ok_eIf, ok_eIsi, ok_eIsi2, ok_eTyC, ok_eCall, ok_eCallK, ok_oNo, ok_oAt, ok_eSl, ok_iOf, ok_iOfT, ok_iRg1, oks_sNx, oks_sSeq, oks_sSet, oks_sOwn, oks_sDrop, oks_sRet, oks_sIf, oks_sAsg, oks_sPar, oks_sFor, ok_runD, ok_some, oks_some, startE, eV, setsE, Tg.parts, fAdd_int, fAdd_lst, fAdd_tup, fSub_int, fMul_int, fDiv_int, fMod_int, fPow_int, fLt_int, fLe_int, fGt_int, fGe_int, fNeg_int, fIx_lst, fIx_tup, fLen_lst, fLen_tup, fAbs_int, fInt1_int, fInt1_bl, fGcd_int, fTuple_lst, fTuple_tup, fList_lst, fList_tup, fTru_bl, fTru_lst, fTru_tup, fIsB_bl, atI_0, atI_1, ty_int, ty_bl, ty_lst, ty_tup, ty_str, ty_non, List.map_cons, List.map_nil, List.length_cons, List.length_nil, List.replicate, List.cons_append, List.nil_append, List.getElem?_cons_zero, List.getElem?_cons_succ, List.set_cons_zero, List.set_cons_succ, List.zip_cons_cons, List.zip_nil_right, List.zip_nil_left, Option.some.injEq, exists_eq_left', exists_eq_left, Nat.reduceAdd, Nat.reduceSub, Nat.reduceEqDiff, PyData.bool.injEq, PyData.int.injEq, PyData.list.injEq, PyData.tuple.injEq, if_true, if_false, reduceIte, true_and, and_true, decide_true, decide_false, Bool.false_eq_true])
        exact ⟨_, rfl⟩
    rintro _ g6 ⟨rfl, y, rfl⟩
    have hmem := M5.bst_mem (dst lo hi w) l x
    generalize hb : M5.bst (dst lo hi w) x l = b at *
    rw [← hL] at hmem
    have ob := (List.mem_filter.mp hmem).2
    have bb := m3 b ob
    have b450 : -450 ≤ b ∧ b ≤ 450 := by omega
    have ob' := ob
    unfold M5.okI at ob'
    rw [Bool.and_eq_true, decide_eq_true_eq, decide_eq_true_eq] at ob'
    refine oks_seqI (P := fun E' g' => g' = g6 ∧ E' = [.val (fr lo), .val (fr hi), .val (.int w), .val (.list ((x :: l).map (trip lo hi))), .val (trip lo hi b), y, .val (fr (u b)), .val (.int (fst lo (u b))), .val (.int (cnt lo hi (u b))), .no]) ?_ ?_
    · unfold trip
      (try simp only [fEq_int, fNe_int, ok_eK, ok_lNil, ok_lCons, ok_e2, ok_e1, ok_eF, ok_eTup, ok_nLst, ok_eN, ok_mB, ok_mTru, ok_mNot, ok_mAnd, ok_mOr, ok_eAnd, ok_eOr, ok_eNot, ok_eIf, ok_eIsi, ok_eIsi2, ok_eTyC, ok_eCall, ok_eCallK, ok_oNo, ok_oAt, ok_eSl, ok_iOf, ok_iOfT, ok_iRg1, oks_sNx, oks_sSeq, oks_sSet, oks_sOwn, oks_sDrop, oks_sRet, oks_sIf, oks_sAsg, oks_sPar, oks_sFor, ok_runD, ok_some, oks_some, startE, eV, setsE, Tg.parts, fAdd_int, fAdd_lst, fAdd_tup, fSub_int, fMul_int, fDiv_int, fMod_int, fPow_int, fLt_int, fLe_int, fGt_int, fGe_int, fNeg_int, fIx_lst, fIx_tup, fLen_lst, fLen_tup, fAbs_int, fInt1_int, fInt1_bl, fGcd_int, fTuple_lst, fTuple_tup, fList_lst, fList_tup, fTru_bl, fTru_lst, fTru_tup, fIsB_bl, atI_0, atI_1, ty_int, ty_bl, ty_lst, ty_tup, ty_str, ty_non, List.map_cons, List.map_nil, List.length_cons, List.length_nil, List.replicate, List.cons_append, List.nil_append, List.getElem?_cons_zero, List.getElem?_cons_succ, List.set_cons_zero, List.set_cons_succ, List.zip_cons_cons, List.zip_nil_right, List.zip_nil_left, Option.some.injEq, exists_eq_left', exists_eq_left, Nat.reduceAdd, Nat.reduceSub, Nat.reduceEqDiff, PyData.bool.injEq, PyData.int.injEq, PyData.list.injEq, PyData.tuple.injEq, if_true, if_false, reduceIte, true_and, and_true, decide_true, decide_false, Bool.false_eq_true])
    rintro _ g7 ⟨rfl, rfl⟩
    have p62 : (1000 : Int) < 2 ^ 62 := by decide
    (try simp only [fEq_int, fNe_int, ok_eK, ok_lNil, ok_lCons, ok_e2, ok_e1, ok_eF, ok_eTup, ok_nLst, ok_eN, ok_mB, ok_mTru, ok_mNot, ok_mAnd, ok_mOr, ok_eAnd, ok_eOr, ok_eNot, ok_eIf, ok_eIsi, ok_eIsi2, ok_eTyC, ok_eCall, ok_eCallK, ok_oNo, ok_oAt, ok_eSl, ok_iOf, ok_iOfT, ok_iRg1, oks_sNx, oks_sSeq, oks_sSet, oks_sOwn, oks_sDrop, oks_sRet, oks_sIf, oks_sAsg, oks_sPar, oks_sFor, ok_runD, ok_some, oks_some, startE, eV, setsE, Tg.parts, fAdd_int, fAdd_lst, fAdd_tup, fSub_int, fMul_int, fDiv_int, fMod_int, fPow_int, fLt_int, fLe_int, fGt_int, fGe_int, fNeg_int, fIx_lst, fIx_tup, fLen_lst, fLen_tup, fAbs_int, fInt1_int, fInt1_bl, fGcd_int, fTuple_lst, fTuple_tup, fList_lst, fList_tup, fTru_bl, fTru_lst, fTru_tup, fIsB_bl, atI_0, atI_1, ty_int, ty_bl, ty_lst, ty_tup, ty_str, ty_non, List.map_cons, List.map_nil, List.length_cons, List.length_nil, List.replicate, List.cons_append, List.nil_append, List.getElem?_cons_zero, List.getElem?_cons_succ, List.set_cons_zero, List.set_cons_succ, List.zip_cons_cons, List.zip_nil_right, List.zip_nil_left, Option.some.injEq, exists_eq_left', exists_eq_left, Nat.reduceAdd, Nat.reduceSub, Nat.reduceEqDiff, PyData.bool.injEq, PyData.int.injEq, PyData.list.injEq, PyData.tuple.injEq, if_true, if_false, reduceIte, true_and, and_true, decide_true, decide_false, Bool.false_eq_true, z2])
    rw [ok_nLc (by rfl)]
    (try simp only [fEq_int, fNe_int, ok_eK, ok_lNil, ok_lCons, ok_e2, ok_e1, ok_eF, ok_eTup, ok_nLst, ok_eN, ok_mB, ok_mTru, ok_mNot, ok_mAnd, ok_mOr, ok_eAnd, ok_eOr, ok_eNot, ok_eIf, ok_eIsi, ok_eIsi2, ok_eTyC, ok_eCall, ok_eCallK, ok_oNo, ok_oAt, ok_eSl, ok_iOf, ok_iOfT, ok_iRg1, oks_sNx, oks_sSeq, oks_sSet, oks_sOwn, oks_sDrop, oks_sRet, oks_sIf, oks_sAsg, oks_sPar, oks_sFor, ok_runD, ok_some, oks_some, startE, eV, setsE, Tg.parts, fAdd_int, fAdd_lst, fAdd_tup, fSub_int, fMul_int, fDiv_int, fMod_int, fPow_int, fLt_int, fLe_int, fGt_int, fGe_int, fNeg_int, fIx_lst, fIx_tup, fLen_lst, fLen_tup, fAbs_int, fInt1_int, fInt1_bl, fGcd_int, fTuple_lst, fTuple_tup, fList_lst, fList_tup, fTru_bl, fTru_lst, fTru_tup, fIsB_bl, atI_0, atI_1, ty_int, ty_bl, ty_lst, ty_tup, ty_str, ty_non, List.map_cons, List.map_nil, List.length_cons, List.length_nil, List.replicate, List.cons_append, List.nil_append, List.getElem?_cons_zero, List.getElem?_cons_succ, List.set_cons_zero, List.set_cons_succ, List.zip_cons_cons, List.zip_nil_right, List.zip_nil_left, Option.some.injEq, exists_eq_left', exists_eq_left, Nat.reduceAdd, Nat.reduceSub, Nat.reduceEqDiff, PyData.bool.injEq, PyData.int.injEq, PyData.list.injEq, PyData.tuple.injEq, if_true, if_false, reduceIte, true_and, and_true, decide_true, decide_false, Bool.false_eq_true])
    refine ⟨_, rfl, by omega, ?_⟩
    rw [len_ints]
    refine ⟨sz_ok (by omega), ?_⟩
    rw [ok_eq (lcL_map (φ := fun d => match d with | .int k => fr (((fst lo (u b) + k : Int) : Rat) * u b) | d => d) _ (fun d hd => ?_))]
    · (try simp only [fEq_int, fNe_int, ok_eK, ok_lNil, ok_lCons, ok_e2, ok_e1, ok_eF, ok_eTup, ok_nLst, ok_eN, ok_mB, ok_mTru, ok_mNot, ok_mAnd, ok_mOr, ok_eAnd, ok_eOr, ok_eNot, ok_eIf, ok_eIsi, ok_eIsi2, ok_eTyC, ok_eCall, ok_eCallK, ok_oNo, ok_oAt, ok_eSl, ok_iOf, ok_iOfT, ok_iRg1, oks_sNx, oks_sSeq, oks_sSet, oks_sOwn, oks_sDrop, oks_sRet, oks_sIf, oks_sAsg, oks_sPar, oks_sFor, ok_runD, ok_some, oks_some, startE, eV, setsE, Tg.parts, fAdd_int, fAdd_lst, fAdd_tup, fSub_int, fMul_int, fDiv_int, fMod_int, fPow_int, fLt_int, fLe_int, fGt_int, fGe_int, fNeg_int, fIx_lst, fIx_tup, fLen_lst, fLen_tup, fAbs_int, fInt1_int, fInt1_bl, fGcd_int, fTuple_lst, fTuple_tup, fList_lst, fList_tup, fTru_bl, fTru_lst, fTru_tup, fIsB_bl, atI_0, atI_1, ty_int, ty_bl, ty_lst, ty_tup, ty_str, ty_non, List.map_cons, List.map_nil, List.length_cons, List.length_nil, List.replicate, List.cons_append, List.nil_append, List.getElem?_cons_zero, List.getElem?_cons_succ, List.set_cons_zero, List.set_cons_succ, List.zip_cons_cons, List.zip_nil_right, List.zip_nil_left, Option.some.injEq, exists_eq_left', exists_eq_left, Nat.reduceAdd, Nat.reduceSub, Nat.reduceEqDiff, PyData.bool.injEq, PyData.int.injEq, PyData.list.injEq, PyData.tuple.injEq, if_true, if_false, reduceIte, true_and, and_true, decide_true, decide_false, Bool.false_eq_true])
      unfold intsD
      rw [List.map_map]
      show PyData.tuple [fr (u b), .tuple _] = row lo hi b
      unfold row valsD
      refine congrArg (fun z => PyData.tuple [fr (u b), .tuple z]) ?_
      apply List.map_congr_left
      intro k _
      show fr (((fst lo (u b) + (0 + (k : Int)) : Int) : Rat) * u b) = _
      rw [Int.zero_add]
    · obtain ⟨k, hk, rfl⟩ := mem_ints hd
      refine ⟨_, rfl, ?_⟩
      have sv := val_ok hlo b450 k (by omega)
      refine Ok.eq ?_
      (try simp only [fEq_int, fNe_int, ok_eK, ok_lNil, ok_lCons, ok_e2, ok_e1, ok_eF, ok_eTup, ok_nLst, ok_eN, ok_mB, ok_mTru, ok_mNot, ok_mAnd, ok_mOr, ok_eAnd, ok_eOr, ok_eNot, ok_eIf, ok_eIsi, ok_eIsi2, ok_eTyC, ok_eCall, ok_eCallK, ok_oNo, ok_oAt, ok_eSl, ok_iOf, ok_iOfT, ok_iRg1, oks_sNx, oks_sSeq, oks_sSet, oks_sOwn, oks_sDrop, oks_sRet, oks_sIf, oks_sAsg, oks_sPar, oks_sFor, ok_runD, ok_some, oks_some, startE, eV, setsE, Tg.parts, fAdd_int, fAdd_lst, fAdd_tup, fSub_int, fMul_int, fDiv_int, fMod_int, fPow_int, fLt_int, fLe_int, fGt_int, fGe_int, fNeg_int, fIx_lst, fIx_tup, fLen_lst, fLen_tup, fAbs_int, fInt1_int, fInt1_bl, fGcd_int, fTuple_lst, fTuple_tup, fList_lst, fList_tup, fTru_bl, fTru_lst, fTru_tup, fIsB_bl, atI_0, atI_1, ty_int, ty_bl, ty_lst, ty_tup, ty_str, ty_non, List.map_cons, List.map_nil, List.length_cons, List.length_nil, List.replicate, List.cons_append, List.nil_append, List.getElem?_cons_zero, List.getElem?_cons_succ, List.set_cons_zero, List.set_cons_succ, List.zip_cons_cons, List.zip_nil_right, List.zip_nil_left, Option.some.injEq, exists_eq_left', exists_eq_left, Nat.reduceAdd, Nat.reduceSub, Nat.reduceEqDiff, PyData.bool.injEq, PyData.int.injEq, PyData.list.injEq, PyData.tuple.injEq, if_true, if_false, reduceIte, true_and, and_true, decide_true, decide_false, Bool.false_eq_true, z2, wipeE, int_is])
      rw [ok_eq (times_ok sv (u_sz b450) (by decide) (by decide) g7)]
      exact ⟨rfl, rfl⟩
end
end K06

set_option Elab.async false
set_option linter.all false
set_option maxRecDepth 100000
set_option maxHeartbeats 4000000
namespace K06
open PySem PySem.Spec PyProof.Rows L2 DL
open M5 (pt u fl fst cnt okI win mid)
theorem fr_of {r : Rat} {a b : Int} (h1 : r.num = a) (h2 : (r.den : Int) = b) : PyData.tuple [.int a, .int b] = fr r := by
  unfold fr
  rw [h1, h2]
theorem fr01 : PyData.tuple [.int 1, .int 10] = fr (1 / 10) := fr_of (by decide +kernel) (by decide +kernel)
theorem fr10 : PyData.tuple [.int 10, .int 1] = fr 10 := by rfl
theorem s10 : Sz 20 (10 : Rat) := by constructor <;> decide
theorem s01 : Sz 20 (1 / 10 : Rat) := by constructor <;> decide +kernel
theorem cut_hi (ds : List D) (h : Nat) (hh : h ≤ ds.length) : DL.cutD ds (some (h : Int)) none = ds.drop h := by
  unfold DL.cutD
  rw [HT.sIx_none, HT.sIx_nat, Nat.min_eq_left hh, List.take_of_length_le (by rw [List.length_drop]; exact Nat.le_refl _)]
theorem end_ok (g : G) : Ok (F_law_end [.dict []] g) IsFr := by
  have p140 : (10 : Nat) ^ 42 < 2 ^ 140 := by decide
  have q40 : ((10 : Int) ^ (40 : Int).toNat) = 10000000000000000000000000000000000000000 := by decide
  have q12 : ((10 : Int) ^ (12 : Int).toNat) = 1000000000000 := by decide
  have q11 : ((10 : Int) ^ (11 : Int).toNat) = 100000000000 := by decide
  have c40 : (decide ((0 : Int) ≤ 40) && decide ((40 : Int) ≤ 1000000) && decide ((10 : Int).natAbs < 2 ^ 64)) = true := by decide
  have c12 : (decide ((0 : Int) ≤ 12) && decide ((12 : Int) ≤ 1000000) && decide ((10 : Int).natAbs < 2 ^ 64)) = true := by decide
  have c11 : (decide ((0 : Int) ≤ 11) && decide ((11 : Int) ≤ 1000000) && decide ((10 : Int).natAbs < 2 ^ 64)) = true := by decide
  have z2 : 2 ≤ sizeLine := sz_ok (by decide)
  have z3 : 3 ≤ sizeLine := sz_ok (by decide)
  unfold F_law_end m_law_end
  rw [ok_runD]
  refine oks_seqI (P := fun E' _ => ∃ w : Int, 0 ≤ w ∧ w < 6 ∧ E' = [SP, .val (.int w)]) ?_ ?_
  · (try simp only [fEq_int, fNe_int, ok_eK, ok_lNil, ok_lCons, ok_e2, ok_e1, ok_eF, ok_eTup, ok_nLst, ok_eN, ok_mB, ok_mTru, ok_mNot, ok_mAnd, ok_mOr, ok_eAnd, ok_eOr, ok_eNot, ok_eIf, ok_eIsi, ok_eIsi2, ok_eTyC, ok_eCall, ok_eCallK, ok_oNo, ok_oAt, ok_eSl, ok_iOf, ok_iOfT, ok_iRg1, oks_sNx, oks_sSeq, oks_sSet, oks_sOwn, oks_sDrop, oks_sRet, oks_sIf, oks_sAsg, oks_sPar, oks_sFor, ok_runD, ok_some, oks_some, startE, eV, setsE, Tg.parts, fAdd_int, fAdd_lst, fAdd_tup, fSub_int, fMul_int, fDiv_int, fMod_int, fPow_int, fLt_int, fLe_int, fGt_int, fGe_int, fNeg_int, fIx_lst, fIx_tup, fLen_lst, fLen_tup, fAbs_int, fInt1_int, fInt1_bl, fGcd_int, fTuple_lst, fTuple_tup, fList_lst, fList_tup, fTru_bl, fTru_lst, fTru_tup, fIsB_bl, atI_0, atI_1, ty_int, ty_bl, ty_lst, ty_tup, ty_str, ty_non, List.map_cons, List.map_nil, List.length_cons, List.length_nil, List.replicate, List.cons_append, List.nil_append, List.getElem?_cons_zero, List.getElem?_cons_succ, List.set_cons_zero, List.set_cons_succ, List.zip_cons_cons, List.zip_nil_right, List.zip_nil_left, Option.some.injEq, exists_eq_left', exists_eq_left, Nat.reduceAdd, Nat.reduceSub, Nat.reduceEqDiff, PyData.bool.injEq, PyData.int.injEq, PyData.list.injEq, PyData.tuple.injEq, if_true, if_false, reduceIte, true_and, and_true, decide_true, decide_false, Bool.false_eq_true])
    refine drop_then (by decide) (by exact small9 (by decide)) fun w g1 w0 w1 => ?_
    exact ⟨w, w0, w1, rfl⟩
  have n10 : decide ((1 : Int) = 0) = false := by decide
  have n20 : decide ((2 : Int) = 0) = false := by decide
  have n21 : decide ((2 : Int) = 1) = false := by decide
  have n30 : decide ((3 : Int) = 0) = false := by decide
  have n31 : decide ((3 : Int) = 1) = false := by decide
  have n32 : decide ((3 : Int) = 2) = false := by decide
  have n40 : decide ((4 : Int) = 0) = false := by decide
  have n41 : decide ((4 : Int) = 1) = false := by decide
  have n42 : decide ((4 : Int) = 2) = false := by decide
  have n43 : decide ((4 : Int) = 3) = false := by decide
  have n50 : decide ((5 : Int) = 0) = false := by decide
  have n51 : decide ((5 : Int) = 1) = false := by decide
  have n52 : decide ((5 : Int) = 2) = false := by decide
  have n53 : decide ((5 : Int) = 3) = false := by decide
  have n54 : decide ((5 : Int) = 4) = false := by decide
  rintro _ g1 ⟨w, w0, w1, rfl⟩
  have : w = 0 ∨ w = 1 ∨ w = 2 ∨ w = 3 ∨ w = 4 ∨ w = 5 := by omega
  rcases this with rfl | rfl | rfl | rfl | rfl | rfl
  · (try simp only [fEq_int, fNe_int, ok_eK, ok_lNil, ok_lCons, ok_e2, ok_e1, ok_eF, ok_eTup, ok_nLst, ok_eN, ok_mB, ok_mTru, ok_mNot, ok_mAnd, ok_mOr, ok_eAnd, ok_eOr, ok_eNot, ok_eIf, ok_eIsi, ok_eIsi2, ok_eTyC, ok_eCall, ok_eCallK, ok_oNo, ok_oAt, ok_eSl, ok_iOf, ok_iOfT, ok_iRg1, oks_sNx, oks_sSeq, oks_sSet, oks_sOwn, oks_sDrop, oks_sRet, oks_sIf, oks_sAsg, oks_sPar, oks_sFor, ok_runD, ok_some, oks_some, startE, eV, setsE, Tg.parts, fAdd_int, fAdd_lst, fAdd_tup, fSub_int, fMul_int, fDiv_int, fMod_int, fPow_int, fLt_int, fLe_int, fGt_int, fGe_int, fNeg_int, fIx_lst, fIx_tup, fLen_lst, fLen_tup, fAbs_int, fInt1_int, fInt1_bl, fGcd_int, fTuple_lst, fTuple_tup, fList_lst, fList_tup, fTru_bl, fTru_lst, fTru_tup, fIsB_bl, atI_0, atI_1, ty_int, ty_bl, ty_lst, ty_tup, ty_str, ty_non, List.map_cons, List.map_nil, List.length_cons, List.length_nil, List.replicate, List.cons_append, List.nil_append, List.getElem?_cons_zero, List.getElem?_cons_succ, List.set_cons_zero, List.set_cons_succ, List.zip_cons_cons, List.zip_nil_right, List.zip_nil_left, Option.some.injEq, exists_eq_left', exists_eq_left, Nat.reduceAdd, Nat.reduceSub, Nat.reduceEqDiff, PyData.bool.injEq, PyData.int.injEq, PyData.list.injEq, PyData.tuple.injEq, if_true, if_false, reduceIte, true_and, and_true, decide_true, decide_false, Bool.false_eq_true, fEq_int])
    refine drop_then (by decide) (by exact small9 (by decide)) fun v g2 v0 v1 => ?_
    (try simp only [fEq_int, fNe_int, ok_eK, ok_lNil, ok_lCons, ok_e2, ok_e1, ok_eF, ok_eTup, ok_nLst, ok_eN, ok_mB, ok_mTru, ok_mNot, ok_mAnd, ok_mOr, ok_eAnd, ok_eOr, ok_eNot, ok_eIf, ok_eIsi, ok_eIsi2, ok_eTyC, ok_eCall, ok_eCallK, ok_oNo, ok_oAt, ok_eSl, ok_iOf, ok_iOfT, ok_iRg1, oks_sNx, oks_sSeq, oks_sSet, oks_sOwn, oks_sDrop, oks_sRet, oks_sIf, oks_sAsg, oks_sPar, oks_sFor, ok_runD, ok_some, oks_some, startE, eV, setsE, Tg.parts, fAdd_int, fAdd_lst, fAdd_tup, fSub_int, fMul_int, fDiv_int, fMod_int, fPow_int, fLt_int, fLe_int, fGt_int, fGe_int, fNeg_int, fIx_lst, fIx_tup, fLen_lst, fLen_tup, fAbs_int, fInt1_int, fInt1_bl, fGcd_int, fTuple_lst, fTuple_tup, fList_lst, fList_tup, fTru_bl, fTru_lst, fTru_tup, fIsB_bl, atI_0, atI_1, ty_int, ty_bl, ty_lst, ty_tup, ty_str, ty_non, List.map_cons, List.map_nil, List.length_cons, List.length_nil, List.replicate, List.cons_append, List.nil_append, List.getElem?_cons_zero, List.getElem?_cons_succ, List.set_cons_zero, List.set_cons_succ, List.zip_cons_cons, List.zip_nil_right, List.zip_nil_left, Option.some.injEq, exists_eq_left', exists_eq_left, Nat.reduceAdd, Nat.reduceSub, Nat.reduceEqDiff, PyData.bool.injEq, PyData.int.injEq, PyData.list.injEq, PyData.tuple.injEq, if_true, if_false, reduceIte, true_and, and_true, decide_true, decide_false, Bool.false_eq_true, z2])
    exact int_fr _ (by omega) _
  · (try simp only [fEq_int, fNe_int, ok_eK, ok_lNil, ok_lCons, ok_e2, ok_e1, ok_eF, ok_eTup, ok_nLst, ok_eN, ok_mB, ok_mTru, ok_mNot, ok_mAnd, ok_mOr, ok_eAnd, ok_eOr, ok_eNot, ok_eIf, ok_eIsi, ok_eIsi2, ok_eTyC, ok_eCall, ok_eCallK, ok_oNo, ok_oAt, ok_eSl, ok_iOf, ok_iOfT, ok_iRg1, oks_sNx, oks_sSeq, oks_sSet, oks_sOwn, oks_sDrop, oks_sRet, oks_sIf, oks_sAsg, oks_sPar, oks_sFor, ok_runD, ok_some, oks_some, startE, eV, setsE, Tg.parts, fAdd_int, fAdd_lst, fAdd_tup, fSub_int, fMul_int, fDiv_int, fMod_int, fPow_int, fLt_int, fLe_int, fGt_int, fGe_int, fNeg_int, fIx_lst, fIx_tup, fLen_lst, fLen_tup, fAbs_int, fInt1_int, fInt1_bl, fGcd_int, fTuple_lst, fTuple_tup, fList_lst, fList_tup, fTru_bl, fTru_lst, fTru_tup, fIsB_bl, atI_0, atI_1, ty_int, ty_bl, ty_lst, ty_tup, ty_str, ty_non, List.map_cons, List.map_nil, List.length_cons, List.length_nil, List.replicate, List.cons_append, List.nil_append, List.getElem?_cons_zero, List.getElem?_cons_succ, List.set_cons_zero, List.set_cons_succ, List.zip_cons_cons, List.zip_nil_right, List.zip_nil_left, Option.some.injEq, exists_eq_left', exists_eq_left, Nat.reduceAdd, Nat.reduceSub, Nat.reduceEqDiff, PyData.bool.injEq, PyData.int.injEq, PyData.list.injEq, PyData.tuple.injEq, if_true, if_false, reduceIte, true_and, and_true, decide_true, decide_false, Bool.false_eq_true, fEq_int, n10])
    refine drop_then (by decide) (by exact small9 (by decide)) fun v g2 v0 v1 => ?_
    (try simp only [fEq_int, fNe_int, ok_eK, ok_lNil, ok_lCons, ok_e2, ok_e1, ok_eF, ok_eTup, ok_nLst, ok_eN, ok_mB, ok_mTru, ok_mNot, ok_mAnd, ok_mOr, ok_eAnd, ok_eOr, ok_eNot, ok_eIf, ok_eIsi, ok_eIsi2, ok_eTyC, ok_eCall, ok_eCallK, ok_oNo, ok_oAt, ok_eSl, ok_iOf, ok_iOfT, ok_iRg1, oks_sNx, oks_sSeq, oks_sSet, oks_sOwn, oks_sDrop, oks_sRet, oks_sIf, oks_sAsg, oks_sPar, oks_sFor, ok_runD, ok_some, oks_some, startE, eV, setsE, Tg.parts, fAdd_int, fAdd_lst, fAdd_tup, fSub_int, fMul_int, fDiv_int, fMod_int, fPow_int, fLt_int, fLe_int, fGt_int, fGe_int, fNeg_int, fIx_lst, fIx_tup, fLen_lst, fLen_tup, fAbs_int, fInt1_int, fInt1_bl, fGcd_int, fTuple_lst, fTuple_tup, fList_lst, fList_tup, fTru_bl, fTru_lst, fTru_tup, fIsB_bl, atI_0, atI_1, ty_int, ty_bl, ty_lst, ty_tup, ty_str, ty_non, List.map_cons, List.map_nil, List.length_cons, List.length_nil, List.replicate, List.cons_append, List.nil_append, List.getElem?_cons_zero, List.getElem?_cons_succ, List.set_cons_zero, List.set_cons_succ, List.zip_cons_cons, List.zip_nil_right, List.zip_nil_left, Option.some.injEq, exists_eq_left', exists_eq_left, Nat.reduceAdd, Nat.reduceSub, Nat.reduceEqDiff, PyData.bool.injEq, PyData.int.injEq, PyData.list.injEq, PyData.tuple.injEq, if_true, if_false, reduceIte, true_and, and_true, decide_true, decide_false, Bool.false_eq_true, z3])
    refine drop_then (by decide) (by exact small9 (by decide)) fun u g3 u0 u1 => ?_
    have : u = 0 ∨ u = 1 ∨ u = 2 := by omega
    rcases this with rfl | rfl | rfl
    · exact ⟨.int 100, rfl, low_fr (by decide) (by decide) (by omega) _⟩
    · exact ⟨.int 1000, rfl, low_fr (by decide) (by decide) (by omega) _⟩
    · exact ⟨.int 8, rfl, low_fr (by decide) (by decide) (by omega) _⟩
  · (try simp only [fEq_int, fNe_int, ok_eK, ok_lNil, ok_lCons, ok_e2, ok_e1, ok_eF, ok_eTup, ok_nLst, ok_eN, ok_mB, ok_mTru, ok_mNot, ok_mAnd, ok_mOr, ok_eAnd, ok_eOr, ok_eNot, ok_eIf, ok_eIsi, ok_eIsi2, ok_eTyC, ok_eCall, ok_eCallK, ok_oNo, ok_oAt, ok_eSl, ok_iOf, ok_iOfT, ok_iRg1, oks_sNx, oks_sSeq, oks_sSet, oks_sOwn, oks_sDrop, oks_sRet, oks_sIf, oks_sAsg, oks_sPar, oks_sFor, ok_runD, ok_some, oks_some, startE, eV, setsE, Tg.parts, fAdd_int, fAdd_lst, fAdd_tup, fSub_int, fMul_int, fDiv_int, fMod_int, fPow_int, fLt_int, fLe_int, fGt_int, fGe_int, fNeg_int, fIx_lst, fIx_tup, fLen_lst, fLen_tup, fAbs_int, fInt1_int, fInt1_bl, fGcd_int, fTuple_lst, fTuple_tup, fList_lst, fList_tup, fTru_bl, fTru_lst, fTru_tup, fIsB_bl, atI_0, atI_1, ty_int, ty_bl, ty_lst, ty_tup, ty_str, ty_non, List.map_cons, List.map_nil, List.length_cons, List.length_nil, List.replicate, List.cons_append, List.nil_append, List.getElem?_cons_zero, List.getElem?_cons_succ, List.set_cons_zero, List.set_cons_succ, List.zip_cons_cons, List.zip_nil_right, List.zip_nil_left, Option.some.injEq, exists_eq_left', exists_eq_left, Nat.reduceAdd, Nat.reduceSub, Nat.reduceEqDiff, PyData.bool.injEq, PyData.int.injEq, PyData.list.injEq, PyData.tuple.injEq, if_true, if_false, reduceIte, true_and, and_true, decide_true, decide_false, Bool.false_eq_true, fEq_int, n20, n21, z2])
    exact int_fr 0 (by decide) _
  · (try simp only [fEq_int, fNe_int, ok_eK, ok_lNil, ok_lCons, ok_e2, ok_e1, ok_eF, ok_eTup, ok_nLst, ok_eN, ok_mB, ok_mTru, ok_mNot, ok_mAnd, ok_mOr, ok_eAnd, ok_eOr, ok_eNot, ok_eIf, ok_eIsi, ok_eIsi2, ok_eTyC, ok_eCall, ok_eCallK, ok_oNo, ok_oAt, ok_eSl, ok_iOf, ok_iOfT, ok_iRg1, oks_sNx, oks_sSeq, oks_sSet, oks_sOwn, oks_sDrop, oks_sRet, oks_sIf, oks_sAsg, oks_sPar, oks_sFor, ok_runD, ok_some, oks_some, startE, eV, setsE, Tg.parts, fAdd_int, fAdd_lst, fAdd_tup, fSub_int, fMul_int, fDiv_int, fMod_int, fPow_int, fLt_int, fLe_int, fGt_int, fGe_int, fNeg_int, fIx_lst, fIx_tup, fLen_lst, fLen_tup, fAbs_int, fInt1_int, fInt1_bl, fGcd_int, fTuple_lst, fTuple_tup, fList_lst, fList_tup, fTru_bl, fTru_lst, fTru_tup, fIsB_bl, atI_0, atI_1, ty_int, ty_bl, ty_lst, ty_tup, ty_str, ty_non, List.map_cons, List.map_nil, List.length_cons, List.length_nil, List.replicate, List.cons_append, List.nil_append, List.getElem?_cons_zero, List.getElem?_cons_succ, List.set_cons_zero, List.set_cons_succ, List.zip_cons_cons, List.zip_nil_right, List.zip_nil_left, Option.some.injEq, exists_eq_left', exists_eq_left, Nat.reduceAdd, Nat.reduceSub, Nat.reduceEqDiff, PyData.bool.injEq, PyData.int.injEq, PyData.list.injEq, PyData.tuple.injEq, if_true, if_false, reduceIte, true_and, and_true, decide_true, decide_false, Bool.false_eq_true, fEq_int, n30, n31, n32])
    rw [if_pos c12, if_pos c11]
    (try simp only [fEq_int, fNe_int, ok_eK, ok_lNil, ok_lCons, ok_e2, ok_e1, ok_eF, ok_eTup, ok_nLst, ok_eN, ok_mB, ok_mTru, ok_mNot, ok_mAnd, ok_mOr, ok_eAnd, ok_eOr, ok_eNot, ok_eIf, ok_eIsi, ok_eIsi2, ok_eTyC, ok_eCall, ok_eCallK, ok_oNo, ok_oAt, ok_eSl, ok_iOf, ok_iOfT, ok_iRg1, oks_sNx, oks_sSeq, oks_sSet, oks_sOwn, oks_sDrop, oks_sRet, oks_sIf, oks_sAsg, oks_sPar, oks_sFor, ok_runD, ok_some, oks_some, startE, eV, setsE, Tg.parts, fAdd_int, fAdd_lst, fAdd_tup, fSub_int, fMul_int, fDiv_int, fMod_int, fPow_int, fLt_int, fLe_int, fGt_int, fGe_int, fNeg_int, fIx_lst, fIx_tup, fLen_lst, fLen_tup, fAbs_int, fInt1_int, fInt1_bl, fGcd_int, fTuple_lst, fTuple_tup, fList_lst, fList_tup, fTru_bl, fTru_lst, fTru_tup, fIsB_bl, atI_0, atI_1, ty_int, ty_bl, ty_lst, ty_tup, ty_str, ty_non, List.map_cons, List.map_nil, List.length_cons, List.length_nil, List.replicate, List.cons_append, List.nil_append, List.getElem?_cons_zero, List.getElem?_cons_succ, List.set_cons_zero, List.set_cons_succ, List.zip_cons_cons, List.zip_nil_right, List.zip_nil_left, Option.some.injEq, exists_eq_left', exists_eq_left, Nat.reduceAdd, Nat.reduceSub, Nat.reduceEqDiff, PyData.bool.injEq, PyData.int.injEq, PyData.list.injEq, PyData.tuple.injEq, if_true, if_false, reduceIte, true_and, and_true, decide_true, decide_false, Bool.false_eq_true])
    rw [q12, q11]
    refine drop_then (by decide) (by exact small9 (by decide)) fun v g2 v0 v1 => ?_
    (try simp only [fEq_int, fNe_int, ok_eK, ok_lNil, ok_lCons, ok_e2, ok_e1, ok_eF, ok_eTup, ok_nLst, ok_eN, ok_mB, ok_mTru, ok_mNot, ok_mAnd, ok_mOr, ok_eAnd, ok_eOr, ok_eNot, ok_eIf, ok_eIsi, ok_eIsi2, ok_eTyC, ok_eCall, ok_eCallK, ok_oNo, ok_oAt, ok_eSl, ok_iOf, ok_iOfT, ok_iRg1, oks_sNx, oks_sSeq, oks_sSet, oks_sOwn, oks_sDrop, oks_sRet, oks_sIf, oks_sAsg, oks_sPar, oks_sFor, ok_runD, ok_some, oks_some, startE, eV, setsE, Tg.parts, fAdd_int, fAdd_lst, fAdd_tup, fSub_int, fMul_int, fDiv_int, fMod_int, fPow_int, fLt_int, fLe_int, fGt_int, fGe_int, fNeg_int, fIx_lst, fIx_tup, fLen_lst, fLen_tup, fAbs_int, fInt1_int, fInt1_bl, fGcd_int, fTuple_lst, fTuple_tup, fList_lst, fList_tup, fTru_bl, fTru_lst, fTru_tup, fIsB_bl, atI_0, atI_1, ty_int, ty_bl, ty_lst, ty_tup, ty_str, ty_non, List.map_cons, List.map_nil, List.length_cons, List.length_nil, List.replicate, List.cons_append, List.nil_append, List.getElem?_cons_zero, List.getElem?_cons_succ, List.set_cons_zero, List.set_cons_succ, List.zip_cons_cons, List.zip_nil_right, List.zip_nil_left, Option.some.injEq, exists_eq_left', exists_eq_left, Nat.reduceAdd, Nat.reduceSub, Nat.reduceEqDiff, PyData.bool.injEq, PyData.int.injEq, PyData.list.injEq, PyData.tuple.injEq, if_true, if_false, reduceIte, true_and, and_true, decide_true, decide_false, Bool.false_eq_true])
    refine drop_then (by decide) (by exact small9 (by decide)) fun u g3 u0 u1 => ?_
    (try simp only [fEq_int, fNe_int, ok_eK, ok_lNil, ok_lCons, ok_e2, ok_e1, ok_eF, ok_eTup, ok_nLst, ok_eN, ok_mB, ok_mTru, ok_mNot, ok_mAnd, ok_mOr, ok_eAnd, ok_eOr, ok_eNot, ok_eIf, ok_eIsi, ok_eIsi2, ok_eTyC, ok_eCall, ok_eCallK, ok_oNo, ok_oAt, ok_eSl, ok_iOf, ok_iOfT, ok_iRg1, oks_sNx, oks_sSeq, oks_sSet, oks_sOwn, oks_sDrop, oks_sRet, oks_sIf, oks_sAsg, oks_sPar, oks_sFor, ok_runD, ok_some, oks_some, startE, eV, setsE, Tg.parts, fAdd_int, fAdd_lst, fAdd_tup, fSub_int, fMul_int, fDiv_int, fMod_int, fPow_int, fLt_int, fLe_int, fGt_int, fGe_int, fNeg_int, fIx_lst, fIx_tup, fLen_lst, fLen_tup, fAbs_int, fInt1_int, fInt1_bl, fGcd_int, fTuple_lst, fTuple_tup, fList_lst, fList_tup, fTru_bl, fTru_lst, fTru_tup, fIsB_bl, atI_0, atI_1, ty_int, ty_bl, ty_lst, ty_tup, ty_str, ty_non, List.map_cons, List.map_nil, List.length_cons, List.length_nil, List.replicate, List.cons_append, List.nil_append, List.getElem?_cons_zero, List.getElem?_cons_succ, List.set_cons_zero, List.set_cons_succ, List.zip_cons_cons, List.zip_nil_right, List.zip_nil_left, Option.some.injEq, exists_eq_left', exists_eq_left, Nat.reduceAdd, Nat.reduceSub, Nat.reduceEqDiff, PyData.bool.injEq, PyData.int.injEq, PyData.list.injEq, PyData.tuple.injEq, if_true, if_false, reduceIte, true_and, and_true, decide_true, decide_false, Bool.false_eq_true])
    exact low_fr (by omega) (by omega) (by omega) _
  · (try simp only [fEq_int, fNe_int, ok_eK, ok_lNil, ok_lCons, ok_e2, ok_e1, ok_eF, ok_eTup, ok_nLst, ok_eN, ok_mB, ok_mTru, ok_mNot, ok_mAnd, ok_mOr, ok_eAnd, ok_eOr, ok_eNot, ok_eIf, ok_eIsi, ok_eIsi2, ok_eTyC, ok_eCall, ok_eCallK, ok_oNo, ok_oAt, ok_eSl, ok_iOf, ok_iOfT, ok_iRg1, oks_sNx, oks_sSeq, oks_sSet, oks_sOwn, oks_sDrop, oks_sRet, oks_sIf, oks_sAsg, oks_sPar, oks_sFor, ok_runD, ok_some, oks_some, startE, eV, setsE, Tg.parts, fAdd_int, fAdd_lst, fAdd_tup, fSub_int, fMul_int, fDiv_int, fMod_int, fPow_int, fLt_int, fLe_int, fGt_int, fGe_int, fNeg_int, fIx_lst, fIx_tup, fLen_lst, fLen_tup, fAbs_int, fInt1_int, fInt1_bl, fGcd_int, fTuple_lst, fTuple_tup, fList_lst, fList_tup, fTru_bl, fTru_lst, fTru_tup, fIsB_bl, atI_0, atI_1, ty_int, ty_bl, ty_lst, ty_tup, ty_str, ty_non, List.map_cons, List.map_nil, List.length_cons, List.length_nil, List.replicate, List.cons_append, List.nil_append, List.getElem?_cons_zero, List.getElem?_cons_succ, List.set_cons_zero, List.set_cons_succ, List.zip_cons_cons, List.zip_nil_right, List.zip_nil_left, Option.some.injEq, exists_eq_left', exists_eq_left, Nat.reduceAdd, Nat.reduceSub, Nat.reduceEqDiff, PyData.bool.injEq, PyData.int.injEq, PyData.list.injEq, PyData.tuple.injEq, if_true, if_false, reduceIte, true_and, and_true, decide_true, decide_false, Bool.false_eq_true, fEq_int, n40, n41, n42, n43])
    refine drop_then (by decide) (by exact small9 (by decide)) fun v g2 v0 v1 => ?_
    rw [if_pos c12, if_pos c40]
    (try simp only [fEq_int, fNe_int, ok_eK, ok_lNil, ok_lCons, ok_e2, ok_e1, ok_eF, ok_eTup, ok_nLst, ok_eN, ok_mB, ok_mTru, ok_mNot, ok_mAnd, ok_mOr, ok_eAnd, ok_eOr, ok_eNot, ok_eIf, ok_eIsi, ok_eIsi2, ok_eTyC, ok_eCall, ok_eCallK, ok_oNo, ok_oAt, ok_eSl, ok_iOf, ok_iOfT, ok_iRg1, oks_sNx, oks_sSeq, oks_sSet, oks_sOwn, oks_sDrop, oks_sRet, oks_sIf, oks_sAsg, oks_sPar, oks_sFor, ok_runD, ok_some, oks_some, startE, eV, setsE, Tg.parts, fAdd_int, fAdd_lst, fAdd_tup, fSub_int, fMul_int, fDiv_int, fMod_int, fPow_int, fLt_int, fLe_int, fGt_int, fGe_int, fNeg_int, fIx_lst, fIx_tup, fLen_lst, fLen_tup, fAbs_int, fInt1_int, fInt1_bl, fGcd_int, fTuple_lst, fTuple_tup, fList_lst, fList_tup, fTru_bl, fTru_lst, fTru_tup, fIsB_bl, atI_0, atI_1, ty_int, ty_bl, ty_lst, ty_tup, ty_str, ty_non, List.map_cons, List.map_nil, List.length_cons, List.length_nil, List.replicate, List.cons_append, List.nil_append, List.getElem?_cons_zero, List.getElem?_cons_succ, List.set_cons_zero, List.set_cons_succ, List.zip_cons_cons, List.zip_nil_right, List.zip_nil_left, Option.some.injEq, exists_eq_left', exists_eq_left, Nat.reduceAdd, Nat.reduceSub, Nat.reduceEqDiff, PyData.bool.injEq, PyData.int.injEq, PyData.list.injEq, PyData.tuple.injEq, if_true, if_false, reduceIte, true_and, and_true, decide_true, decide_false, Bool.false_eq_true, z2])
    rw [q12, q40]
    refine drop_then (by decide) (by exact small9 (by decide)) fun u g3 u0 u1 => ?_
    have : u = 0 ∨ u = 1 := by omega
    rcases this with rfl | rfl
    · exact ⟨.int 1000000000000, rfl, low_fr (by decide) (by decide) (by omega) _⟩
    · exact ⟨.int 10000000000000000000000000000000000000000, rfl, low_fr (by decide) (by decide) (by omega) _⟩
  · (try simp only [fEq_int, fNe_int, ok_eK, ok_lNil, ok_lCons, ok_e2, ok_e1, ok_eF, ok_eTup, ok_nLst, ok_eN, ok_mB, ok_mTru, ok_mNot, ok_mAnd, ok_mOr, ok_eAnd, ok_eOr, ok_eNot, ok_eIf, ok_eIsi, ok_eIsi2, ok_eTyC, ok_eCall, ok_eCallK, ok_oNo, ok_oAt, ok_eSl, ok_iOf, ok_iOfT, ok_iRg1, oks_sNx, oks_sSeq, oks_sSet, oks_sOwn, oks_sDrop, oks_sRet, oks_sIf, oks_sAsg, oks_sPar, oks_sFor, ok_runD, ok_some, oks_some, startE, eV, setsE, Tg.parts, fAdd_int, fAdd_lst, fAdd_tup, fSub_int, fMul_int, fDiv_int, fMod_int, fPow_int, fLt_int, fLe_int, fGt_int, fGe_int, fNeg_int, fIx_lst, fIx_tup, fLen_lst, fLen_tup, fAbs_int, fInt1_int, fInt1_bl, fGcd_int, fTuple_lst, fTuple_tup, fList_lst, fList_tup, fTru_bl, fTru_lst, fTru_tup, fIsB_bl, atI_0, atI_1, ty_int, ty_bl, ty_lst, ty_tup, ty_str, ty_non, List.map_cons, List.map_nil, List.length_cons, List.length_nil, List.replicate, List.cons_append, List.nil_append, List.getElem?_cons_zero, List.getElem?_cons_succ, List.set_cons_zero, List.set_cons_succ, List.zip_cons_cons, List.zip_nil_right, List.zip_nil_left, Option.some.injEq, exists_eq_left', exists_eq_left, Nat.reduceAdd, Nat.reduceSub, Nat.reduceEqDiff, PyData.bool.injEq, PyData.int.injEq, PyData.list.injEq, PyData.tuple.injEq, if_true, if_false, reduceIte, true_and, and_true, decide_true, decide_false, Bool.false_eq_true, fEq_int, n50, n51, n52, n53, n54])
    refine drop_then (by decide) (by exact small9 (by decide)) fun v g2 v0 v1 => ?_
    (try simp only [fEq_int, fNe_int, ok_eK, ok_lNil, ok_lCons, ok_e2, ok_e1, ok_eF, ok_eTup, ok_nLst, ok_eN, ok_mB, ok_mTru, ok_mNot, ok_mAnd, ok_mOr, ok_eAnd, ok_eOr, ok_eNot, ok_eIf, ok_eIsi, ok_eIsi2, ok_eTyC, ok_eCall, ok_eCallK, ok_oNo, ok_oAt, ok_eSl, ok_iOf, ok_iOfT, ok_iRg1, oks_sNx, oks_sSeq, oks_sSet, oks_sOwn, oks_sDrop, oks_sRet, oks_sIf, oks_sAsg, oks_sPar, oks_sFor, ok_runD, ok_some, oks_some, startE, eV, setsE, Tg.parts, fAdd_int, fAdd_lst, fAdd_tup, fSub_int, fMul_int, fDiv_int, fMod_int, fPow_int, fLt_int, fLe_int, fGt_int, fGe_int, fNeg_int, fIx_lst, fIx_tup, fLen_lst, fLen_tup, fAbs_int, fInt1_int, fInt1_bl, fGcd_int, fTuple_lst, fTuple_tup, fList_lst, fList_tup, fTru_bl, fTru_lst, fTru_tup, fIsB_bl, atI_0, atI_1, ty_int, ty_bl, ty_lst, ty_tup, ty_str, ty_non, List.map_cons, List.map_nil, List.length_cons, List.length_nil, List.replicate, List.cons_append, List.nil_append, List.getElem?_cons_zero, List.getElem?_cons_succ, List.set_cons_zero, List.set_cons_succ, List.zip_cons_cons, List.zip_nil_right, List.zip_nil_left, Option.some.injEq, exists_eq_left', exists_eq_left, Nat.reduceAdd, Nat.reduceSub, Nat.reduceEqDiff, PyData.bool.injEq, PyData.int.injEq, PyData.list.injEq, PyData.tuple.injEq, if_true, if_false, reduceIte, true_and, and_true, decide_true, decide_false, Bool.false_eq_true, fEq_int])
    by_cases hv : v = 0
    · simp only [hv, decide_true, if_true]
      (try simp only [fEq_int, fNe_int, ok_eK, ok_lNil, ok_lCons, ok_e2, ok_e1, ok_eF, ok_eTup, ok_nLst, ok_eN, ok_mB, ok_mTru, ok_mNot, ok_mAnd, ok_mOr, ok_eAnd, ok_eOr, ok_eNot, ok_eIf, ok_eIsi, ok_eIsi2, ok_eTyC, ok_eCall, ok_eCallK, ok_oNo, ok_oAt, ok_eSl, ok_iOf, ok_iOfT, ok_iRg1, oks_sNx, oks_sSeq, oks_sSet, oks_sOwn, oks_sDrop, oks_sRet, oks_sIf, oks_sAsg, oks_sPar, oks_sFor, ok_runD, ok_some, oks_some, startE, eV, setsE, Tg.parts, fAdd_int, fAdd_lst, fAdd_tup, fSub_int, fMul_int, fDiv_int, fMod_int, fPow_int, fLt_int, fLe_int, fGt_int, fGe_int, fNeg_int, fIx_lst, fIx_tup, fLen_lst, fLen_tup, fAbs_int, fInt1_int, fInt1_bl, fGcd_int, fTuple_lst, fTuple_tup, fList_lst, fList_tup, fTru_bl, fTru_lst, fTru_tup, fIsB_bl, atI_0, atI_1, ty_int, ty_bl, ty_lst, ty_tup, ty_str, ty_non, List.map_cons, List.map_nil, List.length_cons, List.length_nil, List.replicate, List.cons_append, List.nil_append, List.getElem?_cons_zero, List.getElem?_cons_succ, List.set_cons_zero, List.set_cons_succ, List.zip_cons_cons, List.zip_nil_right, List.zip_nil_left, Option.some.injEq, exists_eq_left', exists_eq_left, Nat.reduceAdd, Nat.reduceSub, Nat.reduceEqDiff, PyData.bool.injEq, PyData.int.injEq, PyData.list.injEq, PyData.tuple.injEq, if_true, if_false, reduceIte, true_and, and_true, decide_true, decide_false, Bool.false_eq_true])
      refine drop_then (by decide) (by exact small9 (by decide)) fun x g3 x0 x1 => ?_
      rw [if_pos c40]
      (try simp only [fEq_int, fNe_int, ok_eK, ok_lNil, ok_lCons, ok_e2, ok_e1, ok_eF, ok_eTup, ok_nLst, ok_eN, ok_mB, ok_mTru, ok_mNot, ok_mAnd, ok_mOr, ok_eAnd, ok_eOr, ok_eNot, ok_eIf, ok_eIsi, ok_eIsi2, ok_eTyC, ok_eCall, ok_eCallK, ok_oNo, ok_oAt, ok_eSl, ok_iOf, ok_iOfT, ok_iRg1, oks_sNx, oks_sSeq, oks_sSet, oks_sOwn, oks_sDrop, oks_sRet, oks_sIf, oks_sAsg, oks_sPar, oks_sFor, ok_runD, ok_some, oks_some, startE, eV, setsE, Tg.parts, fAdd_int, fAdd_lst, fAdd_tup, fSub_int, fMul_int, fDiv_int, fMod_int, fPow_int, fLt_int, fLe_int, fGt_int, fGe_int, fNeg_int, fIx_lst, fIx_tup, fLen_lst, fLen_tup, fAbs_int, fInt1_int, fInt1_bl, fGcd_int, fTuple_lst, fTuple_tup, fList_lst, fList_tup, fTru_bl, fTru_lst, fTru_tup, fIsB_bl, atI_0, atI_1, ty_int, ty_bl, ty_lst, ty_tup, ty_str, ty_non, List.map_cons, List.map_nil, List.length_cons, List.length_nil, List.replicate, List.cons_append, List.nil_append, List.getElem?_cons_zero, List.getElem?_cons_succ, List.set_cons_zero, List.set_cons_succ, List.zip_cons_cons, List.zip_nil_right, List.zip_nil_left, Option.some.injEq, exists_eq_left', exists_eq_left, Nat.reduceAdd, Nat.reduceSub, Nat.reduceEqDiff, PyData.bool.injEq, PyData.int.injEq, PyData.list.injEq, PyData.tuple.injEq, if_true, if_false, reduceIte, true_and, and_true, decide_true, decide_false, Bool.false_eq_true])
      rw [q40]
      have cm : cMul (x - 99) 10000000000000000000000000000000000000000 = true := by
        unfold cMul
        have : (x - 99).natAbs < 2 ^ 64 := by omega
        rw [decide_eq_true this, Bool.true_or, Bool.true_or]
      (try simp only [fEq_int, fNe_int, ok_eK, ok_lNil, ok_lCons, ok_e2, ok_e1, ok_eF, ok_eTup, ok_nLst, ok_eN, ok_mB, ok_mTru, ok_mNot, ok_mAnd, ok_mOr, ok_eAnd, ok_eOr, ok_eNot, ok_eIf, ok_eIsi, ok_eIsi2, ok_eTyC, ok_eCall, ok_eCallK, ok_oNo, ok_oAt, ok_eSl, ok_iOf, ok_iOfT, ok_iRg1, oks_sNx, oks_sSeq, oks_sSet, oks_sOwn, oks_sDrop, oks_sRet, oks_sIf, oks_sAsg, oks_sPar, oks_sFor, ok_runD, ok_some, oks_some, startE, eV, setsE, Tg.parts, fAdd_int, fAdd_lst, fAdd_tup, fSub_int, fMul_int, fDiv_int, fMod_int, fPow_int, fLt_int, fLe_int, fGt_int, fGe_int, fNeg_int, fIx_lst, fIx_tup, fLen_lst, fLen_tup, fAbs_int, fInt1_int, fInt1_bl, fGcd_int, fTuple_lst, fTuple_tup, fList_lst, fList_tup, fTru_bl, fTru_lst, fTru_tup, fIsB_bl, atI_0, atI_1, ty_int, ty_bl, ty_lst, ty_tup, ty_str, ty_non, List.map_cons, List.map_nil, List.length_cons, List.length_nil, List.replicate, List.cons_append, List.nil_append, List.getElem?_cons_zero, List.getElem?_cons_succ, List.set_cons_zero, List.set_cons_succ, List.zip_cons_cons, List.zip_nil_right, List.zip_nil_left, Option.some.injEq, exists_eq_left', exists_eq_left, Nat.reduceAdd, Nat.reduceSub, Nat.reduceEqDiff, PyData.bool.injEq, PyData.int.injEq, PyData.list.injEq, PyData.tuple.injEq, if_true, if_false, reduceIte, true_and, and_true, decide_true, decide_false, Bool.false_eq_true, cm, z2])
      exact int_fr _ (by omega) _
    · simp only [hv, decide_false, Bool.false_eq_true, if_false]
      (try simp only [fEq_int, fNe_int, ok_eK, ok_lNil, ok_lCons, ok_e2, ok_e1, ok_eF, ok_eTup, ok_nLst, ok_eN, ok_mB, ok_mTru, ok_mNot, ok_mAnd, ok_mOr, ok_eAnd, ok_eOr, ok_eNot, ok_eIf, ok_eIsi, ok_eIsi2, ok_eTyC, ok_eCall, ok_eCallK, ok_oNo, ok_oAt, ok_eSl, ok_iOf, ok_iOfT, ok_iRg1, oks_sNx, oks_sSeq, oks_sSet, oks_sOwn, oks_sDrop, oks_sRet, oks_sIf, oks_sAsg, oks_sPar, oks_sFor, ok_runD, ok_some, oks_some, startE, eV, setsE, Tg.parts, fAdd_int, fAdd_lst, fAdd_tup, fSub_int, fMul_int, fDiv_int, fMod_int, fPow_int, fLt_int, fLe_int, fGt_int, fGe_int, fNeg_int, fIx_lst, fIx_tup, fLen_lst, fLen_tup, fAbs_int, fInt1_int, fInt1_bl, fGcd_int, fTuple_lst, fTuple_tup, fList_lst, fList_tup, fTru_bl, fTru_lst, fTru_tup, fIsB_bl, atI_0, atI_1, ty_int, ty_bl, ty_lst, ty_tup, ty_str, ty_non, List.map_cons, List.map_nil, List.length_cons, List.length_nil, List.replicate, List.cons_append, List.nil_append, List.getElem?_cons_zero, List.getElem?_cons_succ, List.set_cons_zero, List.set_cons_succ, List.zip_cons_cons, List.zip_nil_right, List.zip_nil_left, Option.some.injEq, exists_eq_left', exists_eq_left, Nat.reduceAdd, Nat.reduceSub, Nat.reduceEqDiff, PyData.bool.injEq, PyData.int.injEq, PyData.list.injEq, PyData.tuple.injEq, if_true, if_false, reduceIte, true_and, and_true, decide_true, decide_false, Bool.false_eq_true])
      exact (number_ok g2).mono fun d g2 h => h
theorem Sz.low {t b : Int} {n : Nat} (hb : b ≠ 0) (ht : t.natAbs < 2 ^ n) (h : b.natAbs < 2 ^ n) (hn : n ≤ 9000) (g : G) : ∃ r : Rat, F_law_low [.int t, .int b] g = some (fr r, g) ∧ Sz n r :=
  ⟨_, low_ok hb (bd9 h hn) g, divInt_sz hb ht h⟩
theorem s4 : Sz 4 (10 : Rat) := by constructor <;> decide
theorem s4' : Sz 4 (1 / 10 : Rat) := by constructor <;> decide +kernel
theorem Sz.one (n : Nat) (h : 0 < n) : Sz n (1 : Rat) := ⟨Nat.one_lt_two_pow (by omega), Nat.one_lt_two_pow (by omega)⟩
def IsAx (d : D) : Prop := ∃ lo hi : Rat, d = .tuple [fr lo, fr hi] ∧ lo < hi ∧ Sz 200 lo ∧ Sz 200 hi
abbrev EA (w : Int) (a b : Rat) (x4 x5 : Sl) : En := [SP, .val (.int w), .val (fr a), .val (fr b), x4, x5]
theorem axis_ok (g : G) : Ok (F_law_axis [.dict []] g) fun d _ => IsAx d := by
  have z2 : 2 ≤ sizeLine := sz_ok (by decide)
  have z6 : 6 ≤ sizeLine := sz_ok (by decide)
  have n10 : decide ((1 : Int) = 0) = false := by decide
  unfold F_law_axis m_law_axis
  rw [ok_runD]
  refine oks_seqI (P := fun E' _ => ∃ a b : Rat, Sz 140 a ∧ Sz 140 b ∧ E' = [SP, .no, .val (fr a), .val (fr b), .no, .no]) ?_ ?_
  · (try simp only [fEq_int, fNe_int, ok_eK, ok_lNil, ok_lCons, ok_e2, ok_e1, ok_eF, ok_eTup, ok_nLst, ok_eN, ok_mB, ok_mTru, ok_mNot, ok_mAnd, ok_mOr, ok_eAnd, ok_eOr, ok_eNot, ok_eIf, ok_eIsi, ok_eIsi2, ok_eTyC, ok_eCall, ok_eCallK, ok_oNo, ok_oAt, ok_eSl, ok_iOf, ok_iOfT, ok_iRg1, oks_sNx, oks_sSeq, oks_sSet, oks_sOwn, oks_sDrop, oks_sRet, oks_sIf, oks_sAsg, oks_sPar, oks_sFor, ok_runD, ok_some, oks_some, startE, eV, setsE, Tg.parts, fAdd_int, fAdd_lst, fAdd_tup, fSub_int, fMul_int, fDiv_int, fMod_int, fPow_int, fLt_int, fLe_int, fGt_int, fGe_int, fNeg_int, fIx_lst, fIx_tup, fLen_lst, fLen_tup, fAbs_int, fInt1_int, fInt1_bl, fGcd_int, fTuple_lst, fTuple_tup, fList_lst, fList_tup, fTru_bl, fTru_lst, fTru_tup, fIsB_bl, atI_0, atI_1, ty_int, ty_bl, ty_lst, ty_tup, ty_str, ty_non, List.map_cons, List.map_nil, List.length_cons, List.length_nil, List.replicate, List.cons_append, List.nil_append, List.getElem?_cons_zero, List.getElem?_cons_succ, List.set_cons_zero, List.set_cons_succ, List.zip_cons_cons, List.zip_nil_right, List.zip_nil_left, Option.some.injEq, exists_eq_left', exists_eq_left, Nat.reduceAdd, Nat.reduceSub, Nat.reduceEqDiff, PyData.bool.injEq, PyData.int.injEq, PyData.list.injEq, PyData.tuple.injEq, if_true, if_false, reduceIte, true_and, and_true, decide_true, decide_false, Bool.false_eq_true])
    refine (end_ok g).mono fun d g1 ⟨a, ha, sa⟩ => ?_
    refine (end_ok g1).mono fun d2 g2 ⟨b, hb, sb⟩ => ?_
    subst ha; subst hb
    exact ⟨a, b, sa, sb, rfl⟩
  rintro _ g1 ⟨a, b, sa, sb, rfl⟩
  refine oks_seqI (P := fun E' _ => ∃ w : Int, 0 ≤ w ∧ w < 4 ∧ E' = EA w a b .no .no) ?_ ?_
  · (try simp only [fEq_int, fNe_int, ok_eK, ok_lNil, ok_lCons, ok_e2, ok_e1, ok_eF, ok_eTup, ok_nLst, ok_eN, ok_mB, ok_mTru, ok_mNot, ok_mAnd, ok_mOr, ok_eAnd, ok_eOr, ok_eNot, ok_eIf, ok_eIsi, ok_eIsi2, ok_eTyC, ok_eCall, ok_eCallK, ok_oNo, ok_oAt, ok_eSl, ok_iOf, ok_iOfT, ok_iRg1, oks_sNx, oks_sSeq, oks_sSet, oks_sOwn, oks_sDrop, oks_sRet, oks_sIf, oks_sAsg, oks_sPar, oks_sFor, ok_runD, ok_some, oks_some, startE, eV, setsE, Tg.parts, fAdd_int, fAdd_lst, fAdd_tup, fSub_int, fMul_int, fDiv_int, fMod_int, fPow_int, fLt_int, fLe_int, fGt_int, fGe_int, fNeg_int, fIx_lst, fIx_tup, fLen_lst, fLen_tup, fAbs_int, fInt1_int, fInt1_bl, fGcd_int, fTuple_lst, fTuple_tup, fList_lst, fList_tup, fTru_bl, fTru_lst, fTru_tup, fIsB_bl, atI_0, atI_1, ty_int, ty_bl, ty_lst, ty_tup, ty_str, ty_non, List.map_cons, List.map_nil, List.length_cons, List.length_nil, List.replicate, List.cons_append, List.nil_append, List.getElem?_cons_zero, List.getElem?_cons_succ, List.set_cons_zero, List.set_cons_succ, List.zip_cons_cons, List.zip_nil_right, List.zip_nil_left, Option.some.injEq, exists_eq_left', exists_eq_left, Nat.reduceAdd, Nat.reduceSub, Nat.reduceEqDiff, PyData.bool.injEq, PyData.int.injEq, PyData.list.injEq, PyData.tuple.injEq, if_true, if_false, reduceIte, true_and, and_true, decide_true, decide_false, Bool.false_eq_true])
    refine drop_then (by decide) (by exact small9 (by decide)) fun w g2 w0 w1 => ?_
    exact ⟨w, w0, w1, rfl⟩
  rintro _ g2 ⟨w, w0, w1, rfl⟩
  refine oks_seqI (P := fun E' _ => ∃ b : Rat, Sz 181 b ∧ E' = EA w a b .no .no) ?_ ?_
  · by_cases hw : w = 0
    · subst hw
      (try simp only [fEq_int, fNe_int, ok_eK, ok_lNil, ok_lCons, ok_e2, ok_e1, ok_eF, ok_eTup, ok_nLst, ok_eN, ok_mB, ok_mTru, ok_mNot, ok_mAnd, ok_mOr, ok_eAnd, ok_eOr, ok_eNot, ok_eIf, ok_eIsi, ok_eIsi2, ok_eTyC, ok_eCall, ok_eCallK, ok_oNo, ok_oAt, ok_eSl, ok_iOf, ok_iOfT, ok_iRg1, oks_sNx, oks_sSeq, oks_sSet, oks_sOwn, oks_sDrop, oks_sRet, oks_sIf, oks_sAsg, oks_sPar, oks_sFor, ok_runD, ok_some, oks_some, startE, eV, setsE, Tg.parts, fAdd_int, fAdd_lst, fAdd_tup, fSub_int, fMul_int, fDiv_int, fMod_int, fPow_int, fLt_int, fLe_int, fGt_int, fGe_int, fNeg_int, fIx_lst, fIx_tup, fLen_lst, fLen_tup, fAbs_int, fInt1_int, fInt1_bl, fGcd_int, fTuple_lst, fTuple_tup, fList_lst, fList_tup, fTru_bl, fTru_lst, fTru_tup, fIsB_bl, atI_0, atI_1, ty_int, ty_bl, ty_lst, ty_tup, ty_str, ty_non, List.map_cons, List.map_nil, List.length_cons, List.length_nil, List.replicate, List.cons_append, List.nil_append, List.getElem?_cons_zero, List.getElem?_cons_succ, List.set_cons_zero, List.set_cons_succ, List.zip_cons_cons, List.zip_nil_right, List.zip_nil_left, Option.some.injEq, exists_eq_left', exists_eq_left, Nat.reduceAdd, Nat.reduceSub, Nat.reduceEqDiff, PyData.bool.injEq, PyData.int.injEq, PyData.list.injEq, PyData.tuple.injEq, if_true, if_false, reduceIte, true_and, and_true, decide_true, decide_false, Bool.false_eq_true, fEq_int])
      refine drop_then (by decide) (by exact small9 (by decide)) fun v g3 v0 v1 => ?_
      (try simp only [fEq_int, fNe_int, ok_eK, ok_lNil, ok_lCons, ok_e2, ok_e1, ok_eF, ok_eTup, ok_nLst, ok_eN, ok_mB, ok_mTru, ok_mNot, ok_mAnd, ok_mOr, ok_eAnd, ok_eOr, ok_eNot, ok_eIf, ok_eIsi, ok_eIsi2, ok_eTyC, ok_eCall, ok_eCallK, ok_oNo, ok_oAt, ok_eSl, ok_iOf, ok_iOfT, ok_iRg1, oks_sNx, oks_sSeq, oks_sSet, oks_sOwn, oks_sDrop, oks_sRet, oks_sIf, oks_sAsg, oks_sPar, oks_sFor, ok_runD, ok_some, oks_some, startE, eV, setsE, Tg.parts, fAdd_int, fAdd_lst, fAdd_tup, fSub_int, fMul_int, fDiv_int, fMod_int, fPow_int, fLt_int, fLe_int, fGt_int, fGe_int, fNeg_int, fIx_lst, fIx_tup, fLen_lst, fLen_tup, fAbs_int, fInt1_int, fInt1_bl, fGcd_int, fTuple_lst, fTuple_tup, fList_lst, fList_tup, fTru_bl, fTru_lst, fTru_tup, fIsB_bl, atI_0, atI_1, ty_int, ty_bl, ty_lst, ty_tup, ty_str, ty_non, List.map_cons, List.map_nil, List.length_cons, List.length_nil, List.replicate, List.cons_append, List.nil_append, List.getElem?_cons_zero, List.getElem?_cons_succ, List.set_cons_zero, List.set_cons_succ, List.zip_cons_cons, List.zip_nil_right, List.zip_nil_left, Option.some.injEq, exists_eq_left', exists_eq_left, Nat.reduceAdd, Nat.reduceSub, Nat.reduceEqDiff, PyData.bool.injEq, PyData.int.injEq, PyData.list.injEq, PyData.tuple.injEq, if_true, if_false, reduceIte, true_and, and_true, decide_true, decide_false, Bool.false_eq_true, z6])
      refine drop_then (by decide) (by exact small9 (by decide)) fun u g4 u0 u1 => ?_
      have hc : ∃ c : Int, 1 ≤ c ∧ c ≤ 100 ∧ atI [PyData.int 1, .int 2, .int 5, .int 10, .int 100, .int 7] u = some (.int c) := by
        have : u = 0 ∨ u = 1 ∨ u = 2 ∨ u = 3 ∨ u = 4 ∨ u = 5 := by omega
        rcases this with rfl | rfl | rfl | rfl | rfl | rfl
        · exact ⟨1, by decide, by decide, rfl⟩
        · exact ⟨2, by decide, by decide, rfl⟩
        · exact ⟨5, by decide, by decide, rfl⟩
        · exact ⟨10, by decide, by decide, rfl⟩
        · exact ⟨100, by decide, by decide, rfl⟩
        · exact ⟨7, by decide, by decide, rfl⟩
      obtain ⟨c, c0, c1, hc⟩ := hc
      refine ⟨_, hc, ?_⟩
      obtain ⟨r, hr, sr⟩ := Sz.low (t := 1 + v) (b := c) (n := 10) (by omega) (by omega) (by omega) (by decide) g4
      rw [ok_eq hr, ok_eq (lplus2 sa sr (by decide) g4)]
      exact ⟨_, (sa.add sr).mono (by decide), rfl⟩
    · simp only [EA]
      (try simp only [fEq_int, fNe_int, ok_eK, ok_lNil, ok_lCons, ok_e2, ok_e1, ok_eF, ok_eTup, ok_nLst, ok_eN, ok_mB, ok_mTru, ok_mNot, ok_mAnd, ok_mOr, ok_eAnd, ok_eOr, ok_eNot, ok_eIf, ok_eIsi, ok_eIsi2, ok_eTyC, ok_eCall, ok_eCallK, ok_oNo, ok_oAt, ok_eSl, ok_iOf, ok_iOfT, ok_iRg1, oks_sNx, oks_sSeq, oks_sSet, oks_sOwn, oks_sDrop, oks_sRet, oks_sIf, oks_sAsg, oks_sPar, oks_sFor, ok_runD, ok_some, oks_some, startE, eV, setsE, Tg.parts, fAdd_int, fAdd_lst, fAdd_tup, fSub_int, fMul_int, fDiv_int, fMod_int, fPow_int, fLt_int, fLe_int, fGt_int, fGe_int, fNeg_int, fIx_lst, fIx_tup, fLen_lst, fLen_tup, fAbs_int, fInt1_int, fInt1_bl, fGcd_int, fTuple_lst, fTuple_tup, fList_lst, fList_tup, fTru_bl, fTru_lst, fTru_tup, fIsB_bl, atI_0, atI_1, ty_int, ty_bl, ty_lst, ty_tup, ty_str, ty_non, List.map_cons, List.map_nil, List.length_cons, List.length_nil, List.replicate, List.cons_append, List.nil_append, List.getElem?_cons_zero, List.getElem?_cons_succ, List.set_cons_zero, List.set_cons_succ, List.zip_cons_cons, List.zip_nil_right, List.zip_nil_left, Option.some.injEq, exists_eq_left', exists_eq_left, Nat.reduceAdd, Nat.reduceSub, Nat.reduceEqDiff, PyData.bool.injEq, PyData.int.injEq, PyData.list.injEq, PyData.tuple.injEq, if_true, if_false, reduceIte, true_and, and_true, decide_true, decide_false, Bool.false_eq_true, fEq_int, hw])
      exact ⟨b, sb.mono (by decide), rfl⟩
  rintro _ g3 ⟨b, sb, rfl⟩
  refine oks_seqI (P := fun E' _ => ∃ (b : Rat) (x4 x5 : Sl), Sz 181 b ∧ E' = EA w a b x4 x5) ?_ ?_
  · by_cases hw : w = 1
    · subst hw
      have hcd : mB (e2 fEq (eV false 1) (eK (.int 1))) (EA 1 a b .no .no) g3 = some (true, g3) := by
        refine Ok.eq ?_
        (try simp only [fEq_int, fNe_int, ok_eK, ok_lNil, ok_lCons, ok_e2, ok_e1, ok_eF, ok_eTup, ok_nLst, ok_eN, ok_mB, ok_mTru, ok_mNot, ok_mAnd, ok_mOr, ok_eAnd, ok_eOr, ok_eNot, ok_eIf, ok_eIsi, ok_eIsi2, ok_eTyC, ok_eCall, ok_eCallK, ok_oNo, ok_oAt, ok_eSl, ok_iOf, ok_iOfT, ok_iRg1, oks_sNx, oks_sSeq, oks_sSet, oks_sOwn, oks_sDrop, oks_sRet, oks_sIf, oks_sAsg, oks_sPar, oks_sFor, ok_runD, ok_some, oks_some, startE, eV, setsE, Tg.parts, fAdd_int, fAdd_lst, fAdd_tup, fSub_int, fMul_int, fDiv_int, fMod_int, fPow_int, fLt_int, fLe_int, fGt_int, fGe_int, fNeg_int, fIx_lst, fIx_tup, fLen_lst, fLen_tup, fAbs_int, fInt1_int, fInt1_bl, fGcd_int, fTuple_lst, fTuple_tup, fList_lst, fList_tup, fTru_bl, fTru_lst, fTru_tup, fIsB_bl, atI_0, atI_1, ty_int, ty_bl, ty_lst, ty_tup, ty_str, ty_non, List.map_cons, List.map_nil, List.length_cons, List.length_nil, List.replicate, List.cons_append, List.nil_append, List.getElem?_cons_zero, List.getElem?_cons_succ, List.set_cons_zero, List.set_cons_succ, List.zip_cons_cons, List.zip_nil_right, List.zip_nil_left, Option.some.injEq, exists_eq_left', exists_eq_left, Nat.reduceAdd, Nat.reduceSub, Nat.reduceEqDiff, PyData.bool.injEq, PyData.int.injEq, PyData.list.injEq, PyData.tuple.injEq, if_true, if_false, reduceIte, true_and, and_true, decide_true, decide_false, Bool.false_eq_true, fEq_int])
      rw [oks_sIf, ok_eq hcd, if_pos rfl]
      refine oks_seqI (P := fun E' _ => ∃ r : Rat, Sz 7 r ∧ E' = EA 1 a b (.val (fr r)) .no) ?_ ?_
      · (try simp only [fEq_int, fNe_int, ok_eK, ok_lNil, ok_lCons, ok_e2, ok_e1, ok_eF, ok_eTup, ok_nLst, ok_eN, ok_mB, ok_mTru, ok_mNot, ok_mAnd, ok_mOr, ok_eAnd, ok_eOr, ok_eNot, ok_eIf, ok_eIsi, ok_eIsi2, ok_eTyC, ok_eCall, ok_eCallK, ok_oNo, ok_oAt, ok_eSl, ok_iOf, ok_iOfT, ok_iRg1, oks_sNx, oks_sSeq, oks_sSet, oks_sOwn, oks_sDrop, oks_sRet, oks_sIf, oks_sAsg, oks_sPar, oks_sFor, ok_runD, ok_some, oks_some, startE, eV, setsE, Tg.parts, fAdd_int, fAdd_lst, fAdd_tup, fSub_int, fMul_int, fDiv_int, fMod_int, fPow_int, fLt_int, fLe_int, fGt_int, fGe_int, fNeg_int, fIx_lst, fIx_tup, fLen_lst, fLen_tup, fAbs_int, fInt1_int, fInt1_bl, fGcd_int, fTuple_lst, fTuple_tup, fList_lst, fList_tup, fTru_bl, fTru_lst, fTru_tup, fIsB_bl, atI_0, atI_1, ty_int, ty_bl, ty_lst, ty_tup, ty_str, ty_non, List.map_cons, List.map_nil, List.length_cons, List.length_nil, List.replicate, List.cons_append, List.nil_append, List.getElem?_cons_zero, List.getElem?_cons_succ, List.set_cons_zero, List.set_cons_succ, List.zip_cons_cons, List.zip_nil_right, List.zip_nil_left, Option.some.injEq, exists_eq_left', exists_eq_left, Nat.reduceAdd, Nat.reduceSub, Nat.reduceEqDiff, PyData.bool.injEq, PyData.int.injEq, PyData.list.injEq, PyData.tuple.injEq, if_true, if_false, reduceIte, true_and, and_true, decide_true, decide_false, Bool.false_eq_true, z6])
        refine drop_then (by decide) (by exact small9 (by decide)) fun u g4 u0 u1 => ?_
        have hc : ∃ c : Int, 1 ≤ c ∧ c ≤ 99 ∧ atI [PyData.int 1, .int 2, .int 5, .int 10, .int 11, .int 99] u = some (.int c) := by
          have : u = 0 ∨ u = 1 ∨ u = 2 ∨ u = 3 ∨ u = 4 ∨ u = 5 := by omega
          rcases this with rfl | rfl | rfl | rfl | rfl | rfl
          · exact ⟨1, by decide, by decide, rfl⟩
          · exact ⟨2, by decide, by decide, rfl⟩
          · exact ⟨5, by decide, by decide, rfl⟩
          · exact ⟨10, by decide, by decide, rfl⟩
          · exact ⟨11, by decide, by decide, rfl⟩
          · exact ⟨99, by decide, by decide, rfl⟩
        obtain ⟨c, c0, c1, hc⟩ := hc
        refine ⟨_, hc, ?_⟩
        obtain ⟨r, hr, sr⟩ := Sz.low (t := c) (b := 1) (n := 7) (by decide) (by omega) (by decide) (by decide) g4
        rw [ok_eq hr]
        exact ⟨r, sr, rfl⟩
      rintro _ g4 ⟨r, sr, rfl⟩
      refine oks_seqI (P := fun E' _ => ∃ (r : Rat) (x5 : Sl), Sz 40 r ∧ E' = EA 1 a b (.val (fr r)) x5) ?_ ?_
      · rw [oks_sFor, ok_iRg1]
        (try simp only [fEq_int, fNe_int, ok_eK, ok_lNil, ok_lCons, ok_e2, ok_e1, ok_eF, ok_eTup, ok_nLst, ok_eN, ok_mB, ok_mTru, ok_mNot, ok_mAnd, ok_mOr, ok_eAnd, ok_eOr, ok_eNot, ok_eIf, ok_eIsi, ok_eIsi2, ok_eTyC, ok_eCall, ok_eCallK, ok_oNo, ok_oAt, ok_eSl, ok_iOf, ok_iOfT, ok_iRg1, oks_sNx, oks_sSeq, oks_sSet, oks_sOwn, oks_sDrop, oks_sRet, oks_sIf, oks_sAsg, oks_sPar, oks_sFor, ok_runD, ok_some, oks_some, startE, eV, setsE, Tg.parts, fAdd_int, fAdd_lst, fAdd_tup, fSub_int, fMul_int, fDiv_int, fMod_int, fPow_int, fLt_int, fLe_int, fGt_int, fGe_int, fNeg_int, fIx_lst, fIx_tup, fLen_lst, fLen_tup, fAbs_int, fInt1_int, fInt1_bl, fGcd_int, fTuple_lst, fTuple_tup, fList_lst, fList_tup, fTru_bl, fTru_lst, fTru_tup, fIsB_bl, atI_0, atI_1, ty_int, ty_bl, ty_lst, ty_tup, ty_str, ty_non, List.map_cons, List.map_nil, List.length_cons, List.length_nil, List.replicate, List.cons_append, List.nil_append, List.getElem?_cons_zero, List.getElem?_cons_succ, List.set_cons_zero, List.set_cons_succ, List.zip_cons_cons, List.zip_nil_right, List.zip_nil_left, Option.some.injEq, exists_eq_left', exists_eq_left, Nat.reduceAdd, Nat.reduceSub, Nat.reduceEqDiff, PyData.bool.injEq, PyData.int.injEq, PyData.list.injEq, PyData.tuple.injEq, if_true, if_false, reduceIte, true_and, and_true, decide_true, decide_false, Bool.false_eq_true])
        refine drop_then (by decide) (by exact small9 (by decide)) fun v g5 v0 v1 => ?_
        have p62 : (1000 : Int) < 2 ^ 62 := by decide
        refine ⟨v, rfl, by omega, ?_⟩
        unfold intsD
        have hv : v.toNat ≤ 8 := by omega
        refine (forL_0 (I := fun j E' _ => ∃ (r : Rat) (x5 : Sl), Sz (7 + 4 * j) r ∧ E' = EA 1 a b (.val (fr r)) x5) (fun i => .int (0 + (i : Int))) v.toNat (fun j hj E' g6 ⟨r, x5, sr, hE⟩ => ?_) ⟨r, .no, sr, rfl⟩).mono fun r' E' g' ⟨h1, r, x5, sr, h2⟩ => ⟨h1, r, x5, sr.mono (by omega), h2⟩
        subst hE
        refine ⟨[(5, .int (0 + (j : Int)))], rfl, ?_⟩
        (try simp only [fEq_int, fNe_int, ok_eK, ok_lNil, ok_lCons, ok_e2, ok_e1, ok_eF, ok_eTup, ok_nLst, ok_eN, ok_mB, ok_mTru, ok_mNot, ok_mAnd, ok_mOr, ok_eAnd, ok_eOr, ok_eNot, ok_eIf, ok_eIsi, ok_eIsi2, ok_eTyC, ok_eCall, ok_eCallK, ok_oNo, ok_oAt, ok_eSl, ok_iOf, ok_iOfT, ok_iRg1, oks_sNx, oks_sSeq, oks_sSet, oks_sOwn, oks_sDrop, oks_sRet, oks_sIf, oks_sAsg, oks_sPar, oks_sFor, ok_runD, ok_some, oks_some, startE, eV, setsE, Tg.parts, fAdd_int, fAdd_lst, fAdd_tup, fSub_int, fMul_int, fDiv_int, fMod_int, fPow_int, fLt_int, fLe_int, fGt_int, fGe_int, fNeg_int, fIx_lst, fIx_tup, fLen_lst, fLen_tup, fAbs_int, fInt1_int, fInt1_bl, fGcd_int, fTuple_lst, fTuple_tup, fList_lst, fList_tup, fTru_bl, fTru_lst, fTru_tup, fIsB_bl, atI_0, atI_1, ty_int, ty_bl, ty_lst, ty_tup, ty_str, ty_non, List.map_cons, List.map_nil, List.length_cons, List.length_nil, List.replicate, List.cons_append, List.nil_append, List.getElem?_cons_zero, List.getElem?_cons_succ, List.set_cons_zero, List.set_cons_succ, List.zip_cons_cons, List.zip_nil_right, List.zip_nil_left, Option.some.injEq, exists_eq_left', exists_eq_left, Nat.reduceAdd, Nat.reduceSub, Nat.reduceEqDiff, PyData.bool.injEq, PyData.int.injEq, PyData.list.injEq, PyData.tuple.injEq, if_true, if_false, reduceIte, true_and, and_true, decide_true, decide_false, Bool.false_eq_true, z2])
        refine drop_then (by decide) (by exact small9 (by decide)) fun u g7 u0 u1 => ?_
        have hc : ∃ q : Rat, Sz 4 q ∧ atI [PyData.tuple [.int 10, .int 1], .tuple [.int 1, .int 10]] u = some (fr q) := by
          have : u = 0 ∨ u = 1 := by omega
          rcases this with rfl | rfl
          · exact ⟨10, s4, rfl⟩
          · exact ⟨1 / 10, s4', by rw [← fr01]; rfl⟩
        obtain ⟨q, sq, hq⟩ := hc
        refine ⟨_, hq, ?_⟩
        rw [ok_eq (ltimes_ok sr sq (by omega) g7)]
        exact ⟨r * q, .val (.int (0 + (j : Int))), (sr.mul sq).mono (by omega), rfl⟩
      rintro _ g5 ⟨r, x5, sr, rfl⟩
      (try simp only [fEq_int, fNe_int, ok_eK, ok_lNil, ok_lCons, ok_e2, ok_e1, ok_eF, ok_eTup, ok_nLst, ok_eN, ok_mB, ok_mTru, ok_mNot, ok_mAnd, ok_mOr, ok_eAnd, ok_eOr, ok_eNot, ok_eIf, ok_eIsi, ok_eIsi2, ok_eTyC, ok_eCall, ok_eCallK, ok_oNo, ok_oAt, ok_eSl, ok_iOf, ok_iOfT, ok_iRg1, oks_sNx, oks_sSeq, oks_sSet, oks_sOwn, oks_sDrop, oks_sRet, oks_sIf, oks_sAsg, oks_sPar, oks_sFor, ok_runD, ok_some, oks_some, startE, eV, setsE, Tg.parts, fAdd_int, fAdd_lst, fAdd_tup, fSub_int, fMul_int, fDiv_int, fMod_int, fPow_int, fLt_int, fLe_int, fGt_int, fGe_int, fNeg_int, fIx_lst, fIx_tup, fLen_lst, fLen_tup, fAbs_int, fInt1_int, fInt1_bl, fGcd_int, fTuple_lst, fTuple_tup, fList_lst, fList_tup, fTru_bl, fTru_lst, fTru_tup, fIsB_bl, atI_0, atI_1, ty_int, ty_bl, ty_lst, ty_tup, ty_str, ty_non, List.map_cons, List.map_nil, List.length_cons, List.length_nil, List.replicate, List.cons_append, List.nil_append, List.getElem?_cons_zero, List.getElem?_cons_succ, List.set_cons_zero, List.set_cons_succ, List.zip_cons_cons, List.zip_nil_right, List.zip_nil_left, Option.some.injEq, exists_eq_left', exists_eq_left, Nat.reduceAdd, Nat.reduceSub, Nat.reduceEqDiff, PyData.bool.injEq, PyData.int.injEq, PyData.list.injEq, PyData.tuple.injEq, if_true, if_false, reduceIte, true_and, and_true, decide_true, decide_false, Bool.false_eq_true])
      rw [ok_eq (lplus2 sa sr (by decide) g5)]
      exact ⟨_, _, _, (sa.add sr).mono (by decide), rfl⟩
    · simp only [EA]
      (try simp only [fEq_int, fNe_int, ok_eK, ok_lNil, ok_lCons, ok_e2, ok_e1, ok_eF, ok_eTup, ok_nLst, ok_eN, ok_mB, ok_mTru, ok_mNot, ok_mAnd, ok_mOr, ok_eAnd, ok_eOr, ok_eNot, ok_eIf, ok_eIsi, ok_eIsi2, ok_eTyC, ok_eCall, ok_eCallK, ok_oNo, ok_oAt, ok_eSl, ok_iOf, ok_iOfT, ok_iRg1, oks_sNx, oks_sSeq, oks_sSet, oks_sOwn, oks_sDrop, oks_sRet, oks_sIf, oks_sAsg, oks_sPar, oks_sFor, ok_runD, ok_some, oks_some, startE, eV, setsE, Tg.parts, fAdd_int, fAdd_lst, fAdd_tup, fSub_int, fMul_int, fDiv_int, fMod_int, fPow_int, fLt_int, fLe_int, fGt_int, fGe_int, fNeg_int, fIx_lst, fIx_tup, fLen_lst, fLen_tup, fAbs_int, fInt1_int, fInt1_bl, fGcd_int, fTuple_lst, fTuple_tup, fList_lst, fList_tup, fTru_bl, fTru_lst, fTru_tup, fIsB_bl, atI_0, atI_1, ty_int, ty_bl, ty_lst, ty_tup, ty_str, ty_non, List.map_cons, List.map_nil, List.length_cons, List.length_nil, List.replicate, List.cons_append, List.nil_append, List.getElem?_cons_zero, List.getElem?_cons_succ, List.set_cons_zero, List.set_cons_succ, List.zip_cons_cons, List.zip_nil_right, List.zip_nil_left, Option.some.injEq, exists_eq_left', exists_eq_left, Nat.reduceAdd, Nat.reduceSub, Nat.reduceEqDiff, PyData.bool.injEq, PyData.int.injEq, PyData.list.injEq, PyData.tuple.injEq, if_true, if_false, reduceIte, true_and, and_true, decide_true, decide_false, Bool.false_eq_true, fEq_int, hw])
      exact ⟨b, .no, .no, sb, rfl⟩
  rintro _ g4 ⟨b, x4, x5, sb, rfl⟩
  refine oks_seqI (P := fun E' _ => ∃ (b : Rat), Sz 181 b ∧ a ≠ b ∧ E' = EA w a b x4 x5) ?_ ?_
  · by_cases hw : b = a
    · subst hw
      have o11 : PyData.tuple [.int 1, .int 1] = fr 1 := rfl
      simp only [EA]
      (try simp only [fEq_int, fNe_int, ok_eK, ok_lNil, ok_lCons, ok_e2, ok_e1, ok_eF, ok_eTup, ok_nLst, ok_eN, ok_mB, ok_mTru, ok_mNot, ok_mAnd, ok_mOr, ok_eAnd, ok_eOr, ok_eNot, ok_eIf, ok_eIsi, ok_eIsi2, ok_eTyC, ok_eCall, ok_eCallK, ok_oNo, ok_oAt, ok_eSl, ok_iOf, ok_iOfT, ok_iRg1, oks_sNx, oks_sSeq, oks_sSet, oks_sOwn, oks_sDrop, oks_sRet, oks_sIf, oks_sAsg, oks_sPar, oks_sFor, ok_runD, ok_some, oks_some, startE, eV, setsE, Tg.parts, fAdd_int, fAdd_lst, fAdd_tup, fSub_int, fMul_int, fDiv_int, fMod_int, fPow_int, fLt_int, fLe_int, fGt_int, fGe_int, fNeg_int, fIx_lst, fIx_tup, fLen_lst, fLen_tup, fAbs_int, fInt1_int, fInt1_bl, fGcd_int, fTuple_lst, fTuple_tup, fList_lst, fList_tup, fTru_bl, fTru_lst, fTru_tup, fIsB_bl, atI_0, atI_1, ty_int, ty_bl, ty_lst, ty_tup, ty_str, ty_non, List.map_cons, List.map_nil, List.length_cons, List.length_nil, List.replicate, List.cons_append, List.nil_append, List.getElem?_cons_zero, List.getElem?_cons_succ, List.set_cons_zero, List.set_cons_succ, List.zip_cons_cons, List.zip_nil_right, List.zip_nil_left, Option.some.injEq, exists_eq_left', exists_eq_left, Nat.reduceAdd, Nat.reduceSub, Nat.reduceEqDiff, PyData.bool.injEq, PyData.int.injEq, PyData.list.injEq, PyData.tuple.injEq, if_true, if_false, reduceIte, true_and, and_true, decide_true, decide_false, Bool.false_eq_true, fEq_fr, z2, o11])
      rw [ok_eq (lplus2 sa (Sz.one 1 (by decide)) (by decide) g4)]
      exact ⟨_, (sa.add (Sz.one 1 (by decide))).mono (by decide), by grind, rfl⟩
    · simp only [EA]
      (try simp only [fEq_int, fNe_int, ok_eK, ok_lNil, ok_lCons, ok_e2, ok_e1, ok_eF, ok_eTup, ok_nLst, ok_eN, ok_mB, ok_mTru, ok_mNot, ok_mAnd, ok_mOr, ok_eAnd, ok_eOr, ok_eNot, ok_eIf, ok_eIsi, ok_eIsi2, ok_eTyC, ok_eCall, ok_eCallK, ok_oNo, ok_oAt, ok_eSl, ok_iOf, ok_iOfT, ok_iRg1, oks_sNx, oks_sSeq, oks_sSet, oks_sOwn, oks_sDrop, oks_sRet, oks_sIf, oks_sAsg, oks_sPar, oks_sFor, ok_runD, ok_some, oks_some, startE, eV, setsE, Tg.parts, fAdd_int, fAdd_lst, fAdd_tup, fSub_int, fMul_int, fDiv_int, fMod_int, fPow_int, fLt_int, fLe_int, fGt_int, fGe_int, fNeg_int, fIx_lst, fIx_tup, fLen_lst, fLen_tup, fAbs_int, fInt1_int, fInt1_bl, fGcd_int, fTuple_lst, fTuple_tup, fList_lst, fList_tup, fTru_bl, fTru_lst, fTru_tup, fIsB_bl, atI_0, atI_1, ty_int, ty_bl, ty_lst, ty_tup, ty_str, ty_non, List.map_cons, List.map_nil, List.length_cons, List.length_nil, List.replicate, List.cons_append, List.nil_append, List.getElem?_cons_zero, List.getElem?_cons_succ, List.set_cons_zero, List.set_cons_succ, List.zip_cons_cons, List.zip_nil_right, List.zip_nil_left, Option.some.injEq, exists_eq_left', exists_eq_left, Nat.reduceAdd, Nat.reduceSub, Nat.reduceEqDiff, PyData.bool.injEq, PyData.int.injEq, PyData.list.injEq, PyData.tuple.injEq, if_true, if_false, reduceIte, true_and, and_true, decide_true, decide_false, Bool.false_eq_true, fEq_fr, hw])
      exact ⟨b, sb, fun z => hw z.symm, rfl⟩
  rintro _ g5 ⟨b, sb, hne, rfl⟩
  simp only [EA]
  (try simp only [fEq_int, fNe_int, ok_eK, ok_lNil, ok_lCons, ok_e2, ok_e1, ok_eF, ok_eTup, ok_nLst, ok_eN, ok_mB, ok_mTru, ok_mNot, ok_mAnd, ok_mOr, ok_eAnd, ok_eOr, ok_eNot, ok_eIf, ok_eIsi, ok_eIsi2, ok_eTyC, ok_eCall, ok_eCallK, ok_oNo, ok_oAt, ok_eSl, ok_iOf, ok_iOfT, ok_iRg1, oks_sNx, oks_sSeq, oks_sSet, oks_sOwn, oks_sDrop, oks_sRet, oks_sIf, oks_sAsg, oks_sPar, oks_sFor, ok_runD, ok_some, oks_some, startE, eV, setsE, Tg.parts, fAdd_int, fAdd_lst, fAdd_tup, fSub_int, fMul_int, fDiv_int, fMod_int, fPow_int, fLt_int, fLe_int, fGt_int, fGe_int, fNeg_int, fIx_lst, fIx_tup, fLen_lst, fLen_tup, fAbs_int, fInt1_int, fInt1_bl, fGcd_int, fTuple_lst, fTuple_tup, fList_lst, fList_tup, fTru_bl, fTru_lst, fTru_tup, fIsB_bl, atI_0, atI_1, ty_int, ty_bl, ty_lst, ty_tup, ty_str, ty_non, List.map_cons, List.map_nil, List.length_cons, List.length_nil, List.replicate, List.cons_append, List.nil_append, List.getElem?_cons_zero, List.getElem?_cons_succ, List.set_cons_zero, List.set_cons_succ, List.zip_cons_cons, List.zip_nil_right, List.zip_nil_left, Option.some.injEq, exists_eq_left', exists_eq_left, Nat.reduceAdd, Nat.reduceSub, Nat.reduceEqDiff, PyData.bool.injEq, PyData.int.injEq, PyData.list.injEq, PyData.tuple.injEq, if_true, if_false, reduceIte, true_and, and_true, decide_true, decide_false, Bool.false_eq_true])
  rw [ok_eq (lbelow_ok sa sb (by decide) g5)]
  by_cases hl : a < b
  · (try simp only [fEq_int, fNe_int, ok_eK, ok_lNil, ok_lCons, ok_e2, ok_e1, ok_eF, ok_eTup, ok_nLst, ok_eN, ok_mB, ok_mTru, ok_mNot, ok_mAnd, ok_mOr, ok_eAnd, ok_eOr, ok_eNot, ok_eIf, ok_eIsi, ok_eIsi2, ok_eTyC, ok_eCall, ok_eCallK, ok_oNo, ok_oAt, ok_eSl, ok_iOf, ok_iOfT, ok_iRg1, oks_sNx, oks_sSeq, oks_sSet, oks_sOwn, oks_sDrop, oks_sRet, oks_sIf, oks_sAsg, oks_sPar, oks_sFor, ok_runD, ok_some, oks_some, startE, eV, setsE, Tg.parts, fAdd_int, fAdd_lst, fAdd_tup, fSub_int, fMul_int, fDiv_int, fMod_int, fPow_int, fLt_int, fLe_int, fGt_int, fGe_int, fNeg_int, fIx_lst, fIx_tup, fLen_lst, fLen_tup, fAbs_int, fInt1_int, fInt1_bl, fGcd_int, fTuple_lst, fTuple_tup, fList_lst, fList_tup, fTru_bl, fTru_lst, fTru_tup, fIsB_bl, atI_0, atI_1, ty_int, ty_bl, ty_lst, ty_tup, ty_str, ty_non, List.map_cons, List.map_nil, List.length_cons, List.length_nil, List.replicate, List.cons_append, List.nil_append, List.getElem?_cons_zero, List.getElem?_cons_succ, List.set_cons_zero, List.set_cons_succ, List.zip_cons_cons, List.zip_nil_right, List.zip_nil_left, Option.some.injEq, exists_eq_left', exists_eq_left, Nat.reduceAdd, Nat.reduceSub, Nat.reduceEqDiff, PyData.bool.injEq, PyData.int.injEq, PyData.list.injEq, PyData.tuple.injEq, if_true, if_false, reduceIte, true_and, and_true, decide_true, decide_false, Bool.false_eq_true, hl, z2])
    exact ⟨a, b, rfl, hl, sa.mono (by decide), sb.mono (by decide)⟩
  · (try simp only [fEq_int, fNe_int, ok_eK, ok_lNil, ok_lCons, ok_e2, ok_e1, ok_eF, ok_eTup, ok_nLst, ok_eN, ok_mB, ok_mTru, ok_mNot, ok_mAnd, ok_mOr, ok_eAnd, ok_eOr, ok_eNot, ok_eIf, ok_eIsi, ok_eIsi2, ok_eTyC, ok_eCall, ok_eCallK, ok_oNo, ok_oAt, ok_eSl, ok_iOf, ok_iOfT, ok_iRg1, oks_sNx, oks_sSeq, oks_sSet, oks_sOwn, oks_sDrop, oks_sRet, oks_sIf, oks_sAsg, oks_sPar, oks_sFor, ok_runD, ok_some, oks_some, startE, eV, setsE, Tg.parts, fAdd_int, fAdd_lst, fAdd_tup, fSub_int, fMul_int, fDiv_int, fMod_int, fPow_int, fLt_int, fLe_int, fGt_int, fGe_int, fNeg_int, fIx_lst, fIx_tup, fLen_lst, fLen_tup, fAbs_int, fInt1_int, fInt1_bl, fGcd_int, fTuple_lst, fTuple_tup, fList_lst, fList_tup, fTru_bl, fTru_lst, fTru_tup, fIsB_bl, atI_0, atI_1, ty_int, ty_bl, ty_lst, ty_tup, ty_str, ty_non, List.map_cons, List.map_nil, List.length_cons, List.length_nil, List.replicate, List.cons_append, List.nil_append, List.getElem?_cons_zero, List.getElem?_cons_succ, List.set_cons_zero, List.set_cons_succ, List.zip_cons_cons, List.zip_nil_right, List.zip_nil_left, Option.some.injEq, exists_eq_left', exists_eq_left, Nat.reduceAdd, Nat.reduceSub, Nat.reduceEqDiff, PyData.bool.injEq, PyData.int.injEq, PyData.list.injEq, PyData.tuple.injEq, if_true, if_false, reduceIte, true_and, and_true, decide_true, decide_false, Bool.false_eq_true, hl, z2])
    exact ⟨b, a, rfl, by grind, sb.mono (by decide), sa.mono (by decide)⟩
end K06

set_option linter.all false
set_option maxRecDepth 100000
namespace M5
theorem neg_neg' (r : Rat) : - -r = r := by grind
theorem last_fst (lo hi s : Rat) : fl hi s = fst lo s + cnt lo hi s - 1 := by unfold cnt; omega
theorem cnt_neg (lo hi s : Rat) : cnt (-hi) (-lo) s = cnt lo hi s := by
  unfold cnt fst
  rw [neg_neg']
  omega
theorem fst_neg (lo hi s : Rat) : fst (-hi) s = -(fl hi s) := by
  unfold fst
  rw [neg_neg']
theorem fl_scale {q r s : Rat} (hq : 0 < q) (hs : 0 < s) : fl (q * r) (q * s) = fl r s := by
  obtain ⟨a1, a2⟩ := fl_spec r hs
  have qs := Rat.mul_pos hq hs
  refine fl_eq qs ?_ ?_
  · have := Rat.mul_le_mul_of_nonneg_left a1 (Rat.le_of_lt hq)
    grind
  · have := Rat.mul_lt_mul_of_pos_left a2 hq
    grind
theorem fst_scale {q lo s : Rat} (hq : 0 < q) (hs : 0 < s) : fst (q * lo) (q * s) = fst lo s := by
  unfold fst
  rw [← fl_scale hq hs (r := -lo)]
  congr 2
  grind
theorem cnt_scale {q lo hi s : Rat} (hq : 0 < q) (hs : 0 < s) : cnt (q * lo) (q * hi) (q * s) = cnt lo hi s := by
  unfold cnt
  rw [fl_scale hq hs, fst_scale hq hs]
theorem fl_move {r s : Rat} (hs : 0 < s) (k : Int) : fl (r + (k : Rat) * s) s = fl r s + k := by
  obtain ⟨a1, a2⟩ := fl_spec r hs
  refine fl_eq hs ?_ ?_
  · push_cast; grind
  · push_cast; grind
theorem fst_move {lo s : Rat} (hs : 0 < s) (k : Int) : fst (lo + (k : Rat) * s) s = fst lo s + k := by
  unfold fst
  have := fl_move (r := -lo) hs (-k)
  have e : -(lo + (k : Rat) * s) = -lo + ((-k : Int) : Rat) * s := by push_cast; grind
  rw [e, this]
  omega
theorem cnt_move {lo hi s : Rat} (hs : 0 < s) (k : Int) : cnt (lo + (k : Rat) * s) (hi + (k : Rat) * s) s = cnt lo hi s := by
  unfold cnt
  rw [fl_move hs, fst_move hs]
  omega
theorem u_up (i : Int) : u (i + 3) = 10 * u i := by
  obtain ⟨e, rfl | rfl | rfl⟩ := by3 i
  · rw [show 3 * e + 3 = 3 * (e + 1) by omega, u0, u0, pt_succ]
  · rw [show 3 * e + 1 + 3 = 3 * (e + 1) + 1 by omega, u1, u1, pt_succ]; grind
  · rw [show 3 * e + 2 + 3 = 3 * (e + 1) + 2 by omega, u2, u2, pt_succ]; grind
theorem u_dn (i : Int) : u (i + -6) = (1 / 100) * u i := by
  have h1 := u_up (i + -6)
  have h2 := u_up (i + -3)
  rw [show i + -6 + 3 = i + -3 by omega] at h1
  rw [show i + -3 + 3 = i by omega] at h2
  grind
theorem win_shift (a c : Int) (n : Nat) : win (a + c) n = (win a n).map (· + c) := by
  unfold win
  rw [List.map_map]
  apply List.map_congr_left
  intro j _
  simp only [Function.comp]
  omega
theorem filter_shift {p p' : Int → Bool} {c : Int} (h : ∀ i, p' (i + c) = p i) (a : Int) (n : Nat) : (win (a + c) n).filter p' = ((win a n).filter p).map (· + c) := by
  rw [win_shift, List.filter_map]
  congr 2
  funext i
  exact h i
theorem bst_shift {d d' : Int → Int} {c : Int} (h : ∀ i, d' (i + c) = d i) : ∀ (l : List Int) (x : Int), bst d' (x + c) (l.map (· + c)) = bst d x l + c
  | [], x => rfl
  | y :: l, x => by
    show (if d' (x + c) < d' (bst d' (y + c) (l.map (· + c))) then x + c else bst d' (y + c) (l.map (· + c))) = _
    rw [bst_shift h l y, h, h]
    show _ = (if d x < d (bst d y l) then x else bst d y l) + c
    split <;> rfl
theorem near_some {lo hi : Rat} {m : Int} (h1 : hi - lo < pt (m + 2)) (h2 : 55 * pt (m - 3) ≤ hi - lo) (h0 : lo < hi) : ∃ i, okI lo hi i = true := by
  have e := pt_add (m - 3) 5
  rw [show m - 3 + ((5 : Nat) : Int) = m + 2 by omega] at e
  have e2 := pt_succ (m + 1)
  rw [show m + 1 + 1 = m + 2 by omega] at e2
  by_cases z : pt (m + 2) ≤ 1000 * (hi - lo)
  · exact some_ok (p := m + 2) (by grind) z h0
  · exact some_ok (p := m + 1) (by grind) (by grind) h0
/-! least and greatest -/
def In (rs : List Rat) (t : Bool) (r : Rat) : Prop := r ∈ rs ∨ (t = true ∧ r = 0)
structure Span (S : Rat → Prop) (lo top hi : Rat) : Prop where
  lo_in : S lo
  lo_le : ∀ r, S r → lo ≤ r
  top_in : S top
  top_ge : ∀ r, S r → r ≤ top
  hi_eq : hi = if lo = top then lo + 1 else top
theorem Span.uniq {S T : Rat → Prop} {lo top hi lo' top' hi' : Rat} (a : Span S lo top hi) (b : Span T lo' top' hi') (h : ∀ r, S r ↔ T r) : lo = lo' ∧ top = top' ∧ hi = hi' := by
  have h1 := a.lo_le _ ((h _).mpr b.lo_in)
  have h2 := b.lo_le _ ((h _).mp a.lo_in)
  have h3 := a.top_ge _ ((h _).mpr b.top_in)
  have h4 := b.top_ge _ ((h _).mp a.top_in)
  have e1 : lo = lo' := by grind
  have e2 : top = top' := by grind
  refine ⟨e1, e2, ?_⟩
  rw [a.hi_eq, b.hi_eq, e1, e2]
theorem Span.lt {S : Rat → Prop} {lo top hi : Rat} (a : Span S lo top hi) : lo < hi ∧ top ≤ hi := by
  have := a.lo_le _ a.top_in
  rw [a.hi_eq]
  split <;> constructor <;> grind
/-- the span of both ends of a span -/
theorem Span.ends {S : Rat → Prop} {lo top hi lo' top' hi' : Rat} {t : Bool} (a : Span S lo top hi) (h0 : t = true → S 0) (b : Span (In [hi, lo] t) lo' top' hi') : lo' = lo ∧ hi' = hi := by
  obtain ⟨l1, l2⟩ := a.lt
  have i1 : In [hi, lo] t lo := .inl (by simp)
  have i2 : In [hi, lo] t hi := .inl (by simp)
  have b1 := b.lo_le _ i1
  have b2 := b.top_ge _ i2
  have c : ∀ r, In [hi, lo] t r → lo ≤ r ∧ r ≤ hi := fun r hr => by
    rcases hr with hr | ⟨ht, rfl⟩
    · simp at hr
      rcases hr with rfl | rfl <;> constructor <;> grind
    · have z := h0 ht
      have := a.lo_le _ z
      have := a.top_ge _ z
      constructor <;> grind
  have d1 := (c _ b.lo_in).1
  have d2 := (c _ b.top_in).2
  have e1 : lo' = lo := by grind
  have e2 : top' = hi := by grind
  refine ⟨e1, ?_⟩
  rw [b.hi_eq, e1, e2, if_neg (by grind)]
theorem Span.part {S T : Rat → Prop} {lo top hi lo' top' hi' : Rat} (a : Span S lo top hi) (b : Span T lo' top' hi') (h : ∀ r, T r → S r) : ¬ lo' < lo ∧ (hi < hi' → hi' - lo' = 1) := by
  have h1 := a.lo_le _ (h _ b.lo_in)
  have h2 := a.top_ge _ (h _ b.top_in)
  have := a.lt.2
  refine ⟨by grind, fun z => ?_⟩
  rw [b.hi_eq] at z ⊢
  split at z
  · rename_i q
    rw [if_pos q]
    grind
  · exfalso
    grind
end M5

set_option Elab.async false
set_option linter.all false
set_option maxRecDepth 100000
set_option maxHeartbeats 4000000
namespace K06
open PySem PySem.Spec PyProof.Rows L2 DL
open M5 (pt u fl fst okI win mid)
theorem lcL_mapR {α : Type} {tg : Tg} {e : M} {E : En} {g : G} {ψ χ : α → D} : ∀ (l : List α), (∀ a ∈ l, ∃ ps, tg.parts (ψ a) = some ps ∧ e (setsE ps E) g = some (χ a, g)) → lcL tg mYes e E (l.map ψ) g = some (l.map χ, g)
  | [], _ => rfl
  | a :: l, h => by
    obtain ⟨ps, e1, e2⟩ := h a (List.mem_cons_self ..)
    have := lcL_mapR l (fun a ha => h a (List.mem_cons_of_mem _ ha))
    rw [List.map_cons]
    unfold lcL
    rw [e1]
    simp only [mYes, e2, this]
    rfl
theorem ok_iOfT' {a : M} {E : En} {g : G} {ds : List D} (h : a E g = some (.tuple ds, g)) : iOfT a E g = some (ds, g) := by
  unfold iOfT
  rw [h]
/-! shaped -/
theorem lay_fr : ∀ rs : List Rat, PyData.canLayAll0 (rs.map fr) = true
  | [] => rfl
  | r :: rs => by
    show PyData.canLayAll0 (fr r :: rs.map fr) = true
    simp only [PyData.canLayAll0, lay_fr rs, Bool.and_true]
    rfl
theorem dep_fr (r : Rat) : PyData.depth (fr r) ≤ 10 := by
  unfold fr
  simp only [PyData.depth, PyData.depthAll]
  omega
theorem dep_frs : ∀ rs : List Rat, PyData.depthAll (rs.map fr) ≤ 10
  | [] => by simp [PyData.depthAll]
  | r :: rs => by
    have := dep_frs rs
    have := dep_fr r
    show PyData.depthAll (fr r :: rs.map fr) ≤ 10
    unfold PyData.depthAll
    omega
theorem sh_fr (r : Rat) : SeqAt.shaped (fr r) = true := rfl
theorem sh_frs (mk : List D → D) (hmk : mk = PyData.list ∨ mk = PyData.tuple) (rs : List Rat) : SeqAt.shaped (mk (rs.map fr)) = true := by
  have h := dep_frs rs
  unfold SeqAt.shaped
  rw [Bool.and_eq_true]
  rcases hmk with rfl | rfl
  · exact ⟨by simp only [PyData.canLay0]; exact lay_fr _, decide_eq_true (by simp only [PyData.depth]; omega)⟩
  · exact ⟨by simp only [PyData.canLay0]; exact lay_fr _, decide_eq_true (by simp only [PyData.depth]; omega)⟩
theorem sh_row (r : Rat) (rs : List Rat) : SeqAt.shaped (.tuple [fr r, .tuple (rs.map fr)]) = true := by
  have h := dep_frs rs
  have h2 := dep_fr r
  have h3 := lay_fr rs
  generalize rs.map fr = L at *
  unfold SeqAt.shaped
  rw [Bool.and_eq_true]
  refine ⟨?_, decide_eq_true ?_⟩
  · simp only [PyData.canLay0, PyData.canLayAll0, h3, Bool.and_true]
    rfl
  · simp only [PyData.depth, PyData.depthAll]
    omega
theorem ne_same {d : D} (h : SeqAt.shaped d = true) : fNe d d = some (.bool false) := by
  unfold fNe
  rw [h, SeqAt.eqv_refl d (SeqAt.canLay_of_shaped h)]
  rfl
theorem eq_same {d : D} (h : SeqAt.shaped d = true) : fEq d d = some (.bool true) := by
  unfold fEq
  rw [h, SeqAt.eqv_refl d (SeqAt.canLay_of_shaped h)]
  rfl
def vals (lo s : Rat) (n : Nat) : List Rat := (List.range n).map fun (k : Nat) => ((fst lo s + (k : Int) : Int) : Rat) * s
theorem valsD_fr (lo s : Rat) (n : Nat) : valsD lo s n = (vals lo s n).map fr := by
  unfold valsD vals
  rw [List.map_map]
  rfl
theorem stepsD_fr (lo hi : Rat) (l : List Int) : stepsD lo hi l = .tuple ((l.map u).map fr) := by
  unfold stepsD
  rw [List.map_map]
  rfl
/-! an axis -/
structure Ax (lo hi : Rat) : Prop where
  slo : Sz 1000 lo
  shi : Sz 1000 hi
  lt : lo < hi
  sd : Sz 420 (hi - lo)
structure Can (lo hi : Rat) (m x : Int) (l : List Int) : Prop where
  m1 : -130 ≤ m
  m2 : m ≤ 130
  win : ∀ i, okI lo hi i = true → 3 * (m - 2) ≤ i ∧ i < 3 * (m - 2) + (12 : Nat)
  eq : okL lo hi (3 * (m - 2)) 12 = x :: l
  tk : ∀ w, 2 ≤ w → w ≤ 10 → ∀ g, Fticks [fr lo, fr hi, .int w] g = some (row lo hi (M5.bst (dst lo hi w) x l), g)
  st : ∀ g, Fsteps_within [fr lo, fr hi] g = some (stepsD lo hi (x :: l), g)
theorem canon {lo hi : Rat} (A : Ax lo hi) : ∃ m x l, Can lo hi m x l := by
  have hp : 0 < hi - lo := by have := A.lt; grind
  obtain ⟨m0, _, n1, n2, _, _⟩ := near_ok hp A.sd ⟨[], 0, 0⟩
  have hne := M5.near_some n1 n2 A.lt
  obtain ⟨m, m1, m2, hw, _⟩ := steps_ok A.slo A.shi A.sd A.lt ⟨[], 0, 0⟩
  obtain ⟨i, hii⟩ := hne
  cases hL : okL lo hi (3 * (m - 2)) 12 with
  | nil =>
    have := hw i hii
    have : i ∈ okL lo hi (3 * (m - 2)) 12 := by
      refine List.mem_filter.mpr ⟨?_, hii⟩
      unfold M5.win
      exact List.mem_map.mpr ⟨(i - 3 * (m - 2)).toNat, List.mem_range.mpr (by omega), by omega⟩
    rw [hL] at this
    exact absurd this (by simp)
  | cons x l =>
    refine ⟨m, x, l, m1, m2, hw, hL, fun w w1 w2 g => ?_, fun g => ?_⟩
    · obtain ⟨m', x', l', hw', e1, e⟩ := ticks_ok A.slo A.shi A.lt A.sd ⟨w1, w2⟩ ⟨i, hii⟩ g
      have : okL lo hi (3 * (m' - 2)) 12 = okL lo hi (3 * (m - 2)) 12 := M5.win_eq hw' hw
      rw [e1, hL] at this
      cases this
      exact e
    · obtain ⟨m', hw', e⟩ := within_ok A.slo A.shi A.lt A.sd g
      have : okL lo hi (3 * (m' - 2)) 12 = okL lo hi (3 * (m - 2)) 12 := M5.win_eq hw' hw
      rw [this, hL] at e
      exact e
section
variable {lo hi : Rat} {m x : Int} {l : List Int} (C : Can lo hi m x l)
include C
theorem Can.ok {i : Int} (h : i ∈ x :: l) : okI lo hi i = true := by
  rw [← C.eq] at h
  exact (List.mem_filter.mp h).2
theorem Can.mem {i : Int} (h : okI lo hi i = true) : i ∈ x :: l := by
  rw [← C.eq]
  have := C.win i h
  refine List.mem_filter.mpr ⟨?_, h⟩
  unfold M5.win
  exact List.mem_map.mpr ⟨(i - 3 * (m - 2)).toNat, List.mem_range.mpr (by omega), by omega⟩
theorem Can.cnt {i : Int} (h : i ∈ x :: l) : 2 ≤ M5.cnt lo hi (u i) ∧ M5.cnt lo hi (u i) ≤ 10 := by
  have := C.ok h
  unfold M5.okI at this
  rwa [Bool.and_eq_true, decide_eq_true_eq, decide_eq_true_eq] at this
theorem Can.b450 {i : Int} (h : i ∈ x :: l) : -450 ≤ i ∧ i ≤ 450 := by
  have := C.win i (C.ok h)
  have := C.m1
  have := C.m2
  omega
theorem Can.len : (x :: l).length ≤ 12 := by
  rw [← C.eq]
  exact okL_len ..
/-- another axis with the same steps, moved by so many places -/
theorem Can.rel {lo' hi' : Rat} {m' x' : Int} {l' : List Int} (C' : Can lo' hi' m' x' l') {c : Int} (hok : ∀ i, okI lo' hi' (i + c) = okI lo hi i) : x' = x + c ∧ l' = l.map (· + c) := by
  have h1 : (M5.win (3 * (m - 2) + c) 12).filter (okI lo' hi') = (x :: l).map (· + c) := by
    rw [← C.eq]
    exact M5.filter_shift hok _ _
  have h2 : okL lo' hi' (3 * (m' - 2)) 12 = (M5.win (3 * (m - 2) + c) 12).filter (okI lo' hi') := M5.win_eq C'.win fun i hii => by
    have := hok (i - c)
    rw [show i - c + c = i by omega, hii] at this
    have := C.win _ this.symm
    omega
  rw [C'.eq, h1, List.map_cons] at h2
  cases h2
  exact ⟨rfl, rfl⟩
end
end K06

set_option Elab.async false
set_option linter.all false
set_option maxRecDepth 100000
set_option maxHeartbeats 4000000
namespace K06
open PySem PySem.Spec PyProof.Rows L2 DL
open M5 (pt u fl fst okI mid)
theorem turned_ok (r : Rat) (g : G) : F_law_turned [fr r] g = some (fr (-r), g) := by
  refine Ok.eq ?_
  unfold F_law_turned m_law_turned
  have z2 : 2 ≤ sizeLine := sz_ok (by decide)
  (try simp only [fEq_int, fNe_int, ok_eK, ok_lNil, ok_lCons, ok_e2, ok_e1, ok_eF, ok_eTup, ok_nLst, ok_eN, ok_mB, ok_mTru, ok_mNot, ok_mAnd, ok_mOr, ok_eAnd, ok_eOr, ok_eNot, ok_eIf, ok_eIsi, ok_eIsi2, ok_eTyC, ok_eCall, ok_eCallK, ok_oNo, ok_oAt, ok_eSl, ok_iOf, ok_iOfT, ok_iRg1, oks_sNx, oks_sSeq, oks_sSet, oks_sOwn, oks_sDrop, oks_sRet, oks_sIf, oks_sAsg, oks_sPar, oks_sFor, ok_runD, ok_some, oks_some, startE, eV, setsE, Tg.parts, fAdd_int, fAdd_lst, fAdd_tup, fSub_int, fMul_int, fDiv_int, fMod_int, fPow_int, fLt_int, fLe_int, fGt_int, fGe_int, fNeg_int, fIx_lst, fIx_tup, fLen_lst, fLen_tup, fAbs_int, fInt1_int, fInt1_bl, fGcd_int, fTuple_lst, fTuple_tup, fList_lst, fList_tup, fTru_bl, fTru_lst, fTru_tup, fIsB_bl, atI_0, atI_1, ty_int, ty_bl, ty_lst, ty_tup, ty_str, ty_non, List.map_cons, List.map_nil, List.length_cons, List.length_nil, List.replicate, List.cons_append, List.nil_append, List.getElem?_cons_zero, List.getElem?_cons_succ, List.set_cons_zero, List.set_cons_succ, List.zip_cons_cons, List.zip_nil_right, List.zip_nil_left, Option.some.injEq, exists_eq_left', exists_eq_left, Nat.reduceAdd, Nat.reduceSub, Nat.reduceEqDiff, PyData.bool.injEq, PyData.int.injEq, PyData.list.injEq, PyData.tuple.injEq, if_true, if_false, reduceIte, true_and, and_true, decide_true, decide_false, Bool.false_eq_true, fIx_fr0, fIx_fr1, z2, neg_fr])
  try exact ⟨rfl, rfl⟩
theorem row_eq (lo hi : Rat) (i : Int) : row lo hi i = .tuple [fr (u i), .tuple ((vals lo (u i) (M5.cnt lo hi (u i)).toNat).map fr)] := by
  unfold row
  rw [valsD_fr]
theorem okI_of {lo hi lo' hi' : Rat} {i j : Int} (h : M5.cnt lo' hi' (u j) = M5.cnt lo hi (u i)) : okI lo' hi' j = okI lo hi i := by
  unfold M5.okI
  rw [h]
theorem dst_of {lo hi lo' hi' : Rat} {i j w : Int} (h : M5.cnt lo' hi' (u j) = M5.cnt lo hi (u i)) : dst lo' hi' w j = dst lo hi w i := by
  unfold dst
  rw [h]
theorem rev_range (n : Nat) : (List.range n).reverse = (List.range n).map fun k => n - 1 - k := (PySem.W.krv_range n).symm
theorem vals_neg {lo hi s : Rat} (h : 0 ≤ M5.cnt lo hi s) : ((vals lo s (M5.cnt lo hi s).toNat).reverse).map (fun r => -r) = vals (-hi) s (M5.cnt lo hi s).toNat := by
  have e := M5.last_fst lo hi s
  unfold vals
  rw [← List.map_reverse, rev_range, List.map_map, List.map_map]
  apply List.map_congr_left
  intro k hk
  have hk := List.mem_range.mp hk
  simp only [Function.comp]
  rw [M5.fst_neg lo]
  have e2 : fl hi s = fst lo s + (((M5.cnt lo hi s).toNat - 1 - k : Nat) : Int) + (k : Int) := by omega
  rw [e2]
  push_cast
  grind
theorem vals_scale {q lo s : Rat} (hq : 0 < q) (hs : 0 < s) (n : Nat) : (vals lo s n).map (fun r => q * r) = vals (q * lo) (q * s) n := by
  unfold vals
  rw [List.map_map, M5.fst_scale hq hs]
  apply List.map_congr_left
  intro k _
  simp only [Function.comp]
  grind
theorem row_neg {lo hi : Rat} {i : Int} (h : 0 ≤ M5.cnt lo hi (u i)) : row (-hi) (-lo) i = .tuple [fr (u i), .tuple ((((vals lo (u i) (M5.cnt lo hi (u i)).toNat).reverse).map (fun r => -r)).map fr)] := by
  rw [row_eq, M5.cnt_neg, vals_neg h]
theorem row_scale {q lo hi : Rat} {i j : Int} (hq : 0 < q) (hu : u j = q * u i) : row (q * lo) (q * hi) j = .tuple [fr (q * u i), .tuple (((vals lo (u i) (M5.cnt lo hi (u i)).toNat).map (fun r => q * r)).map fr)] := by
  rw [row_eq, hu, M5.cnt_scale hq (M5.u_pos i), vals_scale hq (M5.u_pos i)]
theorem Ax.of {lo hi : Rat} (h1 : Sz 200 lo) (h2 : Sz 200 hi) (h : lo < hi) : Ax lo hi := ⟨h1.mono (by decide), h2.mono (by decide), h, (h2.sub h1).mono (by decide)⟩
theorem Ax.neg {lo hi : Rat} (A : Ax lo hi) : Ax (-hi) (-lo) := ⟨A.shi.neg, A.slo.neg, by have := A.lt; grind, by
  have : -lo - -hi = hi - lo := by grind
  rw [this]
  exact A.sd⟩
theorem Ax.scale {lo hi q : Rat} (h1 : Sz 200 lo) (h2 : Sz 200 hi) (h : lo < hi) (hq : 0 < q) (sq : Sz 7 q) : Ax (q * lo) (q * hi) :=
  ⟨(sq.mul h1).mono (by decide), (sq.mul h2).mono (by decide), Rat.mul_lt_mul_of_pos_left h hq, by
    have : q * hi - q * lo = q * (hi - lo) := by grind
    rw [this]
    exact (sq.mul (h2.sub h1)).mono (by decide)⟩
theorem fr0100 : PyData.tuple [.int 1, .int 100] = fr (1 / 100) := fr_of (by decide +kernel) (by decide +kernel)
theorem q10 : Sz 7 (10 : Rat) := by constructor <;> decide
theorem q01 : Sz 7 (1 / 100 : Rat) := by constructor <;> decide +kernel
theorem vals_sz {lo hi : Rat} {m x : Int} {l : List Int} (C : Can lo hi m x l) (hlo : Sz 1000 lo) {i : Int} (hii : i ∈ x :: l) {r : Rat} (hr : r ∈ vals lo (u i) (M5.cnt lo hi (u i)).toNat) : Sz 2233 r := by
  unfold vals at hr
  obtain ⟨k, hk, rfl⟩ := List.mem_map.mp hr
  have hk := List.mem_range.mp hk
  have := C.cnt hii
  exact ((val_ok hlo (C.b450 hii) k (by omega)).mul (u_sz (C.b450 hii))).mono (by decide)
abbrev AE (lo hi : Rat) (w : Int) (a3 a4 a5 : Sl) (b : Int) (a8 : Sl) : En := [.val (fr lo), .val (fr hi), .val (.int w), a3, a4, a5, .val (fr (u b)), .val (.tuple ((vals lo (u b) (M5.cnt lo hi (u b)).toNat).map fr)), a8, .no]
theorem rel_tk {lo hi lo' hi' : Rat} {m x : Int} {l : List Int} (C : Can lo hi m x l) (A' : Ax lo' hi') {c : Int} (hc : ∀ i, M5.cnt lo' hi' (u (i + c)) = M5.cnt lo hi (u i)) :
    (∀ w, 2 ≤ w → w ≤ 10 → ∀ g, Fticks [fr lo', fr hi', .int w] g = some (row lo' hi' (M5.bst (dst lo hi w) x l + c), g)) ∧ ∀ g, Fsteps_within [fr lo', fr hi'] g = some (stepsD lo' hi' ((x :: l).map (· + c)), g) := by
  obtain ⟨m', x', l', C'⟩ := canon A'
  obtain ⟨rfl, rfl⟩ := C.rel C' (c := c) fun i => okI_of (hc i)
  refine ⟨fun w w1 w2 g => ?_, fun g => C'.st g⟩
  rw [C'.tk w w1 w2 g, M5.bst_shift (fun i => dst_of (hc i))]
theorem alike_ok {lo hi : Rat} (h1 : Sz 200 lo) (h2 : Sz 200 hi) (h : lo < hi) {w : Int} (w1 : 2 ≤ w) (w2 : w ≤ 10) (g : G) : F_law_alike_axes [fr lo, fr hi, .int w] g = some (.bool true, g) := by
  have z2 : 2 ≤ sizeLine := sz_ok (by decide)
  have A := Ax.of h1 h2 h
  obtain ⟨m, x, l, C⟩ := canon A
  have hb := M5.bst_mem (dst lo hi w) l x
  have ct := C.tk w w1 w2
  obtain ⟨rn, rs⟩ := rel_tk C A.neg (c := 0) (fun i => by rw [Int.add_zero, M5.cnt_neg])
  have sc : ∀ q c, 0 < q → Sz 7 q → (∀ i, u (i + c) = q * u i) → ∀ g, Fticks [fr (q * lo), fr (q * hi), .int w] g = some (row (q * lo) (q * hi) (M5.bst (dst lo hi w) x l + c), g) := fun q c hq sq hu g =>
    (rel_tk C (Ax.scale h1 h2 h hq sq) (c := c) (fun i => by rw [hu, M5.cnt_scale hq (M5.u_pos i)])).1 w w1 w2 g
  replace rn := rn w w1 w2
  rw [Int.add_zero] at rn
  generalize M5.bst (dst lo hi w) x l = b at hb ct rn sc
  have cb := C.cnt hb
  have b450 := C.b450 hb
  have us := u_sz b450
  have vs : ∀ r ∈ vals lo (u b) (M5.cnt lo hi (u b)).toNat, Sz 2233 r := fun r hr => vals_sz C A.slo hb hr
  have vl : (vals lo (u b) (M5.cnt lo hi (u b)).toNat).length ≤ 10 := by
    unfold vals
    rw [List.length_map, List.length_range]
    omega
  rw [row_neg (by omega)] at rn
  simp only [row_eq lo hi] at ct
  refine Ok.eq ?_
  unfold F_law_alike_axes m_law_alike_axes
  rw [ok_runD]
  refine oks_seqI (P := fun E' g' => g' = g ∧ E' = AE lo hi w .no .no .no b .no) ?_ ?_
  · (try simp only [fEq_int, fNe_int, ok_eK, ok_lNil, ok_lCons, ok_e2, ok_e1, ok_eF, ok_eTup, ok_nLst, ok_eN, ok_mB, ok_mTru, ok_mNot, ok_mAnd, ok_mOr, ok_eAnd, ok_eOr, ok_eNot, ok_eIf, ok_eIsi, ok_eIsi2, ok_eTyC, ok_eCall, ok_eCallK, ok_oNo, ok_oAt, ok_eSl, ok_iOf, ok_iOfT, ok_iRg1, oks_sNx, oks_sSeq, oks_sSet, oks_sOwn, oks_sDrop, oks_sRet, oks_sIf, oks_sAsg, oks_sPar, oks_sFor, ok_runD, ok_some, oks_some, startE, eV, setsE, Tg.parts, fAdd_int, fAdd_lst, fAdd_tup, fSub_int, fMul_int, fDiv_int, fMod_int, fPow_int, fLt_int, fLe_int, fGt_int, fGe_int, fNeg_int, fIx_lst, fIx_tup, fLen_lst, fLen_tup, fAbs_int, fInt1_int, fInt1_bl, fGcd_int, fTuple_lst, fTuple_tup, fList_lst, fList_tup, fTru_bl, fTru_lst, fTru_tup, fIsB_bl, atI_0, atI_1, ty_int, ty_bl, ty_lst, ty_tup, ty_str, ty_non, List.map_cons, List.map_nil, List.length_cons, List.length_nil, List.replicate, List.cons_append, List.nil_append, List.getElem?_cons_zero, List.getElem?_cons_succ, List.set_cons_zero, List.set_cons_succ, List.zip_cons_cons, List.zip_nil_right, List.zip_nil_left, Option.some.injEq, exists_eq_left', exists_eq_left, Nat.reduceAdd, Nat.reduceSub, Nat.reduceEqDiff, PyData.bool.injEq, PyData.int.injEq, PyData.list.injEq, PyData.tuple.injEq, if_true, if_false, reduceIte, true_and, and_true, decide_true, decide_false, Bool.false_eq_true])
    rw [ok_eq (ct g)]
    refine ⟨_, rfl, ?_⟩
    (try simp only [fEq_int, fNe_int, ok_eK, ok_lNil, ok_lCons, ok_e2, ok_e1, ok_eF, ok_eTup, ok_nLst, ok_eN, ok_mB, ok_mTru, ok_mNot, ok_mAnd, ok_mOr, ok_eAnd, ok_eOr, ok_eNot, ok_eIf, ok_eIsi, ok_eIsi2, ok_eTyC, ok_eCall, ok_eCallK, ok_oNo, ok_oAt, ok_eSl, ok_iOf, ok_iOfT, ok_iRg1, oks_sNx, oks_sSeq, oks_sSet, oks_sOwn, oks_sDrop, oks_sRet, oks_sIf, oks_sAsg, oks_sPar, oks_sFor, ok_runD, ok_some, oks_some, startE, eV, setsE, Tg.parts, fAdd_int, fAdd_lst, fAdd_tup, fSub_int, fMul_int, fDiv_int, fMod_int, fPow_int, fLt_int, fLe_int, fGt_int, fGe_int, fNeg_int, fIx_lst, fIx_tup, fLen_lst, fLen_tup, fAbs_int, fInt1_int, fInt1_bl, fGcd_int, fTuple_lst, fTuple_tup, fList_lst, fList_tup, fTru_bl, fTru_lst, fTru_tup, fIsB_bl, atI_0, atI_1, ty_int, ty_bl, ty_lst, ty_tup, ty_str, ty_non, List.map_cons, List.map_nil, List.length_cons, List.length_nil, List.replicate, List.cons_append, List.nil_append, List.getElem?_cons_zero, List.getElem?_cons_succ, List.set_cons_zero, List.set_cons_succ, List.zip_cons_cons, List.zip_nil_right, List.zip_nil_left, Option.some.injEq, exists_eq_left', exists_eq_left, Nat.reduceAdd, Nat.reduceSub, Nat.reduceEqDiff, PyData.bool.injEq, PyData.int.injEq, PyData.list.injEq, PyData.tuple.injEq, if_true, if_false, reduceIte, true_and, and_true, decide_true, decide_false, Bool.false_eq_true])
  rintro _ g1 ⟨rfl, rfl⟩
  have hsh := sh_row (u b) (((vals lo (u b) (M5.cnt lo hi (u b)).toNat).reverse).map (fun r => -r))
  refine oks_seqI (P := fun E' g' => g' = g1 ∧ ∃ a3, E' = AE lo hi w (.val (.tuple [fr (u b), .tuple ((((vals lo (u b) (M5.cnt lo hi (u b)).toNat).reverse).map (fun r => -r)).map fr)])) .no .no b a3) ?_ ?_
  · (try simp only [fEq_int, fNe_int, ok_eK, ok_lNil, ok_lCons, ok_e2, ok_e1, ok_eF, ok_eTup, ok_nLst, ok_eN, ok_mB, ok_mTru, ok_mNot, ok_mAnd, ok_mOr, ok_eAnd, ok_eOr, ok_eNot, ok_eIf, ok_eIsi, ok_eIsi2, ok_eTyC, ok_eCall, ok_eCallK, ok_oNo, ok_oAt, ok_eSl, ok_iOf, ok_iOfT, ok_iRg1, oks_sNx, oks_sSeq, oks_sSet, oks_sOwn, oks_sDrop, oks_sRet, oks_sIf, oks_sAsg, oks_sPar, oks_sFor, ok_runD, ok_some, oks_some, startE, eV, setsE, Tg.parts, fAdd_int, fAdd_lst, fAdd_tup, fSub_int, fMul_int, fDiv_int, fMod_int, fPow_int, fLt_int, fLe_int, fGt_int, fGe_int, fNeg_int, fIx_lst, fIx_tup, fLen_lst, fLen_tup, fAbs_int, fInt1_int, fInt1_bl, fGcd_int, fTuple_lst, fTuple_tup, fList_lst, fList_tup, fTru_bl, fTru_lst, fTru_tup, fIsB_bl, atI_0, atI_1, ty_int, ty_bl, ty_lst, ty_tup, ty_str, ty_non, List.map_cons, List.map_nil, List.length_cons, List.length_nil, List.replicate, List.cons_append, List.nil_append, List.getElem?_cons_zero, List.getElem?_cons_succ, List.set_cons_zero, List.set_cons_succ, List.zip_cons_cons, List.zip_nil_right, List.zip_nil_left, Option.some.injEq, exists_eq_left', exists_eq_left, Nat.reduceAdd, Nat.reduceSub, Nat.reduceEqDiff, PyData.bool.injEq, PyData.int.injEq, PyData.list.injEq, PyData.tuple.injEq, if_true, if_false, reduceIte, true_and, and_true, decide_true, decide_false, Bool.false_eq_true])
    rw [ok_eq (turned_ok hi g1)]
    (try simp only [fEq_int, fNe_int, ok_eK, ok_lNil, ok_lCons, ok_e2, ok_e1, ok_eF, ok_eTup, ok_nLst, ok_eN, ok_mB, ok_mTru, ok_mNot, ok_mAnd, ok_mOr, ok_eAnd, ok_eOr, ok_eNot, ok_eIf, ok_eIsi, ok_eIsi2, ok_eTyC, ok_eCall, ok_eCallK, ok_oNo, ok_oAt, ok_eSl, ok_iOf, ok_iOfT, ok_iRg1, oks_sNx, oks_sSeq, oks_sSet, oks_sOwn, oks_sDrop, oks_sRet, oks_sIf, oks_sAsg, oks_sPar, oks_sFor, ok_runD, ok_some, oks_some, startE, eV, setsE, Tg.parts, fAdd_int, fAdd_lst, fAdd_tup, fSub_int, fMul_int, fDiv_int, fMod_int, fPow_int, fLt_int, fLe_int, fGt_int, fGe_int, fNeg_int, fIx_lst, fIx_tup, fLen_lst, fLen_tup, fAbs_int, fInt1_int, fInt1_bl, fGcd_int, fTuple_lst, fTuple_tup, fList_lst, fList_tup, fTru_bl, fTru_lst, fTru_tup, fIsB_bl, atI_0, atI_1, ty_int, ty_bl, ty_lst, ty_tup, ty_str, ty_non, List.map_cons, List.map_nil, List.length_cons, List.length_nil, List.replicate, List.cons_append, List.nil_append, List.getElem?_cons_zero, List.getElem?_cons_succ, List.set_cons_zero, List.set_cons_succ, List.zip_cons_cons, List.zip_nil_right, List.zip_nil_left, Option.some.injEq, exists_eq_left', exists_eq_left, Nat.reduceAdd, Nat.reduceSub, Nat.reduceEqDiff, PyData.bool.injEq, PyData.int.injEq, PyData.list.injEq, PyData.tuple.injEq, if_true, if_false, reduceIte, true_and, and_true, decide_true, decide_false, Bool.false_eq_true])
    rw [ok_eq (turned_ok lo g1)]
    (try simp only [fEq_int, fNe_int, ok_eK, ok_lNil, ok_lCons, ok_e2, ok_e1, ok_eF, ok_eTup, ok_nLst, ok_eN, ok_mB, ok_mTru, ok_mNot, ok_mAnd, ok_mOr, ok_eAnd, ok_eOr, ok_eNot, ok_eIf, ok_eIsi, ok_eIsi2, ok_eTyC, ok_eCall, ok_eCallK, ok_oNo, ok_oAt, ok_eSl, ok_iOf, ok_iOfT, ok_iRg1, oks_sNx, oks_sSeq, oks_sSet, oks_sOwn, oks_sDrop, oks_sRet, oks_sIf, oks_sAsg, oks_sPar, oks_sFor, ok_runD, ok_some, oks_some, startE, eV, setsE, Tg.parts, fAdd_int, fAdd_lst, fAdd_tup, fSub_int, fMul_int, fDiv_int, fMod_int, fPow_int, fLt_int, fLe_int, fGt_int, fGe_int, fNeg_int, fIx_lst, fIx_tup, fLen_lst, fLen_tup, fAbs_int, fInt1_int, fInt1_bl, fGcd_int, fTuple_lst, fTuple_tup, fList_lst, fList_tup, fTru_bl, fTru_lst, fTru_tup, fIsB_bl, atI_0, atI_1, ty_int, ty_bl, ty_lst, ty_tup, ty_str, ty_non, List.map_cons, List.map_nil, List.length_cons, List.length_nil, List.replicate, List.cons_append, List.nil_append, List.getElem?_cons_zero, List.getElem?_cons_succ, List.set_cons_zero, List.set_cons_succ, List.zip_cons_cons, List.zip_nil_right, List.zip_nil_left, Option.some.injEq, exists_eq_left', exists_eq_left, Nat.reduceAdd, Nat.reduceSub, Nat.reduceEqDiff, PyData.bool.injEq, PyData.int.injEq, PyData.list.injEq, PyData.tuple.injEq, if_true, if_false, reduceIte, true_and, and_true, decide_true, decide_false, Bool.false_eq_true])
    rw [ok_eq (rn g1)]
    exact ⟨rfl, .no, rfl⟩
  rintro _ g2 ⟨rfl, a8, rfl⟩
  generalize hv : vals lo (u b) (M5.cnt lo hi (u b)).toNat = v at *
  refine oks_seqI (P := fun E' g' => g' = g2 ∧ ∃ a3 a8, E' = [.val (fr lo), .val (fr hi), .val (.int w), a3, .no, .no, .val (fr (u b)), .val (.tuple (v.map fr)), a8, .no]) ?_ ?_
  · rw [oks_sIf, ok_mB, ok_e2]
    have e1 : eV false 3 (AE lo hi w (.val (.tuple [fr (u b), .tuple ((v.reverse.map (fun r => -r)).map fr)])) .no .no b a8) g2 = some (.tuple [fr (u b), .tuple ((v.reverse.map (fun r => -r)).map fr)], g2) := rfl
    rw [ok_eq e1]
    simp only [AE, hv]
    (try simp only [fEq_int, fNe_int, ok_eK, ok_lNil, ok_lCons, ok_e2, ok_e1, ok_eF, ok_eTup, ok_nLst, ok_eN, ok_mB, ok_mTru, ok_mNot, ok_mAnd, ok_mOr, ok_eAnd, ok_eOr, ok_eNot, ok_eIf, ok_eIsi, ok_eIsi2, ok_eTyC, ok_eCall, ok_eCallK, ok_oNo, ok_oAt, ok_eSl, ok_iOf, ok_iOfT, ok_iRg1, oks_sNx, oks_sSeq, oks_sSet, oks_sOwn, oks_sDrop, oks_sRet, oks_sIf, oks_sAsg, oks_sPar, oks_sFor, ok_runD, ok_some, oks_some, startE, eV, setsE, Tg.parts, fAdd_int, fAdd_lst, fAdd_tup, fSub_int, fMul_int, fDiv_int, fMod_int, fPow_int, fLt_int, fLe_int, fGt_int, fGe_int, fNeg_int, fIx_lst, fIx_tup, fLen_lst, fLen_tup, fAbs_int, fInt1_int, fInt1_bl, fGcd_int, fTuple_lst, fTuple_tup, fList_lst, fList_tup, fTru_bl, fTru_lst, fTru_tup, fIsB_bl, atI_0, atI_1, ty_int, ty_bl, ty_lst, ty_tup, ty_str, ty_non, List.map_cons, List.map_nil, List.length_cons, List.length_nil, List.replicate, List.cons_append, List.nil_append, List.getElem?_cons_zero, List.getElem?_cons_succ, List.set_cons_zero, List.set_cons_succ, List.zip_cons_cons, List.zip_nil_right, List.zip_nil_left, Option.some.injEq, exists_eq_left', exists_eq_left, Nat.reduceAdd, Nat.reduceSub, Nat.reduceEqDiff, PyData.bool.injEq, PyData.int.injEq, PyData.list.injEq, PyData.tuple.injEq, if_true, if_false, reduceIte, true_and, and_true, decide_true, decide_false, Bool.false_eq_true, z2])
    rw [ok_nLc (by rfl)]
    have e2 : iOfT (DL.e1 fRevT (eV true 7)) [.val (fr lo), .val (fr hi), .val (.int w), .val (.tuple [fr (u b), .tuple ((v.reverse.map (fun r => -r)).map fr)]), .no, .no, .val (fr (u b)), .val (.tuple (v.map fr)), a8, .no] g2 = some (v.reverse.map fr, g2) := by
      refine ok_iOfT' ?_
      show some (PyData.tuple (v.map fr).reverse, g2) = _
      rw [List.map_reverse]
    rw [ok_eq e2]
    refine ⟨by rw [List.length_map, List.length_reverse]; exact sz_ok (by omega), ?_⟩
    rw [ok_eq (lcL_mapR (χ := fun r => fr (-r)) _ fun r hr => ⟨_, rfl, by
      refine Ok.eq ?_
      (try simp only [fEq_int, fNe_int, ok_eK, ok_lNil, ok_lCons, ok_e2, ok_e1, ok_eF, ok_eTup, ok_nLst, ok_eN, ok_mB, ok_mTru, ok_mNot, ok_mAnd, ok_mOr, ok_eAnd, ok_eOr, ok_eNot, ok_eIf, ok_eIsi, ok_eIsi2, ok_eTyC, ok_eCall, ok_eCallK, ok_oNo, ok_oAt, ok_eSl, ok_iOf, ok_iOfT, ok_iRg1, oks_sNx, oks_sSeq, oks_sSet, oks_sOwn, oks_sDrop, oks_sRet, oks_sIf, oks_sAsg, oks_sPar, oks_sFor, ok_runD, ok_some, oks_some, startE, eV, setsE, Tg.parts, fAdd_int, fAdd_lst, fAdd_tup, fSub_int, fMul_int, fDiv_int, fMod_int, fPow_int, fLt_int, fLe_int, fGt_int, fGe_int, fNeg_int, fIx_lst, fIx_tup, fLen_lst, fLen_tup, fAbs_int, fInt1_int, fInt1_bl, fGcd_int, fTuple_lst, fTuple_tup, fList_lst, fList_tup, fTru_bl, fTru_lst, fTru_tup, fIsB_bl, atI_0, atI_1, ty_int, ty_bl, ty_lst, ty_tup, ty_str, ty_non, List.map_cons, List.map_nil, List.length_cons, List.length_nil, List.replicate, List.cons_append, List.nil_append, List.getElem?_cons_zero, List.getElem?_cons_succ, List.set_cons_zero, List.set_cons_succ, List.zip_cons_cons, List.zip_nil_right, List.zip_nil_left, Option.some.injEq, exists_eq_left', exists_eq_left, Nat.reduceAdd, Nat.reduceSub, Nat.reduceEqDiff, PyData.bool.injEq, PyData.int.injEq, PyData.list.injEq, PyData.tuple.injEq, if_true, if_false, reduceIte, true_and, and_true, decide_true, decide_false, Bool.false_eq_true, wipeE])
      rw [ok_eq (turned_ok r g2)]
      exact ⟨rfl, rfl⟩⟩)]
    (try simp only [fEq_int, fNe_int, ok_eK, ok_lNil, ok_lCons, ok_e2, ok_e1, ok_eF, ok_eTup, ok_nLst, ok_eN, ok_mB, ok_mTru, ok_mNot, ok_mAnd, ok_mOr, ok_eAnd, ok_eOr, ok_eNot, ok_eIf, ok_eIsi, ok_eIsi2, ok_eTyC, ok_eCall, ok_eCallK, ok_oNo, ok_oAt, ok_eSl, ok_iOf, ok_iOfT, ok_iRg1, oks_sNx, oks_sSeq, oks_sSet, oks_sOwn, oks_sDrop, oks_sRet, oks_sIf, oks_sAsg, oks_sPar, oks_sFor, ok_runD, ok_some, oks_some, startE, eV, setsE, Tg.parts, fAdd_int, fAdd_lst, fAdd_tup, fSub_int, fMul_int, fDiv_int, fMod_int, fPow_int, fLt_int, fLe_int, fGt_int, fGe_int, fNeg_int, fIx_lst, fIx_tup, fLen_lst, fLen_tup, fAbs_int, fInt1_int, fInt1_bl, fGcd_int, fTuple_lst, fTuple_tup, fList_lst, fList_tup, fTru_bl, fTru_lst, fTru_tup, fIsB_bl, atI_0, atI_1, ty_int, ty_bl, ty_lst, ty_tup, ty_str, ty_non, List.map_cons, List.map_nil, List.length_cons, List.length_nil, List.replicate, List.cons_append, List.nil_append, List.getElem?_cons_zero, List.getElem?_cons_succ, List.set_cons_zero, List.set_cons_succ, List.zip_cons_cons, List.zip_nil_right, List.zip_nil_left, Option.some.injEq, exists_eq_left', exists_eq_left, Nat.reduceAdd, Nat.reduceSub, Nat.reduceEqDiff, PyData.bool.injEq, PyData.int.injEq, PyData.list.injEq, PyData.tuple.injEq, if_true, if_false, reduceIte, true_and, and_true, decide_true, decide_false, Bool.false_eq_true])
    have e3 : v.reverse.map (fun r => fr (-r)) = (v.reverse.map (fun r => -r)).map fr := by
      rw [List.map_map]
      rfl
    refine ⟨_, by rw [e3]; exact ne_same hsh, false, rfl, ?_⟩
    rw [if_neg (by decide)]
    exact ⟨_, a8, rfl⟩
  rintro _ g3 ⟨rfl, a3, a8, rfl⟩
  refine oks_seqI (P := fun E' g' => g' = g3 ∧ ∃ a4 a8, E' = [.val (fr lo), .val (fr hi), .val (.int w), a3, a4, .no, .val (fr (u b)), .val (.tuple (v.map fr)), a8, .no]) ?_ ?_
  · rw [oks_sFor]
    (try simp only [fEq_int, fNe_int, ok_eK, ok_lNil, ok_lCons, ok_e2, ok_e1, ok_eF, ok_eTup, ok_nLst, ok_eN, ok_mB, ok_mTru, ok_mNot, ok_mAnd, ok_mOr, ok_eAnd, ok_eOr, ok_eNot, ok_eIf, ok_eIsi, ok_eIsi2, ok_eTyC, ok_eCall, ok_eCallK, ok_oNo, ok_oAt, ok_eSl, ok_iOf, ok_iOfT, ok_iRg1, oks_sNx, oks_sSeq, oks_sSet, oks_sOwn, oks_sDrop, oks_sRet, oks_sIf, oks_sAsg, oks_sPar, oks_sFor, ok_runD, ok_some, oks_some, startE, eV, setsE, Tg.parts, fAdd_int, fAdd_lst, fAdd_tup, fSub_int, fMul_int, fDiv_int, fMod_int, fPow_int, fLt_int, fLe_int, fGt_int, fGe_int, fNeg_int, fIx_lst, fIx_tup, fLen_lst, fLen_tup, fAbs_int, fInt1_int, fInt1_bl, fGcd_int, fTuple_lst, fTuple_tup, fList_lst, fList_tup, fTru_bl, fTru_lst, fTru_tup, fIsB_bl, atI_0, atI_1, ty_int, ty_bl, ty_lst, ty_tup, ty_str, ty_non, List.map_cons, List.map_nil, List.length_cons, List.length_nil, List.replicate, List.cons_append, List.nil_append, List.getElem?_cons_zero, List.getElem?_cons_succ, List.set_cons_zero, List.set_cons_succ, List.zip_cons_cons, List.zip_nil_right, List.zip_nil_left, Option.some.injEq, exists_eq_left', exists_eq_left, Nat.reduceAdd, Nat.reduceSub, Nat.reduceEqDiff, PyData.bool.injEq, PyData.int.injEq, PyData.list.injEq, PyData.tuple.injEq, if_true, if_false, reduceIte, true_and, and_true, decide_true, decide_false, Bool.false_eq_true, z2])
    rw [fr10, fr0100]
    refine forL_ok (I := fun E' g' => g' = g3 ∧ ∃ a4 a8, E' = [.val (fr lo), .val (fr hi), .val (.int w), a3, a4, .no, .val (fr (u b)), .val (.tuple (v.map fr)), a8, .no]) _ _ _ (fun d hd E' g' ⟨hg, a4, a8, hE⟩ => ?_) ⟨rfl, .no, a8, rfl⟩
    subst hg; subst hE
    have hq : ∃ (q : Rat) (c : Int), d = fr q ∧ 0 < q ∧ Sz 7 q ∧ ∀ i, u (i + c) = q * u i := by
      rcases List.mem_cons.mp hd with rfl | hd
      · exact ⟨10, 3, rfl, by decide, q10, M5.u_up⟩
      · rcases List.mem_cons.mp hd with rfl | hd
        · exact ⟨1 / 100, -6, rfl, by decide +kernel, q01, M5.u_dn⟩
        · exact absurd hd (by simp)
    obtain ⟨q, c, rfl, hq, sq, hu⟩ := hq
    have st := sc q c hq sq hu
    rw [row_scale hq (hu b), hv] at st
    have hsh2 := sh_row (q * u b) (v.map (fun r => q * r))
    refine ⟨[(4, fr q)], rfl, ?_⟩
    refine oks_seqI (P := fun E' g'' => g'' = g' ∧ E' = [.val (fr lo), .val (fr hi), .val (.int w), a3, .val (fr q), .no, .val (fr (u b)), .val (.tuple (v.map fr)), .val (.tuple [fr (q * u b), .tuple ((v.map (fun r => q * r)).map fr)]), .no]) ?_ ?_
    · (try simp only [fEq_int, fNe_int, ok_eK, ok_lNil, ok_lCons, ok_e2, ok_e1, ok_eF, ok_eTup, ok_nLst, ok_eN, ok_mB, ok_mTru, ok_mNot, ok_mAnd, ok_mOr, ok_eAnd, ok_eOr, ok_eNot, ok_eIf, ok_eIsi, ok_eIsi2, ok_eTyC, ok_eCall, ok_eCallK, ok_oNo, ok_oAt, ok_eSl, ok_iOf, ok_iOfT, ok_iRg1, oks_sNx, oks_sSeq, oks_sSet, oks_sOwn, oks_sDrop, oks_sRet, oks_sIf, oks_sAsg, oks_sPar, oks_sFor, ok_runD, ok_some, oks_some, startE, eV, setsE, Tg.parts, fAdd_int, fAdd_lst, fAdd_tup, fSub_int, fMul_int, fDiv_int, fMod_int, fPow_int, fLt_int, fLe_int, fGt_int, fGe_int, fNeg_int, fIx_lst, fIx_tup, fLen_lst, fLen_tup, fAbs_int, fInt1_int, fInt1_bl, fGcd_int, fTuple_lst, fTuple_tup, fList_lst, fList_tup, fTru_bl, fTru_lst, fTru_tup, fIsB_bl, atI_0, atI_1, ty_int, ty_bl, ty_lst, ty_tup, ty_str, ty_non, List.map_cons, List.map_nil, List.length_cons, List.length_nil, List.replicate, List.cons_append, List.nil_append, List.getElem?_cons_zero, List.getElem?_cons_succ, List.set_cons_zero, List.set_cons_succ, List.zip_cons_cons, List.zip_nil_right, List.zip_nil_left, Option.some.injEq, exists_eq_left', exists_eq_left, Nat.reduceAdd, Nat.reduceSub, Nat.reduceEqDiff, PyData.bool.injEq, PyData.int.injEq, PyData.list.injEq, PyData.tuple.injEq, if_true, if_false, reduceIte, true_and, and_true, decide_true, decide_false, Bool.false_eq_true])
      rw [ok_eq (ltimes_ok sq h1 (by decide) g')]
      (try simp only [fEq_int, fNe_int, ok_eK, ok_lNil, ok_lCons, ok_e2, ok_e1, ok_eF, ok_eTup, ok_nLst, ok_eN, ok_mB, ok_mTru, ok_mNot, ok_mAnd, ok_mOr, ok_eAnd, ok_eOr, ok_eNot, ok_eIf, ok_eIsi, ok_eIsi2, ok_eTyC, ok_eCall, ok_eCallK, ok_oNo, ok_oAt, ok_eSl, ok_iOf, ok_iOfT, ok_iRg1, oks_sNx, oks_sSeq, oks_sSet, oks_sOwn, oks_sDrop, oks_sRet, oks_sIf, oks_sAsg, oks_sPar, oks_sFor, ok_runD, ok_some, oks_some, startE, eV, setsE, Tg.parts, fAdd_int, fAdd_lst, fAdd_tup, fSub_int, fMul_int, fDiv_int, fMod_int, fPow_int, fLt_int, fLe_int, fGt_int, fGe_int, fNeg_int, fIx_lst, fIx_tup, fLen_lst, fLen_tup, fAbs_int, fInt1_int, fInt1_bl, fGcd_int, fTuple_lst, fTuple_tup, fList_lst, fList_tup, fTru_bl, fTru_lst, fTru_tup, fIsB_bl, atI_0, atI_1, ty_int, ty_bl, ty_lst, ty_tup, ty_str, ty_non, List.map_cons, List.map_nil, List.length_cons, List.length_nil, List.replicate, List.cons_append, List.nil_append, List.getElem?_cons_zero, List.getElem?_cons_succ, List.set_cons_zero, List.set_cons_succ, List.zip_cons_cons, List.zip_nil_right, List.zip_nil_left, Option.some.injEq, exists_eq_left', exists_eq_left, Nat.reduceAdd, Nat.reduceSub, Nat.reduceEqDiff, PyData.bool.injEq, PyData.int.injEq, PyData.list.injEq, PyData.tuple.injEq, if_true, if_false, reduceIte, true_and, and_true, decide_true, decide_false, Bool.false_eq_true])
      rw [ok_eq (ltimes_ok sq h2 (by decide) g')]
      (try simp only [fEq_int, fNe_int, ok_eK, ok_lNil, ok_lCons, ok_e2, ok_e1, ok_eF, ok_eTup, ok_nLst, ok_eN, ok_mB, ok_mTru, ok_mNot, ok_mAnd, ok_mOr, ok_eAnd, ok_eOr, ok_eNot, ok_eIf, ok_eIsi, ok_eIsi2, ok_eTyC, ok_eCall, ok_eCallK, ok_oNo, ok_oAt, ok_eSl, ok_iOf, ok_iOfT, ok_iRg1, oks_sNx, oks_sSeq, oks_sSet, oks_sOwn, oks_sDrop, oks_sRet, oks_sIf, oks_sAsg, oks_sPar, oks_sFor, ok_runD, ok_some, oks_some, startE, eV, setsE, Tg.parts, fAdd_int, fAdd_lst, fAdd_tup, fSub_int, fMul_int, fDiv_int, fMod_int, fPow_int, fLt_int, fLe_int, fGt_int, fGe_int, fNeg_int, fIx_lst, fIx_tup, fLen_lst, fLen_tup, fAbs_int, fInt1_int, fInt1_bl, fGcd_int, fTuple_lst, fTuple_tup, fList_lst, fList_tup, fTru_bl, fTru_lst, fTru_tup, fIsB_bl, atI_0, atI_1, ty_int, ty_bl, ty_lst, ty_tup, ty_str, ty_non, List.map_cons, List.map_nil, List.length_cons, List.length_nil, List.replicate, List.cons_append, List.nil_append, List.getElem?_cons_zero, List.getElem?_cons_succ, List.set_cons_zero, List.set_cons_succ, List.zip_cons_cons, List.zip_nil_right, List.zip_nil_left, Option.some.injEq, exists_eq_left', exists_eq_left, Nat.reduceAdd, Nat.reduceSub, Nat.reduceEqDiff, PyData.bool.injEq, PyData.int.injEq, PyData.list.injEq, PyData.tuple.injEq, if_true, if_false, reduceIte, true_and, and_true, decide_true, decide_false, Bool.false_eq_true])
      rw [ok_eq (st g')]
      exact ⟨rfl, rfl⟩
    rintro _ g4 ⟨rfl, rfl⟩
    rw [oks_sIf, ok_mB, ok_e2]
    (try simp only [fEq_int, fNe_int, ok_eK, ok_lNil, ok_lCons, ok_e2, ok_e1, ok_eF, ok_eTup, ok_nLst, ok_eN, ok_mB, ok_mTru, ok_mNot, ok_mAnd, ok_mOr, ok_eAnd, ok_eOr, ok_eNot, ok_eIf, ok_eIsi, ok_eIsi2, ok_eTyC, ok_eCall, ok_eCallK, ok_oNo, ok_oAt, ok_eSl, ok_iOf, ok_iOfT, ok_iRg1, oks_sNx, oks_sSeq, oks_sSet, oks_sOwn, oks_sDrop, oks_sRet, oks_sIf, oks_sAsg, oks_sPar, oks_sFor, ok_runD, ok_some, oks_some, startE, eV, setsE, Tg.parts, fAdd_int, fAdd_lst, fAdd_tup, fSub_int, fMul_int, fDiv_int, fMod_int, fPow_int, fLt_int, fLe_int, fGt_int, fGe_int, fNeg_int, fIx_lst, fIx_tup, fLen_lst, fLen_tup, fAbs_int, fInt1_int, fInt1_bl, fGcd_int, fTuple_lst, fTuple_tup, fList_lst, fList_tup, fTru_bl, fTru_lst, fTru_tup, fIsB_bl, atI_0, atI_1, ty_int, ty_bl, ty_lst, ty_tup, ty_str, ty_non, List.map_cons, List.map_nil, List.length_cons, List.length_nil, List.replicate, List.cons_append, List.nil_append, List.getElem?_cons_zero, List.getElem?_cons_succ, List.set_cons_zero, List.set_cons_succ, List.zip_cons_cons, List.zip_nil_right, List.zip_nil_left, Option.some.injEq, exists_eq_left', exists_eq_left, Nat.reduceAdd, Nat.reduceSub, Nat.reduceEqDiff, PyData.bool.injEq, PyData.int.injEq, PyData.list.injEq, PyData.tuple.injEq, if_true, if_false, reduceIte, true_and, and_true, decide_true, decide_false, Bool.false_eq_true, z2])
    rw [ok_eq (ltimes_ok sq us (by decide) g4)]
    (try simp only [fEq_int, fNe_int, ok_eK, ok_lNil, ok_lCons, ok_e2, ok_e1, ok_eF, ok_eTup, ok_nLst, ok_eN, ok_mB, ok_mTru, ok_mNot, ok_mAnd, ok_mOr, ok_eAnd, ok_eOr, ok_eNot, ok_eIf, ok_eIsi, ok_eIsi2, ok_eTyC, ok_eCall, ok_eCallK, ok_oNo, ok_oAt, ok_eSl, ok_iOf, ok_iOfT, ok_iRg1, oks_sNx, oks_sSeq, oks_sSet, oks_sOwn, oks_sDrop, oks_sRet, oks_sIf, oks_sAsg, oks_sPar, oks_sFor, ok_runD, ok_some, oks_some, startE, eV, setsE, Tg.parts, fAdd_int, fAdd_lst, fAdd_tup, fSub_int, fMul_int, fDiv_int, fMod_int, fPow_int, fLt_int, fLe_int, fGt_int, fGe_int, fNeg_int, fIx_lst, fIx_tup, fLen_lst, fLen_tup, fAbs_int, fInt1_int, fInt1_bl, fGcd_int, fTuple_lst, fTuple_tup, fList_lst, fList_tup, fTru_bl, fTru_lst, fTru_tup, fIsB_bl, atI_0, atI_1, ty_int, ty_bl, ty_lst, ty_tup, ty_str, ty_non, List.map_cons, List.map_nil, List.length_cons, List.length_nil, List.replicate, List.cons_append, List.nil_append, List.getElem?_cons_zero, List.getElem?_cons_succ, List.set_cons_zero, List.set_cons_succ, List.zip_cons_cons, List.zip_nil_right, List.zip_nil_left, Option.some.injEq, exists_eq_left', exists_eq_left, Nat.reduceAdd, Nat.reduceSub, Nat.reduceEqDiff, PyData.bool.injEq, PyData.int.injEq, PyData.list.injEq, PyData.tuple.injEq, if_true, if_false, reduceIte, true_and, and_true, decide_true, decide_false, Bool.false_eq_true])
    rw [ok_nLc (by rfl)]
    have e2 : iOfT (eV true 7) [.val (fr lo), .val (fr hi), .val (.int w), a3, .val (fr q), .no, .val (fr (u b)), .val (.tuple (v.map fr)), .val (.tuple [fr (q * u b), .tuple ((v.map (fun r => q * r)).map fr)]), .no] g4 = some (v.map fr, g4) := ok_iOfT' rfl
    rw [ok_eq e2]
    refine ⟨by rw [List.length_map]; exact sz_ok (by omega), ?_⟩
    rw [ok_eq (lcL_mapR (χ := fun r => fr (q * r)) _ fun r hr => ⟨_, rfl, by
      refine Ok.eq ?_
      (try simp only [fEq_int, fNe_int, ok_eK, ok_lNil, ok_lCons, ok_e2, ok_e1, ok_eF, ok_eTup, ok_nLst, ok_eN, ok_mB, ok_mTru, ok_mNot, ok_mAnd, ok_mOr, ok_eAnd, ok_eOr, ok_eNot, ok_eIf, ok_eIsi, ok_eIsi2, ok_eTyC, ok_eCall, ok_eCallK, ok_oNo, ok_oAt, ok_eSl, ok_iOf, ok_iOfT, ok_iRg1, oks_sNx, oks_sSeq, oks_sSet, oks_sOwn, oks_sDrop, oks_sRet, oks_sIf, oks_sAsg, oks_sPar, oks_sFor, ok_runD, ok_some, oks_some, startE, eV, setsE, Tg.parts, fAdd_int, fAdd_lst, fAdd_tup, fSub_int, fMul_int, fDiv_int, fMod_int, fPow_int, fLt_int, fLe_int, fGt_int, fGe_int, fNeg_int, fIx_lst, fIx_tup, fLen_lst, fLen_tup, fAbs_int, fInt1_int, fInt1_bl, fGcd_int, fTuple_lst, fTuple_tup, fList_lst, fList_tup, fTru_bl, fTru_lst, fTru_tup, fIsB_bl, atI_0, atI_1, ty_int, ty_bl, ty_lst, ty_tup, ty_str, ty_non, List.map_cons, List.map_nil, List.length_cons, List.length_nil, List.replicate, List.cons_append, List.nil_append, List.getElem?_cons_zero, List.getElem?_cons_succ, List.set_cons_zero, List.set_cons_succ, List.zip_cons_cons, List.zip_nil_right, List.zip_nil_left, Option.some.injEq, exists_eq_left', exists_eq_left, Nat.reduceAdd, Nat.reduceSub, Nat.reduceEqDiff, PyData.bool.injEq, PyData.int.injEq, PyData.list.injEq, PyData.tuple.injEq, if_true, if_false, reduceIte, true_and, and_true, decide_true, decide_false, Bool.false_eq_true, wipeE])
      rw [ok_eq (ltimes_ok sq (vs r hr) (by decide) g4)]
      exact ⟨rfl, rfl⟩⟩)]
    (try simp only [fEq_int, fNe_int, ok_eK, ok_lNil, ok_lCons, ok_e2, ok_e1, ok_eF, ok_eTup, ok_nLst, ok_eN, ok_mB, ok_mTru, ok_mNot, ok_mAnd, ok_mOr, ok_eAnd, ok_eOr, ok_eNot, ok_eIf, ok_eIsi, ok_eIsi2, ok_eTyC, ok_eCall, ok_eCallK, ok_oNo, ok_oAt, ok_eSl, ok_iOf, ok_iOfT, ok_iRg1, oks_sNx, oks_sSeq, oks_sSet, oks_sOwn, oks_sDrop, oks_sRet, oks_sIf, oks_sAsg, oks_sPar, oks_sFor, ok_runD, ok_some, oks_some, startE, eV, setsE, Tg.parts, fAdd_int, fAdd_lst, fAdd_tup, fSub_int, fMul_int, fDiv_int, fMod_int, fPow_int, fLt_int, fLe_int, fGt_int, fGe_int, fNeg_int, fIx_lst, fIx_tup, fLen_lst, fLen_tup, fAbs_int, fInt1_int, fInt1_bl, fGcd_int, fTuple_lst, fTuple_tup, fList_lst, fList_tup, fTru_bl, fTru_lst, fTru_tup, fIsB_bl, atI_0, atI_1, ty_int, ty_bl, ty_lst, ty_tup, ty_str, ty_non, List.map_cons, List.map_nil, List.length_cons, List.length_nil, List.replicate, List.cons_append, List.nil_append, List.getElem?_cons_zero, List.getElem?_cons_succ, List.set_cons_zero, List.set_cons_succ, List.zip_cons_cons, List.zip_nil_right, List.zip_nil_left, Option.some.injEq, exists_eq_left', exists_eq_left, Nat.reduceAdd, Nat.reduceSub, Nat.reduceEqDiff, PyData.bool.injEq, PyData.int.injEq, PyData.list.injEq, PyData.tuple.injEq, if_true, if_false, reduceIte, true_and, and_true, decide_true, decide_false, Bool.false_eq_true])
    have e3 : v.map (fun r => fr (q * r)) = (v.map (fun r => q * r)).map fr := by
      rw [List.map_map]
      rfl
    refine ⟨_, by rw [e3]; exact ne_same hsh2, false, rfl, ?_⟩
    rw [if_neg (by decide)]
    exact ⟨_, _, rfl⟩
  rintro _ g4 ⟨rfl, a4, a9, rfl⟩
  refine oks_seqI (P := fun E' g' => g' = g4 ∧ E' = [.val (fr lo), .val (fr hi), .val (.int w), a3, a4, .val (stepsD lo hi (x :: l)), .val (fr (u b)), .val (.tuple (v.map fr)), a9, .no]) ?_ ?_
  · (try simp only [fEq_int, fNe_int, ok_eK, ok_lNil, ok_lCons, ok_e2, ok_e1, ok_eF, ok_eTup, ok_nLst, ok_eN, ok_mB, ok_mTru, ok_mNot, ok_mAnd, ok_mOr, ok_eAnd, ok_eOr, ok_eNot, ok_eIf, ok_eIsi, ok_eIsi2, ok_eTyC, ok_eCall, ok_eCallK, ok_oNo, ok_oAt, ok_eSl, ok_iOf, ok_iOfT, ok_iRg1, oks_sNx, oks_sSeq, oks_sSet, oks_sOwn, oks_sDrop, oks_sRet, oks_sIf, oks_sAsg, oks_sPar, oks_sFor, ok_runD, ok_some, oks_some, startE, eV, setsE, Tg.parts, fAdd_int, fAdd_lst, fAdd_tup, fSub_int, fMul_int, fDiv_int, fMod_int, fPow_int, fLt_int, fLe_int, fGt_int, fGe_int, fNeg_int, fIx_lst, fIx_tup, fLen_lst, fLen_tup, fAbs_int, fInt1_int, fInt1_bl, fGcd_int, fTuple_lst, fTuple_tup, fList_lst, fList_tup, fTru_bl, fTru_lst, fTru_tup, fIsB_bl, atI_0, atI_1, ty_int, ty_bl, ty_lst, ty_tup, ty_str, ty_non, List.map_cons, List.map_nil, List.length_cons, List.length_nil, List.replicate, List.cons_append, List.nil_append, List.getElem?_cons_zero, List.getElem?_cons_succ, List.set_cons_zero, List.set_cons_succ, List.zip_cons_cons, List.zip_nil_right, List.zip_nil_left, Option.some.injEq, exists_eq_left', exists_eq_left, Nat.reduceAdd, Nat.reduceSub, Nat.reduceEqDiff, PyData.bool.injEq, PyData.int.injEq, PyData.list.injEq, PyData.tuple.injEq, if_true, if_false, reduceIte, true_and, and_true, decide_true, decide_false, Bool.false_eq_true])
    rw [ok_eq (C.st g4)]
    try exact ⟨rfl, rfl⟩
  rintro _ g5 ⟨rfl, rfl⟩
  have rs' := rs g5
  have hmap : (x :: l).map (· + (0 : Int)) = x :: l := by simp
  rw [hmap] at rs'
  have hst : SeqAt.shaped (stepsD lo hi (x :: l)) = true := by
    rw [stepsD_fr]
    exact sh_frs _ (.inr rfl) _
  have hse : stepsD (-hi) (-lo) (x :: l) = stepsD lo hi (x :: l) := rfl
  rw [hse] at rs'
  have fin : fInT false (fr (u b)) (stepsD lo hi (x :: l)) = some (.bool true) := by
    unfold fInT
    show (if SeqAt.shaped (fr (u b)) && SeqAt.shaped (stepsD lo hi (x :: l)) then _ else _) = _
    rw [hst, sh_fr]
    show some (PyData.bool (((x :: l).map fun i => fr (u i)).any fun z => PyData.eqv z (fr (u b)))) = _
    have : (((x :: l).map fun i => fr (u i)).any fun z => PyData.eqv z (fr (u b))) = true := by
      rw [List.any_map, List.any_eq_true]
      exact ⟨b, hb, by simp only [Function.comp]; rw [eqv_fr, decide_eq_true rfl]⟩
    rw [this]
  (try simp only [fEq_int, fNe_int, ok_eK, ok_lNil, ok_lCons, ok_e2, ok_e1, ok_eF, ok_eTup, ok_nLst, ok_eN, ok_mB, ok_mTru, ok_mNot, ok_mAnd, ok_mOr, ok_eAnd, ok_eOr, ok_eNot, ok_eIf, ok_eIsi, ok_eIsi2, ok_eTyC, ok_eCall, ok_eCallK, ok_oNo, ok_oAt, ok_eSl, ok_iOf, ok_iOfT, ok_iRg1, oks_sNx, oks_sSeq, oks_sSet, oks_sOwn, oks_sDrop, oks_sRet, oks_sIf, oks_sAsg, oks_sPar, oks_sFor, ok_runD, ok_some, oks_some, startE, eV, setsE, Tg.parts, fAdd_int, fAdd_lst, fAdd_tup, fSub_int, fMul_int, fDiv_int, fMod_int, fPow_int, fLt_int, fLe_int, fGt_int, fGe_int, fNeg_int, fIx_lst, fIx_tup, fLen_lst, fLen_tup, fAbs_int, fInt1_int, fInt1_bl, fGcd_int, fTuple_lst, fTuple_tup, fList_lst, fList_tup, fTru_bl, fTru_lst, fTru_tup, fIsB_bl, atI_0, atI_1, ty_int, ty_bl, ty_lst, ty_tup, ty_str, ty_non, List.map_cons, List.map_nil, List.length_cons, List.length_nil, List.replicate, List.cons_append, List.nil_append, List.getElem?_cons_zero, List.getElem?_cons_succ, List.set_cons_zero, List.set_cons_succ, List.zip_cons_cons, List.zip_nil_right, List.zip_nil_left, Option.some.injEq, exists_eq_left', exists_eq_left, Nat.reduceAdd, Nat.reduceSub, Nat.reduceEqDiff, PyData.bool.injEq, PyData.int.injEq, PyData.list.injEq, PyData.tuple.injEq, if_true, if_false, reduceIte, true_and, and_true, decide_true, decide_false, Bool.false_eq_true])
  rw [ok_eq (turned_ok hi g5)]
  (try simp only [fEq_int, fNe_int, ok_eK, ok_lNil, ok_lCons, ok_e2, ok_e1, ok_eF, ok_eTup, ok_nLst, ok_eN, ok_mB, ok_mTru, ok_mNot, ok_mAnd, ok_mOr, ok_eAnd, ok_eOr, ok_eNot, ok_eIf, ok_eIsi, ok_eIsi2, ok_eTyC, ok_eCall, ok_eCallK, ok_oNo, ok_oAt, ok_eSl, ok_iOf, ok_iOfT, ok_iRg1, oks_sNx, oks_sSeq, oks_sSet, oks_sOwn, oks_sDrop, oks_sRet, oks_sIf, oks_sAsg, oks_sPar, oks_sFor, ok_runD, ok_some, oks_some, startE, eV, setsE, Tg.parts, fAdd_int, fAdd_lst, fAdd_tup, fSub_int, fMul_int, fDiv_int, fMod_int, fPow_int, fLt_int, fLe_int, fGt_int, fGe_int, fNeg_int, fIx_lst, fIx_tup, fLen_lst, fLen_tup, fAbs_int, fInt1_int, fInt1_bl, fGcd_int, fTuple_lst, fTuple_tup, fList_lst, fList_tup, fTru_bl, fTru_lst, fTru_tup, fIsB_bl, atI_0, atI_1, ty_int, ty_bl, ty_lst, ty_tup, ty_str, ty_non, List.map_cons, List.map_nil, List.length_cons, List.length_nil, List.replicate, List.cons_append, List.nil_append, List.getElem?_cons_zero, List.getElem?_cons_succ, List.set_cons_zero, List.set_cons_succ, List.zip_cons_cons, List.zip_nil_right, List.zip_nil_left, Option.some.injEq, exists_eq_left', exists_eq_left, Nat.reduceAdd, Nat.reduceSub, Nat.reduceEqDiff, PyData.bool.injEq, PyData.int.injEq, PyData.list.injEq, PyData.tuple.injEq, if_true, if_false, reduceIte, true_and, and_true, decide_true, decide_false, Bool.false_eq_true])
  rw [ok_eq (turned_ok lo g5)]
  (try simp only [fEq_int, fNe_int, ok_eK, ok_lNil, ok_lCons, ok_e2, ok_e1, ok_eF, ok_eTup, ok_nLst, ok_eN, ok_mB, ok_mTru, ok_mNot, ok_mAnd, ok_mOr, ok_eAnd, ok_eOr, ok_eNot, ok_eIf, ok_eIsi, ok_eIsi2, ok_eTyC, ok_eCall, ok_eCallK, ok_oNo, ok_oAt, ok_eSl, ok_iOf, ok_iOfT, ok_iRg1, oks_sNx, oks_sSeq, oks_sSet, oks_sOwn, oks_sDrop, oks_sRet, oks_sIf, oks_sAsg, oks_sPar, oks_sFor, ok_runD, ok_some, oks_some, startE, eV, setsE, Tg.parts, fAdd_int, fAdd_lst, fAdd_tup, fSub_int, fMul_int, fDiv_int, fMod_int, fPow_int, fLt_int, fLe_int, fGt_int, fGe_int, fNeg_int, fIx_lst, fIx_tup, fLen_lst, fLen_tup, fAbs_int, fInt1_int, fInt1_bl, fGcd_int, fTuple_lst, fTuple_tup, fList_lst, fList_tup, fTru_bl, fTru_lst, fTru_tup, fIsB_bl, atI_0, atI_1, ty_int, ty_bl, ty_lst, ty_tup, ty_str, ty_non, List.map_cons, List.map_nil, List.length_cons, List.length_nil, List.replicate, List.cons_append, List.nil_append, List.getElem?_cons_zero, List.getElem?_cons_succ, List.set_cons_zero, List.set_cons_succ, List.zip_cons_cons, List.zip_nil_right, List.zip_nil_left, Option.some.injEq, exists_eq_left', exists_eq_left, Nat.reduceAdd, Nat.reduceSub, Nat.reduceEqDiff, PyData.bool.injEq, PyData.int.injEq, PyData.list.injEq, PyData.tuple.injEq, if_true, if_false, reduceIte, true_and, and_true, decide_true, decide_false, Bool.false_eq_true])
  rw [ok_eq rs']
  (try simp only [fEq_int, fNe_int, ok_eK, ok_lNil, ok_lCons, ok_e2, ok_e1, ok_eF, ok_eTup, ok_nLst, ok_eN, ok_mB, ok_mTru, ok_mNot, ok_mAnd, ok_mOr, ok_eAnd, ok_eOr, ok_eNot, ok_eIf, ok_eIsi, ok_eIsi2, ok_eTyC, ok_eCall, ok_eCallK, ok_oNo, ok_oAt, ok_eSl, ok_iOf, ok_iOfT, ok_iRg1, oks_sNx, oks_sSeq, oks_sSet, oks_sOwn, oks_sDrop, oks_sRet, oks_sIf, oks_sAsg, oks_sPar, oks_sFor, ok_runD, ok_some, oks_some, startE, eV, setsE, Tg.parts, fAdd_int, fAdd_lst, fAdd_tup, fSub_int, fMul_int, fDiv_int, fMod_int, fPow_int, fLt_int, fLe_int, fGt_int, fGe_int, fNeg_int, fIx_lst, fIx_tup, fLen_lst, fLen_tup, fAbs_int, fInt1_int, fInt1_bl, fGcd_int, fTuple_lst, fTuple_tup, fList_lst, fList_tup, fTru_bl, fTru_lst, fTru_tup, fIsB_bl, atI_0, atI_1, ty_int, ty_bl, ty_lst, ty_tup, ty_str, ty_non, List.map_cons, List.map_nil, List.length_cons, List.length_nil, List.replicate, List.cons_append, List.nil_append, List.getElem?_cons_zero, List.getElem?_cons_succ, List.set_cons_zero, List.set_cons_succ, List.zip_cons_cons, List.zip_nil_right, List.zip_nil_left, Option.some.injEq, exists_eq_left', exists_eq_left, Nat.reduceAdd, Nat.reduceSub, Nat.reduceEqDiff, PyData.bool.injEq, PyData.int.injEq, PyData.list.injEq, PyData.tuple.injEq, if_true, if_false, reduceIte, true_and, and_true, decide_true, decide_false, Bool.false_eq_true, eq_same hst, fin])
  try exact ⟨rfl, rfl⟩
end K06

set_option Elab.async false
set_option linter.all false
set_option maxRecDepth 100000
set_option maxHeartbeats 4000000
namespace K06
open PySem PySem.Spec PyProof.Rows L2 DL
open M5 (pt u fl fst okI mid)
theorem vals_at (lo s : Rat) {n k : Nat} (h : k < n) : atI ((vals lo s n).map fr) (k : Int) = some (fr (((fst lo s + (k : Int) : Int) : Rat) * s)) := by
  have hl : k < ((vals lo s n).map fr).length := by unfold vals; simp; exact h
  rw [atI_nat hl]
  unfold vals
  simp
theorem vals_last (lo s : Rat) {n : Nat} (h : 0 < n) : atI ((vals lo s n).map fr) (-1) = some (fr (((fst lo s + ((n - 1 : Nat) : Int) : Int) : Rat) * s)) := by
  have e : atI ((vals lo s n).map fr) (-1) = atI ((vals lo s n).map fr) ((n - 1 : Nat) : Int) := by
    have hl : ((vals lo s n).map fr).length = n := by unfold vals; simp
    unfold atI ixN
    rw [hl]
    have h1 : ¬ ((0 : Int) ≤ -1) := by decide
    have h2 : (0 : Int) ≤ ((n - 1 : Nat) : Int) := by omega
    rw [if_neg h1, if_pos (by omega), if_pos h2, if_pos (by omega), show (-1 + (n : Int)).toNat = n - 1 by omega, Int.toNat_natCast]
  rw [e, vals_at lo s (by omega)]
theorem sides {lo hi s : Rat} (hs : 0 < s) : lo ≤ (fst lo s : Rat) * s ∧ ((fst lo s : Rat) - 1) * s < lo ∧ (fl hi s : Rat) * s ≤ hi ∧ hi < ((fl hi s : Rat) + 1) * s := by
  obtain ⟨a1, a2⟩ := M5.fl_spec (-lo) hs
  obtain ⟨b1, b2⟩ := M5.fl_spec hi hs
  unfold M5.fst
  push_cast
  refine ⟨by grind, by grind, b1, b2⟩
theorem values_ok {lo hi : Rat} (h1 : Sz 200 lo) (h2 : Sz 200 hi) (h : lo < hi) {m x : Int} {l : List Int} (C : Can lo hi m x l) {b : Int} (hb : b ∈ x :: l) (g : G) :
    F_law_values_right [fr lo, fr hi, fr (u b), .tuple ((vals lo (u b) (M5.cnt lo hi (u b)).toNat).map fr)] g = some (.bool true, g) := by
  have cb := C.cnt hb
  have b450 := C.b450 hb
  have us := u_sz b450
  have up := M5.u_pos b
  have lf := M5.last_fst lo hi (u b)
  obtain ⟨s1, s2, s3, s4⟩ := sides (lo := lo) (hi := hi) up
  obtain ⟨n, hn⟩ : ∃ n : Nat, M5.cnt lo hi (u b) = n := ⟨(M5.cnt lo hi (u b)).toNat, by omega⟩
  rw [hn] at cb lf
  rw [hn, Int.toNat_natCast]
  have sv : ∀ k : Nat, k < n → Sz 2233 (((fst lo (u b) + (k : Int) : Int) : Rat) * u b) := fun k hk => ((val_ok (h1.mono (by decide)) b450 k (by omega)).mul us).mono (by decide)
  have at_ : ∀ k : Nat, k < n → fIx (.tuple ((vals lo (u b) n).map fr)) (.int (k : Int)) = some (fr (((fst lo (u b) + (k : Int) : Int) : Rat) * u b)) := fun k hk => vals_at lo (u b) hk
  have atl : fIx (.tuple ((vals lo (u b) n).map fr)) (.int (-1)) = some (fr (((fst lo (u b) + ((n - 1 : Nat) : Int) : Int) : Rat) * u b)) := vals_last lo (u b) (by omega)
  have at0 : fIx (.tuple ((vals lo (u b) n).map fr)) (.int 0) = some (fr (((fst lo (u b) + ((0 : Nat) : Int) : Int) : Rat) * u b)) := vals_at lo (u b) (k := 0) (by omega)
  have fl_ : fLen [.tuple ((vals lo (u b) n).map fr)] = some (.int (n : Int)) := by
    show some (PyData.int (((vals lo (u b) n).map fr).length : Int)) = _
    unfold vals
    simp
  generalize hV : PyData.tuple ((vals lo (u b) n).map fr) = V at *
  have c1 : (2 : Int) ≤ (n : Int) := cb.1
  have c2 : (n : Int) ≤ 10 := cb.2
  refine Ok.eq ?_
  unfold F_law_values_right m_law_values_right
  rw [ok_runD]
  refine oks_seqI (P := fun E' g' => g' = g ∧ E' = [.val (fr lo), .val (fr hi), .val (fr (u b)), .val V, .no, .no]) ?_ ?_
  · rw [oks_sIf, ok_mNot, ok_mB, ok_eCh_i]
    (try simp only [fEq_int, fNe_int, ok_eK, ok_lNil, ok_lCons, ok_e2, ok_e1, ok_eF, ok_eTup, ok_nLst, ok_eN, ok_mB, ok_mTru, ok_mNot, ok_mAnd, ok_mOr, ok_eAnd, ok_eOr, ok_eNot, ok_eIf, ok_eIsi, ok_eIsi2, ok_eTyC, ok_eCall, ok_eCallK, ok_oNo, ok_oAt, ok_eSl, ok_iOf, ok_iOfT, ok_iRg1, oks_sNx, oks_sSeq, oks_sSet, oks_sOwn, oks_sDrop, oks_sRet, oks_sIf, oks_sAsg, oks_sPar, oks_sFor, ok_runD, ok_some, oks_some, startE, eV, setsE, Tg.parts, fAdd_int, fAdd_lst, fAdd_tup, fSub_int, fMul_int, fDiv_int, fMod_int, fPow_int, fLt_int, fLe_int, fGt_int, fGe_int, fNeg_int, fIx_lst, fIx_tup, fLen_lst, fLen_tup, fAbs_int, fInt1_int, fInt1_bl, fGcd_int, fTuple_lst, fTuple_tup, fList_lst, fList_tup, fTru_bl, fTru_lst, fTru_tup, fIsB_bl, atI_0, atI_1, ty_int, ty_bl, ty_lst, ty_tup, ty_str, ty_non, List.map_cons, List.map_nil, List.length_cons, List.length_nil, List.replicate, List.cons_append, List.nil_append, List.getElem?_cons_zero, List.getElem?_cons_succ, List.set_cons_zero, List.set_cons_succ, List.zip_cons_cons, List.zip_nil_right, List.zip_nil_left, Option.some.injEq, exists_eq_left', exists_eq_left, Nat.reduceAdd, Nat.reduceSub, Nat.reduceEqDiff, PyData.bool.injEq, PyData.int.injEq, PyData.list.injEq, PyData.tuple.injEq, if_true, if_false, reduceIte, true_and, and_true, decide_true, decide_false, Bool.false_eq_true, fl_, c1, c2, Bool.not_true])
    try exact ⟨rfl, rfl⟩
  rintro _ g1 ⟨rfl, rfl⟩
  refine oks_seqI (P := fun E' g' => g' = g1 ∧ ∃ a4 a5, E' = [.val (fr lo), .val (fr hi), .val (fr (u b)), .val V, a4, a5]) ?_ ?_
  · have p62 : (1000 : Int) < 2 ^ 62 := by decide
    rw [oks_sFor, ok_iRg1]
    (try simp only [fEq_int, fNe_int, ok_eK, ok_lNil, ok_lCons, ok_e2, ok_e1, ok_eF, ok_eTup, ok_nLst, ok_eN, ok_mB, ok_mTru, ok_mNot, ok_mAnd, ok_mOr, ok_eAnd, ok_eOr, ok_eNot, ok_eIf, ok_eIsi, ok_eIsi2, ok_eTyC, ok_eCall, ok_eCallK, ok_oNo, ok_oAt, ok_eSl, ok_iOf, ok_iOfT, ok_iRg1, oks_sNx, oks_sSeq, oks_sSet, oks_sOwn, oks_sDrop, oks_sRet, oks_sIf, oks_sAsg, oks_sPar, oks_sFor, ok_runD, ok_some, oks_some, startE, eV, setsE, Tg.parts, fAdd_int, fAdd_lst, fAdd_tup, fSub_int, fMul_int, fDiv_int, fMod_int, fPow_int, fLt_int, fLe_int, fGt_int, fGe_int, fNeg_int, fIx_lst, fIx_tup, fLen_lst, fLen_tup, fAbs_int, fInt1_int, fInt1_bl, fGcd_int, fTuple_lst, fTuple_tup, fList_lst, fList_tup, fTru_bl, fTru_lst, fTru_tup, fIsB_bl, atI_0, atI_1, ty_int, ty_bl, ty_lst, ty_tup, ty_str, ty_non, List.map_cons, List.map_nil, List.length_cons, List.length_nil, List.replicate, List.cons_append, List.nil_append, List.getElem?_cons_zero, List.getElem?_cons_succ, List.set_cons_zero, List.set_cons_succ, List.zip_cons_cons, List.zip_nil_right, List.zip_nil_left, Option.some.injEq, exists_eq_left', exists_eq_left, Nat.reduceAdd, Nat.reduceSub, Nat.reduceEqDiff, PyData.bool.injEq, PyData.int.injEq, PyData.list.injEq, PyData.tuple.injEq, if_true, if_false, reduceIte, true_and, and_true, decide_true, decide_false, Bool.false_eq_true, fl_])
    refine ⟨_, rfl, by omega, ?_⟩
    rw [Int.toNat_natCast]
    unfold intsD
    refine forL_0 (I := fun _ E' g' => g' = g1 ∧ ∃ a4 a5, E' = [.val (fr lo), .val (fr hi), .val (fr (u b)), .val V, a4, a5]) (fun i => .int (0 + (i : Int))) n (fun k hk E' g' ⟨hg, a4, a5, hE⟩ => ?_) ⟨rfl, .no, .no, rfl⟩
    subst hg; subst hE
    have svk := sv k hk
    have hlow : F_law_low [.int ((((fst lo (u b) + (k : Int) : Int) : Rat) * u b).num * (u b).den), .int ((((fst lo (u b) + (k : Int) : Int) : Rat) * u b).den * (u b).num)] g' = some (fr ((fst lo (u b) + (k : Int) : Int) : Rat), g') := by
      have une : u b ≠ 0 := fun z => by rw [z] at up; exact absurd up (by decide)
      rw [low_ok (Int.mul_ne_zero (den_ne _) (num_ne une)) (bd9 (mul_bd (den_bd svk) us.1) (by decide)) g', over_div _ _ une]
      congr 2
      congr 1
      grind
    refine ⟨[(4, .int (0 + (k : Int)))], rfl, ?_⟩
    rw [Int.zero_add]
    refine oks_seqI (P := fun E' g'' => g'' = g' ∧ E' = [.val (fr lo), .val (fr hi), .val (fr (u b)), .val V, .val (.int (k : Int)), .val (fr ((fst lo (u b) + (k : Int) : Int) : Rat))]) ?_ ?_
    · (try simp only [fEq_int, fNe_int, ok_eK, ok_lNil, ok_lCons, ok_e2, ok_e1, ok_eF, ok_eTup, ok_nLst, ok_eN, ok_mB, ok_mTru, ok_mNot, ok_mAnd, ok_mOr, ok_eAnd, ok_eOr, ok_eNot, ok_eIf, ok_eIsi, ok_eIsi2, ok_eTyC, ok_eCall, ok_eCallK, ok_oNo, ok_oAt, ok_eSl, ok_iOf, ok_iOfT, ok_iRg1, oks_sNx, oks_sSeq, oks_sSet, oks_sOwn, oks_sDrop, oks_sRet, oks_sIf, oks_sAsg, oks_sPar, oks_sFor, ok_runD, ok_some, oks_some, startE, eV, setsE, Tg.parts, fAdd_int, fAdd_lst, fAdd_tup, fSub_int, fMul_int, fDiv_int, fMod_int, fPow_int, fLt_int, fLe_int, fGt_int, fGe_int, fNeg_int, fIx_lst, fIx_tup, fLen_lst, fLen_tup, fAbs_int, fInt1_int, fInt1_bl, fGcd_int, fTuple_lst, fTuple_tup, fList_lst, fList_tup, fTru_bl, fTru_lst, fTru_tup, fIsB_bl, atI_0, atI_1, ty_int, ty_bl, ty_lst, ty_tup, ty_str, ty_non, List.map_cons, List.map_nil, List.length_cons, List.length_nil, List.replicate, List.cons_append, List.nil_append, List.getElem?_cons_zero, List.getElem?_cons_succ, List.set_cons_zero, List.set_cons_succ, List.zip_cons_cons, List.zip_nil_right, List.zip_nil_left, Option.some.injEq, exists_eq_left', exists_eq_left, Nat.reduceAdd, Nat.reduceSub, Nat.reduceEqDiff, PyData.bool.injEq, PyData.int.injEq, PyData.list.injEq, PyData.tuple.injEq, if_true, if_false, reduceIte, true_and, and_true, decide_true, decide_false, Bool.false_eq_true, at_ k hk, fIx_fr0, fIx_fr1, cmul_bd svk.1 (den_bd us) (by decide), cmul_bd (den_bd svk) us.1 (by decide)])
      rw [ok_eq hlow]
      exact ⟨rfl, rfl⟩
    rintro _ g2 ⟨rfl, rfl⟩
    have dn : (((fst lo (u b) + (k : Int) : Int) : Rat).den : Int) = 1 := by rw [Rat.den_intCast]; rfl
    (try simp only [fEq_int, fNe_int, ok_eK, ok_lNil, ok_lCons, ok_e2, ok_e1, ok_eF, ok_eTup, ok_nLst, ok_eN, ok_mB, ok_mTru, ok_mNot, ok_mAnd, ok_mOr, ok_eAnd, ok_eOr, ok_eNot, ok_eIf, ok_eIsi, ok_eIsi2, ok_eTyC, ok_eCall, ok_eCallK, ok_oNo, ok_oAt, ok_eSl, ok_iOf, ok_iOfT, ok_iRg1, oks_sNx, oks_sSeq, oks_sSet, oks_sOwn, oks_sDrop, oks_sRet, oks_sIf, oks_sAsg, oks_sPar, oks_sFor, ok_runD, ok_some, oks_some, startE, eV, setsE, Tg.parts, fAdd_int, fAdd_lst, fAdd_tup, fSub_int, fMul_int, fDiv_int, fMod_int, fPow_int, fLt_int, fLe_int, fGt_int, fGe_int, fNeg_int, fIx_lst, fIx_tup, fLen_lst, fLen_tup, fAbs_int, fInt1_int, fInt1_bl, fGcd_int, fTuple_lst, fTuple_tup, fList_lst, fList_tup, fTru_bl, fTru_lst, fTru_tup, fIsB_bl, atI_0, atI_1, ty_int, ty_bl, ty_lst, ty_tup, ty_str, ty_non, List.map_cons, List.map_nil, List.length_cons, List.length_nil, List.replicate, List.cons_append, List.nil_append, List.getElem?_cons_zero, List.getElem?_cons_succ, List.set_cons_zero, List.set_cons_succ, List.zip_cons_cons, List.zip_nil_right, List.zip_nil_left, Option.some.injEq, exists_eq_left', exists_eq_left, Nat.reduceAdd, Nat.reduceSub, Nat.reduceEqDiff, PyData.bool.injEq, PyData.int.injEq, PyData.list.injEq, PyData.tuple.injEq, if_true, if_false, reduceIte, true_and, and_true, decide_true, decide_false, Bool.false_eq_true, fIx_fr1, dn])
    by_cases hk0 : k = 0
    · have : ¬ (0 : Int) < (k : Int) := by omega
      simp only [this, decide_false, Bool.false_eq_true, if_false, decide_true, Bool.not_true]
      (try simp only [fEq_int, fNe_int, ok_eK, ok_lNil, ok_lCons, ok_e2, ok_e1, ok_eF, ok_eTup, ok_nLst, ok_eN, ok_mB, ok_mTru, ok_mNot, ok_mAnd, ok_mOr, ok_eAnd, ok_eOr, ok_eNot, ok_eIf, ok_eIsi, ok_eIsi2, ok_eTyC, ok_eCall, ok_eCallK, ok_oNo, ok_oAt, ok_eSl, ok_iOf, ok_iOfT, ok_iRg1, oks_sNx, oks_sSeq, oks_sSet, oks_sOwn, oks_sDrop, oks_sRet, oks_sIf, oks_sAsg, oks_sPar, oks_sFor, ok_runD, ok_some, oks_some, startE, eV, setsE, Tg.parts, fAdd_int, fAdd_lst, fAdd_tup, fSub_int, fMul_int, fDiv_int, fMod_int, fPow_int, fLt_int, fLe_int, fGt_int, fGe_int, fNeg_int, fIx_lst, fIx_tup, fLen_lst, fLen_tup, fAbs_int, fInt1_int, fInt1_bl, fGcd_int, fTuple_lst, fTuple_tup, fList_lst, fList_tup, fTru_bl, fTru_lst, fTru_tup, fIsB_bl, atI_0, atI_1, ty_int, ty_bl, ty_lst, ty_tup, ty_str, ty_non, List.map_cons, List.map_nil, List.length_cons, List.length_nil, List.replicate, List.cons_append, List.nil_append, List.getElem?_cons_zero, List.getElem?_cons_succ, List.set_cons_zero, List.set_cons_succ, List.zip_cons_cons, List.zip_nil_right, List.zip_nil_left, Option.some.injEq, exists_eq_left', exists_eq_left, Nat.reduceAdd, Nat.reduceSub, Nat.reduceEqDiff, PyData.bool.injEq, PyData.int.injEq, PyData.list.injEq, PyData.tuple.injEq, if_true, if_false, reduceIte, true_and, and_true, decide_true, decide_false, Bool.false_eq_true])
      exact ⟨_, _, rfl⟩
    · have z : (0 : Int) < (k : Int) := by omega
      have e1 : (k : Int) - 1 = ((k - 1 : Nat) : Int) := by omega
      simp only [z, decide_true, Bool.not_true, if_true, Bool.false_eq_true, if_false]
      (try simp only [fEq_int, fNe_int, ok_eK, ok_lNil, ok_lCons, ok_e2, ok_e1, ok_eF, ok_eTup, ok_nLst, ok_eN, ok_mB, ok_mTru, ok_mNot, ok_mAnd, ok_mOr, ok_eAnd, ok_eOr, ok_eNot, ok_eIf, ok_eIsi, ok_eIsi2, ok_eTyC, ok_eCall, ok_eCallK, ok_oNo, ok_oAt, ok_eSl, ok_iOf, ok_iOfT, ok_iRg1, oks_sNx, oks_sSeq, oks_sSet, oks_sOwn, oks_sDrop, oks_sRet, oks_sIf, oks_sAsg, oks_sPar, oks_sFor, ok_runD, ok_some, oks_some, startE, eV, setsE, Tg.parts, fAdd_int, fAdd_lst, fAdd_tup, fSub_int, fMul_int, fDiv_int, fMod_int, fPow_int, fLt_int, fLe_int, fGt_int, fGe_int, fNeg_int, fIx_lst, fIx_tup, fLen_lst, fLen_tup, fAbs_int, fInt1_int, fInt1_bl, fGcd_int, fTuple_lst, fTuple_tup, fList_lst, fList_tup, fTru_bl, fTru_lst, fTru_tup, fIsB_bl, atI_0, atI_1, ty_int, ty_bl, ty_lst, ty_tup, ty_str, ty_non, List.map_cons, List.map_nil, List.length_cons, List.length_nil, List.replicate, List.cons_append, List.nil_append, List.getElem?_cons_zero, List.getElem?_cons_succ, List.set_cons_zero, List.set_cons_succ, List.zip_cons_cons, List.zip_nil_right, List.zip_nil_left, Option.some.injEq, exists_eq_left', exists_eq_left, Nat.reduceAdd, Nat.reduceSub, Nat.reduceEqDiff, PyData.bool.injEq, PyData.int.injEq, PyData.list.injEq, PyData.tuple.injEq, if_true, if_false, reduceIte, true_and, and_true, decide_true, decide_false, Bool.false_eq_true, at_ k hk, e1])
      (try simp only [fEq_int, fNe_int, ok_eK, ok_lNil, ok_lCons, ok_e2, ok_e1, ok_eF, ok_eTup, ok_nLst, ok_eN, ok_mB, ok_mTru, ok_mNot, ok_mAnd, ok_mOr, ok_eAnd, ok_eOr, ok_eNot, ok_eIf, ok_eIsi, ok_eIsi2, ok_eTyC, ok_eCall, ok_eCallK, ok_oNo, ok_oAt, ok_eSl, ok_iOf, ok_iOfT, ok_iRg1, oks_sNx, oks_sSeq, oks_sSet, oks_sOwn, oks_sDrop, oks_sRet, oks_sIf, oks_sAsg, oks_sPar, oks_sFor, ok_runD, ok_some, oks_some, startE, eV, setsE, Tg.parts, fAdd_int, fAdd_lst, fAdd_tup, fSub_int, fMul_int, fDiv_int, fMod_int, fPow_int, fLt_int, fLe_int, fGt_int, fGe_int, fNeg_int, fIx_lst, fIx_tup, fLen_lst, fLen_tup, fAbs_int, fInt1_int, fInt1_bl, fGcd_int, fTuple_lst, fTuple_tup, fList_lst, fList_tup, fTru_bl, fTru_lst, fTru_tup, fIsB_bl, atI_0, atI_1, ty_int, ty_bl, ty_lst, ty_tup, ty_str, ty_non, List.map_cons, List.map_nil, List.length_cons, List.length_nil, List.replicate, List.cons_append, List.nil_append, List.getElem?_cons_zero, List.getElem?_cons_succ, List.set_cons_zero, List.set_cons_succ, List.zip_cons_cons, List.zip_nil_right, List.zip_nil_left, Option.some.injEq, exists_eq_left', exists_eq_left, Nat.reduceAdd, Nat.reduceSub, Nat.reduceEqDiff, PyData.bool.injEq, PyData.int.injEq, PyData.list.injEq, PyData.tuple.injEq, if_true, if_false, reduceIte, true_and, and_true, decide_true, decide_false, Bool.false_eq_true, at_ (k - 1) (by omega)])
      rw [ok_eq (lminus_ok svk (sv (k - 1) (by omega)) (by decide) g2)]
      have e2 : ((fst lo (u b) + (k : Int) : Int) : Rat) * u b - ((fst lo (u b) + ((k - 1 : Nat) : Int) : Int) : Rat) * u b = u b := by
        rw [← e1]
        push_cast
        grind
      rw [e2]
      (try simp only [fEq_int, fNe_int, ok_eK, ok_lNil, ok_lCons, ok_e2, ok_e1, ok_eF, ok_eTup, ok_nLst, ok_eN, ok_mB, ok_mTru, ok_mNot, ok_mAnd, ok_mOr, ok_eAnd, ok_eOr, ok_eNot, ok_eIf, ok_eIsi, ok_eIsi2, ok_eTyC, ok_eCall, ok_eCallK, ok_oNo, ok_oAt, ok_eSl, ok_iOf, ok_iOfT, ok_iRg1, oks_sNx, oks_sSeq, oks_sSet, oks_sOwn, oks_sDrop, oks_sRet, oks_sIf, oks_sAsg, oks_sPar, oks_sFor, ok_runD, ok_some, oks_some, startE, eV, setsE, Tg.parts, fAdd_int, fAdd_lst, fAdd_tup, fSub_int, fMul_int, fDiv_int, fMod_int, fPow_int, fLt_int, fLe_int, fGt_int, fGe_int, fNeg_int, fIx_lst, fIx_tup, fLen_lst, fLen_tup, fAbs_int, fInt1_int, fInt1_bl, fGcd_int, fTuple_lst, fTuple_tup, fList_lst, fList_tup, fTru_bl, fTru_lst, fTru_tup, fIsB_bl, atI_0, atI_1, ty_int, ty_bl, ty_lst, ty_tup, ty_str, ty_non, List.map_cons, List.map_nil, List.length_cons, List.length_nil, List.replicate, List.cons_append, List.nil_append, List.getElem?_cons_zero, List.getElem?_cons_succ, List.set_cons_zero, List.set_cons_succ, List.zip_cons_cons, List.zip_nil_right, List.zip_nil_left, Option.some.injEq, exists_eq_left', exists_eq_left, Nat.reduceAdd, Nat.reduceSub, Nat.reduceEqDiff, PyData.bool.injEq, PyData.int.injEq, PyData.list.injEq, PyData.tuple.injEq, if_true, if_false, reduceIte, true_and, and_true, decide_true, decide_false, Bool.false_eq_true, fNe_fr, Bool.not_true])
      exact ⟨_, _, rfl⟩
  rintro _ g2 ⟨rfl, a4, a5, rfl⟩
  have sv0 := sv 0 (by omega)
  have svl := sv (n - 1) (by omega)
  have k1 : ¬ ((fst lo (u b) + ((0 : Nat) : Int) : Int) : Rat) * u b < lo := by push_cast; grind
  have el : fst lo (u b) + ((n - 1 : Nat) : Int) = fl hi (u b) := by omega
  have k2 : ¬ hi < ((fst lo (u b) + ((n - 1 : Nat) : Int) : Int) : Rat) * u b := by rw [el]; grind
  refine oks_seqI (P := fun E' g' => g' = g2 ∧ E' = [.val (fr lo), .val (fr hi), .val (fr (u b)), .val V, a4, a5]) ?_ ?_
  · (try simp only [fEq_int, fNe_int, ok_eK, ok_lNil, ok_lCons, ok_e2, ok_e1, ok_eF, ok_eTup, ok_nLst, ok_eN, ok_mB, ok_mTru, ok_mNot, ok_mAnd, ok_mOr, ok_eAnd, ok_eOr, ok_eNot, ok_eIf, ok_eIsi, ok_eIsi2, ok_eTyC, ok_eCall, ok_eCallK, ok_oNo, ok_oAt, ok_eSl, ok_iOf, ok_iOfT, ok_iRg1, oks_sNx, oks_sSeq, oks_sSet, oks_sOwn, oks_sDrop, oks_sRet, oks_sIf, oks_sAsg, oks_sPar, oks_sFor, ok_runD, ok_some, oks_some, startE, eV, setsE, Tg.parts, fAdd_int, fAdd_lst, fAdd_tup, fSub_int, fMul_int, fDiv_int, fMod_int, fPow_int, fLt_int, fLe_int, fGt_int, fGe_int, fNeg_int, fIx_lst, fIx_tup, fLen_lst, fLen_tup, fAbs_int, fInt1_int, fInt1_bl, fGcd_int, fTuple_lst, fTuple_tup, fList_lst, fList_tup, fTru_bl, fTru_lst, fTru_tup, fIsB_bl, atI_0, atI_1, ty_int, ty_bl, ty_lst, ty_tup, ty_str, ty_non, List.map_cons, List.map_nil, List.length_cons, List.length_nil, List.replicate, List.cons_append, List.nil_append, List.getElem?_cons_zero, List.getElem?_cons_succ, List.set_cons_zero, List.set_cons_succ, List.zip_cons_cons, List.zip_nil_right, List.zip_nil_left, Option.some.injEq, exists_eq_left', exists_eq_left, Nat.reduceAdd, Nat.reduceSub, Nat.reduceEqDiff, PyData.bool.injEq, PyData.int.injEq, PyData.list.injEq, PyData.tuple.injEq, if_true, if_false, reduceIte, true_and, and_true, decide_true, decide_false, Bool.false_eq_true, at0, atl])
    rw [ok_eq (lbelow_ok sv0 h1 (by decide) g2)]
    simp only [k1, decide_false]
    (try simp only [fEq_int, fNe_int, ok_eK, ok_lNil, ok_lCons, ok_e2, ok_e1, ok_eF, ok_eTup, ok_nLst, ok_eN, ok_mB, ok_mTru, ok_mNot, ok_mAnd, ok_mOr, ok_eAnd, ok_eOr, ok_eNot, ok_eIf, ok_eIsi, ok_eIsi2, ok_eTyC, ok_eCall, ok_eCallK, ok_oNo, ok_oAt, ok_eSl, ok_iOf, ok_iOfT, ok_iRg1, oks_sNx, oks_sSeq, oks_sSet, oks_sOwn, oks_sDrop, oks_sRet, oks_sIf, oks_sAsg, oks_sPar, oks_sFor, ok_runD, ok_some, oks_some, startE, eV, setsE, Tg.parts, fAdd_int, fAdd_lst, fAdd_tup, fSub_int, fMul_int, fDiv_int, fMod_int, fPow_int, fLt_int, fLe_int, fGt_int, fGe_int, fNeg_int, fIx_lst, fIx_tup, fLen_lst, fLen_tup, fAbs_int, fInt1_int, fInt1_bl, fGcd_int, fTuple_lst, fTuple_tup, fList_lst, fList_tup, fTru_bl, fTru_lst, fTru_tup, fIsB_bl, atI_0, atI_1, ty_int, ty_bl, ty_lst, ty_tup, ty_str, ty_non, List.map_cons, List.map_nil, List.length_cons, List.length_nil, List.replicate, List.cons_append, List.nil_append, List.getElem?_cons_zero, List.getElem?_cons_succ, List.set_cons_zero, List.set_cons_succ, List.zip_cons_cons, List.zip_nil_right, List.zip_nil_left, Option.some.injEq, exists_eq_left', exists_eq_left, Nat.reduceAdd, Nat.reduceSub, Nat.reduceEqDiff, PyData.bool.injEq, PyData.int.injEq, PyData.list.injEq, PyData.tuple.injEq, if_true, if_false, reduceIte, true_and, and_true, decide_true, decide_false, Bool.false_eq_true])
    rw [ok_eq (lbelow_ok h2 svl (by decide) g2)]
    simp only [k2, decide_false]
    (try simp only [fEq_int, fNe_int, ok_eK, ok_lNil, ok_lCons, ok_e2, ok_e1, ok_eF, ok_eTup, ok_nLst, ok_eN, ok_mB, ok_mTru, ok_mNot, ok_mAnd, ok_mOr, ok_eAnd, ok_eOr, ok_eNot, ok_eIf, ok_eIsi, ok_eIsi2, ok_eTyC, ok_eCall, ok_eCallK, ok_oNo, ok_oAt, ok_eSl, ok_iOf, ok_iOfT, ok_iRg1, oks_sNx, oks_sSeq, oks_sSet, oks_sOwn, oks_sDrop, oks_sRet, oks_sIf, oks_sAsg, oks_sPar, oks_sFor, ok_runD, ok_some, oks_some, startE, eV, setsE, Tg.parts, fAdd_int, fAdd_lst, fAdd_tup, fSub_int, fMul_int, fDiv_int, fMod_int, fPow_int, fLt_int, fLe_int, fGt_int, fGe_int, fNeg_int, fIx_lst, fIx_tup, fLen_lst, fLen_tup, fAbs_int, fInt1_int, fInt1_bl, fGcd_int, fTuple_lst, fTuple_tup, fList_lst, fList_tup, fTru_bl, fTru_lst, fTru_tup, fIsB_bl, atI_0, atI_1, ty_int, ty_bl, ty_lst, ty_tup, ty_str, ty_non, List.map_cons, List.map_nil, List.length_cons, List.length_nil, List.replicate, List.cons_append, List.nil_append, List.getElem?_cons_zero, List.getElem?_cons_succ, List.set_cons_zero, List.set_cons_succ, List.zip_cons_cons, List.zip_nil_right, List.zip_nil_left, Option.some.injEq, exists_eq_left', exists_eq_left, Nat.reduceAdd, Nat.reduceSub, Nat.reduceEqDiff, PyData.bool.injEq, PyData.int.injEq, PyData.list.injEq, PyData.tuple.injEq, if_true, if_false, reduceIte, true_and, and_true, decide_true, decide_false, Bool.false_eq_true])
    try exact ⟨rfl, rfl⟩
  rintro _ g3 ⟨rfl, rfl⟩
  (try simp only [fEq_int, fNe_int, ok_eK, ok_lNil, ok_lCons, ok_e2, ok_e1, ok_eF, ok_eTup, ok_nLst, ok_eN, ok_mB, ok_mTru, ok_mNot, ok_mAnd, ok_mOr, ok_eAnd, ok_eOr, ok_eNot, ok_eIf, ok_eIsi, ok_eIsi2, ok_eTyC, ok_eCall, ok_eCallK, ok_oNo, ok_oAt, ok_eSl, ok_iOf, ok_iOfT, ok_iRg1, oks_sNx, oks_sSeq, oks_sSet, oks_sOwn, oks_sDrop, oks_sRet, oks_sIf, oks_sAsg, oks_sPar, oks_sFor, ok_runD, ok_some, oks_some, startE, eV, setsE, Tg.parts, fAdd_int, fAdd_lst, fAdd_tup, fSub_int, fMul_int, fDiv_int, fMod_int, fPow_int, fLt_int, fLe_int, fGt_int, fGe_int, fNeg_int, fIx_lst, fIx_tup, fLen_lst, fLen_tup, fAbs_int, fInt1_int, fInt1_bl, fGcd_int, fTuple_lst, fTuple_tup, fList_lst, fList_tup, fTru_bl, fTru_lst, fTru_tup, fIsB_bl, atI_0, atI_1, ty_int, ty_bl, ty_lst, ty_tup, ty_str, ty_non, List.map_cons, List.map_nil, List.length_cons, List.length_nil, List.replicate, List.cons_append, List.nil_append, List.getElem?_cons_zero, List.getElem?_cons_succ, List.set_cons_zero, List.set_cons_succ, List.zip_cons_cons, List.zip_nil_right, List.zip_nil_left, Option.some.injEq, exists_eq_left', exists_eq_left, Nat.reduceAdd, Nat.reduceSub, Nat.reduceEqDiff, PyData.bool.injEq, PyData.int.injEq, PyData.list.injEq, PyData.tuple.injEq, if_true, if_false, reduceIte, true_and, and_true, decide_true, decide_false, Bool.false_eq_true, at0, atl])
  rw [ok_eq (lminus_ok sv0 us (by decide) g3)]
  (try simp only [fEq_int, fNe_int, ok_eK, ok_lNil, ok_lCons, ok_e2, ok_e1, ok_eF, ok_eTup, ok_nLst, ok_eN, ok_mB, ok_mTru, ok_mNot, ok_mAnd, ok_mOr, ok_eAnd, ok_eOr, ok_eNot, ok_eIf, ok_eIsi, ok_eIsi2, ok_eTyC, ok_eCall, ok_eCallK, ok_oNo, ok_oAt, ok_eSl, ok_iOf, ok_iOfT, ok_iRg1, oks_sNx, oks_sSeq, oks_sSet, oks_sOwn, oks_sDrop, oks_sRet, oks_sIf, oks_sAsg, oks_sPar, oks_sFor, ok_runD, ok_some, oks_some, startE, eV, setsE, Tg.parts, fAdd_int, fAdd_lst, fAdd_tup, fSub_int, fMul_int, fDiv_int, fMod_int, fPow_int, fLt_int, fLe_int, fGt_int, fGe_int, fNeg_int, fIx_lst, fIx_tup, fLen_lst, fLen_tup, fAbs_int, fInt1_int, fInt1_bl, fGcd_int, fTuple_lst, fTuple_tup, fList_lst, fList_tup, fTru_bl, fTru_lst, fTru_tup, fIsB_bl, atI_0, atI_1, ty_int, ty_bl, ty_lst, ty_tup, ty_str, ty_non, List.map_cons, List.map_nil, List.length_cons, List.length_nil, List.replicate, List.cons_append, List.nil_append, List.getElem?_cons_zero, List.getElem?_cons_succ, List.set_cons_zero, List.set_cons_succ, List.zip_cons_cons, List.zip_nil_right, List.zip_nil_left, Option.some.injEq, exists_eq_left', exists_eq_left, Nat.reduceAdd, Nat.reduceSub, Nat.reduceEqDiff, PyData.bool.injEq, PyData.int.injEq, PyData.list.injEq, PyData.tuple.injEq, if_true, if_false, reduceIte, true_and, and_true, decide_true, decide_false, Bool.false_eq_true])
  rw [ok_eq (lbelow_ok ((sv0.sub us).mono (m := 3000) (by decide)) h1 (by decide) g3)]
  have k3 : ((fst lo (u b) + ((0 : Nat) : Int) : Int) : Rat) * u b - u b < lo := by push_cast; grind
  simp only [k3, decide_true]
  (try simp only [fEq_int, fNe_int, ok_eK, ok_lNil, ok_lCons, ok_e2, ok_e1, ok_eF, ok_eTup, ok_nLst, ok_eN, ok_mB, ok_mTru, ok_mNot, ok_mAnd, ok_mOr, ok_eAnd, ok_eOr, ok_eNot, ok_eIf, ok_eIsi, ok_eIsi2, ok_eTyC, ok_eCall, ok_eCallK, ok_oNo, ok_oAt, ok_eSl, ok_iOf, ok_iOfT, ok_iRg1, oks_sNx, oks_sSeq, oks_sSet, oks_sOwn, oks_sDrop, oks_sRet, oks_sIf, oks_sAsg, oks_sPar, oks_sFor, ok_runD, ok_some, oks_some, startE, eV, setsE, Tg.parts, fAdd_int, fAdd_lst, fAdd_tup, fSub_int, fMul_int, fDiv_int, fMod_int, fPow_int, fLt_int, fLe_int, fGt_int, fGe_int, fNeg_int, fIx_lst, fIx_tup, fLen_lst, fLen_tup, fAbs_int, fInt1_int, fInt1_bl, fGcd_int, fTuple_lst, fTuple_tup, fList_lst, fList_tup, fTru_bl, fTru_lst, fTru_tup, fIsB_bl, atI_0, atI_1, ty_int, ty_bl, ty_lst, ty_tup, ty_str, ty_non, List.map_cons, List.map_nil, List.length_cons, List.length_nil, List.replicate, List.cons_append, List.nil_append, List.getElem?_cons_zero, List.getElem?_cons_succ, List.set_cons_zero, List.set_cons_succ, List.zip_cons_cons, List.zip_nil_right, List.zip_nil_left, Option.some.injEq, exists_eq_left', exists_eq_left, Nat.reduceAdd, Nat.reduceSub, Nat.reduceEqDiff, PyData.bool.injEq, PyData.int.injEq, PyData.list.injEq, PyData.tuple.injEq, if_true, if_false, reduceIte, true_and, and_true, decide_true, decide_false, Bool.false_eq_true])
  rw [ok_eq (lplus2 svl us (by decide) g3)]
  (try simp only [fEq_int, fNe_int, ok_eK, ok_lNil, ok_lCons, ok_e2, ok_e1, ok_eF, ok_eTup, ok_nLst, ok_eN, ok_mB, ok_mTru, ok_mNot, ok_mAnd, ok_mOr, ok_eAnd, ok_eOr, ok_eNot, ok_eIf, ok_eIsi, ok_eIsi2, ok_eTyC, ok_eCall, ok_eCallK, ok_oNo, ok_oAt, ok_eSl, ok_iOf, ok_iOfT, ok_iRg1, oks_sNx, oks_sSeq, oks_sSet, oks_sOwn, oks_sDrop, oks_sRet, oks_sIf, oks_sAsg, oks_sPar, oks_sFor, ok_runD, ok_some, oks_some, startE, eV, setsE, Tg.parts, fAdd_int, fAdd_lst, fAdd_tup, fSub_int, fMul_int, fDiv_int, fMod_int, fPow_int, fLt_int, fLe_int, fGt_int, fGe_int, fNeg_int, fIx_lst, fIx_tup, fLen_lst, fLen_tup, fAbs_int, fInt1_int, fInt1_bl, fGcd_int, fTuple_lst, fTuple_tup, fList_lst, fList_tup, fTru_bl, fTru_lst, fTru_tup, fIsB_bl, atI_0, atI_1, ty_int, ty_bl, ty_lst, ty_tup, ty_str, ty_non, List.map_cons, List.map_nil, List.length_cons, List.length_nil, List.replicate, List.cons_append, List.nil_append, List.getElem?_cons_zero, List.getElem?_cons_succ, List.set_cons_zero, List.set_cons_succ, List.zip_cons_cons, List.zip_nil_right, List.zip_nil_left, Option.some.injEq, exists_eq_left', exists_eq_left, Nat.reduceAdd, Nat.reduceSub, Nat.reduceEqDiff, PyData.bool.injEq, PyData.int.injEq, PyData.list.injEq, PyData.tuple.injEq, if_true, if_false, reduceIte, true_and, and_true, decide_true, decide_false, Bool.false_eq_true])
  rw [ok_eq (lbelow_ok h2 ((svl.add us).mono (m := 3000) (by decide)) (by decide) g3)]
  have k4 : hi < ((fst lo (u b) + ((n - 1 : Nat) : Int) : Int) : Rat) * u b + u b := by rw [el]; grind
  simp only [k4, decide_true]
  first | exact ⟨trivial, trivial⟩ | exact ⟨rfl, rfl⟩
end K06

set_option Elab.async false
set_option linter.all false
set_option maxRecDepth 100000
set_option maxHeartbeats 4000000
namespace K06
open PySem PySem.Spec PyProof.Rows L2 DL
open M5 (pt u fl fst okI mid)
theorem checks_ok (rs : List Rat) (g : G) : F_check_fractions [.tuple (rs.map fr)] g = some (.none, g) := by
  refine Ok.eq ?_
  unfold F_check_fractions m_check_fractions
  (try simp only [fEq_int, fNe_int, ok_eK, ok_lNil, ok_lCons, ok_e2, ok_e1, ok_eF, ok_eTup, ok_nLst, ok_eN, ok_mB, ok_mTru, ok_mNot, ok_mAnd, ok_mOr, ok_eAnd, ok_eOr, ok_eNot, ok_eIf, ok_eIsi, ok_eIsi2, ok_eTyC, ok_eCall, ok_eCallK, ok_oNo, ok_oAt, ok_eSl, ok_iOf, ok_iOfT, ok_iRg1, oks_sNx, oks_sSeq, oks_sSet, oks_sOwn, oks_sDrop, oks_sRet, oks_sIf, oks_sAsg, oks_sPar, oks_sFor, ok_runD, ok_some, oks_some, startE, eV, setsE, Tg.parts, fAdd_int, fAdd_lst, fAdd_tup, fSub_int, fMul_int, fDiv_int, fMod_int, fPow_int, fLt_int, fLe_int, fGt_int, fGe_int, fNeg_int, fIx_lst, fIx_tup, fLen_lst, fLen_tup, fAbs_int, fInt1_int, fInt1_bl, fGcd_int, fTuple_lst, fTuple_tup, fList_lst, fList_tup, fTru_bl, fTru_lst, fTru_tup, fIsB_bl, atI_0, atI_1, ty_int, ty_bl, ty_lst, ty_tup, ty_str, ty_non, List.map_cons, List.map_nil, List.length_cons, List.length_nil, List.replicate, List.cons_append, List.nil_append, List.getElem?_cons_zero, List.getElem?_cons_succ, List.set_cons_zero, List.set_cons_succ, List.zip_cons_cons, List.zip_nil_right, List.zip_nil_left, Option.some.injEq, exists_eq_left', exists_eq_left, Nat.reduceAdd, Nat.reduceSub, Nat.reduceEqDiff, PyData.bool.injEq, PyData.int.injEq, PyData.list.injEq, PyData.tuple.injEq, if_true, if_false, reduceIte, true_and, and_true, decide_true, decide_false, Bool.false_eq_true])
  rw [ok_eAllG (by rfl)]
  (try simp only [fEq_int, fNe_int, ok_eK, ok_lNil, ok_lCons, ok_e2, ok_e1, ok_eF, ok_eTup, ok_nLst, ok_eN, ok_mB, ok_mTru, ok_mNot, ok_mAnd, ok_mOr, ok_eAnd, ok_eOr, ok_eNot, ok_eIf, ok_eIsi, ok_eIsi2, ok_eTyC, ok_eCall, ok_eCallK, ok_oNo, ok_oAt, ok_eSl, ok_iOf, ok_iOfT, ok_iRg1, oks_sNx, oks_sSeq, oks_sSet, oks_sOwn, oks_sDrop, oks_sRet, oks_sIf, oks_sAsg, oks_sPar, oks_sFor, ok_runD, ok_some, oks_some, startE, eV, setsE, Tg.parts, fAdd_int, fAdd_lst, fAdd_tup, fSub_int, fMul_int, fDiv_int, fMod_int, fPow_int, fLt_int, fLe_int, fGt_int, fGe_int, fNeg_int, fIx_lst, fIx_tup, fLen_lst, fLen_tup, fAbs_int, fInt1_int, fInt1_bl, fGcd_int, fTuple_lst, fTuple_tup, fList_lst, fList_tup, fTru_bl, fTru_lst, fTru_tup, fIsB_bl, atI_0, atI_1, ty_int, ty_bl, ty_lst, ty_tup, ty_str, ty_non, List.map_cons, List.map_nil, List.length_cons, List.length_nil, List.replicate, List.cons_append, List.nil_append, List.getElem?_cons_zero, List.getElem?_cons_succ, List.set_cons_zero, List.set_cons_succ, List.zip_cons_cons, List.zip_nil_right, List.zip_nil_left, Option.some.injEq, exists_eq_left', exists_eq_left, Nat.reduceAdd, Nat.reduceSub, Nat.reduceEqDiff, PyData.bool.injEq, PyData.int.injEq, PyData.list.injEq, PyData.tuple.injEq, if_true, if_false, reduceIte, true_and, and_true, decide_true, decide_false, Bool.false_eq_true])
  rw [ok_eq (allL_true (rs.map fr) fun d hd => by
    obtain ⟨r, _, rfl⟩ := List.mem_map.mp hd
    refine ⟨_, rfl, ?_⟩
    show eCall Fis_fraction (lCons (eV false 1) lNil) [.val (.tuple (rs.map fr)), .val (fr r)] g = some (.bool true, g)
    refine Ok.eq ?_
    (try simp only [fEq_int, fNe_int, ok_eK, ok_lNil, ok_lCons, ok_e2, ok_e1, ok_eF, ok_eTup, ok_nLst, ok_eN, ok_mB, ok_mTru, ok_mNot, ok_mAnd, ok_mOr, ok_eAnd, ok_eOr, ok_eNot, ok_eIf, ok_eIsi, ok_eIsi2, ok_eTyC, ok_eCall, ok_eCallK, ok_oNo, ok_oAt, ok_eSl, ok_iOf, ok_iOfT, ok_iRg1, oks_sNx, oks_sSeq, oks_sSet, oks_sOwn, oks_sDrop, oks_sRet, oks_sIf, oks_sAsg, oks_sPar, oks_sFor, ok_runD, ok_some, oks_some, startE, eV, setsE, Tg.parts, fAdd_int, fAdd_lst, fAdd_tup, fSub_int, fMul_int, fDiv_int, fMod_int, fPow_int, fLt_int, fLe_int, fGt_int, fGe_int, fNeg_int, fIx_lst, fIx_tup, fLen_lst, fLen_tup, fAbs_int, fInt1_int, fInt1_bl, fGcd_int, fTuple_lst, fTuple_tup, fList_lst, fList_tup, fTru_bl, fTru_lst, fTru_tup, fIsB_bl, atI_0, atI_1, ty_int, ty_bl, ty_lst, ty_tup, ty_str, ty_non, List.map_cons, List.map_nil, List.length_cons, List.length_nil, List.replicate, List.cons_append, List.nil_append, List.getElem?_cons_zero, List.getElem?_cons_succ, List.set_cons_zero, List.set_cons_succ, List.zip_cons_cons, List.zip_nil_right, List.zip_nil_left, Option.some.injEq, exists_eq_left', exists_eq_left, Nat.reduceAdd, Nat.reduceSub, Nat.reduceEqDiff, PyData.bool.injEq, PyData.int.injEq, PyData.list.injEq, PyData.tuple.injEq, if_true, if_false, reduceIte, true_and, and_true, decide_true, decide_false, Bool.false_eq_true])
    rw [ok_eq (isf_fr r g)]
    exact ⟨rfl, rfl⟩)]
  (try simp only [fEq_int, fNe_int, ok_eK, ok_lNil, ok_lCons, ok_e2, ok_e1, ok_eF, ok_eTup, ok_nLst, ok_eN, ok_mB, ok_mTru, ok_mNot, ok_mAnd, ok_mOr, ok_eAnd, ok_eOr, ok_eNot, ok_eIf, ok_eIsi, ok_eIsi2, ok_eTyC, ok_eCall, ok_eCallK, ok_oNo, ok_oAt, ok_eSl, ok_iOf, ok_iOfT, ok_iRg1, oks_sNx, oks_sSeq, oks_sSet, oks_sOwn, oks_sDrop, oks_sRet, oks_sIf, oks_sAsg, oks_sPar, oks_sFor, ok_runD, ok_some, oks_some, startE, eV, setsE, Tg.parts, fAdd_int, fAdd_lst, fAdd_tup, fSub_int, fMul_int, fDiv_int, fMod_int, fPow_int, fLt_int, fLe_int, fGt_int, fGe_int, fNeg_int, fIx_lst, fIx_tup, fLen_lst, fLen_tup, fAbs_int, fInt1_int, fInt1_bl, fGcd_int, fTuple_lst, fTuple_tup, fList_lst, fList_tup, fTru_bl, fTru_lst, fTru_tup, fIsB_bl, atI_0, atI_1, ty_int, ty_bl, ty_lst, ty_tup, ty_str, ty_non, List.map_cons, List.map_nil, List.length_cons, List.length_nil, List.replicate, List.cons_append, List.nil_append, List.getElem?_cons_zero, List.getElem?_cons_succ, List.set_cons_zero, List.set_cons_succ, List.zip_cons_cons, List.zip_nil_right, List.zip_nil_left, Option.some.injEq, exists_eq_left', exists_eq_left, Nat.reduceAdd, Nat.reduceSub, Nat.reduceEqDiff, PyData.bool.injEq, PyData.int.injEq, PyData.list.injEq, PyData.tuple.injEq, if_true, if_false, reduceIte, true_and, and_true, decide_true, decide_false, Bool.false_eq_true, Bool.not_true])
def P (lo hi r : Rat) : Rat := 100 * (r - lo) / (hi - lo)
theorem fr100 : PyData.tuple [.int 100, .int 1] = fr 100 := rfl
theorem s100 : Sz 7 (100 : Rat) := by constructor <;> decide
section
variable {lo hi : Rat} (hlo : Sz 820 lo) (hhi : Sz 820 hi) (h : lo < hi) (hd : Sz 420 (hi - lo))
include hlo hhi h hd
theorem placed_ok {m : Nat} {r : Rat} (hr : Sz m r) (hm : m ≤ 2900) (g : G) : Fplaced [fr r, fr lo, fr hi] g = some (fr (P lo hi r), g) := by
  refine Ok.eq ?_
  unfold Fplaced mplaced
  have z3 : 3 ≤ sizeLine := sz_ok (by decide)
  have z2 : 2 ≤ sizeLine := sz_ok (by decide)
  have hne : hi - lo ≠ 0 := fun z => by grind
  rw [ok_runD]
  refine oks_seqI (P := fun E' g' => g' = g ∧ E' = [.val (fr r), .val (fr lo), .val (fr hi)]) ?_ ?_
  · (try simp only [fEq_int, fNe_int, ok_eK, ok_lNil, ok_lCons, ok_e2, ok_e1, ok_eF, ok_eTup, ok_nLst, ok_eN, ok_mB, ok_mTru, ok_mNot, ok_mAnd, ok_mOr, ok_eAnd, ok_eOr, ok_eNot, ok_eIf, ok_eIsi, ok_eIsi2, ok_eTyC, ok_eCall, ok_eCallK, ok_oNo, ok_oAt, ok_eSl, ok_iOf, ok_iOfT, ok_iRg1, oks_sNx, oks_sSeq, oks_sSet, oks_sOwn, oks_sDrop, oks_sRet, oks_sIf, oks_sAsg, oks_sPar, oks_sFor, ok_runD, ok_some, oks_some, startE, eV, setsE, Tg.parts, fAdd_int, fAdd_lst, fAdd_tup, fSub_int, fMul_int, fDiv_int, fMod_int, fPow_int, fLt_int, fLe_int, fGt_int, fGe_int, fNeg_int, fIx_lst, fIx_tup, fLen_lst, fLen_tup, fAbs_int, fInt1_int, fInt1_bl, fGcd_int, fTuple_lst, fTuple_tup, fList_lst, fList_tup, fTru_bl, fTru_lst, fTru_tup, fIsB_bl, atI_0, atI_1, ty_int, ty_bl, ty_lst, ty_tup, ty_str, ty_non, List.map_cons, List.map_nil, List.length_cons, List.length_nil, List.replicate, List.cons_append, List.nil_append, List.getElem?_cons_zero, List.getElem?_cons_succ, List.set_cons_zero, List.set_cons_succ, List.zip_cons_cons, List.zip_nil_right, List.zip_nil_left, Option.some.injEq, exists_eq_left', exists_eq_left, Nat.reduceAdd, Nat.reduceSub, Nat.reduceEqDiff, PyData.bool.injEq, PyData.int.injEq, PyData.list.injEq, PyData.tuple.injEq, if_true, if_false, reduceIte, true_and, and_true, decide_true, decide_false, Bool.false_eq_true, z3])
    have cs : F_check_fractions [.tuple [fr r, fr lo, fr hi]] g = some (.none, g) := checks_ok [r, lo, hi] g
    rw [ok_eq cs]
    try exact rfl
  rintro _ g1 ⟨rfl, rfl⟩
  refine oks_seqI (P := fun E' g' => g' = g1 ∧ E' = [.val (fr r), .val (fr lo), .val (fr hi)]) ?_ ?_
  · (try simp only [fEq_int, fNe_int, ok_eK, ok_lNil, ok_lCons, ok_e2, ok_e1, ok_eF, ok_eTup, ok_nLst, ok_eN, ok_mB, ok_mTru, ok_mNot, ok_mAnd, ok_mOr, ok_eAnd, ok_eOr, ok_eNot, ok_eIf, ok_eIsi, ok_eIsi2, ok_eTyC, ok_eCall, ok_eCallK, ok_oNo, ok_oAt, ok_eSl, ok_iOf, ok_iOfT, ok_iRg1, oks_sNx, oks_sSeq, oks_sSet, oks_sOwn, oks_sDrop, oks_sRet, oks_sIf, oks_sAsg, oks_sPar, oks_sFor, ok_runD, ok_some, oks_some, startE, eV, setsE, Tg.parts, fAdd_int, fAdd_lst, fAdd_tup, fSub_int, fMul_int, fDiv_int, fMod_int, fPow_int, fLt_int, fLe_int, fGt_int, fGe_int, fNeg_int, fIx_lst, fIx_tup, fLen_lst, fLen_tup, fAbs_int, fInt1_int, fInt1_bl, fGcd_int, fTuple_lst, fTuple_tup, fList_lst, fList_tup, fTru_bl, fTru_lst, fTru_tup, fIsB_bl, atI_0, atI_1, ty_int, ty_bl, ty_lst, ty_tup, ty_str, ty_non, List.map_cons, List.map_nil, List.length_cons, List.length_nil, List.replicate, List.cons_append, List.nil_append, List.getElem?_cons_zero, List.getElem?_cons_succ, List.set_cons_zero, List.set_cons_succ, List.zip_cons_cons, List.zip_nil_right, List.zip_nil_left, Option.some.injEq, exists_eq_left', exists_eq_left, Nat.reduceAdd, Nat.reduceSub, Nat.reduceEqDiff, PyData.bool.injEq, PyData.int.injEq, PyData.list.injEq, PyData.tuple.injEq, if_true, if_false, reduceIte, true_and, and_true, decide_true, decide_false, Bool.false_eq_true])
    rw [ok_eq (checke_ok (hlo.mono (by decide)) (hhi.mono (by decide)) h g1)]
    try exact ⟨rfl, rfl⟩
  rintro _ g2 ⟨rfl, rfl⟩
  have s1 := hr.sub hlo
  have s2 := s100.mul s1
  (try simp only [fEq_int, fNe_int, ok_eK, ok_lNil, ok_lCons, ok_e2, ok_e1, ok_eF, ok_eTup, ok_nLst, ok_eN, ok_mB, ok_mTru, ok_mNot, ok_mAnd, ok_mOr, ok_eAnd, ok_eOr, ok_eNot, ok_eIf, ok_eIsi, ok_eIsi2, ok_eTyC, ok_eCall, ok_eCallK, ok_oNo, ok_oAt, ok_eSl, ok_iOf, ok_iOfT, ok_iRg1, oks_sNx, oks_sSeq, oks_sSet, oks_sOwn, oks_sDrop, oks_sRet, oks_sIf, oks_sAsg, oks_sPar, oks_sFor, ok_runD, ok_some, oks_some, startE, eV, setsE, Tg.parts, fAdd_int, fAdd_lst, fAdd_tup, fSub_int, fMul_int, fDiv_int, fMod_int, fPow_int, fLt_int, fLe_int, fGt_int, fGe_int, fNeg_int, fIx_lst, fIx_tup, fLen_lst, fLen_tup, fAbs_int, fInt1_int, fInt1_bl, fGcd_int, fTuple_lst, fTuple_tup, fList_lst, fList_tup, fTru_bl, fTru_lst, fTru_tup, fIsB_bl, atI_0, atI_1, ty_int, ty_bl, ty_lst, ty_tup, ty_str, ty_non, List.map_cons, List.map_nil, List.length_cons, List.length_nil, List.replicate, List.cons_append, List.nil_append, List.getElem?_cons_zero, List.getElem?_cons_succ, List.set_cons_zero, List.set_cons_succ, List.zip_cons_cons, List.zip_nil_right, List.zip_nil_left, Option.some.injEq, exists_eq_left', exists_eq_left, Nat.reduceAdd, Nat.reduceSub, Nat.reduceEqDiff, PyData.bool.injEq, PyData.int.injEq, PyData.list.injEq, PyData.tuple.injEq, if_true, if_false, reduceIte, true_and, and_true, decide_true, decide_false, Bool.false_eq_true, z2])
  rw [ok_eq (minus_ok hr hlo (by omega) (by decide) g2)]
  (try simp only [fEq_int, fNe_int, ok_eK, ok_lNil, ok_lCons, ok_e2, ok_e1, ok_eF, ok_eTup, ok_nLst, ok_eN, ok_mB, ok_mTru, ok_mNot, ok_mAnd, ok_mOr, ok_eAnd, ok_eOr, ok_eNot, ok_eIf, ok_eIsi, ok_eIsi2, ok_eTyC, ok_eCall, ok_eCallK, ok_oNo, ok_oAt, ok_eSl, ok_iOf, ok_iOfT, ok_iRg1, oks_sNx, oks_sSeq, oks_sSet, oks_sOwn, oks_sDrop, oks_sRet, oks_sIf, oks_sAsg, oks_sPar, oks_sFor, ok_runD, ok_some, oks_some, startE, eV, setsE, Tg.parts, fAdd_int, fAdd_lst, fAdd_tup, fSub_int, fMul_int, fDiv_int, fMod_int, fPow_int, fLt_int, fLe_int, fGt_int, fGe_int, fNeg_int, fIx_lst, fIx_tup, fLen_lst, fLen_tup, fAbs_int, fInt1_int, fInt1_bl, fGcd_int, fTuple_lst, fTuple_tup, fList_lst, fList_tup, fTru_bl, fTru_lst, fTru_tup, fIsB_bl, atI_0, atI_1, ty_int, ty_bl, ty_lst, ty_tup, ty_str, ty_non, List.map_cons, List.map_nil, List.length_cons, List.length_nil, List.replicate, List.cons_append, List.nil_append, List.getElem?_cons_zero, List.getElem?_cons_succ, List.set_cons_zero, List.set_cons_succ, List.zip_cons_cons, List.zip_nil_right, List.zip_nil_left, Option.some.injEq, exists_eq_left', exists_eq_left, Nat.reduceAdd, Nat.reduceSub, Nat.reduceEqDiff, PyData.bool.injEq, PyData.int.injEq, PyData.list.injEq, PyData.tuple.injEq, if_true, if_false, reduceIte, true_and, and_true, decide_true, decide_false, Bool.false_eq_true, fr100])
  rw [ok_eq (times_ok s100 s1 (by decide) (by omega) g2)]
  (try simp only [fEq_int, fNe_int, ok_eK, ok_lNil, ok_lCons, ok_e2, ok_e1, ok_eF, ok_eTup, ok_nLst, ok_eN, ok_mB, ok_mTru, ok_mNot, ok_mAnd, ok_mOr, ok_eAnd, ok_eOr, ok_eNot, ok_eIf, ok_eIsi, ok_eIsi2, ok_eTyC, ok_eCall, ok_eCallK, ok_oNo, ok_oAt, ok_eSl, ok_iOf, ok_iOfT, ok_iRg1, oks_sNx, oks_sSeq, oks_sSet, oks_sOwn, oks_sDrop, oks_sRet, oks_sIf, oks_sAsg, oks_sPar, oks_sFor, ok_runD, ok_some, oks_some, startE, eV, setsE, Tg.parts, fAdd_int, fAdd_lst, fAdd_tup, fSub_int, fMul_int, fDiv_int, fMod_int, fPow_int, fLt_int, fLe_int, fGt_int, fGe_int, fNeg_int, fIx_lst, fIx_tup, fLen_lst, fLen_tup, fAbs_int, fInt1_int, fInt1_bl, fGcd_int, fTuple_lst, fTuple_tup, fList_lst, fList_tup, fTru_bl, fTru_lst, fTru_tup, fIsB_bl, atI_0, atI_1, ty_int, ty_bl, ty_lst, ty_tup, ty_str, ty_non, List.map_cons, List.map_nil, List.length_cons, List.length_nil, List.replicate, List.cons_append, List.nil_append, List.getElem?_cons_zero, List.getElem?_cons_succ, List.set_cons_zero, List.set_cons_succ, List.zip_cons_cons, List.zip_nil_right, List.zip_nil_left, Option.some.injEq, exists_eq_left', exists_eq_left, Nat.reduceAdd, Nat.reduceSub, Nat.reduceEqDiff, PyData.bool.injEq, PyData.int.injEq, PyData.list.injEq, PyData.tuple.injEq, if_true, if_false, reduceIte, true_and, and_true, decide_true, decide_false, Bool.false_eq_true])
  rw [ok_eq (minus_ok hhi hlo (by decide) (by decide) g2)]
  (try simp only [fEq_int, fNe_int, ok_eK, ok_lNil, ok_lCons, ok_e2, ok_e1, ok_eF, ok_eTup, ok_nLst, ok_eN, ok_mB, ok_mTru, ok_mNot, ok_mAnd, ok_mOr, ok_eAnd, ok_eOr, ok_eNot, ok_eIf, ok_eIsi, ok_eIsi2, ok_eTyC, ok_eCall, ok_eCallK, ok_oNo, ok_oAt, ok_eSl, ok_iOf, ok_iOfT, ok_iRg1, oks_sNx, oks_sSeq, oks_sSet, oks_sOwn, oks_sDrop, oks_sRet, oks_sIf, oks_sAsg, oks_sPar, oks_sFor, ok_runD, ok_some, oks_some, startE, eV, setsE, Tg.parts, fAdd_int, fAdd_lst, fAdd_tup, fSub_int, fMul_int, fDiv_int, fMod_int, fPow_int, fLt_int, fLe_int, fGt_int, fGe_int, fNeg_int, fIx_lst, fIx_tup, fLen_lst, fLen_tup, fAbs_int, fInt1_int, fInt1_bl, fGcd_int, fTuple_lst, fTuple_tup, fList_lst, fList_tup, fTru_bl, fTru_lst, fTru_tup, fIsB_bl, atI_0, atI_1, ty_int, ty_bl, ty_lst, ty_tup, ty_str, ty_non, List.map_cons, List.map_nil, List.length_cons, List.length_nil, List.replicate, List.cons_append, List.nil_append, List.getElem?_cons_zero, List.getElem?_cons_succ, List.set_cons_zero, List.set_cons_succ, List.zip_cons_cons, List.zip_nil_right, List.zip_nil_left, Option.some.injEq, exists_eq_left', exists_eq_left, Nat.reduceAdd, Nat.reduceSub, Nat.reduceEqDiff, PyData.bool.injEq, PyData.int.injEq, PyData.list.injEq, PyData.tuple.injEq, if_true, if_false, reduceIte, true_and, and_true, decide_true, decide_false, Bool.false_eq_true])
  rw [ok_eq (over_ok s2 hd (by omega) (by decide) hne g2)]
  try exact ⟨rfl, rfl⟩
theorem P_sz {m : Nat} {r : Rat} (hr : Sz m r) : Sz (7 + (m + 820 + 1) + 420) (P lo hi r) :=
  (s100.mul (hr.sub hlo)).over hd (fun z => by grind)
end
theorem P_lo {lo hi : Rat} : P lo hi lo = 0 := by
  unfold P
  rw [show lo - lo = (0 : Rat) by grind, Rat.mul_zero, Rat.div_def, Rat.zero_mul]
theorem P_hi {lo hi : Rat} (h : lo < hi) : P lo hi hi = 100 := by
  unfold P
  have : hi - lo ≠ 0 := fun z => by grind
  rw [Rat.div_def, Rat.mul_assoc, Rat.mul_inv_cancel _ this, Rat.mul_one]
theorem P_move (lo hi r w : Rat) : P (lo + w) (hi + w) (r + w) = P lo hi r := by
  unfold P
  rw [show r + w - (lo + w) = r - lo by grind, show hi + w - (lo + w) = hi - lo by grind]
theorem P_step {lo hi r s : Rat} : P lo hi (r + s) - P lo hi r = 100 * (s / (hi - lo)) := by
  unfold P
  rw [Rat.div_def, Rat.div_def, Rat.div_def]
  grind
theorem far_div {lo hi s : Rat} (h : lo < hi) : Rat.divInt (s.num * (hi.den * lo.den)) (s.den * (hi.num * lo.den - lo.num * hi.den)) = s / (hi - lo) := by
  have e1 := M5.nd s
  have e2 := M5.nd hi
  have e3 := M5.nd lo
  have d1 : (s.den : Rat) ≠ 0 := by
    have := s.den_pos
    exact_mod_cast (show s.den ≠ 0 by omega)
  have d2 : (hi.den : Rat) ≠ 0 := by
    have := hi.den_pos
    exact_mod_cast (show hi.den ≠ 0 by omega)
  have d3 : (lo.den : Rat) ≠ 0 := by
    have := lo.den_pos
    exact_mod_cast (show lo.den ≠ 0 by omega)
  have hne : hi - lo ≠ 0 := fun z => by grind
  rw [Rat.divInt_eq_div]
  push_cast
  rw [← e1, ← e2, ← e3]
  generalize (s.den : Rat) = a at *
  generalize (hi.den : Rat) = b at *
  generalize (lo.den : Rat) = c at *
  have : a * (hi * b * c - lo * c * b) = (a * b * c) * (hi - lo) := by grind
  rw [this]
  have k : a * b * c ≠ 0 := by grind
  have num : s * a * (b * c) = (a * b * c) * s := by grind
  rw [num]
  generalize a * b * c = k0 at *
  generalize hi - lo = d at *
  rw [Rat.div_def, Rat.div_def]
  have : (k0 * d)⁻¹ = k0⁻¹ * d⁻¹ := by grind
  rw [this]
  have : k0 * k0⁻¹ = 1 := Rat.mul_inv_cancel _ k
  grind
end K06

set_option Elab.async false
set_option linter.all false
set_option maxRecDepth 100000
set_option maxHeartbeats 4000000
namespace K06
open PySem PySem.Spec PyProof.Rows L2 DL
open M5 (pt u fl fst okI mid)
abbrev ME (lo hi : Rat) (w : Int) (a4 a5 a6 a7 a8 a9 : Sl) (b : Int) (v : List Rat) : En := [SP, .val (fr lo), .val (fr hi), .val (.int w), a4, a5, a6, a7, a8, a9, .val (fr (u b)), .val (.tuple (v.map fr)), .no]
theorem moved_ok {lo hi : Rat} (h1 : Sz 200 lo) (h2 : Sz 200 hi) (h : lo < hi) {w : Int} (w1 : 2 ≤ w) (w2 : w ≤ 10) (g : G) : Ok (F_law_moved_right [.dict [], fr lo, fr hi, .int w] g) fun d _ => d = .bool true := by
  have z2 : 2 ≤ sizeLine := sz_ok (by decide)
  have z3 : 3 ≤ sizeLine := sz_ok (by decide)
  have A := Ax.of h1 h2 h
  obtain ⟨m, x, l, C⟩ := canon A
  have hb := M5.bst_mem (dst lo hi w) l x
  have ct := C.tk w w1 w2
  generalize M5.bst (dst lo hi w) x l = b at hb ct
  have cb := C.cnt hb
  have b450 := C.b450 hb
  have us := u_sz b450
  have up := M5.u_pos b
  have vs : ∀ r ∈ vals lo (u b) (M5.cnt lo hi (u b)).toNat, Sz 2233 r := fun r hr => vals_sz C A.slo hb hr
  have vl : (vals lo (u b) (M5.cnt lo hi (u b)).toNat).length ≤ 10 := by
    unfold vals
    rw [List.length_map, List.length_range]
    omega
  have vstep : ∀ k : Nat, k + 1 < (vals lo (u b) (M5.cnt lo hi (u b)).toNat).length → ∃ r, (vals lo (u b) (M5.cnt lo hi (u b)).toNat)[k]? = some r ∧ (vals lo (u b) (M5.cnt lo hi (u b)).toNat)[k + 1]? = some (r + u b) := fun k hk => by
    unfold vals at hk ⊢
    rw [List.length_map, List.length_range] at hk
    refine ⟨_, by rw [List.getElem?_map, List.getElem?_range (by omega)]; rfl, ?_⟩
    rw [List.getElem?_map, List.getElem?_range (by omega)]
    show some _ = some _
    congr 1
    push_cast
    grind
  simp only [row_eq lo hi] at ct
  generalize hv : vals lo (u b) (M5.cnt lo hi (u b)).toNat = v at *
  unfold F_law_moved_right m_law_moved_right
  rw [ok_runD]
  refine oks_seqI (P := fun E' _ => E' = ME lo hi w .no .no .no .no .no .no b v) ?_ ?_
  · (try simp only [fEq_int, fNe_int, ok_eK, ok_lNil, ok_lCons, ok_e2, ok_e1, ok_eF, ok_eTup, ok_nLst, ok_eN, ok_mB, ok_mTru, ok_mNot, ok_mAnd, ok_mOr, ok_eAnd, ok_eOr, ok_eNot, ok_eIf, ok_eIsi, ok_eIsi2, ok_eTyC, ok_eCall, ok_eCallK, ok_oNo, ok_oAt, ok_eSl, ok_iOf, ok_iOfT, ok_iRg1, oks_sNx, oks_sSeq, oks_sSet, oks_sOwn, oks_sDrop, oks_sRet, oks_sIf, oks_sAsg, oks_sPar, oks_sFor, ok_runD, ok_some, oks_some, startE, eV, setsE, Tg.parts, fAdd_int, fAdd_lst, fAdd_tup, fSub_int, fMul_int, fDiv_int, fMod_int, fPow_int, fLt_int, fLe_int, fGt_int, fGe_int, fNeg_int, fIx_lst, fIx_tup, fLen_lst, fLen_tup, fAbs_int, fInt1_int, fInt1_bl, fGcd_int, fTuple_lst, fTuple_tup, fList_lst, fList_tup, fTru_bl, fTru_lst, fTru_tup, fIsB_bl, atI_0, atI_1, ty_int, ty_bl, ty_lst, ty_tup, ty_str, ty_non, List.map_cons, List.map_nil, List.length_cons, List.length_nil, List.replicate, List.cons_append, List.nil_append, List.getElem?_cons_zero, List.getElem?_cons_succ, List.set_cons_zero, List.set_cons_succ, List.zip_cons_cons, List.zip_nil_right, List.zip_nil_left, Option.some.injEq, exists_eq_left', exists_eq_left, Nat.reduceAdd, Nat.reduceSub, Nat.reduceEqDiff, PyData.bool.injEq, PyData.int.injEq, PyData.list.injEq, PyData.tuple.injEq, if_true, if_false, reduceIte, true_and, and_true, decide_true, decide_false, Bool.false_eq_true])
    rw [ok_eq (ct g)]
    refine ⟨_, rfl, ?_⟩
    (try simp only [fEq_int, fNe_int, ok_eK, ok_lNil, ok_lCons, ok_e2, ok_e1, ok_eF, ok_eTup, ok_nLst, ok_eN, ok_mB, ok_mTru, ok_mNot, ok_mAnd, ok_mOr, ok_eAnd, ok_eOr, ok_eNot, ok_eIf, ok_eIsi, ok_eIsi2, ok_eTyC, ok_eCall, ok_eCallK, ok_oNo, ok_oAt, ok_eSl, ok_iOf, ok_iOfT, ok_iRg1, oks_sNx, oks_sSeq, oks_sSet, oks_sOwn, oks_sDrop, oks_sRet, oks_sIf, oks_sAsg, oks_sPar, oks_sFor, ok_runD, ok_some, oks_some, startE, eV, setsE, Tg.parts, fAdd_int, fAdd_lst, fAdd_tup, fSub_int, fMul_int, fDiv_int, fMod_int, fPow_int, fLt_int, fLe_int, fGt_int, fGe_int, fNeg_int, fIx_lst, fIx_tup, fLen_lst, fLen_tup, fAbs_int, fInt1_int, fInt1_bl, fGcd_int, fTuple_lst, fTuple_tup, fList_lst, fList_tup, fTru_bl, fTru_lst, fTru_tup, fIsB_bl, atI_0, atI_1, ty_int, ty_bl, ty_lst, ty_tup, ty_str, ty_non, List.map_cons, List.map_nil, List.length_cons, List.length_nil, List.replicate, List.cons_append, List.nil_append, List.getElem?_cons_zero, List.getElem?_cons_succ, List.set_cons_zero, List.set_cons_succ, List.zip_cons_cons, List.zip_nil_right, List.zip_nil_left, Option.some.injEq, exists_eq_left', exists_eq_left, Nat.reduceAdd, Nat.reduceSub, Nat.reduceEqDiff, PyData.bool.injEq, PyData.int.injEq, PyData.list.injEq, PyData.tuple.injEq, if_true, if_false, reduceIte, true_and, and_true, decide_true, decide_false, Bool.false_eq_true])
    try rfl
  rintro _ g1 rfl
  refine oks_seqI (P := fun E' _ => ∃ k : Int, -20 ≤ k ∧ k ≤ 20 ∧ E' = ME lo hi w (.val (fr (u b * (k : Rat)))) .no .no .no .no .no b v) ?_ ?_
  · (try simp only [fEq_int, fNe_int, ok_eK, ok_lNil, ok_lCons, ok_e2, ok_e1, ok_eF, ok_eTup, ok_nLst, ok_eN, ok_mB, ok_mTru, ok_mNot, ok_mAnd, ok_mOr, ok_eAnd, ok_eOr, ok_eNot, ok_eIf, ok_eIsi, ok_eIsi2, ok_eTyC, ok_eCall, ok_eCallK, ok_oNo, ok_oAt, ok_eSl, ok_iOf, ok_iOfT, ok_iRg1, oks_sNx, oks_sSeq, oks_sSet, oks_sOwn, oks_sDrop, oks_sRet, oks_sIf, oks_sAsg, oks_sPar, oks_sFor, ok_runD, ok_some, oks_some, startE, eV, setsE, Tg.parts, fAdd_int, fAdd_lst, fAdd_tup, fSub_int, fMul_int, fDiv_int, fMod_int, fPow_int, fLt_int, fLe_int, fGt_int, fGe_int, fNeg_int, fIx_lst, fIx_tup, fLen_lst, fLen_tup, fAbs_int, fInt1_int, fInt1_bl, fGcd_int, fTuple_lst, fTuple_tup, fList_lst, fList_tup, fTru_bl, fTru_lst, fTru_tup, fIsB_bl, atI_0, atI_1, ty_int, ty_bl, ty_lst, ty_tup, ty_str, ty_non, List.map_cons, List.map_nil, List.length_cons, List.length_nil, List.replicate, List.cons_append, List.nil_append, List.getElem?_cons_zero, List.getElem?_cons_succ, List.set_cons_zero, List.set_cons_succ, List.zip_cons_cons, List.zip_nil_right, List.zip_nil_left, Option.some.injEq, exists_eq_left', exists_eq_left, Nat.reduceAdd, Nat.reduceSub, Nat.reduceEqDiff, PyData.bool.injEq, PyData.int.injEq, PyData.list.injEq, PyData.tuple.injEq, if_true, if_false, reduceIte, true_and, and_true, decide_true, decide_false, Bool.false_eq_true])
    refine drop_then (by decide) (by exact small9 (by decide)) fun q g2 q0 q1 => ?_
    (try simp only [fEq_int, fNe_int, ok_eK, ok_lNil, ok_lCons, ok_e2, ok_e1, ok_eF, ok_eTup, ok_nLst, ok_eN, ok_mB, ok_mTru, ok_mNot, ok_mAnd, ok_mOr, ok_eAnd, ok_eOr, ok_eNot, ok_eIf, ok_eIsi, ok_eIsi2, ok_eTyC, ok_eCall, ok_eCallK, ok_oNo, ok_oAt, ok_eSl, ok_iOf, ok_iOfT, ok_iRg1, oks_sNx, oks_sSeq, oks_sSet, oks_sOwn, oks_sDrop, oks_sRet, oks_sIf, oks_sAsg, oks_sPar, oks_sFor, ok_runD, ok_some, oks_some, startE, eV, setsE, Tg.parts, fAdd_int, fAdd_lst, fAdd_tup, fSub_int, fMul_int, fDiv_int, fMod_int, fPow_int, fLt_int, fLe_int, fGt_int, fGe_int, fNeg_int, fIx_lst, fIx_tup, fLen_lst, fLen_tup, fAbs_int, fInt1_int, fInt1_bl, fGcd_int, fTuple_lst, fTuple_tup, fList_lst, fList_tup, fTru_bl, fTru_lst, fTru_tup, fIsB_bl, atI_0, atI_1, ty_int, ty_bl, ty_lst, ty_tup, ty_str, ty_non, List.map_cons, List.map_nil, List.length_cons, List.length_nil, List.replicate, List.cons_append, List.nil_append, List.getElem?_cons_zero, List.getElem?_cons_succ, List.set_cons_zero, List.set_cons_succ, List.zip_cons_cons, List.zip_nil_right, List.zip_nil_left, Option.some.injEq, exists_eq_left', exists_eq_left, Nat.reduceAdd, Nat.reduceSub, Nat.reduceEqDiff, PyData.bool.injEq, PyData.int.injEq, PyData.list.injEq, PyData.tuple.injEq, if_true, if_false, reduceIte, true_and, and_true, decide_true, decide_false, Bool.false_eq_true, z2, int_is])
    have sk : Sz 6 ((q - 20 : Int) : Rat) := ⟨by rw [Rat.num_intCast]; omega, by rw [Rat.den_intCast]; decide⟩
    rw [ok_eq (ltimes_ok us sk (by decide) g2)]
    exact ⟨q - 20, by omega, by omega, rfl⟩
  rintro _ g2 ⟨k, k0, k1, rfl⟩
  have sk : Sz 6 ((k : Int) : Rat) := ⟨by rw [Rat.num_intCast]; omega, by rw [Rat.den_intCast]; decide⟩
  have sw := us.mul sk
  have sd : Sz 420 (hi - lo) := A.sd
  generalize hW : u b * (k : Rat) = W at sw
  have hW' : W = (k : Rat) * u b := by rw [← hW, Rat.mul_comm]
  have s1 : Sz 820 (lo + W) := (h1.add sw).mono (by decide)
  have s2 : Sz 820 (hi + W) := (h2.add sw).mono (by decide)
  have hsub : hi + W - (lo + W) = hi - lo := by grind
  have A' : Ax (lo + W) (hi + W) := ⟨s1.mono (by decide), s2.mono (by decide), by grind, by rw [hsub]; exact sd⟩
  have hlt' : lo + W < hi + W := A'.lt
  obtain ⟨m', x', l', C'⟩ := canon A'
  have hb' : b ∈ x' :: l' := C'.mem (by
    have := okI_of (lo := lo) (hi := hi) (lo' := lo + W) (hi' := hi + W) (i := b) (j := b) (by rw [hW', M5.cnt_move up])
    rw [this]
    exact C.ok hb)
  have hst : SeqAt.shaped (stepsD (lo + W) (hi + W) (x' :: l')) = true := by
    rw [stepsD_fr]
    exact sh_frs _ (.inr rfl) _
  have fin : fInT true (fr (u b)) (stepsD (lo + W) (hi + W) (x' :: l')) = some (.bool false) := by
    unfold fInT
    show (if SeqAt.shaped (fr (u b)) && SeqAt.shaped (stepsD (lo + W) (hi + W) (x' :: l')) then _ else _) = _
    rw [hst, sh_fr]
    show some (PyData.bool (!(((x' :: l').map fun i => fr (u i)).any fun z => PyData.eqv z (fr (u b))))) = _
    have : (((x' :: l').map fun i => fr (u i)).any fun z => PyData.eqv z (fr (u b))) = true := by
      rw [List.any_map, List.any_eq_true]
      exact ⟨b, hb', by simp only [Function.comp]; rw [eqv_fr, decide_eq_true rfl]⟩
    rw [this]
    rfl
  refine oks_seqI (P := fun E' g' => g' = g2 ∧ E' = ME lo hi w (.val (fr W)) (.val (.tuple [fr (lo + W), fr (hi + W)])) .no .no .no .no b v) ?_ ?_
  · (try simp only [fEq_int, fNe_int, ok_eK, ok_lNil, ok_lCons, ok_e2, ok_e1, ok_eF, ok_eTup, ok_nLst, ok_eN, ok_mB, ok_mTru, ok_mNot, ok_mAnd, ok_mOr, ok_eAnd, ok_eOr, ok_eNot, ok_eIf, ok_eIsi, ok_eIsi2, ok_eTyC, ok_eCall, ok_eCallK, ok_oNo, ok_oAt, ok_eSl, ok_iOf, ok_iOfT, ok_iRg1, oks_sNx, oks_sSeq, oks_sSet, oks_sOwn, oks_sDrop, oks_sRet, oks_sIf, oks_sAsg, oks_sPar, oks_sFor, ok_runD, ok_some, oks_some, startE, eV, setsE, Tg.parts, fAdd_int, fAdd_lst, fAdd_tup, fSub_int, fMul_int, fDiv_int, fMod_int, fPow_int, fLt_int, fLe_int, fGt_int, fGe_int, fNeg_int, fIx_lst, fIx_tup, fLen_lst, fLen_tup, fAbs_int, fInt1_int, fInt1_bl, fGcd_int, fTuple_lst, fTuple_tup, fList_lst, fList_tup, fTru_bl, fTru_lst, fTru_tup, fIsB_bl, atI_0, atI_1, ty_int, ty_bl, ty_lst, ty_tup, ty_str, ty_non, List.map_cons, List.map_nil, List.length_cons, List.length_nil, List.replicate, List.cons_append, List.nil_append, List.getElem?_cons_zero, List.getElem?_cons_succ, List.set_cons_zero, List.set_cons_succ, List.zip_cons_cons, List.zip_nil_right, List.zip_nil_left, Option.some.injEq, exists_eq_left', exists_eq_left, Nat.reduceAdd, Nat.reduceSub, Nat.reduceEqDiff, PyData.bool.injEq, PyData.int.injEq, PyData.list.injEq, PyData.tuple.injEq, if_true, if_false, reduceIte, true_and, and_true, decide_true, decide_false, Bool.false_eq_true])
    rw [ok_eq (lplus2 h1 sw (by decide) g2)]
    (try simp only [fEq_int, fNe_int, ok_eK, ok_lNil, ok_lCons, ok_e2, ok_e1, ok_eF, ok_eTup, ok_nLst, ok_eN, ok_mB, ok_mTru, ok_mNot, ok_mAnd, ok_mOr, ok_eAnd, ok_eOr, ok_eNot, ok_eIf, ok_eIsi, ok_eIsi2, ok_eTyC, ok_eCall, ok_eCallK, ok_oNo, ok_oAt, ok_eSl, ok_iOf, ok_iOfT, ok_iRg1, oks_sNx, oks_sSeq, oks_sSet, oks_sOwn, oks_sDrop, oks_sRet, oks_sIf, oks_sAsg, oks_sPar, oks_sFor, ok_runD, ok_some, oks_some, startE, eV, setsE, Tg.parts, fAdd_int, fAdd_lst, fAdd_tup, fSub_int, fMul_int, fDiv_int, fMod_int, fPow_int, fLt_int, fLe_int, fGt_int, fGe_int, fNeg_int, fIx_lst, fIx_tup, fLen_lst, fLen_tup, fAbs_int, fInt1_int, fInt1_bl, fGcd_int, fTuple_lst, fTuple_tup, fList_lst, fList_tup, fTru_bl, fTru_lst, fTru_tup, fIsB_bl, atI_0, atI_1, ty_int, ty_bl, ty_lst, ty_tup, ty_str, ty_non, List.map_cons, List.map_nil, List.length_cons, List.length_nil, List.replicate, List.cons_append, List.nil_append, List.getElem?_cons_zero, List.getElem?_cons_succ, List.set_cons_zero, List.set_cons_succ, List.zip_cons_cons, List.zip_nil_right, List.zip_nil_left, Option.some.injEq, exists_eq_left', exists_eq_left, Nat.reduceAdd, Nat.reduceSub, Nat.reduceEqDiff, PyData.bool.injEq, PyData.int.injEq, PyData.list.injEq, PyData.tuple.injEq, if_true, if_false, reduceIte, true_and, and_true, decide_true, decide_false, Bool.false_eq_true])
    rw [ok_eq (lplus2 h2 sw (by decide) g2)]
    (try simp only [fEq_int, fNe_int, ok_eK, ok_lNil, ok_lCons, ok_e2, ok_e1, ok_eF, ok_eTup, ok_nLst, ok_eN, ok_mB, ok_mTru, ok_mNot, ok_mAnd, ok_mOr, ok_eAnd, ok_eOr, ok_eNot, ok_eIf, ok_eIsi, ok_eIsi2, ok_eTyC, ok_eCall, ok_eCallK, ok_oNo, ok_oAt, ok_eSl, ok_iOf, ok_iOfT, ok_iRg1, oks_sNx, oks_sSeq, oks_sSet, oks_sOwn, oks_sDrop, oks_sRet, oks_sIf, oks_sAsg, oks_sPar, oks_sFor, ok_runD, ok_some, oks_some, startE, eV, setsE, Tg.parts, fAdd_int, fAdd_lst, fAdd_tup, fSub_int, fMul_int, fDiv_int, fMod_int, fPow_int, fLt_int, fLe_int, fGt_int, fGe_int, fNeg_int, fIx_lst, fIx_tup, fLen_lst, fLen_tup, fAbs_int, fInt1_int, fInt1_bl, fGcd_int, fTuple_lst, fTuple_tup, fList_lst, fList_tup, fTru_bl, fTru_lst, fTru_tup, fIsB_bl, atI_0, atI_1, ty_int, ty_bl, ty_lst, ty_tup, ty_str, ty_non, List.map_cons, List.map_nil, List.length_cons, List.length_nil, List.replicate, List.cons_append, List.nil_append, List.getElem?_cons_zero, List.getElem?_cons_succ, List.set_cons_zero, List.set_cons_succ, List.zip_cons_cons, List.zip_nil_right, List.zip_nil_left, Option.some.injEq, exists_eq_left', exists_eq_left, Nat.reduceAdd, Nat.reduceSub, Nat.reduceEqDiff, PyData.bool.injEq, PyData.int.injEq, PyData.list.injEq, PyData.tuple.injEq, if_true, if_false, reduceIte, true_and, and_true, decide_true, decide_false, Bool.false_eq_true, z2])
    try exact ⟨rfl, rfl⟩
  rintro _ g3 ⟨rfl, rfl⟩
  refine oks_seqI (P := fun E' g' => g' = g3 ∧ ∃ a6, E' = ME lo hi w (.val (fr W)) (.val (.tuple [fr (lo + W), fr (hi + W)])) a6 .no .no .no b v) ?_ ?_
  · have e2 : iOfT (eCall Fsteps_within (lCons (eV true 1) (lCons (eV true 2) (lNil)))) (ME lo hi w (.val (fr W)) (.val (.tuple [fr (lo + W), fr (hi + W)])) .no .no .no .no b v) g3 = some ((x :: l).map fun i => fr (u i), g3) := by
      refine ok_iOfT' (Ok.eq ?_)
      (try simp only [fEq_int, fNe_int, ok_eK, ok_lNil, ok_lCons, ok_e2, ok_e1, ok_eF, ok_eTup, ok_nLst, ok_eN, ok_mB, ok_mTru, ok_mNot, ok_mAnd, ok_mOr, ok_eAnd, ok_eOr, ok_eNot, ok_eIf, ok_eIsi, ok_eIsi2, ok_eTyC, ok_eCall, ok_eCallK, ok_oNo, ok_oAt, ok_eSl, ok_iOf, ok_iOfT, ok_iRg1, oks_sNx, oks_sSeq, oks_sSet, oks_sOwn, oks_sDrop, oks_sRet, oks_sIf, oks_sAsg, oks_sPar, oks_sFor, ok_runD, ok_some, oks_some, startE, eV, setsE, Tg.parts, fAdd_int, fAdd_lst, fAdd_tup, fSub_int, fMul_int, fDiv_int, fMod_int, fPow_int, fLt_int, fLe_int, fGt_int, fGe_int, fNeg_int, fIx_lst, fIx_tup, fLen_lst, fLen_tup, fAbs_int, fInt1_int, fInt1_bl, fGcd_int, fTuple_lst, fTuple_tup, fList_lst, fList_tup, fTru_bl, fTru_lst, fTru_tup, fIsB_bl, atI_0, atI_1, ty_int, ty_bl, ty_lst, ty_tup, ty_str, ty_non, List.map_cons, List.map_nil, List.length_cons, List.length_nil, List.replicate, List.cons_append, List.nil_append, List.getElem?_cons_zero, List.getElem?_cons_succ, List.set_cons_zero, List.set_cons_succ, List.zip_cons_cons, List.zip_nil_right, List.zip_nil_left, Option.some.injEq, exists_eq_left', exists_eq_left, Nat.reduceAdd, Nat.reduceSub, Nat.reduceEqDiff, PyData.bool.injEq, PyData.int.injEq, PyData.list.injEq, PyData.tuple.injEq, if_true, if_false, reduceIte, true_and, and_true, decide_true, decide_false, Bool.false_eq_true])
      rw [ok_eq (C.st g3)]
      exact ⟨rfl, rfl⟩
    rw [oks_sFor, ok_eq e2]
    refine forL_ok (I := fun E' g' => g' = g3 ∧ ∃ a6, E' = ME lo hi w (.val (fr W)) (.val (.tuple [fr (lo + W), fr (hi + W)])) a6 .no .no .no b v) _ _ _ (fun d hd E' g' ⟨hg, a6, hE⟩ => ?_) ⟨rfl, .no, rfl⟩
    subst hg; subst hE
    obtain ⟨i, hii, rfl⟩ := List.mem_map.mp hd
    refine ⟨[(6, fr (u i))], rfl, ?_⟩
    (try simp only [fEq_int, fNe_int, ok_eK, ok_lNil, ok_lCons, ok_e2, ok_e1, ok_eF, ok_eTup, ok_nLst, ok_eN, ok_mB, ok_mTru, ok_mNot, ok_mAnd, ok_mOr, ok_eAnd, ok_eOr, ok_eNot, ok_eIf, ok_eIsi, ok_eIsi2, ok_eTyC, ok_eCall, ok_eCallK, ok_oNo, ok_oAt, ok_eSl, ok_iOf, ok_iOfT, ok_iRg1, oks_sNx, oks_sSeq, oks_sSet, oks_sOwn, oks_sDrop, oks_sRet, oks_sIf, oks_sAsg, oks_sPar, oks_sFor, ok_runD, ok_some, oks_some, startE, eV, setsE, Tg.parts, fAdd_int, fAdd_lst, fAdd_tup, fSub_int, fMul_int, fDiv_int, fMod_int, fPow_int, fLt_int, fLe_int, fGt_int, fGe_int, fNeg_int, fIx_lst, fIx_tup, fLen_lst, fLen_tup, fAbs_int, fInt1_int, fInt1_bl, fGcd_int, fTuple_lst, fTuple_tup, fList_lst, fList_tup, fTru_bl, fTru_lst, fTru_tup, fIsB_bl, atI_0, atI_1, ty_int, ty_bl, ty_lst, ty_tup, ty_str, ty_non, List.map_cons, List.map_nil, List.length_cons, List.length_nil, List.replicate, List.cons_append, List.nil_append, List.getElem?_cons_zero, List.getElem?_cons_succ, List.set_cons_zero, List.set_cons_succ, List.zip_cons_cons, List.zip_nil_right, List.zip_nil_left, Option.some.injEq, exists_eq_left', exists_eq_left, Nat.reduceAdd, Nat.reduceSub, Nat.reduceEqDiff, PyData.bool.injEq, PyData.int.injEq, PyData.list.injEq, PyData.tuple.injEq, if_true, if_false, reduceIte, true_and, and_true, decide_true, decide_false, Bool.false_eq_true, fEq_fr])
    by_cases hui : u i = u b
    · rw [hui]
      simp only [decide_true, if_true]
      (try simp only [fEq_int, fNe_int, ok_eK, ok_lNil, ok_lCons, ok_e2, ok_e1, ok_eF, ok_eTup, ok_nLst, ok_eN, ok_mB, ok_mTru, ok_mNot, ok_mAnd, ok_mOr, ok_eAnd, ok_eOr, ok_eNot, ok_eIf, ok_eIsi, ok_eIsi2, ok_eTyC, ok_eCall, ok_eCallK, ok_oNo, ok_oAt, ok_eSl, ok_iOf, ok_iOfT, ok_iRg1, oks_sNx, oks_sSeq, oks_sSet, oks_sOwn, oks_sDrop, oks_sRet, oks_sIf, oks_sAsg, oks_sPar, oks_sFor, ok_runD, ok_some, oks_some, startE, eV, setsE, Tg.parts, fAdd_int, fAdd_lst, fAdd_tup, fSub_int, fMul_int, fDiv_int, fMod_int, fPow_int, fLt_int, fLe_int, fGt_int, fGe_int, fNeg_int, fIx_lst, fIx_tup, fLen_lst, fLen_tup, fAbs_int, fInt1_int, fInt1_bl, fGcd_int, fTuple_lst, fTuple_tup, fList_lst, fList_tup, fTru_bl, fTru_lst, fTru_tup, fIsB_bl, atI_0, atI_1, ty_int, ty_bl, ty_lst, ty_tup, ty_str, ty_non, List.map_cons, List.map_nil, List.length_cons, List.length_nil, List.replicate, List.cons_append, List.nil_append, List.getElem?_cons_zero, List.getElem?_cons_succ, List.set_cons_zero, List.set_cons_succ, List.zip_cons_cons, List.zip_nil_right, List.zip_nil_left, Option.some.injEq, exists_eq_left', exists_eq_left, Nat.reduceAdd, Nat.reduceSub, Nat.reduceEqDiff, PyData.bool.injEq, PyData.int.injEq, PyData.list.injEq, PyData.tuple.injEq, if_true, if_false, reduceIte, true_and, and_true, decide_true, decide_false, Bool.false_eq_true])
      rw [ok_eq (C'.st g')]
      (try simp only [fEq_int, fNe_int, ok_eK, ok_lNil, ok_lCons, ok_e2, ok_e1, ok_eF, ok_eTup, ok_nLst, ok_eN, ok_mB, ok_mTru, ok_mNot, ok_mAnd, ok_mOr, ok_eAnd, ok_eOr, ok_eNot, ok_eIf, ok_eIsi, ok_eIsi2, ok_eTyC, ok_eCall, ok_eCallK, ok_oNo, ok_oAt, ok_eSl, ok_iOf, ok_iOfT, ok_iRg1, oks_sNx, oks_sSeq, oks_sSet, oks_sOwn, oks_sDrop, oks_sRet, oks_sIf, oks_sAsg, oks_sPar, oks_sFor, ok_runD, ok_some, oks_some, startE, eV, setsE, Tg.parts, fAdd_int, fAdd_lst, fAdd_tup, fSub_int, fMul_int, fDiv_int, fMod_int, fPow_int, fLt_int, fLe_int, fGt_int, fGe_int, fNeg_int, fIx_lst, fIx_tup, fLen_lst, fLen_tup, fAbs_int, fInt1_int, fInt1_bl, fGcd_int, fTuple_lst, fTuple_tup, fList_lst, fList_tup, fTru_bl, fTru_lst, fTru_tup, fIsB_bl, atI_0, atI_1, ty_int, ty_bl, ty_lst, ty_tup, ty_str, ty_non, List.map_cons, List.map_nil, List.length_cons, List.length_nil, List.replicate, List.cons_append, List.nil_append, List.getElem?_cons_zero, List.getElem?_cons_succ, List.set_cons_zero, List.set_cons_succ, List.zip_cons_cons, List.zip_nil_right, List.zip_nil_left, Option.some.injEq, exists_eq_left', exists_eq_left, Nat.reduceAdd, Nat.reduceSub, Nat.reduceEqDiff, PyData.bool.injEq, PyData.int.injEq, PyData.list.injEq, PyData.tuple.injEq, if_true, if_false, reduceIte, true_and, and_true, decide_true, decide_false, Bool.false_eq_true, fin])
      exact ⟨_, rfl⟩
    · simp only [hui, decide_false, Bool.false_eq_true, if_false]
      (try simp only [fEq_int, fNe_int, ok_eK, ok_lNil, ok_lCons, ok_e2, ok_e1, ok_eF, ok_eTup, ok_nLst, ok_eN, ok_mB, ok_mTru, ok_mNot, ok_mAnd, ok_mOr, ok_eAnd, ok_eOr, ok_eNot, ok_eIf, ok_eIsi, ok_eIsi2, ok_eTyC, ok_eCall, ok_eCallK, ok_oNo, ok_oAt, ok_eSl, ok_iOf, ok_iOfT, ok_iRg1, oks_sNx, oks_sSeq, oks_sSet, oks_sOwn, oks_sDrop, oks_sRet, oks_sIf, oks_sAsg, oks_sPar, oks_sFor, ok_runD, ok_some, oks_some, startE, eV, setsE, Tg.parts, fAdd_int, fAdd_lst, fAdd_tup, fSub_int, fMul_int, fDiv_int, fMod_int, fPow_int, fLt_int, fLe_int, fGt_int, fGe_int, fNeg_int, fIx_lst, fIx_tup, fLen_lst, fLen_tup, fAbs_int, fInt1_int, fInt1_bl, fGcd_int, fTuple_lst, fTuple_tup, fList_lst, fList_tup, fTru_bl, fTru_lst, fTru_tup, fIsB_bl, atI_0, atI_1, ty_int, ty_bl, ty_lst, ty_tup, ty_str, ty_non, List.map_cons, List.map_nil, List.length_cons, List.length_nil, List.replicate, List.cons_append, List.nil_append, List.getElem?_cons_zero, List.getElem?_cons_succ, List.set_cons_zero, List.set_cons_succ, List.zip_cons_cons, List.zip_nil_right, List.zip_nil_left, Option.some.injEq, exists_eq_left', exists_eq_left, Nat.reduceAdd, Nat.reduceSub, Nat.reduceEqDiff, PyData.bool.injEq, PyData.int.injEq, PyData.list.injEq, PyData.tuple.injEq, if_true, if_false, reduceIte, true_and, and_true, decide_true, decide_false, Bool.false_eq_true])
      exact ⟨_, rfl⟩
  rintro _ g4 ⟨rfl, a6, rfl⟩
  have pl : ∀ r ∈ v, ∀ g, Fplaced [fr r, fr lo, fr hi] g = some (fr (P lo hi r), g) := fun r hr g => placed_ok (h1.mono (by decide)) (h2.mono (by decide)) h sd (vs r hr) (by decide) g
  have psz : ∀ r ∈ v, Sz 3500 (P lo hi r) := fun r hr => (P_sz (h1.mono (by decide)) (h2.mono (by decide)) h sd (vs r hr)).mono (by decide)
  refine oks_seqI (P := fun E' g' => g' = g4 ∧ E' = ME lo hi w (.val (fr W)) (.val (.tuple [fr (lo + W), fr (hi + W)])) a6 (.val (.list ((v.map (P lo hi)).map fr))) .no .no b v) ?_ ?_
  · rw [oks_sSet, ok_eN, ok_nLc (by rfl)]
    have e2 : iOfT (eV true 11) (ME lo hi w (.val (fr W)) (.val (.tuple [fr (lo + W), fr (hi + W)])) a6 .no .no .no b v) g4 = some (v.map fr, g4) := ok_iOfT' rfl
    rw [ok_eq e2]
    refine ⟨by rw [List.length_map]; exact sz_ok (by omega), ?_⟩
    rw [ok_eq (lcL_mapR (χ := fun r => fr (P lo hi r)) _ fun r hr => ⟨_, rfl, by
      refine Ok.eq ?_
      (try simp only [fEq_int, fNe_int, ok_eK, ok_lNil, ok_lCons, ok_e2, ok_e1, ok_eF, ok_eTup, ok_nLst, ok_eN, ok_mB, ok_mTru, ok_mNot, ok_mAnd, ok_mOr, ok_eAnd, ok_eOr, ok_eNot, ok_eIf, ok_eIsi, ok_eIsi2, ok_eTyC, ok_eCall, ok_eCallK, ok_oNo, ok_oAt, ok_eSl, ok_iOf, ok_iOfT, ok_iRg1, oks_sNx, oks_sSeq, oks_sSet, oks_sOwn, oks_sDrop, oks_sRet, oks_sIf, oks_sAsg, oks_sPar, oks_sFor, ok_runD, ok_some, oks_some, startE, eV, setsE, Tg.parts, fAdd_int, fAdd_lst, fAdd_tup, fSub_int, fMul_int, fDiv_int, fMod_int, fPow_int, fLt_int, fLe_int, fGt_int, fGe_int, fNeg_int, fIx_lst, fIx_tup, fLen_lst, fLen_tup, fAbs_int, fInt1_int, fInt1_bl, fGcd_int, fTuple_lst, fTuple_tup, fList_lst, fList_tup, fTru_bl, fTru_lst, fTru_tup, fIsB_bl, atI_0, atI_1, ty_int, ty_bl, ty_lst, ty_tup, ty_str, ty_non, List.map_cons, List.map_nil, List.length_cons, List.length_nil, List.replicate, List.cons_append, List.nil_append, List.getElem?_cons_zero, List.getElem?_cons_succ, List.set_cons_zero, List.set_cons_succ, List.zip_cons_cons, List.zip_nil_right, List.zip_nil_left, Option.some.injEq, exists_eq_left', exists_eq_left, Nat.reduceAdd, Nat.reduceSub, Nat.reduceEqDiff, PyData.bool.injEq, PyData.int.injEq, PyData.list.injEq, PyData.tuple.injEq, if_true, if_false, reduceIte, true_and, and_true, decide_true, decide_false, Bool.false_eq_true, wipeE])
      rw [ok_eq (pl r hr g4)]
      exact ⟨rfl, rfl⟩⟩)]
    refine ⟨rfl, rfl, ?_⟩
    rw [List.map_map]
    rfl
  rintro _ g5 ⟨rfl, rfl⟩
  have une : u b ≠ 0 := fun z => by rw [z] at up; exact absurd up (by decide)
  have hne : hi - lo ≠ 0 := fun z => by grind
  have far_sz : Sz 1040 (100 * (u b / (hi - lo))) := (s100.mul (us.over sd hne)).mono (by decide)
  refine oks_seqI (P := fun E' g' => g' = g5 ∧ E' = ME lo hi w (.val (fr W)) (.val (.tuple [fr (lo + W), fr (hi + W)])) a6 (.val (.list ((v.map (P lo hi)).map fr))) (.val (fr (100 * (u b / (hi - lo))))) .no b v) ?_ ?_
  · have d1 : (hi.den : Int).natAbs < 2 ^ 200 := den_bd h2
    have d2 : (lo.den : Int).natAbs < 2 ^ 200 := den_bd h1
    have x1 := mul_bd d1 d2
    have x2 := mul_bd h2.1 d2
    have x3 := mul_bd h1.1 d1
    have x4 : (hi.num * (lo.den : Int) - lo.num * (hi.den : Int)).natAbs < 2 ^ (200 + 200 + 1) := by
      rw [Int.sub_eq_add_neg]
      exact add_bd x2 (by rw [Int.natAbs_neg]; exact x3)
    have hnum : hi.num * (lo.den : Int) - lo.num * (hi.den : Int) ≠ 0 := by
      intro z
      have : lo.num * hi.den < hi.num * lo.den := (Rat.lt_iff lo hi).mp h
      omega
    have bne : (u b).den * (hi.num * (lo.den : Int) - lo.num * (hi.den : Int)) ≠ 0 := Int.mul_ne_zero (den_ne _) hnum
    have lowk : F_law_low [.int ((u b).num * ((hi.den : Int) * lo.den)), .int ((u b).den * (hi.num * (lo.den : Int) - lo.num * (hi.den : Int)))] g5 = some (fr (u b / (hi - lo)), g5) := by
      rw [low_ok bne (bd9 (mul_bd (den_bd us) x4) (by decide)) g5, far_div h]
    (try simp only [fEq_int, fNe_int, ok_eK, ok_lNil, ok_lCons, ok_e2, ok_e1, ok_eF, ok_eTup, ok_nLst, ok_eN, ok_mB, ok_mTru, ok_mNot, ok_mAnd, ok_mOr, ok_eAnd, ok_eOr, ok_eNot, ok_eIf, ok_eIsi, ok_eIsi2, ok_eTyC, ok_eCall, ok_eCallK, ok_oNo, ok_oAt, ok_eSl, ok_iOf, ok_iOfT, ok_iRg1, oks_sNx, oks_sSeq, oks_sSet, oks_sOwn, oks_sDrop, oks_sRet, oks_sIf, oks_sAsg, oks_sPar, oks_sFor, ok_runD, ok_some, oks_some, startE, eV, setsE, Tg.parts, fAdd_int, fAdd_lst, fAdd_tup, fSub_int, fMul_int, fDiv_int, fMod_int, fPow_int, fLt_int, fLe_int, fGt_int, fGe_int, fNeg_int, fIx_lst, fIx_tup, fLen_lst, fLen_tup, fAbs_int, fInt1_int, fInt1_bl, fGcd_int, fTuple_lst, fTuple_tup, fList_lst, fList_tup, fTru_bl, fTru_lst, fTru_tup, fIsB_bl, atI_0, atI_1, ty_int, ty_bl, ty_lst, ty_tup, ty_str, ty_non, List.map_cons, List.map_nil, List.length_cons, List.length_nil, List.replicate, List.cons_append, List.nil_append, List.getElem?_cons_zero, List.getElem?_cons_succ, List.set_cons_zero, List.set_cons_succ, List.zip_cons_cons, List.zip_nil_right, List.zip_nil_left, Option.some.injEq, exists_eq_left', exists_eq_left, Nat.reduceAdd, Nat.reduceSub, Nat.reduceEqDiff, PyData.bool.injEq, PyData.int.injEq, PyData.list.injEq, PyData.tuple.injEq, if_true, if_false, reduceIte, true_and, and_true, decide_true, decide_false, Bool.false_eq_true, z2, fr100, fIx_fr0, fIx_fr1, cmul_bd d1 d2 (by decide), cmul_bd h2.1 d2 (by decide), cmul_bd h1.1 d1 (by decide), cmul_bd us.1 x1 (by decide), cmul_bd (den_bd us) x4 (by decide)])
    rw [ok_eq lowk]
    (try simp only [fEq_int, fNe_int, ok_eK, ok_lNil, ok_lCons, ok_e2, ok_e1, ok_eF, ok_eTup, ok_nLst, ok_eN, ok_mB, ok_mTru, ok_mNot, ok_mAnd, ok_mOr, ok_eAnd, ok_eOr, ok_eNot, ok_eIf, ok_eIsi, ok_eIsi2, ok_eTyC, ok_eCall, ok_eCallK, ok_oNo, ok_oAt, ok_eSl, ok_iOf, ok_iOfT, ok_iRg1, oks_sNx, oks_sSeq, oks_sSet, oks_sOwn, oks_sDrop, oks_sRet, oks_sIf, oks_sAsg, oks_sPar, oks_sFor, ok_runD, ok_some, oks_some, startE, eV, setsE, Tg.parts, fAdd_int, fAdd_lst, fAdd_tup, fSub_int, fMul_int, fDiv_int, fMod_int, fPow_int, fLt_int, fLe_int, fGt_int, fGe_int, fNeg_int, fIx_lst, fIx_tup, fLen_lst, fLen_tup, fAbs_int, fInt1_int, fInt1_bl, fGcd_int, fTuple_lst, fTuple_tup, fList_lst, fList_tup, fTru_bl, fTru_lst, fTru_tup, fIsB_bl, atI_0, atI_1, ty_int, ty_bl, ty_lst, ty_tup, ty_str, ty_non, List.map_cons, List.map_nil, List.length_cons, List.length_nil, List.replicate, List.cons_append, List.nil_append, List.getElem?_cons_zero, List.getElem?_cons_succ, List.set_cons_zero, List.set_cons_succ, List.zip_cons_cons, List.zip_nil_right, List.zip_nil_left, Option.some.injEq, exists_eq_left', exists_eq_left, Nat.reduceAdd, Nat.reduceSub, Nat.reduceEqDiff, PyData.bool.injEq, PyData.int.injEq, PyData.list.injEq, PyData.tuple.injEq, if_true, if_false, reduceIte, true_and, and_true, decide_true, decide_false, Bool.false_eq_true])
    rw [ok_eq (ltimes_ok s100 (us.over sd hne) (by decide) g5)]
    try exact ⟨rfl, rfl⟩
  rintro _ g6 ⟨rfl, rfl⟩
  refine oks_seqI (P := fun E' g' => g' = g6 ∧ ∃ a9, E' = ME lo hi w (.val (fr W)) (.val (.tuple [fr (lo + W), fr (hi + W)])) a6 (.val (.list ((v.map (P lo hi)).map fr))) (.val (fr (100 * (u b / (hi - lo))))) a9 b v) ?_ ?_
  · have p62 : (1000 : Int) < 2 ^ 62 := by decide
    have fl_ : fLen [.list ((v.map (P lo hi)).map fr)] = some (.int (v.length : Int)) := by
      show some (PyData.int (((v.map (P lo hi)).map fr).length : Int)) = _
      rw [List.length_map, List.length_map]
    rw [oks_sFor, ok_iRg2]
    (try simp only [fEq_int, fNe_int, ok_eK, ok_lNil, ok_lCons, ok_e2, ok_e1, ok_eF, ok_eTup, ok_nLst, ok_eN, ok_mB, ok_mTru, ok_mNot, ok_mAnd, ok_mOr, ok_eAnd, ok_eOr, ok_eNot, ok_eIf, ok_eIsi, ok_eIsi2, ok_eTyC, ok_eCall, ok_eCallK, ok_oNo, ok_oAt, ok_eSl, ok_iOf, ok_iOfT, ok_iRg1, oks_sNx, oks_sSeq, oks_sSet, oks_sOwn, oks_sDrop, oks_sRet, oks_sIf, oks_sAsg, oks_sPar, oks_sFor, ok_runD, ok_some, oks_some, startE, eV, setsE, Tg.parts, fAdd_int, fAdd_lst, fAdd_tup, fSub_int, fMul_int, fDiv_int, fMod_int, fPow_int, fLt_int, fLe_int, fGt_int, fGe_int, fNeg_int, fIx_lst, fIx_tup, fLen_lst, fLen_tup, fAbs_int, fInt1_int, fInt1_bl, fGcd_int, fTuple_lst, fTuple_tup, fList_lst, fList_tup, fTru_bl, fTru_lst, fTru_tup, fIsB_bl, atI_0, atI_1, ty_int, ty_bl, ty_lst, ty_tup, ty_str, ty_non, List.map_cons, List.map_nil, List.length_cons, List.length_nil, List.replicate, List.cons_append, List.nil_append, List.getElem?_cons_zero, List.getElem?_cons_succ, List.set_cons_zero, List.set_cons_succ, List.zip_cons_cons, List.zip_nil_right, List.zip_nil_left, Option.some.injEq, exists_eq_left', exists_eq_left, Nat.reduceAdd, Nat.reduceSub, Nat.reduceEqDiff, PyData.bool.injEq, PyData.int.injEq, PyData.list.injEq, PyData.tuple.injEq, if_true, if_false, reduceIte, true_and, and_true, decide_true, decide_false, Bool.false_eq_true, fl_])
    refine ⟨1, v.length, rfl, by omega, ?_⟩
    rw [show ((v.length : Int) - 1).toNat = v.length - 1 by omega]
    unfold intsD
    refine forL_0 (I := fun _ E' g' => g' = g6 ∧ ∃ a9, E' = ME lo hi w (.val (fr W)) (.val (.tuple [fr (lo + W), fr (hi + W)])) a6 (.val (.list ((v.map (P lo hi)).map fr))) (.val (fr (100 * (u b / (hi - lo))))) a9 b v) (fun i => .int (1 + (i : Int))) (v.length - 1) (fun j hj E' g' ⟨hg, a9, hE⟩ => ?_) ⟨rfl, .no, rfl⟩
    subst hg; subst hE
    obtain ⟨r, r1, r2⟩ := vstep j (by omega)
    have i1 : fIx (.list ((v.map (P lo hi)).map fr)) (.int (1 + (j : Int))) = some (fr (P lo hi (r + u b))) := by
      show atI ((v.map (P lo hi)).map fr) (1 + (j : Int)) = _
      rw [show 1 + (j : Int) = ((j + 1 : Nat) : Int) by omega, atI_nat (by rw [List.length_map, List.length_map]; omega)]
      have := List.getElem?_eq_some_iff.mp r2
      obtain ⟨hl, e⟩ := this
      simp [e]
    have i2 : fIx (.list ((v.map (P lo hi)).map fr)) (.int (1 + (j : Int) - 1)) = some (fr (P lo hi r)) := by
      show atI ((v.map (P lo hi)).map fr) (1 + (j : Int) - 1) = _
      rw [show 1 + (j : Int) - 1 = (j : Int) by omega, atI_nat (by rw [List.length_map, List.length_map]; omega)]
      have := List.getElem?_eq_some_iff.mp r1
      obtain ⟨hl, e⟩ := this
      simp [e]
    have m1 : r ∈ v := List.mem_of_getElem? r1
    have m2 : r + u b ∈ v := List.mem_of_getElem? r2
    refine ⟨[(9, .int (1 + (j : Int)))], rfl, ?_⟩
    have i1' : atI ((v.map (P lo hi)).map fr) (1 + (j : Int)) = some (fr (P lo hi (r + u b))) := i1
    have i2' : atI ((v.map (P lo hi)).map fr) (1 + (j : Int) - 1) = some (fr (P lo hi r)) := i2
    (try simp only [fEq_int, fNe_int, ok_eK, ok_lNil, ok_lCons, ok_e2, ok_e1, ok_eF, ok_eTup, ok_nLst, ok_eN, ok_mB, ok_mTru, ok_mNot, ok_mAnd, ok_mOr, ok_eAnd, ok_eOr, ok_eNot, ok_eIf, ok_eIsi, ok_eIsi2, ok_eTyC, ok_eCall, ok_eCallK, ok_oNo, ok_oAt, ok_eSl, ok_iOf, ok_iOfT, ok_iRg1, oks_sNx, oks_sSeq, oks_sSet, oks_sOwn, oks_sDrop, oks_sRet, oks_sIf, oks_sAsg, oks_sPar, oks_sFor, ok_runD, ok_some, oks_some, startE, eV, setsE, Tg.parts, fAdd_int, fAdd_lst, fAdd_tup, fSub_int, fMul_int, fDiv_int, fMod_int, fPow_int, fLt_int, fLe_int, fGt_int, fGe_int, fNeg_int, fIx_lst, fIx_tup, fLen_lst, fLen_tup, fAbs_int, fInt1_int, fInt1_bl, fGcd_int, fTuple_lst, fTuple_tup, fList_lst, fList_tup, fTru_bl, fTru_lst, fTru_tup, fIsB_bl, atI_0, atI_1, ty_int, ty_bl, ty_lst, ty_tup, ty_str, ty_non, List.map_cons, List.map_nil, List.length_cons, List.length_nil, List.replicate, List.cons_append, List.nil_append, List.getElem?_cons_zero, List.getElem?_cons_succ, List.set_cons_zero, List.set_cons_succ, List.zip_cons_cons, List.zip_nil_right, List.zip_nil_left, Option.some.injEq, exists_eq_left', exists_eq_left, Nat.reduceAdd, Nat.reduceSub, Nat.reduceEqDiff, PyData.bool.injEq, PyData.int.injEq, PyData.list.injEq, PyData.tuple.injEq, if_true, if_false, reduceIte, true_and, and_true, decide_true, decide_false, Bool.false_eq_true, i1'])
    (try simp only [fEq_int, fNe_int, ok_eK, ok_lNil, ok_lCons, ok_e2, ok_e1, ok_eF, ok_eTup, ok_nLst, ok_eN, ok_mB, ok_mTru, ok_mNot, ok_mAnd, ok_mOr, ok_eAnd, ok_eOr, ok_eNot, ok_eIf, ok_eIsi, ok_eIsi2, ok_eTyC, ok_eCall, ok_eCallK, ok_oNo, ok_oAt, ok_eSl, ok_iOf, ok_iOfT, ok_iRg1, oks_sNx, oks_sSeq, oks_sSet, oks_sOwn, oks_sDrop, oks_sRet, oks_sIf, oks_sAsg, oks_sPar, oks_sFor, ok_runD, ok_some, oks_some, startE, eV, setsE, Tg.parts, fAdd_int, fAdd_lst, fAdd_tup, fSub_int, fMul_int, fDiv_int, fMod_int, fPow_int, fLt_int, fLe_int, fGt_int, fGe_int, fNeg_int, fIx_lst, fIx_tup, fLen_lst, fLen_tup, fAbs_int, fInt1_int, fInt1_bl, fGcd_int, fTuple_lst, fTuple_tup, fList_lst, fList_tup, fTru_bl, fTru_lst, fTru_tup, fIsB_bl, atI_0, atI_1, ty_int, ty_bl, ty_lst, ty_tup, ty_str, ty_non, List.map_cons, List.map_nil, List.length_cons, List.length_nil, List.replicate, List.cons_append, List.nil_append, List.getElem?_cons_zero, List.getElem?_cons_succ, List.set_cons_zero, List.set_cons_succ, List.zip_cons_cons, List.zip_nil_right, List.zip_nil_left, Option.some.injEq, exists_eq_left', exists_eq_left, Nat.reduceAdd, Nat.reduceSub, Nat.reduceEqDiff, PyData.bool.injEq, PyData.int.injEq, PyData.list.injEq, PyData.tuple.injEq, if_true, if_false, reduceIte, true_and, and_true, decide_true, decide_false, Bool.false_eq_true, i2'])
    rw [ok_eq (lminus_ok (psz _ m2) (psz _ m1) (by decide) g'), P_step]
    (try simp only [fEq_int, fNe_int, ok_eK, ok_lNil, ok_lCons, ok_e2, ok_e1, ok_eF, ok_eTup, ok_nLst, ok_eN, ok_mB, ok_mTru, ok_mNot, ok_mAnd, ok_mOr, ok_eAnd, ok_eOr, ok_eNot, ok_eIf, ok_eIsi, ok_eIsi2, ok_eTyC, ok_eCall, ok_eCallK, ok_oNo, ok_oAt, ok_eSl, ok_iOf, ok_iOfT, ok_iRg1, oks_sNx, oks_sSeq, oks_sSet, oks_sOwn, oks_sDrop, oks_sRet, oks_sIf, oks_sAsg, oks_sPar, oks_sFor, ok_runD, ok_some, oks_some, startE, eV, setsE, Tg.parts, fAdd_int, fAdd_lst, fAdd_tup, fSub_int, fMul_int, fDiv_int, fMod_int, fPow_int, fLt_int, fLe_int, fGt_int, fGe_int, fNeg_int, fIx_lst, fIx_tup, fLen_lst, fLen_tup, fAbs_int, fInt1_int, fInt1_bl, fGcd_int, fTuple_lst, fTuple_tup, fList_lst, fList_tup, fTru_bl, fTru_lst, fTru_tup, fIsB_bl, atI_0, atI_1, ty_int, ty_bl, ty_lst, ty_tup, ty_str, ty_non, List.map_cons, List.map_nil, List.length_cons, List.length_nil, List.replicate, List.cons_append, List.nil_append, List.getElem?_cons_zero, List.getElem?_cons_succ, List.set_cons_zero, List.set_cons_succ, List.zip_cons_cons, List.zip_nil_right, List.zip_nil_left, Option.some.injEq, exists_eq_left', exists_eq_left, Nat.reduceAdd, Nat.reduceSub, Nat.reduceEqDiff, PyData.bool.injEq, PyData.int.injEq, PyData.list.injEq, PyData.tuple.injEq, if_true, if_false, reduceIte, true_and, and_true, decide_true, decide_false, Bool.false_eq_true, fNe_fr, Bool.not_true])
    exact ⟨_, rfl⟩
  rintro _ g7 ⟨rfl, a9, rfl⟩
  refine oks_seqI (P := fun E' g' => g' = g7 ∧ E' = ME lo hi w (.val (fr W)) (.val (.tuple [fr (lo + W), fr (hi + W)])) a6 (.val (.list ((v.map (P lo hi)).map fr))) (.val (fr (100 * (u b / (hi - lo))))) a9 b v) ?_ ?_
  · have q1 := placed_ok (h1.mono (by decide)) (h2.mono (by decide)) h sd h1 (by decide) g7
    have q2 := placed_ok (h1.mono (by decide)) (h2.mono (by decide)) h sd h2 (by decide) g7
    have q3 := placed_ok s1 s2 hlt' (by rw [hsub]; exact sd) s1 (by decide) g7
    rw [P_lo] at q1 q3
    rw [P_hi h] at q2
    have f01 : PyData.tuple [.int 0, .int 1] = fr 0 := rfl
    have ne3 : fNe (.list [fr 0, fr 100, fr 0]) (.list [fr 0, fr 100, fr 0]) = some (.bool false) := ne_same (sh_frs _ (.inl rfl) [0, 100, 0])
    (try simp only [fEq_int, fNe_int, ok_eK, ok_lNil, ok_lCons, ok_e2, ok_e1, ok_eF, ok_eTup, ok_nLst, ok_eN, ok_mB, ok_mTru, ok_mNot, ok_mAnd, ok_mOr, ok_eAnd, ok_eOr, ok_eNot, ok_eIf, ok_eIsi, ok_eIsi2, ok_eTyC, ok_eCall, ok_eCallK, ok_oNo, ok_oAt, ok_eSl, ok_iOf, ok_iOfT, ok_iRg1, oks_sNx, oks_sSeq, oks_sSet, oks_sOwn, oks_sDrop, oks_sRet, oks_sIf, oks_sAsg, oks_sPar, oks_sFor, ok_runD, ok_some, oks_some, startE, eV, setsE, Tg.parts, fAdd_int, fAdd_lst, fAdd_tup, fSub_int, fMul_int, fDiv_int, fMod_int, fPow_int, fLt_int, fLe_int, fGt_int, fGe_int, fNeg_int, fIx_lst, fIx_tup, fLen_lst, fLen_tup, fAbs_int, fInt1_int, fInt1_bl, fGcd_int, fTuple_lst, fTuple_tup, fList_lst, fList_tup, fTru_bl, fTru_lst, fTru_tup, fIsB_bl, atI_0, atI_1, ty_int, ty_bl, ty_lst, ty_tup, ty_str, ty_non, List.map_cons, List.map_nil, List.length_cons, List.length_nil, List.replicate, List.cons_append, List.nil_append, List.getElem?_cons_zero, List.getElem?_cons_succ, List.set_cons_zero, List.set_cons_succ, List.zip_cons_cons, List.zip_nil_right, List.zip_nil_left, Option.some.injEq, exists_eq_left', exists_eq_left, Nat.reduceAdd, Nat.reduceSub, Nat.reduceEqDiff, PyData.bool.injEq, PyData.int.injEq, PyData.list.injEq, PyData.tuple.injEq, if_true, if_false, reduceIte, true_and, and_true, decide_true, decide_false, Bool.false_eq_true])
    rw [ok_eq q1]
    (try simp only [fEq_int, fNe_int, ok_eK, ok_lNil, ok_lCons, ok_e2, ok_e1, ok_eF, ok_eTup, ok_nLst, ok_eN, ok_mB, ok_mTru, ok_mNot, ok_mAnd, ok_mOr, ok_eAnd, ok_eOr, ok_eNot, ok_eIf, ok_eIsi, ok_eIsi2, ok_eTyC, ok_eCall, ok_eCallK, ok_oNo, ok_oAt, ok_eSl, ok_iOf, ok_iOfT, ok_iRg1, oks_sNx, oks_sSeq, oks_sSet, oks_sOwn, oks_sDrop, oks_sRet, oks_sIf, oks_sAsg, oks_sPar, oks_sFor, ok_runD, ok_some, oks_some, startE, eV, setsE, Tg.parts, fAdd_int, fAdd_lst, fAdd_tup, fSub_int, fMul_int, fDiv_int, fMod_int, fPow_int, fLt_int, fLe_int, fGt_int, fGe_int, fNeg_int, fIx_lst, fIx_tup, fLen_lst, fLen_tup, fAbs_int, fInt1_int, fInt1_bl, fGcd_int, fTuple_lst, fTuple_tup, fList_lst, fList_tup, fTru_bl, fTru_lst, fTru_tup, fIsB_bl, atI_0, atI_1, ty_int, ty_bl, ty_lst, ty_tup, ty_str, ty_non, List.map_cons, List.map_nil, List.length_cons, List.length_nil, List.replicate, List.cons_append, List.nil_append, List.getElem?_cons_zero, List.getElem?_cons_succ, List.set_cons_zero, List.set_cons_succ, List.zip_cons_cons, List.zip_nil_right, List.zip_nil_left, Option.some.injEq, exists_eq_left', exists_eq_left, Nat.reduceAdd, Nat.reduceSub, Nat.reduceEqDiff, PyData.bool.injEq, PyData.int.injEq, PyData.list.injEq, PyData.tuple.injEq, if_true, if_false, reduceIte, true_and, and_true, decide_true, decide_false, Bool.false_eq_true])
    rw [ok_eq q2]
    (try simp only [fEq_int, fNe_int, ok_eK, ok_lNil, ok_lCons, ok_e2, ok_e1, ok_eF, ok_eTup, ok_nLst, ok_eN, ok_mB, ok_mTru, ok_mNot, ok_mAnd, ok_mOr, ok_eAnd, ok_eOr, ok_eNot, ok_eIf, ok_eIsi, ok_eIsi2, ok_eTyC, ok_eCall, ok_eCallK, ok_oNo, ok_oAt, ok_eSl, ok_iOf, ok_iOfT, ok_iRg1, oks_sNx, oks_sSeq, oks_sSet, oks_sOwn, oks_sDrop, oks_sRet, oks_sIf, oks_sAsg, oks_sPar, oks_sFor, ok_runD, ok_some, oks_some, startE, eV, setsE, Tg.parts, fAdd_int, fAdd_lst, fAdd_tup, fSub_int, fMul_int, fDiv_int, fMod_int, fPow_int, fLt_int, fLe_int, fGt_int, fGe_int, fNeg_int, fIx_lst, fIx_tup, fLen_lst, fLen_tup, fAbs_int, fInt1_int, fInt1_bl, fGcd_int, fTuple_lst, fTuple_tup, fList_lst, fList_tup, fTru_bl, fTru_lst, fTru_tup, fIsB_bl, atI_0, atI_1, ty_int, ty_bl, ty_lst, ty_tup, ty_str, ty_non, List.map_cons, List.map_nil, List.length_cons, List.length_nil, List.replicate, List.cons_append, List.nil_append, List.getElem?_cons_zero, List.getElem?_cons_succ, List.set_cons_zero, List.set_cons_succ, List.zip_cons_cons, List.zip_nil_right, List.zip_nil_left, Option.some.injEq, exists_eq_left', exists_eq_left, Nat.reduceAdd, Nat.reduceSub, Nat.reduceEqDiff, PyData.bool.injEq, PyData.int.injEq, PyData.list.injEq, PyData.tuple.injEq, if_true, if_false, reduceIte, true_and, and_true, decide_true, decide_false, Bool.false_eq_true])
    rw [ok_eq (lplus2 h1 sw (by decide) g7)]
    (try simp only [fEq_int, fNe_int, ok_eK, ok_lNil, ok_lCons, ok_e2, ok_e1, ok_eF, ok_eTup, ok_nLst, ok_eN, ok_mB, ok_mTru, ok_mNot, ok_mAnd, ok_mOr, ok_eAnd, ok_eOr, ok_eNot, ok_eIf, ok_eIsi, ok_eIsi2, ok_eTyC, ok_eCall, ok_eCallK, ok_oNo, ok_oAt, ok_eSl, ok_iOf, ok_iOfT, ok_iRg1, oks_sNx, oks_sSeq, oks_sSet, oks_sOwn, oks_sDrop, oks_sRet, oks_sIf, oks_sAsg, oks_sPar, oks_sFor, ok_runD, ok_some, oks_some, startE, eV, setsE, Tg.parts, fAdd_int, fAdd_lst, fAdd_tup, fSub_int, fMul_int, fDiv_int, fMod_int, fPow_int, fLt_int, fLe_int, fGt_int, fGe_int, fNeg_int, fIx_lst, fIx_tup, fLen_lst, fLen_tup, fAbs_int, fInt1_int, fInt1_bl, fGcd_int, fTuple_lst, fTuple_tup, fList_lst, fList_tup, fTru_bl, fTru_lst, fTru_tup, fIsB_bl, atI_0, atI_1, ty_int, ty_bl, ty_lst, ty_tup, ty_str, ty_non, List.map_cons, List.map_nil, List.length_cons, List.length_nil, List.replicate, List.cons_append, List.nil_append, List.getElem?_cons_zero, List.getElem?_cons_succ, List.set_cons_zero, List.set_cons_succ, List.zip_cons_cons, List.zip_nil_right, List.zip_nil_left, Option.some.injEq, exists_eq_left', exists_eq_left, Nat.reduceAdd, Nat.reduceSub, Nat.reduceEqDiff, PyData.bool.injEq, PyData.int.injEq, PyData.list.injEq, PyData.tuple.injEq, if_true, if_false, reduceIte, true_and, and_true, decide_true, decide_false, Bool.false_eq_true])
    rw [ok_eq q3]
    (try simp only [fEq_int, fNe_int, ok_eK, ok_lNil, ok_lCons, ok_e2, ok_e1, ok_eF, ok_eTup, ok_nLst, ok_eN, ok_mB, ok_mTru, ok_mNot, ok_mAnd, ok_mOr, ok_eAnd, ok_eOr, ok_eNot, ok_eIf, ok_eIsi, ok_eIsi2, ok_eTyC, ok_eCall, ok_eCallK, ok_oNo, ok_oAt, ok_eSl, ok_iOf, ok_iOfT, ok_iRg1, oks_sNx, oks_sSeq, oks_sSet, oks_sOwn, oks_sDrop, oks_sRet, oks_sIf, oks_sAsg, oks_sPar, oks_sFor, ok_runD, ok_some, oks_some, startE, eV, setsE, Tg.parts, fAdd_int, fAdd_lst, fAdd_tup, fSub_int, fMul_int, fDiv_int, fMod_int, fPow_int, fLt_int, fLe_int, fGt_int, fGe_int, fNeg_int, fIx_lst, fIx_tup, fLen_lst, fLen_tup, fAbs_int, fInt1_int, fInt1_bl, fGcd_int, fTuple_lst, fTuple_tup, fList_lst, fList_tup, fTru_bl, fTru_lst, fTru_tup, fIsB_bl, atI_0, atI_1, ty_int, ty_bl, ty_lst, ty_tup, ty_str, ty_non, List.map_cons, List.map_nil, List.length_cons, List.length_nil, List.replicate, List.cons_append, List.nil_append, List.getElem?_cons_zero, List.getElem?_cons_succ, List.set_cons_zero, List.set_cons_succ, List.zip_cons_cons, List.zip_nil_right, List.zip_nil_left, Option.some.injEq, exists_eq_left', exists_eq_left, Nat.reduceAdd, Nat.reduceSub, Nat.reduceEqDiff, PyData.bool.injEq, PyData.int.injEq, PyData.list.injEq, PyData.tuple.injEq, if_true, if_false, reduceIte, true_and, and_true, decide_true, decide_false, Bool.false_eq_true, z3, z2, f01, fr100, ne3])
    try exact ⟨rfl, rfl⟩
  rintro _ g8 ⟨rfl, rfl⟩
  have pl2 : ∀ r ∈ v, ∀ g, Fplaced [fr (r + W), fr (lo + W), fr (hi + W)] g = some (fr (P lo hi r), g) := fun r hr g => by
    rw [placed_ok s1 s2 hlt' (by rw [hsub]; exact sd) ((vs r hr).add sw) (by decide) g, P_move]
  rw [oks_sRet, ok_e2, ok_eN, ok_nLc (by rfl)]
  have e2 : iOfT (eV true 11) (ME lo hi w (.val (fr W)) (.val (.tuple [fr (lo + W), fr (hi + W)])) a6 (.val (.list ((v.map (P lo hi)).map fr))) (.val (fr (100 * (u b / (hi - lo))))) a9 b v) g8 = some (v.map fr, g8) := ok_iOfT' rfl
  rw [ok_eq e2]
  refine ⟨by rw [List.length_map]; exact sz_ok (by omega), ?_⟩
  rw [ok_eq (lcL_mapR (χ := fun r => fr (P lo hi r)) _ fun r hr => ⟨_, rfl, by
    refine Ok.eq ?_
    (try simp only [fEq_int, fNe_int, ok_eK, ok_lNil, ok_lCons, ok_e2, ok_e1, ok_eF, ok_eTup, ok_nLst, ok_eN, ok_mB, ok_mTru, ok_mNot, ok_mAnd, ok_mOr, ok_eAnd, ok_eOr, ok_eNot, ok_eIf, ok_eIsi, ok_eIsi2, ok_eTyC, ok_eCall, ok_eCallK, ok_oNo, ok_oAt, ok_eSl, ok_iOf, ok_iOfT, ok_iRg1, oks_sNx, oks_sSeq, oks_sSet, oks_sOwn, oks_sDrop, oks_sRet, oks_sIf, oks_sAsg, oks_sPar, oks_sFor, ok_runD, ok_some, oks_some, startE, eV, setsE, Tg.parts, fAdd_int, fAdd_lst, fAdd_tup, fSub_int, fMul_int, fDiv_int, fMod_int, fPow_int, fLt_int, fLe_int, fGt_int, fGe_int, fNeg_int, fIx_lst, fIx_tup, fLen_lst, fLen_tup, fAbs_int, fInt1_int, fInt1_bl, fGcd_int, fTuple_lst, fTuple_tup, fList_lst, fList_tup, fTru_bl, fTru_lst, fTru_tup, fIsB_bl, atI_0, atI_1, ty_int, ty_bl, ty_lst, ty_tup, ty_str, ty_non, List.map_cons, List.map_nil, List.length_cons, List.length_nil, List.replicate, List.cons_append, List.nil_append, List.getElem?_cons_zero, List.getElem?_cons_succ, List.set_cons_zero, List.set_cons_succ, List.zip_cons_cons, List.zip_nil_right, List.zip_nil_left, Option.some.injEq, exists_eq_left', exists_eq_left, Nat.reduceAdd, Nat.reduceSub, Nat.reduceEqDiff, PyData.bool.injEq, PyData.int.injEq, PyData.list.injEq, PyData.tuple.injEq, if_true, if_false, reduceIte, true_and, and_true, decide_true, decide_false, Bool.false_eq_true, wipeE])
    rw [ok_eq (lplus2 (vs r hr) sw (by decide) g8)]
    (try simp only [fEq_int, fNe_int, ok_eK, ok_lNil, ok_lCons, ok_e2, ok_e1, ok_eF, ok_eTup, ok_nLst, ok_eN, ok_mB, ok_mTru, ok_mNot, ok_mAnd, ok_mOr, ok_eAnd, ok_eOr, ok_eNot, ok_eIf, ok_eIsi, ok_eIsi2, ok_eTyC, ok_eCall, ok_eCallK, ok_oNo, ok_oAt, ok_eSl, ok_iOf, ok_iOfT, ok_iRg1, oks_sNx, oks_sSeq, oks_sSet, oks_sOwn, oks_sDrop, oks_sRet, oks_sIf, oks_sAsg, oks_sPar, oks_sFor, ok_runD, ok_some, oks_some, startE, eV, setsE, Tg.parts, fAdd_int, fAdd_lst, fAdd_tup, fSub_int, fMul_int, fDiv_int, fMod_int, fPow_int, fLt_int, fLe_int, fGt_int, fGe_int, fNeg_int, fIx_lst, fIx_tup, fLen_lst, fLen_tup, fAbs_int, fInt1_int, fInt1_bl, fGcd_int, fTuple_lst, fTuple_tup, fList_lst, fList_tup, fTru_bl, fTru_lst, fTru_tup, fIsB_bl, atI_0, atI_1, ty_int, ty_bl, ty_lst, ty_tup, ty_str, ty_non, List.map_cons, List.map_nil, List.length_cons, List.length_nil, List.replicate, List.cons_append, List.nil_append, List.getElem?_cons_zero, List.getElem?_cons_succ, List.set_cons_zero, List.set_cons_succ, List.zip_cons_cons, List.zip_nil_right, List.zip_nil_left, Option.some.injEq, exists_eq_left', exists_eq_left, Nat.reduceAdd, Nat.reduceSub, Nat.reduceEqDiff, PyData.bool.injEq, PyData.int.injEq, PyData.list.injEq, PyData.tuple.injEq, if_true, if_false, reduceIte, true_and, and_true, decide_true, decide_false, Bool.false_eq_true])
    rw [ok_eq (pl2 r hr g8)]
    exact ⟨rfl, rfl⟩⟩)]
  have e3 : v.map (fun r => fr (P lo hi r)) = (v.map (P lo hi)).map fr := by
    rw [List.map_map]
    rfl
  have eq3 := eq_same (sh_frs PyData.list (.inl rfl) (v.map (P lo hi)))
  rw [e3]
  (try simp only [fEq_int, fNe_int, ok_eK, ok_lNil, ok_lCons, ok_e2, ok_e1, ok_eF, ok_eTup, ok_nLst, ok_eN, ok_mB, ok_mTru, ok_mNot, ok_mAnd, ok_mOr, ok_eAnd, ok_eOr, ok_eNot, ok_eIf, ok_eIsi, ok_eIsi2, ok_eTyC, ok_eCall, ok_eCallK, ok_oNo, ok_oAt, ok_eSl, ok_iOf, ok_iOfT, ok_iRg1, oks_sNx, oks_sSeq, oks_sSet, oks_sOwn, oks_sDrop, oks_sRet, oks_sIf, oks_sAsg, oks_sPar, oks_sFor, ok_runD, ok_some, oks_some, startE, eV, setsE, Tg.parts, fAdd_int, fAdd_lst, fAdd_tup, fSub_int, fMul_int, fDiv_int, fMod_int, fPow_int, fLt_int, fLe_int, fGt_int, fGe_int, fNeg_int, fIx_lst, fIx_tup, fLen_lst, fLen_tup, fAbs_int, fInt1_int, fInt1_bl, fGcd_int, fTuple_lst, fTuple_tup, fList_lst, fList_tup, fTru_bl, fTru_lst, fTru_tup, fIsB_bl, atI_0, atI_1, ty_int, ty_bl, ty_lst, ty_tup, ty_str, ty_non, List.map_cons, List.map_nil, List.length_cons, List.length_nil, List.replicate, List.cons_append, List.nil_append, List.getElem?_cons_zero, List.getElem?_cons_succ, List.set_cons_zero, List.set_cons_succ, List.zip_cons_cons, List.zip_nil_right, List.zip_nil_left, Option.some.injEq, exists_eq_left', exists_eq_left, Nat.reduceAdd, Nat.reduceSub, Nat.reduceEqDiff, PyData.bool.injEq, PyData.int.injEq, PyData.list.injEq, PyData.tuple.injEq, if_true, if_false, reduceIte, true_and, and_true, decide_true, decide_false, Bool.false_eq_true, eq3])
end K06

set_option Elab.async false
set_option linter.all false
set_option maxRecDepth 100000
set_option maxHeartbeats 4000000
namespace K06
open PySem PySem.Spec PyProof.Rows L2 DL
open M5 (pt u fl fst okI mid In Span)
theorem of_frs : ∀ xs : List D, (∀ x ∈ xs, ∃ r, x = fr r ∧ Sz 140 r) → ∃ rs : List Rat, xs = rs.map fr ∧ ∀ r ∈ rs, Sz 140 r
  | [], _ => ⟨[], rfl, fun _ h => absurd h (by simp)⟩
  | x :: xs, h => by
    obtain ⟨r, rfl, hr⟩ := h x (List.mem_cons_self ..)
    obtain ⟨rs, rfl, hrs⟩ := of_frs xs fun x hx => h x (List.mem_cons_of_mem _ hx)
    refine ⟨r :: rs, rfl, fun q hq => ?_⟩
    rcases List.mem_cons.mp hq with rfl | hq
    · exact hr
    · exact hrs q hq
theorem cut_lo (ds : List D) (h : Nat) (hh : h ≤ ds.length) : DL.cutD ds none (some (h : Int)) = ds.take h := by
  unfold DL.cutD
  rw [HT.sIx_none, HT.sIx_nat, List.drop_zero, Nat.min_eq_left hh, Nat.sub_zero]
def fM (p : Rat × Rat) (r : Rat) : Rat × Rat := (if r < p.1 then r else p.1, if p.2 < r then r else p.2)
theorem fM_ok : ∀ (rs : List Rat) (p : Rat × Rat), ((rs.foldl fM p).1 = p.1 ∨ (rs.foldl fM p).1 ∈ rs) ∧ ((rs.foldl fM p).2 = p.2 ∨ (rs.foldl fM p).2 ∈ rs) ∧ (rs.foldl fM p).1 ≤ p.1 ∧ p.2 ≤ (rs.foldl fM p).2 ∧ ∀ r ∈ rs, (rs.foldl fM p).1 ≤ r ∧ r ≤ (rs.foldl fM p).2
  | [], p => ⟨.inl rfl, .inl rfl, Rat.le_refl, Rat.le_refl, fun r h => absurd h (by simp)⟩
  | r :: rs, p => by
    obtain ⟨h1, h2, h3, h4, h5⟩ := fM_ok rs (fM p r)
    rw [List.foldl_cons]
    generalize rs.foldl fM (fM p r) = q at *
    unfold fM at h1 h2 h3 h4
    simp only at h1 h2 h3 h4
    refine ⟨?_, ?_, ?_, ?_, fun s hs => ?_⟩
    · rcases h1 with h1 | h1
      · split at h1
        · exact .inr (by rw [h1]; exact List.mem_cons_self ..)
        · exact .inl h1
      · exact .inr (List.mem_cons_of_mem _ h1)
    · rcases h2 with h2 | h2
      · split at h2
        · exact .inr (by rw [h2]; exact List.mem_cons_self ..)
        · exact .inl h2
      · exact .inr (List.mem_cons_of_mem _ h2)
    · split at h3 <;> grind
    · split at h4 <;> grind
    · rcases List.mem_cons.mp hs with rfl | hs
      · constructor
        · split at h3 <;> grind
        · split at h4 <;> grind
      · exact h5 s hs
theorem checkn_ok (rs : List Rat) (hne : rs ≠ []) (g : G) : F_check_numbers [.tuple (rs.map fr)] g = some (.none, g) := by
  refine Ok.eq ?_
  unfold F_check_numbers m_check_numbers
  have td : decide (("tuple" : String) = "tuple") = true := by decide
  have he : (rs.map fr).isEmpty = false := by cases rs with
    | nil => exact absurd rfl hne
    | cons r rs => rfl
  (try simp only [fEq_int, fNe_int, ok_eK, ok_lNil, ok_lCons, ok_e2, ok_e1, ok_eF, ok_eTup, ok_nLst, ok_eN, ok_mB, ok_mTru, ok_mNot, ok_mAnd, ok_mOr, ok_eAnd, ok_eOr, ok_eNot, ok_eIf, ok_eIsi, ok_eIsi2, ok_eTyC, ok_eCall, ok_eCallK, ok_oNo, ok_oAt, ok_eSl, ok_iOf, ok_iOfT, ok_iRg1, oks_sNx, oks_sSeq, oks_sSet, oks_sOwn, oks_sDrop, oks_sRet, oks_sIf, oks_sAsg, oks_sPar, oks_sFor, ok_runD, ok_some, oks_some, startE, eV, setsE, Tg.parts, fAdd_int, fAdd_lst, fAdd_tup, fSub_int, fMul_int, fDiv_int, fMod_int, fPow_int, fLt_int, fLe_int, fGt_int, fGe_int, fNeg_int, fIx_lst, fIx_tup, fLen_lst, fLen_tup, fAbs_int, fInt1_int, fInt1_bl, fGcd_int, fTuple_lst, fTuple_tup, fList_lst, fList_tup, fTru_bl, fTru_lst, fTru_tup, fIsB_bl, atI_0, atI_1, ty_int, ty_bl, ty_lst, ty_tup, ty_str, ty_non, List.map_cons, List.map_nil, List.length_cons, List.length_nil, List.replicate, List.cons_append, List.nil_append, List.getElem?_cons_zero, List.getElem?_cons_succ, List.set_cons_zero, List.set_cons_succ, List.zip_cons_cons, List.zip_nil_right, List.zip_nil_left, Option.some.injEq, exists_eq_left', exists_eq_left, Nat.reduceAdd, Nat.reduceSub, Nat.reduceEqDiff, PyData.bool.injEq, PyData.int.injEq, PyData.list.injEq, PyData.tuple.injEq, if_true, if_false, reduceIte, true_and, and_true, decide_true, decide_false, Bool.false_eq_true, td, Bool.not_true, he, Bool.not_false])
  rw [ok_eq (checks_ok rs g)]
  try exact ⟨rfl, rfl⟩
theorem span_ok {N : Nat} (hN : N ≤ 1000) {rs : List Rat} (hne : rs ≠ []) (hs : ∀ r ∈ rs, Sz N r) (h1N : 0 < N) (t : Bool) (g : G) : ∃ lo top hi : Rat, Span (In rs t) lo top hi ∧ Fspan_of [.tuple (rs.map fr), .bool t] g = some (.tuple [fr lo, fr hi], g) := by
  obtain ⟨r0, rt, rfl⟩ : ∃ r0 rt, rs = r0 :: rt := by
    cases rs with
    | nil => exact absurd rfl hne
    | cons r rs => exact ⟨r, rs, rfl⟩
  have z2 : 2 ≤ sizeLine := sz_ok (by decide)
  have s0 : Sz N (0 : Rat) := ⟨Nat.pow_pos (n := N) (by decide), Nat.one_lt_two_pow (n := N) (by omega)⟩
  obtain ⟨i, hi, hin⟩ : ∃ i : Rat, (if t = true then (0 : Rat) else r0) = i ∧ In (r0 :: rt) t i := by
    cases t with
    | true => exact ⟨0, rfl, .inr ⟨rfl, rfl⟩⟩
    | false => exact ⟨r0, rfl, .inl (List.mem_cons_self ..)⟩
  have si : Sz N i := by
    rcases hin with h | ⟨_, h⟩
    · exact hs i h
    · rw [h]; exact s0
  obtain ⟨f1, f2, f3, f4, f5⟩ := fM_ok (r0 :: rt) (i, i)
  generalize hq : (r0 :: rt).foldl fM (i, i) = q at *
  obtain ⟨a, c⟩ := q
  simp only at f1 f2 f3 f4 f5
  have sa : Sz N a := by
    rcases f1 with h | h
    · rw [h]; exact si
    · exact hs a h
  have sc : Sz N c := by
    rcases f2 with h | h
    · rw [h]; exact si
    · exact hs c h
  have inS : ∀ r, In (r0 :: rt) t r → r = i ∨ r ∈ r0 :: rt := fun r hr => by
    rcases hr with h | ⟨h1, h2⟩
    · exact .inr h
    · rw [h1, if_pos rfl] at hi
      exact .inl (h2.trans hi)
  have toS : ∀ r, (r = i ∨ r ∈ r0 :: rt) → In (r0 :: rt) t r := fun r hr => by
    rcases hr with h | h
    · rw [h]; exact hin
    · exact .inl h
  refine ⟨a, c, if a = c then a + 1 else c, ⟨toS a f1, fun r hr => ?_, toS c f2, fun r hr => ?_, rfl⟩, Ok.eq ?_⟩
  · rcases inS r hr with h | h
    · rw [h]; exact f3
    · exact (f5 r h).1
  · rcases inS r hr with h | h
    · rw [h]; exact f4
    · exact (f5 r h).2
  unfold Fspan_of mspan_of
  rw [ok_runD]
  refine oks_seqI (P := fun E' g' => g' = g ∧ E' = [.val (.tuple ((r0 :: rt).map fr)), .val (.bool t), .no, .no, .no]) ?_ ?_
  · simp only [oks_sDrop, ok_eCall, ok_lCons, ok_lNil, eV, startE]
    (try simp only [fEq_int, fNe_int, ok_eK, ok_lNil, ok_lCons, ok_e2, ok_e1, ok_eF, ok_eTup, ok_nLst, ok_eN, ok_mB, ok_mTru, ok_mNot, ok_mAnd, ok_mOr, ok_eAnd, ok_eOr, ok_eNot, ok_eIf, ok_eIsi, ok_eIsi2, ok_eTyC, ok_eCall, ok_eCallK, ok_oNo, ok_oAt, ok_eSl, ok_iOf, ok_iOfT, ok_iRg1, oks_sNx, oks_sSeq, oks_sSet, oks_sOwn, oks_sDrop, oks_sRet, oks_sIf, oks_sAsg, oks_sPar, oks_sFor, ok_runD, ok_some, oks_some, startE, eV, setsE, Tg.parts, fAdd_int, fAdd_lst, fAdd_tup, fSub_int, fMul_int, fDiv_int, fMod_int, fPow_int, fLt_int, fLe_int, fGt_int, fGe_int, fNeg_int, fIx_lst, fIx_tup, fLen_lst, fLen_tup, fAbs_int, fInt1_int, fInt1_bl, fGcd_int, fTuple_lst, fTuple_tup, fList_lst, fList_tup, fTru_bl, fTru_lst, fTru_tup, fIsB_bl, atI_0, atI_1, ty_int, ty_bl, ty_lst, ty_tup, ty_str, ty_non, List.map_cons, List.map_nil, List.length_cons, List.length_nil, List.replicate, List.cons_append, List.nil_append, List.getElem?_cons_zero, List.getElem?_cons_succ, List.set_cons_zero, List.set_cons_succ, List.zip_cons_cons, List.zip_nil_right, List.zip_nil_left, Option.some.injEq, exists_eq_left', exists_eq_left, Nat.reduceAdd, Nat.reduceSub, Nat.reduceEqDiff, PyData.bool.injEq, PyData.int.injEq, PyData.list.injEq, PyData.tuple.injEq, if_true, if_false, reduceIte, true_and, and_true, decide_true, decide_false, Bool.false_eq_true])
    have := checkn_ok (r0 :: rt) (by simp) g
    rw [List.map_cons] at this
    rw [ok_eq this]
    try exact ⟨rfl, rfl⟩
  rintro _ g1 ⟨rfl, rfl⟩
  refine oks_seqI (P := fun E' g' => g' = g1 ∧ E' = [.val (.tuple ((r0 :: rt).map fr)), .val (.bool t), .no, .no, .no]) ?_ ?_
  · have bd : decide (("bool" : String) = "bool") = true := by decide
    (try simp only [fEq_int, fNe_int, ok_eK, ok_lNil, ok_lCons, ok_e2, ok_e1, ok_eF, ok_eTup, ok_nLst, ok_eN, ok_mB, ok_mTru, ok_mNot, ok_mAnd, ok_mOr, ok_eAnd, ok_eOr, ok_eNot, ok_eIf, ok_eIsi, ok_eIsi2, ok_eTyC, ok_eCall, ok_eCallK, ok_oNo, ok_oAt, ok_eSl, ok_iOf, ok_iOfT, ok_iRg1, oks_sNx, oks_sSeq, oks_sSet, oks_sOwn, oks_sDrop, oks_sRet, oks_sIf, oks_sAsg, oks_sPar, oks_sFor, ok_runD, ok_some, oks_some, startE, eV, setsE, Tg.parts, fAdd_int, fAdd_lst, fAdd_tup, fSub_int, fMul_int, fDiv_int, fMod_int, fPow_int, fLt_int, fLe_int, fGt_int, fGe_int, fNeg_int, fIx_lst, fIx_tup, fLen_lst, fLen_tup, fAbs_int, fInt1_int, fInt1_bl, fGcd_int, fTuple_lst, fTuple_tup, fList_lst, fList_tup, fTru_bl, fTru_lst, fTru_tup, fIsB_bl, atI_0, atI_1, ty_int, ty_bl, ty_lst, ty_tup, ty_str, ty_non, List.map_cons, List.map_nil, List.length_cons, List.length_nil, List.replicate, List.cons_append, List.nil_append, List.getElem?_cons_zero, List.getElem?_cons_succ, List.set_cons_zero, List.set_cons_succ, List.zip_cons_cons, List.zip_nil_right, List.zip_nil_left, Option.some.injEq, exists_eq_left', exists_eq_left, Nat.reduceAdd, Nat.reduceSub, Nat.reduceEqDiff, PyData.bool.injEq, PyData.int.injEq, PyData.list.injEq, PyData.tuple.injEq, if_true, if_false, reduceIte, true_and, and_true, decide_true, decide_false, Bool.false_eq_true, bd, Bool.not_true])
    try exact ⟨rfl, rfl⟩
  rintro _ g2 ⟨rfl, rfl⟩
  refine oks_seqI (P := fun E' g' => g' = g2 ∧ E' = [.val (.tuple ((r0 :: rt).map fr)), .val (.bool t), .val (fr i), .val (fr i), .no]) ?_ ?_
  · have f01 : PyData.tuple [.int 0, .int 1] = fr 0 := rfl
    have e : eIf (mTru (eV false 1)) (eTup (lCons (eK (.int 0)) (lCons (eK (.int 1)) (lNil)))) (e2 fIx (eV true 0) (eK (.int 0))) [.val (.tuple ((r0 :: rt).map fr)), .val (.bool t), .no, .no, .no] g2 = some (fr i, g2) := by
      refine Ok.eq ?_
      cases t with
      | true =>
        rw [if_pos rfl] at hi
        subst hi
        (try simp only [fEq_int, fNe_int, ok_eK, ok_lNil, ok_lCons, ok_e2, ok_e1, ok_eF, ok_eTup, ok_nLst, ok_eN, ok_mB, ok_mTru, ok_mNot, ok_mAnd, ok_mOr, ok_eAnd, ok_eOr, ok_eNot, ok_eIf, ok_eIsi, ok_eIsi2, ok_eTyC, ok_eCall, ok_eCallK, ok_oNo, ok_oAt, ok_eSl, ok_iOf, ok_iOfT, ok_iRg1, oks_sNx, oks_sSeq, oks_sSet, oks_sOwn, oks_sDrop, oks_sRet, oks_sIf, oks_sAsg, oks_sPar, oks_sFor, ok_runD, ok_some, oks_some, startE, eV, setsE, Tg.parts, fAdd_int, fAdd_lst, fAdd_tup, fSub_int, fMul_int, fDiv_int, fMod_int, fPow_int, fLt_int, fLe_int, fGt_int, fGe_int, fNeg_int, fIx_lst, fIx_tup, fLen_lst, fLen_tup, fAbs_int, fInt1_int, fInt1_bl, fGcd_int, fTuple_lst, fTuple_tup, fList_lst, fList_tup, fTru_bl, fTru_lst, fTru_tup, fIsB_bl, atI_0, atI_1, ty_int, ty_bl, ty_lst, ty_tup, ty_str, ty_non, List.map_cons, List.map_nil, List.length_cons, List.length_nil, List.replicate, List.cons_append, List.nil_append, List.getElem?_cons_zero, List.getElem?_cons_succ, List.set_cons_zero, List.set_cons_succ, List.zip_cons_cons, List.zip_nil_right, List.zip_nil_left, Option.some.injEq, exists_eq_left', exists_eq_left, Nat.reduceAdd, Nat.reduceSub, Nat.reduceEqDiff, PyData.bool.injEq, PyData.int.injEq, PyData.list.injEq, PyData.tuple.injEq, if_true, if_false, reduceIte, true_and, and_true, decide_true, decide_false, Bool.false_eq_true, z2, f01])
        try exact ⟨rfl, rfl⟩
      | false =>
        rw [if_neg (by decide)] at hi
        subst hi
        (try simp only [fEq_int, fNe_int, ok_eK, ok_lNil, ok_lCons, ok_e2, ok_e1, ok_eF, ok_eTup, ok_nLst, ok_eN, ok_mB, ok_mTru, ok_mNot, ok_mAnd, ok_mOr, ok_eAnd, ok_eOr, ok_eNot, ok_eIf, ok_eIsi, ok_eIsi2, ok_eTyC, ok_eCall, ok_eCallK, ok_oNo, ok_oAt, ok_eSl, ok_iOf, ok_iOfT, ok_iRg1, oks_sNx, oks_sSeq, oks_sSet, oks_sOwn, oks_sDrop, oks_sRet, oks_sIf, oks_sAsg, oks_sPar, oks_sFor, ok_runD, ok_some, oks_some, startE, eV, setsE, Tg.parts, fAdd_int, fAdd_lst, fAdd_tup, fSub_int, fMul_int, fDiv_int, fMod_int, fPow_int, fLt_int, fLe_int, fGt_int, fGe_int, fNeg_int, fIx_lst, fIx_tup, fLen_lst, fLen_tup, fAbs_int, fInt1_int, fInt1_bl, fGcd_int, fTuple_lst, fTuple_tup, fList_lst, fList_tup, fTru_bl, fTru_lst, fTru_tup, fIsB_bl, atI_0, atI_1, ty_int, ty_bl, ty_lst, ty_tup, ty_str, ty_non, List.map_cons, List.map_nil, List.length_cons, List.length_nil, List.replicate, List.cons_append, List.nil_append, List.getElem?_cons_zero, List.getElem?_cons_succ, List.set_cons_zero, List.set_cons_succ, List.zip_cons_cons, List.zip_nil_right, List.zip_nil_left, Option.some.injEq, exists_eq_left', exists_eq_left, Nat.reduceAdd, Nat.reduceSub, Nat.reduceEqDiff, PyData.bool.injEq, PyData.int.injEq, PyData.list.injEq, PyData.tuple.injEq, if_true, if_false, reduceIte, true_and, and_true, decide_true, decide_false, Bool.false_eq_true])
        try exact ⟨rfl, rfl⟩
    refine ⟨_, _, _, ?_, rfl, rfl, rfl⟩
    unfold sSet2
    rw [e]
    rfl
  rintro _ g3 ⟨rfl, rfl⟩
  refine oks_seqI (P := fun E' g' => g' = g3 ∧ ∃ y, E' = [.val (.tuple ((r0 :: rt).map fr)), .val (.bool t), .val (fr a), .val (fr c), y]) ?_ ?_
  · have e2 : iOfT (eV true 0) [.val (.tuple ((r0 :: rt).map fr)), .val (.bool t), .val (fr i), .val (fr i), .no] g3 = some ((r0 :: rt).map fr, g3) := ok_iOfT' rfl
    rw [oks_sFor, ok_eq e2]
    have fold := forL_fold (I := fun (p : Rat × Rat) E' g' => g' = g3 ∧ Sz N p.1 ∧ Sz N p.2 ∧ ∃ y, E' = [.val (.tuple ((r0 :: rt).map fr)), .val (.bool t), .val (fr p.1), .val (fr p.2), y]) (f := fM) (φ := fr) (tg := .one 4)
      (b := (sSeq (sSet 2 (eIf (mTru (eCall Fbelow (lCons (eV false 4) (lCons (eV false 2) (lNil))))) (eV true 4) (eV true 2))) (sSet 3 (eIf (mTru (eCall Fbelow (lCons (eV false 3) (lCons (eV false 4) (lNil))))) (eV true 4) (eV true 3)))))
      (r0 :: rt) (i, i) [.val (.tuple ((r0 :: rt).map fr)), .val (.bool t), .val (fr i), .val (fr i), .no] g3 (fun r hr p E' g' ⟨hg, sp1, sp2, y, hE⟩ => by
        subst hg; subst hE
        have sr := hs r hr
        refine ⟨[(4, fr r)], rfl, ?_⟩
        obtain ⟨p1, p2⟩ := p
        simp only at sp1 sp2
        have g1 : ¬ N > 4000 := by omega
        refine oks_seqI (P := fun E' g'' => g'' = g' ∧ E' = [.val (.tuple ((r0 :: rt).map fr)), .val (.bool t), .val (fr (fM (p1, p2) r).1), .val (fr p2), .val (fr r)]) ?_ ?_
        · simp only [setsE, List.set_cons_succ, List.set_cons_zero]
          (try simp only [fEq_int, fNe_int, ok_eK, ok_lNil, ok_lCons, ok_e2, ok_e1, ok_eF, ok_eTup, ok_nLst, ok_eN, ok_mB, ok_mTru, ok_mNot, ok_mAnd, ok_mOr, ok_eAnd, ok_eOr, ok_eNot, ok_eIf, ok_eIsi, ok_eIsi2, ok_eTyC, ok_eCall, ok_eCallK, ok_oNo, ok_oAt, ok_eSl, ok_iOf, ok_iOfT, ok_iRg1, oks_sNx, oks_sSeq, oks_sSet, oks_sOwn, oks_sDrop, oks_sRet, oks_sIf, oks_sAsg, oks_sPar, oks_sFor, ok_runD, ok_some, oks_some, startE, eV, setsE, Tg.parts, fAdd_int, fAdd_lst, fAdd_tup, fSub_int, fMul_int, fDiv_int, fMod_int, fPow_int, fLt_int, fLe_int, fGt_int, fGe_int, fNeg_int, fIx_lst, fIx_tup, fLen_lst, fLen_tup, fAbs_int, fInt1_int, fInt1_bl, fGcd_int, fTuple_lst, fTuple_tup, fList_lst, fList_tup, fTru_bl, fTru_lst, fTru_tup, fIsB_bl, atI_0, atI_1, ty_int, ty_bl, ty_lst, ty_tup, ty_str, ty_non, List.map_cons, List.map_nil, List.length_cons, List.length_nil, List.replicate, List.cons_append, List.nil_append, List.getElem?_cons_zero, List.getElem?_cons_succ, List.set_cons_zero, List.set_cons_succ, List.zip_cons_cons, List.zip_nil_right, List.zip_nil_left, Option.some.injEq, exists_eq_left', exists_eq_left, Nat.reduceAdd, Nat.reduceSub, Nat.reduceEqDiff, PyData.bool.injEq, PyData.int.injEq, PyData.list.injEq, PyData.tuple.injEq, if_true, if_false, reduceIte, true_and, and_true, decide_true, decide_false, Bool.false_eq_true])
          rw [ok_eq (below_ok sr sp1 (by omega) (by omega) g')]
          unfold fM
          by_cases hl : r < p1
          · simp only [hl, decide_true, if_true]
            (try simp only [fEq_int, fNe_int, ok_eK, ok_lNil, ok_lCons, ok_e2, ok_e1, ok_eF, ok_eTup, ok_nLst, ok_eN, ok_mB, ok_mTru, ok_mNot, ok_mAnd, ok_mOr, ok_eAnd, ok_eOr, ok_eNot, ok_eIf, ok_eIsi, ok_eIsi2, ok_eTyC, ok_eCall, ok_eCallK, ok_oNo, ok_oAt, ok_eSl, ok_iOf, ok_iOfT, ok_iRg1, oks_sNx, oks_sSeq, oks_sSet, oks_sOwn, oks_sDrop, oks_sRet, oks_sIf, oks_sAsg, oks_sPar, oks_sFor, ok_runD, ok_some, oks_some, startE, eV, setsE, Tg.parts, fAdd_int, fAdd_lst, fAdd_tup, fSub_int, fMul_int, fDiv_int, fMod_int, fPow_int, fLt_int, fLe_int, fGt_int, fGe_int, fNeg_int, fIx_lst, fIx_tup, fLen_lst, fLen_tup, fAbs_int, fInt1_int, fInt1_bl, fGcd_int, fTuple_lst, fTuple_tup, fList_lst, fList_tup, fTru_bl, fTru_lst, fTru_tup, fIsB_bl, atI_0, atI_1, ty_int, ty_bl, ty_lst, ty_tup, ty_str, ty_non, List.map_cons, List.map_nil, List.length_cons, List.length_nil, List.replicate, List.cons_append, List.nil_append, List.getElem?_cons_zero, List.getElem?_cons_succ, List.set_cons_zero, List.set_cons_succ, List.zip_cons_cons, List.zip_nil_right, List.zip_nil_left, Option.some.injEq, exists_eq_left', exists_eq_left, Nat.reduceAdd, Nat.reduceSub, Nat.reduceEqDiff, PyData.bool.injEq, PyData.int.injEq, PyData.list.injEq, PyData.tuple.injEq, if_true, if_false, reduceIte, true_and, and_true, decide_true, decide_false, Bool.false_eq_true])
            try exact ⟨rfl, rfl⟩
          · simp only [hl, decide_false, if_false, Bool.false_eq_true]
            (try simp only [fEq_int, fNe_int, ok_eK, ok_lNil, ok_lCons, ok_e2, ok_e1, ok_eF, ok_eTup, ok_nLst, ok_eN, ok_mB, ok_mTru, ok_mNot, ok_mAnd, ok_mOr, ok_eAnd, ok_eOr, ok_eNot, ok_eIf, ok_eIsi, ok_eIsi2, ok_eTyC, ok_eCall, ok_eCallK, ok_oNo, ok_oAt, ok_eSl, ok_iOf, ok_iOfT, ok_iRg1, oks_sNx, oks_sSeq, oks_sSet, oks_sOwn, oks_sDrop, oks_sRet, oks_sIf, oks_sAsg, oks_sPar, oks_sFor, ok_runD, ok_some, oks_some, startE, eV, setsE, Tg.parts, fAdd_int, fAdd_lst, fAdd_tup, fSub_int, fMul_int, fDiv_int, fMod_int, fPow_int, fLt_int, fLe_int, fGt_int, fGe_int, fNeg_int, fIx_lst, fIx_tup, fLen_lst, fLen_tup, fAbs_int, fInt1_int, fInt1_bl, fGcd_int, fTuple_lst, fTuple_tup, fList_lst, fList_tup, fTru_bl, fTru_lst, fTru_tup, fIsB_bl, atI_0, atI_1, ty_int, ty_bl, ty_lst, ty_tup, ty_str, ty_non, List.map_cons, List.map_nil, List.length_cons, List.length_nil, List.replicate, List.cons_append, List.nil_append, List.getElem?_cons_zero, List.getElem?_cons_succ, List.set_cons_zero, List.set_cons_succ, List.zip_cons_cons, List.zip_nil_right, List.zip_nil_left, Option.some.injEq, exists_eq_left', exists_eq_left, Nat.reduceAdd, Nat.reduceSub, Nat.reduceEqDiff, PyData.bool.injEq, PyData.int.injEq, PyData.list.injEq, PyData.tuple.injEq, if_true, if_false, reduceIte, true_and, and_true, decide_true, decide_false, Bool.false_eq_true])
            try exact ⟨rfl, rfl⟩
        rintro _ g4 ⟨rfl, rfl⟩
        have s1' : Sz N (fM (p1, p2) r).1 := by
          unfold fM
          simp only
          split
          · exact sr
          · exact sp1
        have s2' : Sz N (fM (p1, p2) r).2 := by
          unfold fM
          simp only
          split
          · exact sr
          · exact sp2
        have e : eIf (mTru (eCall Fbelow (lCons (eV false 3) (lCons (eV false 4) (lNil))))) (eV true 4) (eV true 3) [.val (.tuple ((r0 :: rt).map fr)), .val (.bool t), .val (fr (fM (p1, p2) r).1), .val (fr p2), .val (fr r)] g4 = some (fr (fM (p1, p2) r).2, g4) := by
          refine Ok.eq ?_
          (try simp only [fEq_int, fNe_int, ok_eK, ok_lNil, ok_lCons, ok_e2, ok_e1, ok_eF, ok_eTup, ok_nLst, ok_eN, ok_mB, ok_mTru, ok_mNot, ok_mAnd, ok_mOr, ok_eAnd, ok_eOr, ok_eNot, ok_eIf, ok_eIsi, ok_eIsi2, ok_eTyC, ok_eCall, ok_eCallK, ok_oNo, ok_oAt, ok_eSl, ok_iOf, ok_iOfT, ok_iRg1, oks_sNx, oks_sSeq, oks_sSet, oks_sOwn, oks_sDrop, oks_sRet, oks_sIf, oks_sAsg, oks_sPar, oks_sFor, ok_runD, ok_some, oks_some, startE, eV, setsE, Tg.parts, fAdd_int, fAdd_lst, fAdd_tup, fSub_int, fMul_int, fDiv_int, fMod_int, fPow_int, fLt_int, fLe_int, fGt_int, fGe_int, fNeg_int, fIx_lst, fIx_tup, fLen_lst, fLen_tup, fAbs_int, fInt1_int, fInt1_bl, fGcd_int, fTuple_lst, fTuple_tup, fList_lst, fList_tup, fTru_bl, fTru_lst, fTru_tup, fIsB_bl, atI_0, atI_1, ty_int, ty_bl, ty_lst, ty_tup, ty_str, ty_non, List.map_cons, List.map_nil, List.length_cons, List.length_nil, List.replicate, List.cons_append, List.nil_append, List.getElem?_cons_zero, List.getElem?_cons_succ, List.set_cons_zero, List.set_cons_succ, List.zip_cons_cons, List.zip_nil_right, List.zip_nil_left, Option.some.injEq, exists_eq_left', exists_eq_left, Nat.reduceAdd, Nat.reduceSub, Nat.reduceEqDiff, PyData.bool.injEq, PyData.int.injEq, PyData.list.injEq, PyData.tuple.injEq, if_true, if_false, reduceIte, true_and, and_true, decide_true, decide_false, Bool.false_eq_true])
          rw [ok_eq (below_ok sp2 sr (by omega) (by omega) g4)]
          unfold fM
          by_cases hl : p2 < r
          · simp only [hl, decide_true, if_true]
            (try simp only [fEq_int, fNe_int, ok_eK, ok_lNil, ok_lCons, ok_e2, ok_e1, ok_eF, ok_eTup, ok_nLst, ok_eN, ok_mB, ok_mTru, ok_mNot, ok_mAnd, ok_mOr, ok_eAnd, ok_eOr, ok_eNot, ok_eIf, ok_eIsi, ok_eIsi2, ok_eTyC, ok_eCall, ok_eCallK, ok_oNo, ok_oAt, ok_eSl, ok_iOf, ok_iOfT, ok_iRg1, oks_sNx, oks_sSeq, oks_sSet, oks_sOwn, oks_sDrop, oks_sRet, oks_sIf, oks_sAsg, oks_sPar, oks_sFor, ok_runD, ok_some, oks_some, startE, eV, setsE, Tg.parts, fAdd_int, fAdd_lst, fAdd_tup, fSub_int, fMul_int, fDiv_int, fMod_int, fPow_int, fLt_int, fLe_int, fGt_int, fGe_int, fNeg_int, fIx_lst, fIx_tup, fLen_lst, fLen_tup, fAbs_int, fInt1_int, fInt1_bl, fGcd_int, fTuple_lst, fTuple_tup, fList_lst, fList_tup, fTru_bl, fTru_lst, fTru_tup, fIsB_bl, atI_0, atI_1, ty_int, ty_bl, ty_lst, ty_tup, ty_str, ty_non, List.map_cons, List.map_nil, List.length_cons, List.length_nil, List.replicate, List.cons_append, List.nil_append, List.getElem?_cons_zero, List.getElem?_cons_succ, List.set_cons_zero, List.set_cons_succ, List.zip_cons_cons, List.zip_nil_right, List.zip_nil_left, Option.some.injEq, exists_eq_left', exists_eq_left, Nat.reduceAdd, Nat.reduceSub, Nat.reduceEqDiff, PyData.bool.injEq, PyData.int.injEq, PyData.list.injEq, PyData.tuple.injEq, if_true, if_false, reduceIte, true_and, and_true, decide_true, decide_false, Bool.false_eq_true])
            try exact ⟨rfl, rfl⟩
          · simp only [hl, decide_false, if_false, Bool.false_eq_true]
            (try simp only [fEq_int, fNe_int, ok_eK, ok_lNil, ok_lCons, ok_e2, ok_e1, ok_eF, ok_eTup, ok_nLst, ok_eN, ok_mB, ok_mTru, ok_mNot, ok_mAnd, ok_mOr, ok_eAnd, ok_eOr, ok_eNot, ok_eIf, ok_eIsi, ok_eIsi2, ok_eTyC, ok_eCall, ok_eCallK, ok_oNo, ok_oAt, ok_eSl, ok_iOf, ok_iOfT, ok_iRg1, oks_sNx, oks_sSeq, oks_sSet, oks_sOwn, oks_sDrop, oks_sRet, oks_sIf, oks_sAsg, oks_sPar, oks_sFor, ok_runD, ok_some, oks_some, startE, eV, setsE, Tg.parts, fAdd_int, fAdd_lst, fAdd_tup, fSub_int, fMul_int, fDiv_int, fMod_int, fPow_int, fLt_int, fLe_int, fGt_int, fGe_int, fNeg_int, fIx_lst, fIx_tup, fLen_lst, fLen_tup, fAbs_int, fInt1_int, fInt1_bl, fGcd_int, fTuple_lst, fTuple_tup, fList_lst, fList_tup, fTru_bl, fTru_lst, fTru_tup, fIsB_bl, atI_0, atI_1, ty_int, ty_bl, ty_lst, ty_tup, ty_str, ty_non, List.map_cons, List.map_nil, List.length_cons, List.length_nil, List.replicate, List.cons_append, List.nil_append, List.getElem?_cons_zero, List.getElem?_cons_succ, List.set_cons_zero, List.set_cons_succ, List.zip_cons_cons, List.zip_nil_right, List.zip_nil_left, Option.some.injEq, exists_eq_left', exists_eq_left, Nat.reduceAdd, Nat.reduceSub, Nat.reduceEqDiff, PyData.bool.injEq, PyData.int.injEq, PyData.list.injEq, PyData.tuple.injEq, if_true, if_false, reduceIte, true_and, and_true, decide_true, decide_false, Bool.false_eq_true])
            try exact ⟨rfl, rfl⟩
        rw [oks_sSet, ok_eq e]
        exact ⟨rfl, rfl, s1', s2', .val (fr r), rfl⟩) ⟨rfl, si, si, .no, rfl⟩
    rw [hq] at fold
    exact fold.mono fun r E' g' ⟨h1, h2, _, _, h3⟩ => ⟨h1, h2, h3⟩
  rintro _ g4 ⟨rfl, y, rfl⟩
  have o11 : PyData.tuple [.int 1, .int 1] = fr 1 := rfl
  by_cases hac : a = c
  · rw [if_pos hac]
    (try simp only [fEq_int, fNe_int, ok_eK, ok_lNil, ok_lCons, ok_e2, ok_e1, ok_eF, ok_eTup, ok_nLst, ok_eN, ok_mB, ok_mTru, ok_mNot, ok_mAnd, ok_mOr, ok_eAnd, ok_eOr, ok_eNot, ok_eIf, ok_eIsi, ok_eIsi2, ok_eTyC, ok_eCall, ok_eCallK, ok_oNo, ok_oAt, ok_eSl, ok_iOf, ok_iOfT, ok_iRg1, oks_sNx, oks_sSeq, oks_sSet, oks_sOwn, oks_sDrop, oks_sRet, oks_sIf, oks_sAsg, oks_sPar, oks_sFor, ok_runD, ok_some, oks_some, startE, eV, setsE, Tg.parts, fAdd_int, fAdd_lst, fAdd_tup, fSub_int, fMul_int, fDiv_int, fMod_int, fPow_int, fLt_int, fLe_int, fGt_int, fGe_int, fNeg_int, fIx_lst, fIx_tup, fLen_lst, fLen_tup, fAbs_int, fInt1_int, fInt1_bl, fGcd_int, fTuple_lst, fTuple_tup, fList_lst, fList_tup, fTru_bl, fTru_lst, fTru_tup, fIsB_bl, atI_0, atI_1, ty_int, ty_bl, ty_lst, ty_tup, ty_str, ty_non, List.map_cons, List.map_nil, List.length_cons, List.length_nil, List.replicate, List.cons_append, List.nil_append, List.getElem?_cons_zero, List.getElem?_cons_succ, List.set_cons_zero, List.set_cons_succ, List.zip_cons_cons, List.zip_nil_right, List.zip_nil_left, Option.some.injEq, exists_eq_left', exists_eq_left, Nat.reduceAdd, Nat.reduceSub, Nat.reduceEqDiff, PyData.bool.injEq, PyData.int.injEq, PyData.list.injEq, PyData.tuple.injEq, if_true, if_false, reduceIte, true_and, and_true, decide_true, decide_false, Bool.false_eq_true, fEq_fr, hac, z2, o11])
    rw [ok_eq (plus_ok sc (Sz.one 1 (by decide)) (by omega) (by decide) g4)]
    (try simp only [fEq_int, fNe_int, ok_eK, ok_lNil, ok_lCons, ok_e2, ok_e1, ok_eF, ok_eTup, ok_nLst, ok_eN, ok_mB, ok_mTru, ok_mNot, ok_mAnd, ok_mOr, ok_eAnd, ok_eOr, ok_eNot, ok_eIf, ok_eIsi, ok_eIsi2, ok_eTyC, ok_eCall, ok_eCallK, ok_oNo, ok_oAt, ok_eSl, ok_iOf, ok_iOfT, ok_iRg1, oks_sNx, oks_sSeq, oks_sSet, oks_sOwn, oks_sDrop, oks_sRet, oks_sIf, oks_sAsg, oks_sPar, oks_sFor, ok_runD, ok_some, oks_some, startE, eV, setsE, Tg.parts, fAdd_int, fAdd_lst, fAdd_tup, fSub_int, fMul_int, fDiv_int, fMod_int, fPow_int, fLt_int, fLe_int, fGt_int, fGe_int, fNeg_int, fIx_lst, fIx_tup, fLen_lst, fLen_tup, fAbs_int, fInt1_int, fInt1_bl, fGcd_int, fTuple_lst, fTuple_tup, fList_lst, fList_tup, fTru_bl, fTru_lst, fTru_tup, fIsB_bl, atI_0, atI_1, ty_int, ty_bl, ty_lst, ty_tup, ty_str, ty_non, List.map_cons, List.map_nil, List.length_cons, List.length_nil, List.replicate, List.cons_append, List.nil_append, List.getElem?_cons_zero, List.getElem?_cons_succ, List.set_cons_zero, List.set_cons_succ, List.zip_cons_cons, List.zip_nil_right, List.zip_nil_left, Option.some.injEq, exists_eq_left', exists_eq_left, Nat.reduceAdd, Nat.reduceSub, Nat.reduceEqDiff, PyData.bool.injEq, PyData.int.injEq, PyData.list.injEq, PyData.tuple.injEq, if_true, if_false, reduceIte, true_and, and_true, decide_true, decide_false, Bool.false_eq_true, z2])
    try exact ⟨rfl, rfl⟩
  · rw [if_neg hac]
    (try simp only [fEq_int, fNe_int, ok_eK, ok_lNil, ok_lCons, ok_e2, ok_e1, ok_eF, ok_eTup, ok_nLst, ok_eN, ok_mB, ok_mTru, ok_mNot, ok_mAnd, ok_mOr, ok_eAnd, ok_eOr, ok_eNot, ok_eIf, ok_eIsi, ok_eIsi2, ok_eTyC, ok_eCall, ok_eCallK, ok_oNo, ok_oAt, ok_eSl, ok_iOf, ok_iOfT, ok_iRg1, oks_sNx, oks_sSeq, oks_sSet, oks_sOwn, oks_sDrop, oks_sRet, oks_sIf, oks_sAsg, oks_sPar, oks_sFor, ok_runD, ok_some, oks_some, startE, eV, setsE, Tg.parts, fAdd_int, fAdd_lst, fAdd_tup, fSub_int, fMul_int, fDiv_int, fMod_int, fPow_int, fLt_int, fLe_int, fGt_int, fGe_int, fNeg_int, fIx_lst, fIx_tup, fLen_lst, fLen_tup, fAbs_int, fInt1_int, fInt1_bl, fGcd_int, fTuple_lst, fTuple_tup, fList_lst, fList_tup, fTru_bl, fTru_lst, fTru_tup, fIsB_bl, atI_0, atI_1, ty_int, ty_bl, ty_lst, ty_tup, ty_str, ty_non, List.map_cons, List.map_nil, List.length_cons, List.length_nil, List.replicate, List.cons_append, List.nil_append, List.getElem?_cons_zero, List.getElem?_cons_succ, List.set_cons_zero, List.set_cons_succ, List.zip_cons_cons, List.zip_nil_right, List.zip_nil_left, Option.some.injEq, exists_eq_left', exists_eq_left, Nat.reduceAdd, Nat.reduceSub, Nat.reduceEqDiff, PyData.bool.injEq, PyData.int.injEq, PyData.list.injEq, PyData.tuple.injEq, if_true, if_false, reduceIte, true_and, and_true, decide_true, decide_false, Bool.false_eq_true, fEq_fr, hac, z2])
    try exact ⟨rfl, rfl⟩
end K06

set_option Elab.async false
set_option linter.all false
set_option maxRecDepth 100000
set_option maxHeartbeats 4000000
namespace K06
open PySem PySem.Spec PyProof.Rows L2 DL
open M5 (pt u fl fst okI mid In Span)
theorem span_sz {N : Nat} (hN : 0 < N) {rs : List Rat} (hs : ∀ r ∈ rs, Sz N r) {t : Bool} {lo top hi : Rat} (a : Span (In rs t) lo top hi) : Sz N lo ∧ Sz (N + 2) hi := by
  have s0 : Sz N (0 : Rat) := ⟨Nat.pow_pos (n := N) (by decide), Nat.one_lt_two_pow (n := N) (by omega)⟩
  have go : ∀ r, In rs t r → Sz N r := fun r hr => by
    rcases hr with h | ⟨_, h⟩
    · exact hs r h
    · rw [h]; exact s0
  refine ⟨go _ a.lo_in, ?_⟩
  rw [a.hi_eq]
  split
  · exact ((go _ a.lo_in).add (Sz.one 1 (by decide))).mono (by omega)
  · exact (go _ a.top_in).mono (by omega)
theorem pair_sh (a b : Rat) : SeqAt.shaped (.tuple [fr a, fr b]) = true := sh_frs _ (.inr rfl) [a, b]
abbrev SE (rs : List Rat) (t : Bool) (a3 a4 : Sl) (lo hi : Rat) : En := [SP, .val (.tuple (rs.map fr)), .val (.bool t), a3, a4, .val (fr lo), .val (fr hi), .no]
theorem spans_ok (g : G) : Ok (F_law_spans_right [.dict []] g) fun d _ => d = .bool true := by
  have z1 : 1 ≤ sizeLine := sz_ok (by decide)
  have z2 : 2 ≤ sizeLine := sz_ok (by decide)
  have f01 : PyData.tuple [.int 0, .int 1] = fr 0 := rfl
  have o11 : PyData.tuple [.int 1, .int 1] = fr 1 := rfl
  unfold F_law_spans_right m_law_spans_right
  rw [ok_runD]
  refine oks_seqI (P := fun E' _ => ∃ rs : List Rat, rs ≠ [] ∧ rs.length ≤ 12 ∧ (∀ r ∈ rs, Sz 140 r) ∧ E' = [SP, .val (.tuple (rs.map fr)), .no, .no, .no, .no, .no, .no]) ?_ ?_
  · rw [oks_sSet, ok_eF, ok_lCons, ok_eN, ok_nLc (by rfl), ok_iRg1]
    (try simp only [fEq_int, fNe_int, ok_eK, ok_lNil, ok_lCons, ok_e2, ok_e1, ok_eF, ok_eTup, ok_nLst, ok_eN, ok_mB, ok_mTru, ok_mNot, ok_mAnd, ok_mOr, ok_eAnd, ok_eOr, ok_eNot, ok_eIf, ok_eIsi, ok_eIsi2, ok_eTyC, ok_eCall, ok_eCallK, ok_oNo, ok_oAt, ok_eSl, ok_iOf, ok_iOfT, ok_iRg1, oks_sNx, oks_sSeq, oks_sSet, oks_sOwn, oks_sDrop, oks_sRet, oks_sIf, oks_sAsg, oks_sPar, oks_sFor, ok_runD, ok_some, oks_some, startE, eV, setsE, Tg.parts, fAdd_int, fAdd_lst, fAdd_tup, fSub_int, fMul_int, fDiv_int, fMod_int, fPow_int, fLt_int, fLe_int, fGt_int, fGe_int, fNeg_int, fIx_lst, fIx_tup, fLen_lst, fLen_tup, fAbs_int, fInt1_int, fInt1_bl, fGcd_int, fTuple_lst, fTuple_tup, fList_lst, fList_tup, fTru_bl, fTru_lst, fTru_tup, fIsB_bl, atI_0, atI_1, ty_int, ty_bl, ty_lst, ty_tup, ty_str, ty_non, List.map_cons, List.map_nil, List.length_cons, List.length_nil, List.replicate, List.cons_append, List.nil_append, List.getElem?_cons_zero, List.getElem?_cons_succ, List.set_cons_zero, List.set_cons_succ, List.zip_cons_cons, List.zip_nil_right, List.zip_nil_left, Option.some.injEq, exists_eq_left', exists_eq_left, Nat.reduceAdd, Nat.reduceSub, Nat.reduceEqDiff, PyData.bool.injEq, PyData.int.injEq, PyData.list.injEq, PyData.tuple.injEq, if_true, if_false, reduceIte, true_and, and_true, decide_true, decide_false, Bool.false_eq_true])
    refine drop_then (by decide) (by exact small9 (by decide)) fun v g1 v0 v1 => ?_
    have p62 : (1000 : Int) < 2 ^ 62 := by decide
    (try simp only [fEq_int, fNe_int, ok_eK, ok_lNil, ok_lCons, ok_e2, ok_e1, ok_eF, ok_eTup, ok_nLst, ok_eN, ok_mB, ok_mTru, ok_mNot, ok_mAnd, ok_mOr, ok_eAnd, ok_eOr, ok_eNot, ok_eIf, ok_eIsi, ok_eIsi2, ok_eTyC, ok_eCall, ok_eCallK, ok_oNo, ok_oAt, ok_eSl, ok_iOf, ok_iOfT, ok_iRg1, oks_sNx, oks_sSeq, oks_sSet, oks_sOwn, oks_sDrop, oks_sRet, oks_sIf, oks_sAsg, oks_sPar, oks_sFor, ok_runD, ok_some, oks_some, startE, eV, setsE, Tg.parts, fAdd_int, fAdd_lst, fAdd_tup, fSub_int, fMul_int, fDiv_int, fMod_int, fPow_int, fLt_int, fLe_int, fGt_int, fGe_int, fNeg_int, fIx_lst, fIx_tup, fLen_lst, fLen_tup, fAbs_int, fInt1_int, fInt1_bl, fGcd_int, fTuple_lst, fTuple_tup, fList_lst, fList_tup, fTru_bl, fTru_lst, fTru_tup, fIsB_bl, atI_0, atI_1, ty_int, ty_bl, ty_lst, ty_tup, ty_str, ty_non, List.map_cons, List.map_nil, List.length_cons, List.length_nil, List.replicate, List.cons_append, List.nil_append, List.getElem?_cons_zero, List.getElem?_cons_succ, List.set_cons_zero, List.set_cons_succ, List.zip_cons_cons, List.zip_nil_right, List.zip_nil_left, Option.some.injEq, exists_eq_left', exists_eq_left, Nat.reduceAdd, Nat.reduceSub, Nat.reduceEqDiff, PyData.bool.injEq, PyData.int.injEq, PyData.list.injEq, PyData.tuple.injEq, if_true, if_false, reduceIte, true_and, and_true, decide_true, decide_false, Bool.false_eq_true])
    refine ⟨1 + v, rfl, by omega, by rw [len_ints]; exact sz_ok (by omega), ?_⟩
    refine (lcL_ok (P := fun x => ∃ r, x = fr r ∧ Sz 140 r) _ g1 fun d hd g2 => ⟨[(7, d)], rfl, ?_⟩).mono fun xs g3 ⟨hl, hx⟩ => ?_
    · show Ok (eCall F_law_end (lCons (eV true 0) (lNil)) [SP, .no, .no, .no, .no, .no, .no, .val d] g2) _
      (try simp only [fEq_int, fNe_int, ok_eK, ok_lNil, ok_lCons, ok_e2, ok_e1, ok_eF, ok_eTup, ok_nLst, ok_eN, ok_mB, ok_mTru, ok_mNot, ok_mAnd, ok_mOr, ok_eAnd, ok_eOr, ok_eNot, ok_eIf, ok_eIsi, ok_eIsi2, ok_eTyC, ok_eCall, ok_eCallK, ok_oNo, ok_oAt, ok_eSl, ok_iOf, ok_iOfT, ok_iRg1, oks_sNx, oks_sSeq, oks_sSet, oks_sOwn, oks_sDrop, oks_sRet, oks_sIf, oks_sAsg, oks_sPar, oks_sFor, ok_runD, ok_some, oks_some, startE, eV, setsE, Tg.parts, fAdd_int, fAdd_lst, fAdd_tup, fSub_int, fMul_int, fDiv_int, fMod_int, fPow_int, fLt_int, fLe_int, fGt_int, fGe_int, fNeg_int, fIx_lst, fIx_tup, fLen_lst, fLen_tup, fAbs_int, fInt1_int, fInt1_bl, fGcd_int, fTuple_lst, fTuple_tup, fList_lst, fList_tup, fTru_bl, fTru_lst, fTru_tup, fIsB_bl, atI_0, atI_1, ty_int, ty_bl, ty_lst, ty_tup, ty_str, ty_non, List.map_cons, List.map_nil, List.length_cons, List.length_nil, List.replicate, List.cons_append, List.nil_append, List.getElem?_cons_zero, List.getElem?_cons_succ, List.set_cons_zero, List.set_cons_succ, List.zip_cons_cons, List.zip_nil_right, List.zip_nil_left, Option.some.injEq, exists_eq_left', exists_eq_left, Nat.reduceAdd, Nat.reduceSub, Nat.reduceEqDiff, PyData.bool.injEq, PyData.int.injEq, PyData.list.injEq, PyData.tuple.injEq, if_true, if_false, reduceIte, true_and, and_true, decide_true, decide_false, Bool.false_eq_true])
      exact (end_ok g2).mono fun d g3 h => h
    · obtain ⟨rs, rfl, hrs⟩ := of_frs xs hx
      rw [len_ints, List.length_map] at hl
      (try simp only [fEq_int, fNe_int, ok_eK, ok_lNil, ok_lCons, ok_e2, ok_e1, ok_eF, ok_eTup, ok_nLst, ok_eN, ok_mB, ok_mTru, ok_mNot, ok_mAnd, ok_mOr, ok_eAnd, ok_eOr, ok_eNot, ok_eIf, ok_eIsi, ok_eIsi2, ok_eTyC, ok_eCall, ok_eCallK, ok_oNo, ok_oAt, ok_eSl, ok_iOf, ok_iOfT, ok_iRg1, oks_sNx, oks_sSeq, oks_sSet, oks_sOwn, oks_sDrop, oks_sRet, oks_sIf, oks_sAsg, oks_sPar, oks_sFor, ok_runD, ok_some, oks_some, startE, eV, setsE, Tg.parts, fAdd_int, fAdd_lst, fAdd_tup, fSub_int, fMul_int, fDiv_int, fMod_int, fPow_int, fLt_int, fLe_int, fGt_int, fGe_int, fNeg_int, fIx_lst, fIx_tup, fLen_lst, fLen_tup, fAbs_int, fInt1_int, fInt1_bl, fGcd_int, fTuple_lst, fTuple_tup, fList_lst, fList_tup, fTru_bl, fTru_lst, fTru_tup, fIsB_bl, atI_0, atI_1, ty_int, ty_bl, ty_lst, ty_tup, ty_str, ty_non, List.map_cons, List.map_nil, List.length_cons, List.length_nil, List.replicate, List.cons_append, List.nil_append, List.getElem?_cons_zero, List.getElem?_cons_succ, List.set_cons_zero, List.set_cons_succ, List.zip_cons_cons, List.zip_nil_right, List.zip_nil_left, Option.some.injEq, exists_eq_left', exists_eq_left, Nat.reduceAdd, Nat.reduceSub, Nat.reduceEqDiff, PyData.bool.injEq, PyData.int.injEq, PyData.list.injEq, PyData.tuple.injEq, if_true, if_false, reduceIte, true_and, and_true, decide_true, decide_false, Bool.false_eq_true])
      exact ⟨rs, fun z => by rw [z] at hl; simp at hl; omega, by omega, hrs, rfl⟩
  rintro _ g1 ⟨rs, hne, hl12, hrs, rfl⟩
  refine oks_seqI (P := fun E' _ => ∃ t : Bool, E' = [SP, .val (.tuple (rs.map fr)), .val (.bool t), .no, .no, .no, .no, .no]) ?_ ?_
  · (try simp only [fEq_int, fNe_int, ok_eK, ok_lNil, ok_lCons, ok_e2, ok_e1, ok_eF, ok_eTup, ok_nLst, ok_eN, ok_mB, ok_mTru, ok_mNot, ok_mAnd, ok_mOr, ok_eAnd, ok_eOr, ok_eNot, ok_eIf, ok_eIsi, ok_eIsi2, ok_eTyC, ok_eCall, ok_eCallK, ok_oNo, ok_oAt, ok_eSl, ok_iOf, ok_iOfT, ok_iRg1, oks_sNx, oks_sSeq, oks_sSet, oks_sOwn, oks_sDrop, oks_sRet, oks_sIf, oks_sAsg, oks_sPar, oks_sFor, ok_runD, ok_some, oks_some, startE, eV, setsE, Tg.parts, fAdd_int, fAdd_lst, fAdd_tup, fSub_int, fMul_int, fDiv_int, fMod_int, fPow_int, fLt_int, fLe_int, fGt_int, fGe_int, fNeg_int, fIx_lst, fIx_tup, fLen_lst, fLen_tup, fAbs_int, fInt1_int, fInt1_bl, fGcd_int, fTuple_lst, fTuple_tup, fList_lst, fList_tup, fTru_bl, fTru_lst, fTru_tup, fIsB_bl, atI_0, atI_1, ty_int, ty_bl, ty_lst, ty_tup, ty_str, ty_non, List.map_cons, List.map_nil, List.length_cons, List.length_nil, List.replicate, List.cons_append, List.nil_append, List.getElem?_cons_zero, List.getElem?_cons_succ, List.set_cons_zero, List.set_cons_succ, List.zip_cons_cons, List.zip_nil_right, List.zip_nil_left, Option.some.injEq, exists_eq_left', exists_eq_left, Nat.reduceAdd, Nat.reduceSub, Nat.reduceEqDiff, PyData.bool.injEq, PyData.int.injEq, PyData.list.injEq, PyData.tuple.injEq, if_true, if_false, reduceIte, true_and, and_true, decide_true, decide_false, Bool.false_eq_true])
    refine drop_then (by decide) (by exact small9 (by decide)) fun v g2 v0 v1 => ?_
    (try simp only [fEq_int, fNe_int, ok_eK, ok_lNil, ok_lCons, ok_e2, ok_e1, ok_eF, ok_eTup, ok_nLst, ok_eN, ok_mB, ok_mTru, ok_mNot, ok_mAnd, ok_mOr, ok_eAnd, ok_eOr, ok_eNot, ok_eIf, ok_eIsi, ok_eIsi2, ok_eTyC, ok_eCall, ok_eCallK, ok_oNo, ok_oAt, ok_eSl, ok_iOf, ok_iOfT, ok_iRg1, oks_sNx, oks_sSeq, oks_sSet, oks_sOwn, oks_sDrop, oks_sRet, oks_sIf, oks_sAsg, oks_sPar, oks_sFor, ok_runD, ok_some, oks_some, startE, eV, setsE, Tg.parts, fAdd_int, fAdd_lst, fAdd_tup, fSub_int, fMul_int, fDiv_int, fMod_int, fPow_int, fLt_int, fLe_int, fGt_int, fGe_int, fNeg_int, fIx_lst, fIx_tup, fLen_lst, fLen_tup, fAbs_int, fInt1_int, fInt1_bl, fGcd_int, fTuple_lst, fTuple_tup, fList_lst, fList_tup, fTru_bl, fTru_lst, fTru_tup, fIsB_bl, atI_0, atI_1, ty_int, ty_bl, ty_lst, ty_tup, ty_str, ty_non, List.map_cons, List.map_nil, List.length_cons, List.length_nil, List.replicate, List.cons_append, List.nil_append, List.getElem?_cons_zero, List.getElem?_cons_succ, List.set_cons_zero, List.set_cons_succ, List.zip_cons_cons, List.zip_nil_right, List.zip_nil_left, Option.some.injEq, exists_eq_left', exists_eq_left, Nat.reduceAdd, Nat.reduceSub, Nat.reduceEqDiff, PyData.bool.injEq, PyData.int.injEq, PyData.list.injEq, PyData.tuple.injEq, if_true, if_false, reduceIte, true_and, and_true, decide_true, decide_false, Bool.false_eq_true, fEq_int])
    exact ⟨_, rfl⟩
  rintro _ g2 ⟨t, rfl⟩
  obtain ⟨lo, top, hi, S, eS⟩ := span_ok (N := 140) (by decide) hne hrs (by decide) t g2
  obtain ⟨slo, shi⟩ := span_sz (by decide) hrs S
  refine oks_seqI (P := fun E' g' => g' = g2 ∧ E' = SE rs t .no .no lo hi) ?_ ?_
  · (try simp only [fEq_int, fNe_int, ok_eK, ok_lNil, ok_lCons, ok_e2, ok_e1, ok_eF, ok_eTup, ok_nLst, ok_eN, ok_mB, ok_mTru, ok_mNot, ok_mAnd, ok_mOr, ok_eAnd, ok_eOr, ok_eNot, ok_eIf, ok_eIsi, ok_eIsi2, ok_eTyC, ok_eCall, ok_eCallK, ok_oNo, ok_oAt, ok_eSl, ok_iOf, ok_iOfT, ok_iRg1, oks_sNx, oks_sSeq, oks_sSet, oks_sOwn, oks_sDrop, oks_sRet, oks_sIf, oks_sAsg, oks_sPar, oks_sFor, ok_runD, ok_some, oks_some, startE, eV, setsE, Tg.parts, fAdd_int, fAdd_lst, fAdd_tup, fSub_int, fMul_int, fDiv_int, fMod_int, fPow_int, fLt_int, fLe_int, fGt_int, fGe_int, fNeg_int, fIx_lst, fIx_tup, fLen_lst, fLen_tup, fAbs_int, fInt1_int, fInt1_bl, fGcd_int, fTuple_lst, fTuple_tup, fList_lst, fList_tup, fTru_bl, fTru_lst, fTru_tup, fIsB_bl, atI_0, atI_1, ty_int, ty_bl, ty_lst, ty_tup, ty_str, ty_non, List.map_cons, List.map_nil, List.length_cons, List.length_nil, List.replicate, List.cons_append, List.nil_append, List.getElem?_cons_zero, List.getElem?_cons_succ, List.set_cons_zero, List.set_cons_succ, List.zip_cons_cons, List.zip_nil_right, List.zip_nil_left, Option.some.injEq, exists_eq_left', exists_eq_left, Nat.reduceAdd, Nat.reduceSub, Nat.reduceEqDiff, PyData.bool.injEq, PyData.int.injEq, PyData.list.injEq, PyData.tuple.injEq, if_true, if_false, reduceIte, true_and, and_true, decide_true, decide_false, Bool.false_eq_true])
    rw [ok_eq eS]
    refine ⟨_, rfl, ?_⟩
    (try simp only [fEq_int, fNe_int, ok_eK, ok_lNil, ok_lCons, ok_e2, ok_e1, ok_eF, ok_eTup, ok_nLst, ok_eN, ok_mB, ok_mTru, ok_mNot, ok_mAnd, ok_mOr, ok_eAnd, ok_eOr, ok_eNot, ok_eIf, ok_eIsi, ok_eIsi2, ok_eTyC, ok_eCall, ok_eCallK, ok_oNo, ok_oAt, ok_eSl, ok_iOf, ok_iOfT, ok_iRg1, oks_sNx, oks_sSeq, oks_sSet, oks_sOwn, oks_sDrop, oks_sRet, oks_sIf, oks_sAsg, oks_sPar, oks_sFor, ok_runD, ok_some, oks_some, startE, eV, setsE, Tg.parts, fAdd_int, fAdd_lst, fAdd_tup, fSub_int, fMul_int, fDiv_int, fMod_int, fPow_int, fLt_int, fLe_int, fGt_int, fGe_int, fNeg_int, fIx_lst, fIx_tup, fLen_lst, fLen_tup, fAbs_int, fInt1_int, fInt1_bl, fGcd_int, fTuple_lst, fTuple_tup, fList_lst, fList_tup, fTru_bl, fTru_lst, fTru_tup, fIsB_bl, atI_0, atI_1, ty_int, ty_bl, ty_lst, ty_tup, ty_str, ty_non, List.map_cons, List.map_nil, List.length_cons, List.length_nil, List.replicate, List.cons_append, List.nil_append, List.getElem?_cons_zero, List.getElem?_cons_succ, List.set_cons_zero, List.set_cons_succ, List.zip_cons_cons, List.zip_nil_right, List.zip_nil_left, Option.some.injEq, exists_eq_left', exists_eq_left, Nat.reduceAdd, Nat.reduceSub, Nat.reduceEqDiff, PyData.bool.injEq, PyData.int.injEq, PyData.list.injEq, PyData.tuple.injEq, if_true, if_false, reduceIte, true_and, and_true, decide_true, decide_false, Bool.false_eq_true])
    try exact ⟨rfl, rfl⟩
  rintro _ g3 ⟨rfl, rfl⟩
  refine oks_seqI (P := fun E' g' => g' = g3 ∧ E' = SE rs t .no .no lo hi) ?_ ?_
  · have c1 : Fspan_of [.tuple [fr hi, fr lo], .bool t] g3 = some (.tuple [fr lo, fr hi], g3) := by
      obtain ⟨lo', top', hi', S', e⟩ := span_ok (N := 142) (rs := [hi, lo]) (by decide) (by simp) (fun r hr => by
        simp at hr
        rcases hr with rfl | rfl
        · exact shi
        · exact slo.mono (by decide)) (by decide) t g3
      obtain ⟨e1, e2⟩ := S.ends (fun ht => .inr ⟨ht, rfl⟩) S'
      rw [e1, e2] at e
      exact e
    have c2 : Fspan_of [.tuple (rs.reverse.map fr), .bool t] g3 = some (.tuple [fr lo, fr hi], g3) := by
      obtain ⟨lo', top', hi', S', e⟩ := span_ok (N := 140) (rs := rs.reverse) (by decide) (by simpa using hne) (fun r hr => hrs r (List.mem_reverse.mp hr)) (by decide) t g3
      obtain ⟨e1, _, e2⟩ := S.uniq S' fun r => by unfold M5.In; rw [List.mem_reverse]
      rw [← e1, ← e2] at e
      exact e
    have c3 : Fspan_of [.tuple ((rs ++ rs).map fr), .bool t] g3 = some (.tuple [fr lo, fr hi], g3) := by
      obtain ⟨lo', top', hi', S', e⟩ := span_ok (N := 140) (rs := rs ++ rs) (by decide) (by simpa using hne) (fun r hr => (List.mem_append.mp hr).elim (hrs r) (hrs r)) (by decide) t g3
      obtain ⟨e1, _, e2⟩ := S.uniq S' fun r => by unfold M5.In; rw [List.mem_append, or_self]
      rw [← e1, ← e2] at e
      exact e
    have ns := ne_same (pair_sh lo hi)
    have fR : fRevT (.tuple (rs.map fr)) = some (.tuple (rs.reverse.map fr)) := by
      show some (PyData.tuple (rs.map fr).reverse) = _
      rw [List.map_reverse]
    have f2 : fRepT (.tuple (rs.map fr)) (.int 2) = some (.tuple ((rs ++ rs).map fr)) := by
      show (if rs.map fr ≠ [] ∧ (2 : Int) ≤ 2 ∧ (2 : Int) ≤ 1000 ∧ (rs.map fr).length ≤ 1000 then some (PyData.tuple (List.replicate 2 (rs.map fr)).flatten) else none) = _
      rw [if_pos ⟨by simpa using hne, by decide, by decide, by rw [List.length_map]; omega⟩]
      simp [List.replicate]
    have pk : pick [1, 0] [.bool t, .tuple ((rs ++ rs).map fr)] PyData.none = [.tuple ((rs ++ rs).map fr), .bool t] := rfl
    (try simp only [fEq_int, fNe_int, ok_eK, ok_lNil, ok_lCons, ok_e2, ok_e1, ok_eF, ok_eTup, ok_nLst, ok_eN, ok_mB, ok_mTru, ok_mNot, ok_mAnd, ok_mOr, ok_eAnd, ok_eOr, ok_eNot, ok_eIf, ok_eIsi, ok_eIsi2, ok_eTyC, ok_eCall, ok_eCallK, ok_oNo, ok_oAt, ok_eSl, ok_iOf, ok_iOfT, ok_iRg1, oks_sNx, oks_sSeq, oks_sSet, oks_sOwn, oks_sDrop, oks_sRet, oks_sIf, oks_sAsg, oks_sPar, oks_sFor, ok_runD, ok_some, oks_some, startE, eV, setsE, Tg.parts, fAdd_int, fAdd_lst, fAdd_tup, fSub_int, fMul_int, fDiv_int, fMod_int, fPow_int, fLt_int, fLe_int, fGt_int, fGe_int, fNeg_int, fIx_lst, fIx_tup, fLen_lst, fLen_tup, fAbs_int, fInt1_int, fInt1_bl, fGcd_int, fTuple_lst, fTuple_tup, fList_lst, fList_tup, fTru_bl, fTru_lst, fTru_tup, fIsB_bl, atI_0, atI_1, ty_int, ty_bl, ty_lst, ty_tup, ty_str, ty_non, List.map_cons, List.map_nil, List.length_cons, List.length_nil, List.replicate, List.cons_append, List.nil_append, List.getElem?_cons_zero, List.getElem?_cons_succ, List.set_cons_zero, List.set_cons_succ, List.zip_cons_cons, List.zip_nil_right, List.zip_nil_left, Option.some.injEq, exists_eq_left', exists_eq_left, Nat.reduceAdd, Nat.reduceSub, Nat.reduceEqDiff, PyData.bool.injEq, PyData.int.injEq, PyData.list.injEq, PyData.tuple.injEq, if_true, if_false, reduceIte, true_and, and_true, decide_true, decide_false, Bool.false_eq_true, z2])
    rw [ok_eq c1]
    (try simp only [fEq_int, fNe_int, ok_eK, ok_lNil, ok_lCons, ok_e2, ok_e1, ok_eF, ok_eTup, ok_nLst, ok_eN, ok_mB, ok_mTru, ok_mNot, ok_mAnd, ok_mOr, ok_eAnd, ok_eOr, ok_eNot, ok_eIf, ok_eIsi, ok_eIsi2, ok_eTyC, ok_eCall, ok_eCallK, ok_oNo, ok_oAt, ok_eSl, ok_iOf, ok_iOfT, ok_iRg1, oks_sNx, oks_sSeq, oks_sSet, oks_sOwn, oks_sDrop, oks_sRet, oks_sIf, oks_sAsg, oks_sPar, oks_sFor, ok_runD, ok_some, oks_some, startE, eV, setsE, Tg.parts, fAdd_int, fAdd_lst, fAdd_tup, fSub_int, fMul_int, fDiv_int, fMod_int, fPow_int, fLt_int, fLe_int, fGt_int, fGe_int, fNeg_int, fIx_lst, fIx_tup, fLen_lst, fLen_tup, fAbs_int, fInt1_int, fInt1_bl, fGcd_int, fTuple_lst, fTuple_tup, fList_lst, fList_tup, fTru_bl, fTru_lst, fTru_tup, fIsB_bl, atI_0, atI_1, ty_int, ty_bl, ty_lst, ty_tup, ty_str, ty_non, List.map_cons, List.map_nil, List.length_cons, List.length_nil, List.replicate, List.cons_append, List.nil_append, List.getElem?_cons_zero, List.getElem?_cons_succ, List.set_cons_zero, List.set_cons_succ, List.zip_cons_cons, List.zip_nil_right, List.zip_nil_left, Option.some.injEq, exists_eq_left', exists_eq_left, Nat.reduceAdd, Nat.reduceSub, Nat.reduceEqDiff, PyData.bool.injEq, PyData.int.injEq, PyData.list.injEq, PyData.tuple.injEq, if_true, if_false, reduceIte, true_and, and_true, decide_true, decide_false, Bool.false_eq_true, z2, ns, fR])
    rw [ok_eq c2]
    (try simp only [fEq_int, fNe_int, ok_eK, ok_lNil, ok_lCons, ok_e2, ok_e1, ok_eF, ok_eTup, ok_nLst, ok_eN, ok_mB, ok_mTru, ok_mNot, ok_mAnd, ok_mOr, ok_eAnd, ok_eOr, ok_eNot, ok_eIf, ok_eIsi, ok_eIsi2, ok_eTyC, ok_eCall, ok_eCallK, ok_oNo, ok_oAt, ok_eSl, ok_iOf, ok_iOfT, ok_iRg1, oks_sNx, oks_sSeq, oks_sSet, oks_sOwn, oks_sDrop, oks_sRet, oks_sIf, oks_sAsg, oks_sPar, oks_sFor, ok_runD, ok_some, oks_some, startE, eV, setsE, Tg.parts, fAdd_int, fAdd_lst, fAdd_tup, fSub_int, fMul_int, fDiv_int, fMod_int, fPow_int, fLt_int, fLe_int, fGt_int, fGe_int, fNeg_int, fIx_lst, fIx_tup, fLen_lst, fLen_tup, fAbs_int, fInt1_int, fInt1_bl, fGcd_int, fTuple_lst, fTuple_tup, fList_lst, fList_tup, fTru_bl, fTru_lst, fTru_tup, fIsB_bl, atI_0, atI_1, ty_int, ty_bl, ty_lst, ty_tup, ty_str, ty_non, List.map_cons, List.map_nil, List.length_cons, List.length_nil, List.replicate, List.cons_append, List.nil_append, List.getElem?_cons_zero, List.getElem?_cons_succ, List.set_cons_zero, List.set_cons_succ, List.zip_cons_cons, List.zip_nil_right, List.zip_nil_left, Option.some.injEq, exists_eq_left', exists_eq_left, Nat.reduceAdd, Nat.reduceSub, Nat.reduceEqDiff, PyData.bool.injEq, PyData.int.injEq, PyData.list.injEq, PyData.tuple.injEq, if_true, if_false, reduceIte, true_and, and_true, decide_true, decide_false, Bool.false_eq_true, z2, ns, f2, pk])
    rw [ok_eq c3]
    (try simp only [fEq_int, fNe_int, ok_eK, ok_lNil, ok_lCons, ok_e2, ok_e1, ok_eF, ok_eTup, ok_nLst, ok_eN, ok_mB, ok_mTru, ok_mNot, ok_mAnd, ok_mOr, ok_eAnd, ok_eOr, ok_eNot, ok_eIf, ok_eIsi, ok_eIsi2, ok_eTyC, ok_eCall, ok_eCallK, ok_oNo, ok_oAt, ok_eSl, ok_iOf, ok_iOfT, ok_iRg1, oks_sNx, oks_sSeq, oks_sSet, oks_sOwn, oks_sDrop, oks_sRet, oks_sIf, oks_sAsg, oks_sPar, oks_sFor, ok_runD, ok_some, oks_some, startE, eV, setsE, Tg.parts, fAdd_int, fAdd_lst, fAdd_tup, fSub_int, fMul_int, fDiv_int, fMod_int, fPow_int, fLt_int, fLe_int, fGt_int, fGe_int, fNeg_int, fIx_lst, fIx_tup, fLen_lst, fLen_tup, fAbs_int, fInt1_int, fInt1_bl, fGcd_int, fTuple_lst, fTuple_tup, fList_lst, fList_tup, fTru_bl, fTru_lst, fTru_tup, fIsB_bl, atI_0, atI_1, ty_int, ty_bl, ty_lst, ty_tup, ty_str, ty_non, List.map_cons, List.map_nil, List.length_cons, List.length_nil, List.replicate, List.cons_append, List.nil_append, List.getElem?_cons_zero, List.getElem?_cons_succ, List.set_cons_zero, List.set_cons_succ, List.zip_cons_cons, List.zip_nil_right, List.zip_nil_left, Option.some.injEq, exists_eq_left', exists_eq_left, Nat.reduceAdd, Nat.reduceSub, Nat.reduceEqDiff, PyData.bool.injEq, PyData.int.injEq, PyData.list.injEq, PyData.tuple.injEq, if_true, if_false, reduceIte, true_and, and_true, decide_true, decide_false, Bool.false_eq_true, z2, ns])
    try exact ⟨rfl, rfl⟩
  rintro _ g4 ⟨rfl, rfl⟩
  refine oks_seqI (P := fun E' _ => ∃ (lo' hi' : Rat) (qs : List Rat), qs ≠ [] ∧ (∀ r ∈ qs, r ∈ rs) ∧ (∃ top', Span (In qs t) lo' top' hi') ∧ E' = SE rs t (.val (.tuple [fr lo', fr hi'])) .no lo hi) ?_ ?_
  · have hl1 : 1 ≤ rs.length := by
      cases rs with
      | nil => exact absurd rfl hne
      | cons r rs => simp
    have fl_ : fLen [.tuple (rs.map fr)] = some (.int (rs.length : Int)) := by
      show some (PyData.int ((rs.map fr).length : Int)) = _
      rw [List.length_map]
    (try simp only [fEq_int, fNe_int, ok_eK, ok_lNil, ok_lCons, ok_e2, ok_e1, ok_eF, ok_eTup, ok_nLst, ok_eN, ok_mB, ok_mTru, ok_mNot, ok_mAnd, ok_mOr, ok_eAnd, ok_eOr, ok_eNot, ok_eIf, ok_eIsi, ok_eIsi2, ok_eTyC, ok_eCall, ok_eCallK, ok_oNo, ok_oAt, ok_eSl, ok_iOf, ok_iOfT, ok_iRg1, oks_sNx, oks_sSeq, oks_sSet, oks_sOwn, oks_sDrop, oks_sRet, oks_sIf, oks_sAsg, oks_sPar, oks_sFor, ok_runD, ok_some, oks_some, startE, eV, setsE, Tg.parts, fAdd_int, fAdd_lst, fAdd_tup, fSub_int, fMul_int, fDiv_int, fMod_int, fPow_int, fLt_int, fLe_int, fGt_int, fGe_int, fNeg_int, fIx_lst, fIx_tup, fLen_lst, fLen_tup, fAbs_int, fInt1_int, fInt1_bl, fGcd_int, fTuple_lst, fTuple_tup, fList_lst, fList_tup, fTru_bl, fTru_lst, fTru_tup, fIsB_bl, atI_0, atI_1, ty_int, ty_bl, ty_lst, ty_tup, ty_str, ty_non, List.map_cons, List.map_nil, List.length_cons, List.length_nil, List.replicate, List.cons_append, List.nil_append, List.getElem?_cons_zero, List.getElem?_cons_succ, List.set_cons_zero, List.set_cons_succ, List.zip_cons_cons, List.zip_nil_right, List.zip_nil_left, Option.some.injEq, exists_eq_left', exists_eq_left, Nat.reduceAdd, Nat.reduceSub, Nat.reduceEqDiff, PyData.bool.injEq, PyData.int.injEq, PyData.list.injEq, PyData.tuple.injEq, if_true, if_false, reduceIte, true_and, and_true, decide_true, decide_false, Bool.false_eq_true, fl_])
    refine drop_then (by omega) (by exact small9 (Nat.le_trans (show ((rs.length : Int)).natAbs ≤ 12 by omega) (by decide))) fun v g5 v0 v1 => ?_
    (try simp only [fEq_int, fNe_int, ok_eK, ok_lNil, ok_lCons, ok_e2, ok_e1, ok_eF, ok_eTup, ok_nLst, ok_eN, ok_mB, ok_mTru, ok_mNot, ok_mAnd, ok_mOr, ok_eAnd, ok_eOr, ok_eNot, ok_eIf, ok_eIsi, ok_eIsi2, ok_eTyC, ok_eCall, ok_eCallK, ok_oNo, ok_oAt, ok_eSl, ok_iOf, ok_iOfT, ok_iRg1, oks_sNx, oks_sSeq, oks_sSet, oks_sOwn, oks_sDrop, oks_sRet, oks_sIf, oks_sAsg, oks_sPar, oks_sFor, ok_runD, ok_some, oks_some, startE, eV, setsE, Tg.parts, fAdd_int, fAdd_lst, fAdd_tup, fSub_int, fMul_int, fDiv_int, fMod_int, fPow_int, fLt_int, fLe_int, fGt_int, fGe_int, fNeg_int, fIx_lst, fIx_tup, fLen_lst, fLen_tup, fAbs_int, fInt1_int, fInt1_bl, fGcd_int, fTuple_lst, fTuple_tup, fList_lst, fList_tup, fTru_bl, fTru_lst, fTru_tup, fIsB_bl, atI_0, atI_1, ty_int, ty_bl, ty_lst, ty_tup, ty_str, ty_non, List.map_cons, List.map_nil, List.length_cons, List.length_nil, List.replicate, List.cons_append, List.nil_append, List.getElem?_cons_zero, List.getElem?_cons_succ, List.set_cons_zero, List.set_cons_succ, List.zip_cons_cons, List.zip_nil_right, List.zip_nil_left, Option.some.injEq, exists_eq_left', exists_eq_left, Nat.reduceAdd, Nat.reduceSub, Nat.reduceEqDiff, PyData.bool.injEq, PyData.int.injEq, PyData.list.injEq, PyData.tuple.injEq, if_true, if_false, reduceIte, true_and, and_true, decide_true, decide_false, Bool.false_eq_true])
    have fs : fSl (.tuple (rs.map fr)) none (some (1 + v)) = some (.tuple ((rs.take (1 + v).toNat).map fr)) := by
      have := cut_lo (rs.map fr) (1 + v).toNat (by rw [List.length_map]; omega)
      show some (PyData.tuple (DL.cutD (rs.map fr) none (some (1 + v)))) = _
      rw [show 1 + v = (((1 + v).toNat : Nat) : Int) by omega, this, List.map_take]
      rfl
    refine ⟨_, fs, ?_⟩
    have hq : rs.take (1 + v).toNat ≠ [] := fun z => by
      have h0 : (rs.take (1 + v).toNat).length = 0 := by rw [z]; rfl
      rw [List.length_take] at h0
      omega
    obtain ⟨lo', top', hi', S', e⟩ := span_ok (N := 140) (by decide) hq (fun r hr => hrs r (List.mem_of_mem_take hr)) (by decide) t g5
    rw [ok_eq e]
    exact ⟨lo', hi', _, hq, fun r hr => List.mem_of_mem_take hr, ⟨top', S'⟩, rfl⟩
  rintro _ g5 ⟨lo', hi', qs, hq, hqr, ⟨top', S'⟩, rfl⟩
  obtain ⟨slo', shi'⟩ := span_sz (by decide) (fun r hr => hrs r (hqr r hr)) S'
  refine oks_seqI (P := fun E' g' => g' = g5 ∧ E' = SE rs t (.val (.tuple [fr lo', fr hi'])) .no lo hi) ?_ ?_
  · obtain ⟨k1, k2⟩ := S.part S' fun r hr => hr.imp (hqr r) id
    (try simp only [fEq_int, fNe_int, ok_eK, ok_lNil, ok_lCons, ok_e2, ok_e1, ok_eF, ok_eTup, ok_nLst, ok_eN, ok_mB, ok_mTru, ok_mNot, ok_mAnd, ok_mOr, ok_eAnd, ok_eOr, ok_eNot, ok_eIf, ok_eIsi, ok_eIsi2, ok_eTyC, ok_eCall, ok_eCallK, ok_oNo, ok_oAt, ok_eSl, ok_iOf, ok_iOfT, ok_iRg1, oks_sNx, oks_sSeq, oks_sSet, oks_sOwn, oks_sDrop, oks_sRet, oks_sIf, oks_sAsg, oks_sPar, oks_sFor, ok_runD, ok_some, oks_some, startE, eV, setsE, Tg.parts, fAdd_int, fAdd_lst, fAdd_tup, fSub_int, fMul_int, fDiv_int, fMod_int, fPow_int, fLt_int, fLe_int, fGt_int, fGe_int, fNeg_int, fIx_lst, fIx_tup, fLen_lst, fLen_tup, fAbs_int, fInt1_int, fInt1_bl, fGcd_int, fTuple_lst, fTuple_tup, fList_lst, fList_tup, fTru_bl, fTru_lst, fTru_tup, fIsB_bl, atI_0, atI_1, ty_int, ty_bl, ty_lst, ty_tup, ty_str, ty_non, List.map_cons, List.map_nil, List.length_cons, List.length_nil, List.replicate, List.cons_append, List.nil_append, List.getElem?_cons_zero, List.getElem?_cons_succ, List.set_cons_zero, List.set_cons_succ, List.zip_cons_cons, List.zip_nil_right, List.zip_nil_left, Option.some.injEq, exists_eq_left', exists_eq_left, Nat.reduceAdd, Nat.reduceSub, Nat.reduceEqDiff, PyData.bool.injEq, PyData.int.injEq, PyData.list.injEq, PyData.tuple.injEq, if_true, if_false, reduceIte, true_and, and_true, decide_true, decide_false, Bool.false_eq_true])
    rw [ok_eq (lbelow_ok slo' slo (by decide) g5)]
    simp only [k1, decide_false]
    (try simp only [fEq_int, fNe_int, ok_eK, ok_lNil, ok_lCons, ok_e2, ok_e1, ok_eF, ok_eTup, ok_nLst, ok_eN, ok_mB, ok_mTru, ok_mNot, ok_mAnd, ok_mOr, ok_eAnd, ok_eOr, ok_eNot, ok_eIf, ok_eIsi, ok_eIsi2, ok_eTyC, ok_eCall, ok_eCallK, ok_oNo, ok_oAt, ok_eSl, ok_iOf, ok_iOfT, ok_iRg1, oks_sNx, oks_sSeq, oks_sSet, oks_sOwn, oks_sDrop, oks_sRet, oks_sIf, oks_sAsg, oks_sPar, oks_sFor, ok_runD, ok_some, oks_some, startE, eV, setsE, Tg.parts, fAdd_int, fAdd_lst, fAdd_tup, fSub_int, fMul_int, fDiv_int, fMod_int, fPow_int, fLt_int, fLe_int, fGt_int, fGe_int, fNeg_int, fIx_lst, fIx_tup, fLen_lst, fLen_tup, fAbs_int, fInt1_int, fInt1_bl, fGcd_int, fTuple_lst, fTuple_tup, fList_lst, fList_tup, fTru_bl, fTru_lst, fTru_tup, fIsB_bl, atI_0, atI_1, ty_int, ty_bl, ty_lst, ty_tup, ty_str, ty_non, List.map_cons, List.map_nil, List.length_cons, List.length_nil, List.replicate, List.cons_append, List.nil_append, List.getElem?_cons_zero, List.getElem?_cons_succ, List.set_cons_zero, List.set_cons_succ, List.zip_cons_cons, List.zip_nil_right, List.zip_nil_left, Option.some.injEq, exists_eq_left', exists_eq_left, Nat.reduceAdd, Nat.reduceSub, Nat.reduceEqDiff, PyData.bool.injEq, PyData.int.injEq, PyData.list.injEq, PyData.tuple.injEq, if_true, if_false, reduceIte, true_and, and_true, decide_true, decide_false, Bool.false_eq_true])
    rw [ok_eq (lbelow_ok shi shi' (by decide) g5)]
    by_cases hh : hi < hi'
    · simp only [hh, decide_true]
      (try simp only [fEq_int, fNe_int, ok_eK, ok_lNil, ok_lCons, ok_e2, ok_e1, ok_eF, ok_eTup, ok_nLst, ok_eN, ok_mB, ok_mTru, ok_mNot, ok_mAnd, ok_mOr, ok_eAnd, ok_eOr, ok_eNot, ok_eIf, ok_eIsi, ok_eIsi2, ok_eTyC, ok_eCall, ok_eCallK, ok_oNo, ok_oAt, ok_eSl, ok_iOf, ok_iOfT, ok_iRg1, oks_sNx, oks_sSeq, oks_sSet, oks_sOwn, oks_sDrop, oks_sRet, oks_sIf, oks_sAsg, oks_sPar, oks_sFor, ok_runD, ok_some, oks_some, startE, eV, setsE, Tg.parts, fAdd_int, fAdd_lst, fAdd_tup, fSub_int, fMul_int, fDiv_int, fMod_int, fPow_int, fLt_int, fLe_int, fGt_int, fGe_int, fNeg_int, fIx_lst, fIx_tup, fLen_lst, fLen_tup, fAbs_int, fInt1_int, fInt1_bl, fGcd_int, fTuple_lst, fTuple_tup, fList_lst, fList_tup, fTru_bl, fTru_lst, fTru_tup, fIsB_bl, atI_0, atI_1, ty_int, ty_bl, ty_lst, ty_tup, ty_str, ty_non, List.map_cons, List.map_nil, List.length_cons, List.length_nil, List.replicate, List.cons_append, List.nil_append, List.getElem?_cons_zero, List.getElem?_cons_succ, List.set_cons_zero, List.set_cons_succ, List.zip_cons_cons, List.zip_nil_right, List.zip_nil_left, Option.some.injEq, exists_eq_left', exists_eq_left, Nat.reduceAdd, Nat.reduceSub, Nat.reduceEqDiff, PyData.bool.injEq, PyData.int.injEq, PyData.list.injEq, PyData.tuple.injEq, if_true, if_false, reduceIte, true_and, and_true, decide_true, decide_false, Bool.false_eq_true])
      rw [ok_eq (lminus_ok shi' slo' (by decide) g5), k2 hh]
      (try simp only [fEq_int, fNe_int, ok_eK, ok_lNil, ok_lCons, ok_e2, ok_e1, ok_eF, ok_eTup, ok_nLst, ok_eN, ok_mB, ok_mTru, ok_mNot, ok_mAnd, ok_mOr, ok_eAnd, ok_eOr, ok_eNot, ok_eIf, ok_eIsi, ok_eIsi2, ok_eTyC, ok_eCall, ok_eCallK, ok_oNo, ok_oAt, ok_eSl, ok_iOf, ok_iOfT, ok_iRg1, oks_sNx, oks_sSeq, oks_sSet, oks_sOwn, oks_sDrop, oks_sRet, oks_sIf, oks_sAsg, oks_sPar, oks_sFor, ok_runD, ok_some, oks_some, startE, eV, setsE, Tg.parts, fAdd_int, fAdd_lst, fAdd_tup, fSub_int, fMul_int, fDiv_int, fMod_int, fPow_int, fLt_int, fLe_int, fGt_int, fGe_int, fNeg_int, fIx_lst, fIx_tup, fLen_lst, fLen_tup, fAbs_int, fInt1_int, fInt1_bl, fGcd_int, fTuple_lst, fTuple_tup, fList_lst, fList_tup, fTru_bl, fTru_lst, fTru_tup, fIsB_bl, atI_0, atI_1, ty_int, ty_bl, ty_lst, ty_tup, ty_str, ty_non, List.map_cons, List.map_nil, List.length_cons, List.length_nil, List.replicate, List.cons_append, List.nil_append, List.getElem?_cons_zero, List.getElem?_cons_succ, List.set_cons_zero, List.set_cons_succ, List.zip_cons_cons, List.zip_nil_right, List.zip_nil_left, Option.some.injEq, exists_eq_left', exists_eq_left, Nat.reduceAdd, Nat.reduceSub, Nat.reduceEqDiff, PyData.bool.injEq, PyData.int.injEq, PyData.list.injEq, PyData.tuple.injEq, if_true, if_false, reduceIte, true_and, and_true, decide_true, decide_false, Bool.false_eq_true, z2, o11, fNe_fr, Bool.not_true])
      try exact ⟨rfl, rfl⟩
    · simp only [hh, decide_false]
      (try simp only [fEq_int, fNe_int, ok_eK, ok_lNil, ok_lCons, ok_e2, ok_e1, ok_eF, ok_eTup, ok_nLst, ok_eN, ok_mB, ok_mTru, ok_mNot, ok_mAnd, ok_mOr, ok_eAnd, ok_eOr, ok_eNot, ok_eIf, ok_eIsi, ok_eIsi2, ok_eTyC, ok_eCall, ok_eCallK, ok_oNo, ok_oAt, ok_eSl, ok_iOf, ok_iOfT, ok_iRg1, oks_sNx, oks_sSeq, oks_sSet, oks_sOwn, oks_sDrop, oks_sRet, oks_sIf, oks_sAsg, oks_sPar, oks_sFor, ok_runD, ok_some, oks_some, startE, eV, setsE, Tg.parts, fAdd_int, fAdd_lst, fAdd_tup, fSub_int, fMul_int, fDiv_int, fMod_int, fPow_int, fLt_int, fLe_int, fGt_int, fGe_int, fNeg_int, fIx_lst, fIx_tup, fLen_lst, fLen_tup, fAbs_int, fInt1_int, fInt1_bl, fGcd_int, fTuple_lst, fTuple_tup, fList_lst, fList_tup, fTru_bl, fTru_lst, fTru_tup, fIsB_bl, atI_0, atI_1, ty_int, ty_bl, ty_lst, ty_tup, ty_str, ty_non, List.map_cons, List.map_nil, List.length_cons, List.length_nil, List.replicate, List.cons_append, List.nil_append, List.getElem?_cons_zero, List.getElem?_cons_succ, List.set_cons_zero, List.set_cons_succ, List.zip_cons_cons, List.zip_nil_right, List.zip_nil_left, Option.some.injEq, exists_eq_left', exists_eq_left, Nat.reduceAdd, Nat.reduceSub, Nat.reduceEqDiff, PyData.bool.injEq, PyData.int.injEq, PyData.list.injEq, PyData.tuple.injEq, if_true, if_false, reduceIte, true_and, and_true, decide_true, decide_false, Bool.false_eq_true])
      try exact ⟨rfl, rfl⟩
  rintro _ g6 ⟨rfl, rfl⟩
  obtain ⟨lo3, top3, hi3, S3, e3⟩ := span_ok (N := 140) (by decide) hne hrs (by decide) true g6
  obtain ⟨slo3, shi3⟩ := span_sz (by decide) hrs S3
  refine oks_seqI (P := fun E' g' => g' = g6 ∧ E' = SE rs t (.val (.tuple [fr lo', fr hi'])) (.val (.tuple [fr lo3, fr hi3])) lo hi) ?_ ?_
  · (try simp only [fEq_int, fNe_int, ok_eK, ok_lNil, ok_lCons, ok_e2, ok_e1, ok_eF, ok_eTup, ok_nLst, ok_eN, ok_mB, ok_mTru, ok_mNot, ok_mAnd, ok_mOr, ok_eAnd, ok_eOr, ok_eNot, ok_eIf, ok_eIsi, ok_eIsi2, ok_eTyC, ok_eCall, ok_eCallK, ok_oNo, ok_oAt, ok_eSl, ok_iOf, ok_iOfT, ok_iRg1, oks_sNx, oks_sSeq, oks_sSet, oks_sOwn, oks_sDrop, oks_sRet, oks_sIf, oks_sAsg, oks_sPar, oks_sFor, ok_runD, ok_some, oks_some, startE, eV, setsE, Tg.parts, fAdd_int, fAdd_lst, fAdd_tup, fSub_int, fMul_int, fDiv_int, fMod_int, fPow_int, fLt_int, fLe_int, fGt_int, fGe_int, fNeg_int, fIx_lst, fIx_tup, fLen_lst, fLen_tup, fAbs_int, fInt1_int, fInt1_bl, fGcd_int, fTuple_lst, fTuple_tup, fList_lst, fList_tup, fTru_bl, fTru_lst, fTru_tup, fIsB_bl, atI_0, atI_1, ty_int, ty_bl, ty_lst, ty_tup, ty_str, ty_non, List.map_cons, List.map_nil, List.length_cons, List.length_nil, List.replicate, List.cons_append, List.nil_append, List.getElem?_cons_zero, List.getElem?_cons_succ, List.set_cons_zero, List.set_cons_succ, List.zip_cons_cons, List.zip_nil_right, List.zip_nil_left, Option.some.injEq, exists_eq_left', exists_eq_left, Nat.reduceAdd, Nat.reduceSub, Nat.reduceEqDiff, PyData.bool.injEq, PyData.int.injEq, PyData.list.injEq, PyData.tuple.injEq, if_true, if_false, reduceIte, true_and, and_true, decide_true, decide_false, Bool.false_eq_true])
    rw [ok_eq e3]
    try exact ⟨rfl, rfl⟩
  rintro _ g7 ⟨rfl, rfl⟩
  have in0 : In rs true 0 := .inr ⟨rfl, rfl⟩
  have k1 : ¬ (0 : Rat) < lo3 := by have := S3.lo_le _ in0; grind
  have k2 : ¬ hi3 < (0 : Rat) := by have := S3.top_ge _ in0; have := S3.lt.2; grind
  have s0 : Sz 140 (0 : Rat) := ⟨Nat.pow_pos (n := 140) (by decide), Nat.one_lt_two_pow (n := 140) (by decide)⟩
  have c4 : Fspan_of [.tuple (rs.map fr ++ [fr 0]), .bool false] g7 = some (.tuple [fr lo3, fr hi3], g7) := by
    obtain ⟨l4, t4, h4, S4, e⟩ := span_ok (N := 140) (rs := rs ++ [0]) (by decide) (by simp) (fun r hr => (List.mem_append.mp hr).elim (hrs r) fun h => by rw [List.mem_singleton.mp h]; exact s0) (by decide) false g7
    obtain ⟨e1, _, e2⟩ := S3.uniq S4 fun r => by
      unfold M5.In
      rw [List.mem_append, List.mem_singleton]
      simp
    rw [← e1, ← e2, List.map_append] at e
    exact e
  have es := eq_same (pair_sh lo3 hi3)
  have zl : (rs.map fr).length + 1 ≤ sizeLine := by rw [List.length_map]; exact sz_ok (by omega)
  (try simp only [fEq_int, fNe_int, ok_eK, ok_lNil, ok_lCons, ok_e2, ok_e1, ok_eF, ok_eTup, ok_nLst, ok_eN, ok_mB, ok_mTru, ok_mNot, ok_mAnd, ok_mOr, ok_eAnd, ok_eOr, ok_eNot, ok_eIf, ok_eIsi, ok_eIsi2, ok_eTyC, ok_eCall, ok_eCallK, ok_oNo, ok_oAt, ok_eSl, ok_iOf, ok_iOfT, ok_iRg1, oks_sNx, oks_sSeq, oks_sSet, oks_sOwn, oks_sDrop, oks_sRet, oks_sIf, oks_sAsg, oks_sPar, oks_sFor, ok_runD, ok_some, oks_some, startE, eV, setsE, Tg.parts, fAdd_int, fAdd_lst, fAdd_tup, fSub_int, fMul_int, fDiv_int, fMod_int, fPow_int, fLt_int, fLe_int, fGt_int, fGe_int, fNeg_int, fIx_lst, fIx_tup, fLen_lst, fLen_tup, fAbs_int, fInt1_int, fInt1_bl, fGcd_int, fTuple_lst, fTuple_tup, fList_lst, fList_tup, fTru_bl, fTru_lst, fTru_tup, fIsB_bl, atI_0, atI_1, ty_int, ty_bl, ty_lst, ty_tup, ty_str, ty_non, List.map_cons, List.map_nil, List.length_cons, List.length_nil, List.replicate, List.cons_append, List.nil_append, List.getElem?_cons_zero, List.getElem?_cons_succ, List.set_cons_zero, List.set_cons_succ, List.zip_cons_cons, List.zip_nil_right, List.zip_nil_left, Option.some.injEq, exists_eq_left', exists_eq_left, Nat.reduceAdd, Nat.reduceSub, Nat.reduceEqDiff, PyData.bool.injEq, PyData.int.injEq, PyData.list.injEq, PyData.tuple.injEq, if_true, if_false, reduceIte, true_and, and_true, decide_true, decide_false, Bool.false_eq_true, z2, f01])
  rw [ok_eq (lbelow_ok s0 slo3 (by decide) g7)]
  simp only [k1, decide_false]
  (try simp only [fEq_int, fNe_int, ok_eK, ok_lNil, ok_lCons, ok_e2, ok_e1, ok_eF, ok_eTup, ok_nLst, ok_eN, ok_mB, ok_mTru, ok_mNot, ok_mAnd, ok_mOr, ok_eAnd, ok_eOr, ok_eNot, ok_eIf, ok_eIsi, ok_eIsi2, ok_eTyC, ok_eCall, ok_eCallK, ok_oNo, ok_oAt, ok_eSl, ok_iOf, ok_iOfT, ok_iRg1, oks_sNx, oks_sSeq, oks_sSet, oks_sOwn, oks_sDrop, oks_sRet, oks_sIf, oks_sAsg, oks_sPar, oks_sFor, ok_runD, ok_some, oks_some, startE, eV, setsE, Tg.parts, fAdd_int, fAdd_lst, fAdd_tup, fSub_int, fMul_int, fDiv_int, fMod_int, fPow_int, fLt_int, fLe_int, fGt_int, fGe_int, fNeg_int, fIx_lst, fIx_tup, fLen_lst, fLen_tup, fAbs_int, fInt1_int, fInt1_bl, fGcd_int, fTuple_lst, fTuple_tup, fList_lst, fList_tup, fTru_bl, fTru_lst, fTru_tup, fIsB_bl, atI_0, atI_1, ty_int, ty_bl, ty_lst, ty_tup, ty_str, ty_non, List.map_cons, List.map_nil, List.length_cons, List.length_nil, List.replicate, List.cons_append, List.nil_append, List.getElem?_cons_zero, List.getElem?_cons_succ, List.set_cons_zero, List.set_cons_succ, List.zip_cons_cons, List.zip_nil_right, List.zip_nil_left, Option.some.injEq, exists_eq_left', exists_eq_left, Nat.reduceAdd, Nat.reduceSub, Nat.reduceEqDiff, PyData.bool.injEq, PyData.int.injEq, PyData.list.injEq, PyData.tuple.injEq, if_true, if_false, reduceIte, true_and, and_true, decide_true, decide_false, Bool.false_eq_true, Bool.not_false])
  rw [ok_eq (lbelow_ok shi3 s0 (by decide) g7)]
  simp only [k2, decide_false]
  (try simp only [fEq_int, fNe_int, ok_eK, ok_lNil, ok_lCons, ok_e2, ok_e1, ok_eF, ok_eTup, ok_nLst, ok_eN, ok_mB, ok_mTru, ok_mNot, ok_mAnd, ok_mOr, ok_eAnd, ok_eOr, ok_eNot, ok_eIf, ok_eIsi, ok_eIsi2, ok_eTyC, ok_eCall, ok_eCallK, ok_oNo, ok_oAt, ok_eSl, ok_iOf, ok_iOfT, ok_iRg1, oks_sNx, oks_sSeq, oks_sSet, oks_sOwn, oks_sDrop, oks_sRet, oks_sIf, oks_sAsg, oks_sPar, oks_sFor, ok_runD, ok_some, oks_some, startE, eV, setsE, Tg.parts, fAdd_int, fAdd_lst, fAdd_tup, fSub_int, fMul_int, fDiv_int, fMod_int, fPow_int, fLt_int, fLe_int, fGt_int, fGe_int, fNeg_int, fIx_lst, fIx_tup, fLen_lst, fLen_tup, fAbs_int, fInt1_int, fInt1_bl, fGcd_int, fTuple_lst, fTuple_tup, fList_lst, fList_tup, fTru_bl, fTru_lst, fTru_tup, fIsB_bl, atI_0, atI_1, ty_int, ty_bl, ty_lst, ty_tup, ty_str, ty_non, List.map_cons, List.map_nil, List.length_cons, List.length_nil, List.replicate, List.cons_append, List.nil_append, List.getElem?_cons_zero, List.getElem?_cons_succ, List.set_cons_zero, List.set_cons_succ, List.zip_cons_cons, List.zip_nil_right, List.zip_nil_left, Option.some.injEq, exists_eq_left', exists_eq_left, Nat.reduceAdd, Nat.reduceSub, Nat.reduceEqDiff, PyData.bool.injEq, PyData.int.injEq, PyData.list.injEq, PyData.tuple.injEq, if_true, if_false, reduceIte, true_and, and_true, decide_true, decide_false, Bool.false_eq_true, Bool.not_false, z1, zl])
  rw [ok_eq c4]
  (try simp only [fEq_int, fNe_int, ok_eK, ok_lNil, ok_lCons, ok_e2, ok_e1, ok_eF, ok_eTup, ok_nLst, ok_eN, ok_mB, ok_mTru, ok_mNot, ok_mAnd, ok_mOr, ok_eAnd, ok_eOr, ok_eNot, ok_eIf, ok_eIsi, ok_eIsi2, ok_eTyC, ok_eCall, ok_eCallK, ok_oNo, ok_oAt, ok_eSl, ok_iOf, ok_iOfT, ok_iRg1, oks_sNx, oks_sSeq, oks_sSet, oks_sOwn, oks_sDrop, oks_sRet, oks_sIf, oks_sAsg, oks_sPar, oks_sFor, ok_runD, ok_some, oks_some, startE, eV, setsE, Tg.parts, fAdd_int, fAdd_lst, fAdd_tup, fSub_int, fMul_int, fDiv_int, fMod_int, fPow_int, fLt_int, fLe_int, fGt_int, fGe_int, fNeg_int, fIx_lst, fIx_tup, fLen_lst, fLen_tup, fAbs_int, fInt1_int, fInt1_bl, fGcd_int, fTuple_lst, fTuple_tup, fList_lst, fList_tup, fTru_bl, fTru_lst, fTru_tup, fIsB_bl, atI_0, atI_1, ty_int, ty_bl, ty_lst, ty_tup, ty_str, ty_non, List.map_cons, List.map_nil, List.length_cons, List.length_nil, List.replicate, List.cons_append, List.nil_append, List.getElem?_cons_zero, List.getElem?_cons_succ, List.set_cons_zero, List.set_cons_succ, List.zip_cons_cons, List.zip_nil_right, List.zip_nil_left, Option.some.injEq, exists_eq_left', exists_eq_left, Nat.reduceAdd, Nat.reduceSub, Nat.reduceEqDiff, PyData.bool.injEq, PyData.int.injEq, PyData.list.injEq, PyData.tuple.injEq, if_true, if_false, reduceIte, true_and, and_true, decide_true, decide_false, Bool.false_eq_true, es])
abbrev LE (a0 a2 a3 a4 a5 a6 a7 : Sl) : En := [a0, SP, a2, a3, a4, a5, a6, a7]
def InvL (E : En) (_ : G) : Prop := ∃ a0 a2 a3 a4 a5 a6 a7, E = LE a0 a2 a3 a4 a5 a6 a7
theorem law_ok (d0 : Sl) (g : G) : OkS (mlaw [d0, SP, .no, .no, .no, .no, .no, .no] g) fun q _ _ => q = .ret (.bool true) := by
  unfold mlaw
  refine oks_seqI (P := fun _ _ => True) ?_ fun E' g' _ => ?_
  · rw [oks_sFor]
    (try simp only [fEq_int, fNe_int, ok_eK, ok_lNil, ok_lCons, ok_e2, ok_e1, ok_eF, ok_eTup, ok_nLst, ok_eN, ok_mB, ok_mTru, ok_mNot, ok_mAnd, ok_mOr, ok_eAnd, ok_eOr, ok_eNot, ok_eIf, ok_eIsi, ok_eIsi2, ok_eTyC, ok_eCall, ok_eCallK, ok_oNo, ok_oAt, ok_eSl, ok_iOf, ok_iOfT, ok_iRg1, oks_sNx, oks_sSeq, oks_sSet, oks_sOwn, oks_sDrop, oks_sRet, oks_sIf, oks_sAsg, oks_sPar, oks_sFor, ok_runD, ok_some, oks_some, startE, eV, setsE, Tg.parts, fAdd_int, fAdd_lst, fAdd_tup, fSub_int, fMul_int, fDiv_int, fMod_int, fPow_int, fLt_int, fLe_int, fGt_int, fGe_int, fNeg_int, fIx_lst, fIx_tup, fLen_lst, fLen_tup, fAbs_int, fInt1_int, fInt1_bl, fGcd_int, fTuple_lst, fTuple_tup, fList_lst, fList_tup, fTru_bl, fTru_lst, fTru_tup, fIsB_bl, atI_0, atI_1, ty_int, ty_bl, ty_lst, ty_tup, ty_str, ty_non, List.map_cons, List.map_nil, List.length_cons, List.length_nil, List.replicate, List.cons_append, List.nil_append, List.getElem?_cons_zero, List.getElem?_cons_succ, List.set_cons_zero, List.set_cons_succ, List.zip_cons_cons, List.zip_nil_right, List.zip_nil_left, Option.some.injEq, exists_eq_left', exists_eq_left, Nat.reduceAdd, Nat.reduceSub, Nat.reduceEqDiff, PyData.bool.injEq, PyData.int.injEq, PyData.list.injEq, PyData.tuple.injEq, if_true, if_false, reduceIte, true_and, and_true, decide_true, decide_false, Bool.false_eq_true])
    refine ⟨_, rfl, ⟨by decide, by decide⟩, ?_⟩
    refine (forL_ok (I := InvL) _ _ _ (fun d hd E' g' hi => ?_) ⟨_, _, _, _, _, _, _, rfl⟩).mono fun q E' g' h => h.1
    obtain ⟨i, _, rfl⟩ := mem_ints (n := 5) hd
    obtain ⟨a0, a2, a3, a4, a5, a6, a7, rfl⟩ := hi
    refine ⟨[(2, .int (i : Int))], rfl, ?_⟩
    show OkS (sSeq _ _ (LE a0 (.val (.int (i : Int))) a3 a4 a5 a6 a7) g') _
    refine oks_seqI (P := fun E' _ => ∃ lo hi : Rat, lo < hi ∧ Sz 200 lo ∧ Sz 200 hi ∧ E' = LE a0 (.val (.int (i : Int))) a3 (.val (fr lo)) (.val (fr hi)) a6 a7) ?_ ?_
    · simp only [LE]
      (try simp only [fEq_int, fNe_int, ok_eK, ok_lNil, ok_lCons, ok_e2, ok_e1, ok_eF, ok_eTup, ok_nLst, ok_eN, ok_mB, ok_mTru, ok_mNot, ok_mAnd, ok_mOr, ok_eAnd, ok_eOr, ok_eNot, ok_eIf, ok_eIsi, ok_eIsi2, ok_eTyC, ok_eCall, ok_eCallK, ok_oNo, ok_oAt, ok_eSl, ok_iOf, ok_iOfT, ok_iRg1, oks_sNx, oks_sSeq, oks_sSet, oks_sOwn, oks_sDrop, oks_sRet, oks_sIf, oks_sAsg, oks_sPar, oks_sFor, ok_runD, ok_some, oks_some, startE, eV, setsE, Tg.parts, fAdd_int, fAdd_lst, fAdd_tup, fSub_int, fMul_int, fDiv_int, fMod_int, fPow_int, fLt_int, fLe_int, fGt_int, fGe_int, fNeg_int, fIx_lst, fIx_tup, fLen_lst, fLen_tup, fAbs_int, fInt1_int, fInt1_bl, fGcd_int, fTuple_lst, fTuple_tup, fList_lst, fList_tup, fTru_bl, fTru_lst, fTru_tup, fIsB_bl, atI_0, atI_1, ty_int, ty_bl, ty_lst, ty_tup, ty_str, ty_non, List.map_cons, List.map_nil, List.length_cons, List.length_nil, List.replicate, List.cons_append, List.nil_append, List.getElem?_cons_zero, List.getElem?_cons_succ, List.set_cons_zero, List.set_cons_succ, List.zip_cons_cons, List.zip_nil_right, List.zip_nil_left, Option.some.injEq, exists_eq_left', exists_eq_left, Nat.reduceAdd, Nat.reduceSub, Nat.reduceEqDiff, PyData.bool.injEq, PyData.int.injEq, PyData.list.injEq, PyData.tuple.injEq, if_true, if_false, reduceIte, true_and, and_true, decide_true, decide_false, Bool.false_eq_true])
      refine (axis_ok g').mono fun d g1 ⟨lo, hi, hd, hl, s1, s2⟩ => ?_
      subst hd
      refine ⟨_, rfl, ?_⟩
      (try simp only [fEq_int, fNe_int, ok_eK, ok_lNil, ok_lCons, ok_e2, ok_e1, ok_eF, ok_eTup, ok_nLst, ok_eN, ok_mB, ok_mTru, ok_mNot, ok_mAnd, ok_mOr, ok_eAnd, ok_eOr, ok_eNot, ok_eIf, ok_eIsi, ok_eIsi2, ok_eTyC, ok_eCall, ok_eCallK, ok_oNo, ok_oAt, ok_eSl, ok_iOf, ok_iOfT, ok_iRg1, oks_sNx, oks_sSeq, oks_sSet, oks_sOwn, oks_sDrop, oks_sRet, oks_sIf, oks_sAsg, oks_sPar, oks_sFor, ok_runD, ok_some, oks_some, startE, eV, setsE, Tg.parts, fAdd_int, fAdd_lst, fAdd_tup, fSub_int, fMul_int, fDiv_int, fMod_int, fPow_int, fLt_int, fLe_int, fGt_int, fGe_int, fNeg_int, fIx_lst, fIx_tup, fLen_lst, fLen_tup, fAbs_int, fInt1_int, fInt1_bl, fGcd_int, fTuple_lst, fTuple_tup, fList_lst, fList_tup, fTru_bl, fTru_lst, fTru_tup, fIsB_bl, atI_0, atI_1, ty_int, ty_bl, ty_lst, ty_tup, ty_str, ty_non, List.map_cons, List.map_nil, List.length_cons, List.length_nil, List.replicate, List.cons_append, List.nil_append, List.getElem?_cons_zero, List.getElem?_cons_succ, List.set_cons_zero, List.set_cons_succ, List.zip_cons_cons, List.zip_nil_right, List.zip_nil_left, Option.some.injEq, exists_eq_left', exists_eq_left, Nat.reduceAdd, Nat.reduceSub, Nat.reduceEqDiff, PyData.bool.injEq, PyData.int.injEq, PyData.list.injEq, PyData.tuple.injEq, if_true, if_false, reduceIte, true_and, and_true, decide_true, decide_false, Bool.false_eq_true])
      exact ⟨lo, hi, hl, s1, s2, rfl⟩
    rintro _ g1 ⟨lo, hi, hl, s1, s2, rfl⟩
    refine oks_seqI (P := fun E' _ => ∃ w : Int, 2 ≤ w ∧ w ≤ 10 ∧ E' = LE a0 (.val (.int (i : Int))) (.val (.int w)) (.val (fr lo)) (.val (fr hi)) a6 a7) ?_ ?_
    · simp only [LE]
      (try simp only [fEq_int, fNe_int, ok_eK, ok_lNil, ok_lCons, ok_e2, ok_e1, ok_eF, ok_eTup, ok_nLst, ok_eN, ok_mB, ok_mTru, ok_mNot, ok_mAnd, ok_mOr, ok_eAnd, ok_eOr, ok_eNot, ok_eIf, ok_eIsi, ok_eIsi2, ok_eTyC, ok_eCall, ok_eCallK, ok_oNo, ok_oAt, ok_eSl, ok_iOf, ok_iOfT, ok_iRg1, oks_sNx, oks_sSeq, oks_sSet, oks_sOwn, oks_sDrop, oks_sRet, oks_sIf, oks_sAsg, oks_sPar, oks_sFor, ok_runD, ok_some, oks_some, startE, eV, setsE, Tg.parts, fAdd_int, fAdd_lst, fAdd_tup, fSub_int, fMul_int, fDiv_int, fMod_int, fPow_int, fLt_int, fLe_int, fGt_int, fGe_int, fNeg_int, fIx_lst, fIx_tup, fLen_lst, fLen_tup, fAbs_int, fInt1_int, fInt1_bl, fGcd_int, fTuple_lst, fTuple_tup, fList_lst, fList_tup, fTru_bl, fTru_lst, fTru_tup, fIsB_bl, atI_0, atI_1, ty_int, ty_bl, ty_lst, ty_tup, ty_str, ty_non, List.map_cons, List.map_nil, List.length_cons, List.length_nil, List.replicate, List.cons_append, List.nil_append, List.getElem?_cons_zero, List.getElem?_cons_succ, List.set_cons_zero, List.set_cons_succ, List.zip_cons_cons, List.zip_nil_right, List.zip_nil_left, Option.some.injEq, exists_eq_left', exists_eq_left, Nat.reduceAdd, Nat.reduceSub, Nat.reduceEqDiff, PyData.bool.injEq, PyData.int.injEq, PyData.list.injEq, PyData.tuple.injEq, if_true, if_false, reduceIte, true_and, and_true, decide_true, decide_false, Bool.false_eq_true])
      refine drop_then (by decide) (by exact small9 (by decide)) fun v g2 v0 v1 => ?_
      (try simp only [fEq_int, fNe_int, ok_eK, ok_lNil, ok_lCons, ok_e2, ok_e1, ok_eF, ok_eTup, ok_nLst, ok_eN, ok_mB, ok_mTru, ok_mNot, ok_mAnd, ok_mOr, ok_eAnd, ok_eOr, ok_eNot, ok_eIf, ok_eIsi, ok_eIsi2, ok_eTyC, ok_eCall, ok_eCallK, ok_oNo, ok_oAt, ok_eSl, ok_iOf, ok_iOfT, ok_iRg1, oks_sNx, oks_sSeq, oks_sSet, oks_sOwn, oks_sDrop, oks_sRet, oks_sIf, oks_sAsg, oks_sPar, oks_sFor, ok_runD, ok_some, oks_some, startE, eV, setsE, Tg.parts, fAdd_int, fAdd_lst, fAdd_tup, fSub_int, fMul_int, fDiv_int, fMod_int, fPow_int, fLt_int, fLe_int, fGt_int, fGe_int, fNeg_int, fIx_lst, fIx_tup, fLen_lst, fLen_tup, fAbs_int, fInt1_int, fInt1_bl, fGcd_int, fTuple_lst, fTuple_tup, fList_lst, fList_tup, fTru_bl, fTru_lst, fTru_tup, fIsB_bl, atI_0, atI_1, ty_int, ty_bl, ty_lst, ty_tup, ty_str, ty_non, List.map_cons, List.map_nil, List.length_cons, List.length_nil, List.replicate, List.cons_append, List.nil_append, List.getElem?_cons_zero, List.getElem?_cons_succ, List.set_cons_zero, List.set_cons_succ, List.zip_cons_cons, List.zip_nil_right, List.zip_nil_left, Option.some.injEq, exists_eq_left', exists_eq_left, Nat.reduceAdd, Nat.reduceSub, Nat.reduceEqDiff, PyData.bool.injEq, PyData.int.injEq, PyData.list.injEq, PyData.tuple.injEq, if_true, if_false, reduceIte, true_and, and_true, decide_true, decide_false, Bool.false_eq_true])
      exact ⟨2 + v, by omega, by omega, rfl⟩
    rintro _ g2 ⟨w, w1, w2, rfl⟩
    have A := Ax.of s1 s2 hl
    obtain ⟨m, x, l, C⟩ := canon A
    have hb := M5.bst_mem (dst lo hi w) l x
    have ct := C.tk w w1 w2
    generalize M5.bst (dst lo hi w) x l = b at hb ct
    simp only [row_eq lo hi] at ct
    refine oks_seqI (P := fun E' g' => g' = g2 ∧ E' = LE a0 (.val (.int (i : Int))) (.val (.int w)) (.val (fr lo)) (.val (fr hi)) (.val (fr (u b))) (.val (.tuple ((vals lo (u b) (M5.cnt lo hi (u b)).toNat).map fr)))) ?_ ?_
    · simp only [LE]
      (try simp only [fEq_int, fNe_int, ok_eK, ok_lNil, ok_lCons, ok_e2, ok_e1, ok_eF, ok_eTup, ok_nLst, ok_eN, ok_mB, ok_mTru, ok_mNot, ok_mAnd, ok_mOr, ok_eAnd, ok_eOr, ok_eNot, ok_eIf, ok_eIsi, ok_eIsi2, ok_eTyC, ok_eCall, ok_eCallK, ok_oNo, ok_oAt, ok_eSl, ok_iOf, ok_iOfT, ok_iRg1, oks_sNx, oks_sSeq, oks_sSet, oks_sOwn, oks_sDrop, oks_sRet, oks_sIf, oks_sAsg, oks_sPar, oks_sFor, ok_runD, ok_some, oks_some, startE, eV, setsE, Tg.parts, fAdd_int, fAdd_lst, fAdd_tup, fSub_int, fMul_int, fDiv_int, fMod_int, fPow_int, fLt_int, fLe_int, fGt_int, fGe_int, fNeg_int, fIx_lst, fIx_tup, fLen_lst, fLen_tup, fAbs_int, fInt1_int, fInt1_bl, fGcd_int, fTuple_lst, fTuple_tup, fList_lst, fList_tup, fTru_bl, fTru_lst, fTru_tup, fIsB_bl, atI_0, atI_1, ty_int, ty_bl, ty_lst, ty_tup, ty_str, ty_non, List.map_cons, List.map_nil, List.length_cons, List.length_nil, List.replicate, List.cons_append, List.nil_append, List.getElem?_cons_zero, List.getElem?_cons_succ, List.set_cons_zero, List.set_cons_succ, List.zip_cons_cons, List.zip_nil_right, List.zip_nil_left, Option.some.injEq, exists_eq_left', exists_eq_left, Nat.reduceAdd, Nat.reduceSub, Nat.reduceEqDiff, PyData.bool.injEq, PyData.int.injEq, PyData.list.injEq, PyData.tuple.injEq, if_true, if_false, reduceIte, true_and, and_true, decide_true, decide_false, Bool.false_eq_true])
      rw [ok_eq (ct g2)]
      refine ⟨_, rfl, ?_⟩
      (try simp only [fEq_int, fNe_int, ok_eK, ok_lNil, ok_lCons, ok_e2, ok_e1, ok_eF, ok_eTup, ok_nLst, ok_eN, ok_mB, ok_mTru, ok_mNot, ok_mAnd, ok_mOr, ok_eAnd, ok_eOr, ok_eNot, ok_eIf, ok_eIsi, ok_eIsi2, ok_eTyC, ok_eCall, ok_eCallK, ok_oNo, ok_oAt, ok_eSl, ok_iOf, ok_iOfT, ok_iRg1, oks_sNx, oks_sSeq, oks_sSet, oks_sOwn, oks_sDrop, oks_sRet, oks_sIf, oks_sAsg, oks_sPar, oks_sFor, ok_runD, ok_some, oks_some, startE, eV, setsE, Tg.parts, fAdd_int, fAdd_lst, fAdd_tup, fSub_int, fMul_int, fDiv_int, fMod_int, fPow_int, fLt_int, fLe_int, fGt_int, fGe_int, fNeg_int, fIx_lst, fIx_tup, fLen_lst, fLen_tup, fAbs_int, fInt1_int, fInt1_bl, fGcd_int, fTuple_lst, fTuple_tup, fList_lst, fList_tup, fTru_bl, fTru_lst, fTru_tup, fIsB_bl, atI_0, atI_1, ty_int, ty_bl, ty_lst, ty_tup, ty_str, ty_non, List.map_cons, List.map_nil, List.length_cons, List.length_nil, List.replicate, List.cons_append, List.nil_append, List.getElem?_cons_zero, List.getElem?_cons_succ, List.set_cons_zero, List.set_cons_succ, List.zip_cons_cons, List.zip_nil_right, List.zip_nil_left, Option.some.injEq, exists_eq_left', exists_eq_left, Nat.reduceAdd, Nat.reduceSub, Nat.reduceEqDiff, PyData.bool.injEq, PyData.int.injEq, PyData.list.injEq, PyData.tuple.injEq, if_true, if_false, reduceIte, true_and, and_true, decide_true, decide_false, Bool.false_eq_true])
      try exact ⟨rfl, rfl⟩
    rintro _ g3 ⟨rfl, rfl⟩
    have vk := values_ok s1 s2 hl C hb g3
    refine oks_seqI (P := fun E' g' => g' = g3 ∧ E' = LE a0 (.val (.int (i : Int))) (.val (.int w)) (.val (fr lo)) (.val (fr hi)) (.val (fr (u b))) (.val (.tuple ((vals lo (u b) (M5.cnt lo hi (u b)).toNat).map fr)))) ?_ ?_
    · simp only [LE]
      (try simp only [fEq_int, fNe_int, ok_eK, ok_lNil, ok_lCons, ok_e2, ok_e1, ok_eF, ok_eTup, ok_nLst, ok_eN, ok_mB, ok_mTru, ok_mNot, ok_mAnd, ok_mOr, ok_eAnd, ok_eOr, ok_eNot, ok_eIf, ok_eIsi, ok_eIsi2, ok_eTyC, ok_eCall, ok_eCallK, ok_oNo, ok_oAt, ok_eSl, ok_iOf, ok_iOfT, ok_iRg1, oks_sNx, oks_sSeq, oks_sSet, oks_sOwn, oks_sDrop, oks_sRet, oks_sIf, oks_sAsg, oks_sPar, oks_sFor, ok_runD, ok_some, oks_some, startE, eV, setsE, Tg.parts, fAdd_int, fAdd_lst, fAdd_tup, fSub_int, fMul_int, fDiv_int, fMod_int, fPow_int, fLt_int, fLe_int, fGt_int, fGe_int, fNeg_int, fIx_lst, fIx_tup, fLen_lst, fLen_tup, fAbs_int, fInt1_int, fInt1_bl, fGcd_int, fTuple_lst, fTuple_tup, fList_lst, fList_tup, fTru_bl, fTru_lst, fTru_tup, fIsB_bl, atI_0, atI_1, ty_int, ty_bl, ty_lst, ty_tup, ty_str, ty_non, List.map_cons, List.map_nil, List.length_cons, List.length_nil, List.replicate, List.cons_append, List.nil_append, List.getElem?_cons_zero, List.getElem?_cons_succ, List.set_cons_zero, List.set_cons_succ, List.zip_cons_cons, List.zip_nil_right, List.zip_nil_left, Option.some.injEq, exists_eq_left', exists_eq_left, Nat.reduceAdd, Nat.reduceSub, Nat.reduceEqDiff, PyData.bool.injEq, PyData.int.injEq, PyData.list.injEq, PyData.tuple.injEq, if_true, if_false, reduceIte, true_and, and_true, decide_true, decide_false, Bool.false_eq_true])
      rw [ok_eq (alike_ok s1 s2 hl w1 w2 g3)]
      (try simp only [fEq_int, fNe_int, ok_eK, ok_lNil, ok_lCons, ok_e2, ok_e1, ok_eF, ok_eTup, ok_nLst, ok_eN, ok_mB, ok_mTru, ok_mNot, ok_mAnd, ok_mOr, ok_eAnd, ok_eOr, ok_eNot, ok_eIf, ok_eIsi, ok_eIsi2, ok_eTyC, ok_eCall, ok_eCallK, ok_oNo, ok_oAt, ok_eSl, ok_iOf, ok_iOfT, ok_iRg1, oks_sNx, oks_sSeq, oks_sSet, oks_sOwn, oks_sDrop, oks_sRet, oks_sIf, oks_sAsg, oks_sPar, oks_sFor, ok_runD, ok_some, oks_some, startE, eV, setsE, Tg.parts, fAdd_int, fAdd_lst, fAdd_tup, fSub_int, fMul_int, fDiv_int, fMod_int, fPow_int, fLt_int, fLe_int, fGt_int, fGe_int, fNeg_int, fIx_lst, fIx_tup, fLen_lst, fLen_tup, fAbs_int, fInt1_int, fInt1_bl, fGcd_int, fTuple_lst, fTuple_tup, fList_lst, fList_tup, fTru_bl, fTru_lst, fTru_tup, fIsB_bl, atI_0, atI_1, ty_int, ty_bl, ty_lst, ty_tup, ty_str, ty_non, List.map_cons, List.map_nil, List.length_cons, List.length_nil, List.replicate, List.cons_append, List.nil_append, List.getElem?_cons_zero, List.getElem?_cons_succ, List.set_cons_zero, List.set_cons_succ, List.zip_cons_cons, List.zip_nil_right, List.zip_nil_left, Option.some.injEq, exists_eq_left', exists_eq_left, Nat.reduceAdd, Nat.reduceSub, Nat.reduceEqDiff, PyData.bool.injEq, PyData.int.injEq, PyData.list.injEq, PyData.tuple.injEq, if_true, if_false, reduceIte, true_and, and_true, decide_true, decide_false, Bool.false_eq_true, Bool.not_true])
      rw [ok_eq vk]
      (try simp only [fEq_int, fNe_int, ok_eK, ok_lNil, ok_lCons, ok_e2, ok_e1, ok_eF, ok_eTup, ok_nLst, ok_eN, ok_mB, ok_mTru, ok_mNot, ok_mAnd, ok_mOr, ok_eAnd, ok_eOr, ok_eNot, ok_eIf, ok_eIsi, ok_eIsi2, ok_eTyC, ok_eCall, ok_eCallK, ok_oNo, ok_oAt, ok_eSl, ok_iOf, ok_iOfT, ok_iRg1, oks_sNx, oks_sSeq, oks_sSet, oks_sOwn, oks_sDrop, oks_sRet, oks_sIf, oks_sAsg, oks_sPar, oks_sFor, ok_runD, ok_some, oks_some, startE, eV, setsE, Tg.parts, fAdd_int, fAdd_lst, fAdd_tup, fSub_int, fMul_int, fDiv_int, fMod_int, fPow_int, fLt_int, fLe_int, fGt_int, fGe_int, fNeg_int, fIx_lst, fIx_tup, fLen_lst, fLen_tup, fAbs_int, fInt1_int, fInt1_bl, fGcd_int, fTuple_lst, fTuple_tup, fList_lst, fList_tup, fTru_bl, fTru_lst, fTru_tup, fIsB_bl, atI_0, atI_1, ty_int, ty_bl, ty_lst, ty_tup, ty_str, ty_non, List.map_cons, List.map_nil, List.length_cons, List.length_nil, List.replicate, List.cons_append, List.nil_append, List.getElem?_cons_zero, List.getElem?_cons_succ, List.set_cons_zero, List.set_cons_succ, List.zip_cons_cons, List.zip_nil_right, List.zip_nil_left, Option.some.injEq, exists_eq_left', exists_eq_left, Nat.reduceAdd, Nat.reduceSub, Nat.reduceEqDiff, PyData.bool.injEq, PyData.int.injEq, PyData.list.injEq, PyData.tuple.injEq, if_true, if_false, reduceIte, true_and, and_true, decide_true, decide_false, Bool.false_eq_true, Bool.not_true])
      try exact ⟨rfl, rfl⟩
    rintro _ g4 ⟨rfl, rfl⟩
    simp only [LE]
    (try simp only [fEq_int, fNe_int, ok_eK, ok_lNil, ok_lCons, ok_e2, ok_e1, ok_eF, ok_eTup, ok_nLst, ok_eN, ok_mB, ok_mTru, ok_mNot, ok_mAnd, ok_mOr, ok_eAnd, ok_eOr, ok_eNot, ok_eIf, ok_eIsi, ok_eIsi2, ok_eTyC, ok_eCall, ok_eCallK, ok_oNo, ok_oAt, ok_eSl, ok_iOf, ok_iOfT, ok_iRg1, oks_sNx, oks_sSeq, oks_sSet, oks_sOwn, oks_sDrop, oks_sRet, oks_sIf, oks_sAsg, oks_sPar, oks_sFor, ok_runD, ok_some, oks_some, startE, eV, setsE, Tg.parts, fAdd_int, fAdd_lst, fAdd_tup, fSub_int, fMul_int, fDiv_int, fMod_int, fPow_int, fLt_int, fLe_int, fGt_int, fGe_int, fNeg_int, fIx_lst, fIx_tup, fLen_lst, fLen_tup, fAbs_int, fInt1_int, fInt1_bl, fGcd_int, fTuple_lst, fTuple_tup, fList_lst, fList_tup, fTru_bl, fTru_lst, fTru_tup, fIsB_bl, atI_0, atI_1, ty_int, ty_bl, ty_lst, ty_tup, ty_str, ty_non, List.map_cons, List.map_nil, List.length_cons, List.length_nil, List.replicate, List.cons_append, List.nil_append, List.getElem?_cons_zero, List.getElem?_cons_succ, List.set_cons_zero, List.set_cons_succ, List.zip_cons_cons, List.zip_nil_right, List.zip_nil_left, Option.some.injEq, exists_eq_left', exists_eq_left, Nat.reduceAdd, Nat.reduceSub, Nat.reduceEqDiff, PyData.bool.injEq, PyData.int.injEq, PyData.list.injEq, PyData.tuple.injEq, if_true, if_false, reduceIte, true_and, and_true, decide_true, decide_false, Bool.false_eq_true])
    refine (moved_ok s1 s2 hl w1 w2 g4).mono fun d g5 hd => ?_
    subst hd
    (try simp only [fEq_int, fNe_int, ok_eK, ok_lNil, ok_lCons, ok_e2, ok_e1, ok_eF, ok_eTup, ok_nLst, ok_eN, ok_mB, ok_mTru, ok_mNot, ok_mAnd, ok_mOr, ok_eAnd, ok_eOr, ok_eNot, ok_eIf, ok_eIsi, ok_eIsi2, ok_eTyC, ok_eCall, ok_eCallK, ok_oNo, ok_oAt, ok_eSl, ok_iOf, ok_iOfT, ok_iRg1, oks_sNx, oks_sSeq, oks_sSet, oks_sOwn, oks_sDrop, oks_sRet, oks_sIf, oks_sAsg, oks_sPar, oks_sFor, ok_runD, ok_some, oks_some, startE, eV, setsE, Tg.parts, fAdd_int, fAdd_lst, fAdd_tup, fSub_int, fMul_int, fDiv_int, fMod_int, fPow_int, fLt_int, fLe_int, fGt_int, fGe_int, fNeg_int, fIx_lst, fIx_tup, fLen_lst, fLen_tup, fAbs_int, fInt1_int, fInt1_bl, fGcd_int, fTuple_lst, fTuple_tup, fList_lst, fList_tup, fTru_bl, fTru_lst, fTru_tup, fIsB_bl, atI_0, atI_1, ty_int, ty_bl, ty_lst, ty_tup, ty_str, ty_non, List.map_cons, List.map_nil, List.length_cons, List.length_nil, List.replicate, List.cons_append, List.nil_append, List.getElem?_cons_zero, List.getElem?_cons_succ, List.set_cons_zero, List.set_cons_succ, List.zip_cons_cons, List.zip_nil_right, List.zip_nil_left, Option.some.injEq, exists_eq_left', exists_eq_left, Nat.reduceAdd, Nat.reduceSub, Nat.reduceEqDiff, PyData.bool.injEq, PyData.int.injEq, PyData.list.injEq, PyData.tuple.injEq, if_true, if_false, reduceIte, true_and, and_true, decide_true, decide_false, Bool.false_eq_true, Bool.not_true])
    refine (spans_ok g5).mono fun d g6 hd => ?_
    subst hd
    (try simp only [fEq_int, fNe_int, ok_eK, ok_lNil, ok_lCons, ok_e2, ok_e1, ok_eF, ok_eTup, ok_nLst, ok_eN, ok_mB, ok_mTru, ok_mNot, ok_mAnd, ok_mOr, ok_eAnd, ok_eOr, ok_eNot, ok_eIf, ok_eIsi, ok_eIsi2, ok_eTyC, ok_eCall, ok_eCallK, ok_oNo, ok_oAt, ok_eSl, ok_iOf, ok_iOfT, ok_iRg1, oks_sNx, oks_sSeq, oks_sSet, oks_sOwn, oks_sDrop, oks_sRet, oks_sIf, oks_sAsg, oks_sPar, oks_sFor, ok_runD, ok_some, oks_some, startE, eV, setsE, Tg.parts, fAdd_int, fAdd_lst, fAdd_tup, fSub_int, fMul_int, fDiv_int, fMod_int, fPow_int, fLt_int, fLe_int, fGt_int, fGe_int, fNeg_int, fIx_lst, fIx_tup, fLen_lst, fLen_tup, fAbs_int, fInt1_int, fInt1_bl, fGcd_int, fTuple_lst, fTuple_tup, fList_lst, fList_tup, fTru_bl, fTru_lst, fTru_tup, fIsB_bl, atI_0, atI_1, ty_int, ty_bl, ty_lst, ty_tup, ty_str, ty_non, List.map_cons, List.map_nil, List.length_cons, List.length_nil, List.replicate, List.cons_append, List.nil_append, List.getElem?_cons_zero, List.getElem?_cons_succ, List.set_cons_zero, List.set_cons_succ, List.zip_cons_cons, List.zip_nil_right, List.zip_nil_left, Option.some.injEq, exists_eq_left', exists_eq_left, Nat.reduceAdd, Nat.reduceSub, Nat.reduceEqDiff, PyData.bool.injEq, PyData.int.injEq, PyData.list.injEq, PyData.tuple.injEq, if_true, if_false, reduceIte, true_and, and_true, decide_true, decide_false, Bool.false_eq_true, Bool.not_true])
    exact ⟨_, _, _, _, _, _, _, rfl⟩
  · (try simp only [fEq_int, fNe_int, ok_eK, ok_lNil, ok_lCons, ok_e2, ok_e1, ok_eF, ok_eTup, ok_nLst, ok_eN, ok_mB, ok_mTru, ok_mNot, ok_mAnd, ok_mOr, ok_eAnd, ok_eOr, ok_eNot, ok_eIf, ok_eIsi, ok_eIsi2, ok_eTyC, ok_eCall, ok_eCallK, ok_oNo, ok_oAt, ok_eSl, ok_iOf, ok_iOfT, ok_iRg1, oks_sNx, oks_sSeq, oks_sSet, oks_sOwn, oks_sDrop, oks_sRet, oks_sIf, oks_sAsg, oks_sPar, oks_sFor, ok_runD, ok_some, oks_some, startE, eV, setsE, Tg.parts, fAdd_int, fAdd_lst, fAdd_tup, fSub_int, fMul_int, fDiv_int, fMod_int, fPow_int, fLt_int, fLe_int, fGt_int, fGe_int, fNeg_int, fIx_lst, fIx_tup, fLen_lst, fLen_tup, fAbs_int, fInt1_int, fInt1_bl, fGcd_int, fTuple_lst, fTuple_tup, fList_lst, fList_tup, fTru_bl, fTru_lst, fTru_tup, fIsB_bl, atI_0, atI_1, ty_int, ty_bl, ty_lst, ty_tup, ty_str, ty_non, List.map_cons, List.map_nil, List.length_cons, List.length_nil, List.replicate, List.cons_append, List.nil_append, List.getElem?_cons_zero, List.getElem?_cons_succ, List.set_cons_zero, List.set_cons_succ, List.zip_cons_cons, List.zip_nil_right, List.zip_nil_left, Option.some.injEq, exists_eq_left', exists_eq_left, Nat.reduceAdd, Nat.reduceSub, Nat.reduceEqDiff, PyData.bool.injEq, PyData.int.injEq, PyData.list.injEq, PyData.tuple.injEq, if_true, if_false, reduceIte, true_and, and_true, decide_true, decide_false, Bool.false_eq_true])
end K06

set_option Elab.async false
set_option linter.all false
set_option maxRecDepth 100000
set_option maxHeartbeats 4000000
namespace K06
open PySem PySem.Spec PyProof.Rows L2 DL
/-- where a def stands -/
def At (K : PySem.W.Frag) (mg : Str → Option Value) (x : Str) (st : Stmt) : Prop := ∃ fa fd, Fun K x x st fa fd ∧ mg x = some (.ref fa)
def AtC (K : PySem.W.Frag) (mg : Str → Option Value) (x : Str) (st : Stmt) (c : Addr) : Prop := ∃ fa fd, FunC K x x st fa fd c ∧ mg x = some (.ref fa)

structure Fs (K : PySem.W.Frag) (mg : Str → Option Value) (c0 : Addr) : Prop where
  f__law_spring : At K mg "_law_spring" s_law_spring
  f__law_drop : At K mg "_law_drop" s_law_drop
  f__law_low : At K mg "_law_low" s_law_low
  f__law_number : At K mg "_law_number" s_law_number
  f__law_end : At K mg "_law_end" s_law_end
  f__law_plus : At K mg "_law_plus" s_law_plus
  f__law_below : At K mg "_law_below" s_law_below
  f__law_times : At K mg "_law_times" s_law_times
  f__law_axis : At K mg "_law_axis" s_law_axis
  f_is_tuple_of : At K mg "is_tuple_of" sis_tuple_of
  f_is_integer : At K mg "is_integer" sis_integer
  f_is_fraction : At K mg "is_fraction" sis_fraction
  f__check_fractions : AtC K mg "_check_fractions" s_check_fractions c0
  f__check_both : At K mg "_check_both" s_check_both
  f_below : At K mg "below" sbelow
  f__check_ends : At K mg "_check_ends" s_check_ends
  f__exponent_near : At K mg "_exponent_near" s_exponent_near
  f__reduced : At K mg "_reduced" s_reduced
  f_minus : At K mg "minus" sminus
  f_fraction : At K mg "fraction" sfraction
  f_power_of_ten : At K mg "power_of_ten" spower_of_ten
  f__step : At K mg "_step" s_step
  f__floor_over : At K mg "_floor_over" s_floor_over
  f__steps : At K mg "_steps" s_steps
  f_is_between : At K mg "is_between" sis_between
  f__distance : At K mg "_distance" s_distance
  f_times : At K mg "times" stimes
  f_ticks : At K mg "ticks" sticks
  f_steps_within : At K mg "steps_within" ssteps_within
  f__law_turned : At K mg "_law_turned" s_law_turned
  f__law_alike_axes : At K mg "_law_alike_axes" s_law_alike_axes
  f__law_minus : At K mg "_law_minus" s_law_minus
  f__law_values_right : At K mg "_law_values_right" s_law_values_right
  f_over : At K mg "over" sover
  f_placed : At K mg "placed" splaced
  f__law_moved_right : At K mg "_law_moved_right" s_law_moved_right
  f__check_numbers : At K mg "_check_numbers" s_check_numbers
  f_plus : At K mg "plus" splus
  f_span_of : At K mg "span_of" sspan_of
  f__law_spans_right : At K mg "_law_spans_right" s_law_spans_right
section
variable {P : Program} {w : World} {K : PySem.W.Frag} {mg : Str → Option Value} {base : Heap} {c0 Pc0 : Addr}
theorem rest_ok {k : Kx} (ho : k.on = true ∧ k.wl = false) (hPc0 : Pc0 ∈ k.T) (T : Tx mg) (D : Fs k.K mg c0) (TBc0 : GxR.TabB base mg c0 Pc0) {fa : Addr} (cdv : Value) (A : Around) (outer : List Env) (s : Shared) (H : Hp) (E : XK) (f : Fx) (hr : Room 7 (A.deeper (envOfC "law" (defScope slaw) s.heap.objs.size fa cdv))) :
    PSs (cxOf CX0 P w k.K mg base ["script", "spring", "turn", "wished", "low", "high", "step", "values"] "law" (defScope slaw) fa cdv A outer s H E).nox ((defBody slaw).drop 1) (tS k f [] mlaw) := by
  obtain ⟨a_law_drop, d_law_drop, n_law_drop, g_law_drop⟩ := D.f__law_drop
  have h_law_drop := (ok_law_drop (P := P) (w := w) (base := base) T ho n_law_drop g_law_drop).imp drop_imp
  obtain ⟨a_law_low, d_law_low, n_law_low, g_law_low⟩ := D.f__law_low
  have h_law_low := ok_law_low (P := P) (w := w) (base := base) T  n_law_low g_law_low
  obtain ⟨a_law_number, d_law_number, n_law_number, g_law_number⟩ := D.f__law_number
  have h_law_number := ok_law_number (P := P) (w := w) (base := base) T h_law_drop h_law_low n_law_number g_law_number
  obtain ⟨a_law_end, d_law_end, n_law_end, g_law_end⟩ := D.f__law_end
  have h_law_end := ok_law_end (P := P) (w := w) (base := base) T h_law_drop h_law_number h_law_low n_law_end g_law_end
  obtain ⟨a_law_plus, d_law_plus, n_law_plus, g_law_plus⟩ := D.f__law_plus
  have h_law_plus := ok_law_plus (P := P) (w := w) (base := base) T h_law_low n_law_plus g_law_plus
  obtain ⟨a_law_below, d_law_below, n_law_below, g_law_below⟩ := D.f__law_below
  have h_law_below := ok_law_below (P := P) (w := w) (base := base) T  n_law_below g_law_below
  obtain ⟨a_law_times, d_law_times, n_law_times, g_law_times⟩ := D.f__law_times
  have h_law_times := ok_law_times (P := P) (w := w) (base := base) T h_law_low n_law_times g_law_times
  obtain ⟨a_law_axis, d_law_axis, n_law_axis, g_law_axis⟩ := D.f__law_axis
  have h_law_axis := ok_law_axis (P := P) (w := w) (base := base) T h_law_drop h_law_end h_law_plus h_law_low h_law_below h_law_times n_law_axis g_law_axis
  obtain ⟨ais_tuple_of, dis_tuple_of, nis_tuple_of, gis_tuple_of⟩ := D.f_is_tuple_of
  have his_tuple_of := okis_tuple_of (P := P) (w := w) (base := base) T  nis_tuple_of gis_tuple_of
  obtain ⟨ais_integer, dis_integer, nis_integer, gis_integer⟩ := D.f_is_integer
  have his_integer := okis_integer (P := P) (w := w) (base := base) T  nis_integer gis_integer
  obtain ⟨ais_fraction, dis_fraction, nis_fraction, gis_fraction⟩ := D.f_is_fraction
  have his_fraction := okis_fraction (P := P) (w := w) (base := base) T his_tuple_of his_integer nis_fraction gis_fraction
  obtain ⟨a_check_fractions, d_check_fractions, n_check_fractions, g_check_fractions⟩ := D.f__check_fractions
  have h_check_fractions := ok_check_fractions (P := P) (w := w) (base := base) T his_fraction n_check_fractions g_check_fractions hPc0 TBc0
  obtain ⟨a_check_both, d_check_both, n_check_both, g_check_both⟩ := D.f__check_both
  have h_check_both := ok_check_both (P := P) (w := w) (base := base) T his_fraction n_check_both g_check_both
  obtain ⟨abelow, dbelow, nbelow, gbelow⟩ := D.f_below
  have hbelow := okbelow (P := P) (w := w) (base := base) T h_check_both nbelow gbelow
  obtain ⟨a_check_ends, d_check_ends, n_check_ends, g_check_ends⟩ := D.f__check_ends
  have h_check_ends := ok_check_ends (P := P) (w := w) (base := base) T hbelow n_check_ends g_check_ends
  obtain ⟨a_exponent_near, d_exponent_near, n_exponent_near, g_exponent_near⟩ := D.f__exponent_near
  have h_exponent_near := ok_exponent_near (P := P) (w := w) (base := base) T  n_exponent_near g_exponent_near
  obtain ⟨a_reduced, d_reduced, n_reduced, g_reduced⟩ := D.f__reduced
  have h_reduced := ok_reduced (P := P) (w := w) (base := base) T  n_reduced g_reduced
  obtain ⟨aminus, dminus, nminus, gminus⟩ := D.f_minus
  have hminus := okminus (P := P) (w := w) (base := base) T h_check_both h_reduced nminus gminus
  obtain ⟨afraction, dfraction, nfraction, gfraction⟩ := D.f_fraction
  have hfraction := okfraction (P := P) (w := w) (base := base) T h_reduced his_integer nfraction gfraction
  obtain ⟨apower_of_ten, dpower_of_ten, npower_of_ten, gpower_of_ten⟩ := D.f_power_of_ten
  have hpower_of_ten := okpower_of_ten (P := P) (w := w) (base := base) T  npower_of_ten gpower_of_ten
  obtain ⟨a_step, d_step, n_step, g_step⟩ := D.f__step
  have h_step := ok_step (P := P) (w := w) (base := base) T hfraction hpower_of_ten n_step g_step
  obtain ⟨a_floor_over, d_floor_over, n_floor_over, g_floor_over⟩ := D.f__floor_over
  have h_floor_over := ok_floor_over (P := P) (w := w) (base := base) T  n_floor_over g_floor_over
  obtain ⟨a_steps, d_steps, n_steps, g_steps⟩ := D.f__steps
  have h_steps := ok_steps (P := P) (w := w) (base := base) T h_exponent_near hminus h_step h_floor_over n_steps g_steps
  obtain ⟨ais_between, dis_between, nis_between, gis_between⟩ := D.f_is_between
  have his_between := okis_between (P := P) (w := w) (base := base) T  nis_between gis_between
  obtain ⟨a_distance, d_distance, n_distance, g_distance⟩ := D.f__distance
  have h_distance := ok_distance (P := P) (w := w) (base := base) T  n_distance g_distance
  obtain ⟨atimes, dtimes, ntimes, gtimes⟩ := D.f_times
  have htimes := oktimes (P := P) (w := w) (base := base) T h_check_both h_reduced ntimes gtimes
  obtain ⟨aticks, dticks, nticks, gticks⟩ := D.f_ticks
  have hticks := okticks (P := P) (w := w) (base := base) T h_check_fractions h_check_ends h_steps his_between h_distance htimes nticks gticks
  obtain ⟨asteps_within, dsteps_within, nsteps_within, gsteps_within⟩ := D.f_steps_within
  have hsteps_within := oksteps_within (P := P) (w := w) (base := base) T h_check_fractions h_check_ends h_steps nsteps_within gsteps_within
  obtain ⟨a_law_turned, d_law_turned, n_law_turned, g_law_turned⟩ := D.f__law_turned
  have h_law_turned := ok_law_turned (P := P) (w := w) (base := base) T  n_law_turned g_law_turned
  obtain ⟨a_law_alike_axes, d_law_alike_axes, n_law_alike_axes, g_law_alike_axes⟩ := D.f__law_alike_axes
  have h_law_alike_axes := ok_law_alike_axes (P := P) (w := w) (base := base) T hticks hsteps_within h_law_turned h_law_times n_law_alike_axes g_law_alike_axes
  obtain ⟨a_law_minus, d_law_minus, n_law_minus, g_law_minus⟩ := D.f__law_minus
  have h_law_minus := ok_law_minus (P := P) (w := w) (base := base) T h_law_plus n_law_minus g_law_minus
  obtain ⟨a_law_values_right, d_law_values_right, n_law_values_right, g_law_values_right⟩ := D.f__law_values_right
  have h_law_values_right := ok_law_values_right (P := P) (w := w) (base := base) T h_law_low h_law_below h_law_minus h_law_plus n_law_values_right g_law_values_right
  obtain ⟨aover, dover, nover, gover⟩ := D.f_over
  have hover := okover (P := P) (w := w) (base := base) T h_check_both h_reduced nover gover
  obtain ⟨aplaced, dplaced, nplaced, gplaced⟩ := D.f_placed
  have hplaced := okplaced (P := P) (w := w) (base := base) T h_check_fractions h_check_ends hover htimes hminus nplaced gplaced
  obtain ⟨a_law_moved_right, d_law_moved_right, n_law_moved_right, g_law_moved_right⟩ := D.f__law_moved_right
  have h_law_moved_right := ok_law_moved_right (P := P) (w := w) (base := base) T hticks h_law_times hsteps_within h_law_plus hplaced h_law_low h_law_minus h_law_drop n_law_moved_right g_law_moved_right
  obtain ⟨a_check_numbers, d_check_numbers, n_check_numbers, g_check_numbers⟩ := D.f__check_numbers
  have h_check_numbers := ok_check_numbers (P := P) (w := w) (base := base) T h_check_fractions n_check_numbers g_check_numbers
  obtain ⟨aplus, dplus, nplus, gplus⟩ := D.f_plus
  have hplus := okplus (P := P) (w := w) (base := base) T h_check_both h_reduced nplus gplus
  obtain ⟨aspan_of, dspan_of, nspan_of, gspan_of⟩ := D.f_span_of
  have hspan_of := okspan_of (P := P) (w := w) (base := base) T h_check_numbers hbelow hplus nspan_of gspan_of
  obtain ⟨a_law_spans_right, d_law_spans_right, n_law_spans_right, g_law_spans_right⟩ := D.f__law_spans_right
  have h_law_spans_right := ok_law_spans_right (P := P) (w := w) (base := base) T hspan_of h_law_drop h_law_below h_law_end h_law_minus n_law_spans_right g_law_spans_right
  exact restlaw T h_law_axis hticks h_law_drop h_law_alike_axes h_law_values_right h_law_moved_right h_law_spans_right cdv A outer s H E f hr
end
end K06

set_option Elab.async false
set_option linter.all false
set_option maxRecDepth 100000
set_option maxHeartbeats 4000000
namespace K06
open PySem PySem.Spec PyProof.Rows L2 DL
def spLaw (K : PySem.W.Frag) (PT : List Addr) : Sp := fun vs H Q _ => ∃ (a : Addr) (ns : List Int), vs = [.ref a] ∧ SqL K H a (ns.map V.int) ∧ ns.length ≤ 63 ∧ (∀ Pt ∈ PT, H Pt = some (.tbl #[])) ∧ ∀ H', Q (.bl true) H'
theorem pss_x {X : Cx} {sts : List Stmt} {ι : Type} {t : ι → TS} (h : ∀ i, PSs X sts (t i)) : PSs X sts (fun D σ H => ∃ i, t i D σ H) := ⟨fun pins s σ H D I ⟨i, q⟩ => (h i).run pins s σ H D I q⟩
theorem rpa_inv {k : Kx} {H : Hp} {B : Addr → Prop} : ∀ {ns : List Int} {xs : List V}, RpA k H B xs (ns.map PyData.int) → xs = ns.map V.int
  | [], _, r => by cases r; rfl
  | n :: ns, _, r => by
    cases r with
    | cons r1 r2 =>
      cases r1
      rw [rpa_inv r2]
      rfl
section
variable {P : Program} {w : World} {K : PySem.W.Frag} {mg : Str → Option Value} {base : Heap} {c0 Pc0 : Addr}
abbrev k0 (K : PySem.W.Frag) (PT : List Addr) : Kx := ⟨K, 0, 0, PT, false, false⟩
abbrev k1 (K : PySem.W.Frag) (PT : List Addr) (β γ : Addr) : Kx := ⟨K, β, γ, PT, true, false⟩
theorem law_fn (T : Tx mg) (D : Fs K mg c0) {fa : Addr} {fd : FuncData} (F : Fun K "law" "law" slaw fa fd) (TBc0 : GxR.TabB base mg c0 Pc0) : FnOk P w K mg base CX0 8 fa fd ["script"] (spLaw K [Pc0]) := by
  obtain ⟨aS, dS, nS, gS⟩ := D.f__law_spring
  obtain ⟨fS, fdS, h1, h2, h3, h4, _⟩ := ok_law_spring (P := P) (w := w) (base := base) (k := k0 K [Pc0]) T nS gS
  refine F.ok sclaw (fun vs H Q E h => by obtain ⟨a, ns, rfl, _⟩ := h; rfl) (fun cdv A outer s H vs Q E hr h => ?_)
  obtain ⟨a, ns, rfl, hS, hlen, hP, q⟩ := h
  refine ⟨_, pss_cons (ps_set (i := 1) sclaw.nd rfl (.inl rfl) (pe_call h2 (hr.mono (by omega)) (by rfl) h1 h3 h4 .nil pass0 (pa_cons (pv 0) pa_nil)))
    (pss_x fun z : Addr × Addr × Fx => rest_ok (k := k1 K [Pc0] z.1 z.2.1) ⟨rfl, rfl⟩ (by simp) T D TBc0 cdv A outer s H E z.2.2 hr), ?_⟩
  obtain ⟨d, g', e, deep, p, rfl, rfl⟩ := spring_ok ns (by omega) ⟨[], 0, 0⟩
  have hB : ∀ b, B0 (k0 K [Pc0]) b → b ∈ ([Pc0] : List Addr) := fun b hb => by
    rcases hb with ⟨h, _⟩ | ⟨h, _⟩ | h
    · cases h
    · cases h
    · exact h
  refine ⟨.ref a, rfl, fun b => b ∈ ([Pc0] : List Addr), [scD ns], ⟨[], 0, 0⟩, _, _, rfl, hB, (fun b hb => by rw [hP b hb]; exact fun z => (nomatch z)), ⟨(fun h => nomatch h), (fun h => nomatch h), fun Q hQ => ?_⟩, .cons (.fz ?_) .nil, e, fun v H1 fr ga r => ?_⟩
  · exact ⟨#[], hP Q hQ, by trivial⟩
  · rcases hS with h | h
    · refine .inl ⟨fun ea => ?_, h⟩
      have ea := hP a ea
      rcases h with h | ⟨o, h⟩
      · rw [ea] at h; cases h
      · rw [ea] at h; cases h
    · exact .inr h
  · cases r with
    | lst n1 e1 ra =>
      rename_i β xs
      cases ra with
      | cons r1 ra =>
        cases ra with
        | cons r2 ra =>
          cases ra with
          | cons r3 ra =>
            cases ra
            cases r2; cases r3
            cases r1 with
            | lst n2 e2 rb =>
              rename_i γ ys
              rw [rpa_inv rb] at e2
              obtain ⟨fl, E', g1, el, hf⟩ := law_ok .no ⟨deep, p, 0⟩
              subst hf
              have gk : GA (k1 K [Pc0] β γ) H1 ⟨deep, p, 0⟩ := .mk' ⟨rfl, rfl⟩ e1 e2 ga.t
              refine ⟨(β, γ, ⟨fun b => B0 (k1 K [Pc0] β γ) b, H1⟩), _, fun _ => 0, ⟨deep, p, 0⟩, _, ?_, el, fun u H2 _ _ ru => ?_⟩
              · refine ⟨rfl, fun i d hd => ?_, fun i es hd => ?_, fun i j es fs hd _ _ => ?_, fun x hx => absurd hx (by simp), gk, .refl _ _, fun b h => h, fun b h => gk.has h⟩
                · match i, hd with
                  | 1, hd => cases hd; exact ⟨_, rfl, .br⟩
                  | 0, hd | 2, hd | 3, hd | 4, hd | 5, hd | 6, hd | 7, hd => cases hd
                  | i + 8, hd => simp at hd
                · match i, hd with
                  | 0, hd | 1, hd | 2, hd | 3, hd | 4, hd | 5, hd | 6, hd | 7, hd => cases hd
                  | i + 8, hd => simp at hd
                · match i, hd with
                  | 0, hd | 1, hd | 2, hd | 3, hd | 4, hd | 5, hd | 6, hd | 7, hd => cases hd
                  | i + 8, hd => simp at hd
              · cases ru
                exact q _
end
end K06

set_option Elab.async false
set_option linter.all false
set_option maxRecDepth 100000
namespace K06
open PySem PySem.Spec PyProof.Rows L2 DL
theorem funD_fun {K : PySem.W.Frag} {x : Str} {st : Stmt} {f : Addr} {fd : FuncData} (F : FunD K x x (defArgs st) (defBody st) (defScope st) [] [] f fd) : Fun K x x st f fd := by
  obtain ⟨oc, od, dV, kV, doc, pm, an, cdv, ct, osl, e, lk, hc, hd, _⟩ := F.ex
  have h : dV = .none := by
    rcases hd with ⟨_, h⟩ | ⟨h, _⟩
    · exact h
    · exact absurd rfl h
  subst h
  exact ⟨⟨oc, od, kV, doc, pm, an, cdv, ct, osl, e, lk, hc⟩, F.kp⟩
abbrev dd (x : Str) (st : Stmt) : He.DefD := ⟨(x, none), x, x, defArgs st, defBody st, defScope st, [], []⟩
def fnL : List He.DefD := [dd "_law_spring" s_law_spring, dd "_law_drop" s_law_drop, dd "_law_low" s_law_low, dd "_law_number" s_law_number, dd "_law_end" s_law_end, dd "_law_plus" s_law_plus, dd "_law_below" s_law_below, dd "_law_times" s_law_times, dd "_law_axis" s_law_axis, dd "is_tuple_of" sis_tuple_of, dd "is_integer" sis_integer, dd "is_fraction" sis_fraction, dd "_check_fractions" s_check_fractions, dd "_check_both" s_check_both, dd "below" sbelow, dd "_check_ends" s_check_ends, dd "_exponent_near" s_exponent_near, dd "_reduced" s_reduced, dd "minus" sminus, dd "fraction" sfraction, dd "power_of_ten" spower_of_ten, dd "_step" s_step, dd "_floor_over" s_floor_over, dd "_steps" s_steps, dd "is_between" sis_between, dd "_distance" s_distance, dd "times" stimes, dd "ticks" sticks, dd "steps_within" ssteps_within, dd "_law_turned" s_law_turned, dd "_law_alike_axes" s_law_alike_axes, dd "_law_minus" s_law_minus, dd "_law_values_right" s_law_values_right, dd "over" sover, dd "placed" splaced, dd "_law_moved_right" s_law_moved_right, dd "_check_numbers" s_check_numbers, dd "plus" splus, dd "span_of" sspan_of, dd "_law_spans_right" s_law_spans_right, dd "law" slaw]
def faL : List He.Fa := [.glo "_law_spring", .glo "_law_drop", .glo "_law_low", .glo "_law_number", .glo "_law_end", .glo "_law_plus", .glo "_law_below", .glo "_law_times", .glo "_law_axis", .glo "is_tuple_of", .glo "is_integer", .glo "is_fraction", .glo "_check_fractions", .glo "_check_both", .glo "below", .glo "_check_ends", .glo "_exponent_near", .glo "_reduced", .glo "minus", .glo "fraction", .glo "power_of_ten", .glo "_step", .glo "_floor_over", .glo "_steps", .glo "is_between", .glo "_distance", .glo "times", .glo "ticks", .glo "steps_within", .glo "_law_turned", .glo "_law_alike_axes", .glo "_law_minus", .glo "_law_values_right", .glo "over", .glo "placed", .glo "_law_moved_right", .glo "_check_numbers", .glo "plus", .glo "span_of", .glo "_law_spans_right", .glo "law", .free "abs", .free "all", .free "bool", .free "int", .free "len", .free "range", .free "tuple", .free "type"]
def isC (K : PySem.W.Frag) (x : Str) (i : Int) : Bool := match PySem.W.nsIn K mainGlobals x with
  | some (some (.int j _)) => i == j
  | _ => false
theorem isC_ok {K : PySem.W.Frag} {h : Heap} {mg : Str → Option Value} {x : Str} {i : Int} (X : K.In h) (G : h.Ns mainGlobals mg) (c : isC K x i = true) : ∃ t, mg x = some (.int i t) := by
  unfold isC at c
  split at c
  · rename_i j t e
    have : i = j := beq_iff_eq.mp c
    subst this
    exact ⟨t, PySem.W.mg_of X G e⟩
  · cases c
def exL (K : PySem.W.Frag) : Bool := (decide (PySem.W.nsIn K mainGlobals "gcd" = some (some (.builtin "math.gcd"))) && (isC K "FEWEST_VALUES" 2 && (isC K "MOST_VALUES" 10 && true)))
def tfL : List He.Defn := [("_check_fractions", none)]
abbrev hkL : PySem.W.Hook := He.hookX 5 faL fnL [] tfL exL
theorem at_of {K : PySem.W.Frag} {h : Heap} {mg : Str → Option Value} {x : Str} {st : Stmt} (X : K.In h) (G : h.Ns mainGlobals mg) (c : He.SaysD faL fnL K) (i j : Nat) (hi : faL[i]? = some (.glo x)) (hj : fnL[j]? = some (dd x st)) : At K mg x st := by
  obtain ⟨fd, F⟩ := c.def_ j hj
  exact ⟨_, fd, funD_fun F, He.glo_ok X G (c.fact i hi)⟩
theorem atC_of {K : PySem.W.Frag} {h : Heap} {mg : Str → Option Value} {x : Str} {st : Stmt} (X : K.In h) (G : h.Ns mainGlobals mg) (c : He.SaysD faL fnL K) (i j : Nat) (hi : faL[i]? = some (.glo x)) (hj : fnL[j]? = some (dd x st)) : AtC K mg x st (He.cT K (x, none)).1 := by
  obtain ⟨fd, F⟩ := c.def_ j hj
  have F2 := funD_fun F
  obtain ⟨oc, od, kV, doc, pm, an, cdv, ct, osl, e, lk, hc⟩ := F2.ex
  obtain ⟨cc, rfl⟩ := He.codeIn_ref hc
  have ec : (He.cT K (x, none)).1 = cc := He.codeOf_eq (p := (x, none)) lk (by rw [e] <;> rfl)
  rw [ec]
  exact ⟨_, fd, ⟨F2, oc, od, kV, doc, pm, an, ct, osl, e, lk, hc⟩, He.glo_ok X G (c.fact i hi)⟩
theorem law_at {l : PySem.W.OpenLaw} {w : World} {K : PySem.W.Frag} {h : Heap} {mg : Str → Option Value} {fa : Addr} (X : K.In h) (G : h.Ns mainGlobals mg) (hfa : mg "law" = some (.ref fa)) (S : He.SaysX faL fnL [] tfL exL w h K) : LamX.LawAtS l w K CX0 8 63 "script" mg fa h := by
  have c := S.t.d
  have T : Tx mg := ⟨He.free_ok X G (c.fact 41 (f := .free "abs") rfl), He.free_ok X G (c.fact 42 (f := .free "all") rfl), He.free_ok X G (c.fact 43 (f := .free "bool") rfl), PySem.W.mg_of X G (of_decide_eq_true (Bool.and_eq_true_iff.mp S.more).1), He.free_ok X G (c.fact 44 (f := .free "int") rfl), He.free_ok X G (c.fact 45 (f := .free "len") rfl), He.free_ok X G (c.fact 46 (f := .free "range") rfl), He.free_ok X G (c.fact 47 (f := .free "tuple") rfl), He.free_ok X G (c.fact 48 (f := .free "type") rfl), isC_ok X G (Bool.and_eq_true_iff.mp (Bool.and_eq_true_iff.mp S.more).2).1, isC_ok X G (Bool.and_eq_true_iff.mp (Bool.and_eq_true_iff.mp (Bool.and_eq_true_iff.mp S.more).2).2).1⟩
  have D : Fs K mg (He.cT K ("_check_fractions", none)).1 := ⟨at_of X G c 0 0 rfl rfl, at_of X G c 1 1 rfl rfl, at_of X G c 2 2 rfl rfl, at_of X G c 3 3 rfl rfl, at_of X G c 4 4 rfl rfl, at_of X G c 5 5 rfl rfl, at_of X G c 6 6 rfl rfl, at_of X G c 7 7 rfl rfl, at_of X G c 8 8 rfl rfl, at_of X G c 9 9 rfl rfl, at_of X G c 10 10 rfl rfl, at_of X G c 11 11 rfl rfl, atC_of X G c 12 12 rfl rfl, at_of X G c 13 13 rfl rfl, at_of X G c 14 14 rfl rfl, at_of X G c 15 15 rfl rfl, at_of X G c 16 16 rfl rfl, at_of X G c 17 17 rfl rfl, at_of X G c 18 18 rfl rfl, at_of X G c 19 19 rfl rfl, at_of X G c 20 20 rfl rfl, at_of X G c 21 21 rfl rfl, at_of X G c 22 22 rfl rfl, at_of X G c 23 23 rfl rfl, at_of X G c 24 24 rfl rfl, at_of X G c 25 25 rfl rfl, at_of X G c 26 26 rfl rfl, at_of X G c 27 27 rfl rfl, at_of X G c 28 28 rfl rfl, at_of X G c 29 29 rfl rfl, at_of X G c 30 30 rfl rfl, at_of X G c 31 31 rfl rfl, at_of X G c 32 32 rfl rfl, at_of X G c 33 33 rfl rfl, at_of X G c 34 34 rfl rfl, at_of X G c 35 35 rfl rfl, at_of X G c 36 36 rfl rfl, at_of X G c 37 37 rfl rfl, at_of X G c 38 38 rfl rfl, at_of X G c 39 39 rfl rfl⟩
  obtain ⟨fl, fd, F, gl⟩ : At K mg "law" slaw := at_of X G c 40 40 rfl rfl
  have e := hfa.symm.trans gl
  cases e
  have mm0 : (("_check_fractions", none) : He.Defn) ∈ tfL := by unfold tfL; simp
  refine ⟨fd, [He.cT K ("_check_fractions", none)], spLaw K [(He.cT K ("_check_fractions", none)).2], fun p hp => ?_, fun p hp => ?_, fun p hp => ?_, fun s u => ?_, fun H a ns hl hb hP hS => ?_, fun base hK hG hTB => ?_⟩
  · rw [List.mem_singleton.mp hp]; exact S.empty _ mm0
  · rw [List.mem_singleton.mp hp]; exact S.out _ mm0
  · rw [List.mem_singleton.mp hp]; exact PySem.W.codeHd_of_K X (S.hd _ mm0)
  · obtain ⟨oc, od, kV, dc, pm, an, cdv, ct, osl, rfl, _, _⟩ := F.ex
    exact .of_eq rfl
  · refine ⟨a, ns, rfl, hS, hl, fun Pt hPt => ?_, fun _ => rfl⟩
    rw [List.mem_singleton.mp hPt]
    exact hP _ (List.mem_singleton.mpr rfl)
  · have z := hTB _ (List.mem_singleton.mpr rfl)
    exact law_fn T D F ⟨z.code, z.bm, z.gP⟩
end K06
open PySem PySem.W PyProof.Rows
set_option maxHeartbeats 0 in
theorem PySem.Challenge.cw_drawntold_k06_whole_axes_moved_and_turne_holds : PySem.Challenge.rw_drawntold_k06_whole_axes_moved_and_turne.Holds := by
  w_on; o_law; o_head K06.hkL; (case hw => w_witness2)
  refine LamX.walk_ofTsE (l := PySem.Challenge.rw_drawntold_k06_whole_axes_moved_and_turne) (n := 63) (k := 8) (x := "script") (CX := fun _ => L2.CX0) rfl (by decide) rfl ⟨rfl, by decide, by decide⟩ ?F (fun _ _ _ _ _ h => h)
  intro w mg fa h Y G hmg
  obtain ⟨K, KX, S⟩ := Y
  exact ⟨K, KX, K06.law_at KX G hmg S⟩
