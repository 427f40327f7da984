import PyProof.Rows.All
import HandS.Base
import HandS.Call
import HandS.List
import HandS.Comp
import HandS.AnyAll
import HandS.HeadHook1
import HandS.HeadHook4
import PyProof.NeKinds
import HandS.TupAny
import HandS.IsInst
import HandS.Gcd
import HandS.Dict
import HandS.DictEq
import HandS.Small
import HandS.More
import PyProof.EqKinds
import HandS.Defaults
import HandS.Words
import Wide.All
import OpenK.AllK
import Wide.FinOn
import KE.KExcIs
import HandS.ForMost
import HandS.Exc
import HandS.ExcOwn
import HandS.ExcInit
import HandS.ClsMeth
import HandS.HeadWalk
import HandS.ExcValue
import HandS.HeadHook2
import KE.GoesMore
import PyProof.Draws
import PyProof.EnumMake
import PyProof.TupleIter
import HandS.Iter
import HandS.Style
import HandS.TupLe
import PySem.Challenge.RW_bandsplits_k37_whole_turns_judged
import HandS.HeadEnd
import HandS.Head0
import HandS.Head1
import HandS.Head2
import KE.KNestM
import HandS.EndTab
import HandS.Head3
set_option Elab.async false
set_option linter.all false
set_option maxRecDepth 100000
set_option maxHeartbeats 0
/-! DL: data with a store: what a def does, as a function. -/
namespace DL
open PySem PySem.Spec PyProof.Rows L2

inductive D where
  | non | bl (b : Bool) | int (i : Int) | str (x : Str) | tup (ds : List D) | loc (n : Nat) | ty (n : String)
  deriving Inhabited
inductive Ob where
  | lst (ds : List D) | dic (kvs : List (Key × D)) | frz (ds : List D)
  /-- the table of the code objects of a def -/
  | tab (x : Str)
abbrev Sto := List Ob
abbrev Sl := List (Option D)

/-- a def's code object and its table -/
def codeA (K : PySem.W.Frag) (x : Str) : Addr × Addr := He.cT K (x, none)
def tabA (K : PySem.W.Frag) (x : Str) : Addr := (codeA K x).2
section
variable (K : PySem.W.Frag)
mutual
def Rep (H : Hp) (α : List Addr) : D → V → Prop
  | .non, v => v = .non
  | .bl b, v => v = .bl b
  | .int i, v => v = .int i
  | .str x, v => v = .str x
  | .tup ds, v => ∃ a xs, v = .ref a ∧ SqT K H a xs ∧ Reps H α ds xs
  | .loc n, v => ∃ a, v = .ref a ∧ α[n]? = some a
  | .ty n, v => v = .ty n
def Reps (H : Hp) (α : List Addr) : List D → List V → Prop
  | [], xs => xs = []
  | d :: ds, xs => ∃ v vs, xs = v :: vs ∧ Rep H α d v ∧ Reps H α ds vs
end
def ObR (H : Hp) (α : List Addr) : Ob → Addr → Prop
  | .lst ds, a => ∃ xs, H a = some (.lst xs) ∧ Reps K H α ds xs
  | .dic kvs, a => ∃ kv, H a = some (.dK kv) ∧ kvs.map (·.1) = kv.map (·.1) ∧ Reps K H α (kvs.map (·.2)) (kv.map (·.2))
  | .frz ds, a => ∃ o xs, H a = some (.frz o (.lst xs)) ∧ Reps K H α ds xs
  | .tab x, a => a = tabA K x ∧ GxR.TabG H a
structure RepS (H : Hp) (α : List Addr) (μ : Sto) : Prop where
  nd : α.Nodup
  len : α.length = μ.length
  ob : ∀ (n : Nat) (a : Addr) (o : Ob), α[n]? = some a → μ[n]? = some o → ObR K H α o a
structure Ext (H : Hp) (α : List Addr) (H' : Hp) (α' : List Addr) : Prop where
  pre : ∃ more, α' = α ++ more
  tup : ∀ a xs, SqT K H a xs → SqT K H' a xs
def RepR (H : Hp) (α : List Addr) (ρ : Sl) (σ : L2.St) : Prop := ρ.length = σ.length ∧ ∀ (i : Nat) (d : D), ρ[i]? = some (some d) → ∃ v, σ[i]? = some (some v) ∧ Rep K H α d v
end
variable {K : PySem.W.Frag}
theorem Ext.refl {H : Hp} {α : List Addr} : Ext K H α H α := ⟨⟨[], by simp⟩, fun _ _ h => h⟩
theorem Ext.trans {H1 H2 H3 : Hp} {α1 α2 α3 : List Addr} (a : Ext K H1 α1 H2 α2) (b : Ext K H2 α2 H3 α3) : Ext K H1 α1 H3 α3 := by
  obtain ⟨m1, e1⟩ := a.pre
  obtain ⟨m2, e2⟩ := b.pre
  exact ⟨⟨m1 ++ m2, by rw [e2, e1, List.append_assoc]⟩, fun _ _ h => b.tup _ _ (a.tup _ _ h)⟩
theorem pre_get {α α' more : List Addr} {n : Nat} {a : Addr} (e : α' = α ++ more) (h : α[n]? = some a) : α'[n]? = some a := by
  subst e
  rw [List.getElem?_append_left (List.getElem?_eq_some_iff.mp h).1]
  exact h
mutual
theorem Rep.ext {H H' : Hp} {α α' : List Addr} (E : Ext K H α H' α') : ∀ (d : D) (v : V), Rep K H α d v → Rep K H' α' d v
  | .non, _, h => h
  | .bl _, _, h => h
  | .int _, _, h => h
  | .str _, _, h => h
  | .tup ds, _, ⟨a, xs, e, hs, hr⟩ => ⟨a, xs, e, E.tup _ _ hs, Reps.ext E ds xs hr⟩
  | .loc n, _, ⟨a, e, h⟩ => ⟨a, e, let ⟨_, p⟩ := E.pre; pre_get p h⟩
  | .ty _, _, h => h
theorem Reps.ext {H H' : Hp} {α α' : List Addr} (E : Ext K H α H' α') : ∀ (ds : List D) (xs : List V), Reps K H α ds xs → Reps K H' α' ds xs
  | [], _, h => h
  | d :: ds, _, ⟨v, vs, e, h1, h2⟩ => ⟨v, vs, e, Rep.ext E d v h1, Reps.ext E ds vs h2⟩
end
theorem Rep.up {H H' : Hp} {α α' : List Addr} {d : D} {v : V} (h : Rep K H α d v) (E : Ext K H α H' α') : Rep K H' α' d v := Rep.ext E d v h
theorem Reps.up {H H' : Hp} {α α' : List Addr} {d : List D} {v : List V} (h : Reps K H α d v) (E : Ext K H α H' α') : Reps K H' α' d v := Reps.ext E d v h
theorem RepR.up {H H' : Hp} {α α' : List Addr} {ρ : Sl} {σ : L2.St} (h : RepR K H α ρ σ) (E : Ext K H α H' α') : RepR K H' α' ρ σ :=
  ⟨h.1, fun i d e => let ⟨v, q, r⟩ := h.2 i d e; ⟨v, q, r.up E⟩⟩
section
variable {H : Hp} {α : List Addr}
theorem Reps.length : ∀ {ds : List D} {xs : List V}, Reps K H α ds xs → ds.length = xs.length
  | [], _, h => by rw [show _ = _ from h]; rfl
  | d :: ds, _, h => by obtain ⟨v, vs, rfl, _, r⟩ := h; simp [Reps.length r]
theorem Reps.get : ∀ {ds : List D} {xs : List V} {i : Nat} {d : D}, Reps K H α ds xs → ds[i]? = some d → ∃ v, xs[i]? = some v ∧ Rep K H α d v
  | [], _, _, _, _, e => by simp at e
  | d :: ds, _, 0, _, h, e => by obtain ⟨v, vs, rfl, r, _⟩ := h; simp at e; subst e; exact ⟨v, rfl, r⟩
  | d :: ds, _, i + 1, _, h, e => by obtain ⟨v, vs, rfl, _, r⟩ := h; simpa using Reps.get (i := i) r (by simpa using e)
theorem Reps.append : ∀ {ds es : List D} {xs ys : List V}, Reps K H α ds xs → Reps K H α es ys → Reps K H α (ds ++ es) (xs ++ ys)
  | [], _, _, _, h, h2 => by rw [show _ = _ from h]; exact h2
  | d :: ds, _, _, _, h, h2 => by obtain ⟨v, vs, rfl, r, rr⟩ := h; exact ⟨v, vs ++ _, rfl, r, Reps.append rr h2⟩
theorem Reps.take : ∀ {ds : List D} {xs : List V} (n : Nat), Reps K H α ds xs → Reps K H α (ds.take n) (xs.take n)
  | _, _, 0, _ => by simp [Reps]
  | [], _, n + 1, h => by rw [show _ = _ from h]; simp [Reps]
  | d :: ds, _, n + 1, h => by obtain ⟨v, vs, rfl, r, rr⟩ := h; exact ⟨v, vs.take n, rfl, r, Reps.take n rr⟩
theorem Reps.drop : ∀ {ds : List D} {xs : List V} (n : Nat), Reps K H α ds xs → Reps K H α (ds.drop n) (xs.drop n)
  | _, _, 0, h => by simpa using h
  | [], _, n + 1, h => by rw [show _ = _ from h]; simp [Reps]
  | d :: ds, _, n + 1, h => by obtain ⟨v, vs, rfl, r, rr⟩ := h; simpa using Reps.drop n rr
theorem Reps.set {d : D} {v : V} (r : Rep K H α d v) : ∀ {ds : List D} {xs : List V} (i : Nat), Reps K H α ds xs → Reps K H α (ds.set i d) (xs.set i v)
  | [], _, i, h => by rw [show _ = _ from h]; simp [Reps]
  | e :: ds, _, 0, h => by obtain ⟨w, vs, rfl, _, rr⟩ := h; exact ⟨v, vs, rfl, r, rr⟩
  | e :: ds, _, i + 1, h => by obtain ⟨w, vs, rfl, q, rr⟩ := h; exact ⟨w, vs.set i v, rfl, q, Reps.set r i rr⟩
theorem Reps.one {d : D} {v : V} (r : Rep K H α d v) : Reps K H α [d] [v] := ⟨v, [], rfl, r, rfl⟩
theorem Reps.nil_iff {ds : List D} {xs : List V} (r : Reps K H α ds xs) : ds = [] ↔ xs = [] := by
  have := r.length
  constructor <;> intro h <;> subst h <;> simp at this
  · exact List.eq_nil_of_length_eq_zero this.symm
  · exact this
theorem Reps.ints : ∀ {ns : List Int} {xs : List V}, Reps K H α (ns.map D.int) xs → xs = ns.map V.int
  | [], _, h => h
  | n :: ns, _, h => by
    obtain ⟨v, vs, rfl, r, rr⟩ := h
    rw [show v = _ from r, Reps.ints rr]; rfl
theorem Reps.bls : ∀ {ns : List Bool} {xs : List V}, Reps K H α (ns.map D.bl) xs → xs = ns.map V.bl
  | [], _, h => h
  | n :: ns, _, h => by
    obtain ⟨v, vs, rfl, r, rr⟩ := h
    rw [show v = _ from r, Reps.bls rr]; rfl
end

/-! ### the store changes -/
theorem sqT_upd {H : Hp} {p : Addr} {o : HO} (h : ∀ xs, ¬ Rd H p (.tup xs)) : ∀ a xs, SqT K H a xs → SqT K (upd H p o) a xs := by
  intro a xs q
  rcases q with q | q
  · refine .inl ?_
    have ne : a ≠ p := fun z => h xs (by subst z; exact q)
    rcases q with q | ⟨ob, q⟩
    · exact .inl (by rw [upd_ne ne]; exact q)
    · exact .inr ⟨ob, by rw [upd_ne ne]; exact q⟩
  · exact .inr q
theorem no_rd {H : Hp} {p : Addr} (h : H p = none) : ∀ xs, ¬ Rd H p (.tup xs) := by
  intro xs q
  rcases q with q | ⟨o, q⟩ <;> rw [h] at q <;> cases q
theorem ext_new {H : Hp} {p : Addr} {o : HO} (α more : List Addr) (h : H p = none) : Ext K H α (upd H p o) (α ++ more) := ⟨⟨more, rfl⟩, sqT_upd (no_rd h)⟩
theorem ext_tup {H : Hp} {p : Addr} {o : HO} (α : List Addr) (h : H p = none) : Ext K H α (upd H p o) α := ⟨⟨[], by simp⟩, sqT_upd (no_rd h)⟩
theorem ObR.keep {H H' : Hp} {α α' : List Addr} {o : Ob} {a : Addr} (h : ObR K H α o a) (E : Ext K H α H' α') (e : H' a = H a) : ObR K H' α' o a := by
  cases o with
  | lst ds => obtain ⟨xs, q, r⟩ := h; exact ⟨xs, e.trans q, r.up E⟩
  | dic kvs => obtain ⟨kv, q, r1, r2⟩ := h; exact ⟨kv, e.trans q, r1, r2.up E⟩
  | frz ds => obtain ⟨ob, xs, q, r⟩ := h; exact ⟨ob, xs, e.trans q, r.up E⟩
  | tab x => obtain ⟨z, ps, q, r⟩ := h; exact ⟨z, ps, e.trans q, r⟩
theorem ObR.some {H : Hp} {α : List Addr} {o : Ob} {a : Addr} (h : ObR K H α o a) : ∃ u, H a = some u := by
  cases o with
  | lst ds => obtain ⟨xs, q, r⟩ := h; exact ⟨_, q⟩
  | dic kvs => obtain ⟨kv, q, _⟩ := h; exact ⟨_, q⟩
  | frz ds => obtain ⟨ob, xs, q, r⟩ := h; exact ⟨_, q⟩
  | tab x => obtain ⟨z, ps, q, r⟩ := h; exact ⟨_, q⟩
section
variable {H : Hp} {α : List Addr} {μ : Sto} {p : Addr}
theorem RepS.here (S : RepS K H α μ) {n : Nat} {a : Addr} (h : α[n]? = some a) : ∃ o, μ[n]? = some o ∧ ObR K H α o a := by
  have l : n < μ.length := by rw [← S.len]; exact (List.getElem?_eq_some_iff.mp h).1
  exact ⟨μ[n], List.getElem?_eq_getElem l, S.ob n a _ h (List.getElem?_eq_getElem l)⟩
theorem RepS.there (S : RepS K H α μ) {n : Nat} {o : Ob} (h : μ[n]? = some o) : ∃ a, α[n]? = some a ∧ ObR K H α o a := by
  have l : n < α.length := by rw [S.len]; exact (List.getElem?_eq_some_iff.mp h).1
  exact ⟨α[n], List.getElem?_eq_getElem l, S.ob n _ _ (List.getElem?_eq_getElem l) h⟩
theorem RepS.fresh (S : RepS K H α μ) (h : H p = none) : p ∉ α := fun m => by
  obtain ⟨n, l, e⟩ := List.getElem_of_mem m
  obtain ⟨o, _, r⟩ := S.here (n := n) (a := p) (by rw [List.getElem?_eq_getElem l, e])
  obtain ⟨u, q⟩ := r.some
  rw [h] at q; cases q
/-- a tuple is laid -/
theorem RepS.tup (S : RepS K H α μ) {xs : List V} (h : H p = none) : RepS K (upd H p (.tup xs)) α μ :=
  ⟨S.nd, S.len, fun n a o e1 e2 => (S.ob n a o e1 e2).keep (ext_tup α h) (upd_ne fun z => S.fresh h (z ▸ List.mem_of_getElem? e1))⟩
/-- a store's object is laid -/
theorem RepS.new (S : RepS K H α μ) {o : HO} {ob : Ob} (h : H p = none) (r : ObR K (upd H p o) (α ++ [p]) ob p) : RepS K (upd H p o) (α ++ [p]) (μ ++ [ob]) := by
  refine ⟨?_, by simp [S.len], fun n a o' e1 e2 => ?_⟩
  · rw [List.nodup_append]
    refine ⟨S.nd, by simp, fun a ha b hb e => ?_⟩
    have : b = p := by simpa using hb
    subst this
    subst e
    exact S.fresh h ha
  · by_cases l : n < α.length
    · rw [List.getElem?_append_left l] at e1
      rw [List.getElem?_append_left (by rw [← S.len]; exact l)] at e2
      exact (S.ob n a o' e1 e2).keep (ext_new α [p] h) (upd_ne fun z => S.fresh h (z ▸ List.mem_of_getElem? e1))
    · have e : n = α.length := by
        have := (List.getElem?_eq_some_iff.mp e1).1
        simp at this
        omega
      subst e
      rw [List.getElem?_append_right (Nat.le_refl _)] at e1
      rw [List.getElem?_append_right (by rw [S.len]; exact Nat.le_refl _)] at e2
      simp [S.len] at e1 e2
      subst e1
      subst e2
      exact r
theorem ext_new1 (S : RepS K H α μ) {o : HO} (h : H p = none) : Ext K H α (upd H p o) (α ++ [p]) := ext_new α [p] h
theorem rep_new {H' : Hp} (S : RepS K H α μ) : Rep K H' (α ++ [p]) (.loc μ.length) (.ref p) := ⟨p, rfl, by rw [← S.len]; simp⟩
/-- a store's object is written -/
theorem RepS.write (S : RepS K H α μ) {n : Nat} {a : Addr} {o : HO} {ob : Ob} (e : α[n]? = some a) (nt : ∀ xs, ¬ Rd H a (.tup xs)) (r : ObR K (upd H a o) α ob a) : RepS K (upd H a o) α (μ.set n ob) := by
  refine ⟨S.nd, by simp [S.len], fun m b o' e1 e2 => ?_⟩
  by_cases h : m = n
  · subst h
    rw [e] at e1
    cases e1
    have l : m < μ.length := by rw [← S.len]; exact (List.getElem?_eq_some_iff.mp e).1
    rw [List.getElem?_set_self l] at e2
    cases e2
    exact r
  · rw [List.getElem?_set_ne (Ne.symm h)] at e2
    have ne : b ≠ a := fun z => by
      subst z
      obtain ⟨h1, f1⟩ := List.getElem?_eq_some_iff.mp e
      obtain ⟨h2, f2⟩ := List.getElem?_eq_some_iff.mp e1
      exact h ((List.getElem_inj S.nd).mp (f2.trans f1.symm))
    exact (S.ob m b o' e1 e2).keep ⟨⟨[], by simp⟩, sqT_upd nt⟩ (upd_ne ne)
theorem ext_write {a : Addr} {o : HO} (nt : ∀ xs, ¬ Rd H a (.tup xs)) : Ext K H α (upd H a o) α := ⟨⟨[], by simp⟩, sqT_upd nt⟩
theorem nt_lst {a : Addr} {xs : List V} (h : H a = some (.lst xs)) : ∀ ys, ¬ Rd H a (.tup ys) := by
  intro ys q
  rcases q with q | ⟨o, q⟩ <;> rw [h] at q <;> cases q
theorem nt_dK {a : Addr} {xs : List (Key × V)} (h : H a = some (.dK xs)) : ∀ ys, ¬ Rd H a (.tup ys) := by
  intro ys q
  rcases q with q | ⟨o, q⟩ <;> rw [h] at q <;> cases q
end

/-! ### the readings -/
def Kont (K : PySem.W.Frag) (H : Hp) (α : List Addr) (μ : Sto) (d : D) (Q : VK) : Prop := ∀ H' α' v, Ext K H α H' α' → RepS K H' α' μ → Rep K H' α' d v → Q v H'
abbrev EF := Sl → Sto → Option (D × Sto)
abbrev TF := Sl → Sto → Option (Bool × Sto)
abbrev AF := Sl → Sto → Option (List D × Sto)
def tE (K : PySem.W.Frag) (f : EF) : TE := fun σ H Q => ∃ α ρ μ d μ', RepS K H α μ ∧ RepR K H α ρ σ ∧ f ρ μ = some (d, μ') ∧ Kont K H α μ' d Q
def tT (K : PySem.W.Frag) (f : TF) : TT := fun σ H Q => ∃ α ρ μ b μ', RepS K H α μ ∧ RepR K H α ρ σ ∧ f ρ μ = some (b, μ') ∧ ∀ H' α', Ext K H α H' α' → RepS K H' α' μ' → Q b H'
def tA (K : PySem.W.Frag) (f : AF) : TA := fun σ H Q => ∃ α ρ μ ds μ', RepS K H α μ ∧ RepR K H α ρ σ ∧ f ρ μ = some (ds, μ') ∧ ∀ H' α' vs, Ext K H α H' α' → RepS K H' α' μ' → Reps K H' α' ds vs → Q vs H'
section
variable {X : Cx}
theorem _root_.L2.PE.imp {e : Expr} {t u : TE} (h : PE X e t) (i : ∀ σ H Q, u σ H Q → t σ H Q) : PE X e u := ⟨fun pins s σ H Q I q => h.run pins s σ H Q I (i _ _ _ q)⟩
theorem _root_.L2.PT.imp {e : Expr} {t u : TT} (h : PT X e t) (i : ∀ σ H Q, u σ H Q → t σ H Q) : PT X e u := ⟨fun pins s σ H Q I q => h.run pins s σ H Q I (i _ _ _ q)⟩
theorem _root_.L2.PW.imp {e : Expr} {t u : TT} (h : PW X e t) (i : ∀ σ H Q, u σ H Q → t σ H Q) : PW X e u := ⟨fun wh pins s σ H Q I q => h.run wh pins s σ H Q I (i _ _ _ q)⟩
theorem _root_.L2.PA.imp {e : List Expr} {t u : TA} (h : PA X e t) (i : ∀ σ H Q, u σ H Q → t σ H Q) : PA X e u := ⟨fun pos pins s σ H Q I q => h.run pos pins s σ H Q I (i _ _ _ q)⟩
theorem _root_.L2.PS.imp {e : Stmt} {t u : TS} (h : PS X e t) (i : ∀ D σ H, u D σ H → t D σ H) : PS X e u := ⟨fun pins s σ H D I q => h.run pins s σ H D I (i _ _ _ q)⟩
theorem _root_.L2.PSs.imp {e : List Stmt} {t u : TS} (h : PSs X e t) (i : ∀ D σ H, u D σ H → t D σ H) : PSs X e u := ⟨fun pins s σ H D I q => h.run pins s σ H D I (i _ _ _ q)⟩
theorem _root_.L2.PG.imp {e : Expr} {t u : TG} (h : PG X e t) (i : ∀ v σ H Q, u v σ H Q → t v σ H Q) : PG X e u := ⟨fun pins s σ H v w Q I r q => h.run pins s σ H v w Q I r (i _ _ _ _ q)⟩
theorem _root_.L2.PGs.imp {e : List Expr} {t u : TGs} (h : PGs X e t) (i : ∀ v σ H Q, u v σ H Q → t v σ H Q) : PGs X e u := ⟨fun pins s σ H v w Q I r q => h.run pins s σ H v w Q I r (i _ _ _ _ q)⟩
theorem _root_.L2.OpR.imp {f : Value → Value → Sem Value} {t u : R2} (h : OpR X f t) (i : ∀ x y H Q, u x y H Q → t x y H Q) : OpR X f u := fun pins s σ H x y v w Q I r1 r2 q => h pins s σ H x y v w Q I r1 r2 (i _ _ _ _ q)
theorem _root_.L2.UnR.imp {f : Value → Sem Value} {t u : V → Hp → VK → Prop} (h : UnR X f t) (i : ∀ x H Q, u x H Q → t x H Q) : UnR X f u := fun pins s σ H x v Q I r q => h pins s σ H x v Q I r (i _ _ _ q)
theorem _root_.L2.CallR.imp {f : Value} {t u : List V → Hp → VK → Prop} (h : CallR X f t) (i : ∀ x H Q, u x H Q → t x H Q) : CallR X f u := fun pins s σ H x v Q I r q => h pins s σ H x v Q I r (i _ _ _ q)
end

/-! ### names, constants -/
def fVar (i : Nat) : EF := fun ρ μ => match ρ[i]? with | some (some d) => some (d, μ) | _ => none
def fC (d : D) : EF := fun _ μ => some (d, μ)
theorem kont_self {H : Hp} {α : List Addr} {μ : Sto} {d : D} {v : V} {Q : VK} (k : Kont K H α μ d Q) (S : RepS K H α μ) (r : Rep K H α d v) : Q v H := k H α v Ext.refl S r
theorem Kont.up {H H1 : Hp} {α α1 : List Addr} {μ : Sto} {d : D} {Q : VK} (k : Kont K H α μ d Q) (E : Ext K H α H1 α1) : Kont K H1 α1 μ d Q := fun H' α' v E' S R => k H' α' v (E.trans E') S R
theorem i_var {i : Nat} : ∀ σ H Q, tE K (fVar i) σ H Q → tVar i σ H Q := by
  rintro σ H Q ⟨α, ρ, μ, d, μ', S, R, e, k⟩
  unfold fVar at e
  split at e
  · rename_i d' q
    cases e
    obtain ⟨v, q2, r⟩ := R.2 _ _ q
    exact ⟨v, q2, kont_self k S r⟩
  · cases e
theorem i_c {d : D} {v : V} (h : ∀ H α, Rep K H α d v) : ∀ σ H Q, tE K (fC d) σ H Q → tC v σ H Q := by
  rintro σ H Q ⟨α, ρ, μ, d', μ', S, R, e, k⟩
  cases e
  exact kont_self k S (h _ _)
section
variable {X : Cx} {pos : Pos}
theorem de_var {i : Nat} {x : Str} (hN : X.N[i]? = some x) (hv : Vis X.env.scope x) (hd : (x == ("__debug__" : Str)) = false := by decide) (hcd : (x == ("__classdict__" : Str)) = false := by decide) : PE X (.Name x pos) (tE K (fVar i)) := (pe_var hN hv hd hcd).imp i_var
theorem de_int {i : Int} {j : Nat} : PE X (.Constant (.int i) j pos) (tE K (fC (.int i))) := PE.imp pe_int (i_c fun _ _ => rfl)
theorem de_bl {b : Bool} {j : Nat} : PE X (.Constant (.bool b) j pos) (tE K (fC (.bl b))) := PE.imp pe_bl (i_c fun _ _ => rfl)
theorem de_non {j : Nat} : PE X (.Constant .none j pos) (tE K (fC .non)) := PE.imp pe_non (i_c fun _ _ => rfl)
theorem de_str {x : Str} {j : Nat} : PE X (.Constant (.str x) j pos) (tE K (fC (.str x))) := PE.imp pe_str (i_c fun _ _ => rfl)
end
end DL
/-! DM: equality of data. -/
namespace DL
open PySem PySem.Spec PyProof.Rows L2
open PySem.SeqAt (EqAt RcAt RcNeAt)
def lstAt (μ : Sto) (i : Nat) : Option (List D) := match μ[i]? with
  | some (.lst ds) => some ds
  | some (.frz ds) => some ds
  | _ => none
def zipAll (f : D → D → Option Bool) : List D → List D → Option Bool
  | [], _ => some true
  | _ :: _, [] => some true
  | x :: xs, y :: ys => match f x y, zipAll f xs ys with
    | some a, some b => some (a && b)
    | _, _ => none
def rcD (μ : Sto) : Nat → D → D → Option Bool
  | 0, _, _ => none
  | _ + 1, .non, .non => some true
  | _ + 1, .non, .bl _ => some false
  | _ + 1, .non, .int _ => some false
  | _ + 1, .non, .str _ => some false
  | _ + 1, .non, .tup _ => some false
  | _ + 1, .non, .loc j => (lstAt μ j).map fun _ => false
  | _ + 1, .bl _, .non => some false
  | _ + 1, .bl a, .bl b => some (a == b)
  | _ + 1, .bl a, .int b => some ((if a then 1 else 0) == b)
  | _ + 1, .bl _, .str _ => some false
  | _ + 1, .bl _, .tup _ => some false
  | _ + 1, .bl _, .loc j => (lstAt μ j).map fun _ => false
  | _ + 1, .int _, .non => some false
  | _ + 1, .int a, .bl b => some (a == (if b then 1 else 0))
  | _ + 1, .int a, .int b => some (a == b)
  | _ + 1, .int _, .str _ => some false
  | _ + 1, .int _, .tup _ => some false
  | _ + 1, .int _, .loc j => (lstAt μ j).map fun _ => false
  | _ + 1, .str _, .non => some false
  | _ + 1, .str _, .bl _ => some false
  | _ + 1, .str _, .int _ => some false
  | _ + 1, .str a, .str b => some (a == b)
  | _ + 1, .str _, .tup _ => some false
  | _ + 1, .str _, .loc j => (lstAt μ j).map fun _ => false
  | _ + 1, .tup _, .non => some false
  | _ + 1, .tup _, .bl _ => some false
  | _ + 1, .tup _, .int _ => some false
  | _ + 1, .tup _, .str _ => some false
  | n + 1, .tup xs, .tup ys => (zipAll (rcD μ n) xs ys).map fun b => b && xs.length == ys.length
  | _ + 1, .tup _, .loc j => (lstAt μ j).map fun _ => false
  | _ + 1, .loc i, .non => (lstAt μ i).map fun _ => false
  | _ + 1, .loc i, .bl _ => (lstAt μ i).map fun _ => false
  | _ + 1, .loc i, .int _ => (lstAt μ i).map fun _ => false
  | _ + 1, .loc i, .str _ => (lstAt μ i).map fun _ => false
  | _ + 1, .loc i, .tup _ => (lstAt μ i).map fun _ => false
  | n + 1, .loc i, .loc j => match lstAt μ i, lstAt μ j with
    | some xs, some ys => if xs.length = ys.length then zipAll (rcD μ n) xs ys else some false
    | _, _ => none
  | _ + 1, .ty _, _ => none
  | _ + 1, _, .ty _ => none

theorem zipAll_refl {f : D → D → Option Bool} (h : ∀ x k, f x x = some k → k = true) : ∀ (xs : List D) (k : Bool), zipAll f xs xs = some k → k = true
  | [], k, e => by cases e; rfl
  | x :: xs, k, e => by
    unfold zipAll at e
    split at e
    · rename_i a b e1 e2
      cases e
      rw [h _ _ e1, zipAll_refl h _ _ e2]; rfl
    · cases e
theorem rcD_refl {μ : Sto} : ∀ (n : Nat) (x : D) (k : Bool), rcD μ n x x = some k → k = true
  | 0, _, _, e => by unfold rcD at e; cases e
  | n + 1, x, k, e => by
    cases x with
    | non => cases e; rfl
    | bl a => unfold rcD at e; cases e; simp
    | int a => unfold rcD at e; cases e; simp
    | str a => unfold rcD at e; cases e; simp
    | tup xs =>
      unfold rcD at e
      obtain ⟨b, e1, e2⟩ := Option.map_eq_some_iff.mp e
      rw [zipAll_refl (rcD_refl n) _ _ e1] at e2
      simp at e2
      exact e2
    | ty m => cases e
    | loc i =>
      unfold rcD at e
      split at e
      · rename_i xs ys e1 e2
        rw [e1] at e2; cases e2
        rw [if_pos rfl] at e
        exact zipAll_refl (rcD_refl n) _ _ e
      · cases e
/-- the comparison at place j -/
def zAt (f : D → D → Option Bool) (xs ys : List D) (j : Nat) : Bool := match xs[j]?, ys[j]? with
  | some x, some y => (f x y).getD false
  | _, _ => false
theorem zipAll_range {f : D → D → Option Bool} : ∀ {xs ys : List D} {k : Bool}, zipAll f xs ys = some k → (List.range (min xs.length ys.length)).all (zAt f xs ys) = k ∧ ∀ j x y, xs[j]? = some x → ys[j]? = some y → f x y = some (zAt f xs ys j)
  | [], ys, k, e => by
    unfold zipAll at e; cases e
    exact ⟨by simp, fun j x y h => by simp at h⟩
  | x :: xs, [], k, e => by
    unfold zipAll at e; cases e
    exact ⟨by simp, fun j x y _ h => by simp at h⟩
  | x :: xs, y :: ys, k, e => by
    unfold zipAll at e
    split at e
    · rename_i a b e1 e2
      cases e
      obtain ⟨h1, h2⟩ := zipAll_range e2
      have z0 : zAt f (x :: xs) (y :: ys) 0 = a := by unfold zAt; simp [e1]
      have zs : ∀ j, zAt f (x :: xs) (y :: ys) (j + 1) = zAt f xs ys j := fun j => by unfold zAt; simp
      refine ⟨?_, fun j x' y' hx hy => ?_⟩
      · have : min (x :: xs).length (y :: ys).length = min xs.length ys.length + 1 := by simp
        rw [this, List.range_succ_eq_map, List.all_cons, z0, List.all_map, ← h1]
        rfl
      · cases j with
        | zero => simp at hx hy; subst hx; subst hy; rw [z0]; exact e1
        | succ j => rw [zs]; exact h2 j x' y' (by simpa using hx) (by simpa using hy)
    · cases e

section
variable {X : Cx} {pins : List (Addr × Obj)} {σ : L2.St} {H : Hp} {s : Shared} {α : List Addr} {μ : Sto}
theorem RepS.list (S : RepS X.K H α μ) {i : Nat} {ds : List D} {a : Addr} (h : lstAt μ i = some ds) (e : α[i]? = some a) : ∃ xs, SqL X.K H a xs ∧ Reps X.K H α ds xs := by
  obtain ⟨o, e2, r⟩ := S.here e
  unfold lstAt at h
  rw [e2] at h
  cases o with
  | lst ds' => cases h; obtain ⟨xs, q, r⟩ := r; exact ⟨xs, .inl (.inl q), r⟩
  | frz ds' => cases h; obtain ⟨o, xs, q, r⟩ := r; exact ⟨xs, .inl (.inr ⟨o, q⟩), r⟩
  | dic kvs => cases h
  | tab x => cases h
theorem RepS.noTup (I : Inv X pins σ H s) (S : RepS X.K H α μ) {i : Nat} {a : Addr} {xs : List V} (e : α[i]? = some a) (h : SqT X.K H a xs) : False := by
  obtain ⟨o, e2, r⟩ := S.here e
  obtain ⟨its, _, ⟨ob, h1, hc, n, hd⟩, _⟩ := I.tuple h
  cases o with
  | lst ds =>
    obtain ⟨xs, q, _⟩ := r
    obtain ⟨_, _, n', _, e'⟩ := (show ObjOk X.prog X.w H s.heap a (.lst xs) from I.hok a _ q)
    rw [h1] at e'; cases e'; exact absurd (Value.type.inj hc) (by decide)
  | frz ds =>
    obtain ⟨o, xs, q, _⟩ := r
    obtain ⟨_, _, _, n', _, e'⟩ := (show ObjOk X.prog X.w H s.heap a (.frz o (.lst xs)) from I.hok a _ q)
    rw [h1] at e'; cases e'; exact absurd (Value.type.inj hc) (by decide)
  | dic kvs =>
    obtain ⟨kv, q, _⟩ := r
    obtain ⟨_, _, vs, _, o, es, ep, e', hx, _⟩ := (show ObjOk X.prog X.w H s.heap a (.dK kv) from I.hok a _ q)
    rw [h1] at e'; cases e'
    rw [hx.1] at hc; exact absurd (Value.type.inj hc) (by decide)
  | tab x =>
    obtain ⟨z, ps, q, _⟩ := r
    have e' : s.heap.get? a = some { cls := .none, data := .fields ps } := I.hok a _ q
    rw [h1] at e'; cases e'; cases hc
theorem rep_tup {K : PySem.W.Frag} {ds : List D} {v : V} (h : Rep K H α (.tup ds) v) : ∃ a, v = .ref a := let ⟨a, _, e, _⟩ := h; ⟨a, e⟩
theorem rep_loc {K : PySem.W.Frag} {n : Nat} {v : V} (h : Rep K H α (.loc n) v) : ∃ a, v = .ref a := let ⟨a, e, _⟩ := h; ⟨a, e⟩
mutual
theorem Rep.inj (I : Inv X pins σ H s) (S : RepS X.K H α μ) : ∀ (d e : D) (v : V), Rep X.K H α d v → Rep X.K H α e v → d = e
  | d, e, v, h, h' => by
    cases d with
    | non =>
      cases (show v = _ from h)
      cases e with
      | non => rfl
      | tup es => obtain ⟨_, z⟩ := rep_tup h'; cases z
      | loc m => obtain ⟨_, z⟩ := rep_loc h'; cases z
      | _ => exact nomatch (show (_ : V) = _ from h')
    | bl a =>
      cases (show v = _ from h)
      cases e with
      | bl b => cases (show V.bl _ = V.bl _ from h'); rfl
      | tup es => obtain ⟨_, z⟩ := rep_tup h'; cases z
      | loc m => obtain ⟨_, z⟩ := rep_loc h'; cases z
      | _ => exact nomatch (show (_ : V) = _ from h')
    | int a =>
      cases (show v = _ from h)
      cases e with
      | int b => cases (show V.int _ = V.int _ from h'); rfl
      | tup es => obtain ⟨_, z⟩ := rep_tup h'; cases z
      | loc m => obtain ⟨_, z⟩ := rep_loc h'; cases z
      | _ => exact nomatch (show (_ : V) = _ from h')
    | str a =>
      cases (show v = _ from h)
      cases e with
      | str b => cases (show V.str _ = V.str _ from h'); rfl
      | tup es => obtain ⟨_, z⟩ := rep_tup h'; cases z
      | loc m => obtain ⟨_, z⟩ := rep_loc h'; cases z
      | _ => exact nomatch (show (_ : V) = _ from h')
    | tup ds =>
      obtain ⟨a, xs, rfl, q, r⟩ := h
      cases e with
      | tup es =>
        obtain ⟨a', xs', z, q', r'⟩ := h'
        cases z
        rw [I.tuple_inj q' q] at r'
        rw [Reps.inj I S ds es xs r r']
      | loc n => obtain ⟨a', z, q'⟩ := h'; cases z; exact (S.noTup I q' q).elim
      | _ => exact nomatch (show V.ref _ = _ from h')
    | ty n =>
      cases (show v = _ from h)
      cases e with
      | ty m => cases (show V.ty _ = V.ty _ from h'); rfl
      | tup es => obtain ⟨_, z⟩ := rep_tup h'; cases z
      | loc m => obtain ⟨_, z⟩ := rep_loc h'; cases z
      | _ => exact nomatch (show (_ : V) = _ from h')
    | loc n =>
      obtain ⟨a, rfl, q⟩ := h
      cases e with
      | tup es => obtain ⟨a', xs', z, q', r'⟩ := h'; cases z; exact (S.noTup I q q').elim
      | loc m =>
        obtain ⟨a', z, q'⟩ := h'
        cases z
        obtain ⟨h1, f1⟩ := List.getElem?_eq_some_iff.mp q
        obtain ⟨h2, f2⟩ := List.getElem?_eq_some_iff.mp q'
        rw [(List.getElem_inj S.nd).mp (f1.trans f2.symm)]
      | _ => exact nomatch (show V.ref _ = _ from h')
theorem Reps.inj (I : Inv X pins σ H s) (S : RepS X.K H α μ) : ∀ (ds es : List D) (xs : List V), Reps X.K H α ds xs → Reps X.K H α es xs → ds = es
  | [], es, xs, h, h' => by
    cases (show xs = [] from h)
    cases es with
    | nil => rfl
    | cons e es => obtain ⟨_, _, z, _⟩ := h'; cases z
  | d :: ds, es, xs, h, h' => by
    obtain ⟨v, vs, rfl, r, rr⟩ := h
    cases es with
    | nil => cases (show _ = [] from h')
    | cons e es =>
      obtain ⟨v', vs', z, r', rr'⟩ := h'
      cases z
      rw [Rep.inj I S d e v r r', Reps.inj I S ds es vs rr rr']
end
end

section
variable {X : Cx} {pins : List (Addr × Obj)} {σ : L2.St} {H : Hp} {s : Shared} {α : List Addr} {μ : Sto}
def RcOk (A : Around) (s : Shared) (u v : Value) (k : Bool) : Prop := RcAt A s u v k ∧ RcNeAt A s u v (!k) ∧ EqAt A s u v k
theorem rcOk_refs {A : Around} {l b : Addr} {k : Bool} (h1 : RcAt A s (.ref l) (.ref b) k) (h2 : RcNeAt A s (.ref l) (.ref b) (!k)) (hs : l = b → k = true) : RcOk A s (.ref l) (.ref b) k := by
  refine ⟨h1, h2, ?_⟩
  by_cases e : l = b
  · rw [hs e, e]; exact EqAt.same _
  · exact EqAt.of_refs e h1
theorem isTuple_of {a : Addr} {its : List Value} (p : IsTup s.heap a its.toArray) : s.heap.IsTuple a its.toArray := p
theorem items_ok {A : Around} {n : Nat} {f : D → D → Option Bool} {xs ys : List D} {k : Bool} (z : zipAll f xs ys = some k) {vs ws : List V} {us ts : List Value}
    (rx : Reps X.K H α xs vs) (ry : Reps X.K H α ys ws) (ru : Vals vs us) (rt : Vals ws ts)
    (ih : ∀ (a b : D) (k : Bool) (x y : V) (u v : Value), f a b = some k → Rep X.K H α a x → Rep X.K H α b y → RelV x u → RelV y v → EqAt A s u v k) :
    ∀ j (h1 : j < us.toArray.size) (h2 : j < ts.toArray.size), EqAt A s us.toArray[j] ts.toArray[j] (zAt f xs ys j) := by
  intro j h1 h2
  have l1 : j < xs.length := by rw [rx.length, ru.length]; simpa using h1
  have l2 : j < ys.length := by rw [ry.length, rt.length]; simpa using h2
  have e1 : xs[j]? = some xs[j] := List.getElem?_eq_getElem l1
  have e2 : ys[j]? = some ys[j] := List.getElem?_eq_getElem l2
  obtain ⟨v, p1, q1⟩ := rx.get e1
  obtain ⟨w, p2, q2⟩ := ry.get e2
  obtain ⟨u, p3, q3⟩ := ru.get p1
  obtain ⟨t, p4, q4⟩ := rt.get p2
  have f1 : us.toArray[j] = u := by
    have : us[j]? = some us[j] := List.getElem?_eq_getElem (by simpa using h1)
    rw [p3] at this
    simpa using (Option.some.inj this).symm
  have f2 : ts.toArray[j] = t := by
    have : ts[j]? = some ts[j] := List.getElem?_eq_getElem (by simpa using h2)
    rw [p4] at this
    simpa using (Option.some.inj this).symm
  rw [f1, f2]
  exact ih _ _ _ _ _ _ _ ((zipAll_range z).2 j _ _ e1 e2) q1 q2 q3 q4
theorem rc_ok (I : Inv X pins σ H s) (S : RepS X.K H α μ) : ∀ (n : Nat) (A : Around) (a b : D) (k : Bool) (x y : V) (u v : Value), A.units + n < cLine → rcD μ n a b = some k → Rep X.K H α a x → Rep X.K H α b y → RelV x u → RelV y v → RcOk A s u v k
  | 0, _, _, _, _, _, _, _, _, _, e, _, _, _, _ => by unfold rcD at e; cases e
  | n + 1, A, a, b, k, x, y, u, v, hA, e, rx, ry, ru, rv => by
    have hu : A.units < cLine := by omega
    have lst : ∀ {i : Nat} {a : Addr} {k' : Bool}, ((lstAt μ i).map fun _ => false) = some k' → α[i]? = some a → k' = false ∧ ∃ its : Array Value, s.heap.IsList a its := by
      intro i a k' h e1
      obtain ⟨ds, e2, e3⟩ := Option.map_eq_some_iff.mp h
      obtain ⟨xs, q, _⟩ := S.list e2 e1
      obtain ⟨its, _, p, _⟩ := I.list q
      exact ⟨e3.symm, _, p.isList⟩
    have ih : ∀ (a b : D) (k : Bool) (x y : V) (u v : Value), rcD μ n a b = some k → Rep X.K H α a x → Rep X.K H α b y → RelV x u → RelV y v → EqAt A.in1 s u v k := fun a b k x y u v h1 h2 h3 h4 h5 =>
      (rc_ok I S n A.in1 a b k x y u v (by show A.units + 1 + n < cLine; omega) h1 h2 h3 h4 h5).2.2
    cases a with
    | non =>
      cases (show x = _ from rx)
      cases (show u = _ from ru)
      cases b with
      | non => cases (show y = _ from ry); cases (show v = _ from rv); cases e; exact ⟨RcAt.none_none, RcNeAt.none_none, EqAt.same _⟩
      | bl b => cases (show y = _ from ry); cases (show v = _ from rv); cases e; exact ⟨RcAt.none_bool _, RcNeAt.none_bool _, EqAt.none_bool _⟩
      | int b => cases (show y = _ from ry); obtain ⟨t, rfl⟩ := rv; cases e; exact ⟨RcAt.none_int _ _, RcNeAt.none_int _ _, EqAt.none_int _ _⟩
      | str b => cases (show y = _ from ry); obtain ⟨t, rfl⟩ := rv; cases e; exact ⟨RcAt.none_str _ _, RcNeAt.none_str _ _, EqAt.none_str _ _⟩
      | tup ys => obtain ⟨a, ws, rfl, q, r⟩ := ry; cases (show v = _ from rv); cases e; obtain ⟨its, _, p, _⟩ := I.tuple q; exact ⟨RcAt.none_tuple p hu, RcNeAt.none_tuple p hu, EqAt.none_tuple p hu⟩
      | loc j => obtain ⟨a, rfl, q⟩ := ry; cases (show v = _ from rv); obtain ⟨rfl, its, p⟩ := lst e q; exact ⟨RcAt.none_list p hu, RcNeAt.none_list p hu, EqAt.none_list p hu⟩
      | ty m => cases e
    | bl a =>
      cases (show x = _ from rx)
      cases (show u = _ from ru)
      cases b with
      | non => cases (show y = _ from ry); cases (show v = _ from rv); cases e; exact ⟨RcAt.bool_none _, RcNeAt.bool_none _, EqAt.bool_none _⟩
      | bl b => cases (show y = _ from ry); cases (show v = _ from rv); cases e; exact ⟨RcAt.bool_bool _ _, RcNeAt.bool_bool _ _, EqAt.bool_bool _ _⟩
      | int b => cases (show y = _ from ry); obtain ⟨t, rfl⟩ := rv; cases e; exact ⟨RcAt.bool_int _ _ _, RcNeAt.bool_int _ _ _, EqAt.bool_int _ _ _⟩
      | str b => cases (show y = _ from ry); obtain ⟨t, rfl⟩ := rv; cases e; exact ⟨RcAt.bool_str _ _ _, RcNeAt.bool_str _ _ _, EqAt.bool_str _ _ _⟩
      | tup ys => obtain ⟨a, ws, rfl, q, r⟩ := ry; cases (show v = _ from rv); cases e; obtain ⟨its, _, p, _⟩ := I.tuple q; exact ⟨RcAt.bool_tuple _ p hu, RcNeAt.bool_tuple _ p hu, EqAt.bool_tuple _ p hu⟩
      | loc j => obtain ⟨a, rfl, q⟩ := ry; cases (show v = _ from rv); obtain ⟨rfl, its, p⟩ := lst e q; exact ⟨RcAt.bool_list _ p hu, RcNeAt.bool_list _ p hu, EqAt.bool_list _ p hu⟩
      | ty m => cases e
    | int a =>
      cases (show x = _ from rx)
      obtain ⟨ta, rfl⟩ := ru
      cases b with
      | non => cases (show y = _ from ry); cases (show v = _ from rv); cases e; exact ⟨RcAt.int_none _ _, RcNeAt.int_none _ _, EqAt.int_none _ _⟩
      | bl b => cases (show y = _ from ry); cases (show v = _ from rv); cases e; exact ⟨RcAt.int_bool _ _ _, RcNeAt.int_bool _ _ _, EqAt.int_bool _ _ _⟩
      | int b => cases (show y = _ from ry); obtain ⟨t, rfl⟩ := rv; cases e; exact ⟨RcAt.int_int _ _ _ _, RcNeAt.int_int _ _ _ _, EqAt.int_int _ _ _ _⟩
      | str b => cases (show y = _ from ry); obtain ⟨t, rfl⟩ := rv; cases e; exact ⟨RcAt.int_str _ _ _ _, RcNeAt.int_str _ _ _ _, EqAt.int_str _ _ _ _⟩
      | tup ys => obtain ⟨a, ws, rfl, q, r⟩ := ry; cases (show v = _ from rv); cases e; obtain ⟨its, _, p, _⟩ := I.tuple q; exact ⟨RcAt.int_tuple _ _ p hu, RcNeAt.int_tuple _ _ p hu, EqAt.int_tuple _ _ p hu⟩
      | loc j => obtain ⟨a, rfl, q⟩ := ry; cases (show v = _ from rv); obtain ⟨rfl, its, p⟩ := lst e q; exact ⟨RcAt.int_list _ _ p hu, RcNeAt.int_list _ _ p hu, EqAt.int_list _ _ p hu⟩
      | ty m => cases e
    | str a =>
      cases (show x = _ from rx)
      obtain ⟨ta, rfl⟩ := ru
      cases b with
      | non => cases (show y = _ from ry); cases (show v = _ from rv); cases e; exact ⟨RcAt.str_none _ _, RcNeAt.str_none _ _, EqAt.str_none _ _⟩
      | bl b => cases (show y = _ from ry); cases (show v = _ from rv); cases e; exact ⟨RcAt.str_bool _ _ _, RcNeAt.str_bool _ _ _, EqAt.str_bool _ _ _⟩
      | int b => cases (show y = _ from ry); obtain ⟨t, rfl⟩ := rv; cases e; exact ⟨RcAt.str_int _ _ _ _, RcNeAt.str_int _ _ _ _, EqAt.str_int _ _ _ _⟩
      | str b => cases (show y = _ from ry); obtain ⟨t, rfl⟩ := rv; cases e; exact ⟨RcAt.str_str _ _ _ _, RcNeAt.str_str _ _ _ _, EqAt.str_str _ _ _ _⟩
      | tup ys => obtain ⟨a, ws, rfl, q, r⟩ := ry; cases (show v = _ from rv); cases e; obtain ⟨its, _, p, _⟩ := I.tuple q; exact ⟨RcAt.str_tuple _ _ p hu, RcNeAt.str_tuple _ _ p hu, EqAt.str_tuple _ _ p hu⟩
      | loc j => obtain ⟨a, rfl, q⟩ := ry; cases (show v = _ from rv); obtain ⟨rfl, its, p⟩ := lst e q; exact ⟨RcAt.str_list _ _ p hu, RcNeAt.str_list _ _ p hu, EqAt.str_list _ _ p hu⟩
      | ty m => cases e
    | tup xs =>
      have rx0 := rx
      obtain ⟨l, vs, rfl, q0, r0⟩ := rx
      cases (show u = _ from ru)
      obtain ⟨its, vr, p0, _⟩ := I.tuple q0
      cases b with
      | non => cases (show y = _ from ry); cases (show v = _ from rv); cases e; exact ⟨RcAt.tuple_none p0 hu, RcNeAt.tuple_none p0 hu, EqAt.tuple_none p0 hu⟩
      | bl b => cases (show y = _ from ry); cases (show v = _ from rv); cases e; exact ⟨RcAt.tuple_bool _ p0 hu, RcNeAt.tuple_bool _ p0 hu, EqAt.tuple_bool _ p0 hu⟩
      | int b => cases (show y = _ from ry); obtain ⟨t, rfl⟩ := rv; cases e; exact ⟨RcAt.tuple_int _ _ p0 hu, RcNeAt.tuple_int _ _ p0 hu, EqAt.tuple_int _ _ p0 hu⟩
      | str b => cases (show y = _ from ry); obtain ⟨t, rfl⟩ := rv; cases e; exact ⟨RcAt.tuple_str _ _ p0 hu, RcNeAt.tuple_str _ _ p0 hu, EqAt.tuple_str _ _ p0 hu⟩
      | loc j => obtain ⟨a, rfl, q⟩ := ry; cases (show v = _ from rv); obtain ⟨rfl, its', p⟩ := lst e q; exact ⟨RcAt.tuple_list p0 p hu, RcNeAt.tuple_list p0 p hu, EqAt.tuple_list p0 p hu⟩
      | ty m => cases e
      | tup ys =>
        have ry0 := ry
        have e0 := e
        obtain ⟨m, ws, rfl, q1, r1⟩ := ry
        cases (show v = _ from rv)
        obtain ⟨its', wr, p1, _⟩ := I.tuple q1
        unfold rcD at e
        obtain ⟨b, e1, e2⟩ := Option.map_eq_some_iff.mp e
        have hz := items_ok (n := n) e1 r0 r1 vr wr ih
        have ek : ((List.range (min its.toArray.size its'.toArray.size)).all (zAt (rcD μ n) xs ys) && its.toArray.size == its'.toArray.size) = k := by
          rw [← e2]
          have l1 : its.toArray.size = xs.length := by rw [r0.length, vr.length]; simp
          have l2 : its'.toArray.size = ys.length := by rw [r1.length, wr.length]; simp
          rw [l1, l2, (zipAll_range e1).1]
        refine rcOk_refs (ek ▸ RcAt.tuples p0 p1 hu hz) (ek ▸ RcNeAt.tuples p0 p1 hu hz) fun z => ?_
        subst z
        have := Rep.inj I S _ _ _ rx0 ry0
        rw [this] at e0
        exact rcD_refl _ _ _ e0
    | ty m => cases b <;> cases e
    | loc i =>
      have rx0 := rx
      obtain ⟨l, rfl, q0⟩ := rx
      cases (show u = _ from ru)
      cases b with
      | non => cases (show y = _ from ry); cases (show v = _ from rv); obtain ⟨rfl, its, p⟩ := lst e q0; exact ⟨RcAt.list_none p hu, RcNeAt.list_none p hu, EqAt.list_none p hu⟩
      | bl b => cases (show y = _ from ry); cases (show v = _ from rv); obtain ⟨rfl, its, p⟩ := lst e q0; exact ⟨RcAt.list_bool _ p hu, RcNeAt.list_bool _ p hu, EqAt.list_bool _ p hu⟩
      | int b => cases (show y = _ from ry); obtain ⟨t, rfl⟩ := rv; obtain ⟨rfl, its, p⟩ := lst e q0; exact ⟨RcAt.list_int _ _ p hu, RcNeAt.list_int _ _ p hu, EqAt.list_int _ _ p hu⟩
      | str b => cases (show y = _ from ry); obtain ⟨t, rfl⟩ := rv; obtain ⟨rfl, its, p⟩ := lst e q0; exact ⟨RcAt.list_str _ _ p hu, RcNeAt.list_str _ _ p hu, EqAt.list_str _ _ p hu⟩
      | tup ys => obtain ⟨a, ws, rfl, q, r⟩ := ry; cases (show v = _ from rv); obtain ⟨rfl, its, p⟩ := lst e q0; obtain ⟨its', _, p', _⟩ := I.tuple q; exact ⟨RcAt.list_tuple p p' hu, RcNeAt.list_tuple p p' hu, EqAt.list_tuple p p' hu⟩
      | ty m => cases e
      | loc j =>
        have ry0 := ry
        have e0 := e
        obtain ⟨m, rfl, q1⟩ := ry
        cases (show v = _ from rv)
        unfold rcD at e
        split at e
        · rename_i xs ys e1 e2
          obtain ⟨vs, s0, r0⟩ := S.list e1 q0
          obtain ⟨ws, s1, r1⟩ := S.list e2 q1
          obtain ⟨its, vr, p0, _⟩ := I.list s0
          obtain ⟨its', wr, p1, _⟩ := I.list s1
          have l1 : its.toArray.size = xs.length := by rw [r0.length, vr.length]; simp
          have l2 : its'.toArray.size = ys.length := by rw [r1.length, wr.length]; simp
          have same : l = m → k = true := fun z => by
            subst z
            have := Rep.inj I S _ _ _ rx0 ry0
            rw [this] at e0
            exact rcD_refl _ _ _ e0
          by_cases hl : xs.length = ys.length
          · rw [if_pos hl] at e
            have hz := items_ok (n := n) e r0 r1 vr wr ih
            have ek : (List.range its.toArray.size).all (zAt (rcD μ n) xs ys) = k := by
              have := (zipAll_range e).1
              rw [← hl, Nat.min_self] at this
              rw [l1, this]
            exact rcOk_refs (ek ▸ RcAt.lists p0.isList p1.isList (by rw [l1, l2, hl]) hu hz) (ek ▸ RcNeAt.lists p0.isList p1.isList (by rw [l1, l2, hl]) hu hz) same
          · rw [if_neg hl] at e
            cases e
            have ne : (its.toArray.size != its'.toArray.size) = true := by rw [l1, l2]; simpa using hl
            exact rcOk_refs (RcAt.lists_lengths p0.isList p1.isList ne hu) (RcNeAt.lists_lengths p0.isList p1.isList ne hu) same
        · cases e
end
end DL
/-! DN: operators, calls of builtins, by data. -/
namespace DL
open PySem PySem.Spec PyProof.Rows L2
open PySem.SeqAt (EqAt RcAt RcNeAt)
section
variable {K : PySem.W.Frag} {H : Hp} {α : List Addr} {μ : Sto} {Q : VK}
theorem Kont.tup {ds : List D} {xs : List V} (k : Kont K H α μ (.tup ds) Q) (S : RepS K H α μ) (r : Reps K H α ds xs) : ∀ p, H p = none → Q (.ref p) (upd H p (.tup xs)) := fun p hp =>
  k _ α _ (ext_tup α hp) (S.tup hp) ⟨p, xs, rfl, .inl (.inl upd_same), r.up (ext_tup α hp)⟩
theorem Kont.lst {ds : List D} {xs : List V} (k : Kont K H α (μ ++ [.lst ds]) (.loc μ.length) Q) (S : RepS K H α μ) (r : Reps K H α ds xs) : ∀ p, H p = none → Q (.ref p) (upd H p (.lst xs)) := fun p hp =>
  k _ (α ++ [p]) _ (ext_new α [p] hp) (S.new hp ⟨xs, upd_same, r.up (ext_new α [p] hp)⟩) (rep_new S)
theorem Kont.dic {kvs : List (Key × D)} {kv : List (Key × V)} (k : Kont K H α (μ ++ [.dic kvs]) (.loc μ.length) Q) (S : RepS K H α μ) (r1 : kvs.map (·.1) = kv.map (·.1)) (r : Reps K H α (kvs.map (·.2)) (kv.map (·.2))) :
    ∀ p, H p = none → Q (.ref p) (upd H p (.dK kv)) := fun p hp =>
  k _ (α ++ [p]) _ (ext_new α [p] hp) (S.new hp ⟨kv, upd_same, r1, r.up (ext_new α [p] hp)⟩) (rep_new S)
theorem Kont.setL {n : Nat} {ds ds' : List D} {xs xs' : List V} {a : Addr} {d : D} {v : V} (k : Kont K H α (μ.set n (.lst ds')) d Q) (S : RepS K H α μ) (e : α[n]? = some a) (h : H a = some (.lst xs)) (r : Reps K H α ds' xs') (rv : Rep K H α d v) :
    Q v (upd H a (.lst xs')) :=
  k _ α _ (ext_write (nt_lst h)) (S.write e (nt_lst h) ⟨xs', upd_same, r.up (ext_write (nt_lst h))⟩) (rv.up (ext_write (nt_lst h)))
end
/-! ### two-place operations -/
abbrev G2 := D → D → Sto → Option (D × Sto)
abbrev GN := List D → Sto → Option (D × Sto)
abbrev G1 := D → Sto → Option (D × Sto)
def rD (K : PySem.W.Frag) (g : G2) : R2 := fun x y H Q => ∃ α μ a b d μ', RepS K H α μ ∧ Rep K H α a x ∧ Rep K H α b y ∧ g a b μ = some (d, μ') ∧ Kont K H α μ' d Q
def uD (K : PySem.W.Frag) (g : G1) : V → Hp → VK → Prop := fun x H Q => ∃ α μ a d μ', RepS K H α μ ∧ Rep K H α a x ∧ g a μ = some (d, μ') ∧ Kont K H α μ' d Q
def cD (K : PySem.W.Frag) (g : GN) : List V → Hp → VK → Prop := fun xs H Q => ∃ α μ ds d μ', RepS K H α μ ∧ Reps K H α ds xs ∧ g ds μ = some (d, μ') ∧ Kont K H α μ' d Q
def mD (K : PySem.W.Frag) (g : D → List D → Sto → Option (D × Sto)) : V → List V → Hp → VK → Prop := fun x xs H Q => ∃ α μ a ds d μ', RepS K H α μ ∧ Rep K H α a x ∧ Reps K H α ds xs ∧ g a ds μ = some (d, μ') ∧ Kont K H α μ' d Q

def opAdd : G2
  | .int i, .int j, μ => some (.int (i + j), μ)
  | .str x, .str y, μ => if x.length + y.length ≤ sizeLine then some (.str (x ++ y), μ) else none
  | .tup xs, .tup ys, μ => if xs.length + ys.length ≤ sizeLine then some (.tup (xs ++ ys), μ) else none
  | _, _, _ => none
def opSub : G2
  | .int i, .int j, μ => some (.int (i - j), μ)
  | _, _, _ => none
def mulOk (i j : Int) : Bool := decide (i.natAbs.log2 + j.natAbs.log2 < 100000000)
def opMul : G2
  | .int i, .int j, μ => if mulOk i j then some (.int (i * j), μ) else none
  | _, _, _ => none
def opFdiv : G2
  | .int i, .int j, μ => if j ≠ 0 ∧ Builtin.divisionGoesByPylong i j = false then some (.int (i.fdiv j), μ) else none
  | _, _, _ => none
def opMod : G2
  | .int i, .int j, μ => if j ≠ 0 then some (.int (i.fmod j), μ) else none
  | _, _, _ => none
def opPow : G2
  | .int i, .int j, μ => if 0 ≤ j ∧ j ≤ 1000000 ∧ i.natAbs < 2 ^ 64 then some (.int (i ^ j.toNat), μ) else none
  | _, _, _ => none
def opCmp (p : Int → Int → Bool) : G2
  | .int i, .int j, μ => some (.bl (p i j), μ)
  | _, _, _ => none
abbrev opLt : G2 := opCmp fun i j => decide (i < j)
abbrev opLe : G2 := opCmp fun i j => decide (i ≤ j)
abbrev opGt : G2 := opCmp fun i j => decide (j < i)
abbrev opGe : G2 := opCmp fun i j => decide (j ≤ i)
def opEq : G2 := fun a b μ => (rcD μ 60 a b).map fun k => (.bl k, μ)
def opNe : G2 := fun a b μ => (rcD μ 60 a b).map fun k => (.bl !k, μ)
def isNonD : D → Bool
  | .non => true
  | _ => false
def opIsN : G2
  | a, .non, μ => some (.bl (isNonD a), μ)
  | _, _, _ => none
def opIsNotN : G2
  | a, .non, μ => some (.bl !isNonD a, μ)
  | _, _, _ => none

theorem mulOk_ok {i j : Int} (h : mulOk i j = true) : IntMulOk i j := by
  have b : ∀ x : Int, Builtin.Int.intBits x ≤ x.natAbs.log2 + 1 := fun x => by
    unfold Builtin.Int.intBits
    split <;> omega
  have h1 := b i
  have h2 := b j
  have h3 : i.natAbs.log2 + j.natAbs.log2 < 100000000 := of_decide_eq_true h
  have e : bitsLine = 134217728 := by decide
  unfold IntMulOk
  intro z
  rw [Bool.and_eq_true] at z
  have z2 := z.2
  unfold Builtin.Int.intTooBig at z2
  have z3 := of_decide_eq_true z2
  rw [e] at z3
  omega
section
variable {X : Cx}
theorem do_add : OpR X (binaryOp .Add) (rD X.K opAdd) := by
  refine (op_add.or (op_add_str.or op_catA)).imp ?_
  rintro x y H Q ⟨α, μ, a, b, d, μ', S, ra, rb, e, k⟩
  cases a with
  | int i => cases b with
    | int j => cases e; exact .inl ⟨i, j, ra, rb, kont_self k S rfl⟩
    | _ => cases e
  | str i => cases b with
    | str j =>
      replace e : (if i.length + j.length ≤ sizeLine then some (D.str (i ++ j), μ) else none) = some (d, μ') := e
      split at e
      · rename_i h
        cases e
        exact .inr (.inl ⟨i, j, ra, rb, h, kont_self k S rfl⟩)
      · cases e
    | _ => cases e
  | tup xs => cases b with
    | tup ys =>
      replace e : (if xs.length + ys.length ≤ sizeLine then some (D.tup (xs ++ ys), μ) else none) = some (d, μ') := e
      split at e
      · rename_i h
        cases e
        obtain ⟨p, vs, rfl, q1, r1⟩ := ra
        obtain ⟨q, ws, rfl, q2, r2⟩ := rb
        refine .inr (.inr ⟨p, q, vs, ws, rfl, rfl, q1, q2, by rw [← r1.length, ← r2.length]; exact h, fun z => ?_, fun _ z => ?_, fun _ _ => k.tup S (r1.append r2)⟩)
        · have := r1.nil_iff.mpr z
          subst this
          exact kont_self k S ⟨q, ws, rfl, q2, r2⟩
        · have := r2.nil_iff.mpr z
          subst this
          rw [List.append_nil] at k
          exact kont_self k S ⟨p, vs, rfl, q1, r1⟩
      · cases e
    | _ => cases e
  | _ => cases b <;> cases e
theorem opR_int {f : Value → Value → Sem Value} {C : Int → Int → Prop} {h : Int → Int → D} {hv : Int → Int → V} {g : G2} (o : OpR X f (rI C hv)) (hh : ∀ H α i j, Rep X.K H α (h i j) (hv i j))
    (hg : ∀ a b μ d μ', g a b μ = some (d, μ') → ∃ i j, a = .int i ∧ b = .int j ∧ C i j ∧ d = h i j ∧ μ' = μ) : OpR X f (rD X.K g) := by
  refine o.imp ?_
  rintro x y H Q ⟨α, μ, a, b, d, μ', S, ra, rb, e, k⟩
  obtain ⟨i, j, rfl, rfl, c, rfl, rfl⟩ := hg _ _ _ _ _ e
  exact ⟨i, j, ra, rb, c, kont_self k S (hh _ _ _ _)⟩
theorem rI0_I {f : Value → Value → Sem Value} {g : Int → Int → V} (o : OpR X f (rI0 g)) : OpR X f (rI (fun _ _ => True) g) := o.imp fun x y H Q ⟨i, j, h1, h2, _, q⟩ => ⟨i, j, h1, h2, q⟩
theorem do_sub : OpR X (binaryOp .Sub) (rD X.K opSub) := opR_int (h := fun i j => .int (i - j)) (rI0_I op_sub) (fun _ _ _ _ => rfl) fun a b μ d μ' e => by
  cases a <;> cases b <;> cases e; exact ⟨_, _, rfl, rfl, trivial, rfl, rfl⟩
theorem do_mul : OpR X (binaryOp .Mult) (rD X.K opMul) := opR_int (C := fun i j => mulOk i j = true) (h := fun i j => .int (i * j)) (opI fun _ _ _ _ _ _ _ hc q => mul_int q (mulOk_ok hc)) (fun _ _ _ _ => rfl) fun a b μ d μ' e => by
  cases a with
  | int i => cases b with
    | int j =>
      replace e : (if mulOk i j then some (D.int (i * j), μ) else none) = some (d, μ') := e
      split at e
      · rename_i h; cases e; exact ⟨_, _, rfl, rfl, h, rfl, rfl⟩
      · cases e
    | _ => cases e
  | _ => cases b <;> cases e
theorem do_fdiv : OpR X (binaryOp .FloorDiv) (rD X.K opFdiv) := opR_int (C := fun i j => j ≠ 0 ∧ Builtin.divisionGoesByPylong i j = false) (h := fun i j => .int (i.fdiv j)) (opI fun _ _ _ _ _ _ _ hc q => floordiv_int hc.1 q (.inl hc.2)) (fun _ _ _ _ => rfl) fun a b μ d μ' e => by
  cases a with
  | int i => cases b with
    | int j =>
      replace e : (if j ≠ 0 ∧ Builtin.divisionGoesByPylong i j = false then some (D.int (i.fdiv j), μ) else none) = some (d, μ') := e
      split at e
      · rename_i h; cases e; exact ⟨_, _, rfl, rfl, h, rfl, rfl⟩
      · cases e
    | _ => cases e
  | _ => cases b <;> cases e
theorem do_mod : OpR X (binaryOp .Mod) (rD X.K opMod) := opR_int (C := fun _ j => j ≠ 0) (h := fun i j => .int (i.fmod j)) op_modN (fun _ _ _ _ => rfl) fun a b μ d μ' e => by
  cases a with
  | int i => cases b with
    | int j =>
      replace e : (if j ≠ 0 then some (D.int (i.fmod j), μ) else none) = some (d, μ') := e
      split at e
      · rename_i h; cases e; exact ⟨_, _, rfl, rfl, h, rfl, rfl⟩
      · cases e
    | _ => cases e
  | _ => cases b <;> cases e
theorem do_pow : OpR X (binaryOp .Pow) (rD X.K opPow) := opR_int (C := CPow) (h := fun i j => .int (i ^ j.toNat)) op_pow (fun _ _ _ _ => rfl) fun a b μ d μ' e => by
  cases a with
  | int i => cases b with
    | int j =>
      replace e : (if 0 ≤ j ∧ j ≤ 1000000 ∧ i.natAbs < 2 ^ 64 then some (D.int (i ^ j.toNat), μ) else none) = some (d, μ') := e
      split at e
      · rename_i h; cases e; exact ⟨_, _, rfl, rfl, h, rfl, rfl⟩
      · cases e
    | _ => cases e
  | _ => cases b <;> cases e
theorem opCmp_some {p : Int → Int → Bool} {a b : D} {μ μ' : Sto} {d : D} (e : opCmp p a b μ = some (d, μ')) : ∃ i j, a = .int i ∧ b = .int j ∧ True ∧ d = .bl (p i j) ∧ μ' = μ := by
  cases a <;> cases b <;> cases e; exact ⟨_, _, rfl, rfl, trivial, rfl, rfl⟩
theorem do_lt : OpR X (compareOp .Lt) (rD X.K opLt) := opR_int (h := fun i j => .bl (decide (i < j))) (rI0_I op_lt) (fun _ _ _ _ => rfl) fun a b μ d μ' e => opCmp_some e
theorem do_le : OpR X (compareOp .LtE) (rD X.K opLe) := opR_int (h := fun i j => .bl (decide (i ≤ j))) (rI0_I op_le) (fun _ _ _ _ => rfl) fun a b μ d μ' e => opCmp_some e
theorem do_gt : OpR X (compareOp .Gt) (rD X.K opGt) := opR_int (h := fun i j => .bl (decide (j < i))) (rI0_I op_gt) (fun _ _ _ _ => rfl) fun a b μ d μ' e => opCmp_some e
theorem do_ge : OpR X (compareOp .GtE) (rD X.K opGe) := opR_int (h := fun i j => .bl (decide (j ≤ i))) (rI0_I op_ge) (fun _ _ _ _ => rfl) fun a b μ d μ' e => opCmp_some e
theorem do_eq (hu : X.A.units + 64 < cLine) : OpR X (compareOp .Eq) (rD X.K opEq) := by
  rintro pins s σ H x y v u Q I rx ry ⟨α, μ, a, b, d, μ', S, ra, rb, e, k⟩
  obtain ⟨c, e1, e2⟩ := Option.map_eq_some_iff.mp e
  cases e2
  exact (rc_ok I S 60 X.A a b c x y v u (by omega) e1 ra rb rx ry).1 _ _ _ _ ⟨.bl c, H, I, rfl, kont_self k S rfl⟩
theorem do_ne (hu : X.A.units + 64 < cLine) : OpR X (compareOp .NotEq) (rD X.K opNe) := by
  rintro pins s σ H x y v u Q I rx ry ⟨α, μ, a, b, d, μ', S, ra, rb, e, k⟩
  obtain ⟨c, e1, e2⟩ := Option.map_eq_some_iff.mp e
  cases e2
  exact (rc_ok I S 60 X.A a b c x y v u (by omega) e1 ra rb rx ry).2.1 _ _ _ _ ⟨.bl (!c), H, I, rfl, kont_self k S rfl⟩
theorem rep_non {K : PySem.W.Frag} {H : Hp} {α : List Addr} {d : D} {v : V} (r : Rep K H α d v) : decide (v = V.non) = isNonD d := by
  cases d with
  | tup ds => obtain ⟨_, _, rfl, _⟩ := r; rfl
  | loc n => obtain ⟨_, rfl, _⟩ := r; rfl
  | non => cases (show v = _ from r); rfl
  | bl b => cases (show v = _ from r); rfl
  | int b => cases (show v = _ from r); rfl
  | str b => cases (show v = _ from r); rfl
  | ty b => cases (show v = _ from r); rfl
theorem do_isN : OpR X (compareOp .Is) (rD X.K opIsN) := by
  refine op_isN.imp ?_
  rintro x y H Q ⟨α, μ, a, b, d, μ', S, ra, rb, e, k⟩
  cases b with
  | non => unfold opIsN at e; cases e; exact ⟨rb, by rw [rep_non ra]; exact kont_self k S rfl⟩
  | _ => cases a <;> cases e
theorem do_isNotN : OpR X (compareOp .IsNot) (rD X.K opIsNotN) := by
  refine op_notN.imp ?_
  rintro x y H Q ⟨α, μ, a, b, d, μ', S, ra, rb, e, k⟩
  cases b with
  | non =>
    unfold opIsNotN at e; cases e
    exact ⟨rb, by rw [rep_non ra]; exact kont_self k S rfl⟩
  | _ => cases a <;> cases e
end

/-! ### one-place operations, truth -/
def unNeg : G1
  | .int i, μ => some (.int (-i), μ)
  | _, _ => none
def truD (μ : Sto) : D → Option Bool
  | .non => some false
  | .bl b => some b
  | .int i => some (i != 0)
  | .str x => if x.length ≤ sizeLine then some ((x.length : Int) != 0) else none
  | .tup ds => some !ds.isEmpty
  | .loc n => match μ[n]? with
    | some (.lst ds) => some !ds.isEmpty
    | some (.frz ds) => some !ds.isEmpty
    | some (.dic kvs) => some !kvs.isEmpty
    | some (.tab _) => none
    | none => none
  | .ty _ => none
section
variable {X : Cx}
theorem du_neg : UnR X (unaryOp .USub) (uD X.K unNeg) := by
  refine un_neg.imp ?_
  rintro x H Q ⟨α, μ, a, d, μ', S, ra, e, k⟩
  cases a <;> cases e
  exact ⟨_, ra, kont_self k S rfl⟩
theorem isEmpty_reps {K : PySem.W.Frag} {H : Hp} {α : List Addr} {ds : List D} {xs : List V} (r : Reps K H α ds xs) : ds.isEmpty = xs.isEmpty := by
  have := r.length
  cases ds <;> cases xs <;> simp_all
theorem truV {H : Hp} {α : List Addr} {μ : Sto} {a : D} {x : V} {b : Bool} (S : RepS X.K H α μ) (ra : Rep X.K H α a x) (e : truD μ a = some b) : TruV X.K x H b := by
  cases a with
  | non => cases e; cases (show x = _ from ra); rfl
  | bl c => cases e; cases (show x = _ from ra); rfl
  | int i => cases e; cases (show x = _ from ra); rfl
  | str y =>
    cases (show x = _ from ra)
    replace e : (if y.length ≤ sizeLine then some ((y.length : Int) != 0) else none) = some b := e
    split at e
    · rename_i h; cases e; exact ⟨h, rfl⟩
    · cases e
  | tup ds =>
    obtain ⟨p, xs, rfl, q, r⟩ := ra
    cases e
    exact .inr (.inl ⟨xs, q, by rw [isEmpty_reps r]⟩)
  | loc n =>
    obtain ⟨p, rfl, q⟩ := ra
    obtain ⟨o, e2, r⟩ := S.here q
    simp only [truD, e2] at e
    cases o with
    | lst ds => cases e; obtain ⟨xs, h, r⟩ := r; exact .inl ⟨xs, .inl (.inl h), by rw [isEmpty_reps r]⟩
    | frz ds => cases e; obtain ⟨o, xs, h, r⟩ := r; exact .inl ⟨xs, .inl (.inr ⟨o, h⟩), by rw [isEmpty_reps r]⟩
    | dic kvs =>
      cases e
      obtain ⟨kv, h, r1, r2⟩ := r
      refine .inr (.inr ⟨kv, h, ?_⟩)
      have := isEmpty_reps r2
      simpa using this
    | tab x => cases e
  | ty n => cases e
end
end DL
/-! DO: calls of builtins, subscripts, slices, writes, methods, by data. -/
namespace DL
open PySem PySem.Spec PyProof.Rows L2
def intsOf : List D → Option (List Int)
  | [] => some []
  | .int i :: ds => (intsOf ds).map (i :: ·)
  | _ :: _ => none
theorem intsOf_map : ∀ {ds : List D} {ns : List Int}, intsOf ds = some ns → ds = ns.map D.int
  | [], ns, e => by cases e; rfl
  | d :: ds, ns, e => by
    cases d with
    | int i =>
      obtain ⟨m, h, rfl⟩ := Option.map_eq_some_iff.mp (show (intsOf ds).map (i :: ·) = some ns from e)
      rw [intsOf_map h]; rfl
    | _ => cases e
theorem intsOf_ints : ∀ ns : List Int, intsOf (ns.map D.int) = some ns
  | [] => rfl
  | n :: ns => by
    show (intsOf (ns.map D.int)).map (n :: ·) = _
    rw [intsOf_ints ns]; rfl
def blsOf : List D → Option (List Bool)
  | [] => some []
  | .bl i :: ds => (blsOf ds).map (i :: ·)
  | _ :: _ => none
theorem blsOf_map : ∀ {ds : List D} {ns : List Bool}, blsOf ds = some ns → ds = ns.map D.bl
  | [], ns, e => by cases e; rfl
  | d :: ds, ns, e => by
    cases d with
    | bl i =>
      obtain ⟨m, h, rfl⟩ := Option.map_eq_some_iff.mp (show (blsOf ds).map (i :: ·) = some ns from e)
      rw [blsOf_map h]; rfl
    | _ => cases e
theorem blsOf_bls : ∀ ns : List Bool, blsOf (ns.map D.bl) = some ns
  | [] => rfl
  | n :: ns => by
    show (blsOf (ns.map D.bl)).map (n :: ·) = _
    rw [blsOf_bls ns]; rfl
def maxI : Int → List Int → Int
  | i, [] => i
  | i, j :: js => maxI (if j > i then j else i) js
def minI : Int → List Int → Int
  | i, [] => i
  | i, j :: js => minI (if j < i then j else i) js
theorem maxI_ok : ∀ (i : Int) (js : List Int), maxI i js ∈ i :: js ∧ ∀ y ∈ i :: js, y ≤ maxI i js
  | i, [] => by simp [maxI]
  | i, j :: js => by
    obtain ⟨h1, h2⟩ := maxI_ok (if j > i then j else i) js
    show maxI (if j > i then j else i) js ∈ _ ∧ ∀ y ∈ _, y ≤ maxI (if j > i then j else i) js
    have h3 := h2 _ List.mem_cons_self
    refine ⟨?_, fun y hy => ?_⟩
    · rcases List.mem_cons.mp h1 with e | e
      · rw [e]; split <;> simp
      · simp [e]
    · have h4 : i ≤ (if j > i then j else i) ∧ j ≤ (if j > i then j else i) := by split <;> omega
      rcases List.mem_cons.mp hy with rfl | hy
      · omega
      · rcases List.mem_cons.mp hy with rfl | hy
        · omega
        · exact h2 y (List.mem_cons_of_mem _ hy)
theorem minI_ok : ∀ (i : Int) (js : List Int), minI i js ∈ i :: js ∧ ∀ y ∈ i :: js, minI i js ≤ y
  | i, [] => by simp [minI]
  | i, j :: js => by
    obtain ⟨h1, h2⟩ := minI_ok (if j < i then j else i) js
    show minI (if j < i then j else i) js ∈ _ ∧ ∀ y ∈ _, minI (if j < i then j else i) js ≤ y
    have h3 := h2 _ List.mem_cons_self
    refine ⟨?_, fun y hy => ?_⟩
    · rcases List.mem_cons.mp h1 with e | e
      · rw [e]; split <;> simp
      · simp [e]
    · have h4 : (if j < i then j else i) ≤ i ∧ (if j < i then j else i) ≤ j := by split <;> omega
      rcases List.mem_cons.mp hy with rfl | hy
      · omega
      · rcases List.mem_cons.mp hy with rfl | hy
        · omega
        · exact h2 y (List.mem_cons_of_mem _ hy)
section
variable {X : Cx}
/-- a tracked or frozen list of the store -/
theorem RepS.sql {K : PySem.W.Frag} {H : Hp} {α : List Addr} {μ : Sto} (S : RepS K H α μ) {i : Nat} {ds : List D} {v : V} (h : lstAt μ i = some ds) (r : Rep K H α (.loc i) v) : ∃ a xs, v = .ref a ∧ SqL K H a xs ∧ Reps K H α ds xs := by
  obtain ⟨a, rfl, e⟩ := r
  obtain ⟨o, e2, r⟩ := S.here e
  unfold lstAt at h
  rw [e2] at h
  cases o with
  | lst ds' => cases h; obtain ⟨xs, q, r⟩ := r; exact ⟨a, xs, rfl, .inl (.inl q), r⟩
  | frz ds' => cases h; obtain ⟨o, xs, q, r⟩ := r; exact ⟨a, xs, rfl, .inl (.inr ⟨o, q⟩), r⟩
  | dic kvs => cases h
  | tab x => cases h

/-! ### calls of builtins -/
def cAbs : GN
  | [.int i], μ => some (.int (if i < 0 then -i else i), μ)
  | _, _ => none
def cMax : GN
  | [.int i, .int j], μ => some (.int (if j > i then j else i), μ)
  | [.loc n], μ => match (lstAt μ n).bind intsOf with
    | some (i :: is) => some (.int (maxI i is), μ)
    | _ => none
  | _, _ => none
def cMin : GN
  | [.int i, .int j], μ => some (.int (if j < i then j else i), μ)
  | [.loc n], μ => match (lstAt μ n).bind intsOf with
    | some (i :: is) => some (.int (minI i is), μ)
    | _ => none
  | _, _ => none
def cInt : GN
  | [.int i], μ => some (.int i, μ)
  | [.bl k], μ => some (.int (if k then 1 else 0), μ)
  | _, _ => none
def cBool : GN
  | [.int i], μ => some (.bl (i != 0), μ)
  | [.bl k], μ => some (.bl k, μ)
  | [.loc n], μ => (lstAt μ n).map fun ds => (.bl !ds.isEmpty, μ)
  | _, _ => none
def cStr : GN
  | [.int i], μ => if i.natAbs.log2 < 1920 then some (.str (toString i), μ) else none
  | _, _ => none
def cLen : GN
  | [.str x], μ => if x.length ≤ sizeLine then some (.int x.length, μ) else none
  | [.tup ds], μ => some (.int ds.length, μ)
  | [.loc n], μ => (lstAt μ n).map fun ds => (.int ds.length, μ)
  | _, _ => none
def cDivmod : GN
  | [.int i, .int j], μ => if 0 < j ∧ j < 1073741824 then some (.tup [.int (i / j), .int (i % j)], μ) else none
  | _, _ => none
def cTuple : GN
  | [.tup ds], μ => some (.tup ds, μ)
  | [.loc n], μ => (lstAt μ n).map fun ds => (.tup ds, μ)
  | _, _ => none
def keyD : Key → D
  | .inl i => .int i
  | .inr x => .str x
def cList : GN
  | [.tup ds], μ => some (.loc μ.length, μ ++ [.lst ds])
  | [.loc n], μ => match μ[n]? with
    | some (.lst ds) => some (.loc μ.length, μ ++ [.lst ds])
    | some (.frz ds) => some (.loc μ.length, μ ++ [.lst ds])
    | some (.dic kvs) => some (.loc μ.length, μ ++ [.lst (kvs.map fun kv => keyD kv.1)])
    | some (.tab _) => none
    | none => none
  | _, _ => none
def cAll : GN
  | [.loc n], μ => ((lstAt μ n).bind blsOf).map fun bs => (.bl (bs.all id), μ)
  | _, _ => none
def cAny : GN
  | [.loc n], μ => ((lstAt μ n).bind blsOf).map fun bs => (.bl (bs.any id), μ)
  | _, _ => none
def cGcd : GN
  | [.int a, .int b], μ => some (.int ((Nat.gcd a.natAbs b.natAbs : Nat) : Int), μ)
  | _, _ => none
theorem dc_abs : CallR X (.builtin "abs") (cD X.K cAbs) := by
  refine call_abs.imp ?_
  rintro xs H Q ⟨α, μ, ds, d, μ', S, r, e, k⟩
  unfold cAbs at e
  split at e
  · cases e
    obtain ⟨v, _, rfl, h1, h2⟩ := r
    cases (show v = _ from h1); cases (show _ = _ from h2)
    exact ⟨_, rfl, kont_self k S rfl⟩
  · cases e
theorem ints_bind {μ : Sto} {n : Nat} {ns : List Int} (h : (lstAt μ n).bind intsOf = some ns) : lstAt μ n = some (ns.map D.int) := by
  obtain ⟨ds, h1, h2⟩ := Option.bind_eq_some_iff.mp h
  rw [h1, intsOf_map h2]
theorem bls_bind {μ : Sto} {n : Nat} {ns : List Bool} (h : (lstAt μ n).bind blsOf = some ns) : lstAt μ n = some (ns.map D.bl) := by
  obtain ⟨ds, h1, h2⟩ := Option.bind_eq_some_iff.mp h
  rw [h1, blsOf_map h2]
theorem dc_max (hc : X.calm = true) : CallR X (.builtin "max") (cD X.K cMax) := by
  refine ((call_max2 hc).or (cr_max hc)).imp ?_
  rintro xs H Q ⟨α, μ, ds, d, μ', S, r, e, k⟩
  unfold cMax at e
  split at e
  · cases e
    obtain ⟨v, _, rfl, h1, w, _, rfl, h2, h3⟩ := r
    cases (show v = _ from h1); cases (show w = _ from h2); cases (show _ = _ from h3)
    exact .inl ⟨_, _, rfl, kont_self k S rfl⟩
  · split at e
    · rename_i i is q
      cases e
      obtain ⟨v, _, rfl, h1, h2⟩ := r
      cases (show _ = _ from h2)
      obtain ⟨a, ys, rfl, sq, rr⟩ := S.sql (ints_bind q) h1
      refine .inr ⟨a, i :: is, rfl, by rw [← rr.ints]; exact sq, by simp, fun m hm hy => ?_⟩
      obtain ⟨z1, z2⟩ := maxI_ok i is
      have : m = maxI i is := Int.le_antisymm (z2 m hm) (hy _ z1)
      rw [this]
      exact kont_self k S rfl
    · cases e
  · cases e
theorem dc_min (hc : X.calm = true) : CallR X (.builtin "min") (cD X.K cMin) := by
  refine ((call_min2 hc).or (cr_min hc)).imp ?_
  rintro xs H Q ⟨α, μ, ds, d, μ', S, r, e, k⟩
  unfold cMin at e
  split at e
  · cases e
    obtain ⟨v, _, rfl, h1, w, _, rfl, h2, h3⟩ := r
    cases (show v = _ from h1); cases (show w = _ from h2); cases (show _ = _ from h3)
    exact .inl ⟨_, _, rfl, kont_self k S rfl⟩
  · split at e
    · rename_i i is q
      cases e
      obtain ⟨v, _, rfl, h1, h2⟩ := r
      cases (show _ = _ from h2)
      obtain ⟨a, ys, rfl, sq, rr⟩ := S.sql (ints_bind q) h1
      refine .inr ⟨a, i :: is, rfl, by rw [← rr.ints]; exact sq, by simp, fun m hm hy => ?_⟩
      obtain ⟨z1, z2⟩ := minI_ok i is
      have : m = minI i is := Int.le_antisymm (hy _ z1) (z2 m hm)
      rw [this]
      exact kont_self k S rfl
    · cases e
  · cases e
theorem dc_int : CallR X (.type "int") (cD X.K cInt) := by
  refine call_int1.imp ?_
  rintro xs H Q ⟨α, μ, ds, d, μ', S, r, e, k⟩
  unfold cInt at e
  split at e
  · cases e
    obtain ⟨v, _, rfl, h1, h2⟩ := r
    cases (show v = _ from h1); cases (show _ = _ from h2)
    exact .inl ⟨_, rfl, kont_self k S rfl⟩
  · cases e
    obtain ⟨v, _, rfl, h1, h2⟩ := r
    cases (show v = _ from h1); cases (show _ = _ from h2)
    exact .inr ⟨_, rfl, kont_self k S rfl⟩
  · cases e
theorem dc_bool : CallR X (.type "bool") (cD X.K cBool) := by
  refine (call_bool1.or call_boolL).imp ?_
  rintro xs H Q ⟨α, μ, ds, d, μ', S, r, e, k⟩
  unfold cBool at e
  split at e
  · cases e
    obtain ⟨v, _, rfl, h1, h2⟩ := r
    cases (show v = _ from h1); cases (show _ = _ from h2)
    exact .inl (.inl ⟨_, rfl, kont_self k S rfl⟩)
  · cases e
    obtain ⟨v, _, rfl, h1, h2⟩ := r
    cases (show v = _ from h1); cases (show _ = _ from h2)
    exact .inl (.inr ⟨_, rfl, kont_self k S rfl⟩)
  · obtain ⟨es, q, z⟩ := Option.map_eq_some_iff.mp e
    cases z
    obtain ⟨v, _, rfl, h1, h2⟩ := r
    cases (show _ = _ from h2)
    obtain ⟨a, ys, rfl, sq, rr⟩ := S.sql q h1
    exact .inr ⟨a, ys, rfl, sq, by rw [← isEmpty_reps rr]; exact kont_self k S rfl⟩
  · cases e
theorem dc_str : CallR X (.type "str") (cD X.K cStr) := by
  refine call_str_int.imp ?_
  rintro xs H Q ⟨α, μ, ds, d, μ', S, r, e, k⟩
  unfold cStr at e
  split at e
  · split at e
    · rename_i h
      cases e
      obtain ⟨v, _, rfl, h1, h2⟩ := r
      cases (show v = _ from h1); cases (show _ = _ from h2)
      exact ⟨_, rfl, h, kont_self k S rfl⟩
    · cases e
  · cases e
theorem dc_len : CallR X (.builtin "len") (cD X.K cLen) := by
  refine call_len.imp ?_
  rintro xs H Q ⟨α, μ, ds, d, μ', S, r, e, k⟩
  unfold cLen at e
  split at e
  · split at e
    · rename_i h
      cases e
      obtain ⟨v, _, rfl, h1, h2⟩ := r
      cases (show v = _ from h1); cases (show _ = _ from h2)
      exact ⟨_, _, rfl, ⟨h, rfl⟩, kont_self k S rfl⟩
    · cases e
  · cases e
    obtain ⟨v, _, rfl, h1, h2⟩ := r
    cases (show _ = _ from h2)
    obtain ⟨p, ys, rfl, q, rr⟩ := h1
    exact ⟨_, _, rfl, .inr ⟨ys, q, rfl⟩, by rw [← rr.length]; exact kont_self k S rfl⟩
  · obtain ⟨es, q, z⟩ := Option.map_eq_some_iff.mp e
    cases z
    obtain ⟨v, _, rfl, h1, h2⟩ := r
    cases (show _ = _ from h2)
    obtain ⟨a, ys, rfl, sq, rr⟩ := S.sql q h1
    exact ⟨_, _, rfl, .inl ⟨ys, sq, rfl⟩, by rw [← rr.length]; exact kont_self k S rfl⟩
  · cases e
theorem dc_divmod : CallR X (.builtin "divmod") (cD X.K cDivmod) := by
  refine call_divmod.imp ?_
  rintro xs H Q ⟨α, μ, ds, d, μ', S, r, e, k⟩
  unfold cDivmod at e
  split at e
  · split at e
    · rename_i h
      cases e
      obtain ⟨v, _, rfl, h1, w, _, rfl, h2, h3⟩ := r
      cases (show v = _ from h1); cases (show w = _ from h2); cases (show _ = _ from h3)
      exact ⟨_, _, rfl, h, k.tup S ⟨_, _, rfl, rfl, _, _, rfl, rfl, rfl⟩⟩
    · cases e
  · cases e
theorem dc_tuple : CallR X (.type "tuple") (cD X.K cTuple) := by
  refine call_tuple_of.imp ?_
  rintro xs H Q ⟨α, μ, ds, d, μ', S, r, e, k⟩
  unfold cTuple at e
  split at e
  · cases e
    obtain ⟨v, _, rfl, h1, h2⟩ := r
    cases (show _ = _ from h2)
    have h0 := h1
    obtain ⟨p, ys, rfl, q, rr⟩ := h1
    exact ⟨p, ys, rfl, .inr ⟨q, kont_self k S h0⟩⟩
  · obtain ⟨es, q, z⟩ := Option.map_eq_some_iff.mp e
    cases z
    obtain ⟨v, _, rfl, h1, h2⟩ := r
    cases (show _ = _ from h2)
    obtain ⟨a, ys, rfl, sq, rr⟩ := S.sql q h1
    exact ⟨a, ys, rfl, .inl ⟨sq, k.tup S rr⟩⟩
  · cases e
theorem reps_keys {K : PySem.W.Frag} {H : Hp} {α : List Addr} : ∀ {kvs : List (Key × D)} {kv : List (Key × V)}, kvs.map (·.1) = kv.map (·.1) → Reps K H α (kvs.map fun kv => keyD kv.1) (kv.map fun kv => kV kv.1)
  | [], [], _ => rfl
  | [], _ :: _, e => by simp at e
  | _ :: _, [], e => by simp at e
  | p :: kvs, q :: kv, e => by
    simp only [List.map_cons, List.cons.injEq] at e
    refine ⟨kV q.1, _, rfl, ?_, reps_keys e.2⟩
    show Rep K H α (keyD p.1) (kV q.1)
    rw [e.1]
    cases q.1 <;> rfl
theorem dc_list (hc : X.calm = true) : CallR X (.type "list") (cD X.K cList) := by
  refine (call_list_of.or (call_listD hc)).imp ?_
  rintro xs H Q ⟨α, μ, ds, d, μ', S, r, e, k⟩
  unfold cList at e
  split at e
  · cases e
    obtain ⟨v, _, rfl, h1, h2⟩ := r
    cases (show _ = _ from h2)
    obtain ⟨p, ys, rfl, q, rr⟩ := h1
    exact .inl ⟨p, ys, rfl, .inr q, k.lst S rr⟩
  · rename_i n
    obtain ⟨v, _, rfl, h1, h2⟩ := r
    cases (show _ = _ from h2)
    obtain ⟨a, rfl, q⟩ := h1
    obtain ⟨o, e2, r⟩ := S.here q
    rw [e2] at e
    cases o with
    | lst ds => cases e; obtain ⟨xs, h, r⟩ := r; exact .inl ⟨a, xs, rfl, .inl (.inl (.inl h)), k.lst S r⟩
    | frz ds => cases e; obtain ⟨o, xs, h, r⟩ := r; exact .inl ⟨a, xs, rfl, .inl (.inl (.inr ⟨o, h⟩)), k.lst S r⟩
    | dic kvs => cases e; obtain ⟨kv, h, r1, r2⟩ := r; exact .inr ⟨a, kv, rfl, .inl h, k.lst S (reps_keys r1)⟩
    | tab x => cases e
  · cases e
theorem dc_all (hc : X.calm = true) : CallR X (.builtin "all") (cD X.K cAll) := by
  refine (cr_all hc).imp ?_
  rintro xs H Q ⟨α, μ, ds, d, μ', S, r, e, k⟩
  unfold cAll at e
  split at e
  · obtain ⟨bs, q, z⟩ := Option.map_eq_some_iff.mp e
    cases z
    obtain ⟨v, _, rfl, h1, h2⟩ := r
    cases (show _ = _ from h2)
    obtain ⟨a, ys, rfl, sq, rr⟩ := S.sql (bls_bind q) h1
    exact ⟨a, bs, rfl, by rw [← rr.bls]; exact sq, kont_self k S rfl⟩
  · cases e
theorem dc_any (hc : X.calm = true) : CallR X (.builtin "any") (cD X.K cAny) := by
  refine (cr_any hc).imp ?_
  rintro xs H Q ⟨α, μ, ds, d, μ', S, r, e, k⟩
  unfold cAny at e
  split at e
  · obtain ⟨bs, q, z⟩ := Option.map_eq_some_iff.mp e
    cases z
    obtain ⟨v, _, rfl, h1, h2⟩ := r
    cases (show _ = _ from h2)
    obtain ⟨a, ys, rfl, sq, rr⟩ := S.sql (bls_bind q) h1
    exact ⟨a, bs, rfl, by rw [← rr.bls]; exact sq, kont_self k S rfl⟩
  · cases e
theorem dc_gcd : CallR X (.builtin "math.gcd") (cD X.K cGcd) := by
  refine cr_gcd.imp ?_
  rintro xs H Q ⟨α, μ, ds, d, μ', S, r, e, k⟩
  unfold cGcd at e
  split at e
  · cases e
    obtain ⟨v, _, rfl, h1, w, _, rfl, h2, h3⟩ := r
    cases (show v = _ from h1); cases (show w = _ from h2); cases (show _ = _ from h3)
    exact ⟨_, _, rfl, kont_self k S rfl⟩
  · cases e

/-! ### isinstance -/
def kindD (μ : Sto) : D → Option String
  | .non => some "NoneType"
  | .bl _ => some "bool"
  | .int _ => some "int"
  | .str _ => some "str"
  | .tup _ => some "tuple"
  | .loc n => match μ[n]? with
    | some (.lst _) => some "list"
    | some (.frz _) => some "list"
    | some (.dic _) => some "dict"
    | some (.tab _) => none
    | none => none
  | .ty _ => none
def kinds : List String := ["NoneType", "bool", "int", "str", "tuple", "list", "dict"]
def isKind (a b : String) : Bool := a == b || (a == "bool" && b == "int")
def cIsi : GN
  | [d, .ty t], μ => match kindD μ d with
    | some a => if kinds.contains t then some (.bl (isKind a t), μ) else none
    | none => none
  | _, _ => none
theorem kinds_kit : ∀ a ∈ kinds, ∀ b ∈ kinds, kitB a b = some (isKind a b) := by decide +kernel
theorem kindD_mem {μ : Sto} {d : D} {a : String} (h : kindD μ d = some a) : a ∈ kinds := by
  cases d with
  | loc n =>
    simp only [kindD] at h
    split at h <;> cases h <;> decide
  | ty t => cases h
  | _ => cases h; decide
theorem kindD_ty {H : Hp} {α : List Addr} {μ : Sto} {d : D} {v : V} {a : String} (S : RepS X.K H α μ) (r : Rep X.K H α d v) (h : kindD μ d = some a) : TyX X.K H v (.type a) := by
  cases d with
  | non => cases (show v = _ from r); cases h; exact .base .non
  | bl b => cases (show v = _ from r); cases h; exact .base (.bl _)
  | int b => cases (show v = _ from r); cases h; exact .base (.int _)
  | str b => cases (show v = _ from r); cases h; exact .base (.str _)
  | tup ds =>
    obtain ⟨p, xs, rfl, q, _⟩ := r
    cases h
    rcases q with (q | ⟨o, q⟩) | ⟨o, its, n, q, hc, _⟩
    · exact .base (.tup q)
    · exact .fTuple q
    · exact .kTuple q hc
  | loc n =>
    obtain ⟨p, rfl, q⟩ := r
    obtain ⟨o, e2, r⟩ := S.here q
    simp only [kindD, e2] at h
    cases o with
    | lst ds => cases h; obtain ⟨xs, h, r⟩ := r; exact .base (.lst h)
    | frz ds => cases h; obtain ⟨o, xs, h, r⟩ := r; exact .base (.frz h)
    | dic kvs => cases h; obtain ⟨kv, h, r1, r2⟩ := r; exact .base (.dK h)
    | tab x => cases h
  | ty t => cases h
theorem dc_isi : CallR X (.builtin "isinstance") (cD X.K cIsi) := by
  refine call_isi.imp ?_
  rintro xs H Q ⟨α, μ, ds, d, μ', S, r, e, k⟩
  unfold cIsi at e
  split at e
  · split at e
    · rename_i a ha
      split at e
      · rename_i t ht
        cases e
        obtain ⟨v, _, rfl, h1, w, _, rfl, h2, h3⟩ := r
        cases (show w = _ from h2); cases (show _ = _ from h3)
        exact ⟨v, _, _, _, _, rfl, .ty _, kindD_ty S h1 ha, kit_ty (kinds_kit _ (kindD_mem ha) _ (by simpa using ht)), kont_self k S rfl⟩
      · cases e
    · cases e
  · cases e

/-! ### subscripts -/
def opIx : G2
  | .tup ds, .int i, μ => (atI ds i).map fun d => (d, μ)
  | .loc n, .int i, μ => ((lstAt μ n).bind fun ds => atI ds i).map fun d => (d, μ)
  | _, _, _ => none
theorem atI_reps {K : PySem.W.Frag} {H : Hp} {α : List Addr} {ds : List D} {xs : List V} {i : Int} {d : D} (r : Reps K H α ds xs) (h : atI ds i = some d) : ∃ v, atI xs i = some v ∧ Rep K H α d v := by
  unfold atI at h ⊢
  rw [← r.length]
  obtain ⟨j, h1, h2⟩ := Option.bind_eq_some_iff.mp h
  obtain ⟨v, h3, h4⟩ := r.get h2
  exact ⟨v, by rw [h1]; exact h3, h4⟩
theorem IxR.imp {t u : R2} (h : IxR X t) (i : ∀ x y H Q, u x y H Q → t x y H Q) : IxR X u := fun value slice pins s σ H x y v w Q I r1 r2 q hs => h value slice pins s σ H x y v w Q I r1 r2 (i _ _ _ _ q) hs
theorem di_ix : IxR X (rD X.K opIx) := by
  refine IxR.imp (ix_list.or ix_tup) ?_
  rintro x y H Q ⟨α, μ, a, b, d, μ', S, ra, rb, e, k⟩
  unfold opIx at e
  split at e
  · obtain ⟨d', q, z⟩ := Option.map_eq_some_iff.mp e
    cases z
    cases (show y = _ from rb)
    obtain ⟨p, xs, rfl, sq, rr⟩ := ra
    obtain ⟨v, h1, h2⟩ := atI_reps rr q
    exact .inr ⟨p, xs, _, v, rfl, rfl, sq, h1, kont_self k S h2⟩
  · obtain ⟨d', q, z⟩ := Option.map_eq_some_iff.mp e
    cases z
    cases (show y = _ from rb)
    obtain ⟨ds, q1, q2⟩ := Option.bind_eq_some_iff.mp q
    obtain ⟨p, xs, rfl, sq, rr⟩ := S.sql q1 ra
    obtain ⟨v, h1, h2⟩ := atI_reps rr q2
    exact .inl ⟨p, xs, _, v, rfl, rfl, sq, h1, kont_self k S h2⟩
  · cases e
def cutD (xs : List D) (lo hi : Option Int) : List D := (xs.drop (HT.sIx xs.length 0 lo)).take (HT.sIx xs.length xs.length hi - HT.sIx xs.length 0 lo)
theorem cut_reps {K : PySem.W.Frag} {H : Hp} {α : List Addr} {ds : List D} {xs : List V} {lo hi : Option Int} (r : Reps K H α ds xs) : Reps K H α (cutD ds lo hi) (cutV xs lo hi) := by
  unfold cutD cutV
  rw [r.length]
  exact (r.drop _).take _
def slD (d : D) (lo hi : Option Int) (μ : Sto) : Option (D × Sto) := match d with
  | .tup ds => some (.tup (cutD ds lo hi), μ)
  | .loc n => (lstAt μ n).map fun ds => (.loc μ.length, μ ++ [.lst (cutD ds lo hi)])
  | _ => none
def rSlD (K : PySem.W.Frag) : V → Option Int → Option Int → Hp → VK → Prop := fun x lo hi H Q => ∃ α μ a d μ', RepS K H α μ ∧ Rep K H α a x ∧ slD a lo hi μ = some (d, μ') ∧ Kont K H α μ' d Q
theorem SlR.imp {t u : V → Option Int → Option Int → Hp → VK → Prop} (h : SlR X t) (i : ∀ x lo hi H Q, u x lo hi H Q → t x lo hi H Q) : SlR X u := fun pins s σ H x v vl vu lo hi sl Q I rx hs pl pu q => h pins s σ H x v vl vu lo hi sl Q I rx hs pl pu (i _ _ _ _ _ q)
theorem sl_dat : SlR X (rSlD X.K) := by
  refine SlR.imp (sl_tupA.or sl_list) ?_
  rintro x lo hi H Q ⟨α, μ, a, d, μ', S, ra, e, k⟩
  unfold slD at e
  split at e
  · cases e
    have ra0 := ra
    obtain ⟨p, xs, rfl, sq, rr⟩ := ra
    refine .inl ⟨p, xs, rfl, sq, fun hw => ?_, fun _ => k.tup S (cut_reps rr)⟩
    rename_i ds
    have : cutD ds lo hi = ds := by
      unfold cutD
      rw [rr.length, hw.1, hw.2, ← rr.length]
      simp
    rw [this] at k
    exact kont_self k S ra0
  · obtain ⟨ds, q, z⟩ := Option.map_eq_some_iff.mp e
    cases z
    obtain ⟨p, xs, rfl, sq, rr⟩ := S.sql q ra
    exact .inr ⟨p, xs, rfl, sq, k.lst S (cut_reps rr)⟩
  · cases e
end
end DL
/-! DP: == with dicts, in, writes, methods, by data. -/
namespace PySem.SeqAt
open AutoSeq1 (wpAny_loadPart')
open MeetsSeq
theorem str_eq_declines_dict (b : Str) (u : Tok) (l : Addr) (c : Value) (es : Array DictEntry) (n : Nat) (dd : Option Addr) (sl : Array (Option Value)) :
    Meets (Builtin.«str.__eq__» ⟨[.str b u, .ref l], []⟩) (fun _ R s => s.heap.get? l = some { cls := c, dict := dd, data := .dict es n, slots := sl } ∧ R (.ok (.ret .notImplemented)) s) :=
  .of_wp fun prog w A R s h => by obtain ⟨hp, g, d, tk, os⟩ := s; obtain ⟨hl, h⟩ := h; wp_walk using wpAny_loadPart' hl, wpAny_load hl; exact ⟨_, rfl, h⟩
section
variable {A : Around} {s : Shared}
theorem dict_eq_declines_str {prog : Program} {w : World} {E Q : Value → Shared → Prop} {d : Addr} {b : Str} {u : Tok} (dd : s.TypeIs (.ref d) "dict") (h : Q .notImplemented s) :
    wpAny (model prog w) A (call (.builtin "dict.__eq__") [.ref d, .str b u]) Q E s := by
  refine wpAny_call_entry PySem.F.slot_dict_eq_refl dd PySem.F.entry_dict_eq ?_ (PySem.F.args_dict_eq_2 _ _)
  show wpAny _ _ (Builtin.Dict.dictSlotArgs "__eq__" ⟨[.ref d, .str b u], []⟩ >>= _) _ _ s
  refine wpAny_bind ?_
  unfold Builtin.Dict.dictSlotArgs
  refine wpAny_bind (wpAny_notOrdered_dict dd ?_)
  show wpAny _ _ (pure (Value.ref d, Value.str b u)) _ _ s
  refine wpAny_pure ?_
  refine wpAny_bind (wpAny_isInstance (T := "str") (typeIs_str s b u) PySem.F.sub_str_dict ?_)
  simp only [Bool.not_false, if_true]
  exact wpAny_bind (wpAny_rule (wpAny_pure ⟨_, rfl, h⟩))
theorem EqAt.str_dict {d : Addr} {o : Obj} {es : Array DictEntry} {n : Nat} {b : Str} {u : Tok} (ho : s.heap.get? d = some o) (hc : o.cls = .type "dict") (hd : o.data = .dict es n) (hu : A.units < cLine) : EqAt A s (.str b u) (.ref d) false := fun prog w E Q h => by
  unfold eqBool
  refine wpAny_holding ?_
  refine wpAny_ite_split (fun hab => absurd (eq_of_beq hab) nofun) (fun _ => ?_)
  obtain ⟨cls, dct, data, sl⟩ := o
  simp only at hd hc
  subst hd hc
  have dd : s.TypeIs (.ref d) "dict" := ⟨_, ho, rfl⟩
  refine wpAny_bind ?_
  exact rc_eq_decline_or (k := false) (typeIs_str s b u) dd (by decide) F.sub_dict_str F.slot_str_eq F.slot_dict_eq_refl
    (fun _ hq => call_meets F.slot_str_eq (typeIs_str s b u) F.entry_str_eq (F.args_str_eq_2 _ _) (str_eq_declines_dict b u d _ _ _ _ sl) ⟨ho, hq⟩)
    (fun _ hq => dict_eq_declines_str dd hq)
    (fun _ hq => wpAny_of_eq (rfl : isSame (.str b u) (.ref d) = pure false) hq) (.inr hu) (wpAny_truthy_bool h)
end
end PySem.SeqAt
namespace DL
open PySem PySem.Spec PyProof.Rows L2
open PySem.SeqAt (EqAt RcAt RcNeAt)
/-! ### in -/
/-- y == x as in a search for x -/
def eqIn (μ : Sto) (y x : D) : Option Bool := match rcD μ 60 y x with
  | some k => some k
  | none => match y, x with
    | .str _, .loc n => match μ[n]? with
      | some (.dic _) => some false
      | _ => none
    | _, _ => none
def anyIn (μ : Sto) (x : D) : List D → Option Bool
  | [] => some false
  | y :: ys => match eqIn μ y x, anyIn μ x ys with
    | some a, some b => some (a || b)
    | _, _ => none
def opIn : G2
  | x, .tup ys, μ => (anyIn μ x ys).map fun k => (.bl k, μ)
  | x, .loc n, μ => ((lstAt μ n).bind (anyIn μ x)).map fun k => (.bl k, μ)
  | _, _, _ => none
def opNotIn : G2
  | x, .tup ys, μ => (anyIn μ x ys).map fun k => (.bl !k, μ)
  | x, .loc n, μ => ((lstAt μ n).bind (anyIn μ x)).map fun k => (.bl !k, μ)
  | _, _, _ => none
section
variable {X : Cx} {pins : List (Addr × Obj)} {σ : L2.St} {H : Hp} {s : Shared} {α : List Addr} {μ : Sto}
theorem eqIn_ok (I : Inv X pins σ H s) (S : RepS X.K H α μ) {A : Around} {a b : D} {k : Bool} {x y : V} {u v : Value} (hA : A.units + 60 < cLine) (e : eqIn μ a b = some k) (ra : Rep X.K H α a x) (rb : Rep X.K H α b y) (ru : RelV x u) (rv : RelV y v) : EqAt A s u v k := by
  unfold eqIn at e
  split at e
  · rename_i k' h
    cases e
    exact (rc_ok I S 60 A a b _ x y u v hA h ra rb ru rv).2.2
  · split at e
    · rename_i z n
      split at e
      · rename_i kvs h
        cases e
        cases (show x = _ from ra)
        obtain ⟨t, rfl⟩ := ru
        obtain ⟨p, rfl, q⟩ := rb
        cases (show v = _ from rv)
        obtain ⟨o, e2, r⟩ := S.here q
        rw [h] at e2
        cases e2
        obtain ⟨kv, h1, _⟩ := r
        obtain ⟨_, _, vs, _, o, es, ep, ho, hx, hd, _⟩ := (show ObjOk X.prog X.w H s.heap p (.dK kv) from I.hok p _ h1)
        exact EqAt.str_dict ho hx.1 hd (by omega)
      · cases e
    · cases e
open Classical in
/-- the answers by the items' values -/
noncomputable def ansOf (f : D → Option Bool) (K : PySem.W.Frag) (H : Hp) (α : List Addr) (ys : List D) (u : Value) : Bool :=
  if h : ∃ d, d ∈ ys ∧ ∃ v, Rep K H α d v ∧ RelV v u then (f h.choose).getD false else false
theorem ansOf_eq (I : Inv X pins σ H s) (S : RepS X.K H α μ) {f : D → Option Bool} {ys : List D} {d : D} {v : V} {u : Value} (m : d ∈ ys) (r : Rep X.K H α d v) (q : RelV v u) : ansOf f X.K H α ys u = (f d).getD false := by
  have h : ∃ d, d ∈ ys ∧ ∃ v, Rep X.K H α d v ∧ RelV v u := ⟨d, m, v, r, q⟩
  unfold ansOf
  rw [dif_pos h]
  obtain ⟨_, v', r', q'⟩ := h.choose_spec
  have e1 : v' = v := q'.inj q
  rw [e1] at r'
  rw [Rep.inj I S _ _ _ r' r]
theorem anyIn_all {x : D} : ∀ {ys : List D} {k : Bool}, anyIn μ x ys = some k → (∀ y ∈ ys, ∃ b, eqIn μ y x = some b) ∧ k = ys.any fun y => (eqIn μ y x).getD false
  | [], k, e => by cases e; exact ⟨by simp, rfl⟩
  | y :: ys, k, e => by
    unfold anyIn at e
    split at e
    · rename_i a b e1 e2
      cases e
      obtain ⟨h1, h2⟩ := anyIn_all e2
      refine ⟨fun z hz => ?_, ?_⟩
      · rcases List.mem_cons.mp hz with rfl | hz
        · exact ⟨a, e1⟩
        · exact h1 z hz
      · rw [List.any_cons, ← h2, e1]; rfl
    · cases e
/-- the items of a represented list, by value -/
theorem any_vals (I : Inv X pins σ H s) (S : RepS X.K H α μ) {f : D → Option Bool} {all : List D} : ∀ {ys : List D} {xs : List V} {us : List Value}, (∀ y ∈ ys, y ∈ all) → Reps X.K H α ys xs → Vals xs us →
    us.any (ansOf f X.K H α all) = (ys.any fun y => (f y).getD false) ∧ ∀ u ∈ us, ∃ d v, d ∈ all ∧ Rep X.K H α d v ∧ RelV v u
  | [], _, us, _, r, q => by
    cases (show _ = _ from r); cases q; exact ⟨rfl, by simp⟩
  | y :: ys, _, us, hm, r, q => by
    obtain ⟨v, vs, rfl, r1, r2⟩ := r
    cases q with
    | cons q1 q2 =>
      obtain ⟨h1, h2⟩ := any_vals I S (f := f) (fun z hz => hm z (List.mem_cons_of_mem _ hz)) r2 q2
      refine ⟨by rw [List.any_cons, List.any_cons, h1, ansOf_eq I S (hm y List.mem_cons_self) r1 q1], fun u hu => ?_⟩
      rcases List.mem_cons.mp hu with rfl | hu
      · exact ⟨y, v, hm y List.mem_cons_self, r1, q1⟩
      · exact h2 u hu
theorem in_core (I : Inv X pins σ H s) (S : RepS X.K H α μ) (hu : X.A.units + 64 < cLine) {x : D} {ys : List D} {k : Bool} {v : V} {w : Value} {xs : List V} {us : List Value} (e : anyIn μ x ys = some k) (rx : Rep X.K H α x v) (rw' : RelV v w) (r : Reps X.K H α ys xs) (q : Vals xs us) :
    us.toArray.any (ansOf (fun y => eqIn μ y x) X.K H α ys) = k ∧ ∀ y, y ∈ us.toArray → EqAt X.A.in1 s y w (ansOf (fun y => eqIn μ y x) X.K H α ys y) := by
  obtain ⟨h1, h2⟩ := anyIn_all e
  obtain ⟨h3, h4⟩ := any_vals I S (f := fun y => eqIn μ y x) (fun _ h => h) r q
  refine ⟨by rw [List.any_toArray, h3, ← h2], fun y hy => ?_⟩
  obtain ⟨d, z, m, r1, q1⟩ := h4 y (by simpa using hy)
  rw [ansOf_eq I S m r1 q1]
  obtain ⟨b, hb⟩ := h1 d m
  show EqAt _ _ _ _ ((eqIn μ d x).getD false)
  rw [hb]
  exact eqIn_ok I S (by show X.A.units + 1 + 60 < cLine; omega) hb r1 rx q1 rw'
end
section
variable {X : Cx}
theorem do_in (hu : X.A.units + 64 < cLine) : OpR X (compareOp .In) (rD X.K opIn) := by
  rintro pins s σ H x y v u Q I rx ry ⟨α, μ, a, b, d, μ', S, ra, rb, e, k⟩
  unfold opIn at e
  split at e
  · obtain ⟨c, e1, e2⟩ := Option.map_eq_some_iff.mp e
    cases e2
    obtain ⟨p, xs, rfl, sq, rr⟩ := rb
    cases (show u = _ from ry)
    obtain ⟨its, vr, pl, _⟩ := I.tuple sq
    obtain ⟨h1, h2⟩ := in_core I S hu e1 ra rx rr vr
    exact PySem.SeqAt.in_tupleAt _ pl h2 (by rw [h1]; exact ⟨.bl c, H, I, rfl, kont_self k S rfl⟩)
  · obtain ⟨c, e1, e2⟩ := Option.map_eq_some_iff.mp e
    cases e2
    obtain ⟨ds, e3, e4⟩ := Option.bind_eq_some_iff.mp e1
    obtain ⟨p, xs, rfl, sq, rr⟩ := S.sql e3 rb
    cases (show u = _ from ry)
    obtain ⟨its, vr, pl, _⟩ := I.list sq
    obtain ⟨h1, h2⟩ := in_core I S hu e4 ra rx rr vr
    exact PySem.SeqAt.in_listAt _ pl.isList h2 (by rw [h1]; exact ⟨.bl c, H, I, rfl, kont_self k S rfl⟩)
  · cases e
theorem do_notIn (hu : X.A.units + 64 < cLine) : OpR X (compareOp .NotIn) (rD X.K opNotIn) := by
  rintro pins s σ H x y v u Q I rx ry ⟨α, μ, a, b, d, μ', S, ra, rb, e, k⟩
  unfold opNotIn at e
  split at e
  · obtain ⟨c, e1, e2⟩ := Option.map_eq_some_iff.mp e
    cases e2
    obtain ⟨p, xs, rfl, sq, rr⟩ := rb
    cases (show u = _ from ry)
    obtain ⟨its, vr, pl, _⟩ := I.tuple sq
    obtain ⟨h1, h2⟩ := in_core I S hu e1 ra rx rr vr
    exact PySem.SeqAt.notIn_tupleAt _ pl h2 (by rw [h1]; exact ⟨.bl !c, H, I, rfl, kont_self k S rfl⟩)
  · obtain ⟨c, e1, e2⟩ := Option.map_eq_some_iff.mp e
    cases e2
    obtain ⟨ds, e3, e4⟩ := Option.bind_eq_some_iff.mp e1
    obtain ⟨p, xs, rfl, sq, rr⟩ := S.sql e3 rb
    cases (show u = _ from ry)
    obtain ⟨its, vr, pl, _⟩ := I.list sq
    obtain ⟨h1, h2⟩ := in_core I S hu e4 ra rx rr vr
    exact PySem.SeqAt.notIn_listAt _ pl.isList h2 (by rw [h1]; exact ⟨.bl !c, H, I, rfl, kont_self k S rfl⟩)
  · cases e
end

/-! ### dicts -/
def keyOf : D → Option Key
  | .int i => some (.inl i)
  | .str x => some (.inr x)
  | _ => none
def valD (kvs : List (Key × D)) (k : Key) : Option D := (kvs.find? fun kv => decide (kv.1 = k)).map (·.2)
def putD (kvs : List (Key × D)) (k : Key) (d : D) : List (Key × D) :=
  if (kvs.any fun kv => decide (kv.1 = k)) = true then kvs.map (fun kv => if kv.1 = k then (kv.1, d) else kv) else kvs ++ [(k, d)]
theorem keyOf_rep {K : PySem.W.Frag} {H : Hp} {α : List Addr} {d : D} {k : Key} {v : V} (h : keyOf d = some k) (r : Rep K H α d v) : v = kV k := by
  cases d <;> cases h <;> exact r
section
variable {K : PySem.W.Frag} {H : Hp} {α : List Addr}
def DicR (K : PySem.W.Frag) (H : Hp) (α : List Addr) (kvs : List (Key × D)) (kv : List (Key × V)) : Prop := kvs.map (·.1) = kv.map (·.1) ∧ Reps K H α (kvs.map (·.2)) (kv.map (·.2))
theorem DicR.nil : DicR K H α [] [] := ⟨rfl, rfl⟩
theorem DicR.inv {p : Key × D} {kvs : List (Key × D)} {kv : List (Key × V)} (h : DicR K H α (p :: kvs) kv) : ∃ v r, kv = (p.1, v) :: r ∧ Rep K H α p.2 v ∧ DicR K H α kvs r := by
  obtain ⟨h1, h2⟩ := h
  cases kv with
  | nil => simp at h1
  | cons q r =>
    simp only [List.map_cons, List.cons.injEq] at h1
    obtain ⟨v, vs, e, r1, r2⟩ := h2
    simp only [List.map_cons, List.cons.injEq] at e
    obtain ⟨e1, e2⟩ := e
    subst e1
    subst e2
    obtain ⟨k, v⟩ := q
    exact ⟨v, r, by simp [h1.1], r1, h1.2, r2⟩
theorem DicR.cons {k : Key} {d : D} {v : V} {kvs : List (Key × D)} {kv : List (Key × V)} (r : Rep K H α d v) (h : DicR K H α kvs kv) : DicR K H α ((k, d) :: kvs) ((k, v) :: kv) := ⟨by simp [h.1], ⟨v, _, rfl, r, h.2⟩⟩
theorem DicR.nil_inv {kv : List (Key × V)} (h : DicR K H α [] kv) : kv = [] := by
  have := h.1
  cases kv with
  | nil => rfl
  | cons q r => simp at this
theorem DicR.val {k : Key} : ∀ {kvs : List (Key × D)} {kv : List (Key × V)}, DicR K H α kvs kv → (valD kvs k = none ∧ valV kv k = none) ∨ ∃ d v, valD kvs k = some d ∧ valV kv k = some v ∧ Rep K H α d v
  | [], kv, h => by rw [h.nil_inv]; exact .inl ⟨rfl, rfl⟩
  | p :: kvs, kv, h => by
    obtain ⟨v, r, rfl, r1, r2⟩ := h.inv
    by_cases e : p.1 = k
    · exact .inr ⟨p.2, v, by simp [valD, e], by simp [valV, e], r1⟩
    · have z1 : valD (p :: kvs) k = valD kvs k := by simp [valD, List.find?_cons, e]
      have z2 : valV ((p.1, v) :: r) k = valV r k := by simp [valV, List.find?_cons, e]
      rw [z1, z2]
      exact r2.val
theorem DicR.len {kvs : List (Key × D)} {kv : List (Key × V)} (h : DicR K H α kvs kv) : kvs.length = kv.length := by simpa using congrArg List.length h.1
theorem DicR.app {k : Key} {d : D} {v : V} (r : Rep K H α d v) : ∀ {kvs : List (Key × D)} {kv : List (Key × V)}, DicR K H α kvs kv → DicR K H α (kvs ++ [(k, d)]) (kv ++ [(k, v)])
  | [], kv, h => by rw [h.nil_inv]; exact DicR.cons r .nil
  | p :: kvs, kv, h => by
    obtain ⟨v', r', rfl, r1, r2⟩ := h.inv
    exact DicR.cons r1 (r2.app r)
theorem DicR.map {k : Key} {d : D} {v : V} (r : Rep K H α d v) : ∀ {kvs : List (Key × D)} {kv : List (Key × V)}, DicR K H α kvs kv → DicR K H α (kvs.map fun kv => if kv.1 = k then (kv.1, d) else kv) (kv.map fun kv => if kv.1 = k then (kv.1, v) else kv)
  | [], kv, h => by rw [h.nil_inv]; exact .nil
  | p :: kvs, kv, h => by
    obtain ⟨v', r', rfl, r1, r2⟩ := h.inv
    by_cases e : p.1 = k
    · simp only [List.map_cons, e, if_true]; exact DicR.cons r (r2.map r)
    · simp only [List.map_cons, e, if_false]; exact DicR.cons r1 (r2.map r)
theorem DicR.any {k : Key} : ∀ {kvs : List (Key × D)} {kv : List (Key × V)}, DicR K H α kvs kv → (kvs.any fun kv => decide (kv.1 = k)) = kv.any fun kv => decide (kv.1 = k)
  | [], kv, h => by rw [h.nil_inv]; rfl
  | p :: kvs, kv, h => by
    obtain ⟨v', r', rfl, r1, r2⟩ := h.inv
    rw [List.any_cons, List.any_cons, r2.any]
theorem DicR.put {k : Key} {d : D} {v : V} {kvs : List (Key × D)} {kv : List (Key × V)} (h : DicR K H α kvs kv) (r : Rep K H α d v) : DicR K H α (putD kvs k d) (putK kv k v) := by
  unfold putD putK
  rw [h.any]
  split
  · exact h.map r
  · exact h.app r
end
/-- == of dicts, one of them empty -/
def opEqM : G2
  | .loc i, .loc j, μ => match μ[i]?, μ[j]? with
    | some (.dic kvs), some (.dic []) => some (.bl kvs.isEmpty, μ)
    | _, _ => opEq (.loc i) (.loc j) μ
  | a, b, μ => opEq a b μ
section
variable {X : Cx}
theorem do_eqM (hu : X.A.units + 64 < cLine) : OpR X (compareOp .Eq) (rD X.K opEqM) := by
  rintro pins s σ H x y v u Q I rx ry ⟨α, μ, a, b, d, μ', S, ra, rb, e, k⟩
  have dflt : opEq a b μ = some (d, μ') → wpAny (model X.prog X.w) X.A (compareOp .Eq v u) (EP X pins σ Q) X.xe s := fun e => do_eq hu pins s σ H x y v u Q I rx ry ⟨α, μ, a, b, d, μ', S, ra, rb, e, k⟩
  unfold opEqM at e
  split at e
  · rename_i i j
    split at e
    · rename_i kvs h1 h2
      cases e
      obtain ⟨p, rfl, q1⟩ := ra
      obtain ⟨q, rfl, q2⟩ := rb
      cases (show v = _ from rx)
      cases (show u = _ from ry)
      obtain ⟨kv, e1, d1⟩ := S.ob _ _ _ q1 h1
      obtain ⟨kv', e2, d2⟩ := S.ob _ _ _ q2 h2
      have z : kv' = [] := DicR.nil_inv (K := X.K) (H := H) (α := α) d2
      subst z
      obtain ⟨_, ya, va, ra, da⟩ := (show ObjOk X.prog X.w H s.heap p (.dK kv) from I.hok p _ e1)
      obtain ⟨_, yb, vb, rb, db⟩ := (show ObjOk X.prog X.w H s.heap q (.dK []) from I.hok q _ e2)
      cases rb
      have l : kvs.isEmpty = va.isEmpty := by
        have h1 : kvs.length = kv.length := by simpa using congrArg List.length d1.1
        have h2 : kv.length = va.length := ra.length
        cases kvs <;> cases va <;> simp_all
      refine PySem.W.rcP_dicts (knd := mixKind X.prog X.w) (r := true) ya yb da db (by omega) (fun hl => ?_) _ _ ?_
      · have : va = [] := List.eq_nil_of_length_eq_zero (by simpa using hl)
        rw [this]
        exact .nil
      · refine ⟨.bl kvs.isEmpty, H, I, ?_, kont_self k S rfl⟩
        show Value.bool _ = Value.bool _
        rw [l]
        cases va <;> simp
    · exact dflt e
  · exact dflt e

/-! ### writes -/
def stD : D → D → D → Sto → Option Sto
  | .loc n, i, d, μ => match μ[n]? with
    | some (.lst ds) => match i with
      | .int k => (ixN ds.length k).map fun j => μ.set n (.lst (ds.set j d))
      | _ => none
    | some (.dic kvs) => (keyOf i).bind fun k => if kvs.length < sizeLine then some (μ.set n (.dic (putD kvs k d))) else none
    | _ => none
  | _, _, _, _ => none
def tSetD (K : PySem.W.Frag) (g : D → D → D → Sto → Option Sto) : TSet := fun o i v H Q => ∃ α μ a b c μ', RepS K H α μ ∧ Rep K H α a o ∧ Rep K H α b i ∧ Rep K H α c v ∧ g a b c μ = some μ' ∧ ∀ H' α', Ext K H α H' α' → RepS K H' α' μ' → Q H'
theorem PSet.or {t u : TSet} (h : PSet X t) (h' : PSet X u) : PSet X fun o i v H Q => t o i v H Q ∨ u o i v H Q := by
  intro pins s σ H o i v ov iv u Q I r1 r2 r3 q
  rcases q with q | q
  · exact h pins s σ H o i v ov iv u Q I r1 r2 r3 q
  · exact h' pins s σ H o i v ov iv u Q I r1 r2 r3 q
theorem PSet.imp {t u : TSet} (h : PSet X t) (i : ∀ o i v H Q, u o i v H Q → t o i v H Q) : PSet X u := fun pins s σ H o i' v ov iv u Q I r1 r2 r3 q => h pins s σ H o i' v ov iv u Q I r1 r2 r3 (i _ _ _ _ _ q)
theorem ds_set (hu : X.A.units + 1 < cLine) : PSet X (tSetD X.K stD) := by
  refine PSet.imp (PSet.or set_list (set_dict hu)) ?_
  rintro o i v H Q ⟨α, μ, a, b, c, μ', S, ra, rb, rc, e, k⟩
  unfold stD at e
  split at e
  · rename_i n i' d'
    obtain ⟨p, rfl, q⟩ := ra
    obtain ⟨ob, e2, r⟩ := S.here q
    rw [e2] at e
    cases ob with
    | lst ds =>
      simp only at e
      split at e
      · rename_i j
        obtain ⟨jj, h1, h2⟩ := Option.map_eq_some_iff.mp e
        cases (show i = _ from rb)
        obtain ⟨xs, hx, rr⟩ := r
        refine .inl ⟨p, xs, _, jj, rfl, rfl, hx, by rw [← rr.length]; exact h1, ?_⟩
        subst h2
        exact k _ α (ext_write (nt_lst hx)) (S.write q (nt_lst hx) ⟨_, upd_same, (rr.set rc jj).up (ext_write (nt_lst hx))⟩)
      · cases e
    | frz ds => cases e
    | tab x => cases e
    | dic kvs =>
      obtain ⟨kk, h1, h2⟩ := Option.bind_eq_some_iff.mp e
      split at h2
      · rename_i hl
        cases h2
        obtain ⟨kv, hx, rr⟩ := r
        have rd : DicR X.K H α kvs kv := rr
        refine .inr ⟨p, _, rfl, .inl ⟨kv, kk, hx, keyOf_rep h1 rb, by rw [← rd.len]; exact hl, rfl⟩, ?_⟩
        have rp := rd.put (k := kk) rc
        exact k _ α (ext_write (nt_dK hx)) (S.write q (nt_dK hx) ⟨_, upd_same, rp.1, rp.2.up (ext_write (nt_dK hx))⟩)
      · cases h2
  · cases e

/-! ### methods -/
def mAppend (a : D) (ds : List D) (μ : Sto) : Option (D × Sto) := match a, ds with
  | .loc n, [d] => match μ[n]? with
    | some (.lst es) => if es.length < sizeLine then some (.non, μ.set n (.lst (es ++ [d]))) else none
    | _ => none
  | _, _ => none
theorem MtR.imp {id : String} {t u : V → List V → Hp → VK → Prop} (h : MtR X id t) (i : ∀ x xs H Q, u x xs H Q → t x xs H Q) : MtR X id u := fun pins s σ H x xs v us Q I r1 r2 q => h pins s σ H x xs v us Q I r1 r2 (i _ _ _ _ q)
theorem dm_append : MtR X "list.append" (mD X.K mAppend) := by
  refine MtR.imp (t := rAppend) mt_append ?_
  rintro x xs H Q ⟨α, μ, a, ds, d, μ', S, ra, rs, e, k⟩
  unfold mAppend at e
  split at e
  · rename_i n d'
    split at e
    · rename_i es h
      split at e
      · rename_i hl
        cases e
        obtain ⟨p, rfl, q⟩ := ra
        obtain ⟨v, _, rfl, r1, r2⟩ := rs
        cases (show _ = _ from r2)
        obtain ⟨ys, hx, rr⟩ := S.ob _ _ _ q h
        exact ⟨p, ys, v, rfl, rfl, hx, by rw [← rr.length]; exact hl, k.setL (ds := es) S q hx (rr.append (Reps.one r1)) rfl⟩
      · cases e
    · cases e
  · cases e
end
end DL
/-! DQ: expressions, tests, statements, loops, comprehensions, defs, as functions of data. -/
namespace DL
open PySem PySem.Spec PyProof.Rows L2
/-! ### expressions -/
def fBin (g : G2) (fa fb : EF) : EF := fun ρ μ => (fa ρ μ).bind fun p => (fb ρ p.2).bind fun q => g p.1 q.1 q.2
def fUn (g : G1) (fa : EF) : EF := fun ρ μ => (fa ρ μ).bind fun p => g p.1 p.2
def fNil : AF := fun _ μ => some ([], μ)
def fCons (fa : EF) (fr : AF) : AF := fun ρ μ => (fa ρ μ).bind fun p => (fr ρ p.2).bind fun q => some (p.1 :: q.1, q.2)
def fTup (f : AF) : EF := fun ρ μ => (f ρ μ).bind fun p => if p.1.length ≤ sizeLine then some (.tup p.1, p.2) else none
def fLst (f : AF) : EF := fun ρ μ => (f ρ μ).bind fun p => if p.1.length ≤ sizeLine then some (.loc p.2.length, p.2 ++ [.lst p.1]) else none
def fDic : EF := fun _ μ => some (.loc μ.length, μ ++ [.dic []])
def fCB (g : GN) (f : AF) : EF := fun ρ μ => (f ρ μ).bind fun p => g p.1 p.2
abbrev PF := Sl → Sto → Option (Option Int × Sto)
def fNoPart : PF := fun _ μ => some (none, μ)
def fPart (f : EF) : PF := fun ρ μ => (f ρ μ).bind fun p => match p.1 with
  | .int i => some (some i, p.2)
  | _ => none
def fSl (fe : EF) (fl fh : PF) : EF := fun ρ μ => (fe ρ μ).bind fun p => (fl ρ p.2).bind fun q => (fh ρ q.2).bind fun r => slD p.1 q.1 r.1 r.2
/-- a test: a bool -/
def fB (f : EF) : TF := fun ρ μ => (f ρ μ).bind fun p => match p.1 with
  | .bl b => some (b, p.2)
  | _ => none
/-- a test: a value's truth -/
def fT (f : EF) : TF := fun ρ μ => (f ρ μ).bind fun p => (truD p.2 p.1).map fun b => (b, p.2)
def fAnd (f g : TF) : TF := fun ρ μ => (f ρ μ).bind fun p => if p.1 = true then g ρ p.2 else some (false, p.2)
def fOr (f g : TF) : TF := fun ρ μ => (f ρ μ).bind fun p => if p.1 = true then some (true, p.2) else g ρ p.2
def fNot (f : TF) : TF := fun ρ μ => (f ρ μ).bind fun p => some (!p.1, p.2)
def fAndV (f g : EF) : EF := fun ρ μ => (f ρ μ).bind fun p => match p.1 with
  | .bl true => g ρ p.2
  | .bl false => some (.bl false, p.2)
  | _ => none
def fOrV (f g : EF) : EF := fun ρ μ => (f ρ μ).bind fun p => match p.1 with
  | .bl true => some (.bl true, p.2)
  | .bl false => g ρ p.2
  | _ => none
def fNotV (f : EF) : EF := fun ρ μ => (f ρ μ).bind fun p => match p.1 with
  | .bl b => some (.bl !b, p.2)
  | _ => none
def fIf (c : TF) (f g : EF) : EF := fun ρ μ => (c ρ μ).bind fun p => if p.1 = true then f ρ p.2 else g ρ p.2
/-- o.m(..) of a list -/
def fML (g : D → List D → Sto → Option (D × Sto)) (fo : EF) (fa : AF) : EF := fun ρ μ => (fo ρ μ).bind fun p => if kindD p.2 p.1 = some "list" then (fa ρ p.2).bind fun q => g p.1 q.1 q.2 else none
/-- d.get(k, x) -/
def fGet2 (fd fk fx : EF) : EF := fun ρ μ => (fd ρ μ).bind fun p => match p.1 with
  | .loc n => match p.2[n]? with
    | some (.dic _) => (fk ρ p.2).bind fun q => (fx ρ q.2).bind fun r => match r.2[n]? with
      | some (.dic kvs) => (keyOf q.1).map fun k => ((valD kvs k).getD r.1, r.2)
      | _ => none
    | _ => none
  | _ => none
section
variable {X : Cx} {a b e : Expr} {es rest : List Expr} {pos : Pos} {fa fb fe : EF} {g : G2}
theorem i_bin {K : PySem.W.Frag} {g : G2} {fa fb : EF} : ∀ σ H Q, tE K (fBin g fa fb) σ H Q → tOp (rD K g) (tE K fa) (tE K fb) σ H Q := by
  rintro σ H Q ⟨α, ρ, μ, d, μ', S, R, e, k⟩
  obtain ⟨⟨x, μ1⟩, e1, e2⟩ := Option.bind_eq_some_iff.mp e
  obtain ⟨⟨y, μ2⟩, e3, e4⟩ := Option.bind_eq_some_iff.mp e2
  refine ⟨α, ρ, μ, x, μ1, S, R, e1, fun H1 α1 v E1 S1 r1 => ⟨α1, ρ, μ1, y, μ2, S1, R.up E1, e3, fun H2 α2 w E2 S2 r2 => ⟨α2, μ2, x, y, d, μ', S2, r1.up E2, r2, e4, k.up (E1.trans E2)⟩⟩⟩
theorem de_bin {op : Operator} (ho : OpR X (binaryOp op) (rD X.K g)) (ha : PE X a (tE X.K fa)) (hb : PE X b (tE X.K fb)) : PE X (.BinOp a op b pos) (tE X.K (fBin g fa fb)) := (pe_op ho ha hb).imp i_bin
theorem de_cmp {op : CmpOp} (ho : OpR X (compareOp op) (rD X.K g)) (ha : PE X a (tE X.K fa)) (hb : PE X b (tE X.K fb)) (hm : behindInMarks op b = false) : PE X (.Compare a [op] [b] pos) (tE X.K (fBin g fa fb)) := (pe_cmpR ho ha hb hm).imp i_bin
theorem de_ix (ha : PE X a (tE X.K fa)) (hb : PE X b (tE X.K fb)) (hs : PlainIx b) : PE X (.Subscript a b pos) (tE X.K (fBin opIx fa fb)) := (pe_ix di_ix ha hb hs).imp i_bin
theorem de_un {op : UnaryOp} {g : G1} (ho : UnR X (unaryOp op) (uD X.K g)) (ha : PE X a (tE X.K fa)) : PE X (.UnaryOp op a pos) (tE X.K (fUn g fa)) := by
  refine (pe_un ho ha).imp ?_
  rintro σ H Q ⟨α, ρ, μ, d, μ', S, R, e, k⟩
  obtain ⟨⟨x, μ1⟩, e1, e2⟩ := Option.bind_eq_some_iff.mp e
  exact ⟨α, ρ, μ, x, μ1, S, R, e1, fun H1 α1 v E1 S1 r1 => ⟨α1, μ1, x, d, μ', S1, r1, e2, k.up E1⟩⟩
theorem da_nil : PA X [] (tA X.K fNil) := by
  refine PA.imp pa_nil ?_
  rintro σ H Q ⟨α, ρ, μ, d, μ', S, R, e, k⟩
  cases e
  exact k H α [] Ext.refl S rfl
theorem da_cons {f : AF} (ha : PE X e (tE X.K fe)) (hr : PA X es (tA X.K f)) (hs : starEach (e :: es) X.env = (false, eval e X.env) :: starEach es X.env := by rfl) : PA X (e :: es) (tA X.K (fCons fe f)) := by
  refine (pa_cons ha hr hs).imp ?_
  rintro σ H Q ⟨α, ρ, μ, d, μ', S, R, e, k⟩
  obtain ⟨⟨x, μ1⟩, e1, e2⟩ := Option.bind_eq_some_iff.mp e
  obtain ⟨⟨ys, μ2⟩, e3, e4⟩ := Option.bind_eq_some_iff.mp e2
  cases e4
  exact ⟨α, ρ, μ, x, μ1, S, R, e1, fun H1 α1 v E1 S1 r1 => ⟨α1, ρ, μ1, ys, μ2, S1, R.up E1, e3, fun H2 α2 vs E2 S2 r2 => k H2 α2 _ (E1.trans E2) S2 ⟨v, vs, rfl, r1.up E2, r2⟩⟩⟩
theorem de_tup {f : AF} {x1} (h : PA X es (tA X.K f)) : PE X (.Tuple es x1 pos) (tE X.K (fTup f)) := by
  refine (pe_tup h).imp ?_
  rintro σ H Q ⟨α, ρ, μ, d, μ', S, R, e, k⟩
  obtain ⟨⟨ds, μ1⟩, e1, e2⟩ := Option.bind_eq_some_iff.mp e
  simp only at e2
  split at e2
  · rename_i hl
    cases e2
    exact ⟨α, ρ, μ, ds, _, S, R, e1, fun H1 α1 vs E1 S1 r1 => ⟨by rw [← r1.length]; exact hl, (k.up E1).tup S1 r1⟩⟩
  · cases e2
theorem de_lst {f : AF} (h : PA X es (tA X.K f)) : PE X (.List es pos) (tE X.K (fLst f)) := by
  refine (pe_lst h).imp ?_
  rintro σ H Q ⟨α, ρ, μ, d, μ', S, R, e, k⟩
  obtain ⟨⟨ds, μ1⟩, e1, e2⟩ := Option.bind_eq_some_iff.mp e
  simp only at e2
  split at e2
  · rename_i hl
    cases e2
    exact ⟨α, ρ, μ, ds, μ1, S, R, e1, fun H1 α1 vs E1 S1 r1 => ⟨by rw [← r1.length]; exact hl, (k.up E1).lst S1 r1⟩⟩
  · cases e2
theorem de_dic : PE X (.Dict [] [] pos) (tE X.K fDic) := by
  refine PE.imp pe_dnewK ?_
  rintro σ H Q ⟨α, ρ, μ, d, μ', S, R, e, k⟩
  cases e
  exact k.dic S (kv := []) rfl rfl
theorem i_cb {K : PySem.W.Frag} {g : GN} {f : AF} : ∀ σ H Q, tE K (fCB g f) σ H Q → tCB (cD K g) (tA K f) σ H Q := by
  rintro σ H Q ⟨α, ρ, μ, d, μ', S, R, e, k⟩
  obtain ⟨⟨ds, μ1⟩, e1, e2⟩ := Option.bind_eq_some_iff.mp e
  exact ⟨α, ρ, μ, ds, μ1, S, R, e1, fun H1 α1 vs E1 S1 r1 => ⟨α1, μ1, ds, d, μ', S1, r1, e2, k.up E1⟩⟩
theorem de_callB {x : Str} {id : String} {p : Pos} {gn : GN} {f : AF} (hc : CallR X (.builtin id) (cD X.K gn)) (hg : Gl X x) (hm : X.mg x = none) (hv : bootBuiltins x = some (.builtin id)) (ha : PA X (e :: es) (tA X.K f)) (hn : x ≠ "__name__" := by decide) (hdb : (x == ("__debug__" : Str)) = false := by decide)
    (he : starEach (e :: es) X.env = (false, eval e X.env) :: starEach es X.env := by rfl) (hpl : (backTo pos (starEach es X.env)).any (·.1) = false := by rfl) : PE X (.Call (.Name x p) (e :: es) [] pos) (tE X.K (fCB gn f)) :=
  (pe_callB hc hg hm hv ha hn hdb he hpl).imp i_cb
theorem de_callTy {x : Str} {T : String} {p : Pos} {gn : GN} {f : AF} (hc : CallR X (.type T) (cD X.K gn)) (hg : Gl X x) (hm : X.mg x = none) (hv : bootBuiltins x = some (.type T)) (ha : PA X (e :: es) (tA X.K f)) (hn : x ≠ "__name__" := by decide) (hdb : (x == ("__debug__" : Str)) = false := by decide)
    (he : starEach (e :: es) X.env = (false, eval e X.env) :: starEach es X.env := by rfl) (hpl : (backTo pos (starEach es X.env)).any (·.1) = false := by rfl) : PE X (.Call (.Name x p) (e :: es) [] pos) (tE X.K (fCB gn f)) :=
  (pe_callTy hc hg hm hv ha hn hdb he hpl).imp i_cb
theorem de_callBfun {x : Str} {id : String} {p : Pos} {gn : GN} {f : AF} (hc : CallR X (.builtin id) (cD X.K gn)) (hg : Gl X x) (hm : X.mg x = some (.builtin id)) (ha : PA X (e :: es) (tA X.K f)) (hdb : (x == ("__debug__" : Str)) = false := by decide)
    (he : starEach (e :: es) X.env = (false, eval e X.env) :: starEach es X.env := by rfl) (hpl : (backTo pos (starEach es X.env)).any (·.1) = false := by rfl) : PE X (.Call (.Name x p) (e :: es) [] pos) (tE X.K (fCB gn f)) :=
  (pe_callBfun hc hg hm ha hdb he hpl).imp i_cb
/-- a built-in type's name -/
theorem de_bty {x : Str} {T : String} (hg : Gl X x) (hm : X.mg x = none) (hv : bootBuiltins x = some (.type T)) (hn : x ≠ "__name__" := by decide) (hd : (x == ("__debug__" : Str)) = false := by decide) : PE X (.Name x pos) (tE X.K (fC (.ty T))) :=
  PE.imp (pe_bltn (v := .ty T) hg hm hv rfl hn hd) (i_c fun _ _ => rfl)
/-- a module's constant -/
theorem de_con {x : Str} {u : Value} {v : V} {d : D} (hg : Gl X x) (hm : X.mg x = some u) (r : RelV v u) (hr : ∀ H α, Rep X.K H α d v) (hd : (x == ("__debug__" : Str)) = false := by decide) : PE X (.Name x pos) (tE X.K (fC d)) :=
  PE.imp (pe_glob hg hm r hd) (i_c hr)

/-! ### tests -/
variable {f h : TF}
theorem dt_cmp {op : CmpOp} (ho : OpR X (compareOp op) (rD X.K g)) (ha : PE X a (tE X.K fa)) (hb : PE X b (tE X.K fb)) (hm : behindInMarks op b = false) : PT X (.Compare a [op] [b] pos) (tT X.K (fB (fBin g fa fb))) := by
  refine (pt_cmpR ho ha hb hm).imp ?_
  rintro σ H Q ⟨α, ρ, μ, c, μ', S, R, e, k⟩
  obtain ⟨⟨x, μ1⟩, e1, e2⟩ := Option.bind_eq_some_iff.mp e
  simp only at e2
  split at e2
  · cases e2
    exact i_bin σ H _ ⟨α, ρ, μ, _, _, S, R, e1, fun H1 α1 v E1 S1 r1 => ⟨_, r1, k H1 α1 E1 S1⟩⟩
  · cases e2
theorem dt_val (ha : PE X a (tE X.K fa)) (he : ∀ whole, isTrue a X.env whole = (do let v ← whole; standAt a.pos; holding [v] (truthy v)) := by intro _; rfl) : PT X a (tT X.K (fT fa)) := by
  refine (pt_truth ha he).imp ?_
  rintro σ H Q ⟨α, ρ, μ, c, μ', S, R, e, k⟩
  obtain ⟨⟨x, μ1⟩, e1, e2⟩ := Option.bind_eq_some_iff.mp e
  obtain ⟨c', e3, e4⟩ := Option.map_eq_some_iff.mp e2
  cases e4
  exact ⟨α, ρ, μ, x, μ1, S, R, e1, fun H1 α1 v E1 S1 r1 => ⟨_, truV S1 r1 e3, k H1 α1 E1 S1⟩⟩
theorem dw_and1 (ha : PT X a (tT X.K f)) : PW X (.BoolOp .And [a] pos) (tT X.K f) := pw_and1 ha
theorem dw_or1 (ha : PT X a (tT X.K f)) : PW X (.BoolOp .Or [a] pos) (tT X.K f) := pw_or1 ha
theorem dw_and (ha : PT X a (tT X.K f)) (hb : PW X (.BoolOp .And (b :: rest) pos) (tT X.K h)) : PW X (.BoolOp .And (a :: b :: rest) pos) (tT X.K (fAnd f h)) := by
  refine (pw_and ha hb).imp ?_
  rintro σ H Q ⟨α, ρ, μ, c, μ', S, R, e, k⟩
  obtain ⟨⟨x, μ1⟩, e1, e2⟩ := Option.bind_eq_some_iff.mp e
  refine ⟨α, ρ, μ, x, μ1, S, R, e1, fun H1 α1 E1 S1 => ?_⟩
  cases x with
  | true => exact ⟨α1, ρ, μ1, c, μ', S1, R.up E1, e2, fun H2 α2 E2 S2 => k H2 α2 (E1.trans E2) S2⟩
  | false => cases e2; exact k H1 α1 E1 S1
theorem dw_or (ha : PT X a (tT X.K f)) (hb : PW X (.BoolOp .Or (b :: rest) pos) (tT X.K h)) : PW X (.BoolOp .Or (a :: b :: rest) pos) (tT X.K (fOr f h)) := by
  refine (pw_or ha hb).imp ?_
  rintro σ H Q ⟨α, ρ, μ, c, μ', S, R, e, k⟩
  obtain ⟨⟨x, μ1⟩, e1, e2⟩ := Option.bind_eq_some_iff.mp e
  refine ⟨α, ρ, μ, x, μ1, S, R, e1, fun H1 α1 E1 S1 => ?_⟩
  cases x with
  | false => exact ⟨α1, ρ, μ1, c, μ', S1, R.up E1, e2, fun H2 α2 E2 S2 => k H2 α2 (E1.trans E2) S2⟩
  | true => cases e2; exact k H1 α1 E1 S1
theorem dt_not (ha : PT X a (tT X.K f)) : PT X (.UnaryOp .Not a pos) (tT X.K (fNot f)) := by
  refine (pt_not ha).imp ?_
  rintro σ H Q ⟨α, ρ, μ, c, μ', S, R, e, k⟩
  obtain ⟨⟨x, μ1⟩, e1, e2⟩ := Option.bind_eq_some_iff.mp e
  cases e2
  exact ⟨α, ρ, μ, x, μ1, S, R, e1, k⟩
theorem de_one {op} (h : PE X a (tE X.K fa)) : PE X (.BoolOp op [a] pos) (tE X.K fa) := pe_one h
theorem de_and (ha : PE X a (tE X.K fa)) (hb : PE X (.BoolOp .And (b :: rest) pos) (tE X.K fb)) : PE X (.BoolOp .And (a :: b :: rest) pos) (tE X.K (fAndV fa fb)) := by
  refine (pe_and ha hb).imp ?_
  rintro σ H Q ⟨α, ρ, μ, c, μ', S, R, e, k⟩
  obtain ⟨⟨x, μ1⟩, e1, e2⟩ := Option.bind_eq_some_iff.mp e
  refine ⟨α, ρ, μ, x, μ1, S, R, e1, fun H1 α1 v E1 S1 r1 => ?_⟩
  simp only at e2
  split at e2
  · exact ⟨true, r1, ⟨α1, ρ, μ1, c, μ', S1, R.up E1, e2, k.up E1⟩⟩
  · cases e2; exact ⟨false, r1, kont_self (k.up E1) S1 rfl⟩
  · cases e2
theorem de_or (ha : PE X a (tE X.K fa)) (hb : PE X (.BoolOp .Or (b :: rest) pos) (tE X.K fb)) : PE X (.BoolOp .Or (a :: b :: rest) pos) (tE X.K (fOrV fa fb)) := by
  refine (pe_or ha hb).imp ?_
  rintro σ H Q ⟨α, ρ, μ, c, μ', S, R, e, k⟩
  obtain ⟨⟨x, μ1⟩, e1, e2⟩ := Option.bind_eq_some_iff.mp e
  refine ⟨α, ρ, μ, x, μ1, S, R, e1, fun H1 α1 v E1 S1 r1 => ?_⟩
  simp only at e2
  split at e2
  · cases e2; exact ⟨true, r1, kont_self (k.up E1) S1 rfl⟩
  · exact ⟨false, r1, ⟨α1, ρ, μ1, c, μ', S1, R.up E1, e2, k.up E1⟩⟩
  · cases e2
theorem de_not (ha : PE X a (tE X.K fa)) : PE X (.UnaryOp .Not a pos) (tE X.K (fNotV fa)) := by
  refine (pe_not ha).imp ?_
  rintro σ H Q ⟨α, ρ, μ, c, μ', S, R, e, k⟩
  obtain ⟨⟨x, μ1⟩, e1, e2⟩ := Option.bind_eq_some_iff.mp e
  refine ⟨α, ρ, μ, x, μ1, S, R, e1, fun H1 α1 v E1 S1 r1 => ?_⟩
  simp only at e2
  split at e2
  · cases e2; exact ⟨_, r1, kont_self (k.up E1) S1 rfl⟩
  · cases e2
theorem de_if {c : Expr} (hc : PT X c (tT X.K f)) (ha : PE X a (tE X.K fa)) (hb : PE X b (tE X.K fb)) : PE X (.IfExp c a b pos) (tE X.K (fIf f fa fb)) := by
  refine (pe_ifExp hc ha hb).imp ?_
  rintro σ H Q ⟨α, ρ, μ, d, μ', S, R, e, k⟩
  obtain ⟨⟨x, μ1⟩, e1, e2⟩ := Option.bind_eq_some_iff.mp e
  refine ⟨α, ρ, μ, x, μ1, S, R, e1, fun H1 α1 E1 S1 => ?_⟩
  cases x with
  | true => exact ⟨α1, ρ, μ1, d, μ', S1, R.up E1, e2, k.up E1⟩
  | false => exact ⟨α1, ρ, μ1, d, μ', S1, R.up E1, e2, k.up E1⟩

/-! ### slices, methods -/
def tP (K : PySem.W.Frag) (f : PF) : TO := fun σ H Q => ∃ α ρ μ i μ', RepS K H α μ ∧ RepR K H α ρ σ ∧ f ρ μ = some (i, μ') ∧ ∀ H' α', Ext K H α H' α' → RepS K H' α' μ' → Q i H'
theorem _root_.L2.PO.imp {e : Option Expr} {t u : TO} (h : PO X e t) (i : ∀ σ H Q, u σ H Q → t σ H Q) : PO X e u := ⟨fun pins s σ H Q I q => h.run pins s σ H Q I (i _ _ _ q)⟩
theorem do_none : PO X none (tP X.K fNoPart) := by
  refine PO.imp po_none ?_
  rintro σ H Q ⟨α, ρ, μ, i, μ', S, R, e, k⟩
  cases e
  exact k H α Ext.refl S
theorem do_some (h : PE X e (tE X.K fe)) : PO X (some e) (tP X.K (fPart fe)) := by
  refine PO.imp (po_some h) ?_
  rintro σ H Q ⟨α, ρ, μ, i, μ', S, R, e, k⟩
  obtain ⟨⟨x, μ1⟩, e1, e2⟩ := Option.bind_eq_some_iff.mp e
  refine ⟨α, ρ, μ, x, μ1, S, R, e1, fun H1 α1 v E1 S1 r1 => ?_⟩
  simp only at e2
  split at e2
  · cases e2; exact ⟨_, r1, k H1 α1 E1 S1⟩
  · cases e2
theorem de_slice {lo hi : Option Expr} {fl fh : PF} {p2 : Pos} (he : PE X e (tE X.K fe)) (hl : PO X lo (tP X.K fl)) (hu : PO X hi (tP X.K fh)) : PE X (.Subscript e (.Slice lo hi none p2) pos) (tE X.K (fSl fe fl fh)) := by
  refine (pe_slice sl_dat he hl hu).imp ?_
  rintro σ H Q ⟨α, ρ, μ, d, μ', S, R, e, k⟩
  obtain ⟨⟨x, μ1⟩, e1, e2⟩ := Option.bind_eq_some_iff.mp e
  obtain ⟨⟨l, μ2⟩, e3, e4⟩ := Option.bind_eq_some_iff.mp e2
  obtain ⟨⟨u, μ3⟩, e5, e6⟩ := Option.bind_eq_some_iff.mp e4
  exact ⟨α, ρ, μ, x, μ1, S, R, e1, fun H1 α1 v E1 S1 r1 => ⟨α1, ρ, μ1, l, μ2, S1, R.up E1, e3, fun H2 α2 E2 S2 => ⟨α2, ρ, μ2, u, μ3, S2, R.up (E1.trans E2), e5, fun H3 α3 E3 S3 =>
    ⟨α3, μ3, x, d, μ', S3, r1.up (E2.trans E3), e6, k.up (E1.trans (E2.trans E3))⟩⟩⟩⟩
theorem kind_list {K : PySem.W.Frag} {H : Hp} {α : List Addr} {μ : Sto} {d : D} {v : V} (S : RepS K H α μ) (r : Rep K H α d v) (h : kindD μ d = some "list") : tyV K "list" v H := by
  cases d with
  | loc n =>
    obtain ⟨p, rfl, q⟩ := r
    obtain ⟨o, e2, r⟩ := S.here q
    simp only [kindD, e2] at h
    cases o with
    | lst ds => obtain ⟨xs, h, r⟩ := r; exact .inl ⟨rfl, xs, .inl (.inl h)⟩
    | frz ds => obtain ⟨o, xs, h, r⟩ := r; exact .inl ⟨rfl, xs, .inl (.inr ⟨o, h⟩)⟩
    | dic kvs => exact absurd (Option.some.inj h) (show ¬ "dict" = "list" by decide)
    | tab x => cases h
  | ty t => cases h
  | non => exact absurd (Option.some.inj h) (show ¬ "NoneType" = "list" by decide)
  | bl b => exact absurd (Option.some.inj h) (show ¬ "bool" = "list" by decide)
  | int b => exact absurd (Option.some.inj h) (show ¬ "int" = "list" by decide)
  | str b => exact absurd (Option.some.inj h) (show ¬ "str" = "list" by decide)
  | tup b => exact absurd (Option.some.inj h) (show ¬ "tuple" = "list" by decide)
theorem de_ml {name : Str} {id : String} {apos cpos : Pos} {gm : D → List D → Sto → Option (D × Sto)} {fo : EF} {f : AF} {o : Expr} (pa : PlainAttrs "list") (slot : Slot "list" name id) (hty : typeOf (.builtin id) = pure (.type "method_descriptor")) (hm : MtR X id (mD X.K gm)) (ho : PE X o (tE X.K fo)) (ha : PA X (e :: es) (tA X.K f))
    (hbase : attributeBase o name X.env (eval o X.env) = eval o X.env := by rfl)
    (hfew : ((backTo cpos (starEach (e :: es) X.env)).all (fun x => !x.1) && (backToKw cpos (keywordEach [] X.env)).all (fun x => x.1.isSome)
      && decide ((e :: es).length + ([] : List Keyword).length + (if ([] : List Keyword).isEmpty then 0 else 1) < 30)) = true := by rfl)
    (hline : (apos.endLine == cpos.line) = true := by rfl) (hs : starEach (e :: es) X.env = (false, eval e X.env) :: starEach es X.env := by rfl) (hplain : (backTo cpos (starEach es X.env)).any (·.1) = false := by rfl) :
    PE X (.Call (.Attribute o name apos) (e :: es) [] cpos) (tE X.K (fML gm fo f)) := by
  refine (pe_bm pa slot hty hm ho ha hbase hfew hline hs hplain).imp ?_
  rintro σ H Q ⟨α, ρ, μ, d, μ', S, R, e, k⟩
  obtain ⟨⟨x, μ1⟩, e1, e2⟩ := Option.bind_eq_some_iff.mp e
  simp only at e2
  split at e2
  · rename_i hk
    obtain ⟨⟨ds, μ2⟩, e3, e4⟩ := Option.bind_eq_some_iff.mp e2
    exact ⟨α, ρ, μ, x, μ1, S, R, e1, fun H1 α1 v E1 S1 r1 => ⟨kind_list S1 r1 hk, α1, ρ, μ1, ds, μ2, S1, R.up E1, e3, fun H2 α2 vs E2 S2 r2 => ⟨α2, μ2, x, ds, d, μ', S2, r1.up E2, r2, e4, k.up (E1.trans E2)⟩⟩⟩
  · cases e2
theorem de_get2 {o k x : Expr} {apos cpos : Pos} {fo fk fx : EF} (hu : X.A.units + 1 < cLine) (ho : PE X o (tE X.K fo)) (he : PE X k (tE X.K fk)) (hf : PE X x (tE X.K fx)) (m : M2 X o "get" apos k x cpos) : PE X (.Call (.Attribute o "get" apos) [k, x] [] cpos) (tE X.K (fGet2 fo fk fx)) := by
  refine (pe_dget2 hu ho he hf m).imp ?_
  rintro σ H Q ⟨α, ρ, μ, d, μ', S, R, e, k⟩
  obtain ⟨⟨x, μ1⟩, e1, e2⟩ := Option.bind_eq_some_iff.mp e
  simp only at e2
  split at e2
  · rename_i n
    split at e2
    · rename_i kvs0 h0
      obtain ⟨⟨y, μ2⟩, e3, e4⟩ := Option.bind_eq_some_iff.mp e2
      obtain ⟨⟨z, μ3⟩, e5, e6⟩ := Option.bind_eq_some_iff.mp e4
      simp only at e6
      split at e6
      · rename_i kvs h1
        obtain ⟨kk, h2, h3⟩ := Option.map_eq_some_iff.mp e6
        cases h3
        refine ⟨α, ρ, μ, _, μ1, S, R, e1, fun H1 α1 v E1 S1 r1 => ?_⟩
        obtain ⟨p, rfl, q⟩ := r1
        obtain ⟨kv0, c0, _⟩ := S1.ob _ _ _ q h0
        refine ⟨p, rfl, .inl ⟨kv0, .inl c0⟩, α1, ρ, μ1, y, μ2, S1, R.up E1, e3, fun H2 α2 w E2 S2 r2 => ⟨α2, ρ, μ2, z, _, S2, R.up (E1.trans E2), e5, fun H3 α3 u E3 S3 r3 => ?_⟩⟩
        have q3 : α3[n]? = some p := let ⟨_, p1⟩ := (E2.trans E3).pre; pre_get p1 q
        obtain ⟨kv, c1, d1⟩ := S3.ob _ _ _ q3 h1
        have dr : DicR X.K H3 α3 kvs kv := d1
        refine ⟨valV kv kk, .inl ⟨kv, kk, .inl c1, keyOf_rep h2 r2, rfl⟩, ?_⟩
        have kk' := (k.up (E1.trans (E2.trans E3)))
        rcases dr.val (k := kk) with ⟨v1, v2⟩ | ⟨dd, vv, v1, v2, v3⟩
        · rw [v1] at kk'; rw [v2]; exact kont_self kk' S3 r3
        · rw [v1] at kk'; rw [v2]; exact kont_self kk' S3 v3
      · cases e6
    · cases e2
  · cases e2
end
end DL
/-! DR: statements, loops, comprehensions, defs, as functions of data. -/
namespace DL
open PySem PySem.Spec PyProof.Rows L2
inductive Out where
  | nx (ρ : Sl) (μ : Sto) | rt (d : D) (μ : Sto) | bk (ρ : Sl) (μ : Sto) | ct (ρ : Sl) (μ : Sto)
abbrev SF := Sl → Sto → Option Out
abbrev GF := D → Sl → Sto → Option (Sl × Sto)
abbrev GsF := List D → Sl → Sto → Option (Sl × Sto)
/-- what stands behind: slots and store -/
def Ahd (K : PySem.W.Frag) (H : Hp) (α : List Addr) (ρ : Sl) (μ : Sto) (P : L2.St → Hp → Prop) : Prop := ∀ H' α' σ', Ext K H α H' α' → RepS K H' α' μ → RepR K H' α' ρ σ' → P σ' H'
theorem Ahd.up {K : PySem.W.Frag} {H H1 : Hp} {α α1 : List Addr} {ρ : Sl} {μ : Sto} {P : L2.St → Hp → Prop} (k : Ahd K H α ρ μ P) (E : Ext K H α H1 α1) : Ahd K H1 α1 ρ μ P := fun H' α' σ' E' S R => k H' α' σ' (E.trans E') S R
def OutK (K : PySem.W.Frag) (H : Hp) (α : List Addr) (o : Out) (D : Ends) : Prop := match o with
  | .nx ρ μ => Ahd K H α ρ μ D.nx
  | .rt d μ => Kont K H α μ d D.rt
  | .bk ρ μ => Ahd K H α ρ μ D.bk
  | .ct ρ μ => Ahd K H α ρ μ D.ct
theorem OutK.up {K : PySem.W.Frag} {H H1 : Hp} {α α1 : List Addr} {o : Out} {D : Ends} (k : OutK K H α o D) (E : Ext K H α H1 α1) : OutK K H1 α1 o D := by
  cases o with
  | nx ρ μ => exact Ahd.up k E
  | rt d μ => exact Kont.up k E
  | bk ρ μ => exact Ahd.up k E
  | ct ρ μ => exact Ahd.up k E
def tS (K : PySem.W.Frag) (f : SF) : TS := fun D σ H => ∃ α ρ μ o, RepS K H α μ ∧ RepR K H α ρ σ ∧ f ρ μ = some o ∧ OutK K H α o D
def tG (K : PySem.W.Frag) (g : GF) : TG := fun v σ H Q => ∃ α ρ μ d ρ' μ', RepS K H α μ ∧ RepR K H α ρ σ ∧ Rep K H α d v ∧ g d ρ μ = some (ρ', μ') ∧ Ahd K H α ρ' μ' Q
def tGs (K : PySem.W.Frag) (g : GsF) : TGs := fun vs σ H Q => ∃ α ρ μ ds ρ' μ', RepS K H α μ ∧ RepR K H α ρ σ ∧ Reps K H α ds vs ∧ g ds ρ μ = some (ρ', μ') ∧ Ahd K H α ρ' μ' Q

/-! ### statements -/
def fSkip : SF := fun ρ μ => some (.nx ρ μ)
def fSeq (f g : SF) : SF := fun ρ μ => (f ρ μ).bind fun o => match o with
  | .nx ρ' μ' => g ρ' μ'
  | o => some o
def fBreak : SF := fun ρ μ => some (.bk ρ μ)
def fCont : SF := fun ρ μ => some (.ct ρ μ)
def fRet (f : EF) : SF := fun ρ μ => (f ρ μ).bind fun p => some (.rt p.1 p.2)
def fDrop (f : EF) : SF := fun ρ μ => (f ρ μ).bind fun p => some (.nx ρ p.2)
def fIfS (c : TF) (f g : SF) : SF := fun ρ μ => (c ρ μ).bind fun p => if p.1 = true then f ρ p.2 else g ρ p.2
def fAsg (f : EF) (g : GF) : SF := fun ρ μ => (f ρ μ).bind fun p => (g p.1 ρ p.2).bind fun q => some (.nx q.1 q.2)
def fPar (i j : Nat) (f : AF) : SF := fun ρ μ => (f ρ μ).bind fun p => match p.1 with
  | [a, b] => some (.nx ((ρ.set i (some a)).set j (some b)) p.2)
  | _ => none
def gNm (i : Nat) : GF := fun d ρ μ => some (ρ.set i (some d), μ)
def gSb (fo fi : EF) : GF := fun d ρ μ => (fo ρ μ).bind fun p => (fi ρ p.2).bind fun q => (stD p.1 q.1 d q.2).map fun μ' => (ρ, μ')
def gNl : GsF := fun ds ρ μ => match ds with
  | [] => some (ρ, μ)
  | _ => none
def gCn (g : GF) (gs : GsF) : GsF := fun ds ρ μ => match ds with
  | d :: r => (g d ρ μ).bind fun p => gs r p.1 p.2
  | [] => none
def gTp (n : Nat) (gs : GsF) : GF := fun d ρ μ => match d with
  | .tup ds => if ds.length = n then gs ds ρ μ else none
  | _ => none
theorem RepR.set {K : PySem.W.Frag} {H : Hp} {α : List Addr} {ρ : Sl} {σ : L2.St} {d : D} {v : V} (R : RepR K H α ρ σ) (r : Rep K H α d v) (i : Nat) : RepR K H α (ρ.set i (some d)) (σ.set i (some v)) := by
  refine ⟨by rw [List.length_set, List.length_set]; exact R.1, fun j d' e => ?_⟩
  by_cases h : i = j
  · subst h
    by_cases l : i < ρ.length
    · rw [List.getElem?_set_self l] at e
      cases e
      exact ⟨v, by rw [List.getElem?_set_self (by rw [← R.1]; exact l)], r⟩
    · rw [List.getElem?_eq_none (by simpa using l)] at e
      cases e
  · rw [List.getElem?_set_ne h] at e ⊢
    exact R.2 j d' e
section
variable {X : Cx} {st : Stmt} {rest body : List Stmt} {f g : SF} {e : Expr} {fe : EF} {pos : Pos}
theorem dss_nil : PSs X [] (tS X.K fSkip) := by
  refine PSs.imp pss_nil ?_
  rintro D σ H ⟨α, ρ, μ, o, S, R, e, k⟩
  cases e
  exact k H α σ Ext.refl S R
theorem dss_one (h : PS X st (tS X.K f)) : PSs X [st] (tS X.K f) := pss_one h
theorem dss_cons (h1 : PS X st (tS X.K f)) (h2 : PSs X rest (tS X.K g)) : PSs X (st :: rest) (tS X.K (fSeq f g)) := by
  refine PSs.imp (pss_cons h1 h2) ?_
  rintro D σ H ⟨α, ρ, μ, o, S, R, e, k⟩
  obtain ⟨o1, e1, e2⟩ := Option.bind_eq_some_iff.mp e
  refine ⟨α, ρ, μ, o1, S, R, e1, ?_⟩
  cases o1 with
  | nx ρ1 μ1 => exact fun H1 α1 σ1 E1 S1 R1 => ⟨α1, ρ1, μ1, o, S1, R1, e2, k.up E1⟩
  | rt d μ1 => cases e2; exact k
  | bk ρ1 μ1 => cases e2; exact k
  | ct ρ1 μ1 => cases e2; exact k
theorem ds_break : PS X (.Break pos) (tS X.K fBreak) := by
  refine PS.imp ps_break ?_
  rintro D σ H ⟨α, ρ, μ, o, S, R, e, k⟩
  cases e
  exact k H α σ Ext.refl S R
theorem ds_cont : PS X (.Continue pos) (tS X.K fCont) := by
  refine PS.imp ps_continue ?_
  rintro D σ H ⟨α, ρ, μ, o, S, R, e, k⟩
  cases e
  exact k H α σ Ext.refl S R
theorem ds_doc {x : Str} {j : Nat} {pos pos' : Pos} : PS X (.Expr (.Constant (.str x) j pos) pos') (tS X.K fSkip) := by
  refine PS.imp ps_doc ?_
  rintro D σ H ⟨α, ρ, μ, o, S, R, e, k⟩
  cases e
  exact k H α σ Ext.refl S R
theorem ds_ret (he : PE X e (tE X.K fe)) : PS X (.Return (some e) pos) (tS X.K (fRet fe)) := by
  refine PS.imp (ps_ret he) ?_
  rintro D σ H ⟨α, ρ, μ, o, S, R, e, k⟩
  obtain ⟨⟨x, μ1⟩, e1, e2⟩ := Option.bind_eq_some_iff.mp e
  cases e2
  exact ⟨α, ρ, μ, x, _, S, R, e1, k⟩
theorem ds_expr (he : PE X e (tE X.K fe)) (hs : swapsWith e none pos.line X.env = pure false := by rfl) : PS X (.Expr e pos) (tS X.K (fDrop fe)) := by
  refine PS.imp (ps_expr he hs) ?_
  rintro D σ H ⟨α, ρ, μ, o, S, R, e, k⟩
  obtain ⟨⟨x, μ1⟩, e1, e2⟩ := Option.bind_eq_some_iff.mp e
  cases e2
  exact ⟨α, ρ, μ, x, _, S, R, e1, fun H1 α1 v E1 S1 r1 => k H1 α1 σ E1 S1 (R.up E1)⟩
theorem ds_if {c : Expr} {a b : List Stmt} {fc : TF} (hc : PT X c (tT X.K fc)) (ha : PSs X a (tS X.K f)) (hb : PSs X b (tS X.K g)) : PS X (.If c a b pos) (tS X.K (fIfS fc f g)) := by
  refine PS.imp (ps_if hc ha hb) ?_
  rintro D σ H ⟨α, ρ, μ, o, S, R, e, k⟩
  obtain ⟨⟨x, μ1⟩, e1, e2⟩ := Option.bind_eq_some_iff.mp e
  refine ⟨α, ρ, μ, x, μ1, S, R, e1, fun H1 α1 E1 S1 => ?_⟩
  cases x with
  | true => exact ⟨α1, ρ, μ1, o, S1, R.up E1, e2, k.up E1⟩
  | false => exact ⟨α1, ρ, μ1, o, S1, R.up E1, e2, k.up E1⟩
/-! ### targets -/
theorem i_nm {K : PySem.W.Frag} {i : Nat} : ∀ v σ H Q, tG K (gNm i) v σ H Q → gName i v σ H Q := by
  rintro v σ H Q ⟨α, ρ, μ, d, ρ', μ', S, R, r, e, k⟩
  cases e
  exact k H α _ Ext.refl S (R.set r i)
theorem dg_name {i : Nat} {x : Str} (hN : X.N.Nodup) (hi : X.N[i]? = some x) (hx : Loc X.env.scope x) (hf : X.fn x = true ∨ X.env.scope.names.lookup x = some .local := by first | exact .inl rfl | exact .inr rfl | assumption) : PG X (.Name x pos) (tG X.K (gNm i)) := PG.imp (pg_name hN hi hx hf) i_nm
theorem dgs_nil : PGs X [] (tGs X.K gNl) := by
  refine PGs.imp pgs_nil ?_
  rintro vs σ H Q ⟨α, ρ, μ, ds, ρ', μ', S, R, r, e, k⟩
  unfold gNl at e
  split at e
  · cases e
    exact ⟨r, k H α σ Ext.refl S R⟩
  · cases e
theorem dgs_cons {e : Expr} {es : List Expr} {gt : GF} {gu : GsF} (h1 : PG X e (tG X.K gt)) (h2 : PGs X es (tGs X.K gu))
    (hs : (assignEach (e :: es) X.env).map (·.2) = assign e X.env :: (assignEach es X.env).map (·.2) := by rfl) : PGs X (e :: es) (tGs X.K (gCn gt gu)) := by
  refine PGs.imp (pgs_cons h1 h2 hs) ?_
  rintro vs σ H Q ⟨α, ρ, μ, ds, ρ', μ', S, R, r, e, k⟩
  unfold gCn at e
  split at e
  · obtain ⟨⟨ρ1, μ1⟩, e1, e2⟩ := Option.bind_eq_some_iff.mp e
    obtain ⟨v, vr, rfl, r1, r2⟩ := r
    exact ⟨v, vr, rfl, α, ρ, μ, _, ρ1, μ1, S, R, r1, e1, fun H1 α1 σ1 E1 S1 R1 => ⟨α1, ρ1, μ1, _, ρ', μ', S1, R1, r2.up E1, e2, k.up E1⟩⟩
  · cases e
theorem dg_tup {es : List Expr} {j : Nat} {gs : GsF} {n : Nat} (hc : X.calm = true) (h : PGs X es (tGs X.K gs))
    (hn : (assignEach es X.env).length = n := by rfl) (hst : (assignEach es X.env).findIdx? (·.1) = none := by rfl) : PG X (.Tuple es j pos) (tG X.K (gTp n gs)) := by
  refine PG.imp (pg_tup hc h hn hst) ?_
  rintro v σ H Q ⟨α, ρ, μ, d, ρ', μ', S, R, r, e, k⟩
  unfold gTp at e
  split at e
  · split at e
    · rename_i hl
      obtain ⟨a, xs, rfl, q, rr⟩ := r
      exact ⟨a, xs, rfl, q, by rw [← rr.length]; exact hl, α, ρ, μ, _, ρ', μ', S, R, rr, e, k⟩
    · cases e
  · cases e
theorem dg_sub {o i : Expr} {fo fi : EF} (hu : X.A.units + 1 < cLine) (ho : PE X o (tE X.K fo)) (hi : PE X i (tE X.K fi))
    (ha : ∀ v, assign (.Subscript o i pos) X.env v = (do
      let ov ← holding [v] (eval o X.env)
      let iv ← holding [v, ov] (eval i X.env)
      standAt pos
      holding [v, ov, iv] (setItem ov iv v)
      release [v, ov, iv] []) := by intro _; rfl) : PG X (.Subscript o i pos) (tG X.K (gSb fo fi)) := by
  refine PG.imp (pg_sub ho hi (ds_set hu) ha) ?_
  rintro v σ H Q ⟨α, ρ, μ, d, ρ', μ', S, R, r, e, k⟩
  obtain ⟨⟨x, μ1⟩, e1, e2⟩ := Option.bind_eq_some_iff.mp e
  obtain ⟨⟨y, μ2⟩, e3, e4⟩ := Option.bind_eq_some_iff.mp e2
  obtain ⟨μ3, e5, e6⟩ := Option.map_eq_some_iff.mp e4
  cases e6
  exact ⟨α, ρ, μ, x, μ1, S, R, e1, fun H1 α1 v1 E1 S1 r1 => ⟨α1, ρ, μ1, y, μ2, S1, R.up E1, e3, fun H2 α2 v2 E2 S2 r2 =>
    ⟨α2, μ2, x, y, d, _, S2, r1.up E2, r2, r.up (E1.trans E2), e5, fun H3 α3 E3 S3 => k H3 α3 σ (E1.trans (E2.trans E3)) S3 (R.up (E1.trans (E2.trans E3)))⟩⟩⟩
theorem i_asg {K : PySem.W.Frag} {fe : EF} {g : GF} : ∀ D σ H, tS K (fAsg fe g) D σ H → tAsg (tE K fe) (tG K g) D σ H := by
  rintro D σ H ⟨α, ρ, μ, o, S, R, e, k⟩
  obtain ⟨⟨x, μ1⟩, e1, e2⟩ := Option.bind_eq_some_iff.mp e
  obtain ⟨⟨ρ2, μ2⟩, e3, e4⟩ := Option.bind_eq_some_iff.mp e2
  cases e4
  exact ⟨α, ρ, μ, x, μ1, S, R, e1, fun H1 α1 v E1 S1 r1 => ⟨α1, ρ, μ1, x, ρ2, μ2, S1, R.up E1, r1, e3, Ahd.up k E1⟩⟩
theorem ds_asg {tg : Expr} {g : GF} (he : PE X e (tE X.K fe)) (hg : PG X tg (tG X.K g)) (hs : swapsWithSole [tg] e pos.line X.env = pure false := by rfl) (hw : swappedStores [tg] e X.env = pure none := by rfl)
    (h1 : (assignEach [tg] X.env).map (·.2) = [assign tg X.env] := by rfl) : PS X (.Assign [tg] e pos) (tS X.K (fAsg fe g)) := PS.imp (ps_asg he hg hs hw h1) i_asg
theorem ds_setn {i : Nat} {x : Str} {pos' : Pos} (hN : X.N.Nodup) (hi : X.N[i]? = some x) (hx : Loc X.env.scope x) (he : PE X e (tE X.K fe)) (hs : swapsWith e (some (.Name x pos')) pos.line X.env = pure false := by rfl) (hf : X.fn x = true ∨ X.env.scope.names.lookup x = some .local := by first | exact .inl rfl | exact .inr rfl | assumption) :
    PS X (.Assign [.Name x pos'] e pos) (tS X.K (fAsg fe (gNm i))) := by
  refine PS.imp (ps_set hN hi hx he hs hf) fun D σ H h => ?_
  obtain ⟨α, ρ, μ, d, μ', S, R, e, k⟩ := i_asg D σ H h
  exact ⟨α, ρ, μ, d, μ', S, R, e, fun H' α' v E' S' r' => i_nm _ _ _ _ (k H' α' v E' S' r')⟩
theorem ds_par {i j : Nat} {x y : Str} {a b : Expr} {fa : AF} {px py pt : Pos} {kt k2 pt2} (hc : X.calm = true) (hN : X.N.Nodup) (hi : X.N[i]? = some x) (hj : X.N[j]? = some y) (hij : i ≠ j)
    (hx : X.env.scope.names.lookup x = some .local) (hy : X.env.scope.names.lookup y = some .local) (ha : PA X [a, b] (tA X.K fa))
    (hw : swappedStores [.Tuple [.Name x px, .Name y py] kt pt] (.Tuple [a, b] k2 pt2) X.env = pure (some [x, y]))
    (hs : swapsWithSole [.Tuple [.Name x px, .Name y py] kt pt] (.Tuple [a, b] k2 pt2) pos.line X.env = pure false := by rfl) :
    PS X (.Assign [.Tuple [.Name x px, .Name y py] kt pt] (.Tuple [a, b] k2 pt2) pos) (tS X.K (fPar i j fa)) := by
  refine PS.imp (ps_par hc hN hi hj hij hx hy ha hw hs) ?_
  rintro D σ H ⟨α, ρ, μ, o, S, R, e, k⟩
  obtain ⟨⟨ds, μ1⟩, e1, e2⟩ := Option.bind_eq_some_iff.mp e
  refine ⟨α, ρ, μ, ds, μ1, S, R, e1, fun H1 α1 vs E1 S1 r1 => ?_⟩
  simp only at e2
  split at e2
  · cases e2
    obtain ⟨v, _, rfl, q1, w, _, rfl, q2, q3⟩ := r1
    cases (show _ = _ from q3)
    exact ⟨v, w, rfl, k H1 α1 _ E1 S1 (((R.up E1).set q1 i).set q2 j)⟩
  · cases e2
end

/-! ### what is walked -/
inductive ItD where
  | tup (ds : List D) | lst (n : Nat) | rng (lo : Int) (n : Nat)
abbrev IF := Sl → Sto → Option (ItD × Sto)
def ItR (K : PySem.W.Frag) (H : Hp) (α : List Addr) (it : ItD) (J : It) : Prop := match it with
  | .tup ds => ∃ a xs, J = Itt K a ∧ SqT K H a xs ∧ Reps K H α ds xs
  | .lst n => ∃ a, J = Itl K a ∧ α[n]? = some a
  | .rng lo n => J = Itr lo n
theorem ItR.up {K : PySem.W.Frag} {H H' : Hp} {α α' : List Addr} {it : ItD} {J : It} (h : ItR K H α it J) (E : Ext K H α H' α') : ItR K H' α' it J := by
  cases it with
  | tup ds => obtain ⟨a, xs, e, q, r⟩ := h; exact ⟨a, xs, e, E.tup _ _ q, r.up E⟩
  | lst n => obtain ⟨a, e, q⟩ := h; exact ⟨a, e, let ⟨_, p⟩ := E.pre; pre_get p q⟩
  | rng lo n => exact h
def tI (K : PySem.W.Frag) (f : IF) : TI := fun σ H R => ∃ α ρ μ it μ', RepS K H α μ ∧ RepR K H α ρ σ ∧ f ρ μ = some (it, μ') ∧ ∀ H' α' J, Ext K H α H' α' → RepS K H' α' μ' → ItR K H' α' it J → R J H'
def itAt (it : ItD) (i : Nat) (μ : Sto) : Option (Option D) := match it with
  | .tup ds => some ds[i]?
  | .lst n => (lstAt μ n).map fun ds => ds[i]?
  | .rng lo n => some (if i < n then some (.int (lo + i)) else none)
def itLen (it : ItD) (μ : Sto) : Nat := match it with
  | .tup ds => ds.length
  | .lst n => ((lstAt μ n).getD []).length
  | .rng _ n => n
section
variable {K : PySem.W.Frag} {H : Hp} {α : List Addr} {μ : Sto} {it : ItD} {J : It} {i : Nat}
theorem RepS.sqlA (S : RepS K H α μ) {n : Nat} {ds : List D} {a : Addr} (h : lstAt μ n = some ds) (e : α[n]? = some a) : ∃ xs, SqL K H a xs ∧ Reps K H α ds xs := by
  obtain ⟨_, xs, z, q, r⟩ := S.sql h ⟨a, rfl, e⟩
  cases z
  exact ⟨xs, q, r⟩
theorem it_stop (h : ItR K H α it J) (S : RepS K H α μ) (e : itAt it i μ = some none) : J.stop i H := by
  cases it with
  | tup ds =>
    obtain ⟨a, xs, rfl, q, r⟩ := h
    refine ⟨xs, q, ?_⟩
    have : ds[i]? = none := Option.some.inj e
    rw [← r.length]
    exact List.getElem?_eq_none_iff.mp this
  | lst n =>
    obtain ⟨a, rfl, q⟩ := h
    obtain ⟨ds, e1, e2⟩ := Option.map_eq_some_iff.mp e
    obtain ⟨xs, s, r⟩ := S.sqlA e1 q
    exact ⟨xs, s, by rw [← r.length]; exact List.getElem?_eq_none_iff.mp e2⟩
  | rng lo n =>
    cases (show J = _ from h)
    simp only [itAt, Option.some.injEq] at e
    split at e
    · cases e
    · show n ≤ i; omega
theorem it_go (h : ItR K H α it J) (S : RepS K H α μ) {d : D} (e : itAt it i μ = some (some d)) : J.go i H ∧ ∀ x H', J.yld i H x H' → H' = H ∧ Rep K H α d x := by
  cases it with
  | tup ds =>
    obtain ⟨a, xs, rfl, q, r⟩ := h
    have e' : ds[i]? = some d := Option.some.inj e
    obtain ⟨v, h1, h2⟩ := r.get e'
    exact ⟨⟨xs, v, q, h1⟩, fun x H' ⟨z1, z2⟩ => ⟨z1, by have := z2 xs q; rw [h1] at this; cases this; exact h2⟩⟩
  | lst n =>
    obtain ⟨a, rfl, q⟩ := h
    obtain ⟨ds, e1, e2⟩ := Option.map_eq_some_iff.mp e
    obtain ⟨xs, s, r⟩ := S.sqlA e1 q
    obtain ⟨v, h1, h2⟩ := r.get e2
    exact ⟨⟨xs, v, s, h1⟩, fun x H' ⟨z1, z2⟩ => ⟨z1, by have := z2 xs s; rw [h1] at this; cases this; exact h2⟩⟩
  | rng lo n =>
    cases (show J = _ from h)
    simp only [itAt, Option.some.injEq] at e
    split at e
    · rename_i hl
      cases e
      exact ⟨hl, fun x H' ⟨z1, z2⟩ => ⟨z1, z2⟩⟩
    · cases e
end
/-- the walk over a value: a tuple or a list -/
def iVal (f : EF) : IF := fun ρ μ => (f ρ μ).bind fun p => match p.1 with
  | .tup ds => some (.tup ds, p.2)
  | _ => none
def iLst (f : EF) : IF := fun ρ μ => (f ρ μ).bind fun p => match p.1 with
  | .loc n => if (lstAt p.2 n).isSome then some (.lst n, p.2) else none
  | _ => none
def iRng1' (f : AF) : IF := fun ρ μ => (f ρ μ).bind fun p => match p.1 with
  | [.int j] => if -(2 ^ 62) ≤ j ∧ j < 2 ^ 62 then some (.rng 0 j.toNat, p.2) else none
  | _ => none
def iRng2' (f : AF) : IF := fun ρ μ => (f ρ μ).bind fun p => match p.1 with
  | [.int i, .int j] => if -(2 ^ 62) ≤ i ∧ i < 2 ^ 62 ∧ -(2 ^ 62) ≤ j ∧ j < 2 ^ 62 then some (.rng i (j - i).toNat, p.2) else none
  | _ => none
section
variable {X : Cx} {tg e : Expr} {fe : EF}
theorem _root_.L2.PI.imp {t u : TI} (h : PI X tg e t) (i : ∀ σ H R, u σ H R → t σ H R) : PI X tg e u := ⟨fun pins s σ H R I q => h.run pins s σ H R I (i _ _ _ q)⟩
theorem di_tup (he : PE X e (tE X.K fe)) : PI X tg e (tI X.K (iVal fe)) := by
  refine PI.imp (pi_tup he) ?_
  rintro σ H Q ⟨α, ρ, μ, it, μ', S, R, e, k⟩
  obtain ⟨⟨x, μ1⟩, e1, e2⟩ := Option.bind_eq_some_iff.mp e
  simp only at e2
  split at e2
  · cases e2
    refine ⟨α, ρ, μ, _, _, S, R, e1, fun H1 α1 v E1 S1 r1 => ?_⟩
    obtain ⟨a, xs, rfl, q, r⟩ := r1
    exact ⟨a, rfl, ⟨xs, q⟩, k H1 α1 _ E1 S1 ⟨a, xs, rfl, q, r⟩⟩
  · cases e2
theorem di_lst (he : PE X e (tE X.K fe)) : PI X tg e (tI X.K (iLst fe)) := by
  refine PI.imp (pi_list he) ?_
  rintro σ H Q ⟨α, ρ, μ, it, μ', S, R, e, k⟩
  obtain ⟨⟨x, μ1⟩, e1, e2⟩ := Option.bind_eq_some_iff.mp e
  simp only at e2
  split at e2
  · split at e2
    · rename_i n hs
      cases e2
      refine ⟨α, ρ, μ, _, _, S, R, e1, fun H1 α1 v E1 S1 r1 => ?_⟩
      obtain ⟨ds, hd⟩ := Option.isSome_iff_exists.mp hs
      have r0 := r1
      obtain ⟨a, rfl, q⟩ := r1
      obtain ⟨xs, sq, r⟩ := S1.sqlA hd q
      exact ⟨a, rfl, ⟨xs, sq⟩, k H1 α1 _ E1 S1 ⟨a, rfl, q⟩⟩
    · cases e2
  · cases e2
theorem di_rng1 {a : Expr} {fa : AF} {p pos : Pos} (hg : Gl X "range") (hm : X.mg "range" = none) (ha : PA X [a] (tA X.K fa)) (hs : starEach [a] X.env = [(false, eval a X.env)] := by rfl) : PI X tg (.Call (.Name "range" p) [a] [] pos) (tI X.K (iRng1' fa)) := by
  refine PI.imp (pi_range1 hg hm ha hs) ?_
  rintro σ H Q ⟨α, ρ, μ, it, μ', S, R, e, k⟩
  obtain ⟨⟨x, μ1⟩, e1, e2⟩ := Option.bind_eq_some_iff.mp e
  refine ⟨α, ρ, μ, x, μ1, S, R, e1, fun H1 α1 v E1 S1 r1 => ?_⟩
  simp only at e2
  split at e2
  · split at e2
    · rename_i h
      cases e2
      obtain ⟨v, _, rfl, q1, q2⟩ := r1
      cases (show v = _ from q1); cases (show _ = _ from q2)
      exact ⟨_, rfl, h.1, h.2, k H1 α1 _ E1 S1 rfl⟩
    · cases e2
  · cases e2
theorem di_rng2 {a b : Expr} {fa : AF} {p pos : Pos} (hg : Gl X "range") (hm : X.mg "range" = none) (ha : PA X [a, b] (tA X.K fa)) (hs : starEach [a, b] X.env = [(false, eval a X.env), (false, eval b X.env)] := by rfl) (hs2 : starEach [b] X.env = [(false, eval b X.env)] := by rfl) :
    PI X tg (.Call (.Name "range" p) [a, b] [] pos) (tI X.K (iRng2' fa)) := by
  refine PI.imp (pi_range2 hg hm ha hs hs2) ?_
  rintro σ H Q ⟨α, ρ, μ, it, μ', S, R, e, k⟩
  obtain ⟨⟨x, μ1⟩, e1, e2⟩ := Option.bind_eq_some_iff.mp e
  refine ⟨α, ρ, μ, x, μ1, S, R, e1, fun H1 α1 v E1 S1 r1 => ?_⟩
  simp only at e2
  split at e2
  · split at e2
    · rename_i h
      cases e2
      obtain ⟨v, _, rfl, q1, w, _, rfl, q2, q3⟩ := r1
      cases (show v = _ from q1); cases (show w = _ from q2); cases (show _ = _ from q3)
      exact ⟨_, _, rfl, h, k H1 α1 _ E1 S1 rfl⟩
    · cases e2
  · cases e2
end

/-! ### for, while -/
def loopF (g : GF) (b : SF) (it : ItD) : Nat → Nat → Sl → Sto → Option Out
  | 0, i, ρ, μ => match itAt it i μ with
    | some none => some (.nx ρ μ)
    | _ => none
  | m + 1, i, ρ, μ => match itAt it i μ with
    | some none => some (.nx ρ μ)
    | some (some d) => (g d ρ μ).bind fun p => (b p.1 p.2).bind fun o => match o with
      | .nx ρ2 μ2 => loopF g b it m (i + 1) ρ2 μ2
      | .ct ρ2 μ2 => loopF g b it m (i + 1) ρ2 μ2
      | .bk ρ2 μ2 => some (.nx ρ2 μ2)
      | .rt d μ2 => some (.rt d μ2)
    | none => none
def fFor (f : IF) (g : GF) (b : SF) : SF := fun ρ μ => (f ρ μ).bind fun p => loopF g b p.1 (itLen p.1 p.2) 0 ρ p.2
def loopW (c : TF) (b : SF) : Nat → Sl → Sto → Option Out
  | 0, _, _ => none
  | m + 1, ρ, μ => (c ρ μ).bind fun p => if p.1 = true then (b ρ p.2).bind fun o => match o with
      | .nx ρ2 μ2 => loopW c b m ρ2 μ2
      | .ct ρ2 μ2 => loopW c b m ρ2 μ2
      | .bk ρ2 μ2 => some (.nx ρ2 μ2)
      | .rt d μ2 => some (.rt d μ2)
    else some (.nx ρ p.2)
def fWhile (m : Sl → Sto → Nat) (c : TF) (b : SF) : SF := fun ρ μ => loopW c b (m ρ μ) ρ μ
section
variable {X : Cx} {pos : Pos}
theorem ds_for {iter tg : Expr} {body : List Stmt} {fi : IF} {g : GF} {b : SF} (hp : PassesOwn (model X.prog X.w) X.A X.env X.xe) (hc : X.calm = true) (hi : PI X tg iter (tI X.K fi)) (hg : PG X tg (tG X.K g)) (hb : PSs X body (tS X.K b))
    (hs : ∀ x, foldedSetIterable iter X.env x = pure x := by intro _; rfl) : PS X (.For tg iter body [] pos) (tS X.K (fFor fi g b)) := by
  refine PS.imp (ps_for hp hc hi hg hb hs) ?_
  rintro D σ H ⟨α, ρ, μ, o, S, R, e, k⟩
  obtain ⟨⟨it, μ1⟩, e1, e2⟩ := Option.bind_eq_some_iff.mp e
  refine ⟨α, ρ, μ, it, μ1, S, R, e1, fun H1 α1 J E1 S1 h1 => ?_⟩
  refine ⟨fun i m σ H => ∃ α ρ μ o, RepS X.K H α μ ∧ RepR X.K H α ρ σ ∧ ItR X.K H α it J ∧ loopF g b it m i ρ μ = some o ∧ OutK X.K H α o D, ⟨_, α1, ρ, μ1, o, S1, R.up E1, h1, e2, k.up E1⟩, ?_⟩
  rintro i m σ2 H2 ⟨α2, ρ2, μ2, o2, S2, R2, h2, e3, k2⟩
  cases m with
  | zero =>
    unfold loopF at e3
    split at e3
    · rename_i q
      cases e3
      exact .inl ⟨it_stop h2 S2 q, k2 H2 α2 σ2 Ext.refl S2 R2⟩
    · cases e3
  | succ m =>
    unfold loopF at e3
    split at e3
    · rename_i q
      cases e3
      exact .inl ⟨it_stop h2 S2 q, k2 H2 α2 σ2 Ext.refl S2 R2⟩
    · rename_i d q
      obtain ⟨g1, g2⟩ := it_go h2 S2 q
      obtain ⟨⟨ρ3, μ3⟩, e4, e5⟩ := Option.bind_eq_some_iff.mp e3
      obtain ⟨o3, e6, e7⟩ := Option.bind_eq_some_iff.mp e5
      refine .inr ⟨g1, fun σ H => ∃ α ρ μ o, RepS X.K H α μ ∧ RepR X.K H α ρ σ ∧ ItR X.K H α it J ∧ loopF g b it m (i + 1) ρ μ = some o ∧ OutK X.K H α o D, fun σ' H' n => ⟨m, Nat.lt_succ_self m, n⟩, fun x H' y => ?_⟩
      obtain ⟨rfl, rx⟩ := g2 x H' y
      refine ⟨α2, ρ2, μ2, d, ρ3, μ3, S2, R2, rx, e4, fun H3 α3 σ3 E3 S3 R3 => ⟨α3, ρ3, μ3, o3, S3, R3, e6, ?_⟩⟩
      cases o3 with
      | nx ρ4 μ4 => exact fun H4 α4 σ4 E4 S4 R4 => ⟨α4, ρ4, μ4, o2, S4, R4, h2.up (E3.trans E4), e7, k2.up (E3.trans E4)⟩
      | ct ρ4 μ4 => exact fun H4 α4 σ4 E4 S4 R4 => ⟨α4, ρ4, μ4, o2, S4, R4, h2.up (E3.trans E4), e7, k2.up (E3.trans E4)⟩
      | bk ρ4 μ4 => cases e7; exact Ahd.up k2 E3
      | rt d4 μ4 => cases e7; exact Kont.up k2 E3
    · cases e3
theorem ds_while {c : Expr} {body : List Stmt} {fc : TF} {b : SF} (m : Sl → Sto → Nat) (hp : PassesOwn (model X.prog X.w) X.A X.env X.xe) (hc : PT X c (tT X.K fc)) (hb : PSs X body (tS X.K b)) : PS X (.While c body [] pos) (tS X.K (fWhile m fc b)) := by
  refine PS.imp (ps_while hp hc hb) ?_
  rintro D σ H ⟨α, ρ, μ, o, S, R, e, k⟩
  refine ⟨fun m σ H => ∃ α ρ μ o, RepS X.K H α μ ∧ RepR X.K H α ρ σ ∧ loopW fc b m ρ μ = some o ∧ OutK X.K H α o D, ⟨_, α, ρ, μ, o, S, R, e, k⟩, ?_⟩
  rintro m σ2 H2 ⟨α2, ρ2, μ2, o2, S2, R2, e3, k2⟩
  cases m with
  | zero => cases e3
  | succ m =>
    unfold loopW at e3
    obtain ⟨⟨x, μ3⟩, e4, e5⟩ := Option.bind_eq_some_iff.mp e3
    refine ⟨α2, ρ2, μ2, x, μ3, S2, R2, e4, fun H3 α3 E3 S3 => ?_⟩
    cases x with
    | false => cases e5; exact k2 H3 α3 σ2 E3 S3 (R2.up E3)
    | true =>
      rw [if_pos rfl] at e5 ⊢
      obtain ⟨o3, e6, e7⟩ := Option.bind_eq_some_iff.mp e5
      refine ⟨fun σ H => ∃ α ρ μ o, RepS X.K H α μ ∧ RepR X.K H α ρ σ ∧ loopW fc b m ρ μ = some o ∧ OutK X.K H α o D, fun σ' H' n => ⟨m, Nat.lt_succ_self m, n⟩, α3, ρ2, μ3, o3, S3, R2.up E3, e6, ?_⟩
      cases o3 with
      | nx ρ4 μ4 => exact fun H4 α4 σ4 E4 S4 R4 => ⟨α4, ρ4, μ4, o2, S4, R4, e7, k2.up (E3.trans E4)⟩
      | ct ρ4 μ4 => exact fun H4 α4 σ4 E4 S4 R4 => ⟨α4, ρ4, μ4, o2, S4, R4, e7, k2.up (E3.trans E4)⟩
      | bk ρ4 μ4 => cases e7; exact Ahd.up k2 E3
      | rt d4 μ4 => cases e7; exact Kont.up k2 E3
end
end DL
/-! DS: comprehensions, defs and their calls, as functions of data. -/
namespace DL
open PySem PySem.Spec PyProof.Rows L2
/-! ### wiping -/
def wipeD (ρ : Sl) : List Nat → Sl
  | [] => ρ
  | v :: vs => (wipeD ρ vs).set v none
theorem wipe_get (σ : L2.St) (j : Nat) : ∀ vs : List Nat, (wipe σ vs)[j]? = if j ∈ vs then (if j < σ.length then some none else none) else σ[j]?
  | [] => by simp [wipe]
  | v :: vs => by
    unfold wipe
    by_cases h : v = j
    · subst h
      rw [if_pos (by simp)]
      by_cases l : v < σ.length
      · rw [List.getElem?_set_self (by rw [wipe_length]; exact l), if_pos l]
      · rw [if_neg l, List.getElem?_eq_none (by simpa [wipe_length] using l)]
    · rw [List.getElem?_set_ne h, wipe_get σ j vs]
      have : (j ∈ v :: vs) ↔ j ∈ vs := by
        rw [List.mem_cons]
        exact ⟨fun z => z.elim (fun e => absurd e.symm h) id, .inr⟩
      simp only [this]
theorem wipe_set {σ : L2.St} {vs : List Nat} {i : Nat} {x : Option V} (h : i ∈ vs) : wipe (σ.set i x) vs = wipe σ vs := by
  refine List.ext_getElem? fun j => ?_
  rw [wipe_get, wipe_get, List.length_set]
  by_cases hj : j ∈ vs
  · rw [if_pos hj, if_pos hj]
  · rw [if_neg hj, if_neg hj, List.getElem?_set_ne fun e : i = j => hj (by rw [← e]; exact h)]
theorem wipe_wipe (σ : L2.St) (vs : List Nat) : wipe (wipe σ vs) vs = wipe σ vs := by
  refine List.ext_getElem? fun j => ?_
  rw [wipe_get, wipe_get, wipe_length]
  split <;> rfl
theorem RepR.none {K : PySem.W.Frag} {H : Hp} {α : List Addr} {ρ : Sl} {σ : L2.St} (R : RepR K H α ρ σ) (i : Nat) : RepR K H α (ρ.set i none) (σ.set i none) := by
  refine ⟨by rw [List.length_set, List.length_set]; exact R.1, fun j d' e => ?_⟩
  by_cases h : i = j
  · subst h
    by_cases l : i < ρ.length
    · rw [List.getElem?_set_self l] at e; cases e
    · rw [List.getElem?_eq_none (by simpa using l)] at e; cases e
  · rw [List.getElem?_set_ne h] at e ⊢
    exact R.2 j d' e
theorem RepR.wipe {K : PySem.W.Frag} {H : Hp} {α : List Addr} {ρ : Sl} {σ : L2.St} (R : RepR K H α ρ σ) : ∀ vs : List Nat, RepR K H α (wipeD ρ vs) (L2.wipe σ vs)
  | [] => R
  | v :: vs => (RepR.wipe R vs).none v
/-! ### a comprehension's target: names of the block -/
structure WG (K : PySem.W.Frag) (vs : List Nat) (t : TG) (g : GF) : Prop where
  st : ∀ d ρ μ ρ' μ', g d ρ μ = some (ρ', μ') → μ' = μ
  go : ∀ (v : V) (σ : L2.St) (H : Hp) (Q : L2.St → Hp → Prop) (α : List Addr) (ρ : Sl) (μ : Sto) (d : D) (ρ' : Sl) (μ' : Sto), RepR K H α ρ σ → Rep K H α d v → g d ρ μ = some (ρ', μ') →
    (∀ σ2, wipe σ2 vs = wipe σ vs → RepR K H α ρ' σ2 → Q σ2 H) → t v σ H Q
structure WGs (K : PySem.W.Frag) (vs : List Nat) (t : TGs) (g : GsF) : Prop where
  st : ∀ d ρ μ ρ' μ', g d ρ μ = some (ρ', μ') → μ' = μ
  go : ∀ (v : List V) (σ : L2.St) (H : Hp) (Q : L2.St → Hp → Prop) (α : List Addr) (ρ : Sl) (μ : Sto) (d : List D) (ρ' : Sl) (μ' : Sto), RepR K H α ρ σ → Reps K H α d v → g d ρ μ = some (ρ', μ') →
    (∀ σ2, wipe σ2 vs = wipe σ vs → RepR K H α ρ' σ2 → Q σ2 H) → t v σ H Q
section
variable {K : PySem.W.Frag} {vs : List Nat}
theorem wg_name {i : Nat} (h : i ∈ vs) : WG K vs (gName i) (gNm i) := ⟨fun d ρ μ ρ' μ' e => by cases e; rfl, fun v σ H Q α ρ μ d ρ' μ' R r e k => by
  cases e
  exact k _ (wipe_set h) (R.set r i)⟩
theorem wgs_nil : WGs K vs gNil gNl := by
  refine ⟨fun d ρ μ ρ' μ' e => ?_, fun v σ H Q α ρ μ d ρ' μ' R r e k => ?_⟩
  all_goals
    unfold gNl at e
    split at e
  · cases e; rfl
  · cases e
  · cases e; exact ⟨r, k _ rfl R⟩
  · cases e
theorem wgs_cons {t : TG} {u : TGs} {g : GF} {gs : GsF} (h1 : WG K vs t g) (h2 : WGs K vs u gs) : WGs K vs (gCons t u) (gCn g gs) := by
  refine ⟨fun d ρ μ ρ' μ' e => ?_, fun v σ H Q α ρ μ d ρ' μ' R r e k => ?_⟩
  all_goals
    unfold gCn at e
    split at e
  · obtain ⟨⟨ρ1, μ1⟩, e1, e2⟩ := Option.bind_eq_some_iff.mp e
    rw [h2.st _ _ _ _ _ e2]
    exact h1.st _ _ _ _ _ e1
  · cases e
  · obtain ⟨⟨ρ1, μ1⟩, e1, e2⟩ := Option.bind_eq_some_iff.mp e
    obtain ⟨w, ws, rfl, r1, r2⟩ := r
    exact ⟨w, ws, rfl, h1.go w σ H _ α ρ μ _ ρ1 μ1 R r1 e1 fun σ2 w2 R2 => h2.go ws σ2 H _ α ρ1 μ1 _ ρ' μ' R2 r2 e2 fun σ3 w3 R3 => k σ3 (w3.trans w2) R3⟩
  · cases e
theorem wg_tup {u : TGs} {gs : GsF} {n : Nat} (h : WGs K vs u gs) : WG K vs (gTup K n u) (gTp n gs) := by
  refine ⟨fun d ρ μ ρ' μ' e => ?_, fun v σ H Q α ρ μ d ρ' μ' R r e k => ?_⟩
  all_goals
    unfold gTp at e
    split at e
  · split at e
    · exact h.st _ _ _ _ _ e
    · cases e
  · cases e
  · split at e
    · rename_i hl
      obtain ⟨a, xs, rfl, q, rr⟩ := r
      exact ⟨a, xs, rfl, q, by rw [← rr.length]; exact hl, h.go xs σ H _ α ρ μ _ ρ' μ' R rr e k⟩
    · cases e
  · cases e
end
/-! ### comprehensions -/
def fYes : TF := fun _ μ => some (true, μ)
theorem dts_nil {X : Cx} : PTs X [] (tT X.K fYes) := ⟨fun pins s σ H Q I ⟨α, ρ, μ, b, μ', S, R, e, k⟩ => by
  cases e
  exact pts_nil.run pins s σ H Q I (k H α Ext.refl S)⟩
theorem dts_one {X : Cx} {c : Expr} {f : TF} (h : PT X c (tT X.K f)) : PTs X [c] (tT X.K f) := pts_one h
def lcF (g : GF) (ft : TF) (fe : EF) (it : ItD) (n : Nat) (ρ : Sl) : Nat → Nat → Sto → Option Sto
  | 0, i, μ => match itAt it i μ with
    | some none => some μ
    | _ => none
  | m + 1, i, μ => match itAt it i μ with
    | some none => some μ
    | some (some d) => (g d ρ μ).bind fun p => (ft p.1 p.2).bind fun q => if q.1 = true then (fe p.1 q.2).bind fun r => match r.2[n]? with
        | some (.lst acc) => if acc.length < sizeLine then lcF g ft fe it n ρ m (i + 1) (r.2.set n (.lst (acc ++ [r.1]))) else none
        | _ => none
      else lcF g ft fe it n ρ m (i + 1) q.2
    | none => none
def fLc (fi : IF) (g : GF) (ft : TF) (fe : EF) (vs : List Nat) : EF := fun ρ μ => (fi ρ μ).bind fun p => (lcF g ft fe p.1 p.2.length (wipeD ρ vs) (itLen p.1 p.2) 0 (p.2 ++ [.lst []])).map fun μ' => (.loc p.2.length, μ')
theorem i_lc {K : PySem.W.Frag} {fi : IF} {t : TG} {g : GF} {ft : TF} {fe : EF} {vs : List Nat} (w : WG K vs t g) : ∀ σ H Q, tE K (fLc fi g ft fe vs) σ H Q → tLc (tI K fi) t (tT K ft) (tE K fe) vs σ H Q := by
  rintro σ H Q ⟨α, ρ, μ, d, μ', S, R, e, k⟩
  obtain ⟨⟨it, μ1⟩, e1, e2⟩ := Option.bind_eq_some_iff.mp e
  obtain ⟨μ2, e3, e4⟩ := Option.map_eq_some_iff.mp e2
  cases e4
  refine ⟨α, ρ, μ, it, μ1, S, R, e1, fun H1 α1 J E1 S1 h1 DD hD => ?_⟩
  have E2 : Ext K H1 α1 (upd H1 DD (.lst [])) (α1 ++ [DD]) := ext_new α1 [DD] hD
  have S2 : RepS K (upd H1 DD (.lst [])) (α1 ++ [DD]) (μ1 ++ [.lst []]) := S1.new hD ⟨[], upd_same, rfl⟩
  have hn : (α1 ++ [DD])[μ1.length]? = some DD := by rw [← S1.len]; simp
  refine ⟨fun i m H => ∃ α μ, RepS K H α μ ∧ Ext K (upd H1 DD (.lst [])) (α1 ++ [DD]) H α ∧ lcF g ft fe it μ1.length (wipeD ρ vs) m i μ = some μ', ⟨_, _, _, S2, Ext.refl, e3⟩, ?_⟩
  rintro i m H3 ⟨α3, μ3, S3, E3, e5⟩
  have n3 : α3[μ1.length]? = some DD := let ⟨_, p⟩ := E3.pre; pre_get p hn
  have h3 : ItR K H3 α3 it J := h1.up (E2.trans E3)
  have R3 : RepR K H3 α3 (wipeD ρ vs) (wipe σ vs) := (R.up (E1.trans (E2.trans E3))).wipe vs
  have fin : itAt it i μ3 = some none → μ3 = μ' → J.stop i H3 ∧ Q (.ref DD) H3 := fun q z => by
    subst z
    exact ⟨it_stop h3 S3 q, k H3 α3 _ (E1.trans (E2.trans E3)) S3 ⟨DD, rfl, n3⟩⟩
  cases m with
  | zero =>
    unfold lcF at e5
    split at e5
    · rename_i q
      exact .inl (fin q (Option.some.inj e5))
    · cases e5
  | succ m =>
    unfold lcF at e5
    split at e5
    · rename_i q
      exact .inl (fin q (Option.some.inj e5))
    · rename_i d q
      obtain ⟨g1, g2⟩ := it_go h3 S3 q
      obtain ⟨⟨ρ4, μ4⟩, e6, e7⟩ := Option.bind_eq_some_iff.mp e5
      obtain ⟨⟨b, μ5⟩, e8, e9⟩ := Option.bind_eq_some_iff.mp e7
      refine .inr ⟨g1, fun H => ∃ α μ, RepS K H α μ ∧ Ext K (upd H1 DD (.lst [])) (α1 ++ [DD]) H α ∧ lcF g ft fe it μ1.length (wipeD ρ vs) m (i + 1) μ = some μ', fun H' n => ⟨m, Nat.lt_succ_self m, n⟩, fun x H' y => ?_⟩
      obtain ⟨rfl, rx⟩ := g2 x H' y
      have hm : μ4 = μ3 := w.st _ _ _ _ _ e6
      refine w.go x _ _ _ α3 (wipeD ρ vs) μ3 d ρ4 μ4 R3 rx e6 fun σ4 w4 R4 => ⟨w4.trans (wipe_wipe σ vs), α3, ρ4, μ4, b, μ5, by rw [hm]; exact S3, R4, e8, fun H5 α5 E5 S5 => ?_⟩
      cases b with
      | false => exact ⟨α5, μ5, S5, E3.trans E5, e9⟩
      | true =>
        rw [if_pos rfl] at e9 ⊢
        obtain ⟨⟨z, μ6⟩, e10, e11⟩ := Option.bind_eq_some_iff.mp e9
        refine ⟨α5, ρ4, μ5, z, μ6, S5, R4.up E5, e10, fun H6 α6 v E6 S6 r6 => ?_⟩
        simp only at e11
        split at e11
        · rename_i acc q6
          split at e11
          · rename_i hl
            have n6 : α6[μ1.length]? = some DD := let ⟨_, p⟩ := (E5.trans E6).pre; pre_get p n3
            obtain ⟨xs, hx, rr⟩ := S6.ob _ _ _ n6 q6
            have nt := nt_lst hx
            exact ⟨xs, hx, by rw [← rr.length]; exact hl, α6, _, S6.write (ob := .lst (acc ++ [z])) n6 nt ⟨_, upd_same, (rr.append (Reps.one r6)).up (ext_write nt)⟩, E3.trans (E5.trans (E6.trans (ext_write nt))), e11⟩
          · cases e11
        · cases e11
    · cases e5
section
variable {X : Cx}
theorem de_lc {elt tg iter : Expr} {ifs : List Expr} {scope : Scope} {own : List (Str × Nat)} {pos : Pos} {fi : IF} {t : TG} {g : GF} {ft : TF} {fe : EF} (hc : X.calm = true) (hN : X.N.Nodup) (hi : PI X tg iter (tI X.K fi)) (ok : BlkOk X.N X.env.scope scope own)
    (hg : ∀ (s : Shared) (H : Hp) (C : Addr) (cl : List (Str × Addr)) (fp : List Addr), PG (X.blk s H scope (compEnvC scope cl C X.env) fp) tg t) (w : WG X.K (own.map (·.2)) t g)
    (ht : ∀ (s : Shared) (H : Hp) (C : Addr) (cl : List (Str × Addr)) (fp : List Addr), PTs (X.blk s H scope (compEnvC scope cl C X.env) fp) ifs (tT X.K ft))
    (he : ∀ (s : Shared) (H : Hp) (C : Addr) (cl : List (Str × Addr)) (fp : List Addr), PE (X.blk s H scope (compEnvC scope cl C X.env) fp) elt (tE X.K fe)) (hs : ∀ x, foldedSetIterable iter X.env x = pure x := by intro _; rfl) :
    PE X (.ListComp elt [⟨tg, iter, ifs, 0⟩] scope pos) (tE X.K (fLc fi g ft fe (own.map (·.2)))) := (pe_lc hc hN hi ok hg ht he hs).imp (i_lc w)
theorem ds_setLc {i : Nat} {y : Str} {py : Pos} {elt tg iter : Expr} {ifs : List Expr} {scope : Scope} {own : List (Str × Nat)} {pos spos : Pos} {fi : IF} {t : TG} {g : GF} {ft : TF} {fe : EF} (hc : X.calm = true) (hN : X.N.Nodup) (hy : X.N[i]? = some y) (hyl : X.env.scope.names.lookup y = some .local)
    (hsw : swapsWith (.ListComp elt [⟨tg, iter, ifs, 0⟩] scope pos) (some (.Name y py)) spos.line X.env = pure true) (hi : PI X tg iter (tI X.K fi)) (ok : BlkOk X.N X.env.scope scope own)
    (hg : ∀ (s : Shared) (H : Hp) (C : Addr) (cl : List (Str × Addr)) (fp : List Addr), PG (X.blk s H scope (compEnvC scope cl C X.env) fp) tg t) (w : WG X.K (own.map (·.2)) t g)
    (ht : ∀ (s : Shared) (H : Hp) (C : Addr) (cl : List (Str × Addr)) (fp : List Addr), PTs (X.blk s H scope (compEnvC scope cl C X.env) fp) ifs (tT X.K ft))
    (he : ∀ (s : Shared) (H : Hp) (C : Addr) (cl : List (Str × Addr)) (fp : List Addr), PE (X.blk s H scope (compEnvC scope cl C X.env) fp) elt (tE X.K fe)) (hs : ∀ x, foldedSetIterable iter X.env x = pure x := by intro _; rfl) :
    PS X (.Assign [.Name y py] (.ListComp elt [⟨tg, iter, ifs, 0⟩] scope pos) spos) (tS X.K (fAsg (fLc fi g ft fe (own.map (·.2))) (gNm i))) := by
  refine PS.imp (ps_setLc hc hN hy hyl hsw hi ok hg ht he hs) fun D σ H h => ?_
  obtain ⟨α, ρ, μ, d, μ', S, R, e, k⟩ := i_asg D σ H h
  exact i_lc w _ _ _ ⟨α, ρ, μ, d, μ', S, R, e, fun H' α' v E' S' r' => i_nm _ _ _ _ (k H' α' v E' S' r')⟩
end
/-! ### defs and their calls -/
def spF (K : PySem.W.Frag) (F : GN) : Sp := fun vs H Q _ => cD K F vs H Q
def fDef (n N : Nat) (b : SF) : GN := fun ds μ => if ds.length = n then match b (ds.map some ++ List.replicate (N - n) none) μ with
    | some (.rt d μ') => some (d, μ')
    | some (.nx _ μ') => some (.non, μ')
    | _ => none
  else none
theorem repR_start {K : PySem.W.Frag} {H : Hp} {α : List Addr} {ds : List D} {vs : List V} (r : Reps K H α ds vs) (m : Nat) : RepR K H α (ds.map some ++ List.replicate m none) (vs.map some ++ List.replicate m none) := by
  refine ⟨by simp [r.length], fun i d e => ?_⟩
  by_cases l : i < ds.length
  · rw [List.getElem?_append_left (by simpa using l)] at e
    rw [List.getElem?_append_left (by simpa [← r.length] using l)]
    rw [List.getElem?_map] at e ⊢
    obtain ⟨d', h1, h2⟩ := Option.map_eq_some_iff.mp e
    cases h2
    obtain ⟨v, h3, h4⟩ := r.get h1
    exact ⟨v, by rw [h3]; rfl, h4⟩
  · rw [List.getElem?_append_right (by simpa using l), List.getElem?_replicate] at e
    split at e <;> cases e
theorem body_run {K : PySem.W.Frag} {n : Nat} {N : List Str} {b : SF} {vs : List V} {H : Hp} {Q : VK} (h : cD K (fDef n N.length b) vs H Q) : vs.length = n ∧ tS K b { nx := fun _ H' => Q .non H', rt := Q } (L2.start N vs) H := by
  obtain ⟨α, μ, ds, d, μ', S, r, e, k⟩ := h
  unfold fDef at e
  split at e
  · rename_i hl
    refine ⟨by rw [← r.length]; exact hl, ?_⟩
    have R := repR_start r (N.length - n)
    have st : L2.start N vs = vs.map some ++ List.replicate (N.length - n) none := by unfold L2.start; rw [← r.length, hl]
    rw [st]
    split at e
    · rename_i d1 μ1 q
      cases e
      exact ⟨α, _, μ, _, S, R, q, k⟩
    · rename_i ρ1 μ1 q
      cases e
      exact ⟨α, _, μ, _, S, R, q, fun H' α' σ' E' S' R' => k H' α' _ E' S' rfl⟩
    · cases e
  · cases e
section
variable {P : Program} {w : World} {K : PySem.W.Frag} {mg : Str → Option Value} {base : Heap} {x qual : Str} {params : Arguments} {body : List Stmt} {scope : Scope} {dvs : List V} {kws : List (Str × V)} {f : Addr} {fd : FuncData}
/-- a def -/
theorem fn_dat {N ps : List Str} {k : Nat} {b : SF} (F : FunD K x qual params body scope dvs kws f fd) (S : FnScope N ps scope)
    (hb : ∀ (cdv : Value) (A : Around) (outer : List Env) (s : Shared) (H : Hp) (E : XK), Room k (A.deeper (envOfC qual scope s.heap.objs.size f cdv)) → PSs (cxOf CX0 P w K mg base N qual scope f cdv A outer s H E).nox body (tS K b)) :
    FnOk P w K mg base CX0 (k + 1) f fd ps (spF K (fDef ps.length N.length b)) :=
  F.ok S (fun vs H Q E h => (body_run (N := N) h).1) fun cdv A outer s H vs Q E hr h => ⟨tS K b, PSs.nox (hb cdv A outer s H E hr), (body_run (N := N) h).2⟩
end
section
variable {X : Cx} {k : Nat} {f : Addr} {fd : FuncData} {ps ks : List Str} {F : GN} {x : Str} {p pos : Pos} {e : Expr} {es : List Expr} {fa : AF}
theorem i_call {K : PySem.W.Frag} {E : XK} : ∀ σ H Q, tE K (fCB F fa) σ H Q → tCall (spF K F) [] E (tA K fa) σ H Q := by
  intro σ H Q h
  obtain ⟨α, ρ, μ, ds, μ', S, R, e, k⟩ := i_cb σ H Q h
  exact ⟨α, ρ, μ, ds, μ', S, R, e, fun H1 α1 vs E1 S1 r1 => by
    show spF K F (vs ++ []) H1 Q E
    rw [List.append_nil]
    exact k H1 α1 vs E1 S1 r1⟩
theorem de_call (Fk : FnOk X.prog X.w X.K X.mg X.base CX0 k f fd ps (spF X.K F)) (hr : Room k X.A) (hg : Gl X x) (hm : X.mg x = some (.ref f)) (hk : PySem.W.keepIn X.K (.ref f) = true) (hb : Binds X.K fd ps [])
    (ha : PA X (e :: es) (tA X.K fa)) (hdb : (x == ("__debug__" : Str)) = false := by decide) (he : starEach (e :: es) X.env = (false, eval e X.env) :: starEach es X.env := by rfl) (hpl : (backTo pos (starEach es X.env)).any (·.1) = false := by rfl) :
    PE X (.Call (.Name x p) (e :: es) [] pos) (tE X.K (fCB F fa)) := (pe_call (E := E0) (dvs := []) (ds := []) Fk hr hg hm hk hb .nil pass0 ha hdb he hpl).imp i_call
end
end DL
/-! exceptions that are held as values -/
namespace PySem
namespace VkX
section
variable {M : Model} {A : Around} {E : Value → Shared → Prop} {h : Heap} {g : Array GenState} {d : Drawn} {t : Nat} {os : OsState}
variable {nm q : Str} {C N : Addr} {bs bm bmB : List Value} {hdct : Bool} {sn : List Str} {sub : List Value} {ab : Bool} {col : Option Bool} {dd : Option Addr} {k0 k1 k2 k3 k5 : Option Value} {B newId initId : String}
theorem chk_new (F : ExcBaseFacts B newId initId bmB) (hT : ∀ Y : String, bm.contains (.type Y) = bmB.contains (.type Y)) {us : List Value} {kw : List (Str × Value)} {Q : Unit → Shared → Prop}
    (hC : h.get? C = some (excClassObj nm q C N bs bm hdct sn sub ab col dd k0 k1 k2 k3 k5 newId)) (hq : Q () ⟨h, g, d, t, os⟩) :
    wpAny M A (checkBuiltinCall newId ⟨.ref C :: us, kw⟩) Q E ⟨h, g, d, t, os⟩ := by
  have c1 : (Value.ref C :: bm).contains (.type B) = true := by
    rw [List.contains_cons, hT, F.hasB]
    exact Bool.or_true _
  have c2 := F.noStar
  simp only [checkBuiltinCall, F.newKind, F.newSplit, F.newRow]
  repeat (first
    | refine wpAny_loadPart_at hC ?_
    | (refine wpAny_isSubtype_exc hC ?_
       rw [c1])
    | refine wpAny_staticBase_exc hC ?_
    | refine wpAny_madeBy_exc hC ?_
    | simp only [bne_self_eq_false, Bool.false_eq_true, if_false]
    | wp_step)
  exact hq
end
section
variable {prog : Program} {w : World} {A : Around} {E : Value → Shared → Prop} {R : Result → Shared → Prop} {h : Heap} {g : Array GenState} {d : Drawn} {t : Nat} {os : OsState}
variable {nm q : Str} {C N : Addr} {bs bm bmB : List Value} {hdct : Bool} {sn : List Str} {sub : List Value} {ab : Bool} {col : Option Bool} {dd : Option Addr} {k0 k1 k2 k3 k5 : Option Value} {B newId initId : String}
theorem mk_new (F : ExcBaseFacts B newId initId bmB) (hT : ∀ Y : String, bm.contains (.type Y) = bmB.contains (.type Y)) {us : List Value} {kw : List (Str × Value)}
    (hC : h.get? C = some (excClassObj nm q C N bs bm hdct sn sub ab col dd k0 k1 k2 k3 k5 newId)) (hz : us.length ≤ sizeLine)
    (hq : R (.ok (.ret (.ref (h.objs.size + 1)))) ⟨(h.push (PySem.W.kdv_tup us)).push (PySem.HandSPX.excO C h.objs.size), g, d, t, os⟩) :
    codeAny (model prog w) A (.builtin newId ⟨.ref C :: us, kw⟩) R ⟨h, g, d, t, os⟩ := by
  have e1 := F.ends
  have e2 : (Value.ref C :: bm).contains (.type B) = true := by
    rw [List.contains_cons, hT, F.hasB]
    exact Bool.or_true _
  have e3 : (Value.ref C :: bm).contains (.type "AttributeError") = false := by
    rw [List.contains_cons, hT, F.noAttr]
    rfl
  have e4 : (Value.ref C :: bm).contains (.type "NameError") = false := by
    rw [List.contains_cons, hT, F.noName]
    rfl
  refine codeAny_builtinAt F.entry ?_
  unfold Builtin.«BaseException.__new__»
  refine wpAt_bind ?_
  show wpAt _ _ _ (stack >>= _) _ _ _
  refine wpAt_bind (wpAt_stack fun p below => wpAt_of_wpAny ?_)
  wp_walk
  refine wpAt_of_wpAny ?_
  rw [F.owner]
  repeat (first
    | with_reducible refine wpAny_madeHere_exc F.canon hC ?_
    | with_reducible refine wpAny_loadPart_at hC ?_
    | (with_reducible refine wpAny_isSubtype_exc hC ?_
       first
       | rw [e2]
       | rw [e3]
       | rw [e4])
    | wp_step)
  show R _ _
  rw [Heap.size_push]
  exact hq
theorem tc_new (F : ExcBaseFacts B newId initId bmB) (hT : ∀ Y : String, bm.contains (.type Y) = bmB.contains (.type Y)) {us : List Value} {kw : List (Str × Value)} {fI : Addr} {Q : Fin → Shared → Prop}
    (hC : h.get? C = some (excClassObj nm q C N bs bm hdct sn sub ab col dd k0 k1 k2 k3 k5 newId)) (hz : us.length ≤ sizeLine)
    (hi : W.Looks (model prog w) h (typeLookup (.ref C) "__init__") (some (.ref fI))) (hb : ∀ self, W.Looks (model prog w) h (bindSpecial (.ref fI) self) (.ref fI, [self]))
    (hq : codeAny (model prog w) A (.call (.ref fI) ⟨.ref (h.objs.size + 1) :: us, kw⟩)
      (fun r s' => match r with | .ok (.ret v) => v = .none ∧ Q (.done (.ret (.ref (h.objs.size + 1)))) s' | .ok _ => False | .error e => E e s')
      ⟨(h.push (W.kdv_tup us)).push (HandSPX.excO C h.objs.size), g, d, t, os⟩) :
    wpAny (model prog w) A (Builtin.«type.__call__» ⟨.ref C :: us, kw⟩) Q E ⟨h, g, d, t, os⟩ := by
  repeat (first
    | with_reducible refine wpAny_loadPart_at hC ?_
    | with_reducible refine wpAny_madeBy_exc hC ?_
    | wp_step)
  refine codeAny_call_builtin_code (Code.quiet_builtin _ F.quiet) (chk_new F hT hC ?_)
  refine mk_new F hT hC hz ?_
  show wpAny _ _ _ _ _ _
  have kk : ∀ b o, h.get? b = some o → ((h.push (W.kdv_tup us)).push (HandSPX.excO C h.objs.size)).get? b = some o := fun b o z => Heap.get?_push_of_some _ (Heap.get?_push_of_some _ z)
  have c1 := kk _ _ hC
  have c2 : ((h.push (W.kdv_tup us)).push (HandSPX.excO C h.objs.size)).get? (h.objs.size + 1) = some (HandSPX.excO C h.objs.size) := by heap_get
  have c3 : (Value.ref C :: bm).contains (.ref C) = true := by simp
  have c4 := hi.keeps kk
  have c5 := (hb (.ref (h.objs.size + 1))).keeps kk
  unfold isInstance
  repeat (first
    | with_reducible refine wpAny_loadPart_at c2 ?_
    | (with_reducible refine wpAny_isSubtype_exc c1 ?_
       rw [c3])
    | wp_step)
  show wpAny _ _ (typeLookup (.ref C) _) _ _ _
  refine c4.at ?_
  refine wpAny_holding (wpAny_bind (c5.at ?_))
  refine wpAny_bind (wpAny_call (codeAny_mono hq fun r s' z => ?_))
  cases r with
  | error e => exact z
  | ok fl =>
    cases fl with
    | ret v =>
      obtain ⟨rfl, z⟩ := z
      first
      | exact wpAny_pure (wpAny_pure z)
      | (wp_walk
         exact z)
    | next => exact z.elim
    | brk => exact z.elim
    | cont => exact z.elim
theorem call_new (F : ExcBaseFacts B newId initId bmB) (hT : ∀ Y : String, bm.contains (.type Y) = bmB.contains (.type Y)) {us : List Value} {kw : List (Str × Value)} {fI : Addr}
    (hC : h.get? C = some (excClassObj nm q C N bs bm hdct sn sub ab col dd k0 k1 k2 k3 k5 newId)) (hz : us.length ≤ sizeLine)
    (hi : W.Looks (model prog w) h (typeLookup (.ref C) "__init__") (some (.ref fI))) (hb : ∀ self, W.Looks (model prog w) h (bindSpecial (.ref fI) self) (.ref fI, [self]))
    (hq : codeAny (model prog w) (A.under (.builtin "type.__call__" ⟨.ref C :: us, kw⟩)) (.call (.ref fI) ⟨.ref (h.objs.size + 1) :: us, kw⟩) (W.InitBack (h.objs.size + 1) R)
      ⟨(h.push (W.kdv_tup us)).push (HandSPX.excO C h.objs.size), g, d, t, os⟩) :
    codeAny (model prog w) A (.call (.ref C) ⟨us, kw⟩) R ⟨h, g, d, t, os⟩ := by
  have f1 := tc_lookup
  have f2 := tc_bind (.ref C)
  have ty : (⟨h, g, d, t, os⟩ : Shared).TypeIs (.ref C) "type" := ⟨_, hC, rfl⟩
  refine codeAny_of_tree ?_
  show wpAny _ _ (callAny (.ref C) _) _ _ _
  repeat (any_goals (first
    | assumption
    | with_reducible refine wpAny_loadPart_at hC ?_
    | wp_step))
  refine ⟨rfl, ?_⟩
  refine codeAny_call_builtin_at (Code.quiet_builtin _ (by decide +kernel)) entry_typeCall (wpAny_check_type_call_sub hC (tc_new F hT hC hz hi hb ?_))
  refine codeAny_mono hq fun r s' z => ?_
  cases r with
  | error e => exact z
  | ok fl =>
    cases fl with
    | ret v => exact z
    | next => exact z
    | brk => exact z
    | cont => exact z
end
end VkX
end PySem
namespace Vk
open PySem PySem.Spec PyProof.Rows L2
/-! ### an exception that is held: at a, of the class at C; with its own dict or without one -/
def Held (H : Hp) (a C : Addr) : Prop := H a = some (exo a C none) ∨ ∃ (d : Addr) (fs : List (Str × V)), H a = some (exo a C (some d)) ∧ H d = some (exd d fs)
/-- .. with the field f, worth v -/
def HeldF (H : Hp) (a C : Addr) (f : Str) (v : V) : Prop := ∃ d : Addr, H a = some (exo a C (some d)) ∧ H d = some (exd d [(f, v)])
theorem HeldF.held {H : Hp} {a C : Addr} {f : Str} {v : V} (x : HeldF H a C f v) : Held H a C := let ⟨d, h1, h2⟩ := x; .inr ⟨d, _, h1, h2⟩
theorem Held.same {H H' : Hp} {a C : Addr} (s : Same H H') (x : Held H a C) : Held H' a C := by
  rcases x with x | ⟨d, fs, x, y⟩
  · exact .inl (s _ _ x)
  · exact .inr ⟨d, fs, s _ _ x, s _ _ y⟩
theorem HeldF.same {H H' : Hp} {a C : Addr} {f : Str} {v : V} (s : Same H H') (x : HeldF H a C f v) : HeldF H' a C f v := let ⟨d, h1, h2⟩ := x; ⟨d, s _ _ h1, s _ _ h2⟩
/-- what the written part tells of the class, so that its instances are asked and read rightly -/
structure ExK (K : PySem.W.Frag) (C : Addr) : Prop where
  ic : (PySem.W.clsIn K C).isSome = true
  ga : PySem.W.findIn K (.ref C) "__getattribute__" = some (some (.builtin "BaseException.__getattribute__"))
  gg : PySem.W.findIn K (.ref C) "__getattr__" = some none
  be : PySem.W.subIn K (.ref C) (.type "BaseException") = some true
  hd : PySem.W.hasDictIn K C = true
  ca : PySem.W.findIn K (.ref C) "__class__" = some (some (.builtin "object.__class__"))
  cg : PySem.W.specialIn K (.builtin "object.__class__") "__get__" = some (some (.builtin "getset_descriptor.__get__"))
  ct : PySem.W.takesIn K (.builtin "object.__class__") = some true
  mo : PySem.W.mroIn K C (.type "object") = some true
section
variable {X : Cx} {pins : List (Addr × Obj)} {σ : L2.St} {H : Hp} {s : Shared} {a C : Addr}
theorem held_at (I : Inv X pins σ H s) (x : Held H a C) : ∃ ox od, PySem.W.InstAt s.heap a ox C od := by
  rcases x with x | ⟨d, fs, x, y⟩
  · obtain ⟨t1, ho⟩ := exo_at I.hok x
    exact ⟨_, none, ⟨ho, rfl, rfl, trivial⟩⟩
  · obtain ⟨t1, ho⟩ := exo_at I.hok x
    obtain ⟨mA, hn, _⟩ := exd_at I.hok y
    obtain ⟨o, _, _, e, _⟩ := hn
    exact ⟨_, some o, ⟨ho, rfl, rfl, e⟩⟩
/-- isinstance(e, c) of such an exception, c one class -/
def rHas (K : PySem.W.Frag) : List V → Hp → VK → Prop := fun xs H Q => ∃ (a C : Addr) (c : V) (u : Value) (b : Bool), xs = [.ref a, c] ∧ Held H a C ∧ ExK K C ∧ ClsV c u ∧ PySem.W.kitOne K (.ref C) u = some b ∧ Q (.bl b) H
theorem call_has : CallR X (.builtin "isinstance") (rHas X.K) := by
  intro pins s σ H xs us Q I r h
  obtain ⟨a, C, c, u, b, rfl, hh, T, k, e, q⟩ := h
  obtain ⟨u1, u2, rfl, r1, r2⟩ := vals2 r
  have e2 := k.eq r2
  subst e2
  obtain rfl : u1 = Value.ref a := r1
  obtain ⟨ox, od, J⟩ := held_at I hh
  exact PySem.W.kia_one (PySem.W.kitx_exc T.ic T.ga T.gg T.be T.ca T.cg T.ct T.mo) I.kIn J e (fun z => nomatch z) fun tk => ⟨.bl b, H, I.tok tk, rfl, q⟩
/-- .. a tuple of classes, just laid -/
def rHasT (K : PySem.W.Frag) : List V → Hp → VK → Prop := fun xs H Q => ∃ (a C tp : Addr) (cs : List V) (us : List Value) (b : Bool), xs = [.ref a, .ref tp] ∧ Held H a C ∧ ExK K C ∧ H tp = some (.tup cs) ∧ Paired ClsV cs us ∧ PySem.W.kitAny K (.ref C) us = some b ∧ Q (.bl b) H
theorem call_hasT : CallR X (.builtin "isinstance") (rHasT X.K) := by
  intro pins s σ H xs us Q I r h
  obtain ⟨a, C, tp, cs, ws, b, rfl, hh, T, hT, k, e, q⟩ := h
  obtain ⟨u1, u2, rfl, r1, r2⟩ := vals2 r
  obtain rfl : u2 = Value.ref tp := r2
  obtain rfl : u1 = Value.ref a := r1
  obtain ⟨ox, od, J⟩ := held_at I hh
  obtain ⟨_, its, rv, o, h1, h2, n, h3⟩ := (show ObjOk X.prog X.w H s.heap tp (.tup cs) from I.hok tp _ hT)
  have e3 := ClsV.all k rv
  subst e3
  obtain ⟨oc, oe, dt, sl⟩ := o
  simp only at h2 h3
  subst h2 h3
  exact PySem.W.kia_tup (PySem.W.kitx_exc T.ic T.ga T.gg T.be T.ca T.cg T.ct T.mo) I.kIn J h1 e (fun z => nomatch z) fun tk => ⟨.bl b, H, I.tok tk, rfl, q⟩
/-- e.f of such an exception -/
def tHeldF (K : PySem.W.Frag) (f : Str) (te : TE) : TE := fun σ H Q => te σ H fun x H1 => ∃ (a C : Addr) (v : V), x = .ref a ∧ HeldF H1 a C f v ∧ ExK K C ∧ PySem.W.findIn K (.ref C) f = some none ∧ Q v H1
theorem pe_heldF {e : Expr} {te : TE} {pos : Pos} {f : Str} (he : PE X e te) (hb : attributeBase e f X.env (eval e X.env) = eval e X.env := by rfl) : PE X (.Attribute e f pos) (tHeldF X.K f te) := by
  refine ⟨fun pins s σ H Q I h => ?_⟩
  refine attr_of hb (thn (he.run pins s σ H _ I h) fun u s1 hh => ?_)
  obtain ⟨x, H1, I1, rx, a, C, v, ex, ⟨d, x1, x2⟩, T, hno, q⟩ := hh
  subst ex
  obtain rfl : u = Value.ref a := rx
  obtain ⟨t1, ho⟩ := exo_at I1.hok x1
  obtain ⟨mA, hns, hr⟩ := exd_at I1.hok x2
  obtain ⟨od, hod, hl⟩ := lookIn_ns hns
  have l : List.lookup f [(f, v)] = some v := by simp [List.lookup]
  obtain ⟨u, hu, ru⟩ := RelO.some_of (v := v) (o := mA f) (by rw [← l]; exact hr f)
  exact PySem.HandSPX.exc_get I1.kIn (od := some od) ⟨ho, rfl, rfl, hod⟩ T.ga T.gg T.be (PySem.W.findObj_own T.hd hno rfl (by rw [hl, hu])) (handed_of ru) ⟨v, H1, I1.tok _, ru, q⟩
end
end Vk
namespace Vk
open PySem PySem.Spec PyProof.Rows L2
/-! ### __init__ of such a class: the base's by its name, then one field -/
def iA (n : Str) (p1 p2 : Pos) : Arguments := { posonlyargs := [], args := [{ arg := "self", annotation := none, pos := p1 }, { arg := n, annotation := none, pos := p2 }], vararg := none, kwonlyargs := [], kw_defaults := [], kwarg := none, defaults := [] }
def iB (n tx : Str) (q1 q2 q3 q4 q5 q6 q7 q8 q9 q10 : Pos) : List Stmt :=
  [.Expr (.Call (.Attribute (.Name "BandError" q1) "__init__" q2) [.Name "self" q3, .Constant (.str tx) 0 q4] [] q5) q6, .Assign [.Attribute (.Name "self" q7) n q8] (.Name n q9) q10]
def iS (n : Str) : Scope := { kind := .function, names := [(PySem.Str.ofString "self", .local), (n, .local), (PySem.Str.ofString "BandError", .globalImplicit)], isGenerator := false, isCoroutine := false, more := [] }
/-- the base's __init__ is ValueError's, read off the class BandError at B -/
structure BaseI (K : PySem.W.Frag) (mg : Str → Option Value) (B : Addr) (mc : Value) : Prop where
  g : mg "BandError" = some (.ref B)
  rd : PySem.W.readsIn K B mc = true
  ga : PySem.W.specialIn K (.ref B) "__getattribute__" = some (some (.builtin "type.__getattribute__"))
  at_ : PySem.W.findCls K (.ref B) mc "__init__" = some (.val (.builtin "ValueError.__init__"))
theorem eval_line {x : Str} {p0 : Pos} {m : Str} {apos pos : Pos} {env : Env} {es : List Expr} (hf : methodCallForm (es.length + 0) (backTo pos (starEach es env)) (backToKw pos (keywordEach [] env)) = true) (hl : (apos.endLine == pos.line) = true) :
    eval (.Call (.Attribute (.Name x p0) m apos) es [] pos) env = (do
      let ov ← eval (.Name x p0) env
      standAt apos.atName
      let (f, first) ← holding [ov] (getMethod ov m (plainOf (.Name x p0) env))
      callWith pos f first (backTo pos (starEach es env)) (backToKw pos (keywordEach [] env))) := by
  show (do
      let ov ← eval (.Name x p0) env
      standAt apos.atName
      methodCall (.Name x p0) m apos pos env ov (es.length + 0) (backTo pos (starEach es env)) (backToKw pos (keywordEach [] env))) = _
  congr 1
  funext ov
  congr 1
  funext _
  exact mcall_line hf hl
section
variable {X : Cx} {e : Expr} {es : List Expr} {ta : TA} {p1 p2 pos : Pos}
theorem pe_baseI {pl : Sem Bool} {B : Addr} {mc : Value} (T : BaseI X.K X.mg B mc) (hg : Gl X "BandError") (ha : PA X (e :: es) ta)
    (hc : eval (.Call (.Attribute (.Name "BandError" p1) "__init__" p2) (e :: es) [] pos) X.env = (do
      let ov ← eval (.Name "BandError" p1) X.env
      standAt p2.atName
      let (f, first) ← holding [ov] (getMethod ov "__init__" pl)
      callWith pos f first (backTo pos (starEach (e :: es) X.env)) (backToKw pos (keywordEach [] X.env))) := by rfl)
    (he : starEach (e :: es) X.env = (false, eval e X.env) :: starEach es X.env := by rfl) (hpl : (backTo pos (starEach es X.env)).any (·.1) = false := by rfl) :
    PE X (.Call (.Attribute (.Name "BandError" p1) "__init__" p2) (e :: es) [] pos) (tVeI X.K ta) := by
  refine ⟨fun pins s σ H Q I h => ?_⟩
  refine PySem.W.methodCall_KW (ld_glob I hg T.g ?_) hc
  refine PySem.W.method_cls I.kIn T.ga (PySem.W.cls_value I.kIn T.rd T.at_ rfl ?_)
  show wpAny _ _ (callWith pos (Value.builtin "ValueError.__init__") [] (backTo pos (starEach (e :: es) X.env)) []) _ _ _
  refine PyProof.Rows.callWith_method1 (thn (ha.run pos pins _ σ H _ (I.tok _) h) fun us s1 hh => ?_) he hpl
  obtain ⟨vs, H1, I1, r1, a, C, ws, ev, hl, T1, ea, q⟩ := hh
  subst ev
  cases r1 with
  | @cons _ u0 _ ur ra rw' =>
    obtain rfl : u0 = Value.ref a := ra
    have hlen : ur.length ≤ sizeLine := by
      have e1 := Paired.length rw'
      rw [sizeLine_eq]
      omega
    exact oinit_ok T1 I1 ea hlen fun s' J => ⟨.non, H1, J, rfl, q⟩
end
/-- __init__'s promise: the field is stored, the exception is the same one -/
def spI (K : PySem.W.Frag) (n : Str) : Sp := fun vs H Q _ => ∃ (a C : Addr) (v : V), vs = [.ref a, v] ∧ H a = some (exo a C none) ∧ OexC K C ∧ PySem.W.findIn K (.ref C) n = some none ∧
  ∀ d, H d = none → d ≠ a → Q .non (upd (upd H d (exd d [(n, v)])) a (exo a C (some d)))
section
variable {P : Program} {w : World} {K : PySem.W.Frag} {mg : Str → Option Value} {base : Heap} {f B : Addr} {fd : FuncData} {mc : Value}
theorem ok_init {n tx q : Str} {p1 p2 q1 q2 q3 q4 q5 q6 q7 q8 q9 q10 : Pos} (hl : (q2.endLine == q5.line) = true) (hn : n = "given" ∨ n = "index") (F : FunD K "__init__" q (iA n p1 p2) (iB n tx q1 q2 q3 q4 q5 q6 q7 q8 q9 q10) (iS n) [] [] f fd) (T : BaseI K mg B mc) :
    FnOk P w K mg base CX0 1 f fd [("self" : Str), n] (spI K n) := by
  rcases hn with rfl | rfl
  all_goals
    refine F.ok (N := ["self", _]) ⟨rfl, rfl, rfl, by decide +kernel, rfl, by decide +kernel, by decide +kernel⟩ (fun vs H Q E h => ?_) (fun cdv A outer s H vs Q E hr h => ⟨_, PSs.nox (pss_cons (ps_expr (pe_baseI T rfl (pa_cons (pv 0) (pa_cons pe_str pa_nil)) (eval_line rfl hl))) (pss_one (ps_ost (pv 0) (pv 1)))), ?_⟩)
    · obtain ⟨a, C, v, rfl, _⟩ := h
      rfl
    · obtain ⟨a, C, v, rfl, ha, T1, hno, k⟩ := h
      refine ⟨_, rfl, a, C, _, rfl, (show 1 ≤ 1000 by decide), T1, ha, ?_⟩
      exact ⟨_, rfl, _, rfl, a, C, rfl, T1, hno, .inl ⟨ha, k⟩⟩
theorem binds_init {n tx q : Str} {p1 p2 q1 q2 q3 q4 q5 q6 q7 q8 q9 q10 : Pos} (hn : n = "given" ∨ n = "index") (F : FunD K "__init__" q (iA n p1 p2) (iB n tx q1 q2 q3 q4 q5 q6 q7 q8 q9 q10) (iS n) [] [] f fd) (s : Shared) (u v : Value) :
    BindsTo s fd ⟨[u, v], []⟩ ([("self" : Str), n].zip [u, v]) ∧ BindsTo s fd ⟨[u], [(n, v)]⟩ ([("self" : Str), n].zip [u, v]) := by
  obtain ⟨oc, od, dV, kV, doc, pm, an, cdv, ct, osl, rfl, lk, hcd, hD, hK⟩ := F.ex
  rcases hD with ⟨_, rfl⟩ | ⟨e, _⟩
  · rcases hn with rfl | rfl
    · exact ⟨.of_eq rfl, .of_eq rfl⟩
    · exact ⟨.of_eq rfl, .of_eq rfl⟩
  · exact absurd rfl e
end
/-- a class whose __init__ keeps such a promise -/
structure ExI (P : Program) (w : World) (K : PySem.W.Frag) (mg : Str → Option Value) (base : Heap) (x n : Str) (C : Addr) : Prop where
  g : mg x = some (.ref C)
  o : OexC K C
  no : PySem.W.findIn K (.ref C) n = some none
  ex : ∃ (fI : Addr) (fd : FuncData), PySem.W.findIn K (.ref C) "__init__" = some (some (.ref fI)) ∧ PySem.W.typeIn K (.ref fI) = some (.type "function") ∧ FnOk P w K mg base CX0 1 fI fd [("self" : Str), n] (spI K n) ∧
    ∀ (s : Shared) (u v : Value), BindsTo s fd ⟨[u, v], []⟩ ([("self" : Str), n].zip [u, v]) ∧ BindsTo s fd ⟨[u], [(n, v)]⟩ ([("self" : Str), n].zip [u, v])
section
variable {X : Cx} {pins : List (Addr × Obj)} {σ : L2.St} {H : Hp} {s : Shared} {x n : Str} {C : Addr}
/-- C(v), C(n = v): a new exception that holds v -/
theorem run_held {us : List Value} {kw : List (Str × Value)} {v : V} {u : Value} {Q : VK} (T : ExI X.prog X.w X.K X.mg X.base x n C) (hr : Room 2 X.A) (hs : (us = [u] ∧ kw = []) ∨ (us = [] ∧ kw = [(n, u)])) (I : Inv X pins σ H s) (r : RelV v u)
    (h : ∀ a d, H a = none → H d = none → d ≠ a → Q (.ref a) (upd (upd H d (exd d [(n, v)])) a (exo a C (some d)))) : wpAny (model X.prog X.w) X.A (call (.ref C) us kw) (EP X pins σ Q) X.xe s := by
  obtain ⟨fI, fd, i1, i2, G, hb⟩ := T.ex
  obtain ⟨nm, q, N, bs, bm, sn, sub, ab, col, dd, k0, k1, k2, k3, k5, hC, hbm⟩ := T.o.cls
  have hus : us.length ≤ sizeLine := by
    rw [sizeLine_eq]
    rcases hs with ⟨rfl, _⟩ | ⟨rfl, _⟩
    · exact (by decide : 1 ≤ 16777216)
    · exact (by decide : 0 ≤ 16777216)
  obtain ⟨hp, g, dr, tk, os⟩ := s
  have hsz : hp.objs.size ≤ hp.objs.size + 1 := Nat.le_succ _
  have na : H (hp.objs.size + 1) = none := I.hok.fresh hsz
  have kk : ∀ b o, hp.get? b = some o → ((hp.push (PySem.W.kdv_tup us)).push (PySem.HandSPX.excO C hp.objs.size)).get? b = some o := fun b o e => Heap.get?_push_of_some _ (Heap.get?_push_of_some _ e)
  have hget : ((hp.push (PySem.W.kdv_tup us)).push (PySem.HandSPX.excO C hp.objs.size)).get? (hp.objs.size + 1) = some (PySem.HandSPX.excO C hp.objs.size) := by heap_get
  have I2 : Inv X pins σ (upd H (hp.objs.size + 1) (exo (hp.objs.size + 1) C none)) ⟨(hp.push (PySem.W.kdv_tup us)).push (PySem.HandSPX.excO C hp.objs.size), g, dr, tk, os⟩ :=
    I.laid (t' := tk) (a := hp.objs.size + 1) (o := exo (hp.objs.size + 1) C none) (h' := (hp.push (PySem.W.kdv_tup us)).push (PySem.HandSPX.excO C hp.objs.size)) kk hsz (exo_ok hget)
  have hq : spI X.K n [.ref (hp.objs.size + 1), v] (upd H (hp.objs.size + 1) (exo (hp.objs.size + 1) C none)) (fun z H2 => z = .non ∧ Q (.ref (hp.objs.size + 1)) H2) (fun _ _ _ => False) := by
    refine ⟨hp.objs.size + 1, C, v, rfl, upd_same, T.o, T.no, fun d hd hne => ⟨rfl, ?_⟩⟩
    have hd0 : H d = none := by
      rw [upd_ne hne] at hd
      exact hd
    have e : upd (upd (upd H (hp.objs.size + 1) (exo (hp.objs.size + 1) C none)) d (exd d [(n, v)])) (hp.objs.size + 1) (exo (hp.objs.size + 1) C (some d)) = upd (upd H d (exd d [(n, v)])) (hp.objs.size + 1) (exo (hp.objs.size + 1) C (some d)) := by
      funext b
      by_cases h1 : b = hp.objs.size + 1
      · rw [h1, upd_same, upd_same]
      · rw [upd_ne h1, upd_ne h1]
        by_cases h2 : b = d
        · rw [h2, upd_same, upd_same]
        · rw [upd_ne h2, upd_ne h2, upd_ne h1]
    rw [e]
    exact h _ d na hd0 hne
  have hbind : BindsTo ⟨(hp.push (PySem.W.kdv_tup us)).push (PySem.HandSPX.excO C hp.objs.size), g, dr, tk, os⟩ fd ⟨Value.ref (hp.objs.size + 1) :: us, kw⟩ ([("self" : Str), n].zip [Value.ref (hp.objs.size + 1), u]) := by
    rcases hs with ⟨rfl, rfl⟩ | ⟨rfl, rfl⟩
    · exact (hb _ _ u).1
    · exact (hb _ _ u).2
  refine wpAny_call (PySem.VkX.call_new F.excBase_ValueError (fun Y => PySem.HandSPX.refsVE_contains Y bm hbm) (I.kIn _ _ hC) hus (PySem.W.looks_findIn I.kIn i1) (fun self => PySem.W.bind_fn I.kIn self i2)
    (codeAny_mono (G.run _ X.stack _ _ ⟨Value.ref (hp.objs.size + 1) :: us, kw⟩ [Value.ref (hp.objs.size + 1), u] [V.ref (hp.objs.size + 1), v] _ (fun _ _ _ => False) ((hr.make C us kw).mono (by decide)) (I2.env0.make C us kw) hbind (.cons rfl (.cons r .nil)) hq) fun rr s' hq' => ?_))
  cases rr with
  | error er => exact hq'.elim
  | ok fl =>
    cases fl with
    | ret y =>
      obtain ⟨z, H2, I3, rz, ez, q3⟩ := I2.after hq'
      subst ez
      exact ⟨rz, ⟨V.ref (hp.objs.size + 1), H2, I3, rfl, q3⟩⟩
    | next => exact False.elim hq'
    | brk => exact False.elim hq'
    | cont => exact False.elim hq'
def tHold (C : Addr) (n : Str) (te : TE) : TE := fun σ H Q => te σ H fun v H1 => ∀ a d, H1 a = none → H1 d = none → d ≠ a → Q (.ref a) (upd (upd H1 d (exd d [(n, v)])) a (exo a C (some d)))
theorem pe_hold {e : Expr} {te : TE} {p pos : Pos} (T : ExI X.prog X.w X.K X.mg X.base x n C) (hr : Room 2 X.A) (he : PE X e te) (hg : Gl X x := by rfl) (hdb : (x == ("__debug__" : Str)) = false := by decide)
    (hs : starEach (e :: []) X.env = (false, eval e X.env) :: starEach [] X.env := by rfl) (hpl : (backTo pos (starEach [] X.env)).any (·.1) = false := by rfl) :
    PE X (.Call (.Name x p) [e] [] pos) (tHold C n te) := by
  refine ⟨fun pins s σ H Q I h => ?_⟩
  refine wpAny_Call_Name_kw (ld_glob I hg T.g ?_ hdb)
  refine PySem.W.callWith_K (h₀ := X.base) I.ok.mod.kin T.o.kC ?_ hs hpl
  rw [hs]
  refine PySem.Calls.spliced_cons (thn (he.run pins s σ H _ I h) fun u s1 hh => ?_)
  obtain ⟨v, H1, I1, r1, q1⟩ := hh
  exact PySem.Calls.spliced_nil ⟨I1.kIn, run_held T hr (.inl ⟨rfl, rfl⟩) I1 r1 q1⟩
theorem pe_holdK {e : Expr} {te : TE} {p kpos pos : Pos} (T : ExI X.prog X.w X.K X.mg X.base x n C) (hr : Room 2 X.A) (he : PE X e te) (hg : Gl X x := by rfl) (hdb : (x == ("__debug__" : Str)) = false := by decide)
    (hall : (backToKw pos (keywordEach [⟨some n, e, kpos⟩] X.env)).all (·.1.isSome) = true := by rfl) (hks : (backToKw pos (keywordEach [⟨some n, e, kpos⟩] X.env)).filterMap (·.1) = [n] := by rfl)
    (hpl : ((backTo pos (starEach [] X.env)).any (·.1) || (backToKw pos (keywordEach [⟨some n, e, kpos⟩] X.env)).any (·.1.isNone)) = false := by rfl) :
    PE X (.Call (.Name x p) [] [⟨some n, e, kpos⟩] pos) (tHold C n te) := by
  refine ⟨fun pins s σ H Q I h => ?_⟩
  refine wpAny_Call_Name_kw (ld_glob I hg T.g ?_ hdb)
  refine PySem.W.callWith_KW0 (h₀ := X.base) I.ok.mod.kin T.o.kC hall ?_ hpl
  refine thn ((pk_cons he pk_nil).run pos pins s σ H (fun zs H2 => match zs with | [v] => ∀ a d, H2 a = none → H2 d = none → d ≠ a → Q (.ref a) (upd (upd H2 d (exd d [(n, v)])) a (exo a C (some d))) | _ => False) I ?_) fun ws s2 hh => ?_
  · exact h
  · obtain ⟨zs, H2, I2, rz, q2⟩ := hh
    refine ⟨I2.kIn, ?_⟩
    rw [hks]
    cases rz with
    | nil => exact q2.elim
    | cons r0 rn =>
      cases rn with
      | nil => exact run_held T hr (.inr ⟨rfl, rfl⟩) I2 r0 q2
      | cons _ _ => exact q2.elim
end
end Vk
namespace Vk
open PySem PySem.Spec PyProof.Rows L2
/-! ### an own class without __init__ of its own, called without arguments -/
section
variable {X : Cx}
theorem pe_bare {C : Addr} {x : Str} {p pos : Pos} (q : PySem.W.excIn X.K C He.veBase "ValueError.__new__" = true) (gC : X.mg x = some (.ref C)) (kC : PySem.W.keepIn X.K (.ref C) = true) (hg : Gl X x := by rfl) (hdb : (x == ("__debug__" : Str)) = false := by decide) :
    PE X (.Call (.Name x p) [] [] pos) (fun _ H Q => ∀ a, H a = none → Q (.ref a) (upd H a (exo a C none))) := by
  refine ⟨fun pins s σ H Q I h => ?_⟩
  refine wpAny_Call_Name_kw (ld_glob I hg gC ?_ hdb)
  refine PySem.W.callWith_K0 I.kIn kC ?_
  obtain ⟨bm, N, nm, qn, bs, hdct, sn, sub, ab, col, dd, k0, k1, k2, k3, k5, mN, hC, hN, hni, T⟩ := exc_obj I.kIn q
  refine wpAny_call_exc_subT F.excBase_ValueError T hC hN hni (fun h' a hm => ?_) (by show 0 ≤ sizeLine; exact Nat.zero_le _)
  have hn : H a = none := I.hok.gone hm.new
  obtain ⟨t, ht, _, _⟩ := hm.there
  exact ⟨.ref a, upd H a (exo a C none), I.laidN hm.keeps hm.new hn (exo_ok ht), rfl, h a hn⟩
end
/-! ### data in the heap, dicts too, and repr of it -/
def keyD : Key → PyData
  | .inl i => .int i
  | .inr x => .str x
mutual
inductive Dq (H : Hp) : V → PyData → Prop
  | non : Dq H .non .none
  | bl (b : Bool) : Dq H (.bl b) (.bool b)
  | int (i : Int) : Dq H (.int i) (.int i)
  | str (x : Str) : Dq H (.str x) (.str x)
  | lst {a : Addr} {xs : List V} {ds : List PyData} : H a = some (.lst xs) → DqAll H xs ds → Dq H (.ref a) (.list ds)
  | tup {a : Addr} {xs : List V} {ds : List PyData} : H a = some (.tup xs) → DqAll H xs ds → Dq H (.ref a) (.tuple ds)
  | dic {a : Addr} {kvs : List (Key × V)} {ps : List (PyData × PyData)} : H a = some (.dK kvs) → ps.map (·.1) = kvs.map (fun p => keyD p.1) → DqAll H (kvs.map (·.2)) (ps.map (·.2)) → Dq H (.ref a) (.dict ps)
inductive DqAll (H : Hp) : List V → List PyData → Prop
  | nil : DqAll H [] []
  | cons {v : V} {vs : List V} {d : PyData} {ds : List PyData} : Dq H v d → DqAll H vs ds → DqAll H (v :: vs) (d :: ds)
end
mutual
theorem Dq.same {H H' : Hp} (S : Same H H') : ∀ {v : V} {d : PyData}, Dq H v d → Dq H' v d
  | _, _, .non => .non
  | _, _, .bl b => .bl b
  | _, _, .int i => .int i
  | _, _, .str x => .str x
  | _, _, .lst h k => .lst (S _ _ h) (DqAll.same S k)
  | _, _, .tup h k => .tup (S _ _ h) (DqAll.same S k)
  | _, _, .dic h e k => .dic (S _ _ h) e (DqAll.same S k)
theorem DqAll.same {H H' : Hp} (S : Same H H') : ∀ {vs : List V} {ds : List PyData}, DqAll H vs ds → DqAll H' vs ds
  | _, _, .nil => .nil
  | _, _, .cons h k => .cons (Dq.same S h) (DqAll.same S k)
end
section
variable {X : Cx} {pins : List (Addr × Obj)} {σ : L2.St} {H : Hp} {s : Shared}
theorem keys_read {P : Program} {w : World} : ∀ {es : List DictEntry} {vs : List (Key × Value)} {kvs : List (Key × V)}, Pairs (mixKind P w) es vs → KV kvs vs → ∃ as, ReadsAll s.heap (es.map (·.key)) (kvs.map fun p => keyD p.1) as ∧ as = []
  | _, _, _, .nil, .nil => ⟨_, .nil, rfl⟩
  | _, _, _, .cons h1 h2 h3, .cons r1 r2 => by
    obtain ⟨as, q, e⟩ := keys_read h3 r2
    subst e
    obtain ⟨e1, e2⟩ := r1
    rcases keyIs_shape h1 with ⟨i, t, k1, k2⟩ | ⟨x, t, k1, k2⟩
    · refine ⟨_, .cons (as := []) (bs := []) ?_ q, rfl⟩
      dsimp only
      rw [e1, k1, k2]
      exact .int i t
    · refine ⟨_, .cons (as := []) (bs := []) ?_ q, rfl⟩
      dsimp only
      rw [e1, k1, k2]
      exact .str x t
theorem vals_of_pairs {P : Program} {w : World} : ∀ {es : List DictEntry} {vs : List (Key × Value)} {kvs : List (Key × V)}, Pairs (mixKind P w) es vs → KV kvs vs → Vals (kvs.map (·.2)) (es.map (·.val))
  | _, _, _, .nil, .nil => .nil
  | _, _, _, .cons h1 h2 h3, .cons r1 r2 => .cons (by dsimp only; rw [h2]; exact r1.2) (vals_of_pairs h3 r2)
mutual
theorem Dq.reads (I : Inv X pins σ H s) (h1 : ∀ b u, H b = some u → b ≠ sysModules) : ∀ {v : V} {d : PyData}, Dq H v d → ∀ u, RelV v u → ∃ as, Reads s.heap u d as ∧ sysModules ∉ as
  | _, _, .non, _, r => by
    cases r
    exact ⟨_, .none, fun z => nomatch z⟩
  | _, _, .bl b, _, r => by
    cases r
    exact ⟨_, .bool b, fun z => nomatch z⟩
  | _, _, .int i, _, r => by
    obtain ⟨t, rfl⟩ := r
    exact ⟨_, .int i t, fun z => nomatch z⟩
  | _, _, .str x, _, r => by
    obtain ⟨t, rfl⟩ := r
    exact ⟨_, .str x t, fun z => nomatch z⟩
  | _, _, .lst (a := a) (xs := xs) hs ha, _, r => by
    cases r
    obtain ⟨_, its, n, rv, ho⟩ := (show ObjOk X.prog X.w H s.heap a (.lst xs) from I.hok a _ hs)
    obtain ⟨as, hr, hn⟩ := DqAll.reads I h1 ha its rv
    refine ⟨_, .list ho rfl rfl (by simpa using hr), fun z => ?_⟩
    rcases List.mem_cons.mp z with z | z
    · exact h1 a _ hs z.symm
    · exact hn z
  | _, _, .tup (a := a) (xs := xs) hs ha, _, r => by
    cases r
    obtain ⟨_, its, rv, o, ho, hc, n, hd⟩ := (show ObjOk X.prog X.w H s.heap a (.tup xs) from I.hok a _ hs)
    obtain ⟨as, hr, hn⟩ := DqAll.reads I h1 ha its rv
    exact ⟨_, .tuple ho hc hd (by simpa using hr), hn⟩
  | _, _, .dic (a := a) (kvs := kvs) hs he ha, _, r => by
    cases r
    obtain ⟨_, _, vs, rv, o, es, ep, ho, hx, hd, hk, hp, _⟩ := (show ObjOk X.prog X.w H s.heap a (.dK kvs) from I.hok a _ hs)
    obtain ⟨as, q1, e1⟩ := keys_read (s := s) hp rv
    subst e1
    obtain ⟨bs, q2, hn⟩ := DqAll.reads I h1 ha _ (vals_of_pairs hp rv)
    refine ⟨_, .dict ho hx.1 hd (by rw [he]; exact q1) q2, fun z => ?_⟩
    rcases List.mem_cons.mp z with z | z
    · exact h1 a _ hs z.symm
    · exact hn (by simpa using z)
theorem DqAll.reads (I : Inv X pins σ H s) (h1 : ∀ b u, H b = some u → b ≠ sysModules) : ∀ {vs : List V} {ds : List PyData}, DqAll H vs ds → ∀ us, Vals vs us → ∃ as, ReadsAll s.heap us ds as ∧ sysModules ∉ as
  | _, _, .nil, _, r => by
    cases r
    exact ⟨_, .nil, fun z => nomatch z⟩
  | _, _, .cons h2 h3, _, r => by
    cases r with
    | cons r1 r2 =>
      obtain ⟨as, q1, n1⟩ := Dq.reads I h1 h2 _ r1
      obtain ⟨bs, q2, n2⟩ := DqAll.reads I h1 h3 _ r2
      refine ⟨_, .cons q1 q2, fun z => ?_⟩
      rcases List.mem_append.mp z with z | z
      · exact n1 z
      · exact n2 z
end
/-- repr(v), v data at an address -/
def rRepr : List V → Hp → VK → Prop := fun xs H Q => ∃ (a : Addr) (d : PyData), xs = [.ref a] ∧ Dq H (.ref a) d ∧ d.showable = true ∧ d.depth ≤ 40 ∧ d.shown.length ≤ sizeLine ∧ Q (.str d.shown) H
theorem call_repr {k : Nat} (hg : X.A.guards = some []) (hr : Room k X.A) (hm : ∃ o, X.K.lookup sysModules = some o) : CallR X (.builtin "repr") rRepr := by
  intro pins s σ H xs us Q I r h
  obtain ⟨a, d, rfl, hd, hs, hdp, hz, q⟩ := h
  obtain ⟨u, rfl, r1⟩ := vals1 r
  obtain rfl : u = Value.ref a := r1
  obtain ⟨o1, ho1⟩ := hm
  have h1 : ∀ b v, H b = some v → b ≠ sysModules := fun b v e z => by
    have e2 := (I.bs _ _ (I.ok.mod.kin _ _ ho1)).2
    rw [← z, e] at e2
    cases e2
  obtain ⟨as, rd, nm⟩ := Dq.reads I h1 hd _ rfl
  have hu := hr.un
  exact repr_of_reads' rd hs (fun _ => nm) hg (by omega) (fun _ _ e => e) (fun h' t tk kk => ⟨.str d.shown, H, I.kept (h' := h') (t' := tk) kk, ⟨t, rfl⟩, q⟩) hz
end
/-! ### defs that know that no repr runs around them -/
structure FnG (P : Program) (w : World) (K : PySem.W.Frag) (mg : Str → Option Value) (base : Heap) (k : Nat) (f : Addr) (fd : FuncData) (ps : List Str) (sp : Sp) : Prop where
  len : ∀ vs H Q E, sp vs H Q E → vs.length = ps.length
  run : ∀ (A : Around) (outer : List Env) (s : Shared) (H : Hp) (args : Args) (us : List Value) (vs : List V) (Q : VK) (E : XK), A.guards = some [] → Room k A → Env0 P w K mg base A outer s H → BindsTo s fd args (ps.zip us) → Vals vs us → sp vs H Q E →
    codeAny (model P w) A (.call (.ref f) args) (CR CX0 outer P w H s Q E) s
section
variable {P : Program} {w : World} {K : PySem.W.Frag} {mg : Str → Option Value} {base : Heap} {k : Nat} {f : Addr} {fd : FuncData} {ps N : List Str} {sp : Sp} {x qual : Str} {params : Arguments} {body : List Stmt} {scope : Scope}
theorem FnG.mono {j : Nat} (F : FnG P w K mg base j f fd ps sp) (h : j ≤ k) : FnG P w K mg base k f fd ps sp := ⟨F.len, fun A outer s H args us vs Q E hg hr => F.run A outer s H args us vs Q E hg (hr.mono h)⟩
theorem fnG (F : FunD K x qual params body scope [] [] f fd) (S : FnScope N ps scope) (len : ∀ vs H Q E, sp vs H Q E → vs.length = ps.length)
    (hb : ∀ (cdv : Value) (A : Around) (outer : List Env) (s : Shared) (H : Hp) (vs : List V) (Q : VK) (E : XK), A.guards = some [] → Room k (A.deeper (envOfC qual scope s.heap.objs.size f cdv)) → sp vs H Q E →
      ∃ t, PSs (cxOf CX0 P w K mg base N qual scope f cdv A outer s H E).nox body t ∧ t { nx := fun _ H' => Q .non H', rt := Q } (start N vs) H) : FnG P w K mg base (k + 1) f fd ps sp := by
  obtain ⟨oc, od, dV, kV, doc, pm, an, cdv, ct, osl, rfl, lk, hcd, _, _⟩ := F.ex
  refine ⟨len, fun A outer s H args us vs Q E hg hr e0 hbd rv hsp => ?_⟩
  have l0 := len _ _ _ _ hsp
  have kin : K.In s.heap := e0.mod.kin.keeps fun b o e => (e0.bs b o e).1
  have nol : s.heap.NoLimit := e0.mod.nolimit.keeps fun b o e => (e0.bs b o e).1
  refine codeAny_call_function hr.depth (kin _ _ lk) rfl S.co S.gen rfl (PySem.W.codeRec_of kin hcd) (hbd _ _ _ _ ?_)
  refine wpAny_newFunctionEnv_cells S.kind ?_ fun env he s1 y => ?_
  · rintro ⟨n, v⟩ hy
    rcases S.par n (List.of_mem_zip hy).1 with q | q
    · exact .inl q
    · exact .inr ⟨q, PySem.W.cellsFrom_some _ _ _ (.inl q)⟩
  · subst he
    refine ⟨nol.keeps y.toInCall.keep, codeAny_func ?_⟩
    obtain ⟨t, ht, hq⟩ := hb cdv A outer s H vs Q E hg (hr.deeper _) hsp
    refine wpAny_mono (ht.nox.run [] s1 (start N vs) H _ (inv_start S hr.hd e0 l0 rv y) hq) (fun fl s' z => ?_) fun e s' z => z
    cases fl with
    | ret u =>
      obtain ⟨v, σ', H', J, r1, q⟩ := z
      exact ⟨v, H', J.os, J.bare, J.base, J.hok, r1, q⟩
    | next =>
      obtain ⟨σ', H', J, q⟩ := z
      exact ⟨V.non, H', J.os, J.bare, J.base, J.hok, rfl, q⟩
    | brk =>
      obtain ⟨_, _, _, q⟩ := z
      exact q.elim
    | cont =>
      obtain ⟨_, _, _, q⟩ := z
      exact q.elim
end
section
variable {X : Cx} {k : Nat} {f : Addr} {fd : FuncData} {ps : List Str} {sp : Sp} {x : Str} {p pos : Pos} {e : Expr} {es : List Expr} {t : TA}
theorem pe_callG (F : FnG X.prog X.w X.K X.mg X.base k f fd ps sp) (hA : X.A.guards = some []) (hr : Room k X.A) (hm : X.mg x = some (.ref f)) (hk : PySem.W.keepIn X.K (.ref f) = true) (hb : Binds X.K fd ps []) (ha : PA X (e :: es) t) (hg : Gl X x := by rfl)
    (hdb : (x == ("__debug__" : Str)) = false := by decide) (he : starEach (e :: es) X.env = (false, eval e X.env) :: starEach es X.env := by rfl) (hpl : (backTo pos (starEach es X.env)).any (·.1) = false := by rfl) :
    PE X (.Call (.Name x p) (e :: es) [] pos) (fun σ H Q => t σ H fun vs H1 => sp vs H1 Q E0) := by
  refine ⟨fun pins s σ H Q I h => ?_⟩
  refine wpAny_Call_Name_kw (ld_glob I hg hm ?_ hdb)
  refine PySem.W.callWith_K (h₀ := X.base) I.ok.mod.kin hk (thn (ha.run pos pins s σ H _ I h) fun us s1 hh => ?_) he hpl
  obtain ⟨vs, H1, I1, r, q⟩ := hh
  refine ⟨I1.kIn, ?_⟩
  have hl : (us ++ []).length = ps.length := by
    rw [List.append_nil, ← r.length]
    exact F.len _ _ _ _ q
  have hbd := hb s1 us I1.kIn hl
  rw [List.append_nil] at hbd
  refine wpAny_call (codeAny_mono (F.run X.A X.stack s1 H1 ⟨us, []⟩ us vs Q E0 hA hr I1.env0 hbd r q) fun rr s' hq => ?_)
  cases rr with
  | error er => exact hq.elim
  | ok fl =>
    cases fl with
    | ret u => exact I1.after hq
    | next => exact False.elim hq
    | brk => exact False.elim hq
    | cont => exact False.elim hq
end
end Vk
/-! DT: defs by name, repr, keywords. -/
namespace DL
open PySem PySem.Spec PyProof.Rows L2
/-- a def of the module: what it does with data -/
structure DFn (P : Program) (w : World) (K : PySem.W.Frag) (mg : Str → Option Value) (base : Heap) (k : Nat) (x : Str) (ps : List Str) (F : GN) : Prop where
  ex : ∃ (f : Addr) (fd : FuncData), FnOk P w K mg base CX0 k f fd ps (spF K F) ∧ mg x = some (.ref f) ∧ PySem.W.keepIn K (.ref f) = true ∧ Binds K fd ps [] ∧ ∀ (s : Shared) (ws : List Value), ws.length = ps.length → BindsTo s fd ⟨[], ps.zip ws⟩ (ps.zip ws)
/-- a def of the module that knows that no repr runs -/
structure DGn (P : Program) (w : World) (K : PySem.W.Frag) (mg : Str → Option Value) (base : Heap) (k : Nat) (x : Str) (ps : List Str) (F : GN) : Prop where
  ex : ∃ (f : Addr) (fd : FuncData), Vk.FnG P w K mg base k f fd ps (spF K F) ∧ mg x = some (.ref f) ∧ PySem.W.keepIn K (.ref f) = true ∧ Binds K fd ps []
theorem DFn.mono {P : Program} {w : World} {K : PySem.W.Frag} {mg : Str → Option Value} {base : Heap} {j k : Nat} {x : Str} {ps : List Str} {F : GN} (h : DFn P w K mg base j x ps F) (l : j ≤ k) : DFn P w K mg base k x ps F :=
  let ⟨f, fd, h1, h2⟩ := h.ex; ⟨f, fd, h1.mono l, h2⟩
theorem FunD.bindsK {K : PySem.W.Frag} {x qual : Str} {params : Arguments} {body : List Stmt} {scope : Scope} {kws : List (Str × V)} {f : Addr} {fd : FuncData} {ps : List Str} (F : FunD K x qual params body scope [] kws f fd)
    (h : ∀ (kV doc pm : Value) (an : Option Addr) (cdv ct : Value) (us : List Value), us.length = ps.length → bindArgs (PySem.W.fnOf x qual params body scope .none kV doc pm an cdv ct) ⟨[], ps.zip us⟩ = pure (ps.zip us)) (s : Shared) (us : List Value) (hl : us.length = ps.length) : BindsTo s fd ⟨[], ps.zip us⟩ (ps.zip us) := by
  obtain ⟨oc, od, dV, kV, doc, pm, an, cdv, ct, osl, rfl, lk, hcd, hD, hK⟩ := F.ex
  rcases hD with ⟨_, rfl⟩ | ⟨e, _⟩
  · exact .of_eq (h kV doc pm an cdv ct us hl)
  · exact absurd rfl e
section
variable {P : Program} {w : World} {K : PySem.W.Frag} {mg : Str → Option Value} {base : Heap} {x qual : Str} {params : Arguments} {body : List Stmt} {scope : Scope} {dvs : List V} {kws : List (Str × V)} {f : Addr} {fd : FuncData}
theorem fnG_dat {N ps : List Str} {k : Nat} {b : SF} (F : FunD K x qual params body scope [] [] f fd) (S : FnScope N ps scope)
    (hb : ∀ (cdv : Value) (A : Around) (outer : List Env) (s : Shared) (H : Hp) (E : XK), A.guards = some [] → Room k (A.deeper (envOfC qual scope s.heap.objs.size f cdv)) → PSs (cxOf CX0 P w K mg base N qual scope f cdv A outer s H E).nox body (tS K b)) :
    Vk.FnG P w K mg base (k + 1) f fd ps (spF K (fDef ps.length N.length b)) :=
  Vk.fnG F S (fun vs H Q E h => (body_run (N := N) h).1) fun cdv A outer s H vs Q E hA hr h => ⟨tS K b, hb cdv A outer s H E hA hr, (body_run (N := N) h).2⟩
theorem dfn {N ps : List Str} {k : Nat} {b : SF} (F : FunD K x qual params body scope [] [] f fd) (hg : mg x = some (.ref f)) (S : FnScope N ps scope)
    (h1 : ∀ (kV doc pm : Value) (an : Option Addr) (cdv ct : Value) (us : List Value), us.length = ps.length → bindArgs (PySem.W.fnOf x qual params body scope .none kV doc pm an cdv ct) ⟨us, []⟩ = pure (ps.zip us))
    (h2 : ∀ (kV doc pm : Value) (an : Option Addr) (cdv ct : Value) (us : List Value), us.length = ps.length → bindArgs (PySem.W.fnOf x qual params body scope .none kV doc pm an cdv ct) ⟨[], ps.zip us⟩ = pure (ps.zip us))
    (hb : ∀ (cdv : Value) (A : Around) (outer : List Env) (s : Shared) (H : Hp) (E : XK), Room k (A.deeper (envOfC qual scope s.heap.objs.size f cdv)) → PSs (cxOf CX0 P w K mg base N qual scope f cdv A outer s H E).nox body (tS K b)) :
    DFn P w K mg base (k + 1) x ps (fDef ps.length N.length b) := ⟨f, fd, fn_dat F S hb, hg, F.kp, FunD.bindsN F h1, FunD.bindsK F h2⟩
/-- the same where the body knows the def's code object -/
theorem dfnC {N ps : List Str} {k : Nat} {b : SF} (F : FunD K x qual params body scope [] [] f fd) (hg : mg x = some (.ref f)) (hf : f = He.fAd K (x, none)) (S : FnScope N ps scope)
    (h1 : ∀ (kV doc pm : Value) (an : Option Addr) (cdv ct : Value) (us : List Value), us.length = ps.length → bindArgs (PySem.W.fnOf x qual params body scope .none kV doc pm an cdv ct) ⟨us, []⟩ = pure (ps.zip us))
    (h2 : ∀ (kV doc pm : Value) (an : Option Addr) (cdv ct : Value) (us : List Value), us.length = ps.length → bindArgs (PySem.W.fnOf x qual params body scope .none kV doc pm an cdv ct) ⟨[], ps.zip us⟩ = pure (ps.zip us))
    (hb : ∀ (A : Around) (outer : List Env) (s : Shared) (H : Hp) (E : XK), Room k (A.deeper (envOfC qual scope s.heap.objs.size f (.ref (codeA K x).1))) → PSs (cxOf CX0 P w K mg base N qual scope f (.ref (codeA K x).1) A outer s H E).nox body (tS K b)) :
    DFn P w K mg base (k + 1) x ps (fDef ps.length N.length b) := by
  refine ⟨f, fd, ?_, hg, F.kp, FunD.bindsN F h1, FunD.bindsK F h2⟩
  obtain ⟨oc, od, dV, kV, doc, pm, an, cdv, ct, osl, rfl, lk, hcd, _, _⟩ := F.ex
  obtain ⟨c, e⟩ := He.codeIn_ref hcd
  have e2 : cdv = .ref (codeA K x).1 := by
    rw [e]
    subst hf
    exact congrArg Value.ref (He.codeOf_eq lk e).symm
  subst e2
  exact fn_of lk hcd S (fun vs H Q E h => (body_run (N := N) h).1) fun A outer s H vs Q E hr h => ⟨tS K b, PSs.nox (hb A outer s H E hr), (body_run (N := N) h).2⟩
theorem dgn {N ps : List Str} {k : Nat} {b : SF} (F : FunD K x qual params body scope [] [] f fd) (hg : mg x = some (.ref f)) (S : FnScope N ps scope)
    (h1 : ∀ (kV doc pm : Value) (an : Option Addr) (cdv ct : Value) (us : List Value), us.length = ps.length → bindArgs (PySem.W.fnOf x qual params body scope .none kV doc pm an cdv ct) ⟨us, []⟩ = pure (ps.zip us))
    (hb : ∀ (cdv : Value) (A : Around) (outer : List Env) (s : Shared) (H : Hp) (E : XK), A.guards = some [] → Room k (A.deeper (envOfC qual scope s.heap.objs.size f cdv)) → PSs (cxOf CX0 P w K mg base N qual scope f cdv A outer s H E).nox body (tS K b)) :
    DGn P w K mg base (k + 1) x ps (fDef ps.length N.length b) := ⟨f, fd, fnG_dat F S hb, hg, F.kp, FunD.bindsN F h1⟩
end
section
variable {X : Cx} {j k : Nat} {F : GN} {x : Str} {ps : List Str} {p pos : Pos} {e : Expr} {es : List Expr} {fa : AF} {kws : List Keyword}
theorem de_callF (D : DFn X.prog X.w X.K X.mg X.base j x ps F) (hr : Room k X.A) (l : j ≤ k) (ha : PA X (e :: es) (tA X.K fa)) (hg : Gl X x := by rfl) (hdb : (x == ("__debug__" : Str)) = false := by decide)
    (he : starEach (e :: es) X.env = (false, eval e X.env) :: starEach es X.env := by rfl) (hpl : (backTo pos (starEach es X.env)).any (·.1) = false := by rfl) : PE X (.Call (.Name x p) (e :: es) [] pos) (tE X.K (fCB F fa)) := by
  obtain ⟨f, fd, h1, h2, h3, h4, h5⟩ := D.ex
  exact de_call (h1.mono l) hr hg h2 h3 h4 ha hdb he hpl
theorem de_callG (D : DGn X.prog X.w X.K X.mg X.base j x ps F) (hA : X.A.guards = some []) (hr : Room k X.A) (l : j ≤ k) (ha : PA X (e :: es) (tA X.K fa)) (hg : Gl X x := by rfl) (hdb : (x == ("__debug__" : Str)) = false := by decide)
    (he : starEach (e :: es) X.env = (false, eval e X.env) :: starEach es X.env := by rfl) (hpl : (backTo pos (starEach es X.env)).any (·.1) = false := by rfl) : PE X (.Call (.Name x p) (e :: es) [] pos) (tE X.K (fCB F fa)) := by
  obtain ⟨f, fd, h1, h2, h3, h4⟩ := D.ex
  refine (Vk.pe_callG (h1.mono l) hA hr h2 h3 h4 ha hg hdb he hpl).imp fun σ H Q h => ?_
  exact i_cb σ H Q h
/-- f(a = .., b = ..): all by name, in the parameters' order -/
theorem dk_nil : PK X [] (tA X.K fNil) := ⟨fun pos pins s σ H Q I ⟨α, ρ, μ, d, μ', S, R, e, k⟩ => by
  cases e
  exact pk_nil.run pos pins s σ H Q I (k H α [] Ext.refl S rfl)⟩
theorem dk_cons {fe : EF} {nm : Option Str} {kpos : Pos} (ha : PE X e (tE X.K fe)) (hr : PK X kws (tA X.K fa)) : PK X (⟨nm, e, kpos⟩ :: kws) (tA X.K (fCons fe fa)) := ⟨fun pos pins s σ H Q I h => by
  refine (pk_cons ha hr).run pos pins s σ H Q I ?_
  obtain ⟨α, ρ, μ, d, μ', S, R, e, k⟩ := h
  obtain ⟨⟨x, μ1⟩, e1, e2⟩ := Option.bind_eq_some_iff.mp e
  obtain ⟨⟨ys, μ2⟩, e3, e4⟩ := Option.bind_eq_some_iff.mp e2
  cases e4
  exact ⟨α, ρ, μ, x, μ1, S, R, e1, fun H1 α1 v E1 S1 r1 => ⟨α1, ρ, μ1, ys, μ2, S1, R.up E1, e3, fun H2 α2 vs E2 S2 r2 => k H2 α2 _ (E1.trans E2) S2 ⟨v, vs, rfl, r1.up E2, r2⟩⟩⟩⟩
theorem de_callK (D : DFn X.prog X.w X.K X.mg X.base j x ps F) (hr : Room k X.A) (l : j ≤ k) (ha : PK X kws (tA X.K fa)) (hg : Gl X x := by rfl) (hall : (backToKw pos (keywordEach kws X.env)).all (·.1.isSome) = true := by rfl) (hks : (backToKw pos (keywordEach kws X.env)).filterMap (·.1) = ps := by rfl)
    (hdb : (x == ("__debug__" : Str)) = false := by decide) (hpl : ((backTo pos (starEach [] X.env)).any (·.1) || (backToKw pos (keywordEach kws X.env)).any (·.1.isNone)) = false := by rfl) :
    PE X (.Call (.Name x p) [] kws pos) (tE X.K (fCB F fa)) := by
  obtain ⟨f, fd, h1, h2, h3, h4, h5⟩ := D.ex
  refine ⟨fun pins s σ H Q I h => ?_⟩
  have h' := i_cb σ H Q h
  refine wpAny_Call_Name_kw (ld_glob I hg h2 ?_ hdb)
  refine PySem.W.callWith_KW0 (h₀ := X.base) I.ok.mod.kin h3 hall ?_ hpl
  refine thn (ha.run pos pins s σ H _ I h') fun ws s2 ⟨zs, H2, I2, rz, q2⟩ => ⟨I2.kIn, ?_⟩
  rw [hks]
  have q3 : spF X.K F zs H2 Q E0 := q2
  have hl : ws.length = ps.length := by rw [← rz.length]; exact h1.len _ _ _ _ q3
  show wpAny _ _ (call (.ref f) ([] ++ []) (ps.zip ws)) _ _ _
  refine wpAny_call (codeAny_mono ((h1.mono l).run X.A X.stack s2 H2 ⟨[], ps.zip ws⟩ ws zs Q E0 hr I2.env0 (h5 s2 ws hl) rz q3) fun rr s' hq => ?_)
  cases rr with
  | error er => exact hq.elim
  | ok fl =>
    cases fl with
    | ret u => exact I2.after hq
    | next => exact False.elim hq
    | brk => exact False.elim hq
    | cont => exact False.elim hq
end
/-! ### repr of a list of plain things -/
def pyS : D → Option PyData
  | .non => some .none
  | .bl b => some (.bool b)
  | .int i => some (.int i)
  | .str x => some (.str x)
  | _ => none
def pysS : List D → Option (List PyData)
  | [] => some []
  | d :: ds => match pyS d, pysS ds with
    | some p, some ps => some (p :: ps)
    | _, _ => none
def cRepr : GN
  | [.loc n], μ => match μ[n]? with
    | some (.lst ds) => (pysS ds).bind fun ps => if (PyData.list ps).showable = true ∧ (PyData.list ps).depth ≤ 40 ∧ (PyData.list ps).shown.length ≤ sizeLine then some (.str (PyData.list ps).shown, μ) else none
    | _ => none
  | _, _ => none
theorem dq_plain {K : PySem.W.Frag} {H : Hp} {α : List Addr} {d : D} {p : PyData} {v : V} (h : pyS d = some p) (r : Rep K H α d v) : Vk.Dq H v p := by
  cases d with
  | non => cases h; cases (show v = _ from r); exact .non
  | bl b => cases h; cases (show v = _ from r); exact .bl _
  | int b => cases h; cases (show v = _ from r); exact .int _
  | str b => cases h; cases (show v = _ from r); exact .str _
  | _ => cases h
theorem dqs_plain {K : PySem.W.Frag} {H : Hp} {α : List Addr} : ∀ {ds : List D} {ps : List PyData} {vs : List V}, pysS ds = some ps → Reps K H α ds vs → Vk.DqAll H vs ps
  | [], ps, vs, h, r => by cases h; cases (show vs = _ from r); exact .nil
  | d :: ds, ps, vs, h, r => by
    unfold pysS at h
    split at h
    · rename_i p ps' h1 h2
      cases h
      obtain ⟨v, vs', rfl, r1, r2⟩ := r
      exact .cons (dq_plain h1 r1) (dqs_plain h2 r2)
    · cases h
section
variable {X : Cx}
theorem dc_repr {k : Nat} (hA : X.A.guards = some []) (hr : Room k X.A) (hm : ∃ o, X.K.lookup sysModules = some o) : CallR X (.builtin "repr") (cD X.K cRepr) := by
  refine (Vk.call_repr hA hr hm).imp ?_
  rintro xs H Q ⟨α, μ, ds, d, μ', S, r, e, k⟩
  unfold cRepr at e
  split at e
  · split at e
    · rename_i n es h
      obtain ⟨ps, h1, h2⟩ := Option.bind_eq_some_iff.mp e
      split at h2
      · rename_i hc
        cases h2
        obtain ⟨v, _, rfl, q1, q2⟩ := r
        cases (show _ = _ from q2)
        obtain ⟨a, rfl, q⟩ := q1
        obtain ⟨ys, hx, rr⟩ := S.ob _ _ _ q h
        exact ⟨a, _, rfl, .lst hx (dqs_plain h1 rr), hc.1, hc.2.1, hc.2.2, kont_self k S rfl⟩
      · cases h2
    · cases e
  · cases e
end
end DL
/-! DU: constants of the module, names, displays of dicts. -/
namespace DL
open PySem PySem.Spec PyProof.Rows L2
structure Cst (K : PySem.W.Frag) (mg : Str → Option Value) (x : Str) (d : D) : Prop where
  ex : ∃ (u : Value) (v : V), mg x = some u ∧ RelV v u ∧ ∀ H α, Rep K H α d v
section
variable {X : Cx} {x : Str} {d : D} {pos : Pos}
theorem de_cst (c : Cst X.K X.mg x d) (hg : Gl X x) (hd : (x == ("__debug__" : Str)) = false := by decide) : PE X (.Name x pos) (tE X.K (fC d)) := by
  obtain ⟨u, v, h1, h2, h3⟩ := c.ex
  exact de_con hg h1 h2 h3 hd
theorem dv (i : Nat) {x : Str} {pos : Pos} (hN : X.N[i]? = some x := by rfl) (hv : Vis X.env.scope x := by first | exact Or.inl rfl | exact Or.inr (Or.inl rfl) | exact Or.inr (Or.inr rfl)) (hd : (x == ("__debug__" : Str)) = false := by decide)
    (hcd : (x == ("__classdict__" : Str)) = false := by decide) : PE X (.Name x pos) (tE X.K (fVar i)) := de_var hN hv hd hcd
theorem _root_.L2.Room.units1 {k : Nat} {A : Around} (r : Room k A) : A.units + 1 < cLine := by have := r.units; omega
end
/-! ### a written dict with keys that are ints or texts -/
def fPairs : List (EF × EF) → Sl → Sto → Option (List (D × D) × Sto)
  | [], _, μ => some ([], μ)
  | (k, v) :: r, ρ, μ => (k ρ μ).bind fun p => (v ρ p.2).bind fun q => (fPairs r ρ q.2).bind fun t => some ((p.1, q.1) :: t.1, t.2)
def PRel (K : PySem.W.Frag) (H : Hp) (α : List Addr) : List (D × D) → List (V × V) → Prop
  | [], vs => vs = []
  | p :: ps, vs => ∃ q qs, vs = q :: qs ∧ Rep K H α p.1 q.1 ∧ Rep K H α p.2 q.2 ∧ PRel K H α ps qs
def keysOf : List (D × D) → Option (List (Key × D))
  | [] => some []
  | (k, d) :: r => match keyOf k, keysOf r with
    | some k, some r => some ((k, d) :: r)
    | _, _ => none
def mergeD (kvs more : List (Key × D)) : List (Key × D) := more.foldl (fun acc kv => putD acc kv.1 kv.2) kvs
def fDsp (fs : List (EF × EF)) : EF := fun ρ μ => (fPairs fs ρ (μ ++ [.dic []])).bind fun p => match p.2[μ.length]?, keysOf p.1 with
  | some (.dic []), some kvs => if kvs.length ≤ 15 then some (.loc μ.length, p.2.set μ.length (.dic (mergeD [] kvs))) else none
  | _, _ => none
section
variable {K : PySem.W.Frag}
theorem i_pairs {σ : L2.St} {ρ : Sl} {Q : List (V × V) → Hp → Prop} : ∀ {fs : List (EF × EF)} {H : Hp} {α : List Addr} {μ μ' : Sto} {ps : List (D × D)}, RepS K H α μ → RepR K H α ρ σ → fPairs fs ρ μ = some (ps, μ') →
    (∀ H' α' vs, Ext K H α H' α' → RepS K H' α' μ' → PRel K H' α' ps vs → Q vs H') → tPairs (fs.map fun p => (tE K p.1, tE K p.2)) σ H Q
  | [], H, α, μ, μ', ps, S, R, e, k => by
    cases e
    exact k H α [] Ext.refl S rfl
  | (f, g) :: fs, H, α, μ, μ', ps, S, R, e, k => by
    obtain ⟨⟨x, μ1⟩, e1, e2⟩ := Option.bind_eq_some_iff.mp e
    obtain ⟨⟨y, μ2⟩, e3, e4⟩ := Option.bind_eq_some_iff.mp e2
    obtain ⟨⟨zs, μ3⟩, e5, e6⟩ := Option.bind_eq_some_iff.mp e4
    cases e6
    exact ⟨α, ρ, μ, x, μ1, S, R, e1, fun H1 α1 v E1 S1 r1 => ⟨α1, ρ, μ1, y, μ2, S1, R.up E1, e3, fun H2 α2 w E2 S2 r2 => i_pairs S2 (R.up (E1.trans E2)) e5 fun H3 α3 vs E3 S3 r3 =>
      k H3 α3 _ (E1.trans (E2.trans E3)) S3 ⟨(v, w), vs, rfl, r1.up (E2.trans E3), r2.up E3, r3⟩⟩⟩
theorem keys_rel {H : Hp} {α : List Addr} : ∀ {ps : List (D × D)} {vs : List (V × V)} {kvs : List (Key × D)}, keysOf ps = some kvs → PRel K H α ps vs → ∃ kv : List (Key × V), vs = kv.map (fun p => (kV p.1, p.2)) ∧ DicR K H α kvs kv
  | [], vs, kvs, h, r => by cases h; cases (show vs = [] from r); exact ⟨[], rfl, .nil⟩
  | (k, d) :: ps, vs, kvs, h, r => by
    unfold keysOf at h
    split at h
    · rename_i kk r' h1 h2
      cases h
      obtain ⟨⟨v, w⟩, qs, rfl, r1, r2, r3⟩ := r
      obtain ⟨kv, rfl, dr⟩ := keys_rel h2 r3
      have e := keyOf_rep h1 r1
      dsimp only at e r2
      subst e
      exact ⟨(kk, w) :: kv, rfl, DicR.cons r2 dr⟩
    · cases h
theorem DicR.merge {H : Hp} {α : List Addr} : ∀ {m : List (Key × D)} {m' : List (Key × V)} {a : List (Key × D)} {a' : List (Key × V)}, DicR K H α m m' → DicR K H α a a' → DicR K H α (mergeD a m) (mergeK a' m')
  | [], m', a, a', h, q => by rw [h.nil_inv]; exact q
  | p :: m, m', a, a', h, q => by
    obtain ⟨v, r, rfl, r1, r2⟩ := h.inv
    exact DicR.merge (m := m) (m' := r) r2 (q.put r1)
theorem DicR.up {H H' : Hp} {α α' : List Addr} {kvs : List (Key × D)} {kv : List (Key × V)} (h : DicR K H α kvs kv) (E : Ext K H α H' α') : DicR K H' α' kvs kv := ⟨h.1, h.2.up E⟩
end
theorem de_dsp {X : Cx} {pos : Pos} {keys : List (Option Expr)} {values : List Expr} (fs : List (EF × EF)) (h : PPs X pos keys values (fs.map fun p => (tE X.K p.1, tE X.K p.2))) (hall : keys.all (·.isSome) = true) (hl : keys.length = values.length) (h0 : keys ≠ []) (h15 : keys.length ≤ 15) :
    PE X (.Dict keys values pos) (tE X.K (fDsp fs)) := by
  refine (pe_disp h hall hl h0 h15).imp ?_
  rintro σ H Q ⟨α, ρ, μ, d, μ', S, R, e, k⟩ p hp
  obtain ⟨⟨ps, μ1⟩, e1, e2⟩ := Option.bind_eq_some_iff.mp e
  have S1 : RepS X.K (upd H p (.dK [])) (α ++ [p]) (μ ++ [.dic []]) := S.new hp ⟨[], upd_same, rfl, rfl⟩
  have E1 : Ext X.K H α (upd H p (.dK [])) (α ++ [p]) := ext_new α [p] hp
  have hn : (α ++ [p])[μ.length]? = some p := by rw [← S.len]; simp
  refine i_pairs S1 (R.up E1) e1 fun H2 α2 vs E2 S2 r2 => ?_
  simp only at e2
  split at e2
  · rename_i kvs h1 h2
    split at e2
    · rename_i hz
      cases e2
      have n2 : α2[μ.length]? = some p := let ⟨_, z⟩ := E2.pre; pre_get z hn
      obtain ⟨kv0, c0, d0⟩ := S2.ob _ _ _ n2 h1
      have z : kv0 = [] := DicR.nil_inv (K := X.K) (H := H2) (α := α2) d0
      subst z
      obtain ⟨kv, rfl, dr⟩ := keys_rel h2 r2
      have nt := nt_dK c0
      have dm := dr.merge .nil
      refine ⟨c0, kv, rfl, by rw [← dr.len]; exact hz, ?_⟩
      exact k _ α2 _ (E1.trans (E2.trans (ext_write nt))) (S2.write (ob := .dic (mergeD [] kvs)) n2 nt ⟨_, upd_same, (dm.up (ext_write (o := .dK (mergeK [] kv)) nt)).1, (dm.up (ext_write nt)).2⟩) ⟨p, rfl, n2⟩
    · cases e2
  · cases e2
end DL
/-! DW: running a def on data, step by step. -/
namespace DL
open PySem PySem.Spec PyProof.Rows L2
/-- it hides what is behind: a rewriting stays with x -/
inductive Tag {α : Type} (Q : α → Prop) : Type
  | mk
def Wp {α : Type} (x : Option α) (Q : α → Prop) : Prop := ∃ r, x = some r ∧ Q r
theorem Wp.some {α : Type} {a : α} {Q : α → Prop} : Wp (some a) Q = Q a := propext ⟨fun ⟨r, e, q⟩ => by cases e; exact q, fun q => ⟨a, rfl, q⟩⟩
theorem Wp.none {α : Type} {Q : α → Prop} : Wp none Q = False := propext ⟨fun ⟨r, e, q⟩ => (by cases e), False.elim⟩
theorem Wp.bind {α β : Type} {x : Option α} {f : α → Option β} {Q : β → Prop} : Wp (x.bind f) Q = Wp x fun a => Wp (f a) Q := propext
  ⟨fun ⟨r, e, q⟩ => let ⟨a, h1, h2⟩ := Option.bind_eq_some_iff.mp e; ⟨a, h1, r, h2, q⟩, fun ⟨a, h1, r, h2, q⟩ => ⟨r, Option.bind_eq_some_iff.mpr ⟨a, h1, h2⟩, q⟩⟩
theorem Wp.map {α β : Type} {x : Option α} {f : α → β} {Q : β → Prop} : Wp (x.map f) Q = Wp x fun a => Q (f a) := propext
  ⟨fun ⟨r, e, q⟩ => let ⟨a, h1, h2⟩ := Option.map_eq_some_iff.mp e; ⟨a, h1, by show Q (f a); rw [h2]; exact q⟩, fun ⟨a, h1, q⟩ => ⟨f a, Option.map_eq_some_iff.mpr ⟨a, h1, rfl⟩, q⟩⟩
theorem Wp.ite {α : Type} {c : Prop} [Decidable c] {x y : Option α} {Q : α → Prop} : Wp (if c then x else y) Q = ((c → Wp x Q) ∧ (¬ c → Wp y Q)) := by
  by_cases h : c
  · rw [if_pos h]; exact propext ⟨fun q => ⟨fun _ => q, fun n => (n h).elim⟩, fun q => q.1 h⟩
  · rw [if_neg h]; exact propext ⟨fun q => ⟨fun z => (h z).elim, fun _ => q⟩, fun q => q.2 h⟩
theorem Wp.body {α : Type} {x : Option α} {Q R : α → Prop} (h : ∀ p, Q p = R p) : Wp x Q = Wp x R := by
  have e : Q = R := funext h
  subst e
  rfl
theorem Wp.congr {α : Type} {x y : Option α} {Q : α → Prop} (h : x = y) : Wp x Q = Wp y Q := by rw [h]
theorem Wp.mono {α : Type} {x : Option α} {Q R : α → Prop} (h : Wp x Q) (k : ∀ a, Q a → R a) : Wp x R := let ⟨r, e, q⟩ := h; ⟨r, e, k r q⟩
theorem Wp.of {α : Type} {x : Option α} {a : α} {Q : α → Prop} (h : x = Option.some a) (q : Q a) : Wp x Q := ⟨a, h, q⟩
theorem fVar_eq {i : Nat} {ρ : Sl} {μ : Sto} {Q : D × Sto → Prop} : Wp (fVar i ρ μ) Q = Wp (ρ[i]?.bind id) fun d => Q (d, μ) := by
  unfold fVar
  cases h : ρ[i]? with
  | none => rw [show (Option.none : Option (Option D)).bind id = Option.none from rfl, Wp.none, Wp.none]
  | some o => cases o with
    | none => rw [show (Option.some (Option.none : Option D)).bind id = Option.none from rfl, Wp.none, Wp.none]
    | some d => rw [show (Option.some (Option.some d)).bind id = Option.some d from rfl, Wp.some, Wp.some]
theorem fDef_eq {n N : Nat} {b : SF} {ds : List D} {μ : Sto} {Q : D × Sto → Prop} : Wp (fDef n N b ds μ) Q = (ds.length = n ∧ Wp (b (ds.map Option.some ++ List.replicate (N - n) Option.none) μ) fun o => match o with
    | .rt d μ' => Q (d, μ')
    | .nx _ μ' => Q (.non, μ')
    | _ => False) := by
  unfold fDef
  by_cases h : ds.length = n
  · rw [if_pos h]
    cases e : b (ds.map Option.some ++ List.replicate (N - n) Option.none) μ with
    | none => rw [Wp.none, Wp.none]; exact propext ⟨False.elim, fun z => z.2⟩
    | some o => cases o with
      | nx ρ μ => rw [Wp.some, Wp.some]; exact propext ⟨fun q => ⟨h, q⟩, fun q => q.2⟩
      | rt d μ => rw [Wp.some, Wp.some]; exact propext ⟨fun q => ⟨h, q⟩, fun q => q.2⟩
      | bk ρ μ => rw [Wp.some, Wp.none]; exact propext ⟨False.elim, fun q => q.2⟩
      | ct ρ μ => rw [Wp.some, Wp.none]; exact propext ⟨False.elim, fun q => q.2⟩
  · rw [if_neg h, Wp.none]; exact propext ⟨False.elim, fun q => (h q.1).elim⟩
theorem le_line {n : Nat} (h : n ≤ 1000000) : n ≤ sizeLine := by rw [sizeLine_eq]; omega
theorem ex_bl {b : Bool} {R : Bool → Prop} : (∃ c, D.bl b = D.bl c ∧ R c) = R b := propext ⟨fun ⟨c, e, r⟩ => by cases e; exact r, fun r => ⟨b, rfl, r⟩⟩
theorem fB_wp {f : EF} {ρ : Sl} {μ : Sto} {Q : Bool × Sto → Prop} : Wp (fB f ρ μ) Q = Wp (f ρ μ) fun p => ∃ c, p.1 = .bl c ∧ Q (c, p.2) := by
  unfold fB
  rw [Wp.bind]
  refine Wp.body fun p => ?_
  obtain ⟨d, m⟩ := p
  cases d with
  | bl b => simp only [Wp.some, ex_bl]
  | _ => exact propext ⟨fun ⟨_, e, _⟩ => (by cases e), fun ⟨_, e, _⟩ => (by cases e)⟩
theorem fAndV_wp {f g : EF} {ρ : Sl} {μ : Sto} {Q : D × Sto → Prop} : Wp (fAndV f g ρ μ) Q = Wp (f ρ μ) fun p => ∃ c, p.1 = .bl c ∧ (c = true → Wp (g ρ p.2) Q) ∧ (c = false → Q (.bl false, p.2)) := by
  unfold fAndV
  rw [Wp.bind]
  refine Wp.body fun p => ?_
  obtain ⟨d, m⟩ := p
  cases d with
  | bl b => rw [ex_bl]; cases b <;> simp [Wp.some]
  | _ => exact propext ⟨fun ⟨_, e, _⟩ => (by cases e), fun ⟨_, e, _⟩ => (by cases e)⟩
theorem fOrV_wp {f g : EF} {ρ : Sl} {μ : Sto} {Q : D × Sto → Prop} : Wp (fOrV f g ρ μ) Q = Wp (f ρ μ) fun p => ∃ c, p.1 = .bl c ∧ (c = false → Wp (g ρ p.2) Q) ∧ (c = true → Q (.bl true, p.2)) := by
  unfold fOrV
  rw [Wp.bind]
  refine Wp.body fun p => ?_
  obtain ⟨d, m⟩ := p
  cases d with
  | bl b => rw [ex_bl]; cases b <;> simp [Wp.some]
  | _ => exact propext ⟨fun ⟨_, e, _⟩ => (by cases e), fun ⟨_, e, _⟩ => (by cases e)⟩
theorem fNotV_wp {f : EF} {ρ : Sl} {μ : Sto} {Q : D × Sto → Prop} : Wp (fNotV f ρ μ) Q = Wp (f ρ μ) fun p => ∃ c, p.1 = .bl c ∧ Q (.bl !c, p.2) := by
  unfold fNotV
  rw [Wp.bind]
  refine Wp.body fun p => ?_
  obtain ⟨d, m⟩ := p
  cases d with
  | bl b => rw [ex_bl, Wp.some]
  | _ => exact propext ⟨fun ⟨_, e, _⟩ => (by cases e), fun ⟨_, e, _⟩ => (by cases e)⟩
theorem truD_bl {μ : Sto} {b : Bool} : truD μ (.bl b) = Option.some b := rfl
end DL
local macro_rules | `(tactic| simp_arith [$xs,*]) => `(tactic| simp only [↓DL.Wp.some, ↓DL.Wp.none, ↓DL.Wp.bind, ↓DL.Wp.map, ↓DL.Wp.ite, ↓DL.fVar_eq, ↓DL.fDef_eq, ↓DL.fBin, ↓DL.fUn, ↓DL.fNil, ↓DL.fCons, ↓DL.fTup, ↓DL.fLst, ↓DL.fDic, ↓DL.fCB, ↓DL.fNoPart, ↓DL.fPart, ↓DL.fSl, ↓DL.fB_wp, ↓DL.fT, ↓DL.fAnd, ↓DL.fOr, ↓DL.fNot, ↓DL.fAndV_wp, ↓DL.fOrV_wp, ↓DL.fNotV_wp, ↓DL.fIf, ↓DL.fML, ↓DL.fGet2, ↓DL.fC, ↓DL.fSkip, ↓DL.fSeq, ↓DL.fRet, ↓DL.fDrop, ↓DL.fIfS, ↓DL.fAsg, ↓DL.fPar, ↓DL.gNm, ↓DL.gSb, ↓DL.gNl, ↓DL.gCn, ↓DL.gTp, ↓DL.fFor, ↓DL.fWhile, List.length_cons, List.length_nil, List.map_cons, List.map_nil, List.replicate, List.cons_append, List.nil_append, List.append_nil, List.replicate_zero, List.getElem?_cons_zero, List.getElem?_cons_succ, List.set_cons_zero, List.set_cons_succ, Option.bind_some, Option.map_some, id, Nat.reduceAdd, Nat.reduceSub, Nat.reduceEqDiff, if_true, if_false, true_and, and_true, true_implies, eq_self, not_true_eq_false, false_implies, imp_self, implies_true, not_false_eq_true, decide_eq_true_eq, Bool.not_eq_true, decide_eq_false_iff_not, reduceCtorEq, Bool.not_false, Bool.not_true, DL.truD_bl, DL.ex_bl, ne_eq, Bool.not_eq_true', Bool.not_eq_false', Nat.zero_le, $xs,*])
namespace DL
open PySem PySem.Spec PyProof.Rows L2
/-! ### all(f(x) for x in e), f a def that tells a bool of plain things; x: the def in which it stands, its table at place t of the store -/
def plainD (μ : Sto) : D → Bool
  | .tup ds => ds.all fun d => (kindD μ d).isSome
  | d => (kindD μ d).isSome
def fAllG (t : Nat) (x : Str) (p : D → Bool) (f : EF) : EF := fun ρ μ => (f ρ μ).bind fun q => match q.1, q.2[t]? with
  | .tup ds, some (.tab y) => if y = x ∧ ds.all (plainD q.2) = true then some (.bl (ds.all p), q.2) else none
  | _, _ => none
end DL
namespace DL
open PySem PySem.Spec PyProof.Rows L2
theorem mulOk_small {i j : Int} (h1 : i.natAbs < 18446744073709551616) (h2 : j.natAbs < 18446744073709551616) : mulOk i j = true := by
  have b : ∀ n : Nat, n < 2 ^ 64 → n.log2 < 65 := fun n h => by
    by_cases z : n = 0
    · subst z; decide
    · have := (Nat.log2_lt z).mpr h; omega
  have := b _ h1
  have := b _ h2
  unfold mulOk
  exact decide_eq_true (by omega)
theorem noPy {i j : Int} (h : j.natAbs < 1073741824) : Builtin.divisionGoesByPylong i j = false := PyProof.noPylong_small h
section
variable {α : Type} {xs : List α}
theorem atI_at (k : Nat) : atI xs (k : Int) = xs[k]? := by
  unfold atI ixN
  rw [if_pos (Int.natCast_nonneg k)]
  by_cases h : k < xs.length
  · rw [if_pos (Int.ofNat_lt.mpr h)]
    rfl
  · rw [if_neg (fun z => h (Int.ofNat_lt.mp z)), List.getElem?_eq_none (Nat.le_of_not_lt h)]
    rfl
theorem atI_0 : atI xs 0 = xs[0]? := atI_at 0
theorem atI_1 : atI xs 1 = xs[1]? := atI_at 1
theorem atI_2 : atI xs 2 = xs[2]? := atI_at 2
theorem atI_3 : atI xs 3 = xs[3]? := atI_at 3
end
theorem ix3_0 : ixN 3 0 = some 0 := by decide
theorem ix3_1 : ixN 3 1 = some 1 := by decide
theorem ix3_2 : ixN 3 2 = some 2 := by decide
theorem lstAt_lst {μ : Sto} {n : Nat} {ds : List D} (h : μ[n]? = some (.lst ds)) : lstAt μ n = some ds := by unfold lstAt; rw [h]
end DL
/-! DV: three names at once, is with truths, pairs of ints in order, two clauses in a comprehension, enumerate over a tuple. -/
namespace DL
open PySem PySem.Spec PyProof.Rows L2
/-! ### three names at once -/
def fPar3 (i j l : Nat) (fa : AF) : SF := fun ρ μ => (fa ρ μ).bind fun p => match p.1 with
  | [a, b, c] => some (.nx (((ρ.set i (some a)).set j (some b)).set l (some c)) p.2)
  | _ => none
theorem ds_par3 {X : Cx} {pos : Pos} {i j l : Nat} {x y z : Str} {a b c : Expr} {fa : AF} {px py pz pt : Pos} {kt k2 pt2} (cal : X.calm = true) (nd : X.N.Nodup) (di : X.N[i]? = some x) (dj : X.N[j]? = some y) (dk : X.N[l]? = some z) (ij : i ≠ j) (il : i ≠ l) (jl : j ≠ l)
    (lx : X.env.scope.names.lookup x = some .local) (ly : X.env.scope.names.lookup y = some .local) (lz : X.env.scope.names.lookup z = some .local) (pa : PA X [a, b, c] (tA X.K fa))
    (sw : swappedStores [.Tuple [.Name x px, .Name y py, .Name z pz] kt pt] (.Tuple [a, b, c] k2 pt2) X.env = pure (some [x, y, z]))
    (so : swapsWithSole [.Tuple [.Name x px, .Name y py, .Name z pz] kt pt] (.Tuple [a, b, c] k2 pt2) pos.line X.env = pure false := by rfl) :
    PS X (.Assign [.Tuple [.Name x px, .Name y py, .Name z pz] kt pt] (.Tuple [a, b, c] k2 pt2) pos) (tS X.K (fPar3 i j l fa)) := by
  refine PS.imp (ps_par3 cal nd di dj dk ij il jl lx ly lz pa sw so) ?_
  rintro D σ H ⟨α, ρ, μ, o, S, R, e, k⟩
  obtain ⟨⟨ds, μ1⟩, e1, e2⟩ := Option.bind_eq_some_iff.mp e
  refine ⟨α, ρ, μ, ds, μ1, S, R, e1, fun H1 α1 vs E1 S1 r1 => ?_⟩
  simp only at e2
  split at e2
  · cases e2
    obtain ⟨v1, _, rfl, q1, v2, _, rfl, q2, v3, _, rfl, q3, q4⟩ := r1
    cases (show _ = _ from q4)
    exact ⟨v1, v2, v3, rfl, k H1 α1 _ E1 S1 ((((R.up E1).set q1 i).set q2 j).set q3 l)⟩
  · cases e2
/-! ### is with truths, pairs of ints in order -/
def opIsB : G2
  | .bl a, .bl b, μ => some (.bl (decide (a = b)), μ)
  | _, _, _ => none
def opGtT : G2
  | .tup [.int a, .int b], .tup [.int c, .int d], μ => some (.bl (if a = c then decide (d < b) else decide (c < a)), μ)
  | _, _, _ => none
theorem opGtT_some {a b d : D} {μ μ' : Sto} (e : opGtT a b μ = some (d, μ')) : ∃ m1 m2 m3 m4 : Int, a = .tup [.int m1, .int m2] ∧ b = .tup [.int m3, .int m4] ∧ d = .bl (if m1 = m3 then decide (m4 < m2) else decide (m3 < m1)) ∧ μ' = μ := by
  unfold opGtT at e
  split at e
  · cases e; exact ⟨_, _, _, _, rfl, rfl, rfl, rfl⟩
  · cases e
section
variable {X : Cx}
theorem do_isB : OpR X (compareOp .Is) (rD X.K opIsB) := by
  refine op_is_bl.imp ?_
  rintro x y H Q ⟨α, μ, a, b, d, μ', S, ra, rb, e, k⟩
  cases a with
  | bl c =>
    cases b with
    | bl c' => cases e; exact ⟨c, c', ra, rb, kont_self k S rfl⟩
    | _ => cases e
  | _ => cases b <;> cases e
theorem do_gtT (room : X.A.units + 1 < cLine) : OpR X (compareOp .Gt) (rD X.K opGtT) := by
  rintro pins s σ H x y v u Q I rx ry ⟨α, μ, a, b, d, μ', S, ra, rb, e, k⟩
  obtain ⟨m1, m2, m3, m4, rfl, rfl, rfl, rfl⟩ := opGtT_some e
  clear e
  obtain ⟨l, xs, rfl, qa, w1, _, rfl, h1, w2, _, rfl, h2, h3⟩ := ra
  obtain ⟨l', ys, rfl, qb, w3, _, rfl, h4, w4, _, rfl, h5, h6⟩ := rb
  cases (show w1 = V.int m1 from h1); cases (show w2 = V.int m2 from h2); cases (show w3 = V.int m3 from h4); cases (show w4 = V.int m4 from h5)
  cases (show _ = _ from h3); cases (show _ = _ from h6)
  cases rx
  cases ry
  obtain ⟨its, r1, p1, _⟩ := I.tuple qa
  obtain ⟨its2, r2, p2, _⟩ := I.tuple qb
  obtain ⟨t1, t2, rfl⟩ : ∃ t1 t2, its = [Value.int m1 t1, .int m2 t2] := by
    cases r1 with
    | cons a1 b1 =>
      cases b1 with
      | cons a2 b2 =>
        cases b2
        obtain ⟨t1, e1⟩ := a1
        obtain ⟨t2, e2⟩ := a2
        exact ⟨t1, t2, by rw [e1, e2]⟩
  obtain ⟨t3, t4, rfl⟩ : ∃ t3 t4, its2 = [Value.int m3 t3, .int m4 t4] := by
    cases r2 with
    | cons a1 b1 =>
      cases b1 with
      | cons a2 b2 =>
        cases b2
        obtain ⟨t1, e1⟩ := a1
        obtain ⟨t2, e2⟩ := a2
        exact ⟨t1, t2, by rw [e1, e2]⟩
  have G := Ob.RcOp.tuples_gt (A := X.A) (s := s) (e := fun j => if j = 0 then m1 == m3 else m2 == m4) (r := fun j => if j = 0 then decide (m3 < m1) else decide (m4 < m2)) p1 p2 (by omega)
    (fun j j1 j2 => by
      match j, j1, j2 with
      | 0, _, _ => exact SeqAt.EqAt.int_int _ _ _ _
      | 1, _, _ => exact SeqAt.EqAt.int_int _ _ _ _)
    (fun j j1 j2 _ => by
      match j, j1, j2 with
      | 0, _, _ => exact Ob.RcOp.gt_int _ _ _ _
      | 1, _, _ => exact Ob.RcOp.gt_int _ _ _ _)
  have z : Ob.lexAt (fun j => if j = 0 then m1 == m3 else m2 == m4) (fun j => if j = 0 then decide (m3 < m1) else decide (m4 < m2)) (decide (([Value.int m1 t1, .int m2 t2].toArray).size > ([Value.int m3 t3, .int m4 t4].toArray).size)) 0 (min ([Value.int m1 t1, .int m2 t2].toArray).size ([Value.int m3 t3, .int m4 t4].toArray).size) = (if m1 = m3 then decide (m4 < m2) else decide (m3 < m1)) := by
    show (if (m1 == m3) = true then (if (m2 == m4) = true then false else decide (m4 < m2)) else decide (m3 < m1)) = _
    by_cases c1 : m1 = m3
    · rw [if_pos (beq_iff_eq.mpr c1), if_pos c1]
      by_cases c2 : m2 = m4
      · rw [if_pos (beq_iff_eq.mpr c2)]
        exact (decide_eq_false (by omega)).symm
      · rw [if_neg (fun q => c2 (beq_iff_eq.mp q))]
    · rw [if_neg (fun q => c1 (beq_iff_eq.mp q)), if_neg c1]
  rw [z] at G
  exact G X.prog X.w X.xe (EP X pins σ Q) ⟨.bl _, H, I, rfl, kont_self k S rfl⟩
end
/-! ### two clauses in a comprehension -/
def lcF2 (g : GF) (ft : TF) (fi1 : IF) (g1 : GF) (ft1 : TF) (fe : EF) (vs1 : List Nat) (it : ItD) (n : Nat) (ρ : Sl) : Nat → Nat → Sto → Option Sto
  | 0, i, μ => match itAt it i μ with
    | some none => some μ
    | _ => none
  | m + 1, i, μ => match itAt it i μ with
    | some none => some μ
    | some (some d) => (g d ρ μ).bind fun p => (ft p.1 p.2).bind fun q => if q.1 = true then (fi1 p.1 q.2).bind fun r => (lcF g1 ft1 fe r.1 n (wipeD p.1 vs1) (itLen r.1 r.2) 0 r.2).bind fun μ' => lcF2 g ft fi1 g1 ft1 fe vs1 it n ρ m (i + 1) μ'
      else lcF2 g ft fi1 g1 ft1 fe vs1 it n ρ m (i + 1) q.2
    | none => none
def fLc2 (fi : IF) (g : GF) (ft : TF) (fi1 : IF) (g1 : GF) (ft1 : TF) (fe : EF) (vs vs1 : List Nat) : EF := fun ρ μ => (fi ρ μ).bind fun p => (lcF2 g ft fi1 g1 ft1 fe vs1 p.1 p.2.length (wipeD ρ vs) (itLen p.1 p.2) 0 (p.2 ++ [.lst []])).map fun μ' => (.loc p.2.length, μ')
theorem i_lc2 {K : PySem.W.Frag} {fi fi1 : IF} {t t1 : TG} {g g1 : GF} {ft ft1 : TF} {fe : EF} {vs vs1 : List Nat} (w : WG K vs t g) (w1 : WG K vs1 t1 g1) :
    ∀ σ H Q, tE K (fLc2 fi g ft fi1 g1 ft1 fe vs vs1) σ H Q → tLc2 (tI K fi) t (tT K ft) (tI K fi1) t1 (tT K ft1) (tE K fe) vs vs1 σ H Q := by
  rintro σ H Q ⟨α, ρ, μ, d, μ', S, R, e, k⟩
  obtain ⟨⟨it, μ1⟩, e1, e2⟩ := Option.bind_eq_some_iff.mp e
  obtain ⟨μ2, e3, e4⟩ := Option.map_eq_some_iff.mp e2
  cases e4
  refine ⟨α, ρ, μ, it, μ1, S, R, e1, fun H1 α1 J E1 S1 h1 => ?_⟩
  refine fun DD hD => ?_
  have E2 : Ext K H1 α1 (upd H1 DD (.lst [])) (α1 ++ [DD]) := ext_new α1 [DD] hD
  have S2 : RepS K (upd H1 DD (.lst [])) (α1 ++ [DD]) (μ1 ++ [.lst []]) := S1.new hD ⟨[], upd_same, rfl⟩
  have hn : (α1 ++ [DD])[μ1.length]? = some DD := by rw [← S1.len]; simp
  refine ⟨fun i m H => ∃ α μ, RepS K H α μ ∧ Ext K (upd H1 DD (.lst [])) (α1 ++ [DD]) H α ∧ lcF2 g ft fi1 g1 ft1 fe vs1 it μ1.length (wipeD ρ vs) m i μ = some μ', ⟨_, _, _, S2, Ext.refl, e3⟩, ?_⟩
  rintro i m H3 ⟨α3, μ3, S3, E3, e5⟩
  have n3 : α3[μ1.length]? = some DD := let ⟨_, p⟩ := E3.pre; pre_get p hn
  have h3 : ItR K H3 α3 it J := h1.up (E2.trans E3)
  have R3 : RepR K H3 α3 (wipeD ρ vs) (wipe σ vs) := (R.up (E1.trans (E2.trans E3))).wipe vs
  have fin : itAt it i μ3 = some none → μ3 = μ' → J.stop i H3 ∧ Q (.ref DD) H3 := fun q z => by
    subst z
    exact ⟨it_stop h3 S3 q, k H3 α3 _ (E1.trans (E2.trans E3)) S3 ⟨DD, rfl, n3⟩⟩
  cases m with
  | zero =>
    unfold lcF2 at e5
    split at e5
    · rename_i q
      exact .inl (fin q (Option.some.inj e5))
    · cases e5
  | succ m =>
    unfold lcF2 at e5
    split at e5
    · rename_i q
      exact .inl (fin q (Option.some.inj e5))
    · rename_i d q
      obtain ⟨ga, gb⟩ := it_go h3 S3 q
      obtain ⟨⟨ρ4, μ4⟩, e6, e7⟩ := Option.bind_eq_some_iff.mp e5
      obtain ⟨⟨b, μ5⟩, e8, e9⟩ := Option.bind_eq_some_iff.mp e7
      refine .inr ⟨ga, fun H => ∃ α μ, RepS K H α μ ∧ Ext K (upd H1 DD (.lst [])) (α1 ++ [DD]) H α ∧ lcF2 g ft fi1 g1 ft1 fe vs1 it μ1.length (wipeD ρ vs) m (i + 1) μ = some μ', fun H' n => ⟨m, Nat.lt_succ_self m, n⟩, fun x H' y => ?_⟩
      obtain ⟨rfl, rx⟩ := gb x H' y
      have hm : μ4 = μ3 := w.st _ _ _ _ _ e6
      refine w.go x _ _ _ α3 (wipeD ρ vs) μ3 d ρ4 μ4 R3 rx e6 fun σ4 w4 R4 => ⟨w4.trans (wipe_wipe σ vs), α3, ρ4, μ4, b, μ5, by rw [hm]; exact S3, R4, e8, fun H5 α5 E5 S5 => ?_⟩
      cases b with
      | false => exact ⟨α5, μ5, S5, E3.trans E5, e9⟩
      | true =>
        rw [if_pos rfl] at e9 ⊢
        obtain ⟨⟨it1, μ6⟩, e10, e11⟩ := Option.bind_eq_some_iff.mp e9
        refine ⟨α5, ρ4, μ5, it1, μ6, S5, R4.up E5, e10, fun H6 α6 J1 E6 S6 h6 => ?_⟩
        obtain ⟨μ7, e12, e13⟩ := Option.bind_eq_some_iff.mp e11
        refine ⟨fun j kk H => ∃ α μ, RepS K H α μ ∧ Ext K H6 α6 H α ∧ lcF g1 ft1 fe it1 μ1.length (wipeD ρ4 vs1) kk j μ = some μ7, ⟨_, _, _, S6, Ext.refl, e12⟩, ?_⟩
        rintro j kk H7 ⟨α7, μ8, S7, E7, e14⟩
        have n7 : α7[μ1.length]? = some DD := let ⟨_, p⟩ := (E5.trans (E6.trans E7)).pre; pre_get p n3
        have h7 : ItR K H7 α7 it1 J1 := h6.up E7
        have R7 : RepR K H7 α7 (wipeD ρ4 vs1) (wipe σ4 vs1) := (R4.up (E5.trans (E6.trans E7))).wipe vs1
        have fin1 : itAt it1 j μ8 = some none → μ8 = μ7 → J1.stop j H7 ∧ ∃ α μ, RepS K H7 α μ ∧ Ext K (upd H1 DD (.lst [])) (α1 ++ [DD]) H7 α ∧ lcF2 g ft fi1 g1 ft1 fe vs1 it μ1.length (wipeD ρ vs) m (i + 1) μ = some μ' := fun q z => by
          subst z
          exact ⟨it_stop h7 S7 q, α7, _, S7, E3.trans (E5.trans (E6.trans E7)), e13⟩
        cases kk with
        | zero =>
          unfold lcF at e14
          split at e14
          · rename_i q
            exact .inl (fin1 q (Option.some.inj e14))
          · cases e14
        | succ kk =>
          unfold lcF at e14
          split at e14
          · rename_i q
            exact .inl (fin1 q (Option.some.inj e14))
          · rename_i d1 q
            obtain ⟨gc, gd⟩ := it_go h7 S7 q
            obtain ⟨⟨ρ8, μ9⟩, e15, e16⟩ := Option.bind_eq_some_iff.mp e14
            obtain ⟨⟨b1, μ10⟩, e17, e18⟩ := Option.bind_eq_some_iff.mp e16
            refine .inr ⟨gc, fun H => ∃ α μ, RepS K H α μ ∧ Ext K H6 α6 H α ∧ lcF g1 ft1 fe it1 μ1.length (wipeD ρ4 vs1) kk (j + 1) μ = some μ7, fun H' n => ⟨kk, Nat.lt_succ_self kk, n⟩, fun x H' y => ?_⟩
            obtain ⟨rfl, rx1⟩ := gd x H' y
            have hm1 : μ9 = μ8 := w1.st _ _ _ _ _ e15
            refine w1.go x _ _ _ α7 (wipeD ρ4 vs1) μ8 d1 ρ8 μ9 R7 rx1 e15 fun σ8 w8 R8 => ⟨w8.trans (wipe_wipe σ4 vs1), α7, ρ8, μ9, b1, μ10, by rw [hm1]; exact S7, R8, e17, fun H9 α9 E9 S9 => ?_⟩
            cases b1 with
            | false => exact ⟨α9, μ10, S9, E7.trans E9, e18⟩
            | true =>
              rw [if_pos rfl] at e18 ⊢
              obtain ⟨⟨z, μ11⟩, e19, e20⟩ := Option.bind_eq_some_iff.mp e18
              refine ⟨α9, ρ8, μ10, z, μ11, S9, R8.up E9, e19, fun H10 α10 v E10 S10 r10 => ?_⟩
              simp only at e20
              split at e20
              · rename_i acc q6
                split at e20
                · rename_i hl
                  have n10 : α10[μ1.length]? = some DD := let ⟨_, p⟩ := (E9.trans E10).pre; pre_get p n7
                  obtain ⟨xs, hx, rr⟩ := S10.ob _ _ _ n10 q6
                  have nt := nt_lst hx
                  exact ⟨xs, hx, by rw [← rr.length]; exact hl, α10, _, S10.write (ob := .lst (acc ++ [z])) n10 nt ⟨_, upd_same, (rr.append (Reps.one r10)).up (ext_write nt)⟩, E7.trans (E9.trans (E10.trans (ext_write nt))), e20⟩
                · cases e20
              · cases e20
          · cases e14
    · cases e5
theorem de_lc2 {X : Cx} {elt tg iter tg1 iter1 : Expr} {ifs ifs1 : List Expr} {scope : Scope} {own : List (Str × Nat)} {vs1 : List Nat} {pos : Pos} {fi fi1 : IF} {t t1 : TG} {g g1 : GF} {ft ft1 : TF} {fe : EF} (cal : X.calm = true) (nd : X.N.Nodup) (hi : PI X tg iter (tI X.K fi)) (ok : BlkOk X.N X.env.scope scope own) (sub : ∀ i ∈ vs1, i ∈ own.map (·.2))
    (pg : ∀ (s : Shared) (H : Hp) (C : Addr) (cl : List (Str × Addr)) (fp : List Addr), PG (X.blk s H scope (compEnvC scope cl C X.env) fp) tg t) (w : WG X.K (own.map (·.2)) t g)
    (pt : ∀ (s : Shared) (H : Hp) (C : Addr) (cl : List (Str × Addr)) (fp : List Addr), PTs (X.blk s H scope (compEnvC scope cl C X.env) fp) ifs (tT X.K ft))
    (pi1 : ∀ (s : Shared) (H : Hp) (C : Addr) (cl : List (Str × Addr)) (fp : List Addr), PI (X.blk s H scope (compEnvC scope cl C X.env) fp) tg1 iter1 (tI X.K fi1))
    (pg1 : ∀ (s : Shared) (H : Hp) (C : Addr) (cl : List (Str × Addr)) (fp : List Addr), PG (X.blk s H scope (compEnvC scope cl C X.env) fp) tg1 t1) (w1 : WG X.K vs1 t1 g1)
    (pt1 : ∀ (s : Shared) (H : Hp) (C : Addr) (cl : List (Str × Addr)) (fp : List Addr), PTs (X.blk s H scope (compEnvC scope cl C X.env) fp) ifs1 (tT X.K ft1))
    (pe : ∀ (s : Shared) (H : Hp) (C : Addr) (cl : List (Str × Addr)) (fp : List Addr), PE (X.blk s H scope (compEnvC scope cl C X.env) fp) elt (tE X.K fe)) (hs : ∀ x, foldedSetIterable iter X.env x = pure x := by intro _; rfl) (hs1 : ∀ env x, foldedSetIterable iter1 env x = pure x := by intro _ _; rfl) :
    PE X (.ListComp elt [⟨tg, iter, ifs, 0⟩, ⟨tg1, iter1, ifs1, 0⟩] scope pos) (tE X.K (fLc2 fi g ft fi1 g1 ft1 fe (own.map (·.2)) vs1)) := (pe_lc2 cal nd hi ok sub pg pt pi1 pg1 pt1 pe hs hs1).imp (i_lc2 w w1)
end DL
/-! DY: for .. in enumerate(a tuple). -/
namespace DL
open PySem PySem.Spec PyProof.Rows L2
theorem drawsT {prog : Program} {w : World} {A : Around} (calm : A.handled = none) (it l : Addr) (apart : l ≠ it) (us : Array Value) :
    Draws prog w A it [it, l] us.size (fun i v => us[i]? = some v) (fun i h => h.IsTupleIter it l i ∧ h.IsTuple l us) where
  live := fun _ _ ⟨⟨o, ho, _⟩, _⟩ => ⟨o, ho⟩
  frame := fun _ _ _ ⟨a, ⟨o, ho, r⟩⟩ hk => ⟨a.at fun o e => hk it (by simp) o e, ⟨o, hk l (by simp) o ho, r⟩⟩
  item := fun i s Q E hi st hQ => wpAny_nextOf_tuple_item st.1 st.2 (x := us[i]) (by simp [hi]) fun h' a sb => hQ _ h' s.toks (by simp [hi]) ⟨a, by
    obtain ⟨o, ho, r⟩ := st.2
    exact ⟨o, (sb.2 l apart).trans ho, r⟩⟩ sb
  done := fun s Q E st hE => wpAny_nextOf_tuple_end calm st.1 st.2 (by simp) hE
theorem drawsEnd {prog : Program} {w : World} {A : Around} (calm : A.handled = none) (it l : Addr) (us : Array Value) (n : Nat) (le : us.size ≤ n) :
    Draws prog w A it [it, l] n (fun _ _ => True) (fun i h => i = n ∧ h.IsTupleIter it l n ∧ h.IsTuple l us) where
  live := fun _ _ ⟨_, ⟨o, ho, _⟩, _⟩ => ⟨o, ho⟩
  frame := fun _ _ _ ⟨z, a, ⟨o, ho, r⟩⟩ hk => ⟨z, a.at fun o e => hk it (by simp) o e, ⟨o, hk l (by simp) o ho, r⟩⟩
  item := fun i s Q E hi st hQ => absurd st.1 (Nat.ne_of_lt hi)
  done := fun s Q E st hE => wpAny_nextOf_tuple_end calm st.2.1 st.2.2 (by simp [le]) hE
theorem meets_enumT (l : Addr) (us : Array Value) (n : Nat) (dd : Option Addr) (slo : Array (Option Value)) :
    Meets (Builtin.«enumerate.__new__» ⟨[.type "enumerate", .ref l], []⟩) (fun _ R s => s.heap.get? l = some { cls := .type "tuple", dict := dd, data := .seq us n, slots := slo } ∧
      R (.ok (.ret (.ref (s.heap.push { cls := .type "tuple_iterator", data := .fields #[.ref l, .int 0 0] }).objs.size)))
        { s with heap := (s.heap.push { cls := .type "tuple_iterator", data := .fields #[.ref l, .int 0 0] }).push { cls := .type "enumerate", data := .fields #[.none, .bool false, .ref s.heap.objs.size, rawInt 0, .none, .none] } }) :=
  .of_wp fun prog w A R s h => by
    obtain ⟨hp, g, d, tk, os⟩ := s; obtain ⟨here, h⟩ := h
    have sub := sub_enumerate
    have tupl : Heap.IsTuple (Shared.heap ⟨hp, g, d, tk, os⟩) l us := ⟨_, here, rfl, n, rfl⟩
    wp_walk using AutoSeq1.wpAny_loadPart' here
    refine wpAny_stack_any fun st => wpAny_pure ?_
    split
    · rename_i c _ _ _ _ _
      cases (c == Value.type "enumerate")
      · wp_walk using AutoSeq1.wpAny_loadPart' here, wpAny_pyIter_tuple tupl
        exact ⟨_, rfl, h⟩
      · wp_walk using AutoSeq1.wpAny_loadPart' here, wpAny_pyIter_tuple tupl
        exact ⟨_, rfl, h⟩
    · wp_walk using AutoSeq1.wpAny_loadPart' here, wpAny_pyIter_tuple tupl
      exact ⟨_, rfl, h⟩
theorem call_enumT {prog : Program} {w : World} {A : Around} {E : Value → Shared → Prop} {s : Shared} {l : Addr} {us : Array Value} {Q : Value → Shared → Prop} (tupl : s.heap.IsTuple l us)
    (q : ∀ h', IsEnum h' (s.heap.objs.size + 1) s.heap.objs.size 0 .none → h'.IsTupleIter s.heap.objs.size l 0 → (∀ b o, s.heap.get? b = some o → h'.get? b = some o) → Q (.ref (s.heap.objs.size + 1)) { s with heap := h' }) :
    wpAny (model prog w) A (call (.type "enumerate") [.ref l]) Q E s := by
  obtain ⟨⟨c, dct, dt, slo⟩, here, hc, n, hd⟩ := tupl
  replace hc : c = .type "tuple" := hc
  replace hd : dt = .seq us n := hd
  subst hc hd
  refine callType_new PySem.F.called_enumerate (by decide) (PySem.F.typeCall_enumerate_1 _) (PySem.F.newCall_enumerate_1 _) (fun obj => PySem.F.args_object_init_2 obj _) PySem.F.entry_enumerate_new (meets_enumT l us n dct slo) ⟨here, ?_⟩
  have sz : (s.heap.push { cls := .type "tuple_iterator", data := .fields #[.ref l, .int 0 0] }).objs.size = s.heap.objs.size + 1 := Heap.size_push ..
  show _ ∧ _
  rw [sz]
  have en : IsEnum ((s.heap.push { cls := .type "tuple_iterator", data := .fields #[.ref l, .int 0 0] }).push { cls := .type "enumerate", data := .fields #[.none, .bool false, .ref s.heap.objs.size, rawInt 0, .none, .none] }) (s.heap.objs.size + 1) s.heap.objs.size 0 .none := by
    have z := Heap.get?_push_size (s.heap.push { cls := .type "tuple_iterator", data := .fields #[.ref l, .int 0 0] }) (o := { cls := .type "enumerate", data := .fields #[.none, .bool false, .ref s.heap.objs.size, rawInt 0, .none, .none] }) rfl
    rw [sz] at z; exact z
  exact ⟨⟨_, en, rfl⟩, q _ en ⟨_, Heap.get?_push_of_some _ (Heap.get?_push_size _ rfl), rfl, rfl⟩ fun b o x => Heap.get?_push_of_some _ (Heap.get?_push_of_some _ x)⟩
/-- the turns of a walk over a tuple's places and items, each in a new pair -/
def ItE (K : PySem.W.Frag) (a : Addr) : It :=
  ⟨fun i H => ∃ (xs : List V) (x : V), SqT K H a xs ∧ xs[i]? = some x, fun i H v H' => ∃ T x, v = .ref T ∧ H T = none ∧ H' = upd H T (.tup [.int (i : Nat), x]) ∧ ∀ xs, SqT K H a xs → xs[i]? = some x, fun i H => ∃ xs : List V, SqT K H a xs ∧ xs.length ≤ i⟩
theorem turn_enumT {P : Program} {w : World} {K : PySem.W.Frag} {elts : List Expr} {kk : Nat} {tpos : Pos} (a e it : Addr) :
    Turn P w K (.Tuple elts kk tpos) (ItE K a) [e, it] e (fun i h => (∃ old, IsEnum h e it ((i : Nat) : Int) old) ∧ h.IsTupleIter it a i ∧ e ≠ it) where
  mem := by simp
  obj := fun i h ⟨⟨old, he⟩, ⟨o, ho, hc, hd⟩, _⟩ b hb => by
    rcases (by simpa using hb : b = e ∨ b = it) with z | z
    · rw [z]; exact ⟨_, he, fun v q => nomatch q⟩
    · rw [z]; exact ⟨o, ho, fun v q => by rw [hd] at q; cases q⟩
  keep := fun i h h' ⟨⟨old, he⟩, hi, hne⟩ k => ⟨⟨old, k e (by simp) _ he⟩, hi.at fun o q => k it (by simp) o q, hne⟩
  item := by
    rintro X rfl rfl rfl hc i pins s σ H E I hf ⟨⟨old, he⟩, hit, hne⟩ ⟨xs, x, hq, hx⟩
    obtain ⟨us, rv, p, hz⟩ := I.tuple hq
    have tupl : s.heap.IsTuple a us.toArray := p
    obtain ⟨u, hu, ru⟩ := rv.get hx
    have hel : e < s.heap.objs.size := Heap.lt_size he
    have hil : it < s.heap.objs.size := by obtain ⟨_, q, _⟩ := hit; exact Heap.lt_size q
    have hea : e ≠ a := by
      rintro rfl
      obtain ⟨o, ho, hcl, _⟩ := tupl
      have he' : s.heap.get? e = some { cls := .type "enumerate", data := _ } := he
      rw [← Option.some.inj (he'.symm.trans ho)] at hcl
      simp at hcl
    have hia : a ≠ it := by
      rintro rfl
      obtain ⟨o, ho, hcl, _⟩ := tupl
      obtain ⟨o', ho', hcl', _⟩ := hit
      rw [← Option.some.inj (ho.symm.trans ho'), hcl] at hcl'
      simp at hcl'
    have lt : i < us.toArray.size := by
      rw [List.size_toArray]
      exact (List.getElem?_eq_some_iff.mp hu).1
    refine wpAny_pyNext_enum_itemD (drawsT (A := X.A.in1) (I.ok.hd hc) it a hia us.toArray) he ⟨hit, tupl⟩ lt hne (by simp [hne, hea]) fun y h' tk hy ho st hT hsz hk => ?_
    have ey : y = u := by
      have z : us.toArray[i]? = some u := by simpa using hu
      rw [z] at hy
      exact (Option.some.inj hy).symm
    subst ey
    refine ⟨_, rfl, wpAny_letOwnedTupleGo_enum (s := { s with heap := h', toks := tk + 1 }) ho fun h'' he' sb => ?_⟩
    have hT2 : h''.get? s.heap.objs.size = some { cls := .type "tuple", data := .seq #[.int i tk, y] } := (sb.2 _ (Nat.ne_of_gt hel)).trans hT
    have new : ObjOk X.prog X.w (upd H s.heap.objs.size (.tup [.int (i : Nat), x])) h'' s.heap.objs.size (.tup [.int (i : Nat), x]) :=
      ⟨by show 2 ≤ sizeLine; decide, [.int i tk, y], .cons ⟨_, rfl⟩ (.cons ru .nil), ⟨_, hT2, rfl, _, rfl⟩⟩
    have J : Inv X pins σ (upd H s.heap.objs.size (.tup [.int (i : Nat), x])) { s with heap := h'', toks := tk + 1 } :=
      I.turnedNew (ch := [e, it]) (fun b ob hb q => (sb.2 b (fun z => hb (by simp [z]))).trans (hk b ob (fun z => hb (by simp [z])) (fun z => hb (by simp [z])) q)) hf (Nat.le_refl _) new
    refine ⟨.ref s.heap.objs.size, _, J, rfl, ⟨_, x, rfl, I.hok.fresh (Nat.le_refl _), rfl, fun ys hy' => by rw [I.tuple_inj hy' hq]; exact hx⟩, ⟨⟨y, ?_⟩, st.1.at fun o q => (sb.2 it (Ne.symm hne)).trans q, hne⟩, fun b hb => ?_⟩
    · rw [show ((i + 1 : Nat) : Int) = (i : Int) + 1 by omega]; exact he'
    · rw [upd_ne (Nat.ne_of_lt (by
        rcases (by simpa using hb : b = e ∨ b = it) with z | z
        · rw [z]; exact hel
        · rw [z]; exact hil))]
      exact (hf b hb).1
  done := by
    rintro X rfl rfl rfl hc i pins s σ H E I hf ⟨⟨old, he⟩, hit, hne⟩ ⟨xs, hq, hx⟩
    obtain ⟨us, rv, p, hz⟩ := I.tuple hq
    have tupl : s.heap.IsTuple a us.toArray := p
    obtain ⟨f0, f1, f2, f3, f4, f5⟩ := hf it (by simp)
    have hl := rv.length
    exact wpAny_pyNext_enum_endD (drawsEnd (A := X.A.in1) (I.ok.hd hc) it a us.toArray i (by rw [List.size_toArray]; omega)) he ⟨rfl, hit, tupl⟩ fun h' eb => ⟨rfl, I.turned (t' := s.toks) (fun b o hb q => eb b o hb q) f0 f1 f3 f4 f5⟩
  self := fun A i s Q E ⟨⟨_, he⟩, _⟩ h => wpAny_pyIter_enum he h
def iEnumT (K : PySem.W.Frag) (ta : TA) : TI := fun σ H R => ta σ H fun vs H1 => ∃ a xs, vs = [.ref a] ∧ SqT K H1 a xs ∧ R (ItE K a) H1
theorem pi_enumT {X : Cx} {e : Expr} {ta : TA} {p pos tpos : Pos} {elts : List Expr} {kk : Nat} (gl : Gl X "enumerate") (mn : X.mg "enumerate" = none) (pa : PA X [e] ta) (st : starEach [e] X.env = [(false, eval e X.env)] := by rfl) :
    PI X (.Tuple elts kk tpos) (.Call (.Name "enumerate" p) [e] [] pos) (iEnumT X.K ta) := by
  refine ⟨fun pins s σ H R I h => ?_⟩
  refine Call_ (ld_blt I gl mn boot_enumerate (PyProof.Rows.callWith_type1 (thn (pa.run pos pins s σ H _ I h) fun us s1 ⟨vs, H1, I1, r1, q1⟩ => ?_) st rfl))
  obtain ⟨a, xs, rfl, hq, q⟩ := q1
  cases r1 with
  | cons r rr =>
    cases rr
    cases r
    obtain ⟨its, rv, p', hz⟩ := I1.tuple hq
    refine call_enumT (us := its.toArray) p' fun h' he hit hk => wpAny_pyIter_enum he ?_
    have I2 : Inv X pins σ H1 { s1 with heap := h' } := I1.kept (t' := s1.toks) hk
    refine ⟨s1.heap.objs.size + 1, [s1.heap.objs.size + 1, s1.heap.objs.size], _, _, H1, rfl, I2, turn_enumT a (s1.heap.objs.size + 1) s1.heap.objs.size, ⟨⟨.none, he⟩, hit, Nat.succ_ne_self _⟩, fun b hb => ?_, q⟩
    have ge : s1.heap.objs.size ≤ b := by
      rcases (by simpa using hb : b = s1.heap.objs.size + 1 ∨ b = s1.heap.objs.size) with z | z
      · rw [z]; exact Nat.le_add_right _ _
      · rw [z]; exact Nat.le_refl _
    exact I1.fpOk ge (I1.hok.fresh ge)
/-- places and items, in pairs -/
def enD (ds : List D) : List D := ds.zipIdx.map fun p => .tup [.int (p.2 : Nat), p.1]
theorem enD_get (ds : List D) (i : Nat) : (enD ds)[i]? = ds[i]?.map fun d => D.tup [.int (i : Nat), d] := by
  unfold enD
  rw [List.getElem?_map, List.getElem?_zipIdx]
  cases ds[i]? <;> simp
def iEnu (f : AF) : IF := fun ρ μ => (f ρ μ).bind fun p => match p.1 with
  | [.tup ds] => some (.tup (enD ds), p.2)
  | _ => none
theorem ds_forE {X : Cx} {pos : Pos} {e : Expr} {elts : List Expr} {kk : Nat} {tpos p cpos : Pos} {body : List Stmt} {fa : AF} {g : GF} {b : SF} (hp : PassesOwn (model X.prog X.w) X.A X.env X.xe) (cal : X.calm = true) (gl : Gl X "enumerate") (mn : X.mg "enumerate" = none) (pa : PA X [e] (tA X.K fa))
    (pg : PG X (.Tuple elts kk tpos) (tG X.K g)) (pb : PSs X body (tS X.K b)) (st : starEach [e] X.env = [(false, eval e X.env)] := by rfl)
    (hs : ∀ x, foldedSetIterable (.Call (.Name "enumerate" p) [e] [] cpos) X.env x = pure x := by intro _; rfl) : PS X (.For (.Tuple elts kk tpos) (.Call (.Name "enumerate" p) [e] [] cpos) body [] pos) (tS X.K (fFor (iEnu fa) g b)) := by
  refine PS.imp (ps_for hp cal (pi_enumT gl mn pa st) pg pb hs) ?_
  rintro D σ H ⟨α, ρ, μ, o, S, R, e0, k⟩
  obtain ⟨⟨it, μ1⟩, e1, e2⟩ := Option.bind_eq_some_iff.mp e0
  obtain ⟨⟨as, μ1'⟩, e1a, e1b⟩ := Option.bind_eq_some_iff.mp e1
  refine ⟨α, ρ, μ, as, μ1', S, R, e1a, fun H1 α1 vs E1 S1 r1 => ?_⟩
  simp only at e1b
  split at e1b
  · rename_i ds
    cases e1b
    obtain ⟨v, _, rfl, r2, r3⟩ := r1
    cases (show _ = _ from r3)
    obtain ⟨a, xs, rfl, sq, rr⟩ := r2
    refine ⟨a, xs, rfl, sq, fun i m σ H => ∃ α ρ μ o, RepS X.K H α μ ∧ RepR X.K H α ρ σ ∧ SqT X.K H a xs ∧ Reps X.K H α ds xs ∧ loopF g b (.tup (enD ds)) m i ρ μ = some o ∧ OutK X.K H α o D, ⟨_, α1, ρ, _, o, S1, R.up E1, sq, rr, e2, k.up E1⟩, ?_⟩
    rintro i m σ2 H2 ⟨α2, ρ2, μ2, o2, S2, R2, sq2, rr2, e3, k2⟩
    have stop : ds[i]? = none → (ItE X.K a).stop i H2 := fun z => ⟨xs, sq2, by rw [← rr2.length]; exact List.getElem?_eq_none_iff.mp z⟩
    cases m with
    | zero =>
      unfold loopF at e3
      simp only [itAt, enD_get] at e3
      cases hi : ds[i]? with
      | none => rw [hi] at e3; cases e3; exact .inl ⟨stop hi, k2 H2 α2 σ2 Ext.refl S2 R2⟩
      | some d => rw [hi] at e3; cases e3
    | succ m =>
      unfold loopF at e3
      simp only [itAt, enD_get] at e3
      cases hi : ds[i]? with
      | none => rw [hi] at e3; cases e3; exact .inl ⟨stop hi, k2 H2 α2 σ2 Ext.refl S2 R2⟩
      | some d =>
        rw [hi] at e3
        simp only [Option.map_some] at e3
        obtain ⟨⟨ρ3, μ3⟩, e4, e5⟩ := Option.bind_eq_some_iff.mp e3
        obtain ⟨o3, e6, e7⟩ := Option.bind_eq_some_iff.mp e5
        obtain ⟨xv, hx, rx⟩ := rr2.get hi
        refine .inr ⟨⟨xs, xv, sq2, hx⟩, fun σ H => ∃ α ρ μ o, RepS X.K H α μ ∧ RepR X.K H α ρ σ ∧ SqT X.K H a xs ∧ Reps X.K H α ds xs ∧ loopF g b (.tup (enD ds)) m (i + 1) ρ μ = some o ∧ OutK X.K H α o D, fun σ' H' n => ⟨m, Nat.lt_succ_self m, n⟩, fun x H' y => ?_⟩
        obtain ⟨T, xv', rfl, hT, rfl, hy⟩ := y
        have : xv' = xv := by
          have z := hy xs sq2
          rw [hx] at z
          exact (Option.some.inj z).symm
        subst this
        have E2 : Ext X.K H2 α2 (upd H2 T (.tup [.int (i : Nat), xv'])) α2 := ext_tup α2 hT
        have S2' : RepS X.K (upd H2 T (.tup [.int (i : Nat), xv'])) α2 μ2 := S2.tup hT
        have nr : Rep X.K (upd H2 T (.tup [.int (i : Nat), xv'])) α2 (.tup [.int (i : Nat), d]) (.ref T) := ⟨T, [.int (i : Nat), xv'], rfl, SqT.of upd_same, .int (i : Nat), [xv'], rfl, rfl, xv', [], rfl, rx.up E2, rfl⟩
        refine ⟨α2, ρ2, μ2, _, ρ3, μ3, S2', R2.up E2, nr, e4, fun H3 α3 σ3 E3 S3 R3 => ⟨α3, ρ3, μ3, o3, S3, R3, e6, ?_⟩⟩
        have EE := E2.trans E3
        cases o3 with
        | nx ρ4 μ4 => exact fun H4 α4 σ4 E4 S4 R4 => ⟨α4, ρ4, μ4, o2, S4, R4, (EE.trans E4).tup _ _ sq2, rr2.up (EE.trans E4), e7, k2.up (EE.trans E4)⟩
        | ct ρ4 μ4 => exact fun H4 α4 σ4 E4 S4 R4 => ⟨α4, ρ4, μ4, o2, S4, R4, (EE.trans E4).tup _ _ sq2, rr2.up (EE.trans E4), e7, k2.up (EE.trans E4)⟩
        | bk ρ4 μ4 => cases e7; exact Ahd.up k2 EE
        | rt d4 μ4 => cases e7; exact Kont.up k2 EE
  · cases e1b
end DL
namespace K37
open PySem PySem.Spec PyProof.Rows L2 DL
def top (i : Nat) : Stmt := PySem.Challenge.pw_bandsplits_k37_whole_turns_judged.main.body.getD i (.Pass ⟨0, 0, 0, 0⟩)
abbrev deepest : Nat := 12
def fuelC : Sl → Sto → Nat := fun ρ _ => match ρ with
  | [_, some (.int j)] => j.natAbs + 1
  | _ => 0

abbrev n_is_whole : List Str := ["value"]
theorem sc_is_whole : FnScope n_is_whole ["value"] (defScope (top 3)) := ⟨rfl, rfl, rfl, by decide +kernel, rfl, by decide +kernel, by decide +kernel⟩
def F_is_whole : GN := fDef 1 1 (fRet (fAndV (fCB cIsi (fCons (fVar 0) (fCons (fC (.ty "int")) fNil))) (fNotV (fCB cIsi (fCons (fVar 0) (fCons (fC (.ty "bool")) fNil))))))
abbrev n_is_fraction : List Str := ["value", "top", "bottom"]
theorem sc_is_fraction : FnScope n_is_fraction ["value"] (defScope (top 4)) := ⟨rfl, rfl, rfl, by decide +kernel, rfl, by decide +kernel, by decide +kernel⟩
def F_is_fraction : GN := fDef 1 3 (fSeq (fIfS (fOr (fNot (fT (fCB cIsi (fCons (fVar 0) (fCons (fC (.ty "tuple")) fNil))))) (fB (fBin opNe (fCB cLen (fCons (fVar 0) fNil)) (fC (.int 2))))) (fRet (fC (.bl false))) fSkip)
    (fSeq (fAsg (fVar 0) (gTp 2 (gCn (gNm 1) (gCn (gNm 2) gNl))))
    (fSeq (fIfS (fOr (fNot (fT (fCB F_is_whole (fCons (fVar 1) fNil)))) (fNot (fT (fCB F_is_whole (fCons (fVar 2) fNil))))) (fRet (fC (.bl false))) fSkip)
    (fRet (fAndV (fBin opGt (fVar 2) (fC (.int 0))) (fBin opEqM (fCB cGcd (fCons (fVar 1) (fCons (fVar 2) fNil))) (fC (.int 1))))))))
abbrev n_reduced : List Str := ["top", "bottom", "common"]
theorem sc_reduced : FnScope n_reduced ["top", "bottom"] (defScope (top 5)) := ⟨rfl, rfl, rfl, by decide +kernel, rfl, by decide +kernel, by decide +kernel⟩
def F_reduced : GN := fDef 2 3 (fSeq (fAsg (fCB cGcd (fCons (fVar 0) (fCons (fVar 1) fNil))) (gNm 2))
    (fSeq (fIfS (fB (fBin opLt (fVar 1) (fC (.int 0)))) (fAsg (fUn unNeg (fVar 2)) (gNm 2)) fSkip)
    (fRet (fTup (fCons (fBin opFdiv (fVar 0) (fVar 2)) (fCons (fBin opFdiv (fVar 1) (fVar 2)) fNil))))))
abbrev n_plus : List Str := ["number", "other"]
theorem sc_plus : FnScope n_plus ["number", "other"] (defScope (top 6)) := ⟨rfl, rfl, rfl, by decide +kernel, rfl, by decide +kernel, by decide +kernel⟩
def F_plus : GN := fDef 2 2 (fSeq (fIfS (fB (fBin opEqM (fBin opIx (fVar 0) (fC (.int 0))) (fC (.int 0)))) (fRet (fVar 1)) fSkip)
    (fSeq (fIfS (fB (fBin opEqM (fBin opIx (fVar 1) (fC (.int 0))) (fC (.int 0)))) (fRet (fVar 0)) fSkip)
    (fRet (fCB F_reduced (fCons (fBin opAdd (fBin opMul (fBin opIx (fVar 0) (fC (.int 0))) (fBin opIx (fVar 1) (fC (.int 1)))) (fBin opMul (fBin opIx (fVar 1) (fC (.int 0))) (fBin opIx (fVar 0) (fC (.int 1))))) (fCons (fBin opMul (fBin opIx (fVar 0) (fC (.int 1))) (fBin opIx (fVar 1) (fC (.int 1)))) fNil))))))
abbrev n_times : List Str := ["number", "other"]
theorem sc_times : FnScope n_times ["number", "other"] (defScope (top 7)) := ⟨rfl, rfl, rfl, by decide +kernel, rfl, by decide +kernel, by decide +kernel⟩
def F_times : GN := fDef 2 2 (fRet (fCB F_reduced (fCons (fBin opMul (fBin opIx (fVar 0) (fC (.int 0))) (fBin opIx (fVar 1) (fC (.int 0)))) (fCons (fBin opMul (fBin opIx (fVar 0) (fC (.int 1))) (fBin opIx (fVar 1) (fC (.int 1)))) fNil))))
abbrev n_is_pair : List Str := ["value"]
theorem sc_is_pair : FnScope n_is_pair ["value"] (defScope (top 9)) := ⟨rfl, rfl, rfl, by decide +kernel, rfl, by decide +kernel, by decide +kernel⟩
def F_is_pair : GN := fDef 1 1 (fRet (fAndV (fCB cIsi (fCons (fVar 0) (fCons (fC (.ty "tuple")) fNil))) (fBin opEqM (fCB cLen (fCons (fVar 0) fNil)) (fC (.int 2)))))
abbrev n_is_direction : List Str := ["value"]
theorem sc_is_direction : FnScope n_is_direction ["value"] (defScope (top 12)) := ⟨rfl, rfl, rfl, by decide +kernel, rfl, by decide +kernel, by decide +kernel⟩
def F_is_direction : GN := fDef 1 1 (fSeq (fIfS (fOr (fNot (fT (fCB F_is_pair (fCons (fVar 0) fNil)))) (fOr (fNot (fT (fCB F_is_whole (fCons (fBin opIx (fVar 0) (fC (.int 0))) fNil)))) (fNot (fT (fCB F_is_whole (fCons (fBin opIx (fVar 0) (fC (.int 1))) fNil)))))) (fRet (fC (.bl false))) fSkip)
    (fRet (fAndV (fBin opEqM (fCB cGcd (fCons (fBin opIx (fVar 0) (fC (.int 0))) (fCons (fBin opIx (fVar 0) (fC (.int 1))) fNil))) (fC (.int 1))) (fBin opGtT (fVar 0) (fTup (fCons (fC (.int 0)) (fCons (fC (.int 0)) fNil)))))))
abbrev n_sum_of_products : List Str := ["first", "second", "third", "fourth"]
theorem sc_sum_of_products : FnScope n_sum_of_products ["first", "second", "third", "fourth"] (defScope (top 14)) := ⟨rfl, rfl, rfl, by decide +kernel, rfl, by decide +kernel, by decide +kernel⟩
def F_sum_of_products : GN := fDef 4 4 (fRet (fCB F_plus (fCons (fCB F_times (fCons (fVar 0) (fCons (fVar 1) fNil))) (fCons (fCB F_times (fCons (fVar 2) (fCons (fVar 3) fNil))) fNil))))
abbrev n_is_last_table : List Str := ["value", "left", "right", "across", "upper_left", "upper_right", "lower_left", "lower_right", "line", "number"]
theorem sc_is_last_table : FnScope n_is_last_table ["value"] (defScope (top 13)) := ⟨rfl, rfl, rfl, by decide +kernel, rfl, by decide +kernel, by decide +kernel⟩
def F_is_last_table : GN := fDef 1 10 (fSeq (fIfS (fOr (fNot (fT (fCB F_is_pair (fCons (fVar 0) fNil)))) (fOr (fNot (fT (fCB F_is_pair (fCons (fBin opIx (fVar 0) (fC (.int 0))) fNil)))) (fNot (fT (fCB F_is_pair (fCons (fBin opIx (fVar 0) (fC (.int 1))) fNil)))))) (fRet (fC (.bl false))) fSkip)
    (fSeq (fIfS (fNot (fT (fCB cAll (fCons (fLc2 (iVal (fVar 0)) (gNm 8) fYes (iVal (fVar 8)) (gNm 9) fYes (fCB F_is_fraction (fCons (fVar 9) fNil)) [8, 9] [9]) fNil)))) (fRet (fC (.bl false))) fSkip)
    (fSeq (fAsg (fVar 0) (gTp 2 (gCn (gTp 2 (gCn (gNm 4) (gCn (gNm 5) gNl))) (gCn (gTp 2 (gCn (gNm 6) (gCn (gNm 7) gNl))) gNl))))
    (fSeq (fAsg (fCB F_sum_of_products (fCons (fVar 4) (fCons (fVar 4) (fCons (fVar 6) (fCons (fVar 6) fNil))))) (gNm 1))
    (fSeq (fAsg (fCB F_sum_of_products (fCons (fVar 5) (fCons (fVar 5) (fCons (fVar 7) (fCons (fVar 7) fNil))))) (gNm 2))
    (fSeq (fAsg (fCB F_sum_of_products (fCons (fVar 4) (fCons (fVar 5) (fCons (fVar 6) (fCons (fVar 7) fNil))))) (gNm 3))
    (fRet (fAndV (fBin opEqM (fVar 1) (fVar 2)) (fAndV (fBin opNe (fVar 1) (fC (.tup [.int 0, .int 1]))) (fBin opEqM (fVar 3) (fC (.tup [.int 0, .int 1]))))))))))))
abbrev n_is_turns : List Str := ["value", "shift", "directions", "last", "at", "first", "second", "direction"]
theorem sc_is_turns : FnScope n_is_turns ["value"] (defScope (top 11)) := ⟨rfl, rfl, rfl, by decide +kernel, rfl, by decide +kernel, by decide +kernel⟩
def F_is_turns : GN := fDef 1 8 (fSeq (fIfS (fOr (fNot (fT (fCB cIsi (fCons (fVar 0) (fCons (fC (.ty "tuple")) fNil))))) (fB (fBin opNe (fCB cLen (fCons (fVar 0) fNil)) (fC (.int 3))))) (fRet (fC (.bl false))) fSkip)
    (fSeq (fAsg (fVar 0) (gTp 3 (gCn (gNm 1) (gCn (gNm 2) (gCn (gNm 3) gNl)))))
    (fSeq (fIfS (fOr (fNot (fT (fCB F_is_whole (fCons (fVar 1) fNil)))) (fOr (fNot (fT (fCB cIsi (fCons (fVar 2) (fCons (fC (.ty "tuple")) fNil))))) (fNot (fT (fCB F_is_last_table (fCons (fVar 3) fNil)))))) (fRet (fC (.bl false))) fSkip)
    (fSeq (fIfS (fNot (fT (fCB cAll (fCons (fLc (iVal (fVar 2)) (gNm 7) fYes (fCB F_is_direction (fCons (fVar 7) fNil)) [7]) fNil)))) (fRet (fC (.bl false))) fSkip)
    (fSeq (fFor (iEnu (fCons (fSl (fVar 2) (fPart (fC (.int 1))) fNoPart) fNil)) (gTp 2 (gCn (gNm 4) (gCn (gTp 2 (gCn (gNm 5) (gCn (gNm 6) gNl))) gNl))) (fIfS (fB (fBin opEqM (fBin opAdd (fBin opMul (fVar 5) (fBin opIx (fBin opIx (fVar 2) (fVar 4)) (fC (.int 0)))) (fBin opMul (fVar 6) (fBin opIx (fBin opIx (fVar 2) (fVar 4)) (fC (.int 1))))) (fC (.int 0)))) (fRet (fC (.bl false))) fSkip))
    (fRet (fC (.bl true))))))))
abbrev n_law_well : List Str := ["_law_script", "_law_turn", "_law_mixed", "_law_cell", "_law_own"]
theorem sc_law_well : FnScope n_law_well ["_law_script", "_law_turn"] (defScope (top 16)) := ⟨rfl, rfl, rfl, by decide +kernel, rfl, by decide +kernel, by decide +kernel⟩
def F_law_well : GN := fDef 2 5 (fSeq (fAsg (fBin opAdd (fC (.int 60101)) (fBin opMul (fC (.int 7349)) (fVar 1))) (gNm 2))
    (fSeq (fFor (iLst (fSl (fVar 0) fNoPart (fPart (fC (.int 10))))) (gNm 3) (fAsg (fBin opMod (fCB cInt (fCons (fBin opAdd (fBin opAdd (fBin opMul (fVar 2) (fC (.int 48673))) (fBin opMod (fCB cInt (fCons (fVar 3) fNil)) (fC (.int 2147483563)))) (fC (.int 29))) fNil)) (fC (.int 2147483629))) (gNm 2)))
    (fSeq (fAsg (fIf (fB (fBin opLt (fVar 1) (fCB cLen (fCons (fVar 0) fNil)))) (fCB cAbs (fCons (fCB cInt (fCons (fBin opIx (fVar 0) (fVar 1)) fNil)) fNil)) (fBin opAdd (fC (.int 104711)) (fBin opMul (fC (.int 31)) (fVar 1)))) (gNm 4))
    (fSeq (fAsg (fBin opMod (fCB cInt (fCons (fBin opAdd (fBin opAdd (fBin opMul (fVar 2) (fC (.int 131))) (fBin opMul (fBin opMod (fCB cInt (fCons (fVar 4) fNil)) (fC (.int 2147483549))) (fC (.int 6091)))) (fC (.int 11))) fNil)) (fC (.int 2147483629))) (gNm 2))
    (fRet (fLst (fCons (fIf (fB (fBin opGe (fVar 4) (fBin opPow (fC (.int 10)) (fC (.int 18))))) (fVar 4) (fC (.int 0))) (fCons (fVar 2) (fCons (fC (.int 0)) fNil)))))))))
abbrev n_law_take : List Str := ["_law_well_here", "_law_count", "_law_digit"]
theorem sc_law_take : FnScope n_law_take ["_law_well_here", "_law_count"] (defScope (top 17)) := ⟨rfl, rfl, rfl, by decide +kernel, rfl, by decide +kernel, by decide +kernel⟩
def F_law_take : GN := fDef 2 3 (fSeq (fIfS (fB (fBin opGt (fBin opIx (fVar 0) (fC (.int 0))) (fC (.int 0)))) (fSeq (fAsg (fCB cDivmod (fCons (fBin opIx (fVar 0) (fC (.int 0))) (fCons (fVar 1) fNil))) (gTp 2 (gCn (gSb (fVar 0) (fC (.int 0))) (gCn (gNm 2) gNl))))
    (fRet (fVar 2))) fSkip)
    (fSeq (fAsg (fBin opAdd (fBin opIx (fVar 0) (fC (.int 2))) (fC (.int 1))) (gSb (fVar 0) (fC (.int 2))))
    (fSeq (fAsg (fBin opMod (fCB cInt (fCons (fBin opAdd (fBin opAdd (fBin opMul (fBin opIx (fVar 0) (fC (.int 1))) (fBin opAdd (fC (.int 16807)) (fBin opMul (fC (.int 2)) (fBin opIx (fVar 0) (fC (.int 2)))))) (fBin opMul (fC (.int 7919)) (fBin opIx (fVar 0) (fC (.int 2))))) (fC (.int 3))) fNil)) (fC (.int 2147483647))) (gSb (fVar 0) (fC (.int 1))))
    (fRet (fBin opMod (fCB cInt (fCons (fBin opFdiv (fBin opMod (fCB cInt (fCons (fBin opMul (fBin opIx (fVar 0) (fC (.int 1))) (fBin opAdd (fBin opIx (fVar 0) (fC (.int 1))) (fC (.int 17)))) fNil)) (fC (.int 2147483629))) (fC (.int 23))) fNil)) (fVar 1))))))
abbrev n_law_pick : List Str := ["_law_well_here", "_law_some"]
theorem sc_law_pick : FnScope n_law_pick ["_law_well_here", "_law_some"] (defScope (top 18)) := ⟨rfl, rfl, rfl, by decide +kernel, rfl, by decide +kernel, by decide +kernel⟩
def F_law_pick : GN := fDef 2 2 (fRet (fBin opIx (fVar 1) (fCB F_law_take (fCons (fVar 0) (fCons (fCB cLen (fCons (fVar 1) fNil)) fNil)))))
abbrev n_law_rounds : List Str := ["_law_script"]
theorem sc_law_rounds : FnScope n_law_rounds ["_law_script"] (defScope (top 19)) := ⟨rfl, rfl, rfl, by decide +kernel, rfl, by decide +kernel, by decide +kernel⟩
def F_law_rounds : GN := fDef 1 1 (fRet (fCB cMax (fCons (fC (.int 2)) (fCons (fCB cMin (fCons (fCB cLen (fCons (fVar 0) fNil)) (fCons (fC (.int 3)) fNil))) fNil))))
abbrev n_law_common : List Str := ["_law_one", "_law_two"]
theorem sc_law_common : FnScope n_law_common ["_law_one", "_law_two"] (defScope (top 20)) := ⟨rfl, rfl, rfl, by decide +kernel, rfl, by decide +kernel, by decide +kernel⟩
def F_law_common : GN := fDef 2 2 (fSeq (fPar 0 1 (fCons (fCB cAbs (fCons (fVar 0) fNil)) (fCons (fCB cAbs (fCons (fVar 1) fNil)) fNil)))
    (fSeq (fWhile fuelC (fB (fBin opGt (fVar 1) (fC (.int 0)))) (fPar 0 1 (fCons (fVar 1) (fCons (fBin opMod (fCB cInt (fCons (fVar 0) fNil)) (fVar 1)) fNil))))
    (fRet (fVar 0))))
abbrev n_law_ratio : List Str := ["_law_n", "_law_m", "_law_by"]
theorem sc_law_ratio : FnScope n_law_ratio ["_law_n", "_law_m"] (defScope (top 21)) := ⟨rfl, rfl, rfl, by decide +kernel, rfl, by decide +kernel, by decide +kernel⟩
def F_law_ratio : GN := fDef 2 3 (fSeq (fAsg (fCB F_law_common (fCons (fVar 0) (fCons (fVar 1) fNil))) (gNm 2))
    (fSeq (fAsg (fIf (fB (fBin opGt (fVar 1) (fC (.int 0)))) (fVar 2) (fBin opSub (fC (.int 0)) (fVar 2))) (gNm 2))
    (fRet (fTup (fCons (fBin opFdiv (fVar 0) (fVar 2)) (fCons (fBin opFdiv (fVar 1) (fVar 2)) fNil))))))
abbrev n_law_sum : List Str := ["_law_a", "_law_b"]
theorem sc_law_sum : FnScope n_law_sum ["_law_a", "_law_b"] (defScope (top 22)) := ⟨rfl, rfl, rfl, by decide +kernel, rfl, by decide +kernel, by decide +kernel⟩
def F_law_sum : GN := fDef 2 2 (fSeq (fIfS (fAnd (fB (fBin opEqM (fBin opIx (fVar 0) (fC (.int 1))) (fC (.int 1)))) (fB (fBin opEqM (fBin opIx (fVar 1) (fC (.int 1))) (fC (.int 1))))) (fRet (fTup (fCons (fBin opAdd (fBin opIx (fVar 0) (fC (.int 0))) (fBin opIx (fVar 1) (fC (.int 0)))) (fCons (fC (.int 1)) fNil)))) fSkip)
    (fRet (fCB F_law_ratio (fCons (fBin opAdd (fBin opMul (fBin opIx (fVar 0) (fC (.int 0))) (fBin opIx (fVar 1) (fC (.int 1)))) (fBin opMul (fBin opIx (fVar 1) (fC (.int 0))) (fBin opIx (fVar 0) (fC (.int 1))))) (fCons (fBin opMul (fBin opIx (fVar 0) (fC (.int 1))) (fBin opIx (fVar 1) (fC (.int 1)))) fNil)))))
abbrev n_law_product : List Str := ["_law_a", "_law_b"]
theorem sc_law_product : FnScope n_law_product ["_law_a", "_law_b"] (defScope (top 23)) := ⟨rfl, rfl, rfl, by decide +kernel, rfl, by decide +kernel, by decide +kernel⟩
def F_law_product : GN := fDef 2 2 (fSeq (fIfS (fAnd (fB (fBin opEqM (fBin opIx (fVar 0) (fC (.int 1))) (fC (.int 1)))) (fB (fBin opEqM (fBin opIx (fVar 1) (fC (.int 1))) (fC (.int 1))))) (fRet (fTup (fCons (fBin opMul (fBin opIx (fVar 0) (fC (.int 0))) (fBin opIx (fVar 1) (fC (.int 0)))) (fCons (fC (.int 1)) fNil)))) fSkip)
    (fRet (fCB F_law_ratio (fCons (fBin opMul (fBin opIx (fVar 0) (fC (.int 0))) (fBin opIx (fVar 1) (fC (.int 0)))) (fCons (fBin opMul (fBin opIx (fVar 0) (fC (.int 1))) (fBin opIx (fVar 1) (fC (.int 1)))) fNil)))))
abbrev n_law_number : List Str := ["_law_well_here", "_law_tip", "_law_below"]
theorem sc_law_number : FnScope n_law_number ["_law_well_here"] (defScope (top 24)) := ⟨rfl, rfl, rfl, by decide +kernel, rfl, by decide +kernel, by decide +kernel⟩
def F_law_number : GN := fDef 1 3 (fSeq (fAsg (fIf (fB (fBin opGt (fCB F_law_take (fCons (fVar 0) (fCons (fC (.int 8)) fNil))) (fC (.int 0)))) (fBin opAdd (fC (.int 1)) (fCB F_law_take (fCons (fVar 0) (fCons (fC (.int 5)) fNil)))) (fBin opAdd (fC (.int 1)) (fCB F_law_take (fCons (fVar 0) (fCons (fBin opPow (fC (.int 10)) (fC (.int 9))) fNil))))) (gNm 1))
    (fSeq (fAsg (fCB F_law_pick (fCons (fVar 0) (fCons (fTup (fCons (fC (.int 1)) (fCons (fC (.int 1)) (fCons (fC (.int 1)) (fCons (fC (.int 2)) (fCons (fC (.int 2)) (fCons (fC (.int 3)) (fCons (fC (.int 4)) (fCons (fC (.int 7)) fNil))))))))) fNil))) (gNm 2))
    (fRet (fCB F_law_ratio (fCons (fIf (fB (fBin opEqM (fCB F_law_take (fCons (fVar 0) (fCons (fC (.int 2)) fNil))) (fC (.int 0)))) (fVar 1) (fBin opSub (fC (.int 0)) (fVar 1))) (fCons (fVar 2) fNil))))))
abbrev n_law_is_whole : List Str := ["_law_thing"]
theorem sc_law_is_whole : FnScope n_law_is_whole ["_law_thing"] (defScope (top 25)) := ⟨rfl, rfl, rfl, by decide +kernel, rfl, by decide +kernel, by decide +kernel⟩
def F_law_is_whole : GN := fDef 1 1 (fRet (fAndV (fCB cIsi (fCons (fVar 0) (fCons (fC (.ty "int")) fNil))) (fNotV (fCB cIsi (fCons (fVar 0) (fCons (fC (.ty "bool")) fNil))))))
abbrev n_law_is_fraction : List Str := ["_law_thing"]
theorem sc_law_is_fraction : FnScope n_law_is_fraction ["_law_thing"] (defScope (top 26)) := ⟨rfl, rfl, rfl, by decide +kernel, rfl, by decide +kernel, by decide +kernel⟩
def F_law_is_fraction : GN := fDef 1 1 (fSeq (fIfS (fOr (fNot (fT (fCB cIsi (fCons (fVar 0) (fCons (fC (.ty "tuple")) fNil))))) (fOr (fB (fBin opNe (fCB cLen (fCons (fVar 0) fNil)) (fC (.int 2)))) (fOr (fNot (fT (fCB F_law_is_whole (fCons (fBin opIx (fVar 0) (fC (.int 0))) fNil)))) (fNot (fT (fCB F_law_is_whole (fCons (fBin opIx (fVar 0) (fC (.int 1))) fNil))))))) (fRet (fC (.bl false))) fSkip)
    (fRet (fAndV (fBin opGt (fBin opIx (fVar 0) (fC (.int 1))) (fC (.int 0))) (fBin opEqM (fCB F_law_common (fCons (fBin opIx (fVar 0) (fC (.int 0))) (fCons (fBin opIx (fVar 0) (fC (.int 1))) fNil))) (fC (.int 1))))))
abbrev n_law_odd : List Str := ["_law_well_here", "_law_plain", "_law_nested"]
theorem sc_law_odd : FnScope n_law_odd ["_law_well_here"] (defScope (top 27)) := ⟨rfl, rfl, rfl, by decide +kernel, rfl, by decide +kernel, by decide +kernel⟩
def F_law_odd : GN := fDef 1 3 (fSeq (fAsg (fTup (fCons (fC .non) (fCons (fC (.bl true)) (fCons (fC (.bl false)) (fCons (fC (.int 0)) (fCons (fC (.int 1)) (fCons (fUn unNeg (fC (.int 1))) (fCons (fC (.int 7)) (fCons (fC (.str "")) (fCons (fC (.str "low")) (fCons (fC (.str "high")) (fCons (fC (.str "all")) (fCons (fC (.str "0")) (fCons (fTup fNil) (fCons (fTup (fCons (fC (.int 0)) fNil)) (fCons (fTup (fCons (fC (.int 1)) (fCons (fC (.int 1)) fNil))) (fCons (fTup (fCons (fC (.int 1)) (fCons (fC (.int 2)) fNil))) (fCons (fTup (fCons (fC (.int 2)) (fCons (fC (.int 2)) fNil))) (fCons (fTup (fCons (fC (.int 1)) (fCons (fUn unNeg (fC (.int 1))) fNil))) (fCons (fTup (fCons (fC (.int 0)) (fCons (fC (.int 1)) fNil))) fNil)))))))))))))))))))) (gNm 1))
    (fSeq (fAsg (fTup (fCons (fLst fNil) (fCons (fLst (fCons (fC (.int 0)) (fCons (fTup fNil) fNil))) (fCons (fTup (fCons (fC (.int 0)) (fCons (fTup fNil) fNil))) (fCons (fTup (fCons (fC (.int 0)) (fCons (fTup (fCons (fTup (fCons (fC (.int 1)) (fCons (fC (.int 1)) fNil))) fNil)) fNil))) (fCons (fTup (fCons (fC (.int 1)) (fCons (fTup fNil) fNil))) (fCons (fTup (fCons (fC (.int 0)) (fCons (fTup (fCons (fTup (fCons (fC (.int 0)) (fCons (fC (.int 1)) fNil))) fNil)) fNil))) (fCons (fTup (fCons (fC (.int 0)) (fCons (fLst (fCons (fTup (fCons (fC (.int 1)) (fCons (fC (.int 1)) fNil))) fNil)) fNil))) (fCons (fTup (fCons (fTup (fCons (fC (.int 0)) (fCons (fTup fNil) fNil))) (fCons (fTup (fCons (fC (.int 0)) (fCons (fTup fNil) fNil))) fNil))) (fCons (fTup (fCons (fTup (fCons (fC (.int 1)) (fCons (fC (.int 1)) fNil))) (fCons (fTup (fCons (fC (.int 0)) (fCons (fC (.int 1)) fNil))) fNil))) (fCons fDic (fCons (fDsp [((fC (.str "low")), (fC (.int 1)))]) (fCons (fTup (fCons (fC (.str "low")) (fCons (fTup (fCons (fC (.int 0)) (fCons (fTup fNil) fNil))) fNil))) fNil))))))))))))) (gNm 2))
    (fRet (fCB F_law_pick (fCons (fVar 0) (fCons (fIf (fB (fBin opEqM (fCB F_law_take (fCons (fVar 0) (fCons (fC (.int 2)) fNil))) (fC (.int 0)))) (fVar 1) (fVar 2)) fNil))))))
abbrev n_law_spoilt : List Str := ["_law_well_here", "_law_thing", "_law_at", "_law_way"]
theorem sc_law_spoilt : FnScope n_law_spoilt ["_law_well_here", "_law_thing"] (defScope (top 28)) := ⟨rfl, rfl, rfl, by decide +kernel, rfl, by decide +kernel, by decide +kernel⟩
def R_law_spoilt : Nat → GN
  | 0 => fun _ _ => none
  | m + 1 => fDef 2 4 (fSeq (fIfS (fAnd (fT (fCB cIsi (fCons (fVar 1) (fCons (fC (.ty "tuple")) fNil)))) (fB (fBin opNe (fVar 1) (fTup fNil)))) (fSeq (fPar 2 3 (fCons (fCB F_law_take (fCons (fVar 0) (fCons (fCB cLen (fCons (fVar 1) fNil)) fNil))) (fCons (fCB F_law_take (fCons (fVar 0) (fCons (fC (.int 9)) fNil))) fNil)))
    (fSeq (fIfS (fB (fBin opLt (fVar 3) (fC (.int 6)))) (fRet (fBin opAdd (fBin opAdd (fSl (fVar 1) fNoPart (fPart (fVar 2))) (fTup (fCons (fCB (R_law_spoilt m) (fCons (fVar 0) (fCons (fBin opIx (fVar 1) (fVar 2)) fNil))) fNil))) (fSl (fVar 1) (fPart (fBin opAdd (fVar 2) (fC (.int 1)))) fNoPart))) fSkip)
    (fRet (fBin opIx (fLst (fCons (fCB cList (fCons (fVar 1) fNil)) (fCons (fBin opAdd (fSl (fVar 1) fNoPart (fPart (fVar 2))) (fSl (fVar 1) (fPart (fBin opAdd (fVar 2) (fC (.int 1)))) fNoPart)) (fCons (fBin opAdd (fSl (fVar 1) fNoPart (fPart (fBin opAdd (fVar 2) (fC (.int 1))))) (fSl (fVar 1) (fPart (fVar 2)) fNoPart)) fNil)))) (fBin opSub (fVar 3) (fC (.int 6))))))) fSkip)
    (fSeq (fIfS (fAnd (fT (fCB F_law_is_whole (fCons (fVar 1) fNil))) (fB (fBin opGt (fCB F_law_take (fCons (fVar 0) (fCons (fC (.int 3)) fNil))) (fC (.int 0))))) (fRet (fCB F_law_pick (fCons (fVar 0) (fCons (fTup (fCons (fBin opSub (fC (.int 0)) (fVar 1)) (fCons (fC (.int 0)) (fCons (fIf (fB (fBin opGt (fVar 1) (fUn unNeg (fC (.int 900))))) (fBin opSub (fVar 1) (fC (.int 1))) (fC (.int 1))) (fCons (fCB cStr (fCons (fVar 1) fNil)) (fCons (fCB cBool (fCons (fVar 1) fNil)) (fCons (fTup (fCons (fVar 1) fNil)) (fCons (fIf (fB (fBin opLt (fVar 1) (fC (.int 900)))) (fBin opAdd (fVar 1) (fC (.int 1))) (fC (.int 0))) fNil)))))))) fNil)))) fSkip)
    (fRet (fCB F_law_odd (fCons (fVar 0) fNil)))))
abbrev n_law_direction : List Str := ["_law_well_here", "_law_by", "_law_p", "_law_q"]
theorem sc_law_direction : FnScope n_law_direction ["_law_well_here"] (defScope (top 29)) := ⟨rfl, rfl, rfl, by decide +kernel, rfl, by decide +kernel, by decide +kernel⟩
def F_law_direction : GN := fDef 1 4 (fSeq (fPar 2 3 (fCons (fCB F_law_take (fCons (fVar 0) (fCons (fCB F_law_pick (fCons (fVar 0) (fCons (fTup (fCons (fC (.int 4)) (fCons (fC (.int 4)) (fCons (fC (.int 4)) (fCons (fC (.int 25)) fNil))))) fNil))) fNil))) (fCons (fBin opSub (fCB F_law_take (fCons (fVar 0) (fCons (fC (.int 7)) fNil))) (fC (.int 3))) fNil)))
    (fSeq (fIfS (fB (fBin opEqM (fVar 2) (fC (.int 0)))) (fRet (fTup (fCons (fC (.int 0)) (fCons (fC (.int 1)) fNil)))) fSkip)
    (fSeq (fAsg (fCB F_law_common (fCons (fVar 2) (fCons (fVar 3) fNil))) (gNm 1))
    (fRet (fTup (fCons (fBin opFdiv (fVar 2) (fVar 1)) (fCons (fBin opFdiv (fVar 3) (fVar 1)) fNil)))))))
abbrev n_law_grid : List Str := ["_law_well_here", "_law_a", "_law_b", "_law_by"]
theorem sc_law_grid : FnScope n_law_grid ["_law_well_here"] (defScope (top 30)) := ⟨rfl, rfl, rfl, by decide +kernel, rfl, by decide +kernel, by decide +kernel⟩
def F_law_grid : GN := fDef 1 4 (fSeq (fPar3 1 2 3 (fCons (fCB F_law_number (fCons (fVar 0) fNil)) (fCons (fCB F_law_pick (fCons (fVar 0) (fCons (fTup (fCons (fTup (fCons (fC (.int 0)) (fCons (fC (.int 1)) fNil))) (fCons (fTup (fCons (fC (.int 1)) (fCons (fC (.int 1)) fNil))) (fCons (fCB F_law_number (fCons (fVar 0) fNil)) fNil)))) fNil))) (fCons (fCB F_law_pick (fCons (fVar 0) (fCons (fTup (fCons (fC (.int 1)) (fCons (fUn unNeg (fC (.int 1))) fNil))) fNil))) fNil))))
    (fSeq (fIfS (fB (fBin opEqM (fCB F_law_take (fCons (fVar 0) (fCons (fC (.int 4)) fNil))) (fC (.int 0)))) (fPar 1 2 (fCons (fVar 2) (fCons (fVar 1) fNil))) fSkip)
    (fRet (fTup (fCons (fTup (fCons (fVar 1) (fCons (fCB F_law_ratio (fCons (fBin opSub (fC (.int 0)) (fBin opMul (fVar 3) (fBin opIx (fVar 2) (fC (.int 0))))) (fCons (fBin opIx (fVar 2) (fC (.int 1))) fNil))) fNil))) (fCons (fTup (fCons (fVar 2) (fCons (fCB F_law_ratio (fCons (fBin opMul (fVar 3) (fBin opIx (fVar 1) (fC (.int 0)))) (fCons (fBin opIx (fVar 1) (fC (.int 1))) fNil))) fNil))) fNil))))))
abbrev n_law_turns : List Str := ["_law_well_here", "_law_most", "_law_ways", "_law_turn", "_law_way"]
theorem sc_law_turns : FnScope n_law_turns ["_law_well_here", "_law_most"] (defScope (top 31)) := ⟨rfl, rfl, rfl, by decide +kernel, rfl, by decide +kernel, by decide +kernel⟩
def F_law_turns : GN := fDef 2 5 (fSeq (fAsg (fLst fNil) (gNm 2))
    (fSeq (fFor (iRng1' (fCons (fCB F_law_take (fCons (fVar 0) (fCons (fBin opAdd (fVar 1) (fC (.int 1))) fNil))) fNil)) (gNm 3) (fSeq (fAsg (fCB F_law_direction (fCons (fVar 0) fNil)) (gNm 4))
    (fIfS (fOr (fB (fBin opEqM (fVar 2) (fLst fNil))) (fB (fBin opNe (fBin opAdd (fBin opMul (fBin opIx (fBin opIx (fVar 2) (fUn unNeg (fC (.int 1)))) (fC (.int 0))) (fBin opIx (fVar 4) (fC (.int 0)))) (fBin opMul (fBin opIx (fBin opIx (fVar 2) (fUn unNeg (fC (.int 1)))) (fC (.int 1))) (fBin opIx (fVar 4) (fC (.int 1))))) (fC (.int 0))))) (fDrop (fML mAppend (fVar 2) (fCons (fVar 4) fNil))) fSkip)))
    (fRet (fTup (fCons (fCB F_law_pick (fCons (fVar 0) (fCons (fTup (fCons (fC (.int 0)) (fCons (fC (.int 0)) (fCons (fC (.int 1)) (fCons (fUn unNeg (fC (.int 1))) (fCons (fC (.int 2)) (fCons (fUn unNeg (fC (.int 3))) (fCons (fC (.int 400)) fNil)))))))) fNil))) (fCons (fCB cTuple (fCons (fVar 2) fNil)) (fCons (fCB F_law_grid (fCons (fVar 0) fNil)) fNil)))))))
abbrev n_law_is_way : List Str := ["_law_thing"]
theorem sc_law_is_way : FnScope n_law_is_way ["_law_thing"] (defScope (top 33)) := ⟨rfl, rfl, rfl, by decide +kernel, rfl, by decide +kernel, by decide +kernel⟩
def F_law_is_way : GN := fDef 1 1 (fSeq (fIfS (fOr (fNot (fT (fCB cIsi (fCons (fVar 0) (fCons (fC (.ty "tuple")) fNil))))) (fOr (fB (fBin opNe (fCB cLen (fCons (fVar 0) fNil)) (fC (.int 2)))) (fOr (fNot (fT (fCB F_law_is_whole (fCons (fBin opIx (fVar 0) (fC (.int 0))) fNil)))) (fNot (fT (fCB F_law_is_whole (fCons (fBin opIx (fVar 0) (fC (.int 1))) fNil))))))) (fRet (fC (.bl false))) fSkip)
    (fRet (fAndV (fBin opEqM (fCB F_law_common (fCons (fBin opIx (fVar 0) (fC (.int 0))) (fCons (fBin opIx (fVar 0) (fC (.int 1))) fNil))) (fC (.int 1))) (fOrV (fBin opGt (fBin opIx (fVar 0) (fC (.int 0))) (fC (.int 0))) (fAndV (fBin opEqM (fBin opIx (fVar 0) (fC (.int 0))) (fC (.int 0))) (fBin opGt (fBin opIx (fVar 0) (fC (.int 1))) (fC (.int 0))))))))
abbrev n_law_across : List Str := ["_law_one", "_law_two"]
theorem sc_law_across : FnScope n_law_across ["_law_one", "_law_two"] (defScope (top 34)) := ⟨rfl, rfl, rfl, by decide +kernel, rfl, by decide +kernel, by decide +kernel⟩
def F_law_across : GN := fDef 2 2 (fRet (fBin opEqM (fBin opAdd (fBin opMul (fBin opIx (fVar 0) (fC (.int 0))) (fBin opIx (fVar 1) (fC (.int 0)))) (fBin opMul (fBin opIx (fVar 0) (fC (.int 1))) (fBin opIx (fVar 1) (fC (.int 1))))) (fC (.int 0))))
abbrev n_law_is_grid : List Str := ["_law_thing", "_law_side", "_law_a", "_law_b", "_law_c", "_law_d", "_law_one", "_law_two"]
theorem sc_law_is_grid : FnScope n_law_is_grid ["_law_thing"] (defScope (top 35)) := ⟨rfl, rfl, rfl, by decide +kernel, rfl, by decide +kernel, by decide +kernel⟩
def F_law_is_grid : GN := fDef 1 8 (fSeq (fIfS (fOr (fNot (fT (fCB cIsi (fCons (fVar 0) (fCons (fC (.ty "tuple")) fNil))))) (fB (fBin opNe (fCB cLen (fCons (fVar 0) fNil)) (fC (.int 2))))) (fRet (fC (.bl false))) fSkip)
    (fSeq (fFor (iVal (fVar 0)) (gNm 1) (fIfS (fOr (fNot (fT (fCB cIsi (fCons (fVar 1) (fCons (fC (.ty "tuple")) fNil))))) (fOr (fB (fBin opNe (fCB cLen (fCons (fVar 1) fNil)) (fC (.int 2)))) (fOr (fNot (fT (fCB F_law_is_fraction (fCons (fBin opIx (fVar 1) (fC (.int 0))) fNil)))) (fNot (fT (fCB F_law_is_fraction (fCons (fBin opIx (fVar 1) (fC (.int 1))) fNil))))))) (fRet (fC (.bl false))) fSkip))
    (fSeq (fAsg (fTup (fCons (fBin opIx (fBin opIx (fVar 0) (fC (.int 0))) (fC (.int 0))) (fCons (fBin opIx (fBin opIx (fVar 0) (fC (.int 0))) (fC (.int 1))) (fCons (fBin opIx (fBin opIx (fVar 0) (fC (.int 1))) (fC (.int 0))) (fCons (fBin opIx (fBin opIx (fVar 0) (fC (.int 1))) (fC (.int 1))) fNil))))) (gTp 4 (gCn (gNm 2) (gCn (gNm 3) (gCn (gNm 4) (gCn (gNm 5) gNl))))))
    (fSeq (fPar 6 7 (fCons (fCB F_law_sum (fCons (fCB F_law_product (fCons (fVar 2) (fCons (fVar 2) fNil))) (fCons (fCB F_law_product (fCons (fVar 4) (fCons (fVar 4) fNil))) fNil))) (fCons (fCB F_law_sum (fCons (fCB F_law_product (fCons (fVar 3) (fCons (fVar 3) fNil))) (fCons (fCB F_law_product (fCons (fVar 5) (fCons (fVar 5) fNil))) fNil))) fNil)))
    (fRet (fAndV (fBin opEqM (fVar 6) (fVar 7)) (fAndV (fBin opGt (fBin opIx (fVar 6) (fC (.int 0))) (fC (.int 0))) (fBin opEqM (fBin opIx (fCB F_law_sum (fCons (fCB F_law_product (fCons (fVar 2) (fCons (fVar 3) fNil))) (fCons (fCB F_law_product (fCons (fVar 4) (fCons (fVar 5) fNil))) fNil))) (fC (.int 0))) (fC (.int 0))))))))))
abbrev n_law_judged : List Str := ["_law_thing", "_law_k", "_law_each"]
theorem sc_law_judged : FnScope n_law_judged ["_law_thing"] (defScope (top 32)) := ⟨rfl, rfl, rfl, by decide +kernel, rfl, by decide +kernel, by decide +kernel⟩
def F_law_judged : GN := fDef 1 3 (fSeq (fIfS (fOr (fNot (fT (fCB cIsi (fCons (fVar 0) (fCons (fC (.ty "tuple")) fNil))))) (fOr (fB (fBin opNe (fCB cLen (fCons (fVar 0) fNil)) (fC (.int 3)))) (fOr (fNot (fT (fCB F_law_is_whole (fCons (fBin opIx (fVar 0) (fC (.int 0))) fNil)))) (fNot (fT (fCB cIsi (fCons (fBin opIx (fVar 0) (fC (.int 1))) (fCons (fC (.ty "tuple")) fNil)))))))) (fRet (fC (.bl false))) fSkip)
    (fSeq (fIfS (fOr (fB (fBin opNe (fLc (iVal (fBin opIx (fVar 0) (fC (.int 1)))) (gNm 2) (fNot (fT (fCB F_law_is_way (fCons (fVar 2) fNil)))) (fVar 2) [2]) (fLst fNil))) (fNot (fT (fCB F_law_is_grid (fCons (fBin opIx (fVar 0) (fC (.int 2))) fNil))))) (fRet (fC (.bl false))) fSkip)
    (fRet (fBin opEqM (fLc (iRng2' (fCons (fC (.int 1)) (fCons (fCB cLen (fCons (fBin opIx (fVar 0) (fC (.int 1))) fNil)) fNil))) (gNm 1) (fT (fCB F_law_across (fCons (fBin opIx (fBin opIx (fVar 0) (fC (.int 1))) (fBin opSub (fVar 1) (fC (.int 1)))) (fCons (fBin opIx (fBin opIx (fVar 0) (fC (.int 1))) (fVar 1)) fNil)))) (fVar 1) [1]) (fLst fNil)))))
abbrev n_law_bent : List Str := ["_law_well_here", "_law_right_here", "_law_way", "_law_by", "_law_ways", "_law_grid_here", "_law_at", "_law_near", "_law_two", "_law_p", "_law_q", "_law_a", "_law_b", "_law_c", "_law_d"]
theorem sc_law_bent : FnScope n_law_bent ["_law_well_here", "_law_right_here"] (defScope (top 36)) := ⟨rfl, rfl, rfl, by decide +kernel, rfl, by decide +kernel, by decide +kernel⟩
def F_law_bent : GN := fDef 2 15 (fSeq (fAsg (fVar 1) (gTp 3 (gCn (gNm 3) (gCn (gNm 4) (gCn (gNm 5) gNl)))))
    (fSeq (fAsg (fCB F_law_take (fCons (fVar 0) (fCons (fC (.int 12)) fNil))) (gNm 2))
    (fSeq (fIfS (fAnd (fB (fBin opLt (fVar 2) (fC (.int 4)))) (fB (fBin opNe (fVar 4) (fTup fNil)))) (fSeq (fAsg (fCB F_law_take (fCons (fVar 0) (fCons (fCB cLen (fCons (fVar 4) fNil)) fNil))) (gNm 6))
    (fSeq (fAsg (fBin opIx (fVar 4) (fVar 6)) (gTp 2 (gCn (gNm 9) (gCn (gNm 10) gNl))))
    (fSeq (fAsg (fBin opIx (fLst (fCons (fTup (fCons (fBin opMul (fC (.int 2)) (fVar 9)) (fCons (fBin opMul (fC (.int 2)) (fVar 10)) fNil))) (fCons (fTup (fCons (fBin opSub (fC (.int 0)) (fVar 9)) (fCons (fBin opSub (fC (.int 0)) (fVar 10)) fNil))) (fCons (fTup (fCons (fVar 10) (fCons (fBin opSub (fC (.int 0)) (fVar 9)) fNil))) (fCons (fTup (fCons (fBin opSub (fC (.int 0)) (fVar 10)) (fCons (fVar 9) fNil))) fNil))))) (fVar 2)) (gNm 7))
    (fRet (fTup (fCons (fVar 3) (fCons (fBin opAdd (fBin opAdd (fSl (fVar 4) fNoPart (fPart (fBin opAdd (fVar 6) (fCB cInt (fCons (fBin opGt (fVar 2) (fC (.int 1))) fNil))))) (fTup (fCons (fVar 7) fNil))) (fSl (fVar 4) (fPart (fBin opAdd (fVar 6) (fC (.int 1)))) fNoPart)) (fCons (fVar 5) fNil)))))))) fSkip)
    (fSeq (fIfS (fB (fBin opLt (fVar 2) (fC (.int 8)))) (fSeq (fAsg (fTup (fCons (fBin opIx (fBin opIx (fVar 5) (fC (.int 0))) (fC (.int 0))) (fCons (fBin opIx (fBin opIx (fVar 5) (fC (.int 0))) (fC (.int 1))) (fCons (fBin opIx (fBin opIx (fVar 5) (fC (.int 1))) (fC (.int 0))) (fCons (fBin opIx (fBin opIx (fVar 5) (fC (.int 1))) (fC (.int 1))) fNil))))) (gTp 4 (gCn (gNm 11) (gCn (gNm 12) (gCn (gNm 13) (gCn (gNm 14) gNl))))))
    (fSeq (fAsg (fTup (fCons (fCB F_law_ratio (fCons (fBin opMul (fC (.int 2)) (fBin opIx (fVar 12) (fC (.int 0)))) (fCons (fBin opIx (fVar 12) (fC (.int 1))) fNil))) (fCons (fCB F_law_ratio (fCons (fBin opMul (fC (.int 2)) (fBin opIx (fVar 14) (fC (.int 0)))) (fCons (fBin opIx (fVar 14) (fC (.int 1))) fNil))) fNil))) (gNm 8))
    (fSeq (fAsg (fLst (fCons (fTup (fCons (fTup (fCons (fVar 11) (fCons (fVar 13) fNil))) (fCons (fTup (fCons (fVar 12) (fCons (fVar 14) fNil))) fNil))) (fCons (fTup (fCons (fTup (fCons (fVar 11) (fCons (fBin opIx (fVar 8) (fC (.int 0))) fNil))) (fCons (fTup (fCons (fVar 13) (fCons (fBin opIx (fVar 8) (fC (.int 1))) fNil))) fNil))) (fCons (fTup (fCons (fTup (fCons (fTup (fCons (fC (.int 0)) (fCons (fC (.int 1)) fNil))) (fCons (fTup (fCons (fC (.int 0)) (fCons (fC (.int 1)) fNil))) fNil))) (fCons (fTup (fCons (fTup (fCons (fC (.int 0)) (fCons (fC (.int 1)) fNil))) (fCons (fTup (fCons (fC (.int 0)) (fCons (fC (.int 1)) fNil))) fNil))) fNil))) (fCons (fTup (fCons (fTup (fCons (fVar 12) (fCons (fVar 11) fNil))) (fCons (fTup (fCons (fVar 14) (fCons (fVar 13) fNil))) fNil))) (fCons (fTup (fCons (fTup (fCons (fVar 11) (fCons (fVar 12) fNil))) (fCons (fTup (fCons (fVar 11) (fCons (fVar 12) fNil))) fNil))) fNil)))))) (gNm 7))
    (fRet (fTup (fCons (fVar 3) (fCons (fVar 4) (fCons (fBin opIx (fVar 7) (fCB F_law_take (fCons (fVar 0) (fCons (fC (.int 5)) fNil)))) fNil)))))))) fSkip)
    (fRet (fIf (fB (fBin opLt (fVar 2) (fC (.int 11)))) (fCB (R_law_spoilt deepest) (fCons (fVar 0) (fCons (fVar 1) fNil))) (fCB F_law_odd (fCons (fVar 0) fNil))))))))
abbrev n_law_right : List Str := ["_law_well_here", "_law_right_here", "_law_turn", "_law_thing", "_law_due"]
theorem sc_law_right : FnScope n_law_right ["_law_well_here"] (defScope (top 37)) := ⟨rfl, rfl, rfl, by decide +kernel, rfl, by decide +kernel, by decide +kernel⟩
def F_law_right : GN := fDef 1 5 (fSeq (fAsg (fCB F_law_turns (fCons (fVar 0) (fCons (fC (.int 4)) fNil))) (gNm 1))
    (fSeq (fFor (iRng1' (fCons (fC (.int 6)) fNil)) (gNm 2) (fSeq (fAsg (fIf (fB (fBin opEqM (fVar 2) (fC (.int 0)))) (fVar 1) (fCB F_law_bent (fCons (fVar 0) (fCons (fVar 1) fNil)))) (gNm 3))
    (fSeq (fAsg (fCB F_law_judged (fCons (fVar 3) fNil)) (gNm 4))
    (fIfS (fB (fBin opNe (fCB cRepr (fCons (fLst (fCons (fCB F_is_turns (fCons (fVar 3) fNil)) (fCons (fCB F_is_turns (fCons (fVar 3) fNil)) fNil))) fNil)) (fCB cRepr (fCons (fLst (fCons (fVar 4) (fCons (fVar 4) fNil))) fNil)))) (fRet (fC (.bl false))) fSkip))))
    (fRet (fBin opIsB (fCB F_is_turns (fCons (fVar 1) fNil)) (fC (.bl true))))))
abbrev n_law : List Str := ["_law_script", "_law_turn"]
theorem sc_law : FnScope n_law ["_law_script"] (defScope (top 38)) := ⟨rfl, rfl, rfl, by decide +kernel, rfl, by decide +kernel, by decide +kernel⟩
def F_law : GN := fDef 1 2 (fRet (fCB cAll (fCons (fLc (iRng1' (fCons (fCB F_law_rounds (fCons (fVar 0) fNil)) fNil)) (gNm 1) fYes (fCB F_law_right (fCons (fCB F_law_well (fCons (fVar 0) (fCons (fVar 1) fNil))) fNil)) [1]) fNil)))
structure Ctx (P : Program) (w : World) (K : PySem.W.Frag) (mg : Str → Option Value) (base : Heap) : Prop where
  d_is_whole : ∃ (f : Addr) (fd : FuncData), FunD K "is_whole" "is_whole" (defArgs (top 3)) (defBody (top 3)) (defScope (top 3)) [] [] f fd ∧ mg "is_whole" = some (.ref f)
  d_is_fraction : ∃ (f : Addr) (fd : FuncData), FunD K "is_fraction" "is_fraction" (defArgs (top 4)) (defBody (top 4)) (defScope (top 4)) [] [] f fd ∧ mg "is_fraction" = some (.ref f)
  d_reduced : ∃ (f : Addr) (fd : FuncData), FunD K "reduced" "reduced" (defArgs (top 5)) (defBody (top 5)) (defScope (top 5)) [] [] f fd ∧ mg "reduced" = some (.ref f)
  d_plus : ∃ (f : Addr) (fd : FuncData), FunD K "plus" "plus" (defArgs (top 6)) (defBody (top 6)) (defScope (top 6)) [] [] f fd ∧ mg "plus" = some (.ref f)
  d_times : ∃ (f : Addr) (fd : FuncData), FunD K "times" "times" (defArgs (top 7)) (defBody (top 7)) (defScope (top 7)) [] [] f fd ∧ mg "times" = some (.ref f)
  d_is_pair : ∃ (f : Addr) (fd : FuncData), FunD K "is_pair" "is_pair" (defArgs (top 9)) (defBody (top 9)) (defScope (top 9)) [] [] f fd ∧ mg "is_pair" = some (.ref f)
  d_is_direction : ∃ (f : Addr) (fd : FuncData), FunD K "is_direction" "is_direction" (defArgs (top 12)) (defBody (top 12)) (defScope (top 12)) [] [] f fd ∧ mg "is_direction" = some (.ref f)
  d_sum_of_products : ∃ (f : Addr) (fd : FuncData), FunD K "sum_of_products" "sum_of_products" (defArgs (top 14)) (defBody (top 14)) (defScope (top 14)) [] [] f fd ∧ mg "sum_of_products" = some (.ref f)
  d_is_last_table : ∃ (f : Addr) (fd : FuncData), FunD K "is_last_table" "is_last_table" (defArgs (top 13)) (defBody (top 13)) (defScope (top 13)) [] [] f fd ∧ mg "is_last_table" = some (.ref f)
  d_is_turns : ∃ (f : Addr) (fd : FuncData), FunD K "is_turns" "is_turns" (defArgs (top 11)) (defBody (top 11)) (defScope (top 11)) [] [] f fd ∧ mg "is_turns" = some (.ref f)
  d_law_well : ∃ (f : Addr) (fd : FuncData), FunD K "_law_well" "_law_well" (defArgs (top 16)) (defBody (top 16)) (defScope (top 16)) [] [] f fd ∧ mg "_law_well" = some (.ref f)
  d_law_take : ∃ (f : Addr) (fd : FuncData), FunD K "_law_take" "_law_take" (defArgs (top 17)) (defBody (top 17)) (defScope (top 17)) [] [] f fd ∧ mg "_law_take" = some (.ref f)
  d_law_pick : ∃ (f : Addr) (fd : FuncData), FunD K "_law_pick" "_law_pick" (defArgs (top 18)) (defBody (top 18)) (defScope (top 18)) [] [] f fd ∧ mg "_law_pick" = some (.ref f)
  d_law_rounds : ∃ (f : Addr) (fd : FuncData), FunD K "_law_rounds" "_law_rounds" (defArgs (top 19)) (defBody (top 19)) (defScope (top 19)) [] [] f fd ∧ mg "_law_rounds" = some (.ref f)
  d_law_common : ∃ (f : Addr) (fd : FuncData), FunD K "_law_common" "_law_common" (defArgs (top 20)) (defBody (top 20)) (defScope (top 20)) [] [] f fd ∧ mg "_law_common" = some (.ref f)
  d_law_ratio : ∃ (f : Addr) (fd : FuncData), FunD K "_law_ratio" "_law_ratio" (defArgs (top 21)) (defBody (top 21)) (defScope (top 21)) [] [] f fd ∧ mg "_law_ratio" = some (.ref f)
  d_law_sum : ∃ (f : Addr) (fd : FuncData), FunD K "_law_sum" "_law_sum" (defArgs (top 22)) (defBody (top 22)) (defScope (top 22)) [] [] f fd ∧ mg "_law_sum" = some (.ref f)
  d_law_product : ∃ (f : Addr) (fd : FuncData), FunD K "_law_product" "_law_product" (defArgs (top 23)) (defBody (top 23)) (defScope (top 23)) [] [] f fd ∧ mg "_law_product" = some (.ref f)
  d_law_number : ∃ (f : Addr) (fd : FuncData), FunD K "_law_number" "_law_number" (defArgs (top 24)) (defBody (top 24)) (defScope (top 24)) [] [] f fd ∧ mg "_law_number" = some (.ref f)
  d_law_is_whole : ∃ (f : Addr) (fd : FuncData), FunD K "_law_is_whole" "_law_is_whole" (defArgs (top 25)) (defBody (top 25)) (defScope (top 25)) [] [] f fd ∧ mg "_law_is_whole" = some (.ref f)
  d_law_is_fraction : ∃ (f : Addr) (fd : FuncData), FunD K "_law_is_fraction" "_law_is_fraction" (defArgs (top 26)) (defBody (top 26)) (defScope (top 26)) [] [] f fd ∧ mg "_law_is_fraction" = some (.ref f)
  d_law_odd : ∃ (f : Addr) (fd : FuncData), FunD K "_law_odd" "_law_odd" (defArgs (top 27)) (defBody (top 27)) (defScope (top 27)) [] [] f fd ∧ mg "_law_odd" = some (.ref f)
  d_law_spoilt : ∃ (f : Addr) (fd : FuncData), FunD K "_law_spoilt" "_law_spoilt" (defArgs (top 28)) (defBody (top 28)) (defScope (top 28)) [] [] f fd ∧ mg "_law_spoilt" = some (.ref f)
  d_law_direction : ∃ (f : Addr) (fd : FuncData), FunD K "_law_direction" "_law_direction" (defArgs (top 29)) (defBody (top 29)) (defScope (top 29)) [] [] f fd ∧ mg "_law_direction" = some (.ref f)
  d_law_grid : ∃ (f : Addr) (fd : FuncData), FunD K "_law_grid" "_law_grid" (defArgs (top 30)) (defBody (top 30)) (defScope (top 30)) [] [] f fd ∧ mg "_law_grid" = some (.ref f)
  d_law_turns : ∃ (f : Addr) (fd : FuncData), FunD K "_law_turns" "_law_turns" (defArgs (top 31)) (defBody (top 31)) (defScope (top 31)) [] [] f fd ∧ mg "_law_turns" = some (.ref f)
  d_law_is_way : ∃ (f : Addr) (fd : FuncData), FunD K "_law_is_way" "_law_is_way" (defArgs (top 33)) (defBody (top 33)) (defScope (top 33)) [] [] f fd ∧ mg "_law_is_way" = some (.ref f)
  d_law_across : ∃ (f : Addr) (fd : FuncData), FunD K "_law_across" "_law_across" (defArgs (top 34)) (defBody (top 34)) (defScope (top 34)) [] [] f fd ∧ mg "_law_across" = some (.ref f)
  d_law_is_grid : ∃ (f : Addr) (fd : FuncData), FunD K "_law_is_grid" "_law_is_grid" (defArgs (top 35)) (defBody (top 35)) (defScope (top 35)) [] [] f fd ∧ mg "_law_is_grid" = some (.ref f)
  d_law_judged : ∃ (f : Addr) (fd : FuncData), FunD K "_law_judged" "_law_judged" (defArgs (top 32)) (defBody (top 32)) (defScope (top 32)) [] [] f fd ∧ mg "_law_judged" = some (.ref f)
  d_law_bent : ∃ (f : Addr) (fd : FuncData), FunD K "_law_bent" "_law_bent" (defArgs (top 36)) (defBody (top 36)) (defScope (top 36)) [] [] f fd ∧ mg "_law_bent" = some (.ref f)
  d_law_right : ∃ (f : Addr) (fd : FuncData), FunD K "_law_right" "_law_right" (defArgs (top 37)) (defBody (top 37)) (defScope (top 37)) [] [] f fd ∧ mg "_law_right" = some (.ref f)
  d_law : ∃ (f : Addr) (fd : FuncData), FunD K "law" "law" (defArgs (top 38)) (defBody (top 38)) (defScope (top 38)) [] [] f fd ∧ mg "law" = some (.ref f)
  g_abs : mg "abs" = none
  g_all : mg "all" = none
  g_bool : mg "bool" = none
  g_divmod : mg "divmod" = none
  g_enumerate : mg "enumerate" = none
  g_int : mg "int" = none
  g_isinstance : mg "isinstance" = none
  g_len : mg "len" = none
  g_list : mg "list" = none
  g_max : mg "max" = none
  g_min : mg "min" = none
  g_range : mg "range" = none
  g_repr : mg "repr" = none
  g_str : mg "str" = none
  g_tuple : mg "tuple" = none
  c_ZERO : Cst K mg "ZERO" (.tup [.int 0, .int 1])
  b_gcd : mg "gcd" = some (.builtin "math.gcd")
  sm : ∃ o, K.lookup sysModules = some o
end K37
namespace K37
open PySem PySem.Spec PyProof.Rows L2 DL
section
variable {P : Program} {w : World} {K : PySem.W.Frag} {mg : Str → Option Value} {base : Heap}
theorem ok_is_whole (C : Ctx P w K mg base) : DFn P w K mg base 1 "is_whole" ["value"] F_is_whole := by
  obtain ⟨f, fd, F, hg⟩ := C.d_is_whole
  exact dfn (k := 0) F hg sc_is_whole (fun _ _ _ _ _ _ us hl => match us, hl with | [_], _ => rfl) (fun _ _ _ _ _ _ us hl => match us, hl with | [_], _ => rfl) (fun cdv A outer s H E hr => (dss_one (ds_ret (de_and (de_callB dc_isi (by rfl) C.g_isinstance (by decide +kernel) (da_cons (dv 0) (da_cons (de_bty (by rfl) C.g_int (by decide +kernel)) da_nil))) (de_one (de_not (de_callB dc_isi (by rfl) C.g_isinstance (by decide +kernel) (da_cons (dv 0) (da_cons (de_bty (by rfl) C.g_bool (by decide +kernel)) da_nil)))))))))
theorem ok_is_fraction (C : Ctx P w K mg base) : DFn P w K mg base 2 "is_fraction" ["value"] F_is_fraction := by
  obtain ⟨f, fd, F, hg⟩ := C.d_is_fraction
  exact dfn (k := 1) F hg sc_is_fraction (fun _ _ _ _ _ _ us hl => match us, hl with | [_], _ => rfl) (fun _ _ _ _ _ _ us hl => match us, hl with | [_], _ => rfl) (fun cdv A outer s H E hr => (dss_cons (ds_if (PW.pt (dw_or (dt_not (dt_val (de_callB dc_isi (by rfl) C.g_isinstance (by decide +kernel) (da_cons (dv 0) (da_cons (de_bty (by rfl) C.g_tuple (by decide +kernel)) da_nil))))) (dw_or1 (dt_cmp (do_ne hr.units) (de_callB dc_len (by rfl) C.g_len (by decide +kernel) (da_cons (dv 0) da_nil)) de_int (nomark _))))) (dss_one (ds_ret de_bl)) dss_nil)
    (dss_cons (ds_asg (dv 0) (dg_tup (by rfl) (dgs_cons (dg_name (i := 1) sc_is_fraction.nd rfl (.inl rfl)) (dgs_cons (dg_name (i := 2) sc_is_fraction.nd rfl (.inl rfl)) dgs_nil))))
    (dss_cons (ds_if (PW.pt (dw_or (dt_not (dt_val (de_callF (ok_is_whole C) hr (by decide) (da_cons (dv 1) da_nil)))) (dw_or1 (dt_not (dt_val (de_callF (ok_is_whole C) hr (by decide) (da_cons (dv 2) da_nil))))))) (dss_one (ds_ret de_bl)) dss_nil)
    (dss_one (ds_ret (de_and (de_cmp do_gt (dv 2) de_int (nomark _)) (de_one (de_cmp (do_eqM hr.units) (de_callBfun dc_gcd (by rfl) C.b_gcd (da_cons (dv 1) (da_cons (dv 2) da_nil))) de_int (nomark _))))))))))
theorem ok_reduced (C : Ctx P w K mg base) : DFn P w K mg base 1 "reduced" ["top", "bottom"] F_reduced := by
  obtain ⟨f, fd, F, hg⟩ := C.d_reduced
  exact dfn (k := 0) F hg sc_reduced (fun _ _ _ _ _ _ us hl => match us, hl with | [_, _], _ => rfl) (fun _ _ _ _ _ _ us hl => match us, hl with | [_, _], _ => rfl) (fun cdv A outer s H E hr => (dss_cons (ds_setn (i := 2) sc_reduced.nd rfl (.inl rfl) (de_callBfun dc_gcd (by rfl) C.b_gcd (da_cons (dv 0) (da_cons (dv 1) da_nil))))
    (dss_cons (ds_if (dt_cmp do_lt (dv 1) de_int (nomark _)) (dss_one (ds_setn (i := 2) sc_reduced.nd rfl (.inl rfl) (de_un du_neg (dv 2)))) dss_nil)
    (dss_one (ds_ret (de_tup (da_cons (de_bin do_fdiv (dv 0) (dv 2)) (da_cons (de_bin do_fdiv (dv 1) (dv 2)) da_nil))))))))
theorem ok_plus (C : Ctx P w K mg base) : DFn P w K mg base 2 "plus" ["number", "other"] F_plus := by
  obtain ⟨f, fd, F, hg⟩ := C.d_plus
  exact dfn (k := 1) F hg sc_plus (fun _ _ _ _ _ _ us hl => match us, hl with | [_, _], _ => rfl) (fun _ _ _ _ _ _ us hl => match us, hl with | [_, _], _ => rfl) (fun cdv A outer s H E hr => (dss_cons (ds_if (dt_cmp (do_eqM hr.units) (de_ix (dv 0) de_int (fun _ _ => rfl)) de_int (nomark _)) (dss_one (ds_ret (dv 1))) dss_nil)
    (dss_cons (ds_if (dt_cmp (do_eqM hr.units) (de_ix (dv 1) de_int (fun _ _ => rfl)) de_int (nomark _)) (dss_one (ds_ret (dv 0))) dss_nil)
    (dss_one (ds_ret (de_callF (ok_reduced C) hr (by decide) (da_cons (de_bin do_add (de_bin do_mul (de_ix (dv 0) de_int (fun _ _ => rfl)) (de_ix (dv 1) de_int (fun _ _ => rfl))) (de_bin do_mul (de_ix (dv 1) de_int (fun _ _ => rfl)) (de_ix (dv 0) de_int (fun _ _ => rfl)))) (da_cons (de_bin do_mul (de_ix (dv 0) de_int (fun _ _ => rfl)) (de_ix (dv 1) de_int (fun _ _ => rfl))) da_nil))))))))
theorem ok_times (C : Ctx P w K mg base) : DFn P w K mg base 2 "times" ["number", "other"] F_times := by
  obtain ⟨f, fd, F, hg⟩ := C.d_times
  exact dfn (k := 1) F hg sc_times (fun _ _ _ _ _ _ us hl => match us, hl with | [_, _], _ => rfl) (fun _ _ _ _ _ _ us hl => match us, hl with | [_, _], _ => rfl) (fun cdv A outer s H E hr => (dss_one (ds_ret (de_callF (ok_reduced C) hr (by decide) (da_cons (de_bin do_mul (de_ix (dv 0) de_int (fun _ _ => rfl)) (de_ix (dv 1) de_int (fun _ _ => rfl))) (da_cons (de_bin do_mul (de_ix (dv 0) de_int (fun _ _ => rfl)) (de_ix (dv 1) de_int (fun _ _ => rfl))) da_nil))))))
theorem ok_is_pair (C : Ctx P w K mg base) : DFn P w K mg base 1 "is_pair" ["value"] F_is_pair := by
  obtain ⟨f, fd, F, hg⟩ := C.d_is_pair
  exact dfn (k := 0) F hg sc_is_pair (fun _ _ _ _ _ _ us hl => match us, hl with | [_], _ => rfl) (fun _ _ _ _ _ _ us hl => match us, hl with | [_], _ => rfl) (fun cdv A outer s H E hr => (dss_one (ds_ret (de_and (de_callB dc_isi (by rfl) C.g_isinstance (by decide +kernel) (da_cons (dv 0) (da_cons (de_bty (by rfl) C.g_tuple (by decide +kernel)) da_nil))) (de_one (de_cmp (do_eqM hr.units) (de_callB dc_len (by rfl) C.g_len (by decide +kernel) (da_cons (dv 0) da_nil)) de_int (nomark _)))))))
theorem ok_is_direction (C : Ctx P w K mg base) : DFn P w K mg base 2 "is_direction" ["value"] F_is_direction := by
  obtain ⟨f, fd, F, hg⟩ := C.d_is_direction
  exact dfn (k := 1) F hg sc_is_direction (fun _ _ _ _ _ _ us hl => match us, hl with | [_], _ => rfl) (fun _ _ _ _ _ _ us hl => match us, hl with | [_], _ => rfl) (fun cdv A outer s H E hr => (dss_cons (ds_if (PW.pt (dw_or (dt_not (dt_val (de_callF (ok_is_pair C) hr (by decide) (da_cons (dv 0) da_nil)))) (dw_or (dt_not (dt_val (de_callF (ok_is_whole C) hr (by decide) (da_cons (de_ix (dv 0) de_int (fun _ _ => rfl)) da_nil)))) (dw_or1 (dt_not (dt_val (de_callF (ok_is_whole C) hr (by decide) (da_cons (de_ix (dv 0) de_int (fun _ _ => rfl)) da_nil)))))))) (dss_one (ds_ret de_bl)) dss_nil)
    (dss_one (ds_ret (de_and (de_cmp (do_eqM hr.units) (de_callBfun dc_gcd (by rfl) C.b_gcd (da_cons (de_ix (dv 0) de_int (fun _ _ => rfl)) (da_cons (de_ix (dv 0) de_int (fun _ _ => rfl)) da_nil))) de_int (nomark _)) (de_one (de_cmp (do_gtT hr.units1) (dv 0) (de_tup (da_cons de_int (da_cons de_int da_nil))) (nomark _))))))))
theorem ok_sum_of_products (C : Ctx P w K mg base) : DFn P w K mg base 3 "sum_of_products" ["first", "second", "third", "fourth"] F_sum_of_products := by
  obtain ⟨f, fd, F, hg⟩ := C.d_sum_of_products
  exact dfn (k := 2) F hg sc_sum_of_products (fun _ _ _ _ _ _ us hl => match us, hl with | [_, _, _, _], _ => rfl) (fun _ _ _ _ _ _ us hl => match us, hl with | [_, _, _, _], _ => rfl) (fun cdv A outer s H E hr => (dss_one (ds_ret (de_callF (ok_plus C) hr (by decide) (da_cons (de_callF (ok_times C) hr (by decide) (da_cons (dv 0) (da_cons (dv 1) da_nil))) (da_cons (de_callF (ok_times C) hr (by decide) (da_cons (dv 2) (da_cons (dv 3) da_nil))) da_nil))))))
theorem ok_is_last_table (C : Ctx P w K mg base) : DFn P w K mg base 4 "is_last_table" ["value"] F_is_last_table := by
  obtain ⟨f, fd, F, hg⟩ := C.d_is_last_table
  exact dfn (k := 3) F hg sc_is_last_table (fun _ _ _ _ _ _ us hl => match us, hl with | [_], _ => rfl) (fun _ _ _ _ _ _ us hl => match us, hl with | [_], _ => rfl) (fun cdv A outer s H E hr => (dss_cons (ds_if (PW.pt (dw_or (dt_not (dt_val (de_callF (ok_is_pair C) hr (by decide) (da_cons (dv 0) da_nil)))) (dw_or (dt_not (dt_val (de_callF (ok_is_pair C) hr (by decide) (da_cons (de_ix (dv 0) de_int (fun _ _ => rfl)) da_nil)))) (dw_or1 (dt_not (dt_val (de_callF (ok_is_pair C) hr (by decide) (da_cons (de_ix (dv 0) de_int (fun _ _ => rfl)) da_nil)))))))) (dss_one (ds_ret de_bl)) dss_nil)
    (dss_cons (ds_if (dt_not (dt_val (de_callB (dc_all rfl) (by rfl) C.g_all (by decide +kernel) (da_cons (de_lc2 (own := [("line", 8), ("number", 9)]) (vs1 := [9]) (t := (gName 8)) (t1 := (gName 9)) rfl sc_is_last_table.nd (di_tup (dv 0)) (blkOk_by (N := n_is_last_table) (sc := (defScope (top 13))) (by decide +kernel)) (by decide) (fun _ _ _ _ _ => (pg_name (i := 8) sc_is_last_table.nd rfl (Or.inl rfl))) (wg_name (by decide)) (fun _ _ _ _ _ => dts_nil) (fun _ _ _ _ _ => (di_tup (dv 8))) (fun _ _ _ _ _ => (pg_name (i := 9) sc_is_last_table.nd rfl (Or.inl rfl))) (wg_name (by decide)) (fun _ _ _ _ _ => dts_nil) (fun _ _ _ _ _ => (de_callF (ok_is_fraction C) hr (by decide) (da_cons (dv 9) da_nil)))) da_nil)))) (dss_one (ds_ret de_bl)) dss_nil)
    (dss_cons (ds_asg (dv 0) (dg_tup (by rfl) (dgs_cons (dg_tup (by rfl) (dgs_cons (dg_name (i := 4) sc_is_last_table.nd rfl (.inl rfl)) (dgs_cons (dg_name (i := 5) sc_is_last_table.nd rfl (.inl rfl)) dgs_nil))) (dgs_cons (dg_tup (by rfl) (dgs_cons (dg_name (i := 6) sc_is_last_table.nd rfl (.inl rfl)) (dgs_cons (dg_name (i := 7) sc_is_last_table.nd rfl (.inl rfl)) dgs_nil))) dgs_nil))))
    (dss_cons (ds_setn (i := 1) sc_is_last_table.nd rfl (.inl rfl) (de_callF (ok_sum_of_products C) hr (by decide) (da_cons (dv 4) (da_cons (dv 4) (da_cons (dv 6) (da_cons (dv 6) da_nil))))))
    (dss_cons (ds_setn (i := 2) sc_is_last_table.nd rfl (.inl rfl) (de_callF (ok_sum_of_products C) hr (by decide) (da_cons (dv 5) (da_cons (dv 5) (da_cons (dv 7) (da_cons (dv 7) da_nil))))))
    (dss_cons (ds_setn (i := 3) sc_is_last_table.nd rfl (.inl rfl) (de_callF (ok_sum_of_products C) hr (by decide) (da_cons (dv 4) (da_cons (dv 5) (da_cons (dv 6) (da_cons (dv 7) da_nil))))))
    (dss_one (ds_ret (de_and (de_cmp (do_eqM hr.units) (dv 1) (dv 2) (nomark _)) (de_and (de_cmp (do_ne hr.units) (dv 1) (de_cst C.c_ZERO rfl) (nomark _)) (de_one (de_cmp (do_eqM hr.units) (dv 3) (de_cst C.c_ZERO rfl) (nomark _))))))))))))))
theorem ok_is_turns (C : Ctx P w K mg base) : DFn P w K mg base 5 "is_turns" ["value"] F_is_turns := by
  obtain ⟨f, fd, F, hg⟩ := C.d_is_turns
  exact dfn (k := 4) F hg sc_is_turns (fun _ _ _ _ _ _ us hl => match us, hl with | [_], _ => rfl) (fun _ _ _ _ _ _ us hl => match us, hl with | [_], _ => rfl) (fun cdv A outer s H E hr => (dss_cons (ds_if (PW.pt (dw_or (dt_not (dt_val (de_callB dc_isi (by rfl) C.g_isinstance (by decide +kernel) (da_cons (dv 0) (da_cons (de_bty (by rfl) C.g_tuple (by decide +kernel)) da_nil))))) (dw_or1 (dt_cmp (do_ne hr.units) (de_callB dc_len (by rfl) C.g_len (by decide +kernel) (da_cons (dv 0) da_nil)) de_int (nomark _))))) (dss_one (ds_ret de_bl)) dss_nil)
    (dss_cons (ds_asg (dv 0) (dg_tup (by rfl) (dgs_cons (dg_name (i := 1) sc_is_turns.nd rfl (.inl rfl)) (dgs_cons (dg_name (i := 2) sc_is_turns.nd rfl (.inl rfl)) (dgs_cons (dg_name (i := 3) sc_is_turns.nd rfl (.inl rfl)) dgs_nil)))))
    (dss_cons (ds_if (PW.pt (dw_or (dt_not (dt_val (de_callF (ok_is_whole C) hr (by decide) (da_cons (dv 1) da_nil)))) (dw_or (dt_not (dt_val (de_callB dc_isi (by rfl) C.g_isinstance (by decide +kernel) (da_cons (dv 2) (da_cons (de_bty (by rfl) C.g_tuple (by decide +kernel)) da_nil))))) (dw_or1 (dt_not (dt_val (de_callF (ok_is_last_table C) hr (by decide) (da_cons (dv 3) da_nil)))))))) (dss_one (ds_ret de_bl)) dss_nil)
    (dss_cons (ds_if (dt_not (dt_val (de_callB (dc_all rfl) (by rfl) C.g_all (by decide +kernel) (da_cons (de_lc (own := [("direction", 7)]) (t := (gName 7)) rfl sc_is_turns.nd (di_tup (dv 2)) (blkOk_by (N := n_is_turns) (sc := (defScope (top 11))) (by decide +kernel)) (fun _ _ _ _ _ => (pg_name (i := 7) sc_is_turns.nd rfl (Or.inl rfl))) (wg_name (by decide)) (fun _ _ _ _ _ => dts_nil) (fun _ _ _ _ _ => (de_callF (ok_is_direction C) hr (by decide) (da_cons (dv 7) da_nil)))) da_nil)))) (dss_one (ds_ret de_bl)) dss_nil)
    (dss_cons (ds_forE PassesOwn.never rfl (by rfl) C.g_enumerate (da_cons (de_slice (dv 2) (do_some de_int) do_none) da_nil) (dg_tup (by rfl) (dgs_cons (dg_name (i := 4) sc_is_turns.nd rfl (.inl rfl)) (dgs_cons (dg_tup (by rfl) (dgs_cons (dg_name (i := 5) sc_is_turns.nd rfl (.inl rfl)) (dgs_cons (dg_name (i := 6) sc_is_turns.nd rfl (.inl rfl)) dgs_nil))) dgs_nil))) (dss_one (ds_if (dt_cmp (do_eqM hr.units) (de_bin do_add (de_bin do_mul (dv 5) (de_ix (de_ix (dv 2) (dv 4) (fun _ _ => rfl)) de_int (fun _ _ => rfl))) (de_bin do_mul (dv 6) (de_ix (de_ix (dv 2) (dv 4) (fun _ _ => rfl)) de_int (fun _ _ => rfl)))) de_int (nomark _)) (dss_one (ds_ret de_bl)) dss_nil)))
    (dss_one (ds_ret de_bl))))))))
theorem ok_law_well (C : Ctx P w K mg base) : DFn P w K mg base 1 "_law_well" ["_law_script", "_law_turn"] F_law_well := by
  obtain ⟨f, fd, F, hg⟩ := C.d_law_well
  exact dfn (k := 0) F hg sc_law_well (fun _ _ _ _ _ _ us hl => match us, hl with | [_, _], _ => rfl) (fun _ _ _ _ _ _ us hl => match us, hl with | [_, _], _ => rfl) (fun cdv A outer s H E hr => (dss_cons (ds_setn (i := 2) sc_law_well.nd rfl (.inl rfl) (de_bin do_add de_int (de_bin do_mul de_int (dv 1))))
    (dss_cons (ds_for PassesOwn.never rfl (di_lst (de_slice (dv 0) do_none (do_some de_int))) (dg_name (i := 3) sc_law_well.nd rfl (.inl rfl)) (dss_one (ds_setn (i := 2) sc_law_well.nd rfl (.inl rfl) (de_bin do_mod (de_callTy dc_int (by rfl) C.g_int (by decide +kernel) (da_cons (de_bin do_add (de_bin do_add (de_bin do_mul (dv 2) de_int) (de_bin do_mod (de_callTy dc_int (by rfl) C.g_int (by decide +kernel) (da_cons (dv 3) da_nil)) de_int)) de_int) da_nil)) de_int))))
    (dss_cons (ds_setn (i := 4) sc_law_well.nd rfl (.inl rfl) (de_if (dt_cmp do_lt (dv 1) (de_callB dc_len (by rfl) C.g_len (by decide +kernel) (da_cons (dv 0) da_nil)) (nomark _)) (de_callB dc_abs (by rfl) C.g_abs (by decide +kernel) (da_cons (de_callTy dc_int (by rfl) C.g_int (by decide +kernel) (da_cons (de_ix (dv 0) (dv 1) (fun _ _ => rfl)) da_nil)) da_nil)) (de_bin do_add de_int (de_bin do_mul de_int (dv 1)))))
    (dss_cons (ds_setn (i := 2) sc_law_well.nd rfl (.inl rfl) (de_bin do_mod (de_callTy dc_int (by rfl) C.g_int (by decide +kernel) (da_cons (de_bin do_add (de_bin do_add (de_bin do_mul (dv 2) de_int) (de_bin do_mul (de_bin do_mod (de_callTy dc_int (by rfl) C.g_int (by decide +kernel) (da_cons (dv 4) da_nil)) de_int) de_int)) de_int) da_nil)) de_int))
    (dss_one (ds_ret (de_lst (da_cons (de_if (dt_cmp do_ge (dv 4) (de_bin do_pow de_int de_int) (nomark _)) (dv 4) de_int) (da_cons (dv 2) (da_cons de_int da_nil)))))))))))
theorem ok_law_take (C : Ctx P w K mg base) : DFn P w K mg base 1 "_law_take" ["_law_well_here", "_law_count"] F_law_take := by
  obtain ⟨f, fd, F, hg⟩ := C.d_law_take
  exact dfn (k := 0) F hg sc_law_take (fun _ _ _ _ _ _ us hl => match us, hl with | [_, _], _ => rfl) (fun _ _ _ _ _ _ us hl => match us, hl with | [_, _], _ => rfl) (fun cdv A outer s H E hr => (dss_cons (ds_if (dt_cmp do_gt (de_ix (dv 0) de_int (fun _ _ => rfl)) de_int (nomark _)) (dss_cons (ds_asg (de_callB dc_divmod (by rfl) C.g_divmod (by decide +kernel) (da_cons (de_ix (dv 0) de_int (fun _ _ => rfl)) (da_cons (dv 1) da_nil))) (dg_tup (by rfl) (dgs_cons (dg_sub hr.units1 (dv 0) de_int) (dgs_cons (dg_name (i := 2) sc_law_take.nd rfl (.inl rfl)) dgs_nil))))
    (dss_one (ds_ret (dv 2)))) dss_nil)
    (dss_cons (ds_asg (de_bin do_add (de_ix (dv 0) de_int (fun _ _ => rfl)) de_int) (dg_sub hr.units1 (dv 0) de_int))
    (dss_cons (ds_asg (de_bin do_mod (de_callTy dc_int (by rfl) C.g_int (by decide +kernel) (da_cons (de_bin do_add (de_bin do_add (de_bin do_mul (de_ix (dv 0) de_int (fun _ _ => rfl)) (de_bin do_add de_int (de_bin do_mul de_int (de_ix (dv 0) de_int (fun _ _ => rfl))))) (de_bin do_mul de_int (de_ix (dv 0) de_int (fun _ _ => rfl)))) de_int) da_nil)) de_int) (dg_sub hr.units1 (dv 0) de_int))
    (dss_one (ds_ret (de_bin do_mod (de_callTy dc_int (by rfl) C.g_int (by decide +kernel) (da_cons (de_bin do_fdiv (de_bin do_mod (de_callTy dc_int (by rfl) C.g_int (by decide +kernel) (da_cons (de_bin do_mul (de_ix (dv 0) de_int (fun _ _ => rfl)) (de_bin do_add (de_ix (dv 0) de_int (fun _ _ => rfl)) de_int)) da_nil)) de_int) de_int) da_nil)) (dv 1))))))))
theorem ok_law_pick (C : Ctx P w K mg base) : DFn P w K mg base 2 "_law_pick" ["_law_well_here", "_law_some"] F_law_pick := by
  obtain ⟨f, fd, F, hg⟩ := C.d_law_pick
  exact dfn (k := 1) F hg sc_law_pick (fun _ _ _ _ _ _ us hl => match us, hl with | [_, _], _ => rfl) (fun _ _ _ _ _ _ us hl => match us, hl with | [_, _], _ => rfl) (fun cdv A outer s H E hr => (dss_one (ds_ret (de_ix (dv 1) (de_callF (ok_law_take C) hr (by decide) (da_cons (dv 0) (da_cons (de_callB dc_len (by rfl) C.g_len (by decide +kernel) (da_cons (dv 1) da_nil)) da_nil))) (fun _ _ => rfl)))))
theorem ok_law_rounds (C : Ctx P w K mg base) : DFn P w K mg base 1 "_law_rounds" ["_law_script"] F_law_rounds := by
  obtain ⟨f, fd, F, hg⟩ := C.d_law_rounds
  exact dfn (k := 0) F hg sc_law_rounds (fun _ _ _ _ _ _ us hl => match us, hl with | [_], _ => rfl) (fun _ _ _ _ _ _ us hl => match us, hl with | [_], _ => rfl) (fun cdv A outer s H E hr => (dss_one (ds_ret (de_callB (dc_max rfl) (by rfl) C.g_max (by decide +kernel) (da_cons de_int (da_cons (de_callB (dc_min rfl) (by rfl) C.g_min (by decide +kernel) (da_cons (de_callB dc_len (by rfl) C.g_len (by decide +kernel) (da_cons (dv 0) da_nil)) (da_cons de_int da_nil))) da_nil))))))
theorem ok_law_common (C : Ctx P w K mg base) : DFn P w K mg base 1 "_law_common" ["_law_one", "_law_two"] F_law_common := by
  obtain ⟨f, fd, F, hg⟩ := C.d_law_common
  exact dfn (k := 0) F hg sc_law_common (fun _ _ _ _ _ _ us hl => match us, hl with | [_, _], _ => rfl) (fun _ _ _ _ _ _ us hl => match us, hl with | [_, _], _ => rfl) (fun cdv A outer s H E hr => (dss_cons (ds_par (i := 0) (j := 1) (by rfl) sc_law_common.nd rfl rfl (by decide) rfl rfl (da_cons (de_callB dc_abs (by rfl) C.g_abs (by decide +kernel) (da_cons (dv 0) da_nil)) (da_cons (de_callB dc_abs (by rfl) C.g_abs (by decide +kernel) (da_cons (dv 1) da_nil)) da_nil)) (by rfl))
    (dss_cons (ds_while fuelC PassesOwn.never (dt_cmp do_gt (dv 1) de_int (nomark _)) (dss_one (ds_par (i := 0) (j := 1) (by rfl) sc_law_common.nd rfl rfl (by decide) rfl rfl (da_cons (dv 1) (da_cons (de_bin do_mod (de_callTy dc_int (by rfl) C.g_int (by decide +kernel) (da_cons (dv 0) da_nil)) (dv 1)) da_nil)) (by rfl))))
    (dss_one (ds_ret (dv 0))))))
theorem ok_law_ratio (C : Ctx P w K mg base) : DFn P w K mg base 2 "_law_ratio" ["_law_n", "_law_m"] F_law_ratio := by
  obtain ⟨f, fd, F, hg⟩ := C.d_law_ratio
  exact dfn (k := 1) F hg sc_law_ratio (fun _ _ _ _ _ _ us hl => match us, hl with | [_, _], _ => rfl) (fun _ _ _ _ _ _ us hl => match us, hl with | [_, _], _ => rfl) (fun cdv A outer s H E hr => (dss_cons (ds_setn (i := 2) sc_law_ratio.nd rfl (.inl rfl) (de_callF (ok_law_common C) hr (by decide) (da_cons (dv 0) (da_cons (dv 1) da_nil))))
    (dss_cons (ds_setn (i := 2) sc_law_ratio.nd rfl (.inl rfl) (de_if (dt_cmp do_gt (dv 1) de_int (nomark _)) (dv 2) (de_bin do_sub de_int (dv 2))))
    (dss_one (ds_ret (de_tup (da_cons (de_bin do_fdiv (dv 0) (dv 2)) (da_cons (de_bin do_fdiv (dv 1) (dv 2)) da_nil))))))))
theorem ok_law_sum (C : Ctx P w K mg base) : DFn P w K mg base 3 "_law_sum" ["_law_a", "_law_b"] F_law_sum := by
  obtain ⟨f, fd, F, hg⟩ := C.d_law_sum
  exact dfn (k := 2) F hg sc_law_sum (fun _ _ _ _ _ _ us hl => match us, hl with | [_, _], _ => rfl) (fun _ _ _ _ _ _ us hl => match us, hl with | [_, _], _ => rfl) (fun cdv A outer s H E hr => (dss_cons (ds_if (PW.pt (dw_and (dt_cmp (do_eqM hr.units) (de_ix (dv 0) de_int (fun _ _ => rfl)) de_int (nomark _)) (dw_and1 (dt_cmp (do_eqM hr.units) (de_ix (dv 1) de_int (fun _ _ => rfl)) de_int (nomark _))))) (dss_one (ds_ret (de_tup (da_cons (de_bin do_add (de_ix (dv 0) de_int (fun _ _ => rfl)) (de_ix (dv 1) de_int (fun _ _ => rfl))) (da_cons de_int da_nil))))) dss_nil)
    (dss_one (ds_ret (de_callF (ok_law_ratio C) hr (by decide) (da_cons (de_bin do_add (de_bin do_mul (de_ix (dv 0) de_int (fun _ _ => rfl)) (de_ix (dv 1) de_int (fun _ _ => rfl))) (de_bin do_mul (de_ix (dv 1) de_int (fun _ _ => rfl)) (de_ix (dv 0) de_int (fun _ _ => rfl)))) (da_cons (de_bin do_mul (de_ix (dv 0) de_int (fun _ _ => rfl)) (de_ix (dv 1) de_int (fun _ _ => rfl))) da_nil)))))))
theorem ok_law_product (C : Ctx P w K mg base) : DFn P w K mg base 3 "_law_product" ["_law_a", "_law_b"] F_law_product := by
  obtain ⟨f, fd, F, hg⟩ := C.d_law_product
  exact dfn (k := 2) F hg sc_law_product (fun _ _ _ _ _ _ us hl => match us, hl with | [_, _], _ => rfl) (fun _ _ _ _ _ _ us hl => match us, hl with | [_, _], _ => rfl) (fun cdv A outer s H E hr => (dss_cons (ds_if (PW.pt (dw_and (dt_cmp (do_eqM hr.units) (de_ix (dv 0) de_int (fun _ _ => rfl)) de_int (nomark _)) (dw_and1 (dt_cmp (do_eqM hr.units) (de_ix (dv 1) de_int (fun _ _ => rfl)) de_int (nomark _))))) (dss_one (ds_ret (de_tup (da_cons (de_bin do_mul (de_ix (dv 0) de_int (fun _ _ => rfl)) (de_ix (dv 1) de_int (fun _ _ => rfl))) (da_cons de_int da_nil))))) dss_nil)
    (dss_one (ds_ret (de_callF (ok_law_ratio C) hr (by decide) (da_cons (de_bin do_mul (de_ix (dv 0) de_int (fun _ _ => rfl)) (de_ix (dv 1) de_int (fun _ _ => rfl))) (da_cons (de_bin do_mul (de_ix (dv 0) de_int (fun _ _ => rfl)) (de_ix (dv 1) de_int (fun _ _ => rfl))) da_nil)))))))
theorem ok_law_number (C : Ctx P w K mg base) : DFn P w K mg base 3 "_law_number" ["_law_well_here"] F_law_number := by
  obtain ⟨f, fd, F, hg⟩ := C.d_law_number
  exact dfn (k := 2) F hg sc_law_number (fun _ _ _ _ _ _ us hl => match us, hl with | [_], _ => rfl) (fun _ _ _ _ _ _ us hl => match us, hl with | [_], _ => rfl) (fun cdv A outer s H E hr => (dss_cons (ds_setn (i := 1) sc_law_number.nd rfl (.inl rfl) (de_if (dt_cmp do_gt (de_callF (ok_law_take C) hr (by decide) (da_cons (dv 0) (da_cons de_int da_nil))) de_int (nomark _)) (de_bin do_add de_int (de_callF (ok_law_take C) hr (by decide) (da_cons (dv 0) (da_cons de_int da_nil)))) (de_bin do_add de_int (de_callF (ok_law_take C) hr (by decide) (da_cons (dv 0) (da_cons (de_bin do_pow de_int de_int) da_nil))))))
    (dss_cons (ds_setn (i := 2) sc_law_number.nd rfl (.inl rfl) (de_callF (ok_law_pick C) hr (by decide) (da_cons (dv 0) (da_cons (de_tup (da_cons de_int (da_cons de_int (da_cons de_int (da_cons de_int (da_cons de_int (da_cons de_int (da_cons de_int (da_cons de_int da_nil))))))))) da_nil))))
    (dss_one (ds_ret (de_callF (ok_law_ratio C) hr (by decide) (da_cons (de_if (dt_cmp (do_eqM hr.units) (de_callF (ok_law_take C) hr (by decide) (da_cons (dv 0) (da_cons de_int da_nil))) de_int (nomark _)) (dv 1) (de_bin do_sub de_int (dv 1))) (da_cons (dv 2) da_nil))))))))
theorem ok_law_is_whole (C : Ctx P w K mg base) : DFn P w K mg base 1 "_law_is_whole" ["_law_thing"] F_law_is_whole := by
  obtain ⟨f, fd, F, hg⟩ := C.d_law_is_whole
  exact dfn (k := 0) F hg sc_law_is_whole (fun _ _ _ _ _ _ us hl => match us, hl with | [_], _ => rfl) (fun _ _ _ _ _ _ us hl => match us, hl with | [_], _ => rfl) (fun cdv A outer s H E hr => (dss_one (ds_ret (de_and (de_callB dc_isi (by rfl) C.g_isinstance (by decide +kernel) (da_cons (dv 0) (da_cons (de_bty (by rfl) C.g_int (by decide +kernel)) da_nil))) (de_one (de_not (de_callB dc_isi (by rfl) C.g_isinstance (by decide +kernel) (da_cons (dv 0) (da_cons (de_bty (by rfl) C.g_bool (by decide +kernel)) da_nil)))))))))
theorem ok_law_is_fraction (C : Ctx P w K mg base) : DFn P w K mg base 2 "_law_is_fraction" ["_law_thing"] F_law_is_fraction := by
  obtain ⟨f, fd, F, hg⟩ := C.d_law_is_fraction
  exact dfn (k := 1) F hg sc_law_is_fraction (fun _ _ _ _ _ _ us hl => match us, hl with | [_], _ => rfl) (fun _ _ _ _ _ _ us hl => match us, hl with | [_], _ => rfl) (fun cdv A outer s H E hr => (dss_cons (ds_if (PW.pt (dw_or (dt_not (dt_val (de_callB dc_isi (by rfl) C.g_isinstance (by decide +kernel) (da_cons (dv 0) (da_cons (de_bty (by rfl) C.g_tuple (by decide +kernel)) da_nil))))) (dw_or (dt_cmp (do_ne hr.units) (de_callB dc_len (by rfl) C.g_len (by decide +kernel) (da_cons (dv 0) da_nil)) de_int (nomark _)) (dw_or (dt_not (dt_val (de_callF (ok_law_is_whole C) hr (by decide) (da_cons (de_ix (dv 0) de_int (fun _ _ => rfl)) da_nil)))) (dw_or1 (dt_not (dt_val (de_callF (ok_law_is_whole C) hr (by decide) (da_cons (de_ix (dv 0) de_int (fun _ _ => rfl)) da_nil))))))))) (dss_one (ds_ret de_bl)) dss_nil)
    (dss_one (ds_ret (de_and (de_cmp do_gt (de_ix (dv 0) de_int (fun _ _ => rfl)) de_int (nomark _)) (de_one (de_cmp (do_eqM hr.units) (de_callF (ok_law_common C) hr (by decide) (da_cons (de_ix (dv 0) de_int (fun _ _ => rfl)) (da_cons (de_ix (dv 0) de_int (fun _ _ => rfl)) da_nil))) de_int (nomark _))))))))
theorem ok_law_odd (C : Ctx P w K mg base) : DFn P w K mg base 3 "_law_odd" ["_law_well_here"] F_law_odd := by
  obtain ⟨f, fd, F, hg⟩ := C.d_law_odd
  exact dfn (k := 2) F hg sc_law_odd (fun _ _ _ _ _ _ us hl => match us, hl with | [_], _ => rfl) (fun _ _ _ _ _ _ us hl => match us, hl with | [_], _ => rfl) (fun cdv A outer s H E hr => (dss_cons (ds_setn (i := 1) sc_law_odd.nd rfl (.inl rfl) (de_tup (da_cons de_non (da_cons de_bl (da_cons de_bl (da_cons de_int (da_cons de_int (da_cons (de_un du_neg de_int) (da_cons de_int (da_cons de_str (da_cons de_str (da_cons de_str (da_cons de_str (da_cons de_str (da_cons (de_tup da_nil) (da_cons (de_tup (da_cons de_int da_nil)) (da_cons (de_tup (da_cons de_int (da_cons de_int da_nil))) (da_cons (de_tup (da_cons de_int (da_cons de_int da_nil))) (da_cons (de_tup (da_cons de_int (da_cons de_int da_nil))) (da_cons (de_tup (da_cons de_int (da_cons (de_un du_neg de_int) da_nil))) (da_cons (de_tup (da_cons de_int (da_cons de_int da_nil))) da_nil)))))))))))))))))))))
    (dss_cons (ds_setn (i := 2) sc_law_odd.nd rfl (.inl rfl) (de_tup (da_cons (de_lst da_nil) (da_cons (de_lst (da_cons de_int (da_cons (de_tup da_nil) da_nil))) (da_cons (de_tup (da_cons de_int (da_cons (de_tup da_nil) da_nil))) (da_cons (de_tup (da_cons de_int (da_cons (de_tup (da_cons (de_tup (da_cons de_int (da_cons de_int da_nil))) da_nil)) da_nil))) (da_cons (de_tup (da_cons de_int (da_cons (de_tup da_nil) da_nil))) (da_cons (de_tup (da_cons de_int (da_cons (de_tup (da_cons (de_tup (da_cons de_int (da_cons de_int da_nil))) da_nil)) da_nil))) (da_cons (de_tup (da_cons de_int (da_cons (de_lst (da_cons (de_tup (da_cons de_int (da_cons de_int da_nil))) da_nil)) da_nil))) (da_cons (de_tup (da_cons (de_tup (da_cons de_int (da_cons (de_tup da_nil) da_nil))) (da_cons (de_tup (da_cons de_int (da_cons (de_tup da_nil) da_nil))) da_nil))) (da_cons (de_tup (da_cons (de_tup (da_cons de_int (da_cons de_int da_nil))) (da_cons (de_tup (da_cons de_int (da_cons de_int da_nil))) da_nil))) (da_cons de_dic (da_cons (de_dsp [((fC (.str "low")), (fC (.int 1)))] (pps_cons de_str de_int pps_nil) (by rfl) (by rfl) (fun z => by cases z) (by decide)) (da_cons (de_tup (da_cons de_str (da_cons (de_tup (da_cons de_int (da_cons (de_tup da_nil) da_nil))) da_nil))) da_nil))))))))))))))
    (dss_one (ds_ret (de_callF (ok_law_pick C) hr (by decide) (da_cons (dv 0) (da_cons (de_if (dt_cmp (do_eqM hr.units) (de_callF (ok_law_take C) hr (by decide) (da_cons (dv 0) (da_cons de_int da_nil))) de_int (nomark _)) (dv 1) (dv 2)) da_nil))))))))
theorem ok_law_spoilt (C : Ctx P w K mg base) : ∀ m : Nat, DFn P w K mg base (3 + m) "_law_spoilt" ["_law_well_here", "_law_thing"] (R_law_spoilt m)
  | 0 => by
    obtain ⟨f, fd, F, hg⟩ := C.d_law_spoilt
    exact ⟨f, fd, ⟨fun vs H Q E h => absurd h (by rintro ⟨_, _, _, _, _, _, _, e, _⟩; cases e), fun A outer s H args us vs Q E hr e0 hbd rv h => absurd h (by rintro ⟨_, _, _, _, _, _, _, e, _⟩; cases e)⟩, hg, F.kp, FunD.bindsN F (fun _ _ _ _ _ _ us hl => match us, hl with | [_, _], _ => rfl), FunD.bindsK F (fun _ _ _ _ _ _ us hl => match us, hl with | [_, _], _ => rfl)⟩
  | m + 1 => by
    obtain ⟨f, fd, F, hg⟩ := C.d_law_spoilt
    have ih := ok_law_spoilt C m
    exact dfn (k := 3 + m) F hg sc_law_spoilt (fun _ _ _ _ _ _ us hl => match us, hl with | [_, _], _ => rfl) (fun _ _ _ _ _ _ us hl => match us, hl with | [_, _], _ => rfl) (fun cdv A outer s H E hr => (dss_cons (ds_if (PW.pt (dw_and (dt_val (de_callB dc_isi (by rfl) C.g_isinstance (by decide +kernel) (da_cons (dv 1) (da_cons (de_bty (by rfl) C.g_tuple (by decide +kernel)) da_nil)))) (dw_and1 (dt_cmp (do_ne hr.units) (dv 1) (de_tup da_nil) (nomark _))))) (dss_cons (ds_par (i := 2) (j := 3) (by rfl) sc_law_spoilt.nd rfl rfl (by decide) rfl rfl (da_cons (de_callF (ok_law_take C) hr (by omega) (da_cons (dv 0) (da_cons (de_callB dc_len (by rfl) C.g_len (by decide +kernel) (da_cons (dv 1) da_nil)) da_nil))) (da_cons (de_callF (ok_law_take C) hr (by omega) (da_cons (dv 0) (da_cons de_int da_nil))) da_nil)) (by rfl))
    (dss_cons (ds_if (dt_cmp do_lt (dv 3) de_int (nomark _)) (dss_one (ds_ret (de_bin do_add (de_bin do_add (de_slice (dv 1) do_none (do_some (dv 2))) (de_tup (da_cons (de_callF ih hr (by omega) (da_cons (dv 0) (da_cons (de_ix (dv 1) (dv 2) (fun _ _ => rfl)) da_nil))) da_nil))) (de_slice (dv 1) (do_some (de_bin do_add (dv 2) de_int)) do_none)))) dss_nil)
    (dss_one (ds_ret (de_ix (de_lst (da_cons (de_callTy (dc_list rfl) (by rfl) C.g_list (by decide +kernel) (da_cons (dv 1) da_nil)) (da_cons (de_bin do_add (de_slice (dv 1) do_none (do_some (dv 2))) (de_slice (dv 1) (do_some (de_bin do_add (dv 2) de_int)) do_none)) (da_cons (de_bin do_add (de_slice (dv 1) do_none (do_some (de_bin do_add (dv 2) de_int))) (de_slice (dv 1) (do_some (dv 2)) do_none)) da_nil)))) (de_bin do_sub (dv 3) de_int) (fun _ _ => rfl)))))) dss_nil)
    (dss_cons (ds_if (PW.pt (dw_and (dt_val (de_callF (ok_law_is_whole C) hr (by omega) (da_cons (dv 1) da_nil))) (dw_and1 (dt_cmp do_gt (de_callF (ok_law_take C) hr (by omega) (da_cons (dv 0) (da_cons de_int da_nil))) de_int (nomark _))))) (dss_one (ds_ret (de_callF (ok_law_pick C) hr (by omega) (da_cons (dv 0) (da_cons (de_tup (da_cons (de_bin do_sub de_int (dv 1)) (da_cons de_int (da_cons (de_if (dt_cmp do_gt (dv 1) (de_un du_neg de_int) (nomark _)) (de_bin do_sub (dv 1) de_int) de_int) (da_cons (de_callTy dc_str (by rfl) C.g_str (by decide +kernel) (da_cons (dv 1) da_nil)) (da_cons (de_callTy dc_bool (by rfl) C.g_bool (by decide +kernel) (da_cons (dv 1) da_nil)) (da_cons (de_tup (da_cons (dv 1) da_nil)) (da_cons (de_if (dt_cmp do_lt (dv 1) de_int (nomark _)) (de_bin do_add (dv 1) de_int) de_int) da_nil)))))))) da_nil))))) dss_nil)
    (dss_one (ds_ret (de_callF (ok_law_odd C) hr (by omega) (da_cons (dv 0) da_nil)))))))
theorem ok_law_direction (C : Ctx P w K mg base) : DFn P w K mg base 3 "_law_direction" ["_law_well_here"] F_law_direction := by
  obtain ⟨f, fd, F, hg⟩ := C.d_law_direction
  exact dfn (k := 2) F hg sc_law_direction (fun _ _ _ _ _ _ us hl => match us, hl with | [_], _ => rfl) (fun _ _ _ _ _ _ us hl => match us, hl with | [_], _ => rfl) (fun cdv A outer s H E hr => (dss_cons (ds_par (i := 2) (j := 3) (by rfl) sc_law_direction.nd rfl rfl (by decide) rfl rfl (da_cons (de_callF (ok_law_take C) hr (by decide) (da_cons (dv 0) (da_cons (de_callF (ok_law_pick C) hr (by decide) (da_cons (dv 0) (da_cons (de_tup (da_cons de_int (da_cons de_int (da_cons de_int (da_cons de_int da_nil))))) da_nil))) da_nil))) (da_cons (de_bin do_sub (de_callF (ok_law_take C) hr (by decide) (da_cons (dv 0) (da_cons de_int da_nil))) de_int) da_nil)) (by rfl))
    (dss_cons (ds_if (dt_cmp (do_eqM hr.units) (dv 2) de_int (nomark _)) (dss_one (ds_ret (de_tup (da_cons de_int (da_cons de_int da_nil))))) dss_nil)
    (dss_cons (ds_setn (i := 1) sc_law_direction.nd rfl (.inl rfl) (de_callF (ok_law_common C) hr (by decide) (da_cons (dv 2) (da_cons (dv 3) da_nil))))
    (dss_one (ds_ret (de_tup (da_cons (de_bin do_fdiv (dv 2) (dv 1)) (da_cons (de_bin do_fdiv (dv 3) (dv 1)) da_nil)))))))))
theorem ok_law_grid (C : Ctx P w K mg base) : DFn P w K mg base 4 "_law_grid" ["_law_well_here"] F_law_grid := by
  obtain ⟨f, fd, F, hg⟩ := C.d_law_grid
  exact dfn (k := 3) F hg sc_law_grid (fun _ _ _ _ _ _ us hl => match us, hl with | [_], _ => rfl) (fun _ _ _ _ _ _ us hl => match us, hl with | [_], _ => rfl) (fun cdv A outer s H E hr => (dss_cons (ds_par3 (i := 1) (j := 2) (l := 3) (by rfl) sc_law_grid.nd rfl rfl rfl (by decide) (by decide) (by decide) rfl rfl rfl (da_cons (de_callF (ok_law_number C) hr (by decide) (da_cons (dv 0) da_nil)) (da_cons (de_callF (ok_law_pick C) hr (by decide) (da_cons (dv 0) (da_cons (de_tup (da_cons (de_tup (da_cons de_int (da_cons de_int da_nil))) (da_cons (de_tup (da_cons de_int (da_cons de_int da_nil))) (da_cons (de_callF (ok_law_number C) hr (by decide) (da_cons (dv 0) da_nil)) da_nil)))) da_nil))) (da_cons (de_callF (ok_law_pick C) hr (by decide) (da_cons (dv 0) (da_cons (de_tup (da_cons de_int (da_cons (de_un du_neg de_int) da_nil))) da_nil))) da_nil))) (by rfl))
    (dss_cons (ds_if (dt_cmp (do_eqM hr.units) (de_callF (ok_law_take C) hr (by decide) (da_cons (dv 0) (da_cons de_int da_nil))) de_int (nomark _)) (dss_one (ds_par (i := 1) (j := 2) (by rfl) sc_law_grid.nd rfl rfl (by decide) rfl rfl (da_cons (dv 2) (da_cons (dv 1) da_nil)) (by rfl))) dss_nil)
    (dss_one (ds_ret (de_tup (da_cons (de_tup (da_cons (dv 1) (da_cons (de_callF (ok_law_ratio C) hr (by decide) (da_cons (de_bin do_sub de_int (de_bin do_mul (dv 3) (de_ix (dv 2) de_int (fun _ _ => rfl)))) (da_cons (de_ix (dv 2) de_int (fun _ _ => rfl)) da_nil))) da_nil))) (da_cons (de_tup (da_cons (dv 2) (da_cons (de_callF (ok_law_ratio C) hr (by decide) (da_cons (de_bin do_mul (dv 3) (de_ix (dv 1) de_int (fun _ _ => rfl))) (da_cons (de_ix (dv 1) de_int (fun _ _ => rfl)) da_nil))) da_nil))) da_nil))))))))
theorem ok_law_turns (C : Ctx P w K mg base) : DFn P w K mg base 5 "_law_turns" ["_law_well_here", "_law_most"] F_law_turns := by
  obtain ⟨f, fd, F, hg⟩ := C.d_law_turns
  exact dfn (k := 4) F hg sc_law_turns (fun _ _ _ _ _ _ us hl => match us, hl with | [_, _], _ => rfl) (fun _ _ _ _ _ _ us hl => match us, hl with | [_, _], _ => rfl) (fun cdv A outer s H E hr => (dss_cons (ds_setn (i := 2) sc_law_turns.nd rfl (.inl rfl) (de_lst da_nil))
    (dss_cons (ds_for PassesOwn.never rfl (di_rng1 (by rfl) C.g_range (da_cons (de_callF (ok_law_take C) hr (by decide) (da_cons (dv 0) (da_cons (de_bin do_add (dv 1) de_int) da_nil))) da_nil)) (dg_name (i := 3) sc_law_turns.nd rfl (.inl rfl)) (dss_cons (ds_setn (i := 4) sc_law_turns.nd rfl (.inl rfl) (de_callF (ok_law_direction C) hr (by decide) (da_cons (dv 0) da_nil)))
    (dss_one (ds_if (PW.pt (dw_or (dt_cmp (do_eqM hr.units) (dv 2) (de_lst da_nil) (nomark _)) (dw_or1 (dt_cmp (do_ne hr.units) (de_bin do_add (de_bin do_mul (de_ix (de_ix (dv 2) (de_un du_neg de_int) (fun _ _ => rfl)) de_int (fun _ _ => rfl)) (de_ix (dv 4) de_int (fun _ _ => rfl))) (de_bin do_mul (de_ix (de_ix (dv 2) (de_un du_neg de_int) (fun _ _ => rfl)) de_int (fun _ _ => rfl)) (de_ix (dv 4) de_int (fun _ _ => rfl)))) de_int (nomark _))))) (dss_one (ds_expr (de_ml PySem.F.plainAttrs_list PySem.F.slot_list_append PySem.F.type_list_append dm_append (dv 2) (da_cons (dv 4) da_nil)))) dss_nil))))
    (dss_one (ds_ret (de_tup (da_cons (de_callF (ok_law_pick C) hr (by decide) (da_cons (dv 0) (da_cons (de_tup (da_cons de_int (da_cons de_int (da_cons de_int (da_cons (de_un du_neg de_int) (da_cons de_int (da_cons (de_un du_neg de_int) (da_cons de_int da_nil)))))))) da_nil))) (da_cons (de_callTy dc_tuple (by rfl) C.g_tuple (by decide +kernel) (da_cons (dv 2) da_nil)) (da_cons (de_callF (ok_law_grid C) hr (by decide) (da_cons (dv 0) da_nil)) da_nil)))))))))
theorem ok_law_is_way (C : Ctx P w K mg base) : DFn P w K mg base 2 "_law_is_way" ["_law_thing"] F_law_is_way := by
  obtain ⟨f, fd, F, hg⟩ := C.d_law_is_way
  exact dfn (k := 1) F hg sc_law_is_way (fun _ _ _ _ _ _ us hl => match us, hl with | [_], _ => rfl) (fun _ _ _ _ _ _ us hl => match us, hl with | [_], _ => rfl) (fun cdv A outer s H E hr => (dss_cons (ds_if (PW.pt (dw_or (dt_not (dt_val (de_callB dc_isi (by rfl) C.g_isinstance (by decide +kernel) (da_cons (dv 0) (da_cons (de_bty (by rfl) C.g_tuple (by decide +kernel)) da_nil))))) (dw_or (dt_cmp (do_ne hr.units) (de_callB dc_len (by rfl) C.g_len (by decide +kernel) (da_cons (dv 0) da_nil)) de_int (nomark _)) (dw_or (dt_not (dt_val (de_callF (ok_law_is_whole C) hr (by decide) (da_cons (de_ix (dv 0) de_int (fun _ _ => rfl)) da_nil)))) (dw_or1 (dt_not (dt_val (de_callF (ok_law_is_whole C) hr (by decide) (da_cons (de_ix (dv 0) de_int (fun _ _ => rfl)) da_nil))))))))) (dss_one (ds_ret de_bl)) dss_nil)
    (dss_one (ds_ret (de_and (de_cmp (do_eqM hr.units) (de_callF (ok_law_common C) hr (by decide) (da_cons (de_ix (dv 0) de_int (fun _ _ => rfl)) (da_cons (de_ix (dv 0) de_int (fun _ _ => rfl)) da_nil))) de_int (nomark _)) (de_one (de_or (de_cmp do_gt (de_ix (dv 0) de_int (fun _ _ => rfl)) de_int (nomark _)) (de_one (de_and (de_cmp (do_eqM hr.units) (de_ix (dv 0) de_int (fun _ _ => rfl)) de_int (nomark _)) (de_one (de_cmp do_gt (de_ix (dv 0) de_int (fun _ _ => rfl)) de_int (nomark _))))))))))))
theorem ok_law_across (C : Ctx P w K mg base) : DFn P w K mg base 1 "_law_across" ["_law_one", "_law_two"] F_law_across := by
  obtain ⟨f, fd, F, hg⟩ := C.d_law_across
  exact dfn (k := 0) F hg sc_law_across (fun _ _ _ _ _ _ us hl => match us, hl with | [_, _], _ => rfl) (fun _ _ _ _ _ _ us hl => match us, hl with | [_, _], _ => rfl) (fun cdv A outer s H E hr => (dss_one (ds_ret (de_cmp (do_eqM hr.units) (de_bin do_add (de_bin do_mul (de_ix (dv 0) de_int (fun _ _ => rfl)) (de_ix (dv 1) de_int (fun _ _ => rfl))) (de_bin do_mul (de_ix (dv 0) de_int (fun _ _ => rfl)) (de_ix (dv 1) de_int (fun _ _ => rfl)))) de_int (nomark _)))))
theorem ok_law_is_grid (C : Ctx P w K mg base) : DFn P w K mg base 4 "_law_is_grid" ["_law_thing"] F_law_is_grid := by
  obtain ⟨f, fd, F, hg⟩ := C.d_law_is_grid
  exact dfn (k := 3) F hg sc_law_is_grid (fun _ _ _ _ _ _ us hl => match us, hl with | [_], _ => rfl) (fun _ _ _ _ _ _ us hl => match us, hl with | [_], _ => rfl) (fun cdv A outer s H E hr => (dss_cons (ds_if (PW.pt (dw_or (dt_not (dt_val (de_callB dc_isi (by rfl) C.g_isinstance (by decide +kernel) (da_cons (dv 0) (da_cons (de_bty (by rfl) C.g_tuple (by decide +kernel)) da_nil))))) (dw_or1 (dt_cmp (do_ne hr.units) (de_callB dc_len (by rfl) C.g_len (by decide +kernel) (da_cons (dv 0) da_nil)) de_int (nomark _))))) (dss_one (ds_ret de_bl)) dss_nil)
    (dss_cons (ds_for PassesOwn.never rfl (di_tup (dv 0)) (dg_name (i := 1) sc_law_is_grid.nd rfl (.inl rfl)) (dss_one (ds_if (PW.pt (dw_or (dt_not (dt_val (de_callB dc_isi (by rfl) C.g_isinstance (by decide +kernel) (da_cons (dv 1) (da_cons (de_bty (by rfl) C.g_tuple (by decide +kernel)) da_nil))))) (dw_or (dt_cmp (do_ne hr.units) (de_callB dc_len (by rfl) C.g_len (by decide +kernel) (da_cons (dv 1) da_nil)) de_int (nomark _)) (dw_or (dt_not (dt_val (de_callF (ok_law_is_fraction C) hr (by decide) (da_cons (de_ix (dv 1) de_int (fun _ _ => rfl)) da_nil)))) (dw_or1 (dt_not (dt_val (de_callF (ok_law_is_fraction C) hr (by decide) (da_cons (de_ix (dv 1) de_int (fun _ _ => rfl)) da_nil))))))))) (dss_one (ds_ret de_bl)) dss_nil)))
    (dss_cons (ds_asg (de_tup (da_cons (de_ix (de_ix (dv 0) de_int (fun _ _ => rfl)) de_int (fun _ _ => rfl)) (da_cons (de_ix (de_ix (dv 0) de_int (fun _ _ => rfl)) de_int (fun _ _ => rfl)) (da_cons (de_ix (de_ix (dv 0) de_int (fun _ _ => rfl)) de_int (fun _ _ => rfl)) (da_cons (de_ix (de_ix (dv 0) de_int (fun _ _ => rfl)) de_int (fun _ _ => rfl)) da_nil))))) (dg_tup (by rfl) (dgs_cons (dg_name (i := 2) sc_law_is_grid.nd rfl (.inl rfl)) (dgs_cons (dg_name (i := 3) sc_law_is_grid.nd rfl (.inl rfl)) (dgs_cons (dg_name (i := 4) sc_law_is_grid.nd rfl (.inl rfl)) (dgs_cons (dg_name (i := 5) sc_law_is_grid.nd rfl (.inl rfl)) dgs_nil))))))
    (dss_cons (ds_par (i := 6) (j := 7) (by rfl) sc_law_is_grid.nd rfl rfl (by decide) rfl rfl (da_cons (de_callF (ok_law_sum C) hr (by decide) (da_cons (de_callF (ok_law_product C) hr (by decide) (da_cons (dv 2) (da_cons (dv 2) da_nil))) (da_cons (de_callF (ok_law_product C) hr (by decide) (da_cons (dv 4) (da_cons (dv 4) da_nil))) da_nil))) (da_cons (de_callF (ok_law_sum C) hr (by decide) (da_cons (de_callF (ok_law_product C) hr (by decide) (da_cons (dv 3) (da_cons (dv 3) da_nil))) (da_cons (de_callF (ok_law_product C) hr (by decide) (da_cons (dv 5) (da_cons (dv 5) da_nil))) da_nil))) da_nil)) (by rfl))
    (dss_one (ds_ret (de_and (de_cmp (do_eqM hr.units) (dv 6) (dv 7) (nomark _)) (de_and (de_cmp do_gt (de_ix (dv 6) de_int (fun _ _ => rfl)) de_int (nomark _)) (de_one (de_cmp (do_eqM hr.units) (de_ix (de_callF (ok_law_sum C) hr (by decide) (da_cons (de_callF (ok_law_product C) hr (by decide) (da_cons (dv 2) (da_cons (dv 3) da_nil))) (da_cons (de_callF (ok_law_product C) hr (by decide) (da_cons (dv 4) (da_cons (dv 5) da_nil))) da_nil))) de_int (fun _ _ => rfl)) de_int (nomark _))))))))))))
theorem ok_law_judged (C : Ctx P w K mg base) : DFn P w K mg base 5 "_law_judged" ["_law_thing"] F_law_judged := by
  obtain ⟨f, fd, F, hg⟩ := C.d_law_judged
  exact dfn (k := 4) F hg sc_law_judged (fun _ _ _ _ _ _ us hl => match us, hl with | [_], _ => rfl) (fun _ _ _ _ _ _ us hl => match us, hl with | [_], _ => rfl) (fun cdv A outer s H E hr => (dss_cons (ds_if (PW.pt (dw_or (dt_not (dt_val (de_callB dc_isi (by rfl) C.g_isinstance (by decide +kernel) (da_cons (dv 0) (da_cons (de_bty (by rfl) C.g_tuple (by decide +kernel)) da_nil))))) (dw_or (dt_cmp (do_ne hr.units) (de_callB dc_len (by rfl) C.g_len (by decide +kernel) (da_cons (dv 0) da_nil)) de_int (nomark _)) (dw_or (dt_not (dt_val (de_callF (ok_law_is_whole C) hr (by decide) (da_cons (de_ix (dv 0) de_int (fun _ _ => rfl)) da_nil)))) (dw_or1 (dt_not (dt_val (de_callB dc_isi (by rfl) C.g_isinstance (by decide +kernel) (da_cons (de_ix (dv 0) de_int (fun _ _ => rfl)) (da_cons (de_bty (by rfl) C.g_tuple (by decide +kernel)) da_nil)))))))))) (dss_one (ds_ret de_bl)) dss_nil)
    (dss_cons (ds_if (PW.pt (dw_or (dt_cmp (do_ne hr.units) (de_lc (own := [("_law_each", 2)]) (t := (gName 2)) rfl sc_law_judged.nd (di_tup (de_ix (dv 0) de_int (fun _ _ => rfl))) (blkOk_by (N := n_law_judged) (sc := (defScope (top 32))) (by decide +kernel)) (fun _ _ _ _ _ => (pg_name (i := 2) sc_law_judged.nd rfl (Or.inl rfl))) (wg_name (by decide)) (fun _ _ _ _ _ => (dts_one (dt_not (dt_val (de_callF (ok_law_is_way C) hr (by decide) (da_cons (dv 2) da_nil)))))) (fun _ _ _ _ _ => (dv 2))) (de_lst da_nil) (nomark _)) (dw_or1 (dt_not (dt_val (de_callF (ok_law_is_grid C) hr (by decide) (da_cons (de_ix (dv 0) de_int (fun _ _ => rfl)) da_nil))))))) (dss_one (ds_ret de_bl)) dss_nil)
    (dss_one (ds_ret (de_cmp (do_eqM hr.units) (de_lc (own := [("_law_k", 1)]) (t := (gName 1)) rfl sc_law_judged.nd (di_rng2 (by rfl) C.g_range (da_cons de_int (da_cons (de_callB dc_len (by rfl) C.g_len (by decide +kernel) (da_cons (de_ix (dv 0) de_int (fun _ _ => rfl)) da_nil)) da_nil))) (blkOk_by (N := n_law_judged) (sc := (defScope (top 32))) (by decide +kernel)) (fun _ _ _ _ _ => (pg_name (i := 1) sc_law_judged.nd rfl (Or.inl rfl))) (wg_name (by decide)) (fun _ _ _ _ _ => (dts_one (dt_val (de_callF (ok_law_across C) hr (by decide) (da_cons (de_ix (de_ix (dv 0) de_int (fun _ _ => rfl)) (de_bin do_sub (dv 1) de_int) (fun _ _ => rfl)) (da_cons (de_ix (de_ix (dv 0) de_int (fun _ _ => rfl)) (dv 1) (fun _ _ => rfl)) da_nil)))))) (fun _ _ _ _ _ => (dv 1))) (de_lst da_nil) (nomark _)))))))
theorem ok_law_bent (C : Ctx P w K mg base) : DFn P w K mg base 16 "_law_bent" ["_law_well_here", "_law_right_here"] F_law_bent := by
  obtain ⟨f, fd, F, hg⟩ := C.d_law_bent
  exact dfn (k := 15) F hg sc_law_bent (fun _ _ _ _ _ _ us hl => match us, hl with | [_, _], _ => rfl) (fun _ _ _ _ _ _ us hl => match us, hl with | [_, _], _ => rfl) (fun cdv A outer s H E hr => (dss_cons (ds_asg (dv 1) (dg_tup (by rfl) (dgs_cons (dg_name (i := 3) sc_law_bent.nd rfl (.inl rfl)) (dgs_cons (dg_name (i := 4) sc_law_bent.nd rfl (.inl rfl)) (dgs_cons (dg_name (i := 5) sc_law_bent.nd rfl (.inl rfl)) dgs_nil)))))
    (dss_cons (ds_setn (i := 2) sc_law_bent.nd rfl (.inl rfl) (de_callF (ok_law_take C) hr (by decide) (da_cons (dv 0) (da_cons de_int da_nil))))
    (dss_cons (ds_if (PW.pt (dw_and (dt_cmp do_lt (dv 2) de_int (nomark _)) (dw_and1 (dt_cmp (do_ne hr.units) (dv 4) (de_tup da_nil) (nomark _))))) (dss_cons (ds_setn (i := 6) sc_law_bent.nd rfl (.inl rfl) (de_callF (ok_law_take C) hr (by decide) (da_cons (dv 0) (da_cons (de_callB dc_len (by rfl) C.g_len (by decide +kernel) (da_cons (dv 4) da_nil)) da_nil))))
    (dss_cons (ds_asg (de_ix (dv 4) (dv 6) (fun _ _ => rfl)) (dg_tup (by rfl) (dgs_cons (dg_name (i := 9) sc_law_bent.nd rfl (.inl rfl)) (dgs_cons (dg_name (i := 10) sc_law_bent.nd rfl (.inl rfl)) dgs_nil))))
    (dss_cons (ds_setn (i := 7) sc_law_bent.nd rfl (.inl rfl) (de_ix (de_lst (da_cons (de_tup (da_cons (de_bin do_mul de_int (dv 9)) (da_cons (de_bin do_mul de_int (dv 10)) da_nil))) (da_cons (de_tup (da_cons (de_bin do_sub de_int (dv 9)) (da_cons (de_bin do_sub de_int (dv 10)) da_nil))) (da_cons (de_tup (da_cons (dv 10) (da_cons (de_bin do_sub de_int (dv 9)) da_nil))) (da_cons (de_tup (da_cons (de_bin do_sub de_int (dv 10)) (da_cons (dv 9) da_nil))) da_nil))))) (dv 2) (fun _ _ => rfl)))
    (dss_one (ds_ret (de_tup (da_cons (dv 3) (da_cons (de_bin do_add (de_bin do_add (de_slice (dv 4) do_none (do_some (de_bin do_add (dv 6) (de_callTy dc_int (by rfl) C.g_int (by decide +kernel) (da_cons (de_cmp do_gt (dv 2) de_int (nomark _)) da_nil))))) (de_tup (da_cons (dv 7) da_nil))) (de_slice (dv 4) (do_some (de_bin do_add (dv 6) de_int)) do_none)) (da_cons (dv 5) da_nil))))))))) dss_nil)
    (dss_cons (ds_if (dt_cmp do_lt (dv 2) de_int (nomark _)) (dss_cons (ds_asg (de_tup (da_cons (de_ix (de_ix (dv 5) de_int (fun _ _ => rfl)) de_int (fun _ _ => rfl)) (da_cons (de_ix (de_ix (dv 5) de_int (fun _ _ => rfl)) de_int (fun _ _ => rfl)) (da_cons (de_ix (de_ix (dv 5) de_int (fun _ _ => rfl)) de_int (fun _ _ => rfl)) (da_cons (de_ix (de_ix (dv 5) de_int (fun _ _ => rfl)) de_int (fun _ _ => rfl)) da_nil))))) (dg_tup (by rfl) (dgs_cons (dg_name (i := 11) sc_law_bent.nd rfl (.inl rfl)) (dgs_cons (dg_name (i := 12) sc_law_bent.nd rfl (.inl rfl)) (dgs_cons (dg_name (i := 13) sc_law_bent.nd rfl (.inl rfl)) (dgs_cons (dg_name (i := 14) sc_law_bent.nd rfl (.inl rfl)) dgs_nil))))))
    (dss_cons (ds_setn (i := 8) sc_law_bent.nd rfl (.inl rfl) (de_tup (da_cons (de_callF (ok_law_ratio C) hr (by decide) (da_cons (de_bin do_mul de_int (de_ix (dv 12) de_int (fun _ _ => rfl))) (da_cons (de_ix (dv 12) de_int (fun _ _ => rfl)) da_nil))) (da_cons (de_callF (ok_law_ratio C) hr (by decide) (da_cons (de_bin do_mul de_int (de_ix (dv 14) de_int (fun _ _ => rfl))) (da_cons (de_ix (dv 14) de_int (fun _ _ => rfl)) da_nil))) da_nil))))
    (dss_cons (ds_setn (i := 7) sc_law_bent.nd rfl (.inl rfl) (de_lst (da_cons (de_tup (da_cons (de_tup (da_cons (dv 11) (da_cons (dv 13) da_nil))) (da_cons (de_tup (da_cons (dv 12) (da_cons (dv 14) da_nil))) da_nil))) (da_cons (de_tup (da_cons (de_tup (da_cons (dv 11) (da_cons (de_ix (dv 8) de_int (fun _ _ => rfl)) da_nil))) (da_cons (de_tup (da_cons (dv 13) (da_cons (de_ix (dv 8) de_int (fun _ _ => rfl)) da_nil))) da_nil))) (da_cons (de_tup (da_cons (de_tup (da_cons (de_tup (da_cons de_int (da_cons de_int da_nil))) (da_cons (de_tup (da_cons de_int (da_cons de_int da_nil))) da_nil))) (da_cons (de_tup (da_cons (de_tup (da_cons de_int (da_cons de_int da_nil))) (da_cons (de_tup (da_cons de_int (da_cons de_int da_nil))) da_nil))) da_nil))) (da_cons (de_tup (da_cons (de_tup (da_cons (dv 12) (da_cons (dv 11) da_nil))) (da_cons (de_tup (da_cons (dv 14) (da_cons (dv 13) da_nil))) da_nil))) (da_cons (de_tup (da_cons (de_tup (da_cons (dv 11) (da_cons (dv 12) da_nil))) (da_cons (de_tup (da_cons (dv 11) (da_cons (dv 12) da_nil))) da_nil))) da_nil)))))))
    (dss_one (ds_ret (de_tup (da_cons (dv 3) (da_cons (dv 4) (da_cons (de_ix (dv 7) (de_callF (ok_law_take C) hr (by decide) (da_cons (dv 0) (da_cons de_int da_nil))) (fun _ _ => rfl)) da_nil))))))))) dss_nil)
    (dss_one (ds_ret (de_if (dt_cmp do_lt (dv 2) de_int (nomark _)) (de_callF (ok_law_spoilt C deepest) hr (by decide) (da_cons (dv 0) (da_cons (dv 1) da_nil))) (de_callF (ok_law_odd C) hr (by decide) (da_cons (dv 0) da_nil))))))))))
theorem ok_law_right (C : Ctx P w K mg base) : DGn P w K mg base 17 "_law_right" ["_law_well_here"] F_law_right := by
  obtain ⟨f, fd, F, hg⟩ := C.d_law_right
  exact dgn (k := 16) F hg sc_law_right (fun _ _ _ _ _ _ us hl => match us, hl with | [_], _ => rfl) (fun cdv A outer s H E hA hr => (dss_cons (ds_setn (i := 1) sc_law_right.nd rfl (.inl rfl) (de_callF (ok_law_turns C) hr (by decide) (da_cons (dv 0) (da_cons de_int da_nil))))
    (dss_cons (ds_for PassesOwn.never rfl (di_rng1 (by rfl) C.g_range (da_cons de_int da_nil)) (dg_name (i := 2) sc_law_right.nd rfl (.inl rfl)) (dss_cons (ds_setn (i := 3) sc_law_right.nd rfl (.inl rfl) (de_if (dt_cmp (do_eqM hr.units) (dv 2) de_int (nomark _)) (dv 1) (de_callF (ok_law_bent C) hr (by decide) (da_cons (dv 0) (da_cons (dv 1) da_nil)))))
    (dss_cons (ds_setn (i := 4) sc_law_right.nd rfl (.inl rfl) (de_callF (ok_law_judged C) hr (by decide) (da_cons (dv 3) da_nil)))
    (dss_one (ds_if (dt_cmp (do_ne hr.units) (de_callB (dc_repr hA hr C.sm) (by rfl) C.g_repr (by decide +kernel) (da_cons (de_lst (da_cons (de_callF (ok_is_turns C) hr (by decide) (da_cons (dv 3) da_nil)) (da_cons (de_callK (ok_is_turns C) hr (by decide) (dk_cons (dv 3) dk_nil)) da_nil))) da_nil)) (de_callB (dc_repr hA hr C.sm) (by rfl) C.g_repr (by decide +kernel) (da_cons (de_lst (da_cons (dv 4) (da_cons (dv 4) da_nil))) da_nil)) (nomark _)) (dss_one (ds_ret de_bl)) dss_nil)))))
    (dss_one (ds_ret (de_cmp do_isB (de_callF (ok_is_turns C) hr (by decide) (da_cons (dv 1) da_nil)) de_bl (nomark _)))))))
theorem ok_law (C : Ctx P w K mg base) : DGn P w K mg base 18 "law" ["_law_script"] F_law := by
  obtain ⟨f, fd, F, hg⟩ := C.d_law
  exact dgn (k := 17) F hg sc_law (fun _ _ _ _ _ _ us hl => match us, hl with | [_], _ => rfl) (fun cdv A outer s H E hA hr => (dss_one (ds_ret (de_callB (dc_all rfl) (by rfl) C.g_all (by decide +kernel) (da_cons (de_lc (own := [("_law_turn", 1)]) (t := (gName 1)) rfl sc_law.nd (di_rng1 (by rfl) C.g_range (da_cons (de_callF (ok_law_rounds C) hr (by decide) (da_cons (dv 0) da_nil)) da_nil)) (blkOk_by (N := n_law) (sc := (defScope (top 38))) (by decide +kernel)) (fun _ _ _ _ _ => (pg_name (i := 1) sc_law.nd rfl (Or.inl rfl))) (wg_name (by decide)) (fun _ _ _ _ _ => dts_nil) (fun _ _ _ _ _ => (de_callG (ok_law_right C) hA hr (by decide) (da_cons (de_callF (ok_law_well C) hr (by decide) (da_cons (dv 0) (da_cons (dv 1) da_nil))) da_nil)))) da_nil)))))
end
end K37
namespace Vk
open PySem PySem.Spec PyProof.Rows L2
/-! ### what the head tells: the facts by names, and one Bool over the part of the heap that the module's names reach, sys.modules with it -/
def part (n : Nat) (g : Addr → Option Obj) : PySem.W.Frag := He.frG g (sysModules :: cStatics :: He.asD g n)
def lookV (n : Nat) (fa : List He.Fa) (fn : List He.DefD) (ex : PySem.W.Frag → Bool) (g : Addr → Option Obj) : He.AlD × Bool := (He.obsD fa fn (part n g), ex (part n g))
def hookV (n : Nat) (fa : List He.Fa) (fn : List He.DefD) (ex : PySem.W.Frag → Bool) : PySem.W.Hook where
  α := He.AlD × Bool
  obs := fun s => lookV n fa fn ex s.heap.get?
  val := fun _ => (He.valD fn, true)
  says := fun _ h => ∃ K : PySem.W.Frag, K.In h ∧ He.SaysD fa fn K ∧ ex K = true
  of := fun _ _ e => ⟨_, He.frG_in, congrArg Prod.fst e, congrArg Prod.snd e⟩
  keeps := fun _ _ _ ⟨K, i, c, x⟩ k => ⟨K, i.keeps k, c, x⟩
theorem lookV_eq {n : Nat} {fa : List He.Fa} {fn : List He.DefD} {ex : PySem.W.Frag → Bool} {g : Addr → Option Obj} {s : Shared} (h : ∀ a, g a = s.heap.get? a) : lookV n fa fn ex g = (hookV n fa fn ex).obs s := by
  obtain rfl : g = s.heap.get? := funext h
  rfl
/-! ### the end of a law whose def knows that no repr runs -/
section
variable {P : Program} {w : World} {K : PySem.W.Frag} {mg mb : Str → Option Value} {k : Nat} {fa a : Addr} {fd : FuncData} {x : Str} {sp : Sp} {s : Shared} {vs : List Value} {ns : List Int}
/-- the heap as the law finds it: the script is held as it is, unless the written part has it -/
def H0 (K : PySem.W.Frag) (a : Addr) (ob : Obj) (ns : List Int) : Hp := fun b => if b = a ∧ K.lookup a = none then some (.frz ob (.lst (ns.map V.int))) else none
theorem H0_some {ob : Obj} {b : Addr} {u : HO} (h : H0 K a ob ns b = some u) : b = a ∧ K.lookup a = none ∧ u = .frz ob (.lst (ns.map V.int)) := by
  unfold H0 at h
  split at h
  · rename_i c
    exact ⟨c.1, c.2, (Option.some.inj h).symm⟩
  · cases h
theorem run_law (KX : K.In s.heap) (n1 : s.heap.Ns mainGlobals mg) (n2 : s.heap.Ns builtinsNs mb) (n3 : ∀ y : Str, y ≠ "__name__" → mb y = bootBuiltins y) (n4 : s.heap.NoLimit) (hgen : s.gens = #[])
    (ha : s.heap.get? a = some { cls := .type "list", data := .seq vs.toArray }) (hi : IntsAre vs ns) (hl : ns.length ≤ sizeLine) (hr : Room k callerA) (F : ∀ base : Heap, K.In base → base.Ns mainGlobals mg → FnG P w K mg base k fa fd [x] sp)
    (hb : ∀ (s : Shared) (u : Value), BindsTo s fd ⟨[u], []⟩ [(x, u)]) (hsp : ∀ H : Hp, Only H → SqL K H a (ns.map V.int) → sp [.ref a] H (fun v _ => v = .bl true) E0) :
    codeAny (model P w) callerA (.call (.ref fa) ⟨[.ref a], []⟩) (fun r s' => r = .ok (.ret (.bool true)) ∧ OldK s.heap s'.heap ∧ s'.os = s.os ∧ AllBare s'.gens) s := by
  let ob : Obj := { cls := .type "list", data := .seq vs.toArray }
  let H : Hp := H0 K a ob ns
  have rv := vals_ints hi
  have only : Only H := fun b => by
    cases e : H b with
    | none => exact .inl rfl
    | some u => exact .inr ⟨_, _, congrArg some (H0_some e).2.2⟩
  have seq : SqL K H a (ns.map V.int) := by
    cases e : K.lookup a with
    | none => exact .inl (.inr ⟨ob, if_pos ⟨rfl, e⟩⟩)
    | some o =>
      have e2 := KX a o e
      rw [ha] at e2
      cases e2
      exact .inr ⟨_, vs.toArray, _, e, rfl, rfl, rfl, by rw [List.size_toArray, hi.length]; exact hl, by simpa using rv⟩
  have hok : HOk P w H s.heap := fun b u e => by
    obtain ⟨rfl, _, rfl⟩ := H0_some e
    exact ⟨ha, by rw [List.length_map]; exact hl, vs, _, rv, ha⟩
  have see : ∀ {b : Addr} {o : Obj}, s.heap.get? b = some o → H b = none → (hidT s.heap H).get? b = some o := fun q z => hidT_get q z
  have ns_of : ∀ {b : Addr} {m : Str → Option Value}, s.heap.Ns b m → (hidT s.heap H).Ns b m := fun {b m} z => by
    obtain ⟨o, es, ep, q, dt, r⟩ := z
    refine ⟨o, es, ep, see q ?_, dt, r⟩
    cases e : H b with
    | none => rfl
    | some u =>
      obtain ⟨rfl, _, _⟩ := H0_some e
      rw [ha] at q
      cases q
      cases dt
  have kin : K.In (hidT s.heap H) := fun b o q => see (KX b o q) (by
    cases e : H b with
    | none => rfl
    | some u =>
      obtain ⟨rfl, z, _⟩ := H0_some e
      rw [z] at q
      cases q)
  have e0 : Env0 P w K mg (hidT s.heap H) callerA [] s H :=
    ⟨rfl, ⟨kin, ns_of n1, ⟨mb, ns_of n2, n3⟩, (let ⟨mc, z1, z2⟩ := n4; ⟨mc, ns_of z1, z2⟩)⟩, fun b o z => of_hidT z, Nat.le_of_eq (hidT_size _ _), trivial, (fun b z => nomatch z), hok, .of_eq hgen⟩
  refine codeAny_mono ((F _ kin (ns_of n1)).run callerA [] s H ⟨[.ref a], []⟩ [.ref a] [.ref a] _ _ rfl hr e0 (hb s (.ref a)) (.cons rfl .nil) (hsp H only seq)) fun r s' h => ?_
  cases r with
  | error e => exact h.elim
  | ok fl =>
    cases fl with
    | next => exact False.elim h
    | brk => exact False.elim h
    | cont => exact False.elim h
    | ret u =>
      obtain ⟨v, H', os, bare, un, ok2, rv2, q⟩ := h
      obtain rfl : v = .bl true := q
      obtain rfl : u = Value.bool true := rv2
      refine ⟨rfl, OldK.of_keep fun b o e => ?_, os, bare⟩
      cases hb2 : H b with
      | none => exact un.keep b o e hb2 (fun z => nomatch z) (fun z => nomatch z)
      | some u =>
        obtain ⟨rfl, _, rfl⟩ := H0_some hb2
        rw [ha] at e
        cases e
        exact (ok2 b _ (un.frzs b _ _ hb2)).1
end
theorem walkG {l : PySem.W.OpenLaw} {n k : Nat} {q : Program} {loose : List Str} {XP : (Str → Option Value) → Heap → Prop} {YP : World → Heap → Prop} {d : DefRec} {x : Str} (hn : l.most = some n) (hn2 : n ≤ sizeLine) (hdf : d.params.defaults = []) (hr : Room k callerA)
    (F : ∀ (w : World) (mg : Str → Option Value) (fa : Addr) (h : Heap), YP w h → h.Ns mainGlobals mg → mg d.name = some (.ref fa) →
      ∃ (K : PySem.W.Frag) (fd : FuncData) (sp : Sp), K.In h ∧ (∀ (s : Shared) (u : Value), BindsTo s fd ⟨[u], []⟩ [(x, u)]) ∧
        (∀ (H : Hp) (a : Addr) (ns : List Int), ns.length ≤ n → Only H → SqL K H a (ns.map V.int) → sp [.ref a] H (fun v _ => v = .bl true) E0) ∧
        ∀ base : Heap, K.In base → base.Ns mainGlobals mg → FnG l.prog w K mg base k fa fd [x] sp) :
    PySem.W.WalkO q loose XP YP l.row.toRowW d [] (fun f vs => PySem.call f vs) :=
  Att.attach_call hn hdf fun w s₀ s₁ mg mb fa o pm cd doc a vs ns G Y ho hd hcd hmg hobj hints hlen hg =>
    let ⟨K, fd, sp, KX, hb, hsp, hF⟩ := F w mg fa _ Y G.T.g hmg
    run_law KX G.T.g G.T.b G.T.builtins G.T.nolimit hg hobj hints (Nat.le_trans hlen hn2) hr hF hb fun H hO hS => hsp H a ns hlen hO hS
end Vk
/-! QF: what the head tells (facts, defs, one Bool, tables of code objects; neither lists nor empty tables are in the part), and a law's end with tables, the script held apart. -/
namespace QF
open PySem PySem.Spec PyProof.Rows L2 Vk
def listO (o : Obj) : Bool := match o.data with
  | .seq _ _ => decide (o.cls = .type "list")
  | _ => false
def partU (n : Nat) (g : Addr → Option Obj) : PySem.W.Frag := (He.frT g (sysModules :: cStatics :: He.asD g n)).filter fun q => !listO q.2
theorem look_sub {f : Addr × Obj → Bool} {a : Addr} {o : Obj} : ∀ {l : List (Addr × Obj)}, (∀ q ∈ l, ∀ q' ∈ l, q.1 = q'.1 → q = q') → (l.filter f).lookup a = some o → l.lookup a = some o ∧ f (a, o) = true := by
  intro l hu h
  have m := He.lookup_mem h
  obtain ⟨m1, m2⟩ := List.mem_filter.mp m
  refine ⟨?_, m2⟩
  clear h m m2
  induction l with
  | nil => cases m1
  | cons p r ih =>
    obtain ⟨b, u⟩ := p
    by_cases e : a = b
    · subst e
      have := hu (a, u) (by simp) (a, o) m1 rfl
      cases this
      simp [List.lookup]
    · have m3 : (a, o) ∈ r := by
        rcases List.mem_cons.mp m1 with z | z
        · cases z; exact absurd rfl e
        · exact z
      have := ih (fun q hq q' hq' => hu q (List.mem_cons_of_mem _ hq) q' (List.mem_cons_of_mem _ hq')) m3
      rw [List.lookup_cons, (by simpa using e : (a == b) = false)]
      exact this
theorem frT_uniq {g : Addr → Option Obj} {as : List Addr} : ∀ q ∈ He.frT g as, ∀ q' ∈ He.frT g as, q.1 = q'.1 → q = q' := by
  rintro ⟨a, o⟩ h ⟨a', o'⟩ h' e
  have h1 := He.frG_mem (List.mem_filter.mp h).1
  have h2 := He.frG_mem (List.mem_filter.mp h').1
  cases e
  rw [h1] at h2
  cases h2
  rfl
theorem partU_at {n : Nat} {g : Addr → Option Obj} {a : Addr} {o : Obj} (h : (partU n g).lookup a = some o) : g a = some o ∧ He.emptyTab o = false ∧ listO o = false := by
  obtain ⟨h1, h2⟩ := look_sub frT_uniq h
  obtain ⟨h3, h4⟩ := He.frT_mem h1
  exact ⟨h3, h4, by simpa using h2⟩
theorem partU_in {n : Nat} {h : Heap} : (partU n h.get?).In h := fun _ _ e => (partU_at e).1
/-- what is told of the part K at the heap h -/
structure Says (fa : List He.Fa) (fn : List He.DefD) (tf : List He.Defn) (ex : PySem.W.Frag → Bool) (h : Heap) (K : PySem.W.Frag) : Prop where
  d : He.SaysD fa fn K
  x : ex K = true
  hd : ∀ p ∈ tf, PySem.W.codeHdIn K (He.cT K p).1 (He.cT K p).2 = true
  out : ∀ p ∈ tf, K.lookup (He.cT K p).2 = none
  bare : ∀ p ∈ tf, h.get? (He.cT K p).2 = some { cls := .none, data := .fields #[] }
  nol : ∀ a o, K.lookup a = some o → listO o = false
def look (n : Nat) (fa : List He.Fa) (fn : List He.DefD) (tf : List He.Defn) (ex : PySem.W.Frag → Bool) (g : Addr → Option Obj) : He.AlD × Bool := (He.obsD fa fn (partU n g), ex (partU n g) && He.tabsB g tf (partU n g))
theorem says_of {n : Nat} {fa : List He.Fa} {fn : List He.DefD} {tf : List He.Defn} {ex : PySem.W.Frag → Bool} {h : Heap} (e : look n fa fn tf ex h.get? = (He.valD fn, true)) : Says fa fn tf ex h (partU n h.get?) := by
  obtain ⟨e1, e2⟩ := Prod.mk.inj e
  obtain ⟨h1, h2⟩ := He.ba e2
  have each : ∀ p ∈ tf, PySem.W.codeHdIn (partU n h.get?) (He.cT (partU n h.get?) p).1 (He.cT (partU n h.get?) p).2 = true ∧ ∃ o, h.get? (He.cT (partU n h.get?) p).2 = some o ∧ He.emptyTab o = true := fun p hp => by
    obtain ⟨z1, z2⟩ := He.ba (List.all_eq_true.mp h2 p hp)
    refine ⟨z1, ?_⟩
    split at z2
    · rename_i o q
      exact ⟨o, q, z2⟩
    · cases z2
  refine ⟨e1, h1, fun p hp => (each p hp).1, fun p hp => ?_, fun p hp => ?_, fun a o q => (partU_at q).2.2⟩
  · obtain ⟨_, o, q, z⟩ := each p hp
    cases e : (partU n h.get?).lookup (He.cT (partU n h.get?) p).2 with
    | none => rfl
    | some o' =>
      obtain ⟨y1, y2, _⟩ := partU_at e
      rw [q] at y1
      cases y1
      rw [z] at y2
      cases y2
  · obtain ⟨_, o, q, z⟩ := each p hp
    rw [q, He.emptyTab_eq z]
def hook (n : Nat) (fa : List He.Fa) (fn : List He.DefD) (tf : List He.Defn) (ex : PySem.W.Frag → Bool) : PySem.W.Hook where
  α := He.AlD × Bool
  obs := fun s => look n fa fn tf ex s.heap.get?
  val := fun _ => (He.valD fn, true)
  says := fun _ h => ∃ K : PySem.W.Frag, K.In h ∧ Says fa fn tf ex h K
  of := fun _ _ e => ⟨_, partU_in, says_of e⟩
  keeps := fun _ _ _ ⟨K, i, c⟩ k => ⟨K, i.keeps k, ⟨c.d, c.x, c.hd, c.out, fun p hp => k _ _ (c.bare p hp), c.nol⟩⟩
theorem look_eq {n : Nat} {fa : List He.Fa} {fn : List He.DefD} {tf : List He.Defn} {ex : PySem.W.Frag → Bool} {g : Addr → Option Obj} {s : Shared} (h : ∀ a, g a = s.heap.get? a) : look n fa fn tf ex g = (hook n fa fn tf ex).obs s := by
  obtain rfl : g = s.heap.get? := funext h
  rfl
section
variable {P : Program} {w : World} {K : PySem.W.Frag} {mg mb : Str → Option Value} {k : Nat} {fa a : Addr} {fd : FuncData} {x : Str} {sp : Sp} {s : Shared} {vs : List Value} {ns : List Int} {cs : List (Addr × Addr)}
/-- the heap as the law finds it: the script as it is, the tables empty -/
def H1 (a : Addr) (ob : Obj) (ns : List Int) (ts : List Addr) : Hp := fun b => if b = a then some (.frz ob (.lst (ns.map V.int))) else if b ∈ ts then some (.tbl #[]) else none
theorem H1_some {ob : Obj} {ts : List Addr} {b : Addr} {u : HO} (h : H1 a ob ns ts b = some u) : (b = a ∧ u = .frz ob (.lst (ns.map V.int))) ∨ (b ∈ ts ∧ u = .tbl #[]) := by
  unfold H1 at h
  split at h
  · rename_i c
    exact .inl ⟨c, (Option.some.inj h).symm⟩
  · split at h
    · rename_i c
      exact .inr ⟨c, (Option.some.inj h).symm⟩
    · cases h
theorem run_tabs (KX : K.In s.heap) (n1 : s.heap.Ns mainGlobals mg) (n2 : s.heap.Ns builtinsNs mb) (n3 : ∀ y : Str, y ≠ "__name__" → mb y = bootBuiltins y) (n4 : s.heap.NoLimit) (hgen : s.gens = #[])
    (hbm : ∃ (bm : Addr) (ob : Obj), mg "__builtins__" = some (.ref bm) ∧ bm ≠ builtinsNs ∧ s.heap.get? bm = some ob ∧ ob.cls = .type "module" ∧ ob.dict = some builtinsNs ∧ ob.data = .plain)
    (ha : s.heap.get? a = some { cls := .type "list", data := .seq vs.toArray }) (hi : IntsAre vs ns) (hl : ns.length ≤ sizeLine) (hr : Room k callerA) (hKa : K.lookup a = none)
    (hT : ∀ p ∈ cs, s.heap.get? p.2 = some { cls := .none, data := .fields #[] }) (nT : ∀ p ∈ cs, K.lookup p.2 = none) (C : ∀ p ∈ cs, PySem.W.codeHdIn K p.1 p.2 = true)
    (F : ∀ base : Heap, K.In base → base.Ns mainGlobals mg → (∀ p ∈ cs, GxR.TabB base mg p.1 p.2) → FnG P w K mg base k fa fd [x] sp)
    (hb : ∀ (s : Shared) (u : Value), BindsTo s fd ⟨[u], []⟩ [(x, u)])
    (hsp : ∀ (H : Hp) (ob : Obj), H a = some (.frz ob (.lst (ns.map V.int))) → (∀ p ∈ cs, H p.2 = some (.tbl #[]) ∧ p.2 ≠ a) → sp [.ref a] H (fun v _ => v = .bl true) E0) :
    codeAny (model P w) callerA (.call (.ref fa) ⟨[.ref a], []⟩) (fun r s' => r = .ok (.ret (.bool true)) ∧ OldK s.heap s'.heap ∧ s'.os = s.os ∧ AllBare s'.gens) s := by
  let ob : Obj := { cls := .type "list", data := .seq vs.toArray }
  let ts : List Addr := cs.map (·.2)
  let H : Hp := H1 a ob ns ts
  have rv := vals_ints hi
  have isT : ∀ b ∈ ts, s.heap.get? b = some { cls := .none, data := .fields #[] } := fun b m => by
    obtain ⟨p, hp, e⟩ := List.mem_map.mp m
    rw [← e]; exact hT p hp
  have aT : a ∉ ts := fun z => by
    have q := isT a z
    rw [ha] at q
    cases q
  have Ha : H a = some (.frz ob (.lst (ns.map V.int))) := if_pos rfl
  have Ht : ∀ p ∈ cs, H p.2 = some (.tbl #[]) ∧ p.2 ≠ a := fun p hp => by
    have m : p.2 ∈ ts := List.mem_map.mpr ⟨p, hp, rfl⟩
    have ne : p.2 ≠ a := fun z => aT (z ▸ m)
    exact ⟨(if_neg ne).trans (if_pos m), ne⟩
  have hok : HOk P w H s.heap := fun b u e => by
    rcases H1_some e with ⟨rfl, rfl⟩ | ⟨m, rfl⟩
    · exact ⟨ha, by rw [List.length_map]; exact hl, vs, _, rv, ha⟩
    · exact isT b m
  have see : ∀ {b : Addr} {o : Obj}, s.heap.get? b = some o → H b = none → (hidT s.heap H).get? b = some o := fun q z => hidT_get q z
  -- what is neither a list nor an empty table is not held
  have free : ∀ {b : Addr} {o : Obj}, s.heap.get? b = some o → (∀ its n, o.data ≠ .seq its n) → o.data ≠ .fields #[] → H b = none := fun {b o} q z1 z2 => by
    cases e : H b with
    | none => rfl
    | some u =>
      rcases H1_some e with ⟨rfl, _⟩ | ⟨m, _⟩
      · rw [ha] at q
        cases q
        exact absurd rfl (z1 _ _)
      · rw [isT b m] at q
        cases q
        exact absurd rfl z2
  have ns_of : ∀ {b : Addr} {m : Str → Option Value}, s.heap.Ns b m → (hidT s.heap H).Ns b m := fun {b m} z => by
    obtain ⟨o, es, ep, q, dt, r⟩ := z
    exact ⟨o, es, ep, see q (free q (fun its n y => by rw [dt] at y; cases y) fun y => by rw [dt] at y; cases y), dt, r⟩
  have kin : K.In (hidT s.heap H) := fun b o q => see (KX b o q) (by
    cases e : H b with
    | none => rfl
    | some u =>
      rcases H1_some e with ⟨rfl, _⟩ | ⟨m, _⟩
      · rw [hKa] at q
        cases q
      · obtain ⟨p, hp, e2⟩ := List.mem_map.mp m
        rw [← e2, nT p hp] at q
        cases q)
  have TB : ∀ p ∈ cs, GxR.TabB (hidT s.heap H) mg p.1 p.2 := fun p hp => by
    obtain ⟨bm, o, b1, b2, b3, b4, b5, b6⟩ := hbm
    have nG : bm ≠ mainGlobals := fun q => by
      obtain ⟨o', es, ep, e, d, _⟩ := n1
      rw [q, e] at b3
      cases b3
      rw [d] at b6
      cases b6
    have nP : bm ≠ p.2 := fun q => by
      rw [q, hT p hp] at b3
      cases b3
      cases b6
    refine ⟨PySem.W.codeHd_of_K kin (C p hp), ⟨bm, o, b1, b2, nG, nP, see b3 (free b3 (fun its n y => by rw [b6] at y; cases y) fun y => by rw [b6] at y; cases y), b4, b5, b6⟩, fun z => ?_⟩
    obtain ⟨o', es, ep, e, d, _⟩ := n1
    rw [z, hT p hp] at e
    cases e
    cases d
  have e0 : Env0 P w K mg (hidT s.heap H) callerA [] s H :=
    ⟨rfl, ⟨kin, ns_of n1, ⟨mb, ns_of n2, n3⟩, (let ⟨mc, z1, z2⟩ := n4; ⟨mc, ns_of z1, z2⟩)⟩, fun b o z => of_hidT z, Nat.le_of_eq (hidT_size _ _), trivial, (fun b z => nomatch z), hok, .of_eq hgen⟩
  refine codeAny_mono ((F _ kin (ns_of n1) TB).run callerA [] s H ⟨[.ref a], []⟩ [.ref a] [.ref a] _ _ rfl hr e0 (hb s (.ref a)) (.cons rfl .nil) (hsp H ob Ha Ht)) fun r s' h => ?_
  cases r with
  | error e => exact h.elim
  | ok fl =>
    cases fl with
    | next => exact False.elim h
    | brk => exact False.elim h
    | cont => exact False.elim h
    | ret u =>
      obtain ⟨v, H', os, bare, un, ok2, rv2, q⟩ := h
      obtain rfl : v = .bl true := q
      obtain rfl : u = Value.bool true := rv2
      have same : ∀ b o, b ∉ ts → s.heap.get? b = some o → s'.heap.get? b = some o := fun b o nb e => by
        cases hb2 : H b with
        | none => exact un.keep b o e hb2 (fun z => nomatch z) (fun z => nomatch z)
        | some u =>
          rcases H1_some hb2 with ⟨rfl, rfl⟩ | ⟨m, _⟩
          · rw [ha] at e
            cases e
            exact (ok2 b _ (un.frzs b _ _ hb2)).1
          · exact absurd m nb
      have more : ∀ p ∈ cs, ∃ us : Array Value, s'.heap.get? p.2 = some { cls := .none, data := .fields us } := fun p hp => by
        obtain ⟨us, z⟩ := un.tbls p.2 #[] (Ht p hp).1
        exact ⟨_, ok2 p.2 _ z⟩
      refine ⟨rfl, ⟨fun b o e => ?_, fun b o e => ?_⟩, os, bare⟩
      · by_cases m : b ∈ ts
        · obtain ⟨p, hp, rfl⟩ := List.mem_map.mp m
          obtain ⟨us, hm⟩ := more p hp
          have e2 := e
          rw [hT p hp] at e2
          cases e2
          exact .inr (.inl ⟨((PySem.W.codeHd_of_K KX (C p hp)).tab (hT p hp)).isCodeTable, rfl, #[], us, rfl, by rw [Array.empty_append]; exact hm⟩)
        · exact .inl (same b o m e)
      · by_cases m : b ∈ ts
        · obtain ⟨p, hp, rfl⟩ := List.mem_map.mp m
          obtain ⟨us, hm⟩ := more p hp
          exact ⟨_, hm⟩
        · exact ⟨o, same b o m e⟩
end
/-- the law's end, from what the head tells -/
theorem walkT {l : PySem.W.OpenLaw} {n k m : Nat} {q : Program} {loose : List Str} {XP : (Str → Option Value) → Heap → Prop} {d : DefRec} {x : Str} {fs : List He.Fa} {fn : List He.DefD} {tf : List He.Defn} {ex : PySem.W.Frag → Bool}
    (hn : l.most = some n) (hn2 : n ≤ sizeLine) (hdf : d.params.defaults = []) (hr : Room k callerA)
    (F : ∀ (w : World) (mg : Str → Option Value) (fa : Addr) (h : Heap) (K : PySem.W.Frag), K.In h → Says fs fn tf ex h K → h.Ns mainGlobals mg → mg d.name = some (.ref fa) →
      ∃ (fd : FuncData) (sp : Sp), (∀ (s : Shared) (u : Value), BindsTo s fd ⟨[u], []⟩ [(x, u)]) ∧
        (∀ (H : Hp) (a : Addr) (ob : Obj) (ns : List Int), ns.length ≤ n → H a = some (.frz ob (.lst (ns.map V.int))) → (∀ p ∈ tf, H (He.cT K p).2 = some (.tbl #[]) ∧ (He.cT K p).2 ≠ a) → sp [.ref a] H (fun v _ => v = .bl true) E0) ∧
        ∀ base : Heap, K.In base → base.Ns mainGlobals mg → (∀ p ∈ tf, GxR.TabB base mg (He.cT K p).1 (He.cT K p).2) → FnG l.prog w K mg base k fa fd [x] sp) :
    PySem.W.WalkO q loose XP (hook m fs fn tf ex).says l.row.toRowW d [] (fun f vs => PySem.call f vs) :=
  Att.attach_call hn hdf fun w s₀ s₁ mg mb fa o pm cd doc a vs ns G Y ho hd hcd hmg hobj hints hlen hg => by
    obtain ⟨K, KX, S⟩ := Y
    obtain ⟨fd, sp, hb, hsp, hF⟩ := F w mg fa _ K KX S G.T.g hmg
    have hKa : K.lookup a = none := by
      cases e : K.lookup a with
      | none => rfl
      | some o =>
        have e2 := S.nol a o e
        have e3 := KX a o e
        rw [hobj] at e3
        cases e3
        cases e2
    refine run_tabs (cs := tf.map (He.cT K)) KX G.T.g G.T.b G.T.builtins G.T.nolimit hg G.T.bmain hobj hints (Nat.le_trans hlen hn2) hr hKa (fun p hp => ?_) (fun p hp => ?_) (fun p hp => ?_) (fun base i j t => hF base i j fun p hp => t _ (List.mem_map.mpr ⟨p, hp, rfl⟩)) hb
      (fun H ob hH ht => hsp H a ob ns hlen hH fun p hp => ht _ (List.mem_map.mpr ⟨p, hp, rfl⟩))
    · obtain ⟨p', hp', rfl⟩ := List.mem_map.mp hp
      exact S.bare p' hp'
    · obtain ⟨p', hp', rfl⟩ := List.mem_map.mp hp
      exact S.out p' hp'
    · obtain ⟨p', hp', rfl⟩ := List.mem_map.mp hp
      exact S.hd p' hp'
/-! ### constants -/
open DL in
theorem str_cst {K : PySem.W.Frag} {mg : Str → Option Value} {x z : Str} (h : ∃ t, mg x = some (.str z t)) : Cst K mg x (.str z) := by
  obtain ⟨t, e⟩ := h
  exact ⟨_, .str z, e, ⟨t, rfl⟩, fun H α => rfl⟩
def intsB : List Value → List Int → Bool
  | [], [] => true
  | .int i _ :: r, j :: s => decide (i = j) && intsB r s
  | _, _ => false
theorem intsB_ok : ∀ {vs : List Value} {l : List Int}, intsB vs l = true → Vals (l.map V.int) vs
  | [], [], _ => .nil
  | .int i t :: r, j :: s, h => by
    obtain ⟨h1, h2⟩ := He.ba h
    cases of_decide_eq_true h1
    exact .cons ⟨t, rfl⟩ (intsB_ok h2)
  | [], _ :: _, h => by cases h
  | .int _ _ :: _, [], h => by cases h
  | .none :: _, l, h => by cases l <;> cases h
  | .bool _ :: _, l, h => by cases l <;> cases h
  | .float _ _ :: _, l, h => by cases l <;> cases h
  | .str _ _ :: _, l, h => by cases l <;> cases h
  | .bytes _ _ :: _, l, h => by cases l <;> cases h
  | .ref _ :: _, l, h => by cases l <;> cases h
  | .type _ :: _, l, h => by cases l <;> cases h
  | .builtin _ :: _, l, h => by cases l <;> cases h
def tupB (K : PySem.W.Frag) (x : Str) (l : List Int) : Bool := match PySem.W.nsIn K mainGlobals x with
  | some (some (.ref a)) => (match K.lookup a with
    | some o => decide (o.cls = .type "tuple") && (match o.data with
      | .seq its _ => intsB its.toList l && decide (its.size ≤ sizeLine)
      | _ => false)
    | none => false)
  | _ => false
open DL in
theorem tup_cst {K : PySem.W.Frag} {h : Heap} {mg : Str → Option Value} {x : Str} {l : List Int} (X : K.In h) (G : h.Ns mainGlobals mg) (b : tupB K x l = true) : Cst K mg x (.tup (l.map D.int)) := by
  unfold tupB at b
  split at b
  · rename_i a e
    split at b
    · rename_i o e2
      obtain ⟨b1, b2⟩ := He.ba b
      split at b2
      · rename_i its n e3
        obtain ⟨b3, b4⟩ := He.ba b2
        refine ⟨.ref a, .ref a, PySem.W.mg_of X G e, rfl, fun H α => ⟨a, l.map V.int, rfl, .inr ⟨o, its, n, e2, of_decide_eq_true b1, e3, of_decide_eq_true b4, intsB_ok b3⟩, ?_⟩⟩
        clear b b2 b3
        induction l with
        | nil => rfl
        | cons i r ih => exact ⟨_, _, rfl, rfl, ih⟩
      · cases b2
    · cases b
  · cases b
end QF
namespace K37
open PySem PySem.Spec PyProof.Rows L2 DL
def hd0 : He.DefD := ⟨("is_whole", none), "is_whole", "is_whole", defArgs (top 3), defBody (top 3), defScope (top 3), [], []⟩
def hd1 : He.DefD := ⟨("is_fraction", none), "is_fraction", "is_fraction", defArgs (top 4), defBody (top 4), defScope (top 4), [], []⟩
def hd2 : He.DefD := ⟨("reduced", none), "reduced", "reduced", defArgs (top 5), defBody (top 5), defScope (top 5), [], []⟩
def hd3 : He.DefD := ⟨("plus", none), "plus", "plus", defArgs (top 6), defBody (top 6), defScope (top 6), [], []⟩
def hd4 : He.DefD := ⟨("times", none), "times", "times", defArgs (top 7), defBody (top 7), defScope (top 7), [], []⟩
def hd5 : He.DefD := ⟨("is_pair", none), "is_pair", "is_pair", defArgs (top 9), defBody (top 9), defScope (top 9), [], []⟩
def hd6 : He.DefD := ⟨("is_direction", none), "is_direction", "is_direction", defArgs (top 12), defBody (top 12), defScope (top 12), [], []⟩
def hd7 : He.DefD := ⟨("sum_of_products", none), "sum_of_products", "sum_of_products", defArgs (top 14), defBody (top 14), defScope (top 14), [], []⟩
def hd8 : He.DefD := ⟨("is_last_table", none), "is_last_table", "is_last_table", defArgs (top 13), defBody (top 13), defScope (top 13), [], []⟩
def hd9 : He.DefD := ⟨("is_turns", none), "is_turns", "is_turns", defArgs (top 11), defBody (top 11), defScope (top 11), [], []⟩
def hd10 : He.DefD := ⟨("_law_well", none), "_law_well", "_law_well", defArgs (top 16), defBody (top 16), defScope (top 16), [], []⟩
def hd11 : He.DefD := ⟨("_law_take", none), "_law_take", "_law_take", defArgs (top 17), defBody (top 17), defScope (top 17), [], []⟩
def hd12 : He.DefD := ⟨("_law_pick", none), "_law_pick", "_law_pick", defArgs (top 18), defBody (top 18), defScope (top 18), [], []⟩
def hd13 : He.DefD := ⟨("_law_rounds", none), "_law_rounds", "_law_rounds", defArgs (top 19), defBody (top 19), defScope (top 19), [], []⟩
def hd14 : He.DefD := ⟨("_law_common", none), "_law_common", "_law_common", defArgs (top 20), defBody (top 20), defScope (top 20), [], []⟩
def hd15 : He.DefD := ⟨("_law_ratio", none), "_law_ratio", "_law_ratio", defArgs (top 21), defBody (top 21), defScope (top 21), [], []⟩
def hd16 : He.DefD := ⟨("_law_sum", none), "_law_sum", "_law_sum", defArgs (top 22), defBody (top 22), defScope (top 22), [], []⟩
def hd17 : He.DefD := ⟨("_law_product", none), "_law_product", "_law_product", defArgs (top 23), defBody (top 23), defScope (top 23), [], []⟩
def hd18 : He.DefD := ⟨("_law_number", none), "_law_number", "_law_number", defArgs (top 24), defBody (top 24), defScope (top 24), [], []⟩
def hd19 : He.DefD := ⟨("_law_is_whole", none), "_law_is_whole", "_law_is_whole", defArgs (top 25), defBody (top 25), defScope (top 25), [], []⟩
def hd20 : He.DefD := ⟨("_law_is_fraction", none), "_law_is_fraction", "_law_is_fraction", defArgs (top 26), defBody (top 26), defScope (top 26), [], []⟩
def hd21 : He.DefD := ⟨("_law_odd", none), "_law_odd", "_law_odd", defArgs (top 27), defBody (top 27), defScope (top 27), [], []⟩
def hd22 : He.DefD := ⟨("_law_spoilt", none), "_law_spoilt", "_law_spoilt", defArgs (top 28), defBody (top 28), defScope (top 28), [], []⟩
def hd23 : He.DefD := ⟨("_law_direction", none), "_law_direction", "_law_direction", defArgs (top 29), defBody (top 29), defScope (top 29), [], []⟩
def hd24 : He.DefD := ⟨("_law_grid", none), "_law_grid", "_law_grid", defArgs (top 30), defBody (top 30), defScope (top 30), [], []⟩
def hd25 : He.DefD := ⟨("_law_turns", none), "_law_turns", "_law_turns", defArgs (top 31), defBody (top 31), defScope (top 31), [], []⟩
def hd26 : He.DefD := ⟨("_law_is_way", none), "_law_is_way", "_law_is_way", defArgs (top 33), defBody (top 33), defScope (top 33), [], []⟩
def hd27 : He.DefD := ⟨("_law_across", none), "_law_across", "_law_across", defArgs (top 34), defBody (top 34), defScope (top 34), [], []⟩
def hd28 : He.DefD := ⟨("_law_is_grid", none), "_law_is_grid", "_law_is_grid", defArgs (top 35), defBody (top 35), defScope (top 35), [], []⟩
def hd29 : He.DefD := ⟨("_law_judged", none), "_law_judged", "_law_judged", defArgs (top 32), defBody (top 32), defScope (top 32), [], []⟩
def hd30 : He.DefD := ⟨("_law_bent", none), "_law_bent", "_law_bent", defArgs (top 36), defBody (top 36), defScope (top 36), [], []⟩
def hd31 : He.DefD := ⟨("_law_right", none), "_law_right", "_law_right", defArgs (top 37), defBody (top 37), defScope (top 37), [], []⟩
def hd32 : He.DefD := ⟨("law", none), "law", "law", defArgs (top 38), defBody (top 38), defScope (top 38), [], []⟩
def hFn : List He.DefD := [hd0, hd1, hd2, hd3, hd4, hd5, hd6, hd7, hd8, hd9, hd10, hd11, hd12, hd13, hd14, hd15, hd16, hd17, hd18, hd19, hd20, hd21, hd22, hd23, hd24, hd25, hd26, hd27, hd28, hd29, hd30, hd31, hd32]
def hGlo : List Str := [("is_whole" : Str), ("is_fraction" : Str), ("reduced" : Str), ("plus" : Str), ("times" : Str), ("is_pair" : Str), ("is_direction" : Str), ("sum_of_products" : Str), ("is_last_table" : Str), ("is_turns" : Str), ("_law_well" : Str), ("_law_take" : Str), ("_law_pick" : Str), ("_law_rounds" : Str), ("_law_common" : Str), ("_law_ratio" : Str), ("_law_sum" : Str), ("_law_product" : Str), ("_law_number" : Str), ("_law_is_whole" : Str), ("_law_is_fraction" : Str), ("_law_odd" : Str), ("_law_spoilt" : Str), ("_law_direction" : Str), ("_law_grid" : Str), ("_law_turns" : Str), ("_law_is_way" : Str), ("_law_across" : Str), ("_law_is_grid" : Str), ("_law_judged" : Str), ("_law_bent" : Str), ("_law_right" : Str), ("law" : Str)]
def hFree : List Str := ["abs", "all", "bool", "divmod", "enumerate", "int", "isinstance", "len", "list", "max", "min", "range", "repr", "str", "tuple"]
def hStr : List (Str × Str) := []
def hTup : List (Str × List Int) := [("ZERO", [0, 1])]
def hTab : List He.Defn := []
def hFa : List He.Fa := hGlo.map He.Fa.glo ++ (hFree.map He.Fa.free ++ hStr.map fun p => He.Fa.str p.1 p.2)
def hEx (K : PySem.W.Frag) : Bool := (K.lookup sysModules).isSome && (He.eqO (PySem.W.nsIn K mainGlobals "gcd") (some (some (.builtin "math.gcd"))) && hTup.all fun p => QF.tupB K p.1 p.2)
variable {P : Program} {w : World} {K : PySem.W.Frag} {mg : Str → Option Value} {base h : Heap}
theorem ctx_of (S : QF.Says hFa hFn hTab hEx h K) (X : K.In h) (G : h.Ns mainGlobals mg) (T : ∀ p ∈ hTab, GxR.TabB base mg (He.cT K p).1 (He.cT K p).2) : Ctx P w K mg base := by
  obtain ⟨x1, x⟩ := He.ba (show (_ && _) = true from S.x)
  obtain ⟨x2, x3⟩ := He.ba x
  have g : ∀ x ∈ hGlo, mg x = some (.ref (He.ga K x)) := fun x hx => He.glo_ok X G (He.SaysD.facts S.d (List.mem_append_left _ (List.mem_map.mpr ⟨x, hx, rfl⟩)))
  have f : ∀ x ∈ hFree, mg x = none := fun x hx => He.free_ok X G (He.SaysD.facts S.d (List.mem_append_right _ (List.mem_append_left _ (List.mem_map.mpr ⟨x, hx, rfl⟩))))
  have s : ∀ p ∈ hStr, ∃ t, mg p.1 = some (.str p.2 t) := fun p hp => He.str_ok X G (He.SaysD.facts S.d (List.mem_append_right _ (List.mem_append_right _ (List.mem_map.mpr ⟨p, hp, rfl⟩))))
  have t : ∀ p ∈ hTup, Cst K mg p.1 (.tup (p.2.map .int)) := fun p hp => QF.tup_cst X G (List.all_eq_true.mp x3 p hp)
  exact {
    d_is_whole := (S.d.def_ 0 (d := hd0) rfl).elim fun fd F => ⟨_, fd, F, g "is_whole" (by simp [hGlo])⟩
    d_is_fraction := (S.d.def_ 1 (d := hd1) rfl).elim fun fd F => ⟨_, fd, F, g "is_fraction" (by simp [hGlo])⟩
    d_reduced := (S.d.def_ 2 (d := hd2) rfl).elim fun fd F => ⟨_, fd, F, g "reduced" (by simp [hGlo])⟩
    d_plus := (S.d.def_ 3 (d := hd3) rfl).elim fun fd F => ⟨_, fd, F, g "plus" (by simp [hGlo])⟩
    d_times := (S.d.def_ 4 (d := hd4) rfl).elim fun fd F => ⟨_, fd, F, g "times" (by simp [hGlo])⟩
    d_is_pair := (S.d.def_ 5 (d := hd5) rfl).elim fun fd F => ⟨_, fd, F, g "is_pair" (by simp [hGlo])⟩
    d_is_direction := (S.d.def_ 6 (d := hd6) rfl).elim fun fd F => ⟨_, fd, F, g "is_direction" (by simp [hGlo])⟩
    d_sum_of_products := (S.d.def_ 7 (d := hd7) rfl).elim fun fd F => ⟨_, fd, F, g "sum_of_products" (by simp [hGlo])⟩
    d_is_last_table := (S.d.def_ 8 (d := hd8) rfl).elim fun fd F => ⟨_, fd, F, g "is_last_table" (by simp [hGlo])⟩
    d_is_turns := (S.d.def_ 9 (d := hd9) rfl).elim fun fd F => ⟨_, fd, F, g "is_turns" (by simp [hGlo])⟩
    d_law_well := (S.d.def_ 10 (d := hd10) rfl).elim fun fd F => ⟨_, fd, F, g "_law_well" (by simp [hGlo])⟩
    d_law_take := (S.d.def_ 11 (d := hd11) rfl).elim fun fd F => ⟨_, fd, F, g "_law_take" (by simp [hGlo])⟩
    d_law_pick := (S.d.def_ 12 (d := hd12) rfl).elim fun fd F => ⟨_, fd, F, g "_law_pick" (by simp [hGlo])⟩
    d_law_rounds := (S.d.def_ 13 (d := hd13) rfl).elim fun fd F => ⟨_, fd, F, g "_law_rounds" (by simp [hGlo])⟩
    d_law_common := (S.d.def_ 14 (d := hd14) rfl).elim fun fd F => ⟨_, fd, F, g "_law_common" (by simp [hGlo])⟩
    d_law_ratio := (S.d.def_ 15 (d := hd15) rfl).elim fun fd F => ⟨_, fd, F, g "_law_ratio" (by simp [hGlo])⟩
    d_law_sum := (S.d.def_ 16 (d := hd16) rfl).elim fun fd F => ⟨_, fd, F, g "_law_sum" (by simp [hGlo])⟩
    d_law_product := (S.d.def_ 17 (d := hd17) rfl).elim fun fd F => ⟨_, fd, F, g "_law_product" (by simp [hGlo])⟩
    d_law_number := (S.d.def_ 18 (d := hd18) rfl).elim fun fd F => ⟨_, fd, F, g "_law_number" (by simp [hGlo])⟩
    d_law_is_whole := (S.d.def_ 19 (d := hd19) rfl).elim fun fd F => ⟨_, fd, F, g "_law_is_whole" (by simp [hGlo])⟩
    d_law_is_fraction := (S.d.def_ 20 (d := hd20) rfl).elim fun fd F => ⟨_, fd, F, g "_law_is_fraction" (by simp [hGlo])⟩
    d_law_odd := (S.d.def_ 21 (d := hd21) rfl).elim fun fd F => ⟨_, fd, F, g "_law_odd" (by simp [hGlo])⟩
    d_law_spoilt := (S.d.def_ 22 (d := hd22) rfl).elim fun fd F => ⟨_, fd, F, g "_law_spoilt" (by simp [hGlo])⟩
    d_law_direction := (S.d.def_ 23 (d := hd23) rfl).elim fun fd F => ⟨_, fd, F, g "_law_direction" (by simp [hGlo])⟩
    d_law_grid := (S.d.def_ 24 (d := hd24) rfl).elim fun fd F => ⟨_, fd, F, g "_law_grid" (by simp [hGlo])⟩
    d_law_turns := (S.d.def_ 25 (d := hd25) rfl).elim fun fd F => ⟨_, fd, F, g "_law_turns" (by simp [hGlo])⟩
    d_law_is_way := (S.d.def_ 26 (d := hd26) rfl).elim fun fd F => ⟨_, fd, F, g "_law_is_way" (by simp [hGlo])⟩
    d_law_across := (S.d.def_ 27 (d := hd27) rfl).elim fun fd F => ⟨_, fd, F, g "_law_across" (by simp [hGlo])⟩
    d_law_is_grid := (S.d.def_ 28 (d := hd28) rfl).elim fun fd F => ⟨_, fd, F, g "_law_is_grid" (by simp [hGlo])⟩
    d_law_judged := (S.d.def_ 29 (d := hd29) rfl).elim fun fd F => ⟨_, fd, F, g "_law_judged" (by simp [hGlo])⟩
    d_law_bent := (S.d.def_ 30 (d := hd30) rfl).elim fun fd F => ⟨_, fd, F, g "_law_bent" (by simp [hGlo])⟩
    d_law_right := (S.d.def_ 31 (d := hd31) rfl).elim fun fd F => ⟨_, fd, F, g "_law_right" (by simp [hGlo])⟩
    d_law := (S.d.def_ 32 (d := hd32) rfl).elim fun fd F => ⟨_, fd, F, g "law" (by simp [hGlo])⟩
    g_abs := f "abs" (by simp [hFree])
    g_all := f "all" (by simp [hFree])
    g_bool := f "bool" (by simp [hFree])
    g_divmod := f "divmod" (by simp [hFree])
    g_enumerate := f "enumerate" (by simp [hFree])
    g_int := f "int" (by simp [hFree])
    g_isinstance := f "isinstance" (by simp [hFree])
    g_len := f "len" (by simp [hFree])
    g_list := f "list" (by simp [hFree])
    g_max := f "max" (by simp [hFree])
    g_min := f "min" (by simp [hFree])
    g_range := f "range" (by simp [hFree])
    g_repr := f "repr" (by simp [hFree])
    g_str := f "str" (by simp [hFree])
    g_tuple := f "tuple" (by simp [hFree])
    c_ZERO := t ("ZERO", [0, 1]) (by simp [hTup])
    b_gcd := PySem.W.mg_of X G (He.eqO_ok x2)
    sm := Option.isSome_iff_exists.mp x1 }
theorem law_fn (C : Ctx P w K mg base) {f : Addr} {fd : FuncData} (F : FunD K "law" "law" (defArgs (top 38)) (defBody (top 38)) (defScope (top 38)) [] [] f fd) : Vk.FnG P w K mg base 18 f fd ["_law_script"] (spF K F_law) :=
  fnG_dat F sc_law fun cdv A outer s H E hA hr => (dss_one (ds_ret (de_callB (dc_all rfl) (by rfl) C.g_all (by decide +kernel) (da_cons (de_lc (own := [("_law_turn", 1)]) (t := (gName 1)) rfl sc_law.nd (di_rng1 (by rfl) C.g_range (da_cons (de_callF (ok_law_rounds C) hr (by decide) (da_cons (dv 0) da_nil)) da_nil)) (blkOk_by (N := n_law) (sc := (defScope (top 38))) (by decide +kernel)) (fun _ _ _ _ _ => (pg_name (i := 1) sc_law.nd rfl (Or.inl rfl))) (wg_name (by decide)) (fun _ _ _ _ _ => dts_nil) (fun _ _ _ _ _ => (de_callG (ok_law_right C) hA hr (by decide) (da_cons (de_callF (ok_law_well C) hr (by decide) (da_cons (dv 0) (da_cons (dv 1) da_nil))) da_nil)))) da_nil))))
end K37
namespace K37
open PySem PySem.Spec PyProof.Rows L2 DL
abbrev Rw : PySem.W.OpenRow := PySem.W.OpenLaw.row PySem.Challenge.rw_bandsplits_k37_whole_turns_judged
abbrev hk : PySem.W.Hook := QF.hook 5 hFa hFn hTab hEx
def ob (s : PySem.W.SharedT) : He.AlD × Bool := QF.look 5 hFa hFn hTab hEx (HandSHeadRun.getT s)
theorem ob_eq (s : PySem.W.SharedT) : ob s = hk.obs s.abs := QF.look_eq (HandSHeadRun.getT_eq s)
def loose : List Str := [("ZERO" : Str), ("is_whole" : Str), ("is_fraction" : Str), ("reduced" : Str), ("plus" : Str), ("times" : Str), ("is_pair" : Str), ("is_turns" : Str), ("is_direction" : Str), ("is_last_table" : Str), ("sum_of_products" : Str), ("_law_well" : Str), ("_law_take" : Str), ("_law_pick" : Str), ("_law_rounds" : Str), ("_law_common" : Str), ("_law_ratio" : Str), ("_law_sum" : Str), ("_law_product" : Str), ("_law_number" : Str), ("_law_is_whole" : Str), ("_law_is_fraction" : Str), ("_law_odd" : Str), ("_law_spoilt" : Str), ("_law_direction" : Str), ("_law_grid" : Str), ("_law_turns" : Str), ("_law_judged" : Str), ("_law_is_way" : Str), ("_law_across" : Str), ("_law_is_grid" : Str), ("_law_bent" : Str), ("_law_right" : Str)]
theorem run (w : World) : HandSHeadRun.RunEqI Rw (PySem.W.view Rw.prog [0, 38]) hk ob 8000 loose w := by
  unfold HandSHeadRun.RunEqI
  kernel_rfl
end K37
namespace K37
open PySem PySem.Spec PyProof.Rows L2 DL
theorem need {p q : Prop} (h : p) (k : q) : (p → q) ∧ (¬ p → False) := ⟨fun _ => k, fun n => n h⟩
theorem needB {b : Bool} {q : Prop} (h : b = true) (k : q) : (b = true → q) ∧ (b = false → False) := ⟨fun _ => k, fun n => by rw [h] at n; cases n⟩
/-- the store but for the thing at n -/
structure Kp (n : Nat) (μ μ' : Sto) : Prop where
  len : μ.length ≤ μ'.length
  at_ : ∀ m o, m ≠ n → μ[m]? = some o → μ'[m]? = some o
theorem Kp.refl {n : Nat} {μ : Sto} : Kp n μ μ := ⟨Nat.le_refl _, fun _ _ _ h => h⟩
theorem Kp.trans {n : Nat} {a b c : Sto} (x : Kp n a b) (y : Kp n b c) : Kp n a c := ⟨Nat.le_trans x.len y.len, fun m o h e => y.at_ m o h (x.at_ m o h e)⟩
theorem Kp.set {n : Nat} {μ : Sto} {o : Ob} : Kp n μ (μ.set n o) := ⟨by simp, fun m o h e => by rw [List.getElem?_set_ne (Ne.symm h)]; exact e⟩
theorem Kp.app {n : Nat} {μ more : Sto} : Kp n μ (μ ++ more) := ⟨by simp, fun m o _ e => by rw [List.getElem?_append_left (List.getElem?_eq_some_iff.mp e).1]; exact e⟩
/-- the well at n -/
def W (μ : Sto) (n k : Nat) : Prop := ∃ a b c : Int, μ[n]? = some (.lst [.int a, .int b, .int c]) ∧ 0 ≤ a ∧ 0 ≤ b ∧ b < 2147483648 ∧ 0 ≤ c ∧ c ≤ k
theorem W.le {μ : Sto} {n k l : Nat} (w : W μ n k) (h : k ≤ l) : W μ n l := let ⟨a, b, c, h1, h2, h3, h4, h5, h6⟩ := w; ⟨a, b, c, h1, h2, h3, h4, h5, by omega⟩
theorem W.app {μ more : Sto} {n k : Nat} (w : W μ n k) : W (μ ++ more) n k := let ⟨a, b, c, h1, h2⟩ := w; ⟨a, b, c, by rw [List.getElem?_append_left (List.getElem?_eq_some_iff.mp h1).1]; exact h1, h2⟩
theorem take_ok {μ : Sto} {n k : Nat} {j : Int} (w : W μ n k) (hk : k ≤ 1000000) (hj : 0 < j) (hj2 : j < 1073741824) :
    Wp (F_law_take [.loc n, .int j] μ) fun p => ∃ (r : Int) (μ' : Sto), p = (.int r, μ') ∧ 0 ≤ r ∧ r < j ∧ W μ' n (k + 1) ∧ Kp n μ μ' := by
  obtain ⟨a, b, c, h, ha, hb, hb2, hc, hc2⟩ := w
  have hl : n < μ.length := (List.getElem?_eq_some_iff.mp h).1
  have e1 := lstAt_lst h
  by_cases h0 : 0 < a
  · unfold F_law_take
    simp_arith [opIx, e1, atI_0, opCmp, h0, decide_true, cDivmod, hj, hj2, stD, h, ix3_0]
    exact ⟨_, _, rfl, Int.emod_nonneg _ (by omega), Int.emod_lt_of_pos _ hj, ⟨a / j, b, c, by simp [hl], Int.ediv_nonneg (by omega) (by omega), hb, hb2, hc, by omega⟩, Kp.set⟩
  · have m1 : mulOk 2 (c + 1) = true := mulOk_small (by omega) (by omega)
    have m2 : mulOk b (16807 + 2 * (c + 1)) = true := mulOk_small (by omega) (by omega)
    have m3 : mulOk 7919 (c + 1) = true := mulOk_small (by omega) (by omega)
    unfold F_law_take
    simp_arith [opIx, e1, atI_0, atI_1, atI_2, opCmp, h0, decide_false, opAdd, opMul, opMod, opFdiv, cInt, stD, h, ix3_0, ix3_1, ix3_2, hl, List.getElem?_set_self, lstAt, List.length_set, List.set_set, m1, m2, m3]
    have t1 : 0 ≤ (b * (16807 + 2 * (c + 1)) + 7919 * (c + 1) + 3).fmod 2147483647 ∧ (b * (16807 + 2 * (c + 1)) + 7919 * (c + 1) + 3).fmod 2147483647 < 2147483647 := by
      rw [Int.fmod_eq_emod_of_nonneg _ (by decide)]
      exact ⟨Int.emod_nonneg _ (by decide), Int.emod_lt_of_pos _ (by decide)⟩
    generalize (b * (16807 + 2 * (c + 1)) + 7919 * (c + 1) + 3).fmod 2147483647 = t at t1 ⊢
    have m4 : mulOk t (t + 17) = true := mulOk_small (by omega) (by omega)
    generalize (t * (t + 17)).fmod 2147483629 = u
    refine need (by decide) (needB m4 (need (by decide) (need ⟨by decide, noPy (by decide)⟩ (need (by omega) ⟨_, _, rfl, ?_, ?_, ⟨a, t, c + 1, by simp [hl], ha, t1.1, by omega, by omega, by omega⟩, Kp.set⟩))))
    · rw [Int.fmod_eq_emod_of_nonneg _ (by omega)]; exact Int.emod_nonneg _ (by omega)
    · rw [Int.fmod_eq_emod_of_nonneg _ (by omega)]; exact Int.emod_lt_of_pos _ hj
theorem pick_ok {μ : Sto} {n k : Nat} {ds : List D} (w : W μ n k) (hk : k ≤ 1000000) (h0 : ds ≠ []) (hl : ds.length ≤ 1000) :
    Wp (F_law_pick [.loc n, .tup ds] μ) fun p => ∃ (d : D) (μ' : Sto), p = (d, μ') ∧ d ∈ ds ∧ W μ' n (k + 1) ∧ Kp n μ μ' := by
  have hp : 0 < ds.length := List.length_pos_iff.mpr h0
  unfold F_law_pick
  simp_arith [cLen]
  refine (take_ok w hk (j := ds.length) (by omega) (by omega)).mono ?_
  rintro _ ⟨r, μ', rfl, h1, h2, w', kp⟩
  obtain ⟨i, rfl⟩ := Int.eq_ofNat_of_zero_le h1
  have hi : i < ds.length := by omega
  simp_arith [opIx, atI_at, List.getElem?_eq_getElem hi]
  exact ⟨_, _, rfl, List.getElem_mem hi, w', kp⟩
/-! ### the greatest common divisor -/
theorem loop_common (c : TF) (b : SF) (hc : c = (fB (fBin opGt (fVar 1) (fC (.int 0))))) (hb : b = (fPar 0 1 (fCons (fVar 1) (fCons (fBin opMod (fCB cInt (fCons (fVar 0) fNil)) (fVar 1)) fNil)))) (μ : Sto) : ∀ (m x y : Nat), y < m →
    loopW c b m [some (.int x), some (.int y)] μ = some (.nx [some (.int (Nat.gcd x y : Nat)), some (.int 0)] μ)
  | 0, _, _, h => by omega
  | m + 1, x, y, h => by
    unfold loopW
    by_cases hy : y = 0
    · subst hy
      subst hc
      simp [fB, fBin, fVar, fC, opCmp]
    · have hp : (0 : Int) < y := by omega
      have e : (x : Int).fmod y = ((x % y : Nat) : Int) := by
        rw [Int.fmod_eq_emod_of_nonneg _ (by omega)]; rfl
      have ih := loop_common c b hc hb μ m y (x % y) (by have := Nat.mod_lt x (y := y) (by omega); omega)
      have g : Nat.gcd y (x % y) = Nat.gcd x y := by rw [Nat.gcd_comm x y, Nat.gcd_rec y x, Nat.gcd_comm]
      rw [g] at ih
      have hy' : (y : Int) ≠ 0 := by omega
      have hcx : c [some (.int x), some (.int y)] μ = some (true, μ) := by
        rw [hc]
        simp only [fB, fBin, fVar, fC, opCmp, List.getElem?_cons_zero, List.getElem?_cons_succ, Option.bind_some]
        rw [decide_eq_true hp]
      have hbx : b [some (.int x), some (.int y)] μ = some (.nx [some (.int y), some (.int (x % y : Nat))] μ) := by
        rw [hb]
        simp only [fPar, fCons, fNil, fVar, fBin, fCB, cInt, opMod, List.getElem?_cons_zero, List.getElem?_cons_succ, Option.bind_some]
        rw [if_pos hy', e]
        rfl
      rw [hcx]
      simp only [Option.bind_some, if_true]
      rw [hbx]
      exact ih
theorem common_ok {μ : Sto} {a b : Int} {Q : D × Sto → Prop} (q : Q (.int (Nat.gcd a.natAbs b.natAbs : Nat), μ)) : Wp (F_law_common [.int a, .int b] μ) Q := by
  have abs_ : ∀ i : Int, (if i < 0 then -i else i) = (i.natAbs : Nat) := fun i => by split <;> omega
  have L := loop_common _ _ rfl rfl μ (b.natAbs + 1) a.natAbs b.natAbs (Nat.lt_succ_self _)
  unfold F_law_common
  simp_arith [cAbs, abs_, fuelC, Int.natAbs_natCast]
  refine Wp.of L ?_
  simp_arith []
  exact q
end K37
namespace K37
open PySem PySem.Spec PyProof.Rows L2 DL
/-! ### the store grows -/
def Gr (μ μ' : Sto) : Prop := ∃ more, μ' = μ ++ more
theorem Gr.refl {μ : Sto} : Gr μ μ := ⟨[], by simp⟩
theorem Gr.trans {a b c : Sto} (x : Gr a b) (y : Gr b c) : Gr a c := by
  obtain ⟨m, rfl⟩ := x
  obtain ⟨n, rfl⟩ := y
  exact ⟨m ++ n, by rw [List.append_assoc]⟩
theorem Gr.app {μ more : Sto} : Gr μ (μ ++ more) := ⟨more, rfl⟩
theorem Gr.get {μ μ' : Sto} {n : Nat} {o : Ob} (g : Gr μ μ') (h : μ[n]? = some o) : μ'[n]? = some o := by
  obtain ⟨m, rfl⟩ := g
  rw [List.getElem?_append_left (List.getElem?_eq_some_iff.mp h).1]; exact h
theorem Gr.lst {μ μ' : Sto} {n : Nat} {ds : List D} (g : Gr μ μ') (h : lstAt μ n = some ds) : lstAt μ' n = some ds := by
  unfold lstAt at h ⊢
  cases e : μ[n]? with
  | none => rw [e] at h; cases h
  | some o => rw [e] at h; rw [g.get e]; exact h
/-! ### things -/
mutual
def OkD (μ : Sto) : D → Prop
  | .tup ds => ds.length ≤ 1000 ∧ OkDs μ ds
  | .loc n => (kindD μ (.loc n)).isSome = true
  | .int i => i.natAbs < 1180591620717411303424
  | .ty _ => False
  | _ => True
def OkDs (μ : Sto) : List D → Prop
  | [] => True
  | d :: ds => OkD μ d ∧ OkDs μ ds
end
theorem OkDs.mem {μ : Sto} : ∀ {ds : List D} {d : D}, OkDs μ ds → d ∈ ds → OkD μ d
  | _ :: _, _, h, m => by
    rcases List.mem_cons.mp m with rfl | m
    · exact h.1
    · exact OkDs.mem h.2 m
theorem OkDs.of {μ : Sto} : ∀ {ds : List D}, (∀ d ∈ ds, OkD μ d) → OkDs μ ds
  | [], _ => trivial
  | d :: ds, h => ⟨h d List.mem_cons_self, OkDs.of fun z hz => h z (List.mem_cons_of_mem _ hz)⟩
theorem kind_gr {μ μ' : Sto} {n : Nat} (g : Gr μ μ') (h : (kindD μ (.loc n)).isSome = true) : (kindD μ' (.loc n)).isSome = true := by
  simp only [kindD] at h ⊢
  cases e : μ[n]? with
  | none => rw [e] at h; cases h
  | some o => rw [e] at h; rw [g.get e]; exact h
mutual
theorem OkD.gr {μ μ' : Sto} (g : Gr μ μ') : ∀ d : D, OkD μ d → OkD μ' d
  | .tup ds, h => ⟨h.1, OkDs.gr g ds h.2⟩
  | .loc n, h => kind_gr g h
  | .int _, h => h
  | .ty _, h => h
  | .non, h => h
  | .bl _, h => h
  | .str _, h => h
theorem OkDs.gr {μ μ' : Sto} (g : Gr μ μ') : ∀ ds : List D, OkDs μ ds → OkDs μ' ds
  | [], h => h
  | d :: ds, h => ⟨OkD.gr g d h.1, OkDs.gr g ds h.2⟩
end
def tupB : D → Bool
  | .tup _ => true
  | _ => false
def intB : D → Bool
  | .int _ => true
  | .bl _ => true
  | _ => false
def blB : D → Bool
  | .bl _ => true
  | _ => false
def strB : D → Bool
  | .str _ => true
  | _ => false
def wholeB : D → Bool
  | .int _ => true
  | _ => false
theorem tupB_iff {d : D} (h : tupB d = true) : ∃ ds, d = .tup ds := by cases d <;> first | exact ⟨_, rfl⟩ | cases h
theorem strB_iff {d : D} (h : strB d = true) : ∃ x, d = .str x := by cases d <;> first | exact ⟨_, rfl⟩ | cases h
theorem wholeB_iff {d : D} (h : wholeB d = true) : ∃ n, d = .int n := by cases d <;> first | exact ⟨_, rfl⟩ | cases h
theorem kind_ok {μ : Sto} {d : D} (h : OkD μ d) : ∃ k, kindD μ d = some k := by
  cases d with
  | loc n => exact Option.isSome_iff_exists.mp h
  | ty t => exact h.elim
  | _ => exact ⟨_, rfl⟩
theorem kind_loc {μ : Sto} {n : Nat} {k : String} (h : kindD μ (.loc n) = some k) : k = "list" ∨ k = "dict" := by
  simp only [kindD] at h
  split at h <;> cases h <;> simp
section
variable {μ : Sto} {d : D} {Q : D × Sto → Prop}
theorem isi_of {t : String} {b : Bool} (ht : kinds.contains t = true) (h : OkD μ d) (hb : ∀ k, kindD μ d = some k → isKind k t = b) (q : Q (.bl b, μ)) : Wp (cIsi [d, .ty t] μ) Q := by
  obtain ⟨k, hk⟩ := kind_ok h
  refine Wp.of (a := (.bl b, μ)) ?_ q
  unfold cIsi
  simp only [hk, ht, if_true, hb k hk]
theorem isi_tup (h : OkD μ d) (q : Q (.bl (tupB d), μ)) : Wp (cIsi [d, .ty "tuple"] μ) Q := isi_of (by decide) h (fun k hk => by
  cases d with
  | loc n => rcases kind_loc hk with rfl | rfl <;> simp [isKind, tupB, strB, intB, blB]
  | ty t => exact h.elim
  | _ => cases hk; simp [isKind, tupB, strB, intB, blB]) q
theorem isi_str (h : OkD μ d) (q : Q (.bl (strB d), μ)) : Wp (cIsi [d, .ty "str"] μ) Q := isi_of (by decide) h (fun k hk => by
  cases d with
  | loc n => rcases kind_loc hk with rfl | rfl <;> simp [isKind, tupB, strB, intB, blB]
  | ty t => exact h.elim
  | _ => cases hk; simp [isKind, tupB, strB, intB, blB]) q
theorem isi_int (h : OkD μ d) (q : Q (.bl (intB d), μ)) : Wp (cIsi [d, .ty "int"] μ) Q := isi_of (by decide) h (fun k hk => by
  cases d with
  | loc n => rcases kind_loc hk with rfl | rfl <;> simp [isKind, tupB, strB, intB, blB]
  | ty t => exact h.elim
  | _ => cases hk; simp [isKind, tupB, strB, intB, blB]) q
theorem isi_bool (h : OkD μ d) (q : Q (.bl (blB d), μ)) : Wp (cIsi [d, .ty "bool"] μ) Q := isi_of (by decide) h (fun k hk => by
  cases d with
  | loc n => rcases kind_loc hk with rfl | rfl <;> simp [isKind, tupB, strB, intB, blB]
  | ty t => exact h.elim
  | _ => cases hk; simp [isKind, tupB, strB, intB, blB]) q
theorem whole_ok (h : OkD μ d) (q : Q (.bl (wholeB d), μ)) : Wp (F_is_whole [d] μ) Q := by
  unfold F_is_whole
  simp_arith []
  refine isi_int h ?_
  cases e : intB d with
  | false =>
    simp_arith []
    have : wholeB d = false := by cases d <;> first | rfl | cases e
    rw [this] at q; exact q
  | true =>
    simp_arith []
    refine isi_bool h ?_
    simp_arith []
    have : wholeB d = !blB d := by cases d <;> first | rfl | cases e
    rw [this] at q; exact q
theorem lwhole_ok (h : OkD μ d) (q : Q (.bl (wholeB d), μ)) : Wp (F_law_is_whole [d] μ) Q := by
  unfold F_law_is_whole
  simp_arith []
  refine isi_int h ?_
  cases e : intB d with
  | false =>
    simp_arith []
    have : wholeB d = false := by cases d <;> first | rfl | cases e
    rw [this] at q; exact q
  | true =>
    simp_arith []
    refine isi_bool h ?_
    simp_arith []
    have : wholeB d = !blB d := by cases d <;> first | rfl | cases e
    rw [this] at q; exact q
end
/-! ### comparisons -/
/-- whether a value is a fraction -/
def fracD : D → Bool
  | .tup [.int n, .int m] => decide (0 < m) && decide (Nat.gcd n.natAbs m.natAbs = 1)
  | _ => false
theorem rc_int {μ : Sto} {i j : Int} : rcD μ 60 (.int i) (.int j) = some (i == j) := rfl
theorem rc_str {μ : Sto} {i j : Str} : rcD μ 60 (.str i) (.str j) = some (i == j) := rfl
theorem rc_tup_nil {μ : Sto} {ds : List D} : rcD μ 60 (.tup ds) (.tup []) = some ds.isEmpty := by
  show (zipAll (rcD μ 59) ds []).map _ = _
  cases ds <;> simp [zipAll]
theorem rc_lst_nil {μ : Sto} {i j : Nat} {xs : List D} (h1 : lstAt μ i = some xs) (h2 : lstAt μ j = some []) : rcD μ 60 (.loc i) (.loc j) = some xs.isEmpty := by
  show (match lstAt μ i, lstAt μ j with
    | some xs, some ys => if xs.length = ys.length then zipAll (rcD μ 59) xs ys else some false
    | _, _ => none) = _
  rw [h1, h2]
  cases xs <;> simp [zipAll]
theorem len2 {α : Type} {ds : List α} (h : ds.length = 2) : ∃ a b, ds = [a, b] := by
  match ds, h with
  | [a, b], _ => exact ⟨a, b, rfl⟩
section
variable {μ : Sto} {d : D} {Q : D × Sto → Prop}
theorem ne_len {n : Nat} {ds : List D} : opNe (.int (ds.length : Nat)) (.int (n : Nat)) μ = some (.bl (decide (ds.length ≠ n)), μ) := by
  show (some ((ds.length : Int) == (n : Int))).map _ = _
  simp only [Option.map_some]
  congr 2
  by_cases h : ds.length = n
  · simp [h]
  · have : ¬ ((ds.length : Int) = (n : Int)) := by omega
    simp [h, this]
theorem eq_len {n : Nat} {ds : List D} : opEqM (.int (ds.length : Nat)) (.int (n : Nat)) μ = some (.bl (decide (ds.length = n)), μ) := by
  simp only [opEqM, opEq, rc_int, Option.map_some]
  congr 3
  by_cases h : ds.length = n
  · simp [h]
  · have : ¬ ((ds.length : Int) = (n : Int)) := by omega
    simp [h, this]
theorem ne_int {i j : Int} : opNe (.int i) (.int j) μ = some (.bl (decide (i ≠ j)), μ) := by
  show (some (i == j)).map _ = _
  simp only [Option.map_some]
  congr 2
  by_cases h : i = j <;> simp [h]
theorem eq_int {i j : Int} : opEqM (.int i) (.int j) μ = some (.bl (decide (i = j)), μ) := by
  simp only [opEqM, opEq, rc_int, Option.map_some]
  by_cases h : i = j <;> simp [h]
theorem frac_not_tup (h : tupB d = false) : fracD d = false := by cases d <;> first | rfl | cases h
theorem frac_len {ds : List D} (h : ds.length ≠ 2) : fracD (.tup ds) = false := by
  match ds, h with
  | [], _ => rfl
  | [a], _ => cases a <;> rfl
  | [a, b], h => exact absurd rfl h
  | a :: b :: c :: r, _ => cases a <;> cases b <;> rfl
theorem frac_nw {a b : D} (h : ¬ (wholeB a = true ∧ wholeB b = true)) : fracD (.tup [a, b]) = false := by
  cases a <;> cases b <;> first | rfl | exact absurd ⟨rfl, rfl⟩ h
theorem lfrac_ok (h : OkD μ d) (q : Q (.bl (fracD d), μ)) : Wp (F_law_is_fraction [d] μ) Q := by
  unfold F_law_is_fraction
  simp_arith []
  refine isi_tup h ?_
  cases e : tupB d with
  | false => simp_arith []; rw [frac_not_tup e] at q; exact q
  | true =>
    obtain ⟨ds, rfl⟩ := tupB_iff e
    simp_arith [cLen, show (2 : Int) = ((2 : Nat) : Int) from rfl, ne_len]
    by_cases hl : ds.length = 2
    · obtain ⟨a, b, rfl⟩ := len2 hl
      have ha : OkD μ a := h.2.1
      have hb : OkD μ b := h.2.2.1
      simp_arith [opIx, atI_0, atI_1, decide_false]
      refine lwhole_ok ha ?_
      cases ea : wholeB a with
      | false =>
        rw [frac_nw (fun z => by rw [ea] at z; cases z.1)] at q
        simp_arith []
        exact q
      | true =>
        obtain ⟨n, rfl⟩ := wholeB_iff ea
        simp_arith []
        refine lwhole_ok hb ?_
        cases eb : wholeB b with
        | false =>
          rw [frac_nw (fun z => by rw [eb] at z; cases z.2)] at q
          simp_arith []
          exact q
        | true =>
          obtain ⟨m, rfl⟩ := wholeB_iff eb
          simp_arith [opCmp]
          by_cases hm : 0 < m
          · simp_arith [hm, decide_true]
            refine common_ok ?_
            simp_arith [eq_int]
            have e : fracD (.tup [.int n, .int m]) = decide (((Nat.gcd n.natAbs m.natAbs : Nat) : Int) = 1) := by
              show (decide (0 < m) && decide (Nat.gcd n.natAbs m.natAbs = 1)) = _
              rw [decide_eq_true hm, Bool.true_and]
              by_cases z : Nat.gcd n.natAbs m.natAbs = 1
              · simp [z]
              · have : ¬ ((Nat.gcd n.natAbs m.natAbs : Nat) : Int) = 1 := by omega
                simp [z, this]
            rw [e] at q
            exact q
          · have e : fracD (.tup [.int n, .int m]) = false := by
              show (decide (0 < m) && decide (Nat.gcd n.natAbs m.natAbs = 1)) = _
              rw [decide_eq_false hm, Bool.false_and]
            rw [e] at q
            simp_arith [hm, decide_false]
            exact q
    · rw [frac_len hl] at q
      simp_arith [hl, decide_true]
      exact q
theorem frac_ok (h : OkD μ d) (q : Q (.bl (fracD d), μ)) : Wp (F_is_fraction [d] μ) Q := by
  unfold F_is_fraction
  simp_arith []
  refine isi_tup h ?_
  cases e : tupB d with
  | false => simp_arith []; rw [frac_not_tup e] at q; exact q
  | true =>
    obtain ⟨ds, rfl⟩ := tupB_iff e
    simp_arith [cLen, show (2 : Int) = ((2 : Nat) : Int) from rfl, ne_len]
    by_cases hl : ds.length = 2
    · obtain ⟨a, b, rfl⟩ := len2 hl
      have ha : OkD μ a := h.2.1
      have hb : OkD μ b := h.2.2.1
      simp_arith [decide_false]
      refine whole_ok ha ?_
      cases ea : wholeB a with
      | false =>
        rw [frac_nw (fun z => by rw [ea] at z; cases z.1)] at q
        simp_arith []
        exact q
      | true =>
        obtain ⟨n, rfl⟩ := wholeB_iff ea
        simp_arith []
        refine whole_ok hb ?_
        cases eb : wholeB b with
        | false =>
          rw [frac_nw (fun z => by rw [eb] at z; cases z.2)] at q
          simp_arith []
          exact q
        | true =>
          obtain ⟨m, rfl⟩ := wholeB_iff eb
          simp_arith [opCmp]
          by_cases hm : 0 < m
          · simp_arith [hm, decide_true, cGcd, eq_int]
            have e : fracD (.tup [.int n, .int m]) = decide (((Nat.gcd n.natAbs m.natAbs : Nat) : Int) = 1) := by
              show (decide (0 < m) && decide (Nat.gcd n.natAbs m.natAbs = 1)) = _
              rw [decide_eq_true hm, Bool.true_and]
              by_cases z : Nat.gcd n.natAbs m.natAbs = 1
              · simp [z]
              · have : ¬ ((Nat.gcd n.natAbs m.natAbs : Nat) : Int) = 1 := by omega
                simp [z, this]
            rw [e] at q
            exact q
          · have e : fracD (.tup [.int n, .int m]) = false := by
              show (decide (0 < m) && decide (Nat.gcd n.natAbs m.natAbs = 1)) = _
              rw [decide_eq_false hm, Bool.false_and]
            rw [e] at q
            simp_arith [hm, decide_false]
            exact q
    · rw [frac_len hl] at q
      simp_arith [hl, decide_true]
      exact q
end
/-! ### comprehensions over a tuple -/
theorem lc_tup {g : GF} {ft : TF} {fe : EF} {ρ : Sl} {μ0 : Sto} {ds : List D} {p : D → Bool} {e : D → D} (hl : ds.length ≤ 1000)
    (h : ∀ d ∈ ds, ∀ μ, Gr μ0 μ → ∃ ρ1, g d ρ μ = some (ρ1, μ) ∧ Wp (ft ρ1 μ) fun q => q.1 = p d ∧ Gr μ q.2 ∧ (p d = true → Wp (fe ρ1 q.2) fun r => r.1 = e d ∧ Gr q.2 r.2)) :
    ∀ (m i : Nat) (acc : List D) (more : Sto), m + i = ds.length → acc.length ≤ i → Wp (lcF g ft fe (.tup ds) μ0.length ρ m i (μ0 ++ .lst acc :: more)) fun μ' => ∃ more', μ' = μ0 ++ .lst (acc ++ ((ds.drop i).filter p).map e) :: more' := by
  intro m
  induction m with
  | zero =>
    intro i acc more hi ha
    have e1 : ds[i]? = none := List.getElem?_eq_none (by omega)
    refine Wp.of (a := μ0 ++ .lst acc :: more) ?_ ⟨more, ?_⟩
    · unfold lcF; simp only [itAt, e1]
    · rw [List.drop_of_length_le (by omega)]; simp
  | succ m ih =>
    intro i acc more hi ha
    have lt : i < ds.length := by omega
    have e1 : ds[i]? = some ds[i] := List.getElem?_eq_getElem lt
    have hm : ds[i] ∈ ds := List.getElem_mem lt
    have dr : ds.drop i = ds[i] :: ds.drop (i + 1) := List.drop_eq_getElem_cons lt
    obtain ⟨ρ1, e2, ⟨q, μq⟩, e3, e4, ⟨mq, e5⟩, e6⟩ := h _ hm (μ0 ++ .lst acc :: more) Gr.app
    dsimp only at e4 e5 e6
    subst e4
    unfold lcF
    simp only [itAt, e1, e2, e3, Option.bind_some]
    cases hp : p ds[i] with
    | false =>
      simp only [Bool.false_eq_true, if_false]
      rw [e5, List.append_assoc, List.cons_append]
      refine (ih (i + 1) acc (more ++ mq) (by omega) (by omega)).mono ?_
      rintro _ ⟨m', rfl⟩
      exact ⟨m', by rw [dr, List.filter_cons_of_neg (by simp [hp])]⟩
    | true =>
      obtain ⟨⟨y, μy⟩, f1, f2, ⟨my, f3⟩⟩ := e6 hp
      dsimp only at f2 f3
      subst f2
      simp only [if_true, f1, Option.bind_some]
      have e7 : μy = μ0 ++ .lst acc :: (more ++ (mq ++ my)) := by rw [f3, e5]; simp
      have e8 : μy[μ0.length]? = some (.lst acc) := by rw [e7]; simp
      simp only [e8]
      rw [if_pos (by rw [sizeLine_eq]; omega)]
      have e9 : μy.set μ0.length (.lst (acc ++ [e ds[i]])) = μ0 ++ .lst (acc ++ [e ds[i]]) :: (more ++ (mq ++ my)) := by rw [e7]; simp [List.set_append_right]
      rw [e9]
      refine (ih (i + 1) (acc ++ [e ds[i]]) _ (by omega) (by simp; omega)).mono ?_
      rintro _ ⟨m', rfl⟩
      exact ⟨m', by rw [dr, List.filter_cons_of_pos hp]; simp⟩
theorem fLc_tup {fi : EF} {g : GF} {ft : TF} {fe : EF} {vs : List Nat} {ρ : Sl} {μ μ0 : Sto} {ds : List D} {p : D → Bool} {e : D → D} {Q : D × Sto → Prop} (hi : fi ρ μ = some (.tup ds, μ0)) (hl : ds.length ≤ 1000)
    (h : ∀ d ∈ ds, ∀ μ, Gr μ0 μ → ∃ ρ1, g d (wipeD ρ vs) μ = some (ρ1, μ) ∧ Wp (ft ρ1 μ) fun q => q.1 = p d ∧ Gr μ q.2 ∧ (p d = true → Wp (fe ρ1 q.2) fun r => r.1 = e d ∧ Gr q.2 r.2))
    (k : ∀ n μ', lstAt μ' n = some ((ds.filter p).map e) → Gr μ0 μ' → Q (.loc n, μ')) : Wp (fLc (iVal fi) g ft fe vs ρ μ) Q := by
  obtain ⟨_, e1, m', rfl⟩ := lc_tup hl h ds.length 0 [] [] rfl (Nat.zero_le _)
  refine Wp.of (a := (.loc μ0.length, μ0 ++ .lst ([] ++ ((ds.drop 0).filter p).map e) :: m')) ?_ (k _ _ ?_ ⟨_, rfl⟩)
  · unfold fLc iVal
    simp only [hi, Option.bind_some, itLen]
    rw [e1]
    rfl
  · unfold lstAt
    simp
theorem frac_iff {d : D} (h : fracD d = true) : ∃ n m : Int, d = .tup [.int n, .int m] ∧ 0 < m ∧ Nat.gcd n.natAbs m.natAbs = 1 := by
  unfold fracD at h
  split at h
  · rename_i n m
    rw [Bool.and_eq_true] at h
    exact ⟨n, m, rfl, of_decide_eq_true h.1, of_decide_eq_true h.2⟩
  · cases h
/-- [x for x in a tuple if not test(x)] != [] -/
theorem filt_none {p : D → Bool} {ds : List D} : ((ds.filter fun d => !p d).map id).isEmpty = ds.all p := by
  induction ds with
  | nil => rfl
  | cons d ds ih =>
    cases h : p d with
    | true => rw [List.filter_cons_of_neg (by simp [h]), ih, List.all_cons, h, Bool.true_and]
    | false => rw [List.filter_cons_of_pos (by simp [h]), List.all_cons, h]; rfl
theorem ne_lst_nil {μ : Sto} {n : Nat} {xs : List D} (h : lstAt μ n = some xs) : opNe (.loc n) (.loc μ.length) (μ ++ [.lst []]) = some (.bl !xs.isEmpty, μ ++ [.lst []]) := by
  have h2 : lstAt (μ ++ [.lst []]) μ.length = some [] := by unfold lstAt; simp
  simp only [opNe, rc_lst_nil (Gr.app.lst h) h2, Option.map_some]
theorem eq_lst_nil {μ : Sto} {n : Nat} {xs : List D} (h : lstAt μ n = some xs) : opEqM (.loc n) (.loc μ.length) (μ ++ [.lst []]) = some (.bl xs.isEmpty, μ ++ [.lst []]) := by
  have h2 : lstAt (μ ++ [.lst []]) μ.length = some [] := by unfold lstAt; simp
  have e : opEqM (.loc n) (.loc μ.length) (μ ++ [.lst []]) = opEq (.loc n) (.loc μ.length) (μ ++ [.lst []]) := by
    have h3 : (μ ++ [Ob.lst []])[μ.length]? = some (.lst []) := by simp
    simp only [opEqM, h3]
    split <;> simp_all
  rw [e]
  simp only [opEq, rc_lst_nil (Gr.app.lst h) h2, Option.map_some]
def pairB : D → Bool
  | .tup ds => decide (ds.length = 2)
  | _ => false
theorem pair_iff {d : D} (h : pairB d = true) : ∃ a b, d = .tup [a, b] := by
  cases d with
  | tup ds =>
    obtain ⟨a, b, rfl⟩ := len2 (of_decide_eq_true h)
    exact ⟨a, b, rfl⟩
  | _ => cases h
section
variable {μ : Sto} {d : D} {Q : D × Sto → Prop}
theorem pair_ok (h : OkD μ d) (q : Q (.bl (pairB d), μ)) : Wp (F_is_pair [d] μ) Q := by
  unfold F_is_pair
  simp_arith []
  refine isi_tup h ?_
  cases e : tupB d with
  | false =>
    simp_arith []
    have : pairB d = false := by cases d <;> first | rfl | cases e
    rw [this] at q; exact q
  | true =>
    obtain ⟨ds, rfl⟩ := tupB_iff e
    simp_arith [cLen, show (2 : Int) = ((2 : Nat) : Int) from rfl, eq_len]
    exact q
theorem ne_zero {n m : Int} (h0 : 0 < m) (hg : Nat.gcd n.natAbs m.natAbs = 1) : opNe (.tup [.int n, .int m]) (.tup [.int 0, .int 1]) μ = some (.bl (decide (n ≠ 0)), μ) := by
  have e : rcD μ 60 (.tup [.int n, .int m]) (.tup [.int 0, .int 1]) = some ((n == 0 && (m == 1 && true)) && true) := rfl
  simp only [opNe, e, Option.map_some]
  by_cases h : n = 0
  · subst h
    have : m = 1 := by
      simp at hg
      omega
    subst this
    simp
  · simp [h]
end
end K37
namespace K37
open PySem PySem.Spec PyProof.Rows L2 DL
/-! ### fractions in lowest terms -/
def redI (n m : Int) : Int × Int := (n / ((Nat.gcd n.natAbs m.natAbs : Nat) : Int), m / ((Nat.gcd n.natAbs m.natAbs : Nat) : Int))
def frD (p : Int × Int) : D := .tup [.int p.1, .int p.2]
def frP : D → Int × Int
  | .tup [.int n, .int m] => (n, m)
  | _ => (0, 1)
def isFr (p : Int × Int) : Prop := 0 < p.2 ∧ Nat.gcd p.1.natAbs p.2.natAbs = 1
def mulP (p q : Int × Int) : Int × Int := redI (p.1 * q.1) (p.2 * q.2)
def addP (p q : Int × Int) : Int × Int := redI (p.1 * q.2 + q.1 * p.2) (p.2 * q.2)
def Sm (k : Nat) (p : Int × Int) : Prop := p.1.natAbs < 2 ^ k ∧ p.2.natAbs < 2 ^ k
theorem fr_of {d : D} (h : fracD d = true) : d = frD (frP d) ∧ isFr (frP d) := by
  obtain ⟨n, m, rfl, h1, h2⟩ := frac_iff h
  exact ⟨rfl, h1, h2⟩
theorem redI_self {p : Int × Int} (h : isFr p) : redI p.1 p.2 = p := by
  unfold redI
  rw [h.2]
  simp
theorem gcd_pos {n m : Int} (h : 0 < m) : 0 < Nat.gcd n.natAbs m.natAbs := Nat.gcd_pos_of_pos_right _ (by omega)
theorem natAbs_div {n : Int} {g : Nat} (h : g ∣ n.natAbs) : (n / (g : Int)).natAbs = n.natAbs / g := by
  have : (g : Int) ∣ n := Int.ofNat_dvd_left.mpr h
  rw [Int.natAbs_ediv_of_dvd this]
  simp
theorem redI_fr {n m : Int} (h : 0 < m) : isFr (redI n m) := by
  have hg := gcd_pos (n := n) h
  have d1 := Nat.gcd_dvd_left n.natAbs m.natAbs
  have d2 := Nat.gcd_dvd_right n.natAbs m.natAbs
  refine ⟨?_, ?_⟩
  · show 0 < m / _
    have e : (m / ((Nat.gcd n.natAbs m.natAbs : Nat) : Int)).natAbs = m.natAbs / Nat.gcd n.natAbs m.natAbs := natAbs_div d2
    have p1 : 0 < m.natAbs / Nat.gcd n.natAbs m.natAbs := Nat.div_pos (Nat.le_of_dvd (by omega) d2) hg
    have p2 : 0 ≤ m / ((Nat.gcd n.natAbs m.natAbs : Nat) : Int) := Int.ediv_nonneg (by omega) (by omega)
    omega
  · show Nat.gcd (n / _).natAbs (m / _).natAbs = 1
    rw [natAbs_div d1, natAbs_div d2]
    rw [Nat.gcd_div d1 d2, Nat.div_self hg]
theorem redI_le (n m : Int) : (redI n m).1.natAbs ≤ n.natAbs ∧ (redI n m).2.natAbs ≤ m.natAbs := ⟨Int.natAbs_ediv_le_natAbs _ _, Int.natAbs_ediv_le_natAbs _ _⟩
theorem redI_one (n : Int) : redI n 1 = (n, 1) := by
  have : isFr (n, 1) := ⟨by show (0 : Int) < 1; decide, by simp⟩
  exact redI_self this
theorem addP_comm (p q : Int × Int) : addP p q = addP q p := by
  unfold addP
  rw [Int.add_comm, Int.mul_comm p.2 q.2]
theorem isFr_zero {p : Int × Int} (h : isFr p) (z : p.1 = 0) : p.2 = 1 := by
  obtain ⟨h1, h2⟩ := h
  rw [z] at h2
  simp at h2
  omega
theorem addP_zero_left {p q : Int × Int} (hp : isFr p) (hq : isFr q) (z : p.1 = 0) : addP p q = q := by
  have o := isFr_zero hp z
  unfold addP
  rw [z, o]
  simp
  exact redI_self hq
theorem mul_lt {i j : Int} {a b : Nat} (h1 : i.natAbs < 2 ^ a) (h2 : j.natAbs < 2 ^ b) : (i * j).natAbs < 2 ^ (a + b) := by
  rw [Int.natAbs_mul, Nat.pow_add]
  exact Nat.mul_lt_mul'' h1 h2
theorem add_lt {i j : Int} {a : Nat} (h1 : i.natAbs < 2 ^ a) (h2 : j.natAbs < 2 ^ a) : (i + j).natAbs < 2 ^ (a + 1) := by
  have : 2 ^ (a + 1) = 2 ^ a + 2 ^ a := by rw [Nat.pow_succ]; omega
  rw [this]
  omega
theorem Sm.mul {p q : Int × Int} {a b : Nat} (h1 : Sm a p) (h2 : Sm b q) : Sm (a + b) (mulP p q) :=
  ⟨Nat.lt_of_le_of_lt (redI_le _ _).1 (mul_lt h1.1 h2.1), Nat.lt_of_le_of_lt (redI_le _ _).2 (mul_lt h1.2 h2.2)⟩
theorem log_of {i : Int} {k : Nat} (h : i.natAbs < 2 ^ k) (hk : 0 < k) : i.natAbs.log2 < k := by
  by_cases z : i.natAbs = 0
  · rw [z]; simpa using hk
  · exact (Nat.log2_lt z).mpr h
theorem mulOk_of {i j : Int} {a b : Nat} (h1 : i.natAbs < 2 ^ a) (h2 : j.natAbs < 2 ^ b) (ha : 0 < a ∧ a ≤ 2000) (hb : 0 < b ∧ b ≤ 2000) : mulOk i j = true := by
  have := log_of h1 ha.1
  have := log_of h2 hb.1
  unfold mulOk
  exact decide_eq_true (by omega)
theorem div_pos {n : Int} {g : Nat} (h : 0 < g) : n.fdiv (g : Int) = n / (g : Int) := Int.fdiv_eq_ediv_of_nonneg _ (by omega)
theorem noPy_gcd {x n m : Int} {a : Nat} (h : 0 < m) (hm : m.natAbs < 2 ^ a) (ha : 0 < a ∧ a ≤ 4000) : Builtin.divisionGoesByPylong x ((Nat.gcd n.natAbs m.natAbs : Nat) : Int) = false := by
  refine PyProof.noPylong_of_log2 ?_
  have l : Nat.gcd n.natAbs m.natAbs ≤ m.natAbs := Nat.le_of_dvd (by omega) (Nat.gcd_dvd_right _ _)
  have := log_of (i := ((Nat.gcd n.natAbs m.natAbs : Nat) : Int)) (k := a) (by simpa using Nat.lt_of_le_of_lt l hm) ha.1
  omega
section
variable {μ : Sto} {Q : D × Sto → Prop}
theorem reduced_ok {n m : Int} {a : Nat} (h : 0 < m) (hm : m.natAbs < 2 ^ a) (ha : 0 < a ∧ a ≤ 4000) (q : Q (frD (redI n m), μ)) : Wp (F_reduced [.int n, .int m] μ) Q := by
  have hg := gcd_pos (n := n) h
  have np : ∀ x : Int, Builtin.divisionGoesByPylong x ((Nat.gcd n.natAbs m.natAbs : Nat) : Int) = false := fun x => noPy_gcd h hm ha
  have nz : ¬ (((Nat.gcd n.natAbs m.natAbs : Nat) : Int) = 0) := by omega
  have nl : ¬ m < 0 := by omega
  unfold F_reduced
  simp_arith [cGcd, opCmp, nl, decide_false, opFdiv, nz, np, sizeLine_eq, Nat.reduceLeDiff, div_pos hg]
  exact q
theorem ratio_ok {n m : Int} {a : Nat} (h : 0 < m) (hm : m.natAbs < 2 ^ a) (ha : 0 < a ∧ a ≤ 4000) (q : Q (frD (redI n m), μ)) : Wp (F_law_ratio [.int n, .int m] μ) Q := by
  have hg := gcd_pos (n := n) h
  have np : ∀ x : Int, Builtin.divisionGoesByPylong x ((Nat.gcd n.natAbs m.natAbs : Nat) : Int) = false := fun x => noPy_gcd h hm ha
  have nz : ¬ (((Nat.gcd n.natAbs m.natAbs : Nat) : Int) = 0) := by omega
  unfold F_law_ratio
  simp_arith []
  refine common_ok ?_
  simp_arith [opCmp, h, decide_true, opFdiv, nz, np, sizeLine_eq, Nat.reduceLeDiff, div_pos hg]
  exact q
theorem times_ok {p r : Int × Int} (hp : isFr p) (hr : isFr r) (sp : Sm 1000 p) (sr : Sm 1000 r) (q : Q (frD (mulP p r), μ)) : Wp (F_times [frD p, frD r] μ) Q := by
  have m1 : mulOk p.1 r.1 = true := mulOk_of sp.1 sr.1 (by decide) (by decide)
  have m2 : mulOk p.2 r.2 = true := mulOk_of sp.2 sr.2 (by decide) (by decide)
  unfold F_times frD
  simp_arith [opIx, atI_0, atI_1, opMul, m1, m2]
  exact reduced_ok (Int.mul_pos hp.1 hr.1) (mul_lt sp.2 sr.2) (by decide) q
theorem plus_ok {p r : Int × Int} (hp : isFr p) (hr : isFr r) (sp : Sm 1000 p) (sr : Sm 1000 r) (q : Q (frD (addP p r), μ)) : Wp (F_plus [frD p, frD r] μ) Q := by
  have m1 : mulOk p.1 r.2 = true := mulOk_of sp.1 sr.2 (by decide) (by decide)
  have m2 : mulOk r.1 p.2 = true := mulOk_of sr.1 sp.2 (by decide) (by decide)
  have m3 : mulOk p.2 r.2 = true := mulOk_of sp.2 sr.2 (by decide) (by decide)
  unfold F_plus frD
  simp_arith [opIx, atI_0, atI_1, eq_int, opMul, m1, m2, m3, opAdd]
  refine ⟨fun z => ?_, fun _ => ⟨fun z => ?_, fun _ => ?_⟩⟩
  · rw [addP_zero_left hp hr z] at q; exact q
  · rw [addP_comm, addP_zero_left hr hp z] at q; exact q
  · exact reduced_ok (Int.mul_pos hp.1 hr.1) (mul_lt sp.2 sr.2) (by decide) q
theorem lproduct_ok {p r : Int × Int} (hp : isFr p) (hr : isFr r) (sp : Sm 1000 p) (sr : Sm 1000 r) (q : Q (frD (mulP p r), μ)) : Wp (F_law_product [frD p, frD r] μ) Q := by
  have m1 : mulOk p.1 r.1 = true := mulOk_of sp.1 sr.1 (by decide) (by decide)
  have m2 : mulOk p.2 r.2 = true := mulOk_of sp.2 sr.2 (by decide) (by decide)
  have last : Wp (F_law_ratio [.int (p.1 * r.1), .int (p.2 * r.2)] μ) Q := ratio_ok (Int.mul_pos hp.1 hr.1) (mul_lt sp.2 sr.2) (by decide) q
  unfold F_law_product frD
  simp_arith [opIx, atI_0, atI_1, eq_int, opMul, m1, m2, sizeLine_eq, Nat.reduceLeDiff]
  by_cases z1 : p.2 = 1
  · by_cases z2 : r.2 = 1
    · have e : mulP p r = (p.1 * r.1, 1) := by unfold mulP; rw [z1, z2, Int.one_mul, redI_one]
      rw [e] at q
      simp_arith [z1, z2, decide_true]
      exact q
    · simp_arith [z1, z2, decide_true, decide_false]
      rw [z1] at last
      exact last
  · simp_arith [z1, decide_false]
    exact last
theorem lsum_ok {p r : Int × Int} (hp : isFr p) (hr : isFr r) (sp : Sm 1000 p) (sr : Sm 1000 r) (q : Q (frD (addP p r), μ)) : Wp (F_law_sum [frD p, frD r] μ) Q := by
  have m1 : mulOk p.1 r.2 = true := mulOk_of sp.1 sr.2 (by decide) (by decide)
  have m2 : mulOk r.1 p.2 = true := mulOk_of sr.1 sp.2 (by decide) (by decide)
  have m3 : mulOk p.2 r.2 = true := mulOk_of sp.2 sr.2 (by decide) (by decide)
  have last : Wp (F_law_ratio [.int (p.1 * r.2 + r.1 * p.2), .int (p.2 * r.2)] μ) Q := ratio_ok (Int.mul_pos hp.1 hr.1) (mul_lt sp.2 sr.2) (by decide) q
  unfold F_law_sum frD
  simp_arith [opIx, atI_0, atI_1, eq_int, opMul, m1, m2, m3, opAdd, sizeLine_eq, Nat.reduceLeDiff]
  by_cases z1 : p.2 = 1
  · by_cases z2 : r.2 = 1
    · have e : addP p r = (p.1 + r.1, 1) := by unfold addP; rw [z1, z2, Int.mul_one, Int.mul_one, Int.one_mul, redI_one]
      rw [e] at q
      simp_arith [z1, z2, decide_true]
      exact q
    · simp_arith [z1, z2, decide_true, decide_false]
      rw [z1] at last
      exact last
  · simp_arith [z1, decide_false]
    exact last
end
end K37
namespace K37
open PySem PySem.Spec PyProof.Rows L2 DL
/-! ### tables of fractions -/
def gridP (a b c d : Int × Int) : Bool := decide (addP (mulP a a) (mulP c c) = addP (mulP b b) (mulP d d)) && (decide ((addP (mulP a a) (mulP c c)).1 ≠ 0) && decide ((addP (mulP a b) (mulP c d)).1 = 0))
def gridD : D → Bool
  | .tup [.tup [a, b], .tup [c, d]] => (fracD a && (fracD b && (fracD c && fracD d))) && gridP (frP a) (frP b) (frP c) (frP d)
  | _ => false
theorem okD_int {μ : Sto} {i : Int} (h : OkD μ (.int i)) : i.natAbs < 2 ^ 70 := by
  have : i.natAbs < 1180591620717411303424 := h
  exact this
theorem pow_le {a b n : Nat} (h : n < 2 ^ a) (l : a ≤ b) : n < 2 ^ b := Nat.lt_of_lt_of_le h (Nat.pow_le_pow_right (by decide) l)
theorem Sm.le {p : Int × Int} {a b : Nat} (h : Sm a p) (l : a ≤ b) : Sm b p := ⟨pow_le h.1 l, pow_le h.2 l⟩
theorem fr_ok {μ : Sto} {d : D} (h : OkD μ d) (f : fracD d = true) : ∃ p, d = frD p ∧ frP d = p ∧ isFr p ∧ Sm 70 p := by
  obtain ⟨n, m, rfl, h1, h2⟩ := frac_iff f
  exact ⟨(n, m), rfl, rfl, ⟨h1, h2⟩, okD_int h.2.1, okD_int h.2.2.1⟩
theorem mulP_fr {p q : Int × Int} (hp : isFr p) (hq : isFr q) : isFr (mulP p q) := redI_fr (Int.mul_pos hp.1 hq.1)
theorem addP_fr {p q : Int × Int} (hp : isFr p) (hq : isFr q) : isFr (addP p q) := redI_fr (Int.mul_pos hp.1 hq.1)
theorem frD_eq {p q : Int × Int} {μ : Sto} : opEqM (frD p) (frD q) μ = some (.bl (decide (p = q)), μ) := by
  have e : rcD μ 60 (frD p) (frD q) = some ((p.1 == q.1 && (p.2 == q.2 && true)) && true) := rfl
  obtain ⟨p1, p2⟩ := p
  obtain ⟨q1, q2⟩ := q
  have e2 : opEqM (frD (p1, p2)) (frD (q1, q2)) μ = opEq (frD (p1, p2)) (frD (q1, q2)) μ := rfl
  rw [e2]
  simp only [opEq, e, Option.map_some]
  congr 3
  by_cases h1 : p1 = q1
  · by_cases h2 : p2 = q2
    · simp [h1, h2]
    · simp [h1, h2]
  · simp [h1]
theorem frD_ne0 {p : Int × Int} {μ : Sto} (h : isFr p) : opNe (frD p) (.tup [.int 0, .int 1]) μ = some (.bl (decide (p.1 ≠ 0)), μ) := ne_zero h.1 h.2
theorem frD_eq0 {p : Int × Int} {μ : Sto} (h : isFr p) : opEqM (frD p) (.tup [.int 0, .int 1]) μ = some (.bl (decide (p.1 = 0)), μ) := by
  have e : (.tup [.int 0, .int 1] : D) = frD (0, 1) := rfl
  rw [e, frD_eq]
  congr 3
  obtain ⟨p1, p2⟩ := p
  by_cases z : p1 = 0
  · have := isFr_zero h z
    simp at this
    simp [z, this]
  · simp [z]
section
variable {μ : Sto} {d : D} {Q : D × Sto → Prop}
theorem sop_ok {a b c e : Int × Int} (ha : isFr a) (hb : isFr b) (hc : isFr c) (he : isFr e) (sa : Sm 70 a) (sb : Sm 70 b) (sc : Sm 70 c) (se : Sm 70 e) (q : Q (frD (addP (mulP a b) (mulP c e)), μ)) :
    Wp (F_sum_of_products [frD a, frD b, frD c, frD e] μ) Q := by
  unfold F_sum_of_products
  simp_arith []
  refine times_ok ha hb (sa.le (by decide)) (sb.le (by decide)) ?_
  refine times_ok hc he (sc.le (by decide)) (se.le (by decide)) ?_
  exact plus_ok (mulP_fr ha hb) (mulP_fr hc he) ((sa.mul sb).le (by decide)) ((sc.mul se).le (by decide)) q
theorem app_at {x : Ob} : (μ ++ [x])[μ.length]? = some x := by simp
theorem app_set {x y : Ob} : (μ ++ [x]).set μ.length y = μ ++ [y] := by simp
theorem grid_no : ∀ d : D, (∀ a b, d ≠ .tup [a, b]) → gridD d = false := fun d h => by
  unfold gridD
  split
  · exact absurd rfl (h _ _)
  · rfl
theorem grid_no1 {x y : D} (h : pairB x = false ∨ pairB y = false) : gridD (.tup [x, y]) = false := by
  unfold gridD
  split
  · rename_i e
    cases e
    rcases h with h | h <;> cases h
  · rfl
theorem comp_ok {a b c e : D} (ha : OkD μ a) (hb : OkD μ b) (hc : OkD μ c) (he : OkD μ e) : fLc2 (iVal (fVar 0)) (gNm 8) fYes (iVal (fVar 8)) (gNm 9) fYes (fCB F_is_fraction (fCons (fVar 9) fNil)) [8, 9] [9] [some (D.tup [.tup [a, b], .tup [c, e]]), none, none, none, none, none, none, none, none, none] μ = some (.loc μ.length, μ ++ [.lst [.bl (fracD a), .bl (fracD b), .bl (fracD c), .bl (fracD e)]]) := by
  have up : ∀ {z : D} {o : Ob}, OkD μ z → OkD (μ ++ [o]) z := fun w => OkD.gr Gr.app _ w
  have fr : ∀ {z : D} {μ' : Sto}, OkD μ' z → F_is_fraction [z] μ' = some (.bl (fracD z), μ') := fun w => by
    obtain ⟨r, e1, e2⟩ := frac_ok (Q := fun p => p = (.bl (fracD _), _)) w rfl
    rw [e1, e2]
  simp only [fLc2, iVal, fVar, List.getElem?_cons_zero, Option.bind_some, itLen, List.length_cons, List.length_nil, Nat.zero_add, wipeD, List.set_cons_succ, List.set_cons_zero, lcF2, itAt, gNm, fYes, if_true, List.getElem?_cons_succ, lcF, fCB, fCons, fNil,
    fr (up ha), fr (up hb), fr (up hc), fr (up he), app_at, app_set, sizeLine_eq, List.nil_append, List.cons_append, Nat.reduceLT, Nat.reduceAdd, Option.map_some, List.getElem?_nil]
theorem last_table_ok (h : OkD μ d) (q : ∀ μ', Gr μ μ' → Q (.bl (gridD d), μ')) : Wp (F_is_last_table [d] μ) Q := by
  unfold F_is_last_table
  simp_arith []
  refine pair_ok h ?_
  cases e0 : pairB d with
  | false =>
    rw [grid_no d fun a b z => by subst z; cases e0] at q
    simp_arith []
    exact q μ Gr.refl
  | true =>
    obtain ⟨x, y, rfl⟩ := pair_iff e0
    have hx : OkD μ x := h.2.1
    have hy : OkD μ y := h.2.2.1
    simp_arith [opIx, atI_0, atI_1]
    refine pair_ok hx ?_
    cases ex : pairB x with
    | false =>
      rw [grid_no1 (.inl ex)] at q
      simp_arith []
      exact q μ Gr.refl
    | true =>
      obtain ⟨a, b, rfl⟩ := pair_iff ex
      simp_arith [opIx, atI_0, atI_1]
      refine pair_ok hy ?_
      cases ey : pairB y with
      | false =>
        rw [grid_no1 (.inr ey)] at q
        simp_arith []
        exact q μ Gr.refl
      | true =>
        obtain ⟨c, e, rfl⟩ := pair_iff ey
        have ha : OkD μ a := hx.2.1
        have hb : OkD μ b := hx.2.2.1
        have hc : OkD μ c := hy.2.1
        have he : OkD μ e := hy.2.2.1
        simp_arith []
        refine Wp.of (comp_ok ha hb hc he) ?_
        have l1 : (lstAt (μ ++ [Ob.lst [.bl (fracD a), .bl (fracD b), .bl (fracD c), .bl (fracD e)]]) μ.length).bind blsOf = some [fracD a, fracD b, fracD c, fracD e] := by
          have : lstAt (μ ++ [Ob.lst [.bl (fracD a), .bl (fracD b), .bl (fracD c), .bl (fracD e)]]) μ.length = some [.bl (fracD a), .bl (fracD b), .bl (fracD c), .bl (fracD e)] := lstAt_lst app_at
          rw [this]; rfl
        simp_arith [cAll, l1]
        have z : gridD (.tup [.tup [a, b], .tup [c, e]]) = ((fracD a && (fracD b && (fracD c && fracD e))) && gridP (frP a) (frP b) (frP c) (frP e)) := rfl
        rw [z] at q
        have g : Gr μ (μ ++ [Ob.lst [.bl (fracD a), .bl (fracD b), .bl (fracD c), .bl (fracD e)]]) := Gr.app
        cases fa : fracD a with
        | false => rw [fa] at q g; simp_arith [List.all_cons, Bool.false_and]; exact q _ g
        | true =>
        cases fb : fracD b with
        | false => rw [fa, fb] at q g; simp_arith [List.all_cons, Bool.false_and, Bool.true_and]; exact q _ g
        | true =>
        cases fc : fracD c with
        | false => rw [fa, fb, fc] at q g; simp_arith [List.all_cons, Bool.false_and, Bool.true_and]; exact q _ g
        | true =>
        cases fe : fracD e with
        | false => rw [fa, fb, fc, fe] at q g; simp_arith [List.all_cons, Bool.false_and, Bool.true_and]; exact q _ g
        | true =>
        rw [fa, fb, fc, fe] at q g
        obtain ⟨pa, rfl, ea, ia, sa⟩ := fr_ok ha fa
        obtain ⟨pb, rfl, eb, ib, sb⟩ := fr_ok hb fb
        obtain ⟨pc, rfl, ec, ic, sc⟩ := fr_ok hc fc
        obtain ⟨pe, rfl, ee, ie, se⟩ := fr_ok he fe
        rw [ea, eb, ec, ee] at q
        simp_arith [List.all_cons, List.all_nil, Bool.true_and]
        refine sop_ok ia ia ic ic sa sa sc sc ?_
        refine sop_ok ib ib ie ie sb sb se se ?_
        refine sop_ok ia ib ic ie sa sb sc se ?_
        have i1 := addP_fr (mulP_fr ia ia) (mulP_fr ic ic)
        have i3 := addP_fr (mulP_fr ia ib) (mulP_fr ic ie)
        have z2 : gridP pa pb pc pe = (decide (addP (mulP pa pa) (mulP pc pc) = addP (mulP pb pb) (mulP pe pe)) && (decide ((addP (mulP pa pa) (mulP pc pc)).1 ≠ 0) && decide ((addP (mulP pa pb) (mulP pc pe)).1 = 0))) := rfl
        rw [z2] at q
        simp_arith [frD_eq, frD_ne0 i1, frD_eq0 i3]
        refine ⟨fun c1 => ⟨fun c2 => ?_, fun c2 => ?_⟩, fun c1 => ?_⟩
        · have := q _ g
          rw [decide_eq_true c1, decide_eq_true (show _ ≠ _ from c2)] at this
          exact this
        · have := q _ g
          rw [decide_eq_true c1, decide_eq_false (show ¬ (_ ≠ _) from fun w => w (Decidable.not_not.mp fun v => w (by simpa using c2)))] at this
          exact this
        · have := q _ g
          rw [decide_eq_false c1] at this
          exact this
end
end K37
namespace K37
open PySem PySem.Spec PyProof.Rows L2 DL
/-! ### loops, a turn at a time -/
theorem loop_end {g : GF} {b : SF} {it : ItD} {m i : Nat} {ρ : Sl} {μ : Sto} {Q : Out → Prop} (h : itAt it i μ = some none) (q : Q (.nx ρ μ)) : Wp (loopF g b it m i ρ μ) Q := by
  refine Wp.of (a := .nx ρ μ) ?_ q
  cases m <;> (unfold loopF; simp only [h])
theorem loop_step {g : GF} {b : SF} {it : ItD} {m i : Nat} {ρ : Sl} {μ : Sto} {d : D} {Q : Out → Prop} (h : itAt it i μ = some (some d))
    (q : Wp ((g d ρ μ).bind fun p => b p.1 p.2) fun o => match o with
      | .nx ρ2 μ2 => Wp (loopF g b it m (i + 1) ρ2 μ2) Q
      | .ct ρ2 μ2 => Wp (loopF g b it m (i + 1) ρ2 μ2) Q
      | .bk ρ2 μ2 => Q (.nx ρ2 μ2)
      | .rt d μ2 => Q (.rt d μ2)) : Wp (loopF g b it (m + 1) i ρ μ) Q := by
  obtain ⟨o, e, q⟩ := q
  obtain ⟨p, e1, e2⟩ := Option.bind_eq_some_iff.mp e
  cases o with
  | nx ρ2 μ2 =>
    obtain ⟨r, e3, q⟩ := q
    exact ⟨r, by unfold loopF; simp only [h, e1, Option.bind_some, e2, e3], q⟩
  | ct ρ2 μ2 =>
    obtain ⟨r, e3, q⟩ := q
    exact ⟨r, by unfold loopF; simp only [h, e1, Option.bind_some, e2, e3], q⟩
  | bk ρ2 μ2 => exact ⟨_, by unfold loopF; simp only [h, e1, Option.bind_some, e2], q⟩
  | rt d μ2 => exact ⟨_, by unfold loopF; simp only [h, e1, Option.bind_some, e2], q⟩
theorem gNm_bind {b : SF} {k : Nat} {d : D} {ρ : Sl} {μ : Sto} {R : Out → Prop} (h : Wp (b (ρ.set k (some d)) μ) R) : Wp ((gNm k d ρ μ).bind fun p => b p.1 p.2) R := h
def sideD : D → Bool
  | .tup [a, b] => fracD a && fracD b
  | _ => false
theorem side_no : ∀ d : D, (∀ a b, d ≠ .tup [a, b]) → sideD d = false := fun d h => by
  unfold sideD
  split
  · exact absurd rfl (h _ _)
  · rfl
theorem grid_side {x y : D} (h : sideD x = false ∨ sideD y = false) : gridD (.tup [x, y]) = false := by
  unfold gridD
  split
  · rename_i a b c d e
    cases e
    have e1 : sideD (.tup [a, b]) = (fracD a && fracD b) := rfl
    have e2 : sideD (.tup [c, d]) = (fracD c && fracD d) := rfl
    rw [e1, e2] at h
    cases h1 : fracD a <;> cases h2 : fracD b <;> cases h3 : fracD c <;> cases h4 : fracD d <;> simp_all
  · rfl
section
variable {μ : Sto} {d : D} {Q : D × Sto → Prop}
theorem sq_nonneg (p : Int × Int) (h : isFr p) : 0 ≤ (mulP p p).1 := by
  show 0 ≤ _ / _
  exact Int.ediv_nonneg (by
    by_cases z : 0 ≤ p.1
    · exact Int.mul_nonneg z z
    · exact Int.mul_nonneg_of_nonpos_of_nonpos (by omega) (by omega)) (by omega)
theorem add_nonneg {p q : Int × Int} (hp : isFr p) (hq : isFr q) (h1 : 0 ≤ p.1) (h2 : 0 ≤ q.1) : 0 ≤ (addP p q).1 := by
  show 0 ≤ _ / _
  exact Int.ediv_nonneg (Int.add_nonneg (Int.mul_nonneg h1 (Int.le_of_lt hq.1)) (Int.mul_nonneg h2 (Int.le_of_lt hp.1))) (by omega)
theorem side_body {x : D} {ρ : Sl} {R : Out → Prop} (hx : OkD μ x) (h1 : ρ[1]? = some (some x)) (q1 : sideD x = true → R (.nx ρ μ)) (q2 : sideD x = false → R (.rt (.bl false) μ)) :
    Wp (fIfS (fOr (fNot (fT (fCB cIsi (fCons (fVar 1) (fCons (fC (.ty "tuple")) fNil))))) (fOr (fB (fBin opNe (fCB cLen (fCons (fVar 1) fNil)) (fC (.int 2)))) (fOr (fNot (fT (fCB F_law_is_fraction (fCons (fBin opIx (fVar 1) (fC (.int 0))) fNil)))) (fNot (fT (fCB F_law_is_fraction (fCons (fBin opIx (fVar 1) (fC (.int 1))) fNil))))))) (fRet (fC (.bl false))) fSkip ρ μ) R := by
  simp_arith [h1]
  refine isi_tup hx ?_
  cases e : tupB x with
  | false =>
    simp_arith []
    exact q2 (side_no x fun a b z => by subst z; cases e)
  | true =>
    obtain ⟨ds, rfl⟩ := tupB_iff e
    simp_arith [cLen, show (2 : Int) = ((2 : Nat) : Int) from rfl, ne_len]
    by_cases hl : ds.length = 2
    · obtain ⟨a, b, rfl⟩ := len2 hl
      have ha : OkD μ a := hx.2.1
      have hb : OkD μ b := hx.2.2.1
      have e1 : sideD (.tup [a, b]) = (fracD a && fracD b) := rfl
      rw [e1] at q1 q2
      simp_arith [opIx, atI_0, atI_1, decide_false, h1]
      refine lfrac_ok ha ?_
      cases fa : fracD a with
      | false => rw [fa] at q2; simp_arith []; exact q2 rfl
      | true =>
        simp_arith [opIx, atI_0, atI_1, h1]
        refine lfrac_ok hb ?_
        cases fb : fracD b with
        | false => rw [fa, fb] at q2; simp_arith []; exact q2 rfl
        | true => rw [fa, fb] at q1; simp_arith []; exact q1 rfl
    · simp_arith [hl, decide_true]
      exact q2 (side_no _ fun a b z => hl (by cases z; rfl))
theorem lgrid_ok (h : OkD μ d) (q : Q (.bl (gridD d), μ)) : Wp (F_law_is_grid [d] μ) Q := by
  unfold F_law_is_grid
  simp_arith []
  refine isi_tup h ?_
  cases e0 : tupB d with
  | false =>
    rw [grid_no d fun a b z => by subst z; cases e0] at q
    simp_arith []
    exact q
  | true =>
    obtain ⟨ds, rfl⟩ := tupB_iff e0
    simp_arith [cLen, show (2 : Int) = ((2 : Nat) : Int) from rfl, ne_len]
    by_cases hl : ds.length = 2
    · obtain ⟨x, y, rfl⟩ := len2 hl
      have hx : OkD μ x := h.2.1
      have hy : OkD μ y := h.2.2.1
      simp_arith [decide_false, iVal, itLen]
      refine loop_step rfl ?_
      refine gNm_bind (side_body hx (by rfl) (fun sx => ?_) (fun sx => ?_))
      · simp_arith []
        refine loop_step rfl ?_
        refine gNm_bind (side_body hy (by rfl) (fun sy => ?_) (fun sy => ?_))
        · simp_arith []
          refine loop_end rfl ?_
          obtain ⟨a, b, rfl⟩ : ∃ a b, x = .tup [a, b] := by
            unfold sideD at sx
            split at sx
            · exact ⟨_, _, rfl⟩
            · cases sx
          obtain ⟨c, e, rfl⟩ : ∃ a b, y = .tup [a, b] := by
            unfold sideD at sy
            split at sy
            · exact ⟨_, _, rfl⟩
            · cases sy
          obtain ⟨fa, fb⟩ : fracD a = true ∧ fracD b = true := by simpa [sideD] using sx
          obtain ⟨fc, fe⟩ : fracD c = true ∧ fracD e = true := by simpa [sideD] using sy
          have z : gridD (.tup [.tup [a, b], .tup [c, e]]) = ((fracD a && (fracD b && (fracD c && fracD e))) && gridP (frP a) (frP b) (frP c) (frP e)) := rfl
          rw [z, fa, fb, fc, fe] at q
          obtain ⟨pa, rfl, ea, ia, sa⟩ := fr_ok hx.2.1 fa
          obtain ⟨pb, rfl, eb, ib, sb⟩ := fr_ok hx.2.2.1 fb
          obtain ⟨pc, rfl, ec, ic, sc⟩ := fr_ok hy.2.1 fc
          obtain ⟨pe, rfl, ee, ie, se⟩ := fr_ok hy.2.2.1 fe
          rw [ea, eb, ec, ee] at q
          have a1 : Sm 140 (mulP pa pa) := sa.mul sa
          have a2 : Sm 140 (mulP pc pc) := sc.mul sc
          have a3 : Sm 140 (mulP pb pb) := sb.mul sb
          have a4 : Sm 140 (mulP pe pe) := se.mul se
          have a5 : Sm 140 (mulP pa pb) := sa.mul sb
          have a6 : Sm 140 (mulP pc pe) := sc.mul se
          simp_arith [opIx, atI_0, atI_1, sizeLine_eq, Nat.reduceLeDiff]
          refine lproduct_ok ia ia (sa.le (by decide)) (sa.le (by decide)) ?_
          refine lproduct_ok ic ic (sc.le (by decide)) (sc.le (by decide)) ?_
          refine lsum_ok (mulP_fr ia ia) (mulP_fr ic ic) (a1.le (by decide)) (a2.le (by decide)) ?_
          refine lproduct_ok ib ib (sb.le (by decide)) (sb.le (by decide)) ?_
          refine lproduct_ok ie ie (se.le (by decide)) (se.le (by decide)) ?_
          refine lsum_ok (mulP_fr ib ib) (mulP_fr ie ie) (a3.le (by decide)) (a4.le (by decide)) ?_
          have nn := add_nonneg (mulP_fr ia ia) (mulP_fr ic ic) (sq_nonneg pa ia) (sq_nonneg pc ic)
          have z2 : gridP pa pb pc pe = (decide (addP (mulP pa pa) (mulP pc pc) = addP (mulP pb pb) (mulP pe pe)) && (decide ((addP (mulP pa pa) (mulP pc pc)).1 ≠ 0) && decide ((addP (mulP pa pb) (mulP pc pe)).1 = 0))) := rfl
          rw [z2] at q
          simp_arith [frD_eq]
          refine ⟨fun c1 => ?_, fun c1 => ?_⟩
          · unfold frD
            simp_arith [opIx, atI_0, opCmp]
            rw [decide_eq_true c1, Bool.true_and] at q
            refine ⟨fun c2 => ?_, fun c2 => ?_⟩
            · rw [decide_eq_true (show (addP (mulP pa pa) (mulP pc pc)).1 ≠ 0 by omega)] at q
              refine lproduct_ok ia ib (sa.le (by decide)) (sb.le (by decide)) ?_
              refine lproduct_ok ic ie (sc.le (by decide)) (se.le (by decide)) ?_
              refine lsum_ok (mulP_fr ia ib) (mulP_fr ic ie) (a5.le (by decide)) (a6.le (by decide)) ?_
              unfold frD
              simp_arith [opIx, atI_0, eq_int]
              exact q
            · rw [decide_eq_false (show ¬ (addP (mulP pa pa) (mulP pc pc)).1 ≠ 0 by omega)] at q
              exact q
          · rw [decide_eq_false c1] at q
            exact q
        · simp_arith []
          rw [grid_side (.inr sy)] at q
          exact q
      · simp_arith []
        rw [grid_side (.inl sx)] at q
        exact q
    · rw [grid_no _ fun a b z => hl (by cases z; rfl)] at q
      simp_arith [hl, decide_true]
      exact q
end
end K37
namespace K37
open PySem PySem.Spec PyProof.Rows L2 DL
/-! ### directions -/
def wayD : D → Bool
  | .tup [.int p, .int q] => decide (Nat.gcd p.natAbs q.natAbs = 1) && (if p = 0 then decide (0 < q) else decide (0 < p))
  | _ => false
theorem way_no : ∀ d : D, (∀ a b, d ≠ .tup [a, b]) → wayD d = false := fun d h => by
  unfold wayD
  split
  · exact absurd rfl (h _ _)
  · rfl
theorem way_nw {a b : D} (h : ¬ (wholeB a = true ∧ wholeB b = true)) : wayD (.tup [a, b]) = false := by
  cases a <;> cases b <;> first | rfl | exact absurd ⟨rfl, rfl⟩ h
theorem way_iff {d : D} (h : wayD d = true) : ∃ p q : Int, d = .tup [.int p, .int q] := by
  unfold wayD at h
  split at h
  · exact ⟨_, _, rfl⟩
  · cases h
/-- whether two directions stand not at right angles -/
def acrB : D → D → Bool
  | .tup [.int p, .int q], .tup [.int r, .int s] => decide (p * r + q * s ≠ 0)
  | _, _ => true
def sepB (ws : List D) : Bool := (List.range (ws.length - 1)).all fun i => acrB (ws.getD i .non) (ws.getD (i + 1) .non)
theorem sepB_false {ws : List D} {i : Nat} {a b : D} (h1 : ws[i]? = some a) (h2 : ws[i + 1]? = some b) (h : acrB a b = false) : sepB ws = false := by
  refine Bool.eq_false_iff.mpr fun z => ?_
  have l : i + 1 < ws.length := (List.getElem?_eq_some_iff.mp h2).1
  have := List.all_eq_true.mp z i (List.mem_range.mpr (by omega))
  rw [List.getD_eq_getElem?_getD, List.getD_eq_getElem?_getD, h1, h2] at this
  simp only [Option.getD_some, h] at this
  cases this
theorem sepB_true {ws : List D} (h : ∀ i a b, ws[i]? = some a → ws[i + 1]? = some b → acrB a b = true) : sepB ws = true := by
  refine List.all_eq_true.mpr fun i hi => ?_
  have l : i + 1 < ws.length := by have := List.mem_range.mp hi; omega
  rw [List.getD_eq_getElem?_getD, List.getD_eq_getElem?_getD, List.getElem?_eq_getElem (show i < ws.length by omega), List.getElem?_eq_getElem l]
  exact h i _ _ (List.getElem?_eq_getElem _) (List.getElem?_eq_getElem l)
section
variable {μ : Sto} {d : D} {Q : D × Sto → Prop}
theorem gt_pair {p q : Int} : opGtT (.tup [.int p, .int q]) (.tup [.int 0, .int 0]) μ = some (.bl (if p = 0 then decide (0 < q) else decide (0 < p)), μ) := rfl
theorem gcd1 {p q : Int} : decide (((Nat.gcd p.natAbs q.natAbs : Nat) : Int) = 1) = decide (Nat.gcd p.natAbs q.natAbs = 1) := by
  by_cases z : Nat.gcd p.natAbs q.natAbs = 1
  · simp [z]
  · have : ¬ ((Nat.gcd p.natAbs q.natAbs : Nat) : Int) = 1 := by omega
    simp [z, this]
theorem direction_ok (h : OkD μ d) (q : Q (.bl (wayD d), μ)) : Wp (F_is_direction [d] μ) Q := by
  unfold F_is_direction
  simp_arith []
  refine pair_ok h ?_
  cases e : pairB d with
  | false =>
    rw [way_no d fun a b z => by subst z; cases e] at q
    simp_arith []
    exact q
  | true =>
    obtain ⟨a, b, rfl⟩ := pair_iff e
    simp_arith [opIx, atI_0, atI_1]
    refine whole_ok h.2.1 ?_
    cases ea : wholeB a with
    | false =>
      rw [way_nw fun z => by rw [ea] at z; cases z.1] at q
      simp_arith []
      exact q
    | true =>
      obtain ⟨x, rfl⟩ := wholeB_iff ea
      simp_arith [opIx, atI_0, atI_1]
      refine whole_ok h.2.2.1 ?_
      cases eb : wholeB b with
      | false =>
        rw [way_nw fun z => by rw [eb] at z; cases z.2] at q
        simp_arith []
        exact q
      | true =>
        obtain ⟨y, rfl⟩ := wholeB_iff eb
        have z : wayD (.tup [.int x, .int y]) = (decide (Nat.gcd x.natAbs y.natAbs = 1) && (if x = 0 then decide (0 < y) else decide (0 < x))) := rfl
        rw [z] at q
        simp_arith [opIx, atI_0, atI_1, cGcd, eq_int, sizeLine_eq, Nat.reduceLeDiff, gt_pair]
        rw [← gcd1] at q
        refine ⟨fun c => ?_, fun c => ?_⟩
        · rw [decide_eq_true c, Bool.true_and] at q; exact q
        · rw [decide_eq_false c, Bool.false_and] at q; exact q
theorem lway_ok (h : OkD μ d) (q : Q (.bl (wayD d), μ)) : Wp (F_law_is_way [d] μ) Q := by
  unfold F_law_is_way
  simp_arith []
  refine isi_tup h ?_
  cases e : tupB d with
  | false =>
    rw [way_no d fun a b z => by subst z; cases e] at q
    simp_arith []
    exact q
  | true =>
    obtain ⟨ds, rfl⟩ := tupB_iff e
    simp_arith [cLen, show (2 : Int) = ((2 : Nat) : Int) from rfl, ne_len]
    by_cases hl : ds.length = 2
    · obtain ⟨a, b, rfl⟩ := len2 hl
      simp_arith [opIx, atI_0, atI_1, decide_false]
      refine lwhole_ok h.2.1 ?_
      cases ea : wholeB a with
      | false =>
        rw [way_nw fun z => by rw [ea] at z; cases z.1] at q
        simp_arith []
        exact q
      | true =>
        obtain ⟨x, rfl⟩ := wholeB_iff ea
        simp_arith [opIx, atI_0, atI_1]
        refine lwhole_ok h.2.2.1 ?_
        cases eb : wholeB b with
        | false =>
          rw [way_nw fun z => by rw [eb] at z; cases z.2] at q
          simp_arith []
          exact q
        | true =>
          obtain ⟨y, rfl⟩ := wholeB_iff eb
          have z : wayD (.tup [.int x, .int y]) = (decide (Nat.gcd x.natAbs y.natAbs = 1) && (if x = 0 then decide (0 < y) else decide (0 < x))) := rfl
          rw [z] at q
          simp_arith [opIx, atI_0, atI_1]
          refine common_ok ?_
          simp_arith [opIx, atI_0, atI_1, eq_int, opCmp]
          rw [← gcd1] at q
          refine ⟨fun c => ⟨fun c2 => ?_, fun c2 => ?_⟩, fun c => ?_⟩
          · rw [decide_eq_true c, Bool.true_and] at q
            refine ⟨fun c3 => ?_, fun c3 => ?_⟩
            · rw [if_pos c3] at q; exact q
            · rw [if_neg c3, decide_eq_false (by omega)] at q; exact q
          · rw [decide_eq_true c, Bool.true_and, if_neg (by omega), decide_eq_true c2] at q; exact q
          · rw [decide_eq_false c, Bool.false_and] at q; exact q
    · rw [way_no _ fun a b z => hl (by cases z; rfl)] at q
      exact ⟨fun _ => q, fun z => absurd hl z⟩
theorem mul70 {i j : Int} (h1 : i.natAbs < 2 ^ 70) (h2 : j.natAbs < 2 ^ 70) : mulOk i j = true := mulOk_of h1 h2 (by decide) (by decide)
theorem across_ok {p q r s : Int} (b1 : p.natAbs < 2 ^ 70) (b2 : q.natAbs < 2 ^ 70) (b3 : r.natAbs < 2 ^ 70) (b4 : s.natAbs < 2 ^ 70) (k : Q (.bl (!acrB (.tup [.int p, .int q]) (.tup [.int r, .int s])), μ)) : Wp (F_law_across [.tup [.int p, .int q], .tup [.int r, .int s]] μ) Q := by
  unfold F_law_across
  simp_arith [opIx, atI_0, atI_1, opMul, mul70 b1 b3, mul70 b2 b4, opAdd, eq_int]
  have z : (!acrB (.tup [.int p, .int q]) (.tup [.int r, .int s])) = decide (p * r + q * s = 0) := by
    show (!decide (p * r + q * s ≠ 0)) = _
    by_cases c : p * r + q * s = 0
    · rw [decide_eq_true c, decide_eq_false (fun w => w c)]; rfl
    · rw [decide_eq_false c, decide_eq_true c]; rfl
  rw [z] at k
  exact k
/-! ### turns -/
def turnD : D → Bool
  | .tup [s, .tup ws, g] => wholeB s && (gridD g && (ws.all wayD && sepB ws))
  | _ => false
theorem turn_no : ∀ d : D, (∀ a b c, d ≠ .tup [a, b, c]) → turnD d = false := fun d h => by
  unfold turnD
  split
  · exact absurd rfl (h _ _ _)
  · rfl
theorem turn_nt {s w g : D} (h : tupB w = false) : turnD (.tup [s, w, g]) = false := by
  cases w <;> first | rfl | cases h
theorem turn_nw {s w g : D} (h : wholeB s = false) : turnD (.tup [s, w, g]) = false := by
  unfold turnD
  split
  · rename_i e
    cases e
    rw [h]
    rfl
  · rfl
theorem turn_ng {s w g : D} (h : gridD g = false) : turnD (.tup [s, w, g]) = false := by
  unfold turnD
  split
  · rename_i e
    cases e
    rw [h, Bool.false_and, Bool.and_false]
  · rfl
theorem len3 {α : Type} {ds : List α} (h : ds.length = 3) : ∃ a b c, ds = [a, b, c] := by
  match ds, h with
  | [a, b, c], _ => exact ⟨a, b, c, rfl⟩
theorem cut_to {ds : List D} {i : Nat} (h : i ≤ ds.length) : DL.cutD ds none (some (i : Int)) = ds.take i := by
  unfold DL.cutD
  rw [HT.sIx_none, HT.sIx_nat, Nat.min_eq_left h]
  simp
theorem cut_from {ds : List D} {i : Nat} (h : i ≤ ds.length) : DL.cutD ds (some (i : Int)) none = ds.drop i := by
  unfold DL.cutD
  rw [HT.sIx_none, HT.sIx_nat, Nat.min_eq_left h]
  rw [List.take_of_length_le (by simp)]
theorem all_bls {n : Nat} {ss : List D} {p : D → Bool} (h : lstAt μ n = some ((ss.filter fun _ => true).map fun d => .bl (p d))) : cAll [.loc n] μ = some (.bl (ss.all p), μ) := by
  have e : ((ss.filter fun _ => true).map fun d => D.bl (p d)) = (ss.map p).map D.bl := by
    rw [List.filter_eq_self.mpr (by simp), List.map_map]; rfl
  rw [e] at h
  have e2 : (lstAt μ n).bind blsOf = some (ss.map p) := by rw [h]; exact blsOf_bls _
  unfold cAll
  simp only [e2, Option.map_some, List.all_map]
  rfl
theorem cut_one {ds : List D} : DL.cutD ds (some 1) none = ds.drop 1 := by
  cases ds with
  | nil => rfl
  | cons a r => exact cut_from (ds := a :: r) (i := 1) (by simp)
end
end K37
namespace K37
open PySem PySem.Spec PyProof.Rows L2 DL
def Small (w : D) : Prop := ∃ p q : Int, w = .tup [.int p, .int q] ∧ p.natAbs < 2 ^ 70 ∧ q.natAbs < 2 ^ 70
theorem way_small {μ : Sto} {w : D} (h : OkD μ w) (y : wayD w = true) : Small w := by
  obtain ⟨p, q, rfl⟩ := way_iff y
  exact ⟨p, q, rfl, okD_int h.2.1, okD_int h.2.2.1⟩
section
variable {μ : Sto} {d : D} {Q : D × Sto → Prop}
theorem turns_loop {ws : List D} {v s g : D} (hs : ∀ w ∈ ws, Small w) : ∀ (m i : Nat) (c4 c5 c6 : Option D), m + i = ws.length - 1 → (∀ j a b, j < i → ws[j]? = some a → ws[j + 1]? = some b → acrB a b = true) →
    Wp (loopF (gTp 2 (gCn (gNm 4) (gCn (gTp 2 (gCn (gNm 5) (gCn (gNm 6) gNl))) gNl))) (fIfS (fB (fBin opEqM (fBin opAdd (fBin opMul (fVar 5) (fBin opIx (fBin opIx (fVar 2) (fVar 4)) (fC (.int 0)))) (fBin opMul (fVar 6) (fBin opIx (fBin opIx (fVar 2) (fVar 4)) (fC (.int 1))))) (fC (.int 0)))) (fRet (fC (.bl false))) fSkip)
      (.tup (enD (ws.drop 1))) m i [some v, some s, some (.tup ws), some g, c4, c5, c6, none] μ) fun o => (sepB ws = true → ∃ ρ', o = .nx ρ' μ) ∧ (sepB ws = false → o = .rt (.bl false) μ) := by
  intro m
  induction m with
  | zero =>
    intro i c4 c5 c6 hi pre
    have e1 : (ws.drop 1)[i]? = none := List.getElem?_eq_none (by rw [List.length_drop]; omega)
    refine loop_end (by simp only [itAt, enD_get, e1, Option.map_none]) ?_
    have y : sepB ws = true := sepB_true fun j a b h1 h2 => pre j a b (by have := (List.getElem?_eq_some_iff.mp h2).1; omega) h1 h2
    exact ⟨fun _ => ⟨_, rfl⟩, fun z => by rw [y] at z; cases z⟩
  | succ m ih =>
    intro i c4 c5 c6 hi pre
    have l1 : i + 1 < ws.length := by omega
    have l0 : i < ws.length := by omega
    obtain ⟨p, q, ea, bp, bq⟩ := hs _ (List.getElem_mem l0)
    obtain ⟨r, s', eb, br, bs⟩ := hs _ (List.getElem_mem l1)
    have g0 : ws[i]? = some (.tup [.int p, .int q]) := by rw [List.getElem?_eq_getElem l0, ea]
    have g1 : ws[i + 1]? = some (.tup [.int r, .int s']) := by rw [List.getElem?_eq_getElem l1, eb]
    have e1 : (ws.drop 1)[i]? = some (.tup [.int r, .int s']) := by rw [List.getElem?_drop, Nat.add_comm, g1]
    refine loop_step (d := .tup [.int (i : Nat), .tup [.int r, .int s']]) (by simp only [itAt, enD_get, e1, Option.map_some]) ?_
    simp_arith [opIx, atI_at, g0, atI_0, atI_1, opMul, mul70 br bp, mul70 bs bq, opAdd, eq_int]
    refine ⟨fun c => ?_, fun c => ?_⟩
    · have n : sepB ws = false := sepB_false g0 g1 (by
        show decide (p * r + q * s' ≠ 0) = false
        exact decide_eq_false fun w => w (by rw [Int.mul_comm p, Int.mul_comm q]; exact c))
      exact fun z => by rw [n] at z; cases z
    · refine ih (i + 1) _ _ _ (by omega) fun j a b hj h1 h2 => ?_
      by_cases hji : j < i
      · exact pre j a b hji h1 h2
      · have : j = i := by omega
        subst this
        rw [g0] at h1
        rw [g1] at h2
        cases h1
        cases h2
        show decide (p * r + q * s' ≠ 0) = true
        exact decide_eq_true fun w => c (by rw [Int.mul_comm r, Int.mul_comm s']; exact w)
theorem turns_ok (h : OkD μ d) (q : ∀ μ', Gr μ μ' → Q (.bl (turnD d), μ')) : Wp (F_is_turns [d] μ) Q := by
  unfold F_is_turns
  simp_arith []
  refine isi_tup h ?_
  cases e : tupB d with
  | false =>
    rw [turn_no d fun a b c z => by subst z; cases e] at q
    simp_arith []
    exact q μ Gr.refl
  | true =>
    obtain ⟨ds, rfl⟩ := tupB_iff e
    simp_arith [cLen, show (3 : Int) = ((3 : Nat) : Int) from rfl, ne_len]
    by_cases hl : ds.length = 3
    · obtain ⟨s, w, g, rfl⟩ := len3 hl
      have hs : OkD μ s := h.2.1
      have hw : OkD μ w := h.2.2.1
      have hg : OkD μ g := h.2.2.2.1
      simp_arith [decide_false]
      refine whole_ok hs ?_
      cases es : wholeB s with
      | false =>
        rw [turn_nw es] at q
        simp_arith []
        exact q μ Gr.refl
      | true =>
        simp_arith []
        refine isi_tup hw ?_
        cases ew : tupB w with
        | false =>
          rw [turn_nt ew] at q
          simp_arith []
          exact q μ Gr.refl
        | true =>
          obtain ⟨ws, rfl⟩ := tupB_iff ew
          simp_arith []
          refine last_table_ok hg fun μ1 g1 => ?_
          cases eg : gridD g with
          | false =>
            rw [turn_ng eg] at q
            simp_arith []
            exact q μ1 g1
          | true =>
            simp_arith []
            refine fLc_tup (p := fun _ => true) (e := fun d => .bl (wayD d)) (ds := ws) (μ0 := μ1) rfl hw.1 (fun d hd μ2 g2 => ?_) (fun n2 μ2 h2 g2 => ?_)
            · have hdk : OkD μ2 d := OkD.gr (g1.trans g2) d (OkDs.mem hw.2 hd)
              refine ⟨[some (.tup [s, .tup ws, g]), some s, some (.tup ws), some g, none, none, none, some d], rfl, ?_⟩
              unfold fYes
              simp_arith []
              refine ⟨Gr.refl, direction_ok hdk ?_⟩
              exact ⟨rfl, Gr.refl⟩
            · refine Wp.of (all_bls h2) ?_
              have z : turnD (.tup [s, .tup ws, g]) = (wholeB s && (gridD g && (ws.all wayD && sepB ws))) := rfl
              rw [z, es, eg, Bool.true_and, Bool.true_and] at q
              cases ea : ws.all wayD with
              | false =>
                rw [ea] at q
                simp_arith []
                exact q μ2 (g1.trans g2)
              | true =>
                rw [ea, Bool.true_and] at q
                have sm : ∀ w ∈ ws, Small w := fun w hw' => way_small (OkDs.mem hw.2 hw') (List.all_eq_true.mp ea w hw')
                simp_arith [iEnu, slD, cut_one, itLen]
                have ln : (enD (ws.drop 1)).length = ws.length - 1 := by unfold enD; simp
                rw [ln]
                refine (turns_loop sm (ws.length - 1) 0 _ _ _ rfl fun j a b hj => absurd hj (Nat.not_lt_zero j)).mono ?_
                rintro o ⟨o1, o2⟩
                cases ep : sepB ws with
                | true =>
                  obtain ⟨ρ', rfl⟩ := o1 ep
                  rw [ep] at q
                  simp_arith []
                  exact q μ2 (g1.trans g2)
                | false =>
                  rw [o2 ep]
                  rw [ep] at q
                  simp_arith []
                  exact q μ2 (g1.trans g2)
    · rw [turn_no _ fun a b c z => hl (by cases z; rfl)] at q
      simp_arith [hl, decide_true]
      exact q μ Gr.refl
end
end K37
namespace K37
open PySem PySem.Spec PyProof.Rows L2 DL
/-! ### a filtered comprehension over places that no store changes -/
theorem lc_rngP {g : GF} {ft : TF} {fe : EF} {ρ : Sl} {μ0 : Sto} {lo : Int} {n : Nat} {p : Nat → Bool} {e : Nat → D} (hl : n ≤ 1000)
    (h : ∀ i, i < n → ∀ μ, Gr μ0 μ → ∃ ρ1, g (.int (lo + i)) ρ μ = some (ρ1, μ) ∧ Wp (ft ρ1 μ) fun q => q.1 = p i ∧ Gr μ q.2 ∧ (p i = true → Wp (fe ρ1 q.2) fun r => r.1 = e i ∧ Gr q.2 r.2)) :
    ∀ (m i : Nat) (acc : List D) (more : Sto), m + i = n → acc.length ≤ i → Wp (lcF g ft fe (.rng lo n) μ0.length ρ m i (μ0 ++ .lst acc :: more)) fun μ' => ∃ acc' more', μ' = μ0 ++ .lst acc' :: more' ∧ (acc' = [] ↔ acc = [] ∧ ∀ j, i ≤ j → j < n → p j = false) := by
  intro m
  induction m with
  | zero =>
    intro i acc more hi ha
    refine Wp.of (a := μ0 ++ .lst acc :: more) ?_ ⟨acc, more, rfl, ⟨fun z => ⟨z, fun j h1 h2 => by omega⟩, fun z => z.1⟩⟩
    unfold lcF; simp only [itAt, show ¬ i < n by omega, if_false]
  | succ m ih =>
    intro i acc more hi ha
    have lt : i < n := by omega
    obtain ⟨ρ1, e2, ⟨q, μq⟩, e3, e4, ⟨mq, e5⟩, e6⟩ := h i lt (μ0 ++ .lst acc :: more) Gr.app
    dsimp only at e4 e5 e6
    subst e4
    unfold lcF
    simp only [itAt, lt, if_true, e2, e3, Option.bind_some]
    cases hp : p i with
    | false =>
      simp only [Bool.false_eq_true, if_false]
      rw [e5, List.append_assoc, List.cons_append]
      refine (ih (i + 1) acc (more ++ mq) (by omega) (by omega)).mono ?_
      rintro μ' ⟨acc', more', rfl, k⟩
      refine ⟨acc', more', rfl, k.trans ⟨fun z => ⟨z.1, fun j h1 h2 => ?_⟩, fun z => ⟨z.1, fun j h1 h2 => z.2 j (by omega) h2⟩⟩⟩
      by_cases hj : j = i
      · rw [hj]; exact hp
      · exact z.2 j (by omega) h2
    | true =>
      obtain ⟨⟨r, μr⟩, e7, e8, ⟨mr, e9⟩⟩ := e6 hp
      dsimp only at e8 e9
      subst e8
      simp only [if_true, e7, Option.bind_some]
      rw [e9, e5, List.append_assoc, List.append_assoc, List.cons_append]
      have g1 : (μ0 ++ .lst acc :: (more ++ (mq ++ mr)))[μ0.length]? = some (.lst acc) := by simp
      have g2 : (μ0 ++ .lst acc :: (more ++ (mq ++ mr))).set μ0.length (.lst (acc ++ [e i])) = μ0 ++ .lst (acc ++ [e i]) :: (more ++ (mq ++ mr)) := by simp
      have g3 : acc.length < sizeLine := by rw [sizeLine_eq]; omega
      simp only [g1, g3, if_true, g2]
      refine (ih (i + 1) (acc ++ [e i]) _ (by omega) (by simp; omega)).mono ?_
      rintro μ' ⟨acc', more', rfl, k⟩
      refine ⟨acc', more', rfl, k.trans ⟨fun z => absurd z.1 (by simp), fun z => absurd (z.2 i (Nat.le_refl _) lt) (by rw [hp]; simp)⟩⟩
theorem fLc_rngP {fi : IF} {g : GF} {ft : TF} {fe : EF} {vs : List Nat} {ρ : Sl} {μ μ0 : Sto} {lo : Int} {n : Nat} {p : Nat → Bool} {e : Nat → D} {Q : D × Sto → Prop} (hi : fi ρ μ = some (.rng lo n, μ0)) (hl : n ≤ 1000)
    (h : ∀ i, i < n → ∀ μ, Gr μ0 μ → ∃ ρ1, g (.int (lo + i)) (wipeD ρ vs) μ = some (ρ1, μ) ∧ Wp (ft ρ1 μ) fun q => q.1 = p i ∧ Gr μ q.2 ∧ (p i = true → Wp (fe ρ1 q.2) fun r => r.1 = e i ∧ Gr q.2 r.2))
    (k : ∀ m μ' ds, lstAt μ' m = some ds → (ds = [] ↔ ∀ j, j < n → p j = false) → Gr μ0 μ' → Q (.loc m, μ')) : Wp (fLc fi g ft fe vs ρ μ) Q := by
  obtain ⟨_, e1, acc, m', rfl, hk⟩ := lc_rngP hl h n 0 [] [] rfl (Nat.zero_le _)
  refine Wp.of (a := (.loc μ0.length, μ0 ++ .lst acc :: m')) ?_ (k _ _ acc ?_ ⟨fun z j hj => (hk.mp z).2 j (Nat.zero_le _) hj, fun z => hk.mpr ⟨rfl, fun j _ hj => z j hj⟩⟩ ⟨_, rfl⟩)
  · unfold fLc
    simp only [hi, Option.bind_some, itLen]
    rw [e1]
    rfl
  · unfold lstAt
    simp
section
variable {μ : Sto} {d : D} {Q : D × Sto → Prop}
theorem rng2_of {f : AF} {ρ : Sl} {μ μ' : Sto} {r : Nat} (h : f ρ μ = some ([.int 1, .int (r : Int)], μ')) (hr : r ≤ 1000) : iRng2' f ρ μ = some (.rng 1 (r - 1), μ') := by
  unfold iRng2'
  rw [h, Option.bind_some]
  have c : -(2 ^ 62) ≤ (1 : Int) ∧ (1 : Int) < 2 ^ 62 ∧ -(2 ^ 62) ≤ (r : Int) ∧ (r : Int) < 2 ^ 62 := by omega
  show (if -(2 ^ 62) ≤ (1 : Int) ∧ (1 : Int) < 2 ^ 62 ∧ -(2 ^ 62) ≤ (r : Int) ∧ (r : Int) < 2 ^ 62 then some (ItD.rng 1 ((r : Int) - 1).toNat, μ') else none) = _
  rw [if_pos c]
  congr 3
  omega
theorem judged_ok (h : OkD μ d) (q : ∀ μ', Gr μ μ' → Q (.bl (turnD d), μ')) : Wp (F_law_judged [d] μ) Q := by
  unfold F_law_judged
  simp_arith []
  refine isi_tup h ?_
  cases e : tupB d with
  | false =>
    rw [turn_no d fun a b c z => by subst z; cases e] at q
    simp_arith []
    exact q μ Gr.refl
  | true =>
    obtain ⟨ds, rfl⟩ := tupB_iff e
    simp_arith [cLen, show (3 : Int) = ((3 : Nat) : Int) from rfl, ne_len]
    by_cases hl : ds.length = 3
    · obtain ⟨s, w, g, rfl⟩ := len3 hl
      have hs : OkD μ s := h.2.1
      have hw : OkD μ w := h.2.2.1
      have hg : OkD μ g := h.2.2.2.1
      simp_arith [decide_false, opIx, atI_0, atI_1, atI_2]
      refine lwhole_ok hs ?_
      cases es : wholeB s with
      | false =>
        rw [turn_nw es] at q
        simp_arith []
        exact q μ Gr.refl
      | true =>
        simp_arith [opIx, atI_0, atI_1, atI_2]
        refine isi_tup hw ?_
        cases ew : tupB w with
        | false =>
          rw [turn_nt ew] at q
          simp_arith []
          exact q μ Gr.refl
        | true =>
          obtain ⟨ws, rfl⟩ := tupB_iff ew
          have z : turnD (.tup [s, .tup ws, g]) = (wholeB s && (gridD g && (ws.all wayD && sepB ws))) := rfl
          rw [z, es, Bool.true_and] at q
          simp_arith []
          refine fLc_tup (p := fun d => !wayD d) (e := id) (ds := ws) (μ0 := μ) ?_ hw.1 (fun d hd μ1 g1 => ?_) (fun n1 μ1 h1 g1 => ?_)
          · rfl
          · have hdk : OkD μ1 d := OkD.gr g1 d (OkDs.mem hw.2 hd)
            refine ⟨[some (.tup [s, .tup ws, g]), none, some d], rfl, ?_⟩
            simp_arith []
            refine lway_ok hdk ?_
            simp_arith []
            exact ⟨Gr.refl, fun _ => Gr.refl⟩
          · have gg : Gr μ (μ1 ++ [.lst []]) := g1.trans Gr.app
            rw [ne_lst_nil h1, filt_none]
            cases ea : ws.all wayD with
            | false =>
              rw [ea, Bool.false_and, Bool.and_false] at q
              simp_arith []
              exact q _ gg
            | true =>
              rw [ea, Bool.true_and] at q
              simp_arith [opIx, atI_0, atI_1, atI_2]
              refine lgrid_ok (OkD.gr gg g hg) ?_
              cases eg : gridD g with
              | false =>
                rw [eg, Bool.false_and] at q
                simp_arith []
                exact q _ gg
              | true =>
                rw [eg, Bool.true_and] at q
                simp_arith []
                have sm : ∀ w ∈ ws, Small w := fun w hw' => way_small (OkDs.mem hw.2 hw') (List.all_eq_true.mp ea w hw')
                refine fLc_rngP (lo := 1) (n := ws.length - 1) (p := fun i => !acrB (ws.getD i .non) (ws.getD (i + 1) .non)) (e := fun i => .int (1 + (i : Int))) (μ0 := μ1 ++ [.lst []]) ?_ (by have := hw.1; omega) (fun i hi μ2 g2 => ?_) (fun m μ2 es' h2 k2 g2 => ?_)
                · exact rng2_of rfl hw.1
                · refine ⟨[some (.tup [s, .tup ws, g]), some (.int (1 + (i : Int))), none], rfl, ?_⟩
                  have l1 : i + 1 < ws.length := by omega
                  have l0 : i < ws.length := by omega
                  obtain ⟨p, q', ea', bp, bq⟩ := sm _ (List.getElem_mem l0)
                  obtain ⟨r, s', eb', br, bs⟩ := sm _ (List.getElem_mem l1)
                  have g0 : ws[i]? = some (.tup [.int p, .int q']) := by rw [List.getElem?_eq_getElem l0, ea']
                  have g1' : ws[i + 1]? = some (.tup [.int r, .int s']) := by rw [List.getElem?_eq_getElem l1, eb']
                  have i1 : (1 + (i : Int) - 1) = (i : Int) := by omega
                  have i2 : (1 + (i : Int)) = ((i + 1 : Nat) : Int) := by omega
                  have d0 : ws.getD i .non = .tup [.int p, .int q'] := by rw [List.getD_eq_getElem?_getD, g0]; rfl
                  have d1 : ws.getD (i + 1) .non = .tup [.int r, .int s'] := by rw [List.getD_eq_getElem?_getD, g1']; rfl
                  have a0 : atI ws (1 + (i : Int) - 1) = some (.tup [.int p, .int q']) := by rw [i1, atI_at, g0]
                  have a1 : atI ws (1 + (i : Int)) = some (.tup [.int r, .int s']) := by rw [i2, atI_at, g1']
                  simp_arith [opIx, atI_1, opSub, a0, a1, d0, d1]
                  refine across_ok bp bq br bs ?_
                  simp_arith []
                  exact ⟨Gr.refl, fun _ => Gr.refl⟩
                · rw [eq_lst_nil h2]
                  simp_arith []
                  have y : sepB ws = es'.isEmpty := by
                    cases hh : es'.isEmpty with
                    | true =>
                      have z0 := k2.mp (List.isEmpty_iff.mp hh)
                      refine List.all_eq_true.mpr fun i hi => ?_
                      have := z0 i (List.mem_range.mp hi)
                      simpa using this
                    | false =>
                      refine Bool.eq_false_iff.mpr fun z0 => ?_
                      have : es' = [] := k2.mpr fun j hj => by
                        have := List.all_eq_true.mp z0 j (List.mem_range.mpr hj)
                        simpa using this
                      rw [this] at hh
                      cases hh
                  rw [y] at q
                  exact q _ (gg.trans (g2.trans Gr.app))
    · rw [turn_no _ fun a b c z => hl (by cases z; rfl)] at q
      simp_arith [hl, decide_true]
      exact q μ Gr.refl
end
end K37
namespace K37
open PySem PySem.Spec PyProof.Rows L2 DL
theorem pow9 {μ : Sto} : opPow (.int 10) (.int 9) μ = some (.int 1000000000, μ) := by
  have h : (0 : Int) ≤ 9 ∧ (9 : Int) ≤ 1000000 ∧ (10 : Int).natAbs < 2 ^ 64 := ⟨by decide, by decide, by decide⟩
  simp only [opPow]
  rw [if_pos h]
  rfl
theorem pow18 {μ : Sto} : opPow (.int 10) (.int 18) μ = some (.int 1000000000000000000, μ) := by
  have h : (0 : Int) ≤ 18 ∧ (18 : Int) ≤ 1000000 ∧ (10 : Int).natAbs < 2 ^ 64 := ⟨by decide, by decide, by decide⟩
  simp only [opPow]
  rw [if_pos h]
  rfl
theorem redI_ne {n m : Int} (h : n ≠ 0) (hm : 0 < m) : (redI n m).1 ≠ 0 := by
  have d1 := Nat.gcd_dvd_left n.natAbs m.natAbs
  have e : (redI n m).1.natAbs = n.natAbs / Nat.gcd n.natAbs m.natAbs := natAbs_div d1
  have : 0 < n.natAbs / Nat.gcd n.natAbs m.natAbs := Nat.div_pos (Nat.le_of_dvd (by omega) d1) (gcd_pos hm)
  omega
/-- a drawn fraction -/
def Nb (p : Int × Int) : Prop := isFr p ∧ p.1.natAbs ≤ 1000000000 ∧ p.2.natAbs ≤ 7
theorem number_ok {μ : Sto} {n k : Nat} (w : W μ n k) (hk : k ≤ 900000) : Wp (F_law_number [.loc n] μ) fun z => ∃ p μ', z = (frD p, μ') ∧ Nb p ∧ p.1 ≠ 0 ∧ W μ' n (k + 4) ∧ Kp n μ μ' := by
  unfold F_law_number
  simp_arith []
  refine (take_ok w (by omega) (by decide) (by decide)).mono ?_
  rintro _ ⟨r1, μ1, rfl, a1, b1, w1, p1⟩
  simp_arith [opCmp, sizeLine_eq, Nat.reduceLeDiff]
  have rest : ∀ (t : Int) (μ2 : Sto), 0 < t → t ≤ 1000000000 → W μ2 n (k + 2) → Kp n μ μ2 → Wp (F_law_pick [.loc n, .tup [.int 1, .int 1, .int 1, .int 2, .int 2, .int 3, .int 4, .int 7]] μ2) fun a_2 =>
      Wp (F_law_take [.loc n, .int 2] a_2.2) fun a_3 => Wp (opEqM a_3.1 (.int 0) a_3.2) fun p => ∃ c, p.1 = .bl c ∧ (c = true → Wp (F_law_ratio [.int t, a_2.1] p.2) fun a => ∃ p μ', (a.1, a.2) = (frD p, μ') ∧ Nb p ∧ p.1 ≠ 0 ∧ W μ' n (k + 4) ∧ Kp n μ μ') ∧
        (c = false → Wp (opSub (.int 0) (.int t) p.2) fun a => Wp (F_law_ratio [a.1, a_2.1] a.2) fun a => ∃ p μ', (a.1, a.2) = (frD p, μ') ∧ Nb p ∧ p.1 ≠ 0 ∧ W μ' n (k + 4) ∧ Kp n μ μ') := by
    intro t μ2 t1 t2 w2 p2
    refine (pick_ok w2 (by omega) (by simp) (by simp)).mono ?_
    rintro _ ⟨d, μ3, rfl, hd, w3, p3⟩
    obtain ⟨m, rfl, m1, m2⟩ : ∃ m : Int, d = .int m ∧ 0 < m ∧ m ≤ 7 := by
      simp only [List.mem_cons, List.not_mem_nil, or_false] at hd
      rcases hd with rfl | rfl | rfl | rfl | rfl | rfl | rfl | rfl <;> exact ⟨_, rfl, by decide, by decide⟩
    refine (take_ok w3 (by omega) (by decide) (by decide)).mono ?_
    rintro _ ⟨r4, μ4, rfl, a4, b4, w4, p4⟩
    have fin : ∀ t' : Int, t' ≠ 0 → t'.natAbs ≤ 1000000000 → Wp (F_law_ratio [.int t', .int m] μ4) fun a => ∃ p μ', (a.1, a.2) = (frD p, μ') ∧ Nb p ∧ p.1 ≠ 0 ∧ W μ' n (k + 4) ∧ Kp n μ μ' := fun t' tz ht =>
      ratio_ok (a := 30) m1 (by omega) (by decide) ⟨redI t' m, μ4, rfl, ⟨redI_fr m1, Nat.le_trans (redI_le _ _).1 ht, Nat.le_trans (redI_le _ _).2 (by omega)⟩, redI_ne tz m1, w4, p2.trans (p3.trans p4)⟩
    simp_arith [eq_int, opSub]
    exact ⟨fun _ => fin _ (by omega) (by omega), fun _ => fin _ (by omega) (by omega)⟩
  refine ⟨fun _ => ?_, fun _ => ?_⟩
  · refine (take_ok w1 (by omega) (by decide) (by decide)).mono ?_
    rintro _ ⟨r, μ2, rfl, a2, b2, w2, p2⟩
    simp_arith [opAdd]
    exact rest _ _ (by omega) (by omega) w2 (p1.trans p2)
  · refine Wp.of pow9 ?_
    refine (take_ok w1 (by omega) (by decide) (by decide)).mono ?_
    rintro _ ⟨r, μ2, rfl, a2, b2, w2, p2⟩
    simp_arith [opAdd]
    exact rest _ _ (by omega) (by omega) w2 (p1.trans p2)
theorem loop_rng {g : GF} {b : SF} {lo : Int} {n : Nat} (I : Nat → Sl → Sto → Prop)
    (step : ∀ i ρ μ, i < n → I i ρ μ → Wp ((g (.int (lo + i)) ρ μ).bind fun p => b p.1 p.2) fun o => ∃ ρ' μ', o = .nx ρ' μ' ∧ I (i + 1) ρ' μ') :
    ∀ (m i : Nat) (ρ : Sl) (μ : Sto), m + i = n → I i ρ μ → Wp (loopF g b (.rng lo n) m i ρ μ) fun o => ∃ ρ' μ', o = .nx ρ' μ' ∧ I n ρ' μ' := by
  intro m
  induction m with
  | zero =>
    intro i ρ μ hi h
    have : i = n := by omega
    subst this
    refine Wp.of (a := .nx ρ μ) ?_ ⟨ρ, μ, rfl, h⟩
    unfold loopF
    simp [itAt]
  | succ m ih =>
    intro i ρ μ hi h
    have lt : i < n := by omega
    obtain ⟨o, e, ρ', μ', rfl, h'⟩ := step i ρ μ lt h
    obtain ⟨r, e2, q⟩ := ih (i + 1) ρ' μ' (by omega) h'
    refine ⟨r, ?_, q⟩
    unfold loopF
    obtain ⟨p, e3, e4⟩ := Option.bind_eq_some_iff.mp e
    simp only [itAt, lt, if_true, e3, Option.bind_some, e4]
    exact e2
theorem Gr.kp {n : Nat} {μ μ' : Sto} (h : Gr μ μ') : Kp n μ μ' := by obtain ⟨m, rfl⟩ := h; exact Kp.app
theorem W.gr {n k : Nat} {μ μ' : Sto} (w : W μ n k) (g : Gr μ μ') : W μ' n k := by obtain ⟨m, rfl⟩ := g; exact w.app
theorem neg1 {μ : Sto} : unNeg (.int 1) μ = some (.int (-1), μ) := rfl
/-! ### plain things, with their depth -/
mutual
def Pl : D → Prop
  | .tup ds => ds.length ≤ 100 ∧ Pls ds
  | .loc _ => False
  | .int i => i.natAbs < 18446744073709551616
  | .ty _ => False
  | _ => True
def Pls : List D → Prop
  | [] => True
  | d :: ds => Pl d ∧ Pls ds
end
mutual
def dep : D → Nat
  | .tup ds => deps ds + 1
  | _ => 0
def deps : List D → Nat
  | [] => 0
  | d :: ds => max (dep d) (deps ds)
end
theorem Pls.mem : ∀ {ds : List D} {d : D}, Pls ds → d ∈ ds → Pl d
  | _ :: _, _, h, m => by
    rcases List.mem_cons.mp m with rfl | m
    · exact h.1
    · exact Pls.mem h.2 m
theorem Pls.of : ∀ {ds : List D}, (∀ d ∈ ds, Pl d) → Pls ds
  | [], _ => trivial
  | d :: ds, h => ⟨h d List.mem_cons_self, Pls.of fun z hz => h z (List.mem_cons_of_mem _ hz)⟩
theorem deps_le {n : Nat} : ∀ {ds : List D}, (∀ d ∈ ds, dep d ≤ n) → deps ds ≤ n
  | [], _ => Nat.zero_le _
  | d :: ds, h => Nat.max_le.mpr ⟨h d List.mem_cons_self, deps_le fun z hz => h z (List.mem_cons_of_mem _ hz)⟩
theorem dep_mem : ∀ {ds : List D} {d : D}, d ∈ ds → dep d ≤ deps ds
  | _ :: _, _, m => by
    rcases List.mem_cons.mp m with rfl | m
    · exact Nat.le_max_left _ _
    · exact Nat.le_trans (dep_mem m) (Nat.le_max_right _ _)
mutual
theorem Pl.ok {μ : Sto} : ∀ d : D, Pl d → OkD μ d
  | .tup ds, h => ⟨by have := h.1; omega, Pls.ok ds h.2⟩
  | .loc n, h => h.elim
  | .int i, h => by have : i.natAbs < 18446744073709551616 := h; show i.natAbs < 1180591620717411303424; omega
  | .ty _, h => h
  | .non, h => trivial
  | .bl _, h => trivial
  | .str _, h => trivial
theorem Pls.ok {μ : Sto} : ∀ ds : List D, Pls ds → OkDs μ ds
  | [], h => trivial
  | d :: ds, h => ⟨Pl.ok d h.1, Pls.ok ds h.2⟩
end
theorem ok_loc {μ : Sto} {l : Nat} {o : Ob} (h : μ[l]? = some o) (ht : ∀ x, o ≠ .tab x) : OkD μ (.loc l) := by
  show (kindD μ (.loc l)).isSome = true
  simp only [kindD, h]
  cases o with
  | tab x => exact absurd rfl (ht x)
  | _ => rfl
theorem dsp_low {ρ : Sl} {μ : Sto} : fDsp [((fC (.str (Str.ofString "low"))), (fC (.int 1)))] ρ μ = some (.loc μ.length, μ ++ [.dic [(.inr (Str.ofString "low"), .int 1)]]) := by
  simp [fDsp, fPairs, fC, keysOf, keyOf, mergeD, putD]
theorem odd_ok {μ : Sto} {n k : Nat} (w : W μ n k) (hk : k ≤ 800000) : Wp (F_law_odd [.loc n] μ) fun p => OkD p.2 p.1 ∧ W p.2 n (k + 2) ∧ Kp n μ p.2 := by
  have hn : n < μ.length := let ⟨_, _, _, h, _⟩ := w; (List.getElem?_eq_some_iff.mp h).1
  unfold F_law_odd
  simp_arith [neg1, sizeLine_eq, Nat.reduceLeDiff, dsp_low]
  refine (take_ok (w.app.app.app.app.app) (by omega) (by decide) (by decide)).mono ?_
  rintro _ ⟨r, μ1, rfl, a1, b1, w1, p1⟩
  have kp0 : Kp n μ μ1 := (Kp.app.trans (Kp.app.trans (Kp.app.trans (Kp.app.trans Kp.app)))).trans p1
  simp_arith [eq_int]
  refine ⟨fun _ => ?_, fun _ => ?_⟩
  · refine (pick_ok w1 (by omega) (by simp) (by simp)).mono ?_
    rintro _ ⟨d, μ2, rfl, hd, w2, p2⟩
    refine ⟨Pl.ok d (Pls.mem (ds := _) (by simp [Pls, Pl]) hd), w2, kp0.trans p2⟩
  · refine (pick_ok w1 (by omega) (by simp) (by simp)).mono ?_
    rintro _ ⟨d, μ2, rfl, hd, w2, p2⟩
    refine ⟨?_, w2, kp0.trans p2⟩
    have l1 : OkD μ2 (.loc (List.length μ)) := ok_loc (p2.at_ _ _ (by omega) (p1.at_ _ (.lst []) (by omega) (by simp))) (by simp)
    have l2 : OkD μ2 (.loc (List.length (μ ++ [Ob.lst []]))) := ok_loc (p2.at_ _ _ (by simp; omega) (p1.at_ _ (.lst [D.int 0, D.tup []]) (by simp; omega) (by simp))) (by simp)
    have l3 : OkD μ2 (.loc (List.length (μ ++ [Ob.lst []] ++ [Ob.lst [D.int 0, D.tup []]]))) := ok_loc (p2.at_ _ _ (by simp; omega) (p1.at_ _ (.lst [D.tup [D.int 1, D.int 1]]) (by simp; omega) (by simp))) (by simp)
    have l4 : OkD μ2 (.loc (List.length (μ ++ [Ob.lst []] ++ [Ob.lst [D.int 0, D.tup []]] ++ [Ob.lst [D.tup [D.int 1, D.int 1]]]))) := ok_loc (p2.at_ _ _ (by simp; omega) (p1.at_ _ (.dic []) (by simp; omega) (by simp))) (by simp)
    have l5 : OkD μ2 (.loc (List.length (μ ++ [Ob.lst []] ++ [Ob.lst [D.int 0, D.tup []]] ++ [Ob.lst [D.tup [D.int 1, D.int 1]]] ++ [Ob.dic []]))) := ok_loc (p2.at_ _ _ (by simp; omega) (p1.at_ _ (.dic [(Sum.inr (Str.ofString "low"), D.int 1)]) (by simp; omega) (by simp))) (by simp)
    refine OkDs.mem (ds := _) ?_ hd
    exact ⟨l1, l2, Pl.ok _ (by simp [Pl, Pls]), Pl.ok _ (by simp [Pl, Pls]), Pl.ok _ (by simp [Pl, Pls]), Pl.ok _ (by simp [Pl, Pls]), ⟨by simp, by show (0 : Int).natAbs < _; decide, l3, trivial⟩, Pl.ok _ (by simp [Pl, Pls]), Pl.ok _ (by simp [Pl, Pls]), l4, l5, Pl.ok _ (by simp [Pl, Pls]), trivial⟩
/-! ### spoilt things -/
theorem ne_tup_nil {μ : Sto} {ds : List D} : opNe (.tup ds) (.tup []) μ = some (.bl !ds.isEmpty, μ) := by simp only [opNe, rc_tup_nil, Option.map_some]
theorem Pls.app {a b : List D} (h : ∀ d ∈ a ++ b, Pl d) : Pls (a ++ b) := Pls.of h
theorem log_lt {i : Int} (h : i.natAbs < 18446744073709551616) : i.natAbs.log2 < 1920 := by
  by_cases z : i.natAbs = 0
  · rw [z]; decide
  · have := (Nat.log2_lt z (k := 64)).mpr (by omega)
    omega
theorem spoilt_ok {n : Nat} : ∀ (m : Nat) {μ : Sto} {k : Nat} {d : D}, W μ n k → k + 4 * m ≤ 800000 → Pl d → dep d < m → Wp (R_law_spoilt m [.loc n, d] μ) fun p => OkD p.2 p.1 ∧ W p.2 n (k + 4 * m) ∧ Kp n μ p.2 := by
  intro m
  induction m with
  | zero => intro μ k d _ _ _ h; omega
  | succ m ih =>
    intro μ k d w hk hp hd
    have hok : OkD μ d := Pl.ok d hp
    unfold R_law_spoilt
    simp_arith []
    refine isi_tup hok ?_
    cases et : tupB d with
    | true =>
      obtain ⟨ds, rfl⟩ := tupB_iff et
      simp_arith [ne_tup_nil]
      have hlen : ds.length ≤ 100 := hp.1
      have pm : ∀ x ∈ ds, Pl x := fun x hx => Pls.mem hp.2 hx
      have ddm : deps ds < m := by have : deps ds + 1 < m + 1 := hd; omega
      refine ⟨fun hne => ?_, fun hem => ?_⟩
      · have hpos : 0 < ds.length := by cases ds with
          | nil => cases hne
          | cons => simp
        simp_arith [cLen]
        refine (take_ok w (j := ds.length) (by omega) (by omega) (by omega)).mono ?_
        rintro _ ⟨r, μ1, rfl, a1, b1, w1, p1⟩
        obtain ⟨i, rfl⟩ := Int.eq_ofNat_of_zero_le a1
        have hi : i < ds.length := by omega
        refine (take_ok w1 (by omega) (by decide) (by decide)).mono ?_
        rintro _ ⟨r2, μ2, rfl, a2, b2, w2, p2⟩
        have kp2 : Kp n μ μ2 := p1.trans p2
        have hz : ∀ j : Nat, j ≤ 1000 → j ≤ sizeLine := fun j hj => le_line (by omega)
        have e1 : ((i : Int) + 1) = ((i + 1 : Nat) : Int) := rfl
        simp_arith [opCmp]
        refine ⟨fun hc => ?_, fun hc => ?_⟩
        · simp_arith [slD, cut_to (Nat.le_of_lt hi), opIx, atI_at, List.getElem?_eq_getElem hi]
          refine (ih w2 (by omega) (pm _ (List.getElem_mem hi)) (Nat.lt_of_le_of_lt (dep_mem (List.getElem_mem hi)) ddm)).mono ?_
          rintro ⟨x, μ3⟩ ⟨q1, q2, q3⟩
          have z1 : (ds.take i).length + 1 ≤ sizeLine := hz _ (by simp; omega)
          have z2 : (ds.take i ++ [x]).length + (ds.drop (i + 1)).length ≤ sizeLine := hz _ (by simp; omega)
          simp_arith [hz 1 (by decide), opAdd, z1, e1, cut_from (show i + 1 ≤ ds.length by omega), z2]
          refine ⟨⟨by simp; omega, OkDs.of fun y hy => ?_⟩, q2.le (by omega), kp2.trans q3⟩
          rcases List.mem_append.mp hy with z | z
          · rcases List.mem_append.mp z with z | z
            · exact Pl.ok y (pm y (List.mem_of_mem_take z))
            · have : y = x := by simpa using z
              rw [this]; exact q1
          · exact Pl.ok y (pm y (List.mem_of_mem_drop z))
        · have z1 : (ds.take i).length + (ds.drop (i + 1)).length ≤ sizeLine := hz _ (by simp; omega)
          have z2 : (ds.take (i + 1)).length + (ds.drop i).length ≤ sizeLine := hz _ (by simp; omega)
          simp_arith [cList, slD, cut_to (Nat.le_of_lt hi), cut_from (show i + 1 ≤ ds.length by omega), opAdd, e1, z1, cut_to (show i + 1 ≤ ds.length by omega), cut_from (Nat.le_of_lt hi), z2, hz 3 (by decide), opSub]
          have o1 : ∀ {μ'}, OkD μ' (.tup (ds.take i ++ ds.drop (i + 1))) := ⟨by simp; omega, OkDs.of fun y hy => by
            rcases List.mem_append.mp hy with z | z
            · exact Pl.ok y (pm y (List.mem_of_mem_take z))
            · exact Pl.ok y (pm y (List.mem_of_mem_drop z))⟩
          have o2 : ∀ {μ'}, OkD μ' (.tup (ds.take (i + 1) ++ ds.drop i)) := ⟨by simp; omega, OkDs.of fun y hy => by
            rcases List.mem_append.mp hy with z | z
            · exact Pl.ok y (pm y (List.mem_of_mem_take z))
            · exact Pl.ok y (pm y (List.mem_of_mem_drop z))⟩
          have g : lstAt (μ2 ++ [Ob.lst ds] ++ [Ob.lst [.loc μ2.length, .tup (ds.take i ++ ds.drop (i + 1)), .tup (ds.take (i + 1) ++ ds.drop i)]]) (μ2 ++ [Ob.lst ds]).length = some [.loc μ2.length, .tup (ds.take i ++ ds.drop (i + 1)), .tup (ds.take (i + 1) ++ ds.drop i)] := by unfold lstAt; simp
          have o0 : OkD (μ2 ++ [Ob.lst ds] ++ [Ob.lst [.loc μ2.length, .tup (ds.take i ++ ds.drop (i + 1)), .tup (ds.take (i + 1) ++ ds.drop i)]]) (.loc μ2.length) := ok_loc (o := .lst ds) (by simp) (by simp)
          have r6 : r2 - 6 = 0 ∨ r2 - 6 = 1 ∨ r2 - 6 = 2 := by omega
          rcases r6 with e | e | e
          · simp_arith [e, opIx, g, atI_0]
            exact ⟨o0, w2.app.app.le (by omega), kp2.trans (Kp.app.trans Kp.app)⟩
          · simp_arith [e, opIx, g, atI_1]
            exact ⟨o1, w2.app.app.le (by omega), kp2.trans (Kp.app.trans Kp.app)⟩
          · simp_arith [e, opIx, g, atI_2]
            exact ⟨o2, w2.app.app.le (by omega), kp2.trans (Kp.app.trans Kp.app)⟩
      · refine lwhole_ok hok ?_
        simp_arith [show wholeB (D.tup ds) = false from rfl]
        refine (odd_ok w (by omega)).mono ?_
        rintro ⟨x, μ3⟩ ⟨q1, q2, q3⟩
        exact ⟨q1, q2.le (by omega), q3⟩
    | false =>
      simp_arith []
      refine lwhole_ok hok ?_
      have odd : Wp (F_law_odd [.loc n] μ) fun p => OkD p.2 p.1 ∧ W p.2 n (k + 4 * (m + 1)) ∧ Kp n μ p.2 := (odd_ok w (by omega)).mono fun p q => ⟨q.1, q.2.1.le (by omega), q.2.2⟩
      cases ew : wholeB d with
      | false => simp_arith []; exact odd
      | true =>
        obtain ⟨i, rfl⟩ := wholeB_iff ew
        have hi : i.natAbs < 18446744073709551616 := hp
        simp_arith []
        refine (take_ok w (by omega) (by decide) (by decide)).mono ?_
        rintro _ ⟨r, μ1, rfl, a1, b1, w1, p1⟩
        simp_arith [opCmp]
        refine ⟨fun _ => ?_, fun _ => ?_⟩
        · have fin : ∀ a b : Int, a.natAbs < 1180591620717411303424 → b.natAbs < 1180591620717411303424 → Wp (F_law_pick [.loc n, .tup [.int (0 - i), .int 0, .int a, .str (toString i), .bl (i != 0), .tup [.int i], .int b]] μ1) fun p => OkD p.2 p.1 ∧ W p.2 n (k + 4 * (m + 1)) ∧ Kp n μ p.2 := by
            intro a b ha hb
            refine (pick_ok w1 (by omega) (by simp) (by simp)).mono ?_
            rintro _ ⟨x, μ2, rfl, hx, w2, p2⟩
            refine ⟨OkDs.mem (ds := _) ?_ hx, w2.le (by omega), p1.trans p2⟩
            exact ⟨by show (0 - i).natAbs < _; omega, by show (0 : Int).natAbs < _; decide, ha, trivial, trivial, ⟨by simp, by show i.natAbs < _; omega, trivial⟩, hb, trivial⟩
          have l7 : (7 : Nat) ≤ sizeLine := le_line (by decide)
          have l1 : (1 : Nat) ≤ sizeLine := le_line (by decide)
          by_cases c1 : (-900 : Int) < i
          · by_cases c2 : i < 900
            · simp_arith [opSub, unNeg, opCmp, c1, c2, decide_true, cStr, log_lt hi, cBool, l1, l7, opAdd]
              exact fin _ _ (by omega) (by omega)
            · simp_arith [opSub, unNeg, opCmp, c1, c2, decide_true, decide_false, cStr, log_lt hi, cBool, l1, l7, opAdd]
              exact fin _ _ (by omega) (by omega)
          · have c2 : i < 900 := by omega
            simp_arith [opSub, unNeg, opCmp, c1, c2, decide_true, decide_false, cStr, log_lt hi, cBool, l1, l7, opAdd]
            exact fin _ _ (by omega) (by omega)
        · refine (odd_ok w1 (by omega)).mono ?_
          rintro ⟨x, μ3⟩ ⟨q1, q2, q3⟩
          exact ⟨q1, q2.le (by omega), p1.trans q3⟩
end K37
namespace K37
open PySem PySem.Spec PyProof.Rows L2 DL
/-! ### drawn directions -/
def Wy (d : D) : Prop := ∃ p q : Int, d = .tup [.int p, .int q] ∧ wayD d = true ∧ p.natAbs < 100 ∧ q.natAbs < 100
theorem Wy.pl {d : D} (h : Wy d) : Pl d ∧ dep d ≤ 1 := by
  obtain ⟨p, q, rfl, _, h1, h2⟩ := h
  exact ⟨⟨by simp, by show p.natAbs < _; omega, by show q.natAbs < _; omega, trivial⟩, by simp [dep, deps]⟩
theorem ldirection_ok {μ : Sto} {n k : Nat} (w : W μ n k) (hk : k ≤ 800000) : Wp (F_law_direction [.loc n] μ) fun p => ∃ d μ', p = (d, μ') ∧ Wy d ∧ W μ' n (k + 3) ∧ Kp n μ μ' := by
  unfold F_law_direction
  simp_arith [sizeLine_eq, Nat.reduceLeDiff]
  refine (pick_ok w (by omega) (by simp) (by simp)).mono ?_
  rintro _ ⟨d, μ1, rfl, hd, w1, p1⟩
  obtain ⟨j, rfl, j0, j1⟩ : ∃ j : Int, d = .int j ∧ 0 < j ∧ j ≤ 25 := by
    simp only [List.mem_cons, List.not_mem_nil, or_false] at hd
    rcases hd with rfl | rfl | rfl | rfl <;> exact ⟨_, rfl, by decide, by decide⟩
  refine (take_ok w1 (by omega) j0 (by omega)).mono ?_
  rintro _ ⟨r, μ2, rfl, a2, b2, w2, p2⟩
  refine (take_ok w2 (by omega) (by decide) (by decide)).mono ?_
  rintro _ ⟨t, μ3, rfl, a3, b3, w3, p3⟩
  have kp : Kp n μ μ3 := p1.trans (p2.trans p3)
  simp_arith [opSub, eq_int]
  refine ⟨fun z => ⟨_, _, rfl, ⟨0, 1, rfl, rfl, by decide, by decide⟩, w3.le (by omega), kp⟩, fun z => ?_⟩
  refine common_ok ?_
  have hp : 0 < r := by omega
  have hg : 0 < Nat.gcd r.natAbs (t - 3).natAbs := Nat.gcd_pos_of_pos_left _ (by omega)
  have d1 := Nat.gcd_dvd_left r.natAbs (t - 3).natAbs
  have d2 := Nat.gcd_dvd_right r.natAbs (t - 3).natAbs
  have gl : Nat.gcd r.natAbs (t - 3).natAbs ≤ r.natAbs := Nat.le_of_dvd (by omega) d1
  have nz : ¬ (((Nat.gcd r.natAbs (t - 3).natAbs : Nat) : Int) = 0) := by omega
  have np : ∀ x : Int, Builtin.divisionGoesByPylong x ((Nat.gcd r.natAbs (t - 3).natAbs : Nat) : Int) = false := fun x => noPy (by omega)
  simp_arith [opFdiv, nz, np, div_pos hg, sizeLine_eq, Nat.reduceLeDiff]
  have e1 := natAbs_div d1
  have e2 := natAbs_div d2
  have p0 : 0 < (r / ((Nat.gcd r.natAbs (t - 3).natAbs : Nat) : Int)).natAbs := by
    rw [e1]; exact Nat.div_pos gl hg
  have p1' : 0 ≤ r / ((Nat.gcd r.natAbs (t - 3).natAbs : Nat) : Int) := Int.ediv_nonneg (by omega) (by omega)
  have g1 : Nat.gcd (r / ((Nat.gcd r.natAbs (t - 3).natAbs : Nat) : Int)).natAbs ((t - 3) / ((Nat.gcd r.natAbs (t - 3).natAbs : Nat) : Int)).natAbs = 1 := by
    rw [e1, e2, Nat.gcd_div d1 d2, Nat.div_self hg]
  have l1 : (r / ((Nat.gcd r.natAbs (t - 3).natAbs : Nat) : Int)).natAbs ≤ r.natAbs := Int.natAbs_ediv_le_natAbs _ _
  have l2 : ((t - 3) / ((Nat.gcd r.natAbs (t - 3).natAbs : Nat) : Int)).natAbs ≤ (t - 3).natAbs := Int.natAbs_ediv_le_natAbs _ _
  refine ⟨_, _, rfl, ⟨_, _, rfl, ?_, by omega, by omega⟩, w3, kp⟩
  show (decide (Nat.gcd _ _ = 1) && (if _ = (0 : Int) then _ else decide ((0 : Int) < _))) = true
  rw [decide_eq_true g1, Bool.true_and, if_neg (by omega)]
  exact decide_eq_true (by omega)
/-! ### drawn tables -/
def Gd (g : D) : Prop := ∃ a b c e, g = .tup [.tup [frD a, frD b], .tup [frD c, frD e]] ∧ Nb a ∧ Nb b ∧ Nb c ∧ Nb e ∧ gridD g = true
theorem fracD_of {p : Int × Int} (h : isFr p) : fracD (frD p) = true := by
  show (decide (0 < p.2) && decide (Nat.gcd p.1.natAbs p.2.natAbs = 1)) = true
  rw [decide_eq_true h.1, decide_eq_true h.2]; rfl
theorem sq_pos {p : Int × Int} (h : isFr p) (z : p.1 ≠ 0) : 0 < (mulP p p).1 := by
  have n1 := sq_nonneg p h
  have n2 : (mulP p p).1 ≠ 0 := redI_ne (by
    intro w
    rcases Int.mul_eq_zero.mp w with w | w <;> exact z w) (Int.mul_pos h.1 h.1)
  omega
theorem sum_ne {p q : Int × Int} (hp : isFr p) (hq : isFr q) (h1 : 0 ≤ p.1) (h2 : 0 ≤ q.1) (h : 0 < p.1 ∨ 0 < q.1) : (addP p q).1 ≠ 0 := by
  refine redI_ne ?_ (Int.mul_pos hp.1 hq.1)
  have m1 : 0 ≤ p.1 * q.2 := Int.mul_nonneg h1 (Int.le_of_lt hq.1)
  have m2 : 0 ≤ q.1 * p.2 := Int.mul_nonneg h2 (Int.le_of_lt hp.1)
  rcases h with h | h
  · have : 0 < p.1 * q.2 := Int.mul_pos h hq.1
    omega
  · have : 0 < q.1 * p.2 := Int.mul_pos h hp.1
    omega
theorem opp_sum {t s : Int} (hs : 0 < s) : (addP (redI t s) (redI (-t) s)).1 = 0 := by
  have e : redI (-t) s = (-(redI t s).1, (redI t s).2) := by
    have d1 : ((Nat.gcd t.natAbs s.natAbs : Nat) : Int) ∣ t := Int.ofNat_dvd_left.mpr (Nat.gcd_dvd_left _ _)
    unfold redI
    rw [Int.natAbs_neg, Int.neg_ediv_of_dvd d1]
  rw [e]
  show (_ * _ + -_ * _) / _ = (0 : Int)
  rw [Int.neg_mul, Int.add_right_neg, Int.zero_ediv]
theorem gridP_ok {a b : Int × Int} {u v : Int} (ha : isFr a) (hb : isFr b) (hu : u * u = b.1 * b.1) (hv : v * v = a.1 * a.1) (hc : b.1 * v = -(a.1 * u)) (nz : a.1 ≠ 0 ∨ b.1 ≠ 0) : gridP a (u, b.2) b (v, a.2) = true := by
  have e1 : mulP (u, b.2) (u, b.2) = mulP b b := by show redI (u * u) _ = redI _ _; rw [hu]
  have e2 : mulP (v, a.2) (v, a.2) = mulP a a := by show redI (v * v) _ = redI _ _; rw [hv]
  have e3 : mulP a (u, b.2) = redI (a.1 * u) (a.2 * b.2) := rfl
  have e4 : mulP b (v, a.2) = redI (-(a.1 * u)) (a.2 * b.2) := by show redI (b.1 * v) (b.2 * a.2) = _; rw [hc, Int.mul_comm b.2]
  unfold gridP
  rw [e1, e2, e3, e4, opp_sum (Int.mul_pos ha.1 hb.1), addP_comm (mulP b b)]
  have n : (addP (mulP a a) (mulP b b)).1 ≠ 0 := sum_ne (mulP_fr ha ha) (mulP_fr hb hb) (sq_nonneg a ha) (sq_nonneg b hb) (nz.elim (fun z => .inl (sq_pos ha z)) fun z => .inr (sq_pos hb z))
  rw [decide_eq_true n, decide_eq_true rfl, decide_eq_true rfl]
  rfl
theorem gd_of {a b : Int × Int} {s : Int} (ha : Nb a) (hb : Nb b) (nz : a.1 ≠ 0 ∨ b.1 ≠ 0) (hs : s = 1 ∨ s = -1) : Gd (.tup [.tup [frD a, frD (redI (0 - s * b.1) b.2)], .tup [frD b, frD (redI (s * a.1) a.2)]]) := by
  have key : ∀ u v : Int, u.natAbs = b.1.natAbs → v.natAbs = a.1.natAbs → u * u = b.1 * b.1 → v * v = a.1 * a.1 → b.1 * v = -(a.1 * u) → Gd (.tup [.tup [frD a, frD (redI u b.2)], .tup [frD b, frD (redI v a.2)]]) := by
    intro u v h1 h2 h3 h4 h5
    have f1 : isFr (u, b.2) := ⟨hb.1.1, by show Nat.gcd u.natAbs _ = 1; rw [h1]; exact hb.1.2⟩
    have f2 : isFr (v, a.2) := ⟨ha.1.1, by show Nat.gcd v.natAbs _ = 1; rw [h2]; exact ha.1.2⟩
    have e1 : redI u b.2 = (u, b.2) := redI_self f1
    have e2 : redI v a.2 = (v, a.2) := redI_self f2
    rw [e1, e2]
    refine ⟨a, (u, b.2), b, (v, a.2), rfl, ha, ⟨f1, by show u.natAbs ≤ _; rw [h1]; exact hb.2.1, hb.2.2⟩, hb, ⟨f2, by show v.natAbs ≤ _; rw [h2]; exact ha.2.1, ha.2.2⟩, ?_⟩
    show (((fracD (frD a) && (fracD (frD (u, b.2)) && (fracD (frD b) && fracD (frD (v, a.2)))))) && gridP a (u, b.2) b (v, a.2)) = true
    rw [fracD_of ha.1, fracD_of f1, fracD_of hb.1, fracD_of f2, gridP_ok ha.1 hb.1 h3 h4 h5 nz]
    rfl
  rcases hs with rfl | rfl
  · have e1 : 0 - 1 * b.1 = -b.1 := by omega
    have e2 : 1 * a.1 = a.1 := by omega
    rw [e1, e2]
    exact key _ _ (Int.natAbs_neg _) rfl (Int.neg_mul_neg _ _) rfl (by rw [Int.mul_neg, Int.neg_neg, Int.mul_comm])
  · have e1 : 0 - -1 * b.1 = b.1 := by omega
    have e2 : -1 * a.1 = -a.1 := by omega
    rw [e1, e2]
    exact key _ _ rfl (Int.natAbs_neg _) rfl (Int.neg_mul_neg _ _) (by rw [Int.mul_neg, Int.mul_comm])
theorem Nb.sm {p : Int × Int} (h : Nb p) : Sm 40 p := ⟨Nat.lt_of_le_of_lt h.2.1 (by decide), Nat.lt_of_le_of_lt h.2.2 (by decide)⟩
theorem Nb.pl {p : Int × Int} (h : Nb p) : Pl (frD p) ∧ dep (frD p) ≤ 1 := ⟨⟨by simp, by show p.1.natAbs < _; have := h.2.1; omega, by show p.2.natAbs < _; have := h.2.2; omega, trivial⟩, by simp [frD, dep, deps]⟩
theorem Gd.pl {g : D} (h : Gd g) : Pl g ∧ dep g ≤ 3 := by
  obtain ⟨a, b, c, e, rfl, h1, h2, h3, h4, _⟩ := h
  have d1 := h1.pl.2
  have d2 := h2.pl.2
  have d3 := h3.pl.2
  have d4 := h4.pl.2
  refine ⟨⟨by simp, ⟨by simp, h1.pl.1, h2.pl.1, trivial⟩, ⟨by simp, h3.pl.1, h4.pl.1, trivial⟩, trivial⟩, ?_⟩
  simp only [dep, deps]
  omega
theorem tbl_ok {μ : Sto} {n k : Nat} (w : W μ n k) (hk : k ≤ 800000) : Wp (F_law_grid [.loc n] μ) fun p => ∃ g μ', p = (g, μ') ∧ Gd g ∧ W μ' n (k + 12) ∧ Kp n μ μ' := by
  unfold F_law_grid
  simp_arith [fPar3, neg1, sizeLine_eq, Nat.reduceLeDiff]
  refine (number_ok w (by omega)).mono ?_
  rintro _ ⟨a, μ1, rfl, ha, za, w1, p1⟩
  simp_arith []
  refine (number_ok w1 (by omega)).mono ?_
  rintro _ ⟨c, μ2, rfl, hc, zc, w2, p2⟩
  simp_arith [sizeLine_eq, Nat.reduceLeDiff]
  refine (pick_ok w2 (by omega) (by simp) (by simp)).mono ?_
  rintro _ ⟨bd, μ3, rfl, hb, w3, p3⟩
  obtain ⟨b, rfl, nb⟩ : ∃ b, bd = frD b ∧ Nb b := by
    simp only [List.mem_cons, List.not_mem_nil, or_false] at hb
    rcases hb with rfl | rfl | rfl
    · exact ⟨(0, 1), rfl, ⟨by show (0 : Int) < 1; decide, rfl⟩, by decide, by decide⟩
    · exact ⟨(1, 1), rfl, ⟨by show (0 : Int) < 1; decide, rfl⟩, by decide, by decide⟩
    · exact ⟨c, rfl, hc⟩
  refine (pick_ok w3 (by omega) (by simp) (by simp)).mono ?_
  rintro _ ⟨sd, μ4, rfl, hs, w4, p4⟩
  obtain ⟨s, rfl, s1⟩ : ∃ s : Int, sd = .int s ∧ (s = 1 ∨ s = -1) := by
    simp only [List.mem_cons, List.not_mem_nil, or_false] at hs
    rcases hs with rfl | rfl
    · exact ⟨1, rfl, .inl rfl⟩
    · exact ⟨-1, rfl, .inr rfl⟩
  simp_arith []
  refine (take_ok w4 (by omega) (by decide) (by decide)).mono ?_
  rintro _ ⟨r, μ5, rfl, a5, b5, w5, p5⟩
  have kp : Kp n μ μ5 := p1.trans (p2.trans (p3.trans (p4.trans p5)))
  have fin : ∀ x y : Int × Int, Nb x → Nb y → (x.1 ≠ 0 ∨ y.1 ≠ 0) → Wp (F_law_ratio [.int (0 - s * y.1), .int y.2] μ5) fun z => Wp (F_law_ratio [.int (s * x.1), .int x.2] z.2) fun z2 => ∃ g μ', (D.tup [.tup [frD x, z.1], .tup [frD y, z2.1]], z2.2) = (g, μ') ∧ Gd g ∧ W μ' n (k + 12) ∧ Kp n μ μ' := by
    intro x y hx hy nz
    refine ratio_ok hy.1.1 hy.sm.2 (by decide) ?_
    refine ratio_ok hx.1.1 hx.sm.2 (by decide) ?_
    exact ⟨_, _, rfl, gd_of hx hy nz s1, w5.le (by omega), kp⟩
  have mo : ∀ x : Int × Int, Nb x → mulOk s x.1 = true := fun x hx => mulOk_of (a := 2) (by rcases s1 with rfl | rfl <;> decide) hx.sm.1 (by decide) (by decide)
  simp_arith [eq_int]
  refine ⟨fun _ => ?_, fun _ => ?_⟩
  · unfold frD
    simp_arith [opIx, atI_0, atI_1, opMul, mo _ ha, mo _ nb, opSub, sizeLine_eq, Nat.reduceLeDiff]
    exact fin b a nb ha (.inr za)
  · unfold frD
    simp_arith [opIx, atI_0, atI_1, opMul, mo _ ha, mo _ nb, opSub, sizeLine_eq, Nat.reduceLeDiff]
    exact fin a b ha nb (.inl za)
end K37
namespace K37
open PySem PySem.Spec PyProof.Rows L2 DL
/-! ### drawn turns -/
def lastD : List D → D
  | [] => .non
  | [d] => d
  | _ :: d :: ds => lastD (d :: ds)
theorem last_get (d : D) (ds : List D) : (d :: ds)[ds.length]? = some (lastD (d :: ds)) := by
  induction ds generalizing d with
  | nil => rfl
  | cons e es ih => simpa [lastD] using ih e
theorem atI_last1 (d : D) (ds : List D) : atI (d :: ds) (-1) = some (lastD (d :: ds)) := by
  have l : (d :: ds).length = ds.length + 1 := rfl
  unfold atI ixN
  rw [if_neg (by decide), if_pos (by rw [l]; omega)]
  have : ((-1 : Int) + ((d :: ds).length : Nat)).toNat = ds.length := by rw [l]; omega
  rw [this]
  exact last_get d ds
theorem last_mem (d : D) (ds : List D) : lastD (d :: ds) ∈ d :: ds := List.mem_of_getElem? (last_get d ds)
theorem sep_snoc {ws : List D} {w : D} (h : sepB ws = true) (k : ∀ d ds, ws = d :: ds → acrB (lastD (d :: ds)) w = true) : sepB (ws ++ [w]) = true := by
  refine sepB_true fun i a b h1 h2 => ?_
  have l : i + 1 < (ws ++ [w]).length := (List.getElem?_eq_some_iff.mp h2).1
  rw [List.length_append] at l
  simp only [List.length_cons, List.length_nil] at l
  rw [List.getElem?_append_left (by omega)] at h1
  by_cases e : i + 1 < ws.length
  · rw [List.getElem?_append_left e] at h2
    cases hh : acrB a b with
    | true => rfl
    | false => have := sepB_false h1 h2 hh; rw [h] at this; cases this
  · have ei : i + 1 = ws.length := by omega
    rw [List.getElem?_append_right (by omega)] at h2
    have : b = w := by
      rw [show i + 1 - ws.length = 0 by omega] at h2
      simpa using h2.symm
    subst this
    cases ws with
    | nil => simp at ei
    | cons d ds =>
      have e2 : i = ds.length := by simpa using ei
      rw [e2, last_get] at h1
      cases h1
      exact k d ds rfl
/-- turns as they are drawn -/
def Tn (d : D) : Prop := ∃ (s : Int) (ws : List D) (g : D), d = .tup [.int s, .tup ws, g] ∧ s.natAbs ≤ 400 ∧ ws.length ≤ 4 ∧ (∀ w ∈ ws, Wy w) ∧ sepB ws = true ∧ Gd g
theorem Tn.pl {d : D} (h : Tn d) : Pl d ∧ dep d ≤ 5 := by
  obtain ⟨s, ws, g, rfl, h1, h2, h3, _, h4⟩ := h
  have d1 : deps ws ≤ 1 := deps_le fun x hx => (h3 x hx).pl.2
  have d2 := h4.pl.2
  refine ⟨⟨by simp, by show s.natAbs < _; omega, ⟨by omega, Pls.of fun x hx => (h3 x hx).pl.1⟩, h4.pl.1, trivial⟩, ?_⟩
  simp only [dep, deps]
  omega
theorem Tn.turn {d : D} (h : Tn d) : turnD d = true := by
  obtain ⟨s, ws, g, rfl, h1, h2, h3, h5, a, b, c, e, h6, _, _, _, _, h4⟩ := h
  show (wholeB (.int s) && (gridD g && (ws.all wayD && sepB ws))) = true
  have : ws.all wayD = true := List.all_eq_true.mpr fun w hw => let ⟨_, _, _, y, _⟩ := h3 w hw; y
  rw [h4, h5, this]
  rfl
theorem lst_one {μ : Sto} {f : Nat} {xs : List D} (h : μ[f]? = some (.lst xs)) : kindD μ (.loc f) = some "list" := by simp only [kindD, h]
theorem ldraw_ok {μ0 : Sto} {n k : Nat} (w : W μ0 n k) (hk : k ≤ 600000) : Wp (F_law_turns [.loc n, .int 4] μ0) fun p => Tn p.1 ∧ W p.2 n (k + 100) ∧ Kp n μ0 p.2 := by
  have hn : n < μ0.length := let ⟨_, _, _, h, _⟩ := w; (List.getElem?_eq_some_iff.mp h).1
  unfold F_law_turns
  simp_arith [iRng1'.eq_1, opAdd]
  refine (take_ok w.app (by omega) (by decide) (by decide)).mono ?_
  rintro _ ⟨r, μ1, rfl, a1, b1, w1, p1⟩
  obtain ⟨t, rfl⟩ := Int.eq_ofNat_of_zero_le a1
  have hb : -(2 ^ 62) ≤ (t : Int) ∧ (t : Int) < 2 ^ 62 := by omega
  simp_arith [hb, itLen, Int.toNat_natCast]
  have hf1 : μ1[μ0.length]? = some (.lst []) := p1.at_ _ _ (by omega) (by simp)
  have kp1 : Kp n μ0 μ1 := Kp.app.trans p1
  refine (loop_rng (n := t) (I := fun j ρ μ => (∃ c3 c4, ρ = [some (.loc n), some (.int 4), some (.loc μ0.length), c3, c4]) ∧ W μ n (k + 1 + 4 * j) ∧ (∃ ws, μ[μ0.length]? = some (.lst ws) ∧ ws.length ≤ j ∧ (∀ w ∈ ws, Wy w) ∧ sepB ws = true) ∧ Kp n μ0 μ) ?_ t 0 _ _ (by omega)
    ⟨⟨_, _, rfl⟩, w1.le (by omega), ⟨[], hf1, by simp, by simp, rfl⟩, kp1⟩).mono ?_
  · rintro i _ μ hi ⟨⟨c3, c4, rfl⟩, w2, ⟨ws, f0, lw, aw, sw⟩, kp⟩
    simp_arith []
    refine (ldirection_ok w2 (by omega)).mono ?_
    rintro _ ⟨d, μ2, rfl, hd, w3, p2⟩
    have f2 : μ2[μ0.length]? = some (.lst ws) := p2.at_ _ _ (by omega) f0
    have kp2 : Kp n μ0 μ2 := kp.trans p2
    have l2 : lstAt μ2 μ0.length = some ws := lstAt_lst f2
    simp_arith [eq_lst_nil l2]
    have f3 : (μ2 ++ [Ob.lst []])[μ0.length]? = some (.lst ws) := Gr.app.get f2
    have fl3 : μ0.length < (μ2 ++ [Ob.lst []]).length := (List.getElem?_eq_some_iff.mp f3).1
    have kp3 : Kp n μ0 (μ2 ++ [Ob.lst []]) := kp2.trans Kp.app
    have w4 : W (μ2 ++ [Ob.lst []]) n (k + 1 + 4 * i + 3) := w3.app
    have hz : ws.length < 16777216 := by omega
    -- the direction is put behind the others
    have put : (∀ x xs, ws = x :: xs → acrB (lastD (x :: xs)) d = true) → ∀ (c3 : Option D), ∃ ρ' μ', (Out.nx [some (.loc n), some (.int 4), some (.loc μ0.length), c3, some d] ((μ2 ++ [Ob.lst []]).set μ0.length (.lst (ws ++ [d])))) = .nx ρ' μ' ∧ (∃ c3 c4, ρ' = [some (.loc n), some (.int 4), some (.loc μ0.length), c3, c4]) ∧ W μ' n (k + 1 + 4 * (i + 1)) ∧ (∃ ws, μ'[μ0.length]? = some (.lst ws) ∧ ws.length ≤ i + 1 ∧ (∀ w ∈ ws, Wy w) ∧ sepB ws = true) ∧ Kp n μ0 μ' := by
      intro hs c3
      refine ⟨_, _, rfl, ⟨_, _, rfl⟩, ?_, ⟨ws ++ [d], by rw [List.getElem?_set_self fl3], by simp; omega, fun w hw => ?_, sep_snoc sw hs⟩, ?_⟩
      · obtain ⟨a, b, c, q⟩ := w4
        exact ⟨a, b, c, by rw [List.getElem?_set_ne (by omega)]; exact q.1, q.2.1, q.2.2.1, q.2.2.2.1, q.2.2.2.2.1, by have := q.2.2.2.2.2; omega⟩
      · rcases List.mem_append.mp hw with z | z
        · exact aw w z
        · have : w = d := by simpa using z
          rw [this]; exact hd
      · refine ⟨by have := kp3.len; simp at *; omega, fun m o hm e => ?_⟩
        have lt := (List.getElem?_eq_some_iff.mp e).1
        rw [List.getElem?_set_ne (by omega)]
        exact kp3.at_ _ _ hm e
    have skip : ∀ (c3 : Option D), ∃ ρ' μ', (Out.nx [some (.loc n), some (.int 4), some (.loc μ0.length), c3, some d] (μ2 ++ [Ob.lst []])) = .nx ρ' μ' ∧ (∃ c3 c4, ρ' = [some (.loc n), some (.int 4), some (.loc μ0.length), c3, c4]) ∧ W μ' n (k + 1 + 4 * (i + 1)) ∧ (∃ ws, μ'[μ0.length]? = some (.lst ws) ∧ ws.length ≤ i + 1 ∧ (∀ w ∈ ws, Wy w) ∧ sepB ws = true) ∧ Kp n μ0 μ' := fun c3 =>
      ⟨_, _, rfl, ⟨_, _, rfl⟩, w4.le (by omega), ⟨ws, f3, by omega, aw, sw⟩, kp3⟩
    cases ws with
    | nil =>
      simp_arith [List.isEmpty_nil, lst_one f3, mAppend, f3, sizeLine_eq, Nat.reduceLT]
      exact put (fun x xs e => by cases e) _
    | cons x xs =>
      obtain ⟨p, q, el, _, bp, bq⟩ := aw _ (last_mem x xs)
      obtain ⟨p', q', rfl, _, bp', bq'⟩ := hd
      have lt : lstAt (μ2 ++ [Ob.lst []]) μ0.length = some (x :: xs) := lstAt_lst f3
      have m1 : mulOk p p' = true := mulOk_small (by omega) (by omega)
      have m2 : mulOk q q' = true := mulOk_small (by omega) (by omega)
      have ac : acrB (lastD (x :: xs)) (.tup [.int p', .int q']) = decide (p * p' + q * q' ≠ 0) := by rw [el]; rfl
      have hz2 : xs.length + 1 < 16777216 := hz
      simp_arith [List.isEmpty_cons, unNeg, opIx, lt, atI_last1, el, atI_0, atI_1, opMul, m1, m2, opAdd, ne_int]
      refine ⟨fun c => ?_, fun c => ?_⟩
      · simp_arith [lst_one f3, mAppend, f3, sizeLine_eq, hz2]
        exact put (fun y ys e => by cases e; rw [ac]; exact decide_eq_true c) _
      · exact skip _
  · rintro _ ⟨ρ', μ2, rfl, ⟨c3, c4, rfl⟩, w2, ⟨ws, f0, lw, aw, sw⟩, kp⟩
    simp_arith [neg1, unNeg, sizeLine_eq, Nat.reduceLeDiff]
    refine (pick_ok w2 (by omega) (by simp) (by simp)).mono ?_
    rintro _ ⟨sd, μ3, rfl, hs, w3, p3⟩
    obtain ⟨s, rfl, s1⟩ : ∃ s : Int, sd = .int s ∧ s.natAbs ≤ 400 := by
      simp only [List.mem_cons, List.not_mem_nil, or_false] at hs
      rcases hs with rfl | rfl | rfl | rfl | rfl | rfl | rfl <;> exact ⟨_, rfl, by decide⟩
    have f3 : μ3[μ0.length]? = some (.lst ws) := p3.at_ _ _ (by omega) f0
    have l3 : lstAt μ3 μ0.length = some ws := lstAt_lst f3
    have lz : ws.length ≤ 16777216 := by omega
    simp_arith [cTuple, l3, sizeLine_eq, lz]
    refine (tbl_ok w3 (by omega)).mono ?_
    rintro _ ⟨g, μ4, rfl, hg, w4, p4⟩
    simp_arith [sizeLine_eq, Nat.reduceLeDiff]
    exact ⟨⟨s, ws, g, rfl, s1, by omega, aw, sw, hg⟩, w4.le (by omega), kp.trans (p3.trans p4)⟩
end K37
namespace K37
open PySem PySem.Spec PyProof.Rows L2 DL
theorem atI_mem {ds : List D} {i : Int} (h0 : 0 ≤ i) (h1 : i < ds.length) : ∃ x, atI ds i = some x ∧ x ∈ ds := by
  obtain ⟨j, rfl⟩ := Int.eq_ofNat_of_zero_le h0
  have hj : j < ds.length := by omega
  exact ⟨ds[j], by rw [atI_at, List.getElem?_eq_getElem hj], List.getElem_mem hj⟩
theorem pl_pair {a b : D} (h1 : Pl a) (h2 : Pl b) : Pl (.tup [a, b]) := ⟨by simp, h1, h2, trivial⟩
theorem pl_int {i : Int} (h : i.natAbs < 18446744073709551616) : Pl (.int i) := h
theorem pl_red {n m : Int} (h1 : n.natAbs < 18446744073709551616) (h2 : m.natAbs < 18446744073709551616) : Pl (frD (redI n m)) :=
  pl_pair (Nat.lt_of_le_of_lt (redI_le n m).1 h1) (Nat.lt_of_le_of_lt (redI_le n m).2 h2)
theorem bent_ok {μ : Sto} {n k : Nat} {d : D} (w : W μ n k) (hk : k ≤ 700000) (hr : Tn d) : Wp (F_law_bent [.loc n, d] μ) fun p => OkD p.2 p.1 ∧ W p.2 n (k + 60) ∧ Kp n μ p.2 := by
  obtain ⟨hpl, hdep⟩ := hr.pl
  obtain ⟨s, ws, g, rfl, h1, h2, h3, h5, hg⟩ := hr
  obtain ⟨gpl, gdep⟩ := hg.pl
  have hs : Pl (.int s) := pl_int (by omega)
  have hws : Pl (.tup ws) := ⟨by omega, Pls.of fun x hx => (h3 x hx).pl.1⟩
  -- what stands behind both tests
  have last : ∀ (r : Int) (μ1 : Sto), W μ1 n (k + 1) → Kp n μ μ1 → Wp (fSeq (fIfS (fB (fBin opLt (fVar 2) (fC (.int 8)))) (fSeq (fAsg (fTup (fCons (fBin opIx (fBin opIx (fVar 5) (fC (.int 0))) (fC (.int 0))) (fCons (fBin opIx (fBin opIx (fVar 5) (fC (.int 0))) (fC (.int 1))) (fCons (fBin opIx (fBin opIx (fVar 5) (fC (.int 1))) (fC (.int 0))) (fCons (fBin opIx (fBin opIx (fVar 5) (fC (.int 1))) (fC (.int 1))) fNil))))) (gTp 4 (gCn (gNm 11) (gCn (gNm 12) (gCn (gNm 13) (gCn (gNm 14) gNl))))))
      (fSeq (fAsg (fTup (fCons (fCB F_law_ratio (fCons (fBin opMul (fC (.int 2)) (fBin opIx (fVar 12) (fC (.int 0)))) (fCons (fBin opIx (fVar 12) (fC (.int 1))) fNil))) (fCons (fCB F_law_ratio (fCons (fBin opMul (fC (.int 2)) (fBin opIx (fVar 14) (fC (.int 0)))) (fCons (fBin opIx (fVar 14) (fC (.int 1))) fNil))) fNil))) (gNm 8))
      (fSeq (fAsg (fLst (fCons (fTup (fCons (fTup (fCons (fVar 11) (fCons (fVar 13) fNil))) (fCons (fTup (fCons (fVar 12) (fCons (fVar 14) fNil))) fNil))) (fCons (fTup (fCons (fTup (fCons (fVar 11) (fCons (fBin opIx (fVar 8) (fC (.int 0))) fNil))) (fCons (fTup (fCons (fVar 13) (fCons (fBin opIx (fVar 8) (fC (.int 1))) fNil))) fNil))) (fCons (fTup (fCons (fTup (fCons (fTup (fCons (fC (.int 0)) (fCons (fC (.int 1)) fNil))) (fCons (fTup (fCons (fC (.int 0)) (fCons (fC (.int 1)) fNil))) fNil))) (fCons (fTup (fCons (fTup (fCons (fC (.int 0)) (fCons (fC (.int 1)) fNil))) (fCons (fTup (fCons (fC (.int 0)) (fCons (fC (.int 1)) fNil))) fNil))) fNil))) (fCons (fTup (fCons (fTup (fCons (fVar 12) (fCons (fVar 11) fNil))) (fCons (fTup (fCons (fVar 14) (fCons (fVar 13) fNil))) fNil))) (fCons (fTup (fCons (fTup (fCons (fVar 11) (fCons (fVar 12) fNil))) (fCons (fTup (fCons (fVar 11) (fCons (fVar 12) fNil))) fNil))) fNil)))))) (gNm 7))
      (fRet (fTup (fCons (fVar 3) (fCons (fVar 4) (fCons (fBin opIx (fVar 7) (fCB F_law_take (fCons (fVar 0) (fCons (fC (.int 5)) fNil)))) fNil)))))))) fSkip)
      (fRet (fIf (fB (fBin opLt (fVar 2) (fC (.int 11)))) (fCB (R_law_spoilt deepest) (fCons (fVar 0) (fCons (fVar 1) fNil))) (fCB F_law_odd (fCons (fVar 0) fNil))))
      [some (.loc n), some (.tup [.int s, .tup ws, g]), some (.int r), some (.int s), some (.tup ws), some g, none, none, none, none, none, none, none, none, none] μ1) fun o => match o with
        | .rt d μ' => OkD μ' d ∧ W μ' n (k + 60) ∧ Kp n μ μ'
        | .nx _ μ' => OkD μ' .non ∧ W μ' n (k + 60) ∧ Kp n μ μ'
        | _ => False := by
    intro r μ1 w1 p1
    obtain ⟨a, b, c, e, rfl, na, nb, nc, ne, _⟩ := hg
    simp_arith [opCmp]
    refine ⟨fun _ => ?_, fun _ => ⟨fun _ => ?_, fun _ => ?_⟩⟩
    · have mb : mulOk 2 b.1 = true := mulOk_of (a := 3) (by decide) nb.sm.1 (by decide) (by decide)
      have me : mulOk 2 e.1 = true := mulOk_of (a := 3) (by decide) ne.sm.1 (by decide) (by decide)
      simp_arith [opIx, atI_0, atI_1, frD, opMul, mb, me, sizeLine_eq, Nat.reduceLeDiff]
      refine ratio_ok nb.1.1 nb.sm.2 (by decide) ?_
      simp_arith [opIx, atI_0, atI_1, opMul, mb, me, sizeLine_eq, Nat.reduceLeDiff]
      refine ratio_ok ne.1.1 ne.sm.2 (by decide) ?_
      simp_arith [opIx, atI_0, atI_1, sizeLine_eq, Nat.reduceLeDiff]
      refine (take_ok w1.app (by omega) (by decide) (by decide)).mono ?_
      rintro _ ⟨t, μ2, rfl, a2, b2, w2, p2⟩
      have hn1 : n < μ1.length := let ⟨_, _, _, h, _⟩ := w1; (List.getElem?_eq_some_iff.mp h).1
      have f2 := p2.at_ μ1.length _ (by omega) app_at
      obtain ⟨L, hL, lL, pL⟩ : ∃ L, lstAt μ2 μ1.length = some L ∧ L.length = 5 ∧ ∀ x ∈ L, Pl x := by
        refine ⟨_, lstAt_lst f2, rfl, fun x hx => ?_⟩
        have p01 : Pl (.tup [.int 0, .int 1]) := pl_pair (by show (0 : Int).natAbs < _; decide) (by show (1 : Int).natAbs < _; decide)
        have q1 : Pl (frD (redI (2 * b.1) b.2)) := pl_red (by have := nb.2.1; omega) (by have := nb.2.2; omega)
        have q2 : Pl (frD (redI (2 * e.1) e.2)) := pl_red (by have := ne.2.1; omega) (by have := ne.2.2; omega)
        simp only [List.mem_cons, List.not_mem_nil, or_false] at hx
        rcases hx with rfl | rfl | rfl | rfl | rfl
        · exact pl_pair (pl_pair na.pl.1 nc.pl.1) (pl_pair nb.pl.1 ne.pl.1)
        · exact pl_pair (pl_pair na.pl.1 q1) (pl_pair nc.pl.1 q2)
        · exact pl_pair (pl_pair p01 p01) (pl_pair p01 p01)
        · exact pl_pair (pl_pair nb.pl.1 na.pl.1) (pl_pair ne.pl.1 nc.pl.1)
        · exact pl_pair (pl_pair na.pl.1 nb.pl.1) (pl_pair na.pl.1 nb.pl.1)
      obtain ⟨x, ex, hx⟩ := atI_mem (ds := L) a2 (by rw [lL]; exact b2)
      have px : Pl x := pL x hx
      simp_arith [hL, ex, sizeLine_eq, Nat.reduceLeDiff]
      exact ⟨Pl.ok _ ⟨by simp, hs, hws, px, trivial⟩, w2.le (by omega), p1.trans (Kp.app.trans p2)⟩
    · refine (spoilt_ok 12 w1 (by omega) hpl (by omega)).mono ?_
      rintro ⟨y, μ3⟩ ⟨q1, q2, q3⟩
      exact ⟨q1, q2.le (by omega), p1.trans q3⟩
    · refine (odd_ok w1 (by omega)).mono ?_
      rintro ⟨y, μ3⟩ ⟨q1, q2, q3⟩
      exact ⟨q1, q2.le (by omega), p1.trans q3⟩
  unfold F_law_bent
  generalize hG : (fSeq (fIfS (fB (fBin opLt (fVar 2) (fC (.int 8)))) (fSeq (fAsg (fTup (fCons (fBin opIx (fBin opIx (fVar 5) (fC (.int 0))) (fC (.int 0))) (fCons (fBin opIx (fBin opIx (fVar 5) (fC (.int 0))) (fC (.int 1))) (fCons (fBin opIx (fBin opIx (fVar 5) (fC (.int 1))) (fC (.int 0))) (fCons (fBin opIx (fBin opIx (fVar 5) (fC (.int 1))) (fC (.int 1))) fNil))))) (gTp 4 (gCn (gNm 11) (gCn (gNm 12) (gCn (gNm 13) (gCn (gNm 14) gNl))))))
      (fSeq (fAsg (fTup (fCons (fCB F_law_ratio (fCons (fBin opMul (fC (.int 2)) (fBin opIx (fVar 12) (fC (.int 0)))) (fCons (fBin opIx (fVar 12) (fC (.int 1))) fNil))) (fCons (fCB F_law_ratio (fCons (fBin opMul (fC (.int 2)) (fBin opIx (fVar 14) (fC (.int 0)))) (fCons (fBin opIx (fVar 14) (fC (.int 1))) fNil))) fNil))) (gNm 8))
      (fSeq (fAsg (fLst (fCons (fTup (fCons (fTup (fCons (fVar 11) (fCons (fVar 13) fNil))) (fCons (fTup (fCons (fVar 12) (fCons (fVar 14) fNil))) fNil))) (fCons (fTup (fCons (fTup (fCons (fVar 11) (fCons (fBin opIx (fVar 8) (fC (.int 0))) fNil))) (fCons (fTup (fCons (fVar 13) (fCons (fBin opIx (fVar 8) (fC (.int 1))) fNil))) fNil))) (fCons (fTup (fCons (fTup (fCons (fTup (fCons (fC (.int 0)) (fCons (fC (.int 1)) fNil))) (fCons (fTup (fCons (fC (.int 0)) (fCons (fC (.int 1)) fNil))) fNil))) (fCons (fTup (fCons (fTup (fCons (fC (.int 0)) (fCons (fC (.int 1)) fNil))) (fCons (fTup (fCons (fC (.int 0)) (fCons (fC (.int 1)) fNil))) fNil))) fNil))) (fCons (fTup (fCons (fTup (fCons (fVar 12) (fCons (fVar 11) fNil))) (fCons (fTup (fCons (fVar 14) (fCons (fVar 13) fNil))) fNil))) (fCons (fTup (fCons (fTup (fCons (fVar 11) (fCons (fVar 12) fNil))) (fCons (fTup (fCons (fVar 11) (fCons (fVar 12) fNil))) fNil))) fNil)))))) (gNm 7))
      (fRet (fTup (fCons (fVar 3) (fCons (fVar 4) (fCons (fBin opIx (fVar 7) (fCB F_law_take (fCons (fVar 0) (fCons (fC (.int 5)) fNil)))) fNil)))))))) fSkip)
      (fRet (fIf (fB (fBin opLt (fVar 2) (fC (.int 11)))) (fCB (R_law_spoilt deepest) (fCons (fVar 0) (fCons (fVar 1) fNil))) (fCB F_law_odd (fCons (fVar 0) fNil))))) = G at last ⊢
  clear hG
  simp_arith []
  refine (take_ok w (by omega) (by decide) (by decide)).mono ?_
  rintro _ ⟨r, μ1, rfl, a1, b1, w1, p1⟩
  have lst := last r μ1 w1 p1
  simp_arith [opCmp, sizeLine_eq, Nat.reduceLeDiff, ne_tup_nil]
  have lst' := lst.mono (R := fun o => match o with
        | .rt d μ' => OkD μ' d ∧ W μ' n (k + 60) ∧ Kp n μ μ'
        | .nx _ μ' => OkD μ' .non ∧ W μ' n (k + 60) ∧ Kp n μ μ'
        | _ => False) (fun _ z => z)
  refine ⟨fun c1 => ⟨fun c2 => ?_, fun _ => lst'⟩, fun _ => lst'⟩
  have hpos : 0 < ws.length := by
    cases ws with
    | nil => simp at c2
    | cons x xs => simp
  simp_arith [cLen]
  refine (take_ok w1 (j := ws.length) (by omega) (by omega) (by omega)).mono ?_
  rintro _ ⟨t, μ2, rfl, a2, b2, w2, p2⟩
  obtain ⟨i, rfl⟩ := Int.eq_ofNat_of_zero_le a2
  have hi : i < ws.length := by omega
  obtain ⟨p, q, ew, _, bp, bq⟩ := h3 _ (List.getElem_mem hi)
  have m1 : mulOk 2 p = true := mulOk_small (by decide) (by omega)
  have m2 : mulOk 2 q = true := mulOk_small (by decide) (by omega)
  simp_arith [opIx, atI_at, List.getElem?_eq_getElem hi, ew, opMul, m1, m2, opSub, sizeLine_eq, Nat.reduceLeDiff]
  obtain ⟨L, hL, lL, pL⟩ : ∃ L, lstAt (μ2 ++ [Ob.lst [.tup [.int (2 * p), .int (2 * q)], .tup [.int (0 - p), .int (0 - q)], .tup [.int q, .int (0 - p)], .tup [.int (0 - q), .int p]]]) μ2.length = some L ∧ L.length = 4 ∧ ∀ x ∈ L, Pl x := by
    refine ⟨_, lstAt_lst app_at, rfl, fun x hx => ?_⟩
    have pi : ∀ z : Int, z.natAbs < 1000 → Pl (.int z) := fun z hz => pl_int (by omega)
    simp only [List.mem_cons, List.not_mem_nil, or_false] at hx
    rcases hx with rfl | rfl | rfl | rfl
    · exact pl_pair (pi _ (by omega)) (pi _ (by omega))
    · exact pl_pair (pi _ (by omega)) (pi _ (by omega))
    · exact pl_pair (pi _ (by omega)) (pi _ (by omega))
    · exact pl_pair (pi _ (by omega)) (pi _ (by omega))
  obtain ⟨x, ex, hx⟩ := atI_mem (ds := L) (i := r) a1 (by rw [lL]; omega)
  have px : Pl x := pL x hx
  have pw : ∀ y ∈ ws, Pl y := fun y hy => Pls.mem hws.2 hy
  simp_arith [hL, ex, cInt, opCmp, opAdd]
  obtain ⟨j, hj, ej⟩ : ∃ j : Nat, j ≤ ws.length ∧ ((i : Int) + if 1 < r then 1 else 0) = (j : Int) := by
    by_cases c : 1 < r
    · exact ⟨i + 1, hi, by rw [if_pos c]; rfl⟩
    · exact ⟨i, by omega, by rw [if_neg c]; omega⟩
  have e1 : ((i : Int) + 1) = ((i + 1 : Nat) : Int) := rfl
  have z1 : (ws.take j).length + 1 ≤ 16777216 := by simp; omega
  have z2 : (ws.take j ++ [x]).length + (ws.drop (i + 1)).length ≤ 16777216 := by simp; omega
  rw [ej]
  simp_arith [slD, cut_to hj, e1, cut_from (show i + 1 ≤ ws.length by omega), sizeLine_eq, z1, z2]
  refine ⟨⟨by simp, Pl.ok _ hs, Pl.ok _ ⟨by simp; omega, Pls.of fun y hy => ?_⟩, Pl.ok _ gpl, trivial⟩, w2.app.le (by omega), p1.trans (p2.trans Kp.app)⟩
  rcases List.mem_append.mp hy with z | z
  · rcases List.mem_append.mp z with z | z
    · exact pw y (List.mem_of_mem_take z)
    · have : y = x := by simpa using z
      rw [this]; exact px
  · exact pw y (List.mem_of_mem_drop z)
end K37
namespace K37
open PySem PySem.Spec PyProof.Rows L2 DL
abbrev two (b : Bool) : PyData := .list [.bool b, .bool b]
theorem repr_ok {μ : Sto} {n : Nat} {b : Bool} (h : μ[n]? = some (.lst [.bl b, .bl b])) : cRepr [.loc n] μ = some (.str (two b).shown, μ) := by
  have c : (two b).showable = true ∧ (two b).depth ≤ 40 ∧ (two b).shown.length ≤ sizeLine := by
    refine ⟨?_, ?_, le_line ?_⟩
    · cases b <;> decide +kernel
    · cases b <;> decide +kernel
    · cases b <;> decide +kernel
  unfold cRepr
  simp only [h, pysS, pyS, Option.bind_some]
  rw [if_pos c]
theorem ne_same {μ : Sto} {s : Str} : opNe (.str s) (.str s) μ = some (.bl false, μ) := by
  simp [opNe, rc_str]
theorem right_ok {μ : Sto} {n k : Nat} (w : W μ n k) (hk : k ≤ 1000) : Wp (F_law_right [.loc n] μ) fun p => p.1 = .bl true ∧ Kp n μ p.2 := by
  unfold F_law_right
  simp_arith []
  refine (ldraw_ok w (by omega)).mono ?_
  rintro ⟨d, μ3⟩ ⟨hr, w2, kp3⟩
  dsimp only at hr w2 kp3
  simp_arith [iRng1'.eq_1, show -(2 ^ 62) ≤ (6 : Int) ∧ (6 : Int) < 2 ^ 62 by decide, itLen]
  have rp := hr.pl
  refine (loop_rng (n := 6) (I := fun i ρ μ' => (∃ c2 c3 c4, ρ = [some (.loc n), some d, c2, c3, c4]) ∧ W μ' n (k + 200 + 60 * i) ∧ Kp n μ μ') ?_ 6 0 _ _ rfl ⟨⟨_, _, _, rfl⟩, w2.le (by omega), kp3⟩).mono ?_
  · rintro i _ μ4 hi ⟨⟨c2, c3, c4, rfl⟩, w4, kp4⟩
    have body : ∀ (x : D) (μ5 : Sto), OkD μ5 x → W μ5 n (k + 200 + 60 * i + 60) → Kp n μ μ5 → Wp (fSeq (fAsg (fCB F_law_judged (fCons (fVar 3) fNil)) (gNm 4))
        (fIfS (fB (fBin opNe (fCB cRepr (fCons (fLst (fCons (fCB F_is_turns (fCons (fVar 3) fNil)) (fCons (fCB F_is_turns (fCons (fVar 3) fNil)) fNil))) fNil)) (fCB cRepr (fCons (fLst (fCons (fVar 4) (fCons (fVar 4) fNil))) fNil)))) (fRet (fC (.bl false))) fSkip) [some (.loc n), some d, some (.int (0 + (i : Int))), some x, c4] μ5)
        fun o => ∃ ρ' μ', o = .nx ρ' μ' ∧ (∃ c2 c3 c4, ρ' = [some (.loc n), some d, c2, c3, c4]) ∧ W μ' n (k + 200 + 60 * (i + 1)) ∧ Kp n μ μ' := by
      intro x μ5 ox w5 kp5
      simp_arith [sizeLine_eq, Nat.reduceLeDiff]
      refine judged_ok ox fun μ6 g6 => ?_
      simp_arith []
      refine turns_ok (OkD.gr g6 x ox) fun μ7 g7 => ?_
      simp_arith []
      refine turns_ok (OkD.gr g7 x (OkD.gr g6 x ox)) fun μ8 g8 => ?_
      have e1 : (μ8 ++ [Ob.lst [.bl (turnD x), .bl (turnD x)]])[μ8.length]? = some (.lst [.bl (turnD x), .bl (turnD x)]) := by simp
      have e2 : (μ8 ++ [Ob.lst [.bl (turnD x), .bl (turnD x)]] ++ [Ob.lst [.bl (turnD x), .bl (turnD x)]])[(μ8 ++ [Ob.lst [.bl (turnD x), .bl (turnD x)]]).length]? = some (.lst [.bl (turnD x), .bl (turnD x)]) := by simp
      simp_arith [repr_ok e1, repr_ok e2, ne_same]
      have gg : Gr μ5 (μ8 ++ [Ob.lst [.bl (turnD x), .bl (turnD x)]] ++ [Ob.lst [.bl (turnD x), .bl (turnD x)]]) := g6.trans (g7.trans (g8.trans (Gr.app.trans Gr.app)))
      exact ⟨_, _, rfl, ⟨_, _, _, rfl⟩, (w5.gr gg).le (by omega), kp5.trans gg.kp⟩
    have e0 : ∀ {Q : D × Sto → Prop}, (∀ x μ5, OkD μ5 x → W μ5 n (k + 200 + 60 * i + 60) → Kp n μ μ5 → Q (x, μ5)) → Wp (fIf (fB (fBin opEqM (fVar 2) (fC (.int 0)))) (fVar 1) (fCB F_law_bent (fCons (fVar 0) (fCons (fVar 1) fNil))) [some (.loc n), some d, some (.int (0 + (i : Int))), c3, c4] μ4) Q := by
      intro Q q
      simp_arith [eq_int]
      refine ⟨fun _ => q _ _ (Pl.ok d rp.1) (w4.le (by omega)) kp4, fun _ => ?_⟩
      refine (bent_ok w4 (by omega) hr).mono ?_
      rintro ⟨x, μ5⟩ ⟨q1, q2, q3⟩
      exact q x μ5 q1 q2 (kp4.trans q3)
    rw [Wp.bind]
    unfold gNm
    rw [Wp.some]
    show Wp (fSeq (fAsg (fIf _ _ _) (gNm 3)) _ [some (.loc n), some d, some (.int (0 + (i : Int))), c3, c4] μ4) _
    unfold fSeq
    rw [Wp.bind]
    unfold fAsg
    rw [Wp.bind]
    refine e0 fun x μ5 q1 q2 q3 => ?_
    unfold gNm
    rw [Option.bind_some, Wp.some]
    exact body x μ5 q1 q2 q3
  · rintro _ ⟨ρ', μ', rfl, ⟨c2, c3, c4, rfl⟩, h2, h3⟩
    simp_arith []
    refine turns_ok (Pl.ok d rp.1) fun μ5 g5 => ?_
    rw [hr.turn]
    simp_arith [opIsB, decide_true]
    exact h3.trans g5.kp
theorem loop_lst {g : GF} {b : SF} {f : Nat} {n : Nat} {x : Nat → D} (I : Nat → Sl → Sto → Prop) (hit : ∀ i ρ μ, I i ρ μ → itAt (.lst f) i μ = some (if i < n then some (x i) else none))
    (step : ∀ i ρ μ, i < n → I i ρ μ → Wp ((g (x i) ρ μ).bind fun p => b p.1 p.2) fun o => ∃ ρ' μ', o = .nx ρ' μ' ∧ I (i + 1) ρ' μ') :
    ∀ (m i : Nat) (ρ : Sl) (μ : Sto), m + i = n → I i ρ μ → Wp (loopF g b (.lst f) m i ρ μ) fun o => ∃ ρ' μ', o = .nx ρ' μ' ∧ I n ρ' μ' := by
  intro m
  induction m with
  | zero =>
    intro i ρ μ hi h
    have : i = n := by omega
    subst this
    refine Wp.of (a := .nx ρ μ) ?_ ⟨ρ, μ, rfl, h⟩
    unfold loopF
    rw [hit i ρ μ h, if_neg (by omega)]
  | succ m ih =>
    intro i ρ μ hi h
    have lt : i < n := by omega
    obtain ⟨o, e, ρ', μ', rfl, h'⟩ := step i ρ μ lt h
    obtain ⟨r, e2, q⟩ := ih (i + 1) ρ' μ' (by omega) h'
    refine ⟨r, ?_, q⟩
    unfold loopF
    obtain ⟨p, e3, e4⟩ := Option.bind_eq_some_iff.mp e
    rw [hit i ρ μ h]
    simp only [lt, if_true, e3, Option.bind_some, e4]
    exact e2
theorem fmod_pos {i m : Int} (h : 0 < m) : 0 ≤ i.fmod m ∧ i.fmod m < m := by
  rw [Int.fmod_eq_emod_of_nonneg _ (by omega)]
  exact ⟨Int.emod_nonneg _ (by omega), Int.emod_lt_of_pos _ h⟩
theorem cut_ten {ns : List Int} : DL.cutD (ns.map D.int) none (some 10) = (ns.take 10).map D.int := by
  unfold DL.cutD
  have e : HT.sIx (ns.map D.int).length (ns.map D.int).length (some 10) = min 10 (ns.map D.int).length := HT.sIx_nat _ _ 10
  rw [HT.sIx_none, e]
  simp only [List.drop_zero, Nat.sub_zero, List.length_map]
  rw [← List.map_take]
  congr 1
  rw [List.take_eq_take_iff]
  omega
theorem seq_wp {f g : SF} {ρ : Sl} {μ : Sto} {Q : Out → Prop} (h : Wp (f ρ μ) fun o => ∃ ρ1 μ1, o = .nx ρ1 μ1 ∧ Wp (g ρ1 μ1) Q) : Wp (fSeq f g ρ μ) Q := by
  obtain ⟨o, e, ρ1, μ1, rfl, r, e2, q⟩ := h
  exact ⟨r, by unfold fSeq; rw [e]; exact e2, q⟩
theorem asg_wp {f : EF} {g : GF} {ρ : Sl} {μ : Sto} {Q : Out → Prop} (h : Wp (f ρ μ) fun p => Wp (g p.1 ρ p.2) fun q => Q (.nx q.1 q.2)) : Wp (fAsg f g ρ μ) Q := by
  unfold fAsg
  rw [Wp.bind]
  refine h.mono fun p hp => ?_
  rw [Wp.bind]
  refine hp.mono fun q hq => ?_
  rw [Wp.some]
  exact hq
theorem well_ok {μ : Sto} {ns : List Int} {t : Nat} (l0 : lstAt μ 0 = some (ns.map D.int)) (ht : t ≤ 3) : Wp (F_law_well [.loc 0, .int t] μ) fun p => ∃ n, p.1 = .loc n ∧ μ.length ≤ n ∧ W p.2 n 0 ∧ Gr μ p.2 := by
  unfold F_law_well
  have m1 : mulOk 7349 (t : Int) = true := mulOk_small (by omega) (by omega)
  rw [fDef_eq]
  refine ⟨rfl, seq_wp (asg_wp ?_)⟩
  show Wp ((fBin opAdd (fC (.int 60101)) (fBin opMul (fC (.int 7349)) (fVar 1))) [some (.loc 0), some (.int t), none, none, none] μ) _
  have lc : lstAt (μ ++ [Ob.lst ((ns.take 10).map D.int)]) μ.length = some ((ns.take 10).map D.int) := by unfold lstAt; simp
  have l1 : lstAt (μ ++ [Ob.lst ((ns.take 10).map D.int)]) 0 = some (ns.map D.int) := Gr.app.lst l0
  refine Wp.of (a := (.int (60101 + 7349 * t), μ)) (by simp [fBin, fC, fVar, opMul, m1, opAdd]) ?_
  refine Wp.of rfl ⟨_, _, rfl, seq_wp ?_⟩
  have q3 : mulOk 31 (t : Int) = true := mulOk_small (by omega) (by omega)
  have hit : iLst (fSl (fVar 0) fNoPart (fPart (fC (.int 10)))) [some (.loc 0), some (.int t), some (.int (60101 + 7349 * t)), none, none] μ = some (.lst μ.length, μ ++ [Ob.lst ((ns.take 10).map D.int)]) := by
    simp only [iLst, fSl, fVar, fNoPart, fPart, fC, List.getElem?_cons_zero, Option.bind_some, slD, l0, Option.map_some, cut_ten, lc, Option.isSome_some, if_true]
  show Wp (fFor _ _ _ [some (.loc 0), some (.int t), some (.int (60101 + 7349 * t)), none, none] μ) _
  unfold fFor
  rw [hit, Option.bind_some]
  refine (loop_lst (n := (ns.take 10).length) (x := fun i => .int ((ns.take 10).getD i 0)) (I := fun i ρ μ' => (∃ (m : Int) (c3 : Option D), ρ = [some (.loc 0), some (.int t), some (.int m), c3, none] ∧ 0 ≤ m ∧ m < 2147483648) ∧ μ' = μ ++ [Ob.lst ((ns.take 10).map D.int)]) ?_ ?_ _ 0 _ _ ?_ ⟨⟨_, _, rfl, by omega, by omega⟩, rfl⟩).mono ?_
  · rintro i ρ _ ⟨_, rfl⟩
    simp only [itAt, lc, Option.map_some]
    by_cases hi : i < (ns.take 10).length
    · rw [if_pos hi, List.getElem?_map, List.getElem?_eq_getElem hi, List.getD_eq_getElem?_getD, List.getElem?_eq_getElem hi]; rfl
    · rw [if_neg hi, List.getElem?_eq_none (by simpa using hi)]
  · rintro i _ _ hi ⟨⟨m, c3, rfl, hm1, hm2⟩, rfl⟩
    have q1 : mulOk m 48673 = true := mulOk_small (by omega) (by omega)
    simp_arith [opMul, q1, opMod, cInt, opAdd]
    generalize (ns.take 10).getD i 0 = c
    have b1 := fmod_pos (i := m * 48673 + c.fmod 2147483563 + 29) (m := 2147483629) (by decide)
    refine need (by decide) (need (by decide) ⟨_, _, rfl, ⟨_, _, rfl, b1.1, by omega⟩, rfl⟩)
  · simp only [itLen, lc, Option.getD_some, List.length_map]; omega
  · rintro _ ⟨ρ', μ', rfl, ⟨m, c3, rfl, hm1, hm2⟩, rfl⟩
    refine ⟨_, _, rfl, seq_wp (asg_wp ?_)⟩
    have q2 : mulOk m 131 = true := mulOk_small (by omega) (by omega)
    have rest : ∀ own : Int, 0 ≤ own → Wp (fSeq (fAsg (fBin opMod (fCB cInt (fCons (fBin opAdd (fBin opAdd (fBin opMul (fVar 2) (fC (.int 131))) (fBin opMul (fBin opMod (fCB cInt (fCons (fVar 4) fNil)) (fC (.int 2147483549))) (fC (.int 6091)))) (fC (.int 11))) fNil)) (fC (.int 2147483629))) (gNm 2))
        (fRet (fLst (fCons (fIf (fB (fBin opGe (fVar 4) (fBin opPow (fC (.int 10)) (fC (.int 18))))) (fVar 4) (fC (.int 0))) (fCons (fVar 2) (fCons (fC (.int 0)) fNil))))) [some (.loc 0), some (.int t), some (.int m), c3, some (.int own)] (μ ++ [Ob.lst ((ns.take 10).map D.int)]))
        fun o => match o with
          | .rt d μ' => ∃ n, d = .loc n ∧ μ.length ≤ n ∧ W μ' n 0 ∧ Gr μ μ'
          | .nx _ μ' => ∃ n, D.non = .loc n ∧ μ.length ≤ n ∧ W μ' n 0 ∧ Gr μ μ'
          | _ => False := by
      intro own ho
      have b2 := fmod_pos (i := own) (m := 2147483549) (by decide)
      have q4 : mulOk (own.fmod 2147483549) 6091 = true := mulOk_small (by omega) (by omega)
      have b3 := fmod_pos (i := m * 131 + own.fmod 2147483549 * 6091 + 11) (m := 2147483629) (by decide)
      simp_arith [opMul, q2, opMod, cInt, opAdd, q4, pow18, opCmp, sizeLine_eq, Nat.reduceLeDiff]
      have wk : ∀ a : Int, 0 ≤ a → W (μ ++ [Ob.lst ((ns.take 10).map D.int)] ++ [Ob.lst [.int a, .int ((m * 131 + own.fmod 2147483549 * 6091 + 11).fmod 2147483629), .int 0]]) (μ ++ [Ob.lst ((ns.take 10).map D.int)]).length 0 := fun a ha =>
        ⟨a, _, 0, by simp, ha, b3.1, by omega, by omega, by omega⟩
      refine need (by decide) (need (by decide) ⟨fun _ => ⟨_, rfl, by simp, wk own ho, Gr.app.trans Gr.app⟩, fun _ => ⟨_, rfl, by simp, wk 0 (by omega), Gr.app.trans Gr.app⟩⟩)
    have own_ : ∀ {Q : D × Sto → Prop}, (∀ own : Int, 0 ≤ own → Q (.int own, μ ++ [Ob.lst ((ns.take 10).map D.int)])) → Wp (fIf (fB (fBin opLt (fVar 1) (fCB cLen (fCons (fVar 0) fNil)))) (fCB cAbs (fCons (fCB cInt (fCons (fBin opIx (fVar 0) (fVar 1)) fNil)) fNil)) (fBin opAdd (fC (.int 104711)) (fBin opMul (fC (.int 31)) (fVar 1))) [some (.loc 0), some (.int t), some (.int m), c3, none] (μ ++ [Ob.lst ((ns.take 10).map D.int)])) Q := by
      intro Q q
      simp_arith [cLen, l1, opCmp, opIx, cInt, cAbs, opMul, q3, opAdd, List.length_map]
      refine ⟨fun h => ?_, fun h => q _ (by omega)⟩
      have hlt : t < ns.length := by omega
      rw [atI_at, List.getElem?_map, List.getElem?_eq_getElem hlt]
      simp_arith [cInt, cAbs]
      exact q _ (by split <;> omega)
    refine own_ fun own ho => ?_
    refine Wp.of rfl ⟨_, _, rfl, rest own ho⟩
theorem lc_any {g : GF} {fe : EF} {ρ : Sl} {μ0 : Sto} {it : ItD} {n : Nat} {x : Nat → D} {R : D → Prop} (hit : ∀ i μ, Gr μ0 μ → itAt it i μ = some (if i < n then some (x i) else none)) (hn : n ≤ 1000)
    (h : ∀ i, i < n → ∀ μ, Gr μ0 μ → ∃ ρ1, g (x i) ρ μ = some (ρ1, μ) ∧ Wp (fe ρ1 μ) fun r => R r.1 ∧ Gr μ r.2) :
    ∀ (m i : Nat) (acc : List D) (more : Sto), m + i = n → acc.length = i → (∀ d ∈ acc, R d) → Wp (lcF g fYes fe it μ0.length ρ m i (μ0 ++ .lst acc :: more)) fun μ' => ∃ acc' more', μ' = μ0 ++ .lst acc' :: more' ∧ acc'.length = n ∧ ∀ d ∈ acc', R d := by
  intro m
  induction m with
  | zero =>
    intro i acc more hi ha hr
    refine Wp.of (a := μ0 ++ .lst acc :: more) ?_ ⟨acc, more, rfl, by omega, hr⟩
    unfold lcF
    rw [hit _ _ Gr.app, if_neg (by omega)]
  | succ m ih =>
    intro i acc more hi ha hr
    have lt : i < n := by omega
    obtain ⟨ρ1, e2, ⟨y, μy⟩, f1, f2, ⟨my, f3⟩⟩ := h i lt (μ0 ++ .lst acc :: more) Gr.app
    dsimp only at f2 f3
    have e7 : μy = μ0 ++ .lst acc :: (more ++ my) := by rw [f3]; simp
    have e8 : μy[μ0.length]? = some (.lst acc) := by rw [e7]; simp
    unfold lcF
    rw [hit _ _ Gr.app]
    simp only [lt, if_true, e2, Option.bind_some, fYes, f1, e8]
    rw [if_pos (by rw [sizeLine_eq]; omega)]
    have e9 : μy.set μ0.length (.lst (acc ++ [y])) = μ0 ++ .lst (acc ++ [y]) :: (more ++ my) := by rw [e7]; simp [List.set_append_right]
    rw [e9]
    refine ih (i + 1) (acc ++ [y]) _ (by omega) (by simp [ha]) fun d hd => ?_
    rcases List.mem_append.mp hd with z | z
    · exact hr d z
    · have : d = y := by simpa using z
      rw [this]; exact f2
theorem fLc_any {fi : IF} {g : GF} {fe : EF} {vs : List Nat} {ρ : Sl} {μ μ0 : Sto} {it : ItD} {n : Nat} {x : Nat → D} {R : D → Prop} {Q : D × Sto → Prop} (hi : fi ρ μ = some (it, μ0)) (hit : ∀ i μ, Gr μ0 μ → itAt it i μ = some (if i < n then some (x i) else none)) (hn : n ≤ 1000) (hl : itLen it μ0 = n)
    (h : ∀ i, i < n → ∀ μ, Gr μ0 μ → ∃ ρ1, g (x i) (wipeD ρ vs) μ = some (ρ1, μ) ∧ Wp (fe ρ1 μ) fun r => R r.1 ∧ Gr μ r.2)
    (k : ∀ m μ' ds, lstAt μ' m = some ds → ds.length = n → (∀ d ∈ ds, R d) → Gr μ0 μ' → Q (.loc m, μ')) : Wp (fLc fi g fYes fe vs ρ μ) Q := by
  obtain ⟨_, e1, acc, m', rfl, h1, h2⟩ := lc_any hit hn h n 0 [] [] rfl rfl (by simp)
  refine Wp.of (a := (.loc μ0.length, μ0 ++ .lst acc :: m')) ?_ (k _ _ acc ?_ h1 h2 ⟨_, rfl⟩)
  · unfold fLc
    simp only [hi, Option.bind_some, hl]
    rw [e1]
    rfl
  · unfold lstAt
    simp
theorem rng_small {r : Nat} (h : r ≤ 1000) : -(2 ^ 62) ≤ (r : Int) ∧ (r : Int) < 2 ^ 62 := by omega
theorem iRng1_of {f : AF} {ρ : Sl} {μ μ' : Sto} {r : Nat} (h : f ρ μ = some ([.int (r : Int)], μ')) (hr : r ≤ 1000) : iRng1' f ρ μ = some (.rng 0 r, μ') := by
  unfold iRng1'
  rw [h, Option.bind_some]
  show (if -(2 ^ 62) ≤ (r : Int) ∧ (r : Int) < 2 ^ 62 then some (ItD.rng 0 (r : Int).toNat, μ') else none) = _
  rw [if_pos (rng_small hr), Int.toNat_natCast]
/-- THE LAW, on data -/
theorem law_ok {μ : Sto} {ns : List Int} (l0 : lstAt μ 0 = some (ns.map D.int)) (h2 : 0 < μ.length) : Wp (F_law [.loc 0] μ) fun p => p.1 = .bl true := by
  unfold F_law
  simp_arith []
  have rd : ∃ r : Nat, r ≤ 3 ∧ F_law_rounds [.loc 0] μ = some (.int r, μ) := by
    refine ⟨max 2 (min ns.length 3), by omega, ?_⟩
    simp only [F_law_rounds, fDef, List.length_cons, List.length_nil, if_true, List.map_cons, List.map_nil, fRet, fCB, fCons, fNil, fVar, fC, List.cons_append, List.getElem?_cons_zero, Option.bind_some, cLen, l0, Option.map_some, cMin, cMax, List.length_map]
    congr 2
    split <;> split <;> simp <;> omega
  obtain ⟨r, hr, er⟩ := rd
  refine fLc_any (it := .rng 0 r) (n := r) (x := fun i => .int (0 + (i : Int))) (R := fun d => d = .bl true) (μ0 := μ) ?_ (fun _ _ _ => rfl) (by omega) rfl (fun i hi μ1 g1 => ?_) (fun m μ' ds k1 k2 k3 k4 => ?_)
  · refine iRng1_of ?_ (by omega)
    simp only [fCons, fNil, fCB, fVar, List.getElem?_cons_zero, Option.bind_some, er]
  · refine ⟨[some (.loc 0), some (.int (0 + (i : Int)))], rfl, ?_⟩
    simp_arith []
    have : (0 + (i : Int)) = ((i : Nat) : Int) := by omega
    rw [this]
    refine (well_ok (g1.lst l0) (by omega)).mono ?_
    rintro ⟨_, μ2⟩ ⟨n, rfl, hn, w, g2⟩
    have h3 : μ.length ≤ μ1.length := by obtain ⟨mm, rfl⟩ := g1; simp
    refine (right_ok w (by decide)).mono ?_
    rintro ⟨d, μ3⟩ ⟨e, kp⟩
    refine ⟨e, ?_⟩
    -- what stood ahead of the well stands still
    refine ⟨μ3.drop μ1.length, ?_⟩
    have hl : μ1.length ≤ μ3.length := Nat.le_trans (by obtain ⟨mm, rfl⟩ := g2; simp) kp.len
    refine List.ext_getElem? fun j => ?_
    by_cases hj : j < μ1.length
    · rw [List.getElem?_append_left hj]
      have e1 : μ1[j]? = some μ1[j] := List.getElem?_eq_getElem hj
      rw [e1]
      exact kp.at_ _ _ (by omega) (g2.get e1)
    · rw [List.getElem?_append_right (by omega), List.getElem?_drop]
      congr 1
      omega
  · have e1 : (lstAt μ' m).bind blsOf = some (ds.map fun _ => true) := by
      rw [k1]
      have : ds = (ds.map fun _ => true).map D.bl := by
        rw [List.map_map]
        conv => lhs; rw [← List.map_id ds]
        exact List.map_congr_left fun d hd => k3 d hd
      show blsOf ds = _
      rw [this, blsOf_bls]
      simp
    have e2 : cAll [.loc m] μ' = some (.bl true, μ') := by
      unfold cAll
      simp only [e1, Option.map_some]
      simp
    rw [e2]
    simp_arith []
end K37
namespace K37
open PySem PySem.Spec PyProof.Rows L2 DL
theorem ints_reps {K : PySem.W.Frag} {H : Hp} {α : List Addr} : ∀ ns : List Int, Reps K H α (ns.map D.int) (ns.map V.int)
  | [] => rfl
  | i :: r => ⟨_, _, rfl, rfl, ints_reps r⟩
theorem start {K : PySem.W.Frag} {H : Hp} {a : Addr} {ob : Obj} {ns : List Int} (hH : H a = some (.frz ob (.lst (ns.map V.int)))) :
    spF K F_law [.ref a] H (fun v _ => v = .bl true) E0 := by
  have S : RepS K H [a] [.frz (ns.map D.int)] := by
    refine ⟨by simp, rfl, fun n b o e1 e2 => ?_⟩
    match n with
    | 0 =>
      cases e1
      cases e2
      exact ⟨ob, _, hH, ints_reps ns⟩
    | n + 1 => cases e1
  obtain ⟨⟨d, μ'⟩, e, hd⟩ := law_ok (μ := [.frz (ns.map D.int)]) (ns := ns) rfl (by simp)
  refine ⟨[a], _, [.loc 0], d, μ', S, ⟨_, _, rfl, ⟨a, rfl, rfl⟩, rfl⟩, e, fun H' α' v E' S' r => ?_⟩
  cases (show d = .bl true from hd)
  exact r
end K37
open PySem PySem.W PySem.Calls PyProof.Rows
theorem PySem.Challenge.cw_bandsplits_k37_whole_turns_judged_holds : PySem.Challenge.rw_bandsplits_k37_whole_turns_judged.Holds := by
  w_on; o_law
  refine HandSHeadRun.head_imp (r := K37.Rw) (q := view K37.Rw.prog [0, 38]) (H := K37.hk) (ob := K37.ob) (M := 8000) (loose := K37.loose) (d := HandSHeadRun.topDef K37.Rw.prog 38) (kwd := []) K37.ob_eq
    K37.run (by kernel_rfl) (by kernel_rfl) (by kernel_rfl) (by rfl) (by first | assumption | decide +kernel) (by decide +kernel) ⟨rfl, rfl, rfl, rfl, rfl, by decide +kernel⟩ ?hw ?hc
  case hw => w_witness2
  case hc =>
    refine QF.walkT (l := PySem.Challenge.rw_bandsplits_k37_whole_turns_judged) (n := 63) (k := 18) (x := "_law_script") rfl (by decide) (by kernel_rfl) ⟨rfl, by decide, by decide⟩ ?F
    intro w mg fa h K KX S G hmg0
    have hmg : mg ("law" : PySem.Str) = some (.ref fa) := by
      have e : (HandSHeadRun.topDef K37.Rw.prog 38).name = ("law" : PySem.Str) := by kernel_rfl
      rw [← e]
      exact hmg0
    obtain ⟨fd, F⟩ := S.d.def_ 32 (d := K37.hd32) rfl
    have ea : fa = He.fAd K ("law", none) := by
      have e := hmg.symm.trans (He.glo_ok KX G (He.SaysD.facts S.d (List.mem_append_left _ (List.mem_map.mpr ⟨"law", by simp [K37.hGlo], rfl⟩))))
      cases e
      rfl
    subst ea
    refine ⟨fd, DL.spF K K37.F_law, fun s v => L2.FunD.bindsA (ps := ["_law_script"]) F (fun _ _ _ _ _ _ us hl => match us, hl with | [_], _ => rfl) s [v] rfl, fun H a ob ns _ hH ht => ?_, fun base _ _ T => ?_⟩
    · exact K37.start hH
    · exact K37.law_fn (K37.ctx_of S KX G T) F
