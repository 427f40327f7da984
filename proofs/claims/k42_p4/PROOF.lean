import PyProof.Rows.All
import HandS.Base
import HandS.Call
import HandS.List
import HandS.Comp
import HandS.AnyAll
import HandS.HeadHook1
import HandS.HeadHook4
import PyProof.NeKinds
import HandS.TupAny
import HandS.IsInst
import HandS.Gcd
import HandS.Dict
import HandS.DictEq
import HandS.Small
import HandS.More
import PyProof.EqKinds
import HandS.Defaults
import HandS.Words
import Wide.All
import OpenK.AllK
import Wide.FinOn
import KE.KExcIs
import HandS.ForMost
import HandS.Exc
import HandS.ExcOwn
import HandS.ExcInit
import HandS.ClsMeth
import HandS.HeadWalk
import HandS.ExcValue
import HandS.HeadHook2
import KE.GoesMore
import PyProof.Draws
import PyProof.EnumMake
import PyProof.TupleIter
import HandS.Iter
import HandS.Style
import HandS.TupLe
import HandS.SortKw
import KE.KMathG
import KE.DataMinMax
import PyProof.ListIndex
import HandS.Zip
import KE.GoesEnumKw
import PyProof.ReprRoads
import HandS.HeadEnd
import HandS.Head0
import HandS.Head1
import HandS.Head2
import HandS.TupMul
import HandS.TryOnly
import HandS.Rev
import HandS.WideBits
import PyProof.CallFns
import HandS.SortInts
import HandS.Flow
import HandS.Conv
import KE.KMathGC
import PySem.Challenge.RW_bandsplits_k42_whole_polynomials_of_powe
import KE.KNestM
import HandS.EndTab
import HandS.Head3
set_option Elab.async false
set_option linter.all false
set_option maxRecDepth 100000
set_option maxHeartbeats 0
namespace DL
open PySem PySem.Spec PyProof.Rows L2
inductive D where
  | non | bl (b : Bool) | int (i : Int) | str (x : Str) | tup (ds : List D) | loc (n : Nat) | ty (n : String)
  deriving Inhabited
inductive Ob where
  | lst (ds : List D) | dic (kvs : List (Key × D)) | frz (ds : List D) | dfz (kvs : List (Key × D))
  /-- the table of the code objects of a def -/
  | tab (x : Str)
abbrev Sto := List Ob
abbrev Sl := List (Option D)
/-- a def's code object and its table -/
def codeA (K : PySem.W.Frag) (x : Str) : Addr × Addr := He.cT K (x, none)
def tabA (K : PySem.W.Frag) (x : Str) : Addr := (codeA K x).2
section
variable (K : PySem.W.Frag)
mutual
def Rep (H : Hp) (α : List Addr) : D → V → Prop
  | .non, v => v = .non
  | .bl b, v => v = .bl b
  | .int i, v => v = .int i
  | .str x, v => v = .str x
  | .tup ds, v => ∃ a xs, v = .ref a ∧ SqT K H a xs ∧ Reps H α ds xs
  | .loc n, v => ∃ a, v = .ref a ∧ α[n]? = some a
  | .ty n, v => v = .ty n
def Reps (H : Hp) (α : List Addr) : List D → List V → Prop
  | [], xs => xs = []
  | d :: ds, xs => ∃ v vs, xs = v :: vs ∧ Rep H α d v ∧ Reps H α ds vs
end
def ObR (H : Hp) (α : List Addr) : Ob → Addr → Prop
  | .lst ds, a => ∃ xs, H a = some (.lst xs) ∧ Reps K H α ds xs
  | .dic kvs, a => ∃ kv, H a = some (.dK kv) ∧ kvs.map (·.1) = kv.map (·.1) ∧ Reps K H α (kvs.map (·.2)) (kv.map (·.2))
  | .frz ds, a => ∃ o xs, H a = some (.frz o (.lst xs)) ∧ Reps K H α ds xs
  | .dfz kvs, a => ∃ o kv, H a = some (.frz o (.dK kv)) ∧ kvs.map (·.1) = kv.map (·.1) ∧ Reps K H α (kvs.map (·.2)) (kv.map (·.2))
  | .tab x, a => a = tabA K x ∧ GxR.TabG H a
structure RepS (H : Hp) (α : List Addr) (μ : Sto) : Prop where
  nd : α.Nodup
  len : α.length = μ.length
  ob : ∀ (n : Nat) (a : Addr) (o : Ob), α[n]? = some a → μ[n]? = some o → ObR K H α o a
structure Ext (H : Hp) (α : List Addr) (H' : Hp) (α' : List Addr) : Prop where
  pre : ∃ more, α' = α ++ more
  tup : ∀ a xs, SqT K H a xs → SqT K H' a xs
  frz : ∀ a o u, H a = some (.frz o u) → H' a = some (.frz o u)
def RepR (H : Hp) (α : List Addr) (ρ : Sl) (σ : L2.St) : Prop := ρ.length = σ.length ∧ ∀ (i : Nat) (d : D), ρ[i]? = some (some d) → ∃ v, σ[i]? = some (some v) ∧ Rep K H α d v
end
variable {K : PySem.W.Frag}
theorem Ext.refl {H : Hp} {α : List Addr} : Ext K H α H α := ⟨⟨[], by simp⟩, fun _ _ h => h, fun _ _ _ h => h⟩
theorem Ext.trans {H1 H2 H3 : Hp} {α1 α2 α3 : List Addr} (a : Ext K H1 α1 H2 α2) (b : Ext K H2 α2 H3 α3) : Ext K H1 α1 H3 α3 := by
  obtain ⟨m1, e1⟩ := a.pre
  obtain ⟨m2, e2⟩ := b.pre
  exact ⟨⟨m1 ++ m2, by rw [e2, e1, List.append_assoc]⟩, fun _ _ h => b.tup _ _ (a.tup _ _ h), fun _ _ _ h => b.frz _ _ _ (a.frz _ _ _ h)⟩
theorem pre_get {α α' more : List Addr} {n : Nat} {a : Addr} (e : α' = α ++ more) (h : α[n]? = some a) : α'[n]? = some a := by
  subst e
  rw [List.getElem?_append_left (List.getElem?_eq_some_iff.mp h).1]
  exact h
mutual
theorem Rep.ext {H H' : Hp} {α α' : List Addr} (E : Ext K H α H' α') : ∀ (d : D) (v : V), Rep K H α d v → Rep K H' α' d v
  | .non, _, h => h
  | .bl _, _, h => h
  | .int _, _, h => h
  | .str _, _, h => h
  | .tup ds, _, ⟨a, xs, e, hs, hr⟩ => ⟨a, xs, e, E.tup _ _ hs, Reps.ext E ds xs hr⟩
  | .loc n, _, ⟨a, e, h⟩ => ⟨a, e, let ⟨_, p⟩ := E.pre; pre_get p h⟩
  | .ty _, _, h => h
theorem Reps.ext {H H' : Hp} {α α' : List Addr} (E : Ext K H α H' α') : ∀ (ds : List D) (xs : List V), Reps K H α ds xs → Reps K H' α' ds xs
  | [], _, h => h
  | d :: ds, _, ⟨v, vs, e, h1, h2⟩ => ⟨v, vs, e, Rep.ext E d v h1, Reps.ext E ds vs h2⟩
end
theorem Rep.up {H H' : Hp} {α α' : List Addr} {d : D} {v : V} (h : Rep K H α d v) (E : Ext K H α H' α') : Rep K H' α' d v := Rep.ext E d v h
theorem Reps.up {H H' : Hp} {α α' : List Addr} {d : List D} {v : List V} (h : Reps K H α d v) (E : Ext K H α H' α') : Reps K H' α' d v := Reps.ext E d v h
theorem RepR.up {H H' : Hp} {α α' : List Addr} {ρ : Sl} {σ : L2.St} (h : RepR K H α ρ σ) (E : Ext K H α H' α') : RepR K H' α' ρ σ :=
  ⟨h.1, fun i d e => let ⟨v, q, r⟩ := h.2 i d e; ⟨v, q, r.up E⟩⟩
section
variable {H : Hp} {α : List Addr}
theorem Reps.length : ∀ {ds : List D} {xs : List V}, Reps K H α ds xs → ds.length = xs.length
  | [], _, h => by rw [show _ = _ from h]; rfl
  | d :: ds, _, h => by obtain ⟨v, vs, rfl, _, r⟩ := h; simp [Reps.length r]
theorem Reps.get : ∀ {ds : List D} {xs : List V} {i : Nat} {d : D}, Reps K H α ds xs → ds[i]? = some d → ∃ v, xs[i]? = some v ∧ Rep K H α d v
  | [], _, _, _, _, e => by simp at e
  | d :: ds, _, 0, _, h, e => by obtain ⟨v, vs, rfl, r, _⟩ := h; simp at e; subst e; exact ⟨v, rfl, r⟩
  | d :: ds, _, i + 1, _, h, e => by obtain ⟨v, vs, rfl, _, r⟩ := h; simpa using Reps.get (i := i) r (by simpa using e)
theorem Reps.append : ∀ {ds es : List D} {xs ys : List V}, Reps K H α ds xs → Reps K H α es ys → Reps K H α (ds ++ es) (xs ++ ys)
  | [], _, _, _, h, h2 => by rw [show _ = _ from h]; exact h2
  | d :: ds, _, _, _, h, h2 => by obtain ⟨v, vs, rfl, r, rr⟩ := h; exact ⟨v, vs ++ _, rfl, r, Reps.append rr h2⟩
theorem Reps.take : ∀ {ds : List D} {xs : List V} (n : Nat), Reps K H α ds xs → Reps K H α (ds.take n) (xs.take n)
  | _, _, 0, _ => by simp [Reps]
  | [], _, n + 1, h => by rw [show _ = _ from h]; simp [Reps]
  | d :: ds, _, n + 1, h => by obtain ⟨v, vs, rfl, r, rr⟩ := h; exact ⟨v, vs.take n, rfl, r, Reps.take n rr⟩
theorem Reps.drop : ∀ {ds : List D} {xs : List V} (n : Nat), Reps K H α ds xs → Reps K H α (ds.drop n) (xs.drop n)
  | _, _, 0, h => by simpa using h
  | [], _, n + 1, h => by rw [show _ = _ from h]; simp [Reps]
  | d :: ds, _, n + 1, h => by obtain ⟨v, vs, rfl, r, rr⟩ := h; simpa using Reps.drop n rr
theorem Reps.set {d : D} {v : V} (r : Rep K H α d v) : ∀ {ds : List D} {xs : List V} (i : Nat), Reps K H α ds xs → Reps K H α (ds.set i d) (xs.set i v)
  | [], _, i, h => by rw [show _ = _ from h]; simp [Reps]
  | e :: ds, _, 0, h => by obtain ⟨w, vs, rfl, _, rr⟩ := h; exact ⟨v, vs, rfl, r, rr⟩
  | e :: ds, _, i + 1, h => by obtain ⟨w, vs, rfl, q, rr⟩ := h; exact ⟨w, vs.set i v, rfl, q, Reps.set r i rr⟩
theorem Reps.one {d : D} {v : V} (r : Rep K H α d v) : Reps K H α [d] [v] := ⟨v, [], rfl, r, rfl⟩
theorem Reps.nil_iff {ds : List D} {xs : List V} (r : Reps K H α ds xs) : ds = [] ↔ xs = [] := by
  have := r.length
  constructor <;> intro h <;> subst h <;> simp at this
  · exact List.eq_nil_of_length_eq_zero this.symm
  · exact this
theorem Reps.ints : ∀ {ns : List Int} {xs : List V}, Reps K H α (ns.map D.int) xs → xs = ns.map V.int
  | [], _, h => h
  | n :: ns, _, h => by
    obtain ⟨v, vs, rfl, r, rr⟩ := h
    rw [show v = _ from r, Reps.ints rr]; rfl
theorem Reps.bls : ∀ {ns : List Bool} {xs : List V}, Reps K H α (ns.map D.bl) xs → xs = ns.map V.bl
  | [], _, h => h
  | n :: ns, _, h => by
    obtain ⟨v, vs, rfl, r, rr⟩ := h
    rw [show v = _ from r, Reps.bls rr]; rfl
end
theorem sqT_upd {H : Hp} {p : Addr} {o : HO} (h : ∀ xs, ¬ Rd H p (.tup xs)) : ∀ a xs, SqT K H a xs → SqT K (upd H p o) a xs := by
  intro a xs q
  rcases q with q | q
  · refine .inl ?_
    have ne : a ≠ p := fun z => h xs (by subst z; exact q)
    rcases q with q | ⟨ob, q⟩
    · exact .inl (by rw [upd_ne ne]; exact q)
    · exact .inr ⟨ob, by rw [upd_ne ne]; exact q⟩
  · exact .inr q
theorem no_rd {H : Hp} {p : Addr} (h : H p = none) : ∀ xs, ¬ Rd H p (.tup xs) := by
  intro xs q
  rcases q with q | ⟨o, q⟩ <;> rw [h] at q <;> cases q
theorem frz_upd {H : Hp} {p : Addr} {o : HO} (h : ∀ o' u, H p ≠ some (.frz o' u)) : ∀ a o' u, H a = some (.frz o' u) → upd H p o a = some (.frz o' u) := by
  intro a o' u q
  have ne : a ≠ p := fun z => h o' u (by rw [← z]; exact q)
  rw [upd_ne ne]; exact q
theorem no_frz {H : Hp} {p : Addr} (h : H p = none) : ∀ o' u, H p ≠ some (.frz o' u) := fun o' u q => by rw [h] at q; cases q
theorem ext_new {H : Hp} {p : Addr} {o : HO} (α more : List Addr) (h : H p = none) : Ext K H α (upd H p o) (α ++ more) := ⟨⟨more, rfl⟩, sqT_upd (no_rd h), frz_upd (no_frz h)⟩
theorem ext_tup {H : Hp} {p : Addr} {o : HO} (α : List Addr) (h : H p = none) : Ext K H α (upd H p o) α := ⟨⟨[], by simp⟩, sqT_upd (no_rd h), frz_upd (no_frz h)⟩
/-- what stands here may be written: no tuple, nothing frozen -/
def Nw (H : Hp) (a : Addr) : Prop := (∀ xs, ¬ Rd H a (.tup xs)) ∧ ∀ o u, H a ≠ some (.frz o u)
theorem ObR.keep {H H' : Hp} {α α' : List Addr} {o : Ob} {a : Addr} (h : ObR K H α o a) (E : Ext K H α H' α') (e : H' a = H a) : ObR K H' α' o a := by
  cases o with
  | lst ds => obtain ⟨xs, q, r⟩ := h; exact ⟨xs, e.trans q, r.up E⟩
  | dic kvs => obtain ⟨kv, q, r1, r2⟩ := h; exact ⟨kv, e.trans q, r1, r2.up E⟩
  | frz ds => obtain ⟨ob, xs, q, r⟩ := h; exact ⟨ob, xs, e.trans q, r.up E⟩
  | dfz kvs => obtain ⟨o, kv, q, r1, r2⟩ := h; exact ⟨o, kv, e.trans q, r1, r2.up E⟩
  | tab x => obtain ⟨z, ps, q, r⟩ := h; exact ⟨z, ps, e.trans q, r⟩
theorem ObR.some {H : Hp} {α : List Addr} {o : Ob} {a : Addr} (h : ObR K H α o a) : ∃ u, H a = some u := by
  cases o with
  | lst ds => obtain ⟨xs, q, r⟩ := h; exact ⟨_, q⟩
  | dic kvs => obtain ⟨kv, q, _⟩ := h; exact ⟨_, q⟩
  | frz ds => obtain ⟨ob, xs, q, r⟩ := h; exact ⟨_, q⟩
  | dfz kvs => obtain ⟨o, kv, q, _⟩ := h; exact ⟨_, q⟩
  | tab x => obtain ⟨z, ps, q, r⟩ := h; exact ⟨_, q⟩
section
variable {H : Hp} {α : List Addr} {μ : Sto} {p : Addr}
theorem RepS.here (S : RepS K H α μ) {n : Nat} {a : Addr} (h : α[n]? = some a) : ∃ o, μ[n]? = some o ∧ ObR K H α o a := by
  have l : n < μ.length := by rw [← S.len]; exact (List.getElem?_eq_some_iff.mp h).1
  exact ⟨μ[n], List.getElem?_eq_getElem l, S.ob n a _ h (List.getElem?_eq_getElem l)⟩
theorem RepS.there (S : RepS K H α μ) {n : Nat} {o : Ob} (h : μ[n]? = some o) : ∃ a, α[n]? = some a ∧ ObR K H α o a := by
  have l : n < α.length := by rw [S.len]; exact (List.getElem?_eq_some_iff.mp h).1
  exact ⟨α[n], List.getElem?_eq_getElem l, S.ob n _ _ (List.getElem?_eq_getElem l) h⟩
theorem RepS.fresh (S : RepS K H α μ) (h : H p = none) : p ∉ α := fun m => by
  obtain ⟨n, l, e⟩ := List.getElem_of_mem m
  obtain ⟨o, _, r⟩ := S.here (n := n) (a := p) (by rw [List.getElem?_eq_getElem l, e])
  obtain ⟨u, q⟩ := r.some
  rw [h] at q; cases q
/-- a tuple is laid -/
theorem RepS.tup (S : RepS K H α μ) {xs : List V} (h : H p = none) : RepS K (upd H p (.tup xs)) α μ :=
  ⟨S.nd, S.len, fun n a o e1 e2 => (S.ob n a o e1 e2).keep (ext_tup α h) (upd_ne fun z => S.fresh h (z ▸ List.mem_of_getElem? e1))⟩
/-- a store's object is laid -/
theorem RepS.new (S : RepS K H α μ) {o : HO} {ob : Ob} (h : H p = none) (r : ObR K (upd H p o) (α ++ [p]) ob p) : RepS K (upd H p o) (α ++ [p]) (μ ++ [ob]) := by
  refine ⟨?_, by simp [S.len], fun n a o' e1 e2 => ?_⟩
  · rw [List.nodup_append]
    refine ⟨S.nd, by simp, fun a ha b hb e => ?_⟩
    have : b = p := by simpa using hb
    subst this
    subst e
    exact S.fresh h ha
  · by_cases l : n < α.length
    · rw [List.getElem?_append_left l] at e1
      rw [List.getElem?_append_left (by rw [← S.len]; exact l)] at e2
      exact (S.ob n a o' e1 e2).keep (ext_new α [p] h) (upd_ne fun z => S.fresh h (z ▸ List.mem_of_getElem? e1))
    · have e : n = α.length := by
        have := (List.getElem?_eq_some_iff.mp e1).1
        simp at this
        omega
      subst e
      rw [List.getElem?_append_right (Nat.le_refl _)] at e1
      rw [List.getElem?_append_right (by rw [S.len]; exact Nat.le_refl _)] at e2
      simp [S.len] at e1 e2
      subst e1
      subst e2
      exact r
theorem rep_new {H' : Hp} (S : RepS K H α μ) : Rep K H' (α ++ [p]) (.loc μ.length) (.ref p) := ⟨p, rfl, by rw [← S.len]; simp⟩
/-- a store's object is written -/
theorem RepS.write (S : RepS K H α μ) {n : Nat} {a : Addr} {o : HO} {ob : Ob} (e : α[n]? = some a) (nt : Nw H a) (r : ObR K (upd H a o) α ob a) : RepS K (upd H a o) α (μ.set n ob) := by
  refine ⟨S.nd, by simp [S.len], fun m b o' e1 e2 => ?_⟩
  by_cases h : m = n
  · subst h
    rw [e] at e1
    cases e1
    have l : m < μ.length := by rw [← S.len]; exact (List.getElem?_eq_some_iff.mp e).1
    rw [List.getElem?_set_self l] at e2
    cases e2
    exact r
  · rw [List.getElem?_set_ne (Ne.symm h)] at e2
    have ne : b ≠ a := fun z => by
      subst z
      obtain ⟨h1, f1⟩ := List.getElem?_eq_some_iff.mp e
      obtain ⟨h2, f2⟩ := List.getElem?_eq_some_iff.mp e1
      exact h ((List.getElem_inj S.nd).mp (f2.trans f1.symm))
    exact (S.ob m b o' e1 e2).keep ⟨⟨[], by simp⟩, sqT_upd nt.1, frz_upd nt.2⟩ (upd_ne ne)
theorem ext_write {a : Addr} {o : HO} (nt : Nw H a) : Ext K H α (upd H a o) α := ⟨⟨[], by simp⟩, sqT_upd nt.1, frz_upd nt.2⟩
theorem nt_lst {a : Addr} {xs : List V} (h : H a = some (.lst xs)) : Nw H a := by
  refine ⟨?_, fun o u q => by rw [h] at q; cases q⟩
  intro ys q
  rcases q with q | ⟨o, q⟩ <;> rw [h] at q <;> cases q
theorem nt_dK {a : Addr} {xs : List (Key × V)} (h : H a = some (.dK xs)) : Nw H a := by
  refine ⟨?_, fun o u q => by rw [h] at q; cases q⟩
  intro ys q
  rcases q with q | ⟨o, q⟩ <;> rw [h] at q <;> cases q
end
def Kont (K : PySem.W.Frag) (H : Hp) (α : List Addr) (μ : Sto) (d : D) (Q : VK) : Prop := ∀ H' α' v, Ext K H α H' α' → RepS K H' α' μ → Rep K H' α' d v → Q v H'
abbrev EF := Sl → Sto → Option (D × Sto)
abbrev TF := Sl → Sto → Option (Bool × Sto)
abbrev AF := Sl → Sto → Option (List D × Sto)
def tE (K : PySem.W.Frag) (f : EF) : TE := fun σ H Q => ∃ α ρ μ d μ', RepS K H α μ ∧ RepR K H α ρ σ ∧ f ρ μ = some (d, μ') ∧ Kont K H α μ' d Q
def tT (K : PySem.W.Frag) (f : TF) : TT := fun σ H Q => ∃ α ρ μ b μ', RepS K H α μ ∧ RepR K H α ρ σ ∧ f ρ μ = some (b, μ') ∧ ∀ H' α', Ext K H α H' α' → RepS K H' α' μ' → Q b H'
def tA (K : PySem.W.Frag) (f : AF) : TA := fun σ H Q => ∃ α ρ μ ds μ', RepS K H α μ ∧ RepR K H α ρ σ ∧ f ρ μ = some (ds, μ') ∧ ∀ H' α' vs, Ext K H α H' α' → RepS K H' α' μ' → Reps K H' α' ds vs → Q vs H'
section
variable {X : Cx}
theorem _root_.L2.PE.imp {e : Expr} {t u : TE} (h : PE X e t) (i : ∀ σ H Q, u σ H Q → t σ H Q) : PE X e u := ⟨fun pins s σ H Q I q => h.run pins s σ H Q I (i _ _ _ q)⟩
theorem _root_.L2.PT.imp {e : Expr} {t u : TT} (h : PT X e t) (i : ∀ σ H Q, u σ H Q → t σ H Q) : PT X e u := ⟨fun pins s σ H Q I q => h.run pins s σ H Q I (i _ _ _ q)⟩
theorem _root_.L2.PW.imp {e : Expr} {t u : TT} (h : PW X e t) (i : ∀ σ H Q, u σ H Q → t σ H Q) : PW X e u := ⟨fun wh pins s σ H Q I q => h.run wh pins s σ H Q I (i _ _ _ q)⟩
theorem _root_.L2.PA.imp {e : List Expr} {t u : TA} (h : PA X e t) (i : ∀ σ H Q, u σ H Q → t σ H Q) : PA X e u := ⟨fun pos pins s σ H Q I q => h.run pos pins s σ H Q I (i _ _ _ q)⟩
theorem _root_.L2.PS.imp {e : Stmt} {t u : TS} (h : PS X e t) (i : ∀ D σ H, u D σ H → t D σ H) : PS X e u := ⟨fun pins s σ H D I q => h.run pins s σ H D I (i _ _ _ q)⟩
theorem _root_.L2.PSs.imp {e : List Stmt} {t u : TS} (h : PSs X e t) (i : ∀ D σ H, u D σ H → t D σ H) : PSs X e u := ⟨fun pins s σ H D I q => h.run pins s σ H D I (i _ _ _ q)⟩
theorem _root_.L2.PG.imp {e : Expr} {t u : TG} (h : PG X e t) (i : ∀ v σ H Q, u v σ H Q → t v σ H Q) : PG X e u := ⟨fun pins s σ H v w Q I r q => h.run pins s σ H v w Q I r (i _ _ _ _ q)⟩
theorem _root_.L2.PGs.imp {e : List Expr} {t u : TGs} (h : PGs X e t) (i : ∀ v σ H Q, u v σ H Q → t v σ H Q) : PGs X e u := ⟨fun pins s σ H v w Q I r q => h.run pins s σ H v w Q I r (i _ _ _ _ q)⟩
theorem _root_.L2.OpR.imp {f : Value → Value → Sem Value} {t u : R2} (h : OpR X f t) (i : ∀ x y H Q, u x y H Q → t x y H Q) : OpR X f u := fun pins s σ H x y v w Q I r1 r2 q => h pins s σ H x y v w Q I r1 r2 (i _ _ _ _ q)
theorem _root_.L2.UnR.imp {f : Value → Sem Value} {t u : V → Hp → VK → Prop} (h : UnR X f t) (i : ∀ x H Q, u x H Q → t x H Q) : UnR X f u := fun pins s σ H x v Q I r q => h pins s σ H x v Q I r (i _ _ _ q)
theorem _root_.L2.CallR.imp {f : Value} {t u : List V → Hp → VK → Prop} (h : CallR X f t) (i : ∀ x H Q, u x H Q → t x H Q) : CallR X f u := fun pins s σ H x v Q I r q => h pins s σ H x v Q I r (i _ _ _ q)
end
def fVar (i : Nat) : EF := fun ρ μ => match ρ[i]? with | some (some d) => some (d, μ) | _ => none
def fC (d : D) : EF := fun _ μ => some (d, μ)
theorem kont_self {H : Hp} {α : List Addr} {μ : Sto} {d : D} {v : V} {Q : VK} (k : Kont K H α μ d Q) (S : RepS K H α μ) (r : Rep K H α d v) : Q v H := k H α v Ext.refl S r
theorem Kont.up {H H1 : Hp} {α α1 : List Addr} {μ : Sto} {d : D} {Q : VK} (k : Kont K H α μ d Q) (E : Ext K H α H1 α1) : Kont K H1 α1 μ d Q := fun H' α' v E' S R => k H' α' v (E.trans E') S R
theorem i_var {i : Nat} : ∀ σ H Q, tE K (fVar i) σ H Q → tVar i σ H Q := by
  rintro σ H Q ⟨α, ρ, μ, d, μ', S, R, e, k⟩
  unfold fVar at e
  split at e
  · rename_i d' q
    cases e
    obtain ⟨v, q2, r⟩ := R.2 _ _ q
    exact ⟨v, q2, kont_self k S r⟩
  · cases e
theorem i_c {d : D} {v : V} (h : ∀ H α, Rep K H α d v) : ∀ σ H Q, tE K (fC d) σ H Q → tC v σ H Q := by
  rintro σ H Q ⟨α, ρ, μ, d', μ', S, R, e, k⟩
  cases e
  exact kont_self k S (h _ _)
section
variable {X : Cx} {pos : Pos}
theorem de_var {i : Nat} {x : Str} (hN : X.N[i]? = some x) (hv : Vis X.env.scope x) (hd : (x == ("__debug__" : Str)) = false := by decide) (hcd : (x == ("__classdict__" : Str)) = false := by decide) : PE X (.Name x pos) (tE K (fVar i)) := (pe_var hN hv hd hcd).imp i_var
theorem de_int {i : Int} {j : Nat} : PE X (.Constant (.int i) j pos) (tE K (fC (.int i))) := PE.imp pe_int (i_c fun _ _ => rfl)
theorem de_bl {b : Bool} {j : Nat} : PE X (.Constant (.bool b) j pos) (tE K (fC (.bl b))) := PE.imp pe_bl (i_c fun _ _ => rfl)
end
end DL
namespace DL
open PySem PySem.Spec PyProof.Rows L2
open PySem.SeqAt (EqAt RcAt RcNeAt)
def lstAt (μ : Sto) (i : Nat) : Option (List D) := match μ[i]? with
  | some (.lst ds) => some ds
  | some (.frz ds) => some ds
  | _ => none
def zipAll (f : D → D → Option Bool) : List D → List D → Option Bool
  | [], _ => some true
  | _ :: _, [] => some true
  | x :: xs, y :: ys => match f x y, zipAll f xs ys with
    | some a, some b => some (a && b)
    | _, _ => none
def rcD (μ : Sto) : Nat → D → D → Option Bool
  | 0, _, _ => none
  | _ + 1, .non, .non => some true
  | _ + 1, .non, .bl _ => some false
  | _ + 1, .non, .int _ => some false
  | _ + 1, .non, .str _ => some false
  | _ + 1, .non, .tup _ => some false
  | _ + 1, .non, .loc j => (lstAt μ j).map fun _ => false
  | _ + 1, .bl _, .non => some false
  | _ + 1, .bl a, .bl b => some (a == b)
  | _ + 1, .bl a, .int b => some ((if a then 1 else 0) == b)
  | _ + 1, .bl _, .str _ => some false
  | _ + 1, .bl _, .tup _ => some false
  | _ + 1, .bl _, .loc j => (lstAt μ j).map fun _ => false
  | _ + 1, .int _, .non => some false
  | _ + 1, .int a, .bl b => some (a == (if b then 1 else 0))
  | _ + 1, .int a, .int b => some (a == b)
  | _ + 1, .int _, .str _ => some false
  | _ + 1, .int _, .tup _ => some false
  | _ + 1, .int _, .loc j => (lstAt μ j).map fun _ => false
  | _ + 1, .str _, .non => some false
  | _ + 1, .str _, .bl _ => some false
  | _ + 1, .str _, .int _ => some false
  | _ + 1, .str a, .str b => some (a == b)
  | _ + 1, .str _, .tup _ => some false
  | _ + 1, .str _, .loc j => (lstAt μ j).map fun _ => false
  | _ + 1, .tup _, .non => some false
  | _ + 1, .tup _, .bl _ => some false
  | _ + 1, .tup _, .int _ => some false
  | _ + 1, .tup _, .str _ => some false
  | n + 1, .tup xs, .tup ys => (zipAll (rcD μ n) xs ys).map fun b => b && xs.length == ys.length
  | _ + 1, .tup _, .loc j => (lstAt μ j).map fun _ => false
  | _ + 1, .loc i, .non => (lstAt μ i).map fun _ => false
  | _ + 1, .loc i, .bl _ => (lstAt μ i).map fun _ => false
  | _ + 1, .loc i, .int _ => (lstAt μ i).map fun _ => false
  | _ + 1, .loc i, .str _ => (lstAt μ i).map fun _ => false
  | _ + 1, .loc i, .tup _ => (lstAt μ i).map fun _ => false
  | n + 1, .loc i, .loc j => match lstAt μ i, lstAt μ j with
    | some xs, some ys => if xs.length = ys.length then zipAll (rcD μ n) xs ys else some false
    | _, _ => none
  | _ + 1, .ty _, _ => none
  | _ + 1, _, .ty _ => none
theorem zipAll_refl {f : D → D → Option Bool} (h : ∀ x k, f x x = some k → k = true) : ∀ (xs : List D) (k : Bool), zipAll f xs xs = some k → k = true
  | [], k, e => by cases e; rfl
  | x :: xs, k, e => by
    unfold zipAll at e
    split at e
    · rename_i a b e1 e2
      cases e
      rw [h _ _ e1, zipAll_refl h _ _ e2]; rfl
    · cases e
theorem rcD_refl {μ : Sto} : ∀ (n : Nat) (x : D) (k : Bool), rcD μ n x x = some k → k = true
  | 0, _, _, e => by unfold rcD at e; cases e
  | n + 1, x, k, e => by
    cases x with
    | non => cases e; rfl
    | bl a => unfold rcD at e; cases e; simp
    | int a => unfold rcD at e; cases e; simp
    | str a => unfold rcD at e; cases e; simp
    | tup xs =>
      unfold rcD at e
      obtain ⟨b, e1, e2⟩ := Option.map_eq_some_iff.mp e
      rw [zipAll_refl (rcD_refl n) _ _ e1] at e2
      simp at e2
      exact e2
    | ty m => cases e
    | loc i =>
      unfold rcD at e
      split at e
      · rename_i xs ys e1 e2
        rw [e1] at e2; cases e2
        rw [if_pos rfl] at e
        exact zipAll_refl (rcD_refl n) _ _ e
      · cases e
/-- the comparison at place j -/
def zAt (f : D → D → Option Bool) (xs ys : List D) (j : Nat) : Bool := match xs[j]?, ys[j]? with
  | some x, some y => (f x y).getD false
  | _, _ => false
theorem zipAll_range {f : D → D → Option Bool} : ∀ {xs ys : List D} {k : Bool}, zipAll f xs ys = some k → (List.range (min xs.length ys.length)).all (zAt f xs ys) = k ∧ ∀ j x y, xs[j]? = some x → ys[j]? = some y → f x y = some (zAt f xs ys j)
  | [], ys, k, e => by
    unfold zipAll at e; cases e
    exact ⟨by simp, fun j x y h => by simp at h⟩
  | x :: xs, [], k, e => by
    unfold zipAll at e; cases e
    exact ⟨by simp, fun j x y _ h => by simp at h⟩
  | x :: xs, y :: ys, k, e => by
    unfold zipAll at e
    split at e
    · rename_i a b e1 e2
      cases e
      obtain ⟨h1, h2⟩ := zipAll_range e2
      have z0 : zAt f (x :: xs) (y :: ys) 0 = a := by unfold zAt; simp [e1]
      have zs : ∀ j, zAt f (x :: xs) (y :: ys) (j + 1) = zAt f xs ys j := fun j => by unfold zAt; simp
      refine ⟨?_, fun j x' y' hx hy => ?_⟩
      · have : min (x :: xs).length (y :: ys).length = min xs.length ys.length + 1 := by simp
        rw [this, List.range_succ_eq_map, List.all_cons, z0, List.all_map, ← h1]
        rfl
      · cases j with
        | zero => simp at hx hy; subst hx; subst hy; rw [z0]; exact e1
        | succ j => rw [zs]; exact h2 j x' y' (by simpa using hx) (by simpa using hy)
    · cases e
section
variable {X : Cx} {pins : List (Addr × Obj)} {σ : L2.St} {H : Hp} {s : Shared} {α : List Addr} {μ : Sto}
theorem RepS.list (S : RepS X.K H α μ) {i : Nat} {ds : List D} {a : Addr} (h : lstAt μ i = some ds) (e : α[i]? = some a) : ∃ xs, SqL X.K H a xs ∧ Reps X.K H α ds xs := by
  obtain ⟨o, e2, r⟩ := S.here e
  unfold lstAt at h
  rw [e2] at h
  cases o with
  | lst ds' => cases h; obtain ⟨xs, q, r⟩ := r; exact ⟨xs, .inl (.inl q), r⟩
  | frz ds' => cases h; obtain ⟨o, xs, q, r⟩ := r; exact ⟨xs, .inl (.inr ⟨o, q⟩), r⟩
  | dic kvs => cases h
  | dfz kvs => cases h
  | tab x => cases h
theorem RepS.noTup (I : Inv X pins σ H s) (S : RepS X.K H α μ) {i : Nat} {a : Addr} {xs : List V} (e : α[i]? = some a) (h : SqT X.K H a xs) : False := by
  obtain ⟨o, e2, r⟩ := S.here e
  obtain ⟨its, _, ⟨ob, h1, hc, n, hd⟩, _⟩ := I.tuple h
  cases o with
  | lst ds =>
    obtain ⟨xs, q, _⟩ := r
    obtain ⟨_, _, n', _, e'⟩ := (show ObjOk X.prog X.w H s.heap a (.lst xs) from I.hok a _ q)
    rw [h1] at e'; cases e'; exact absurd (Value.type.inj hc) (by decide)
  | frz ds =>
    obtain ⟨o, xs, q, _⟩ := r
    obtain ⟨_, _, _, n', _, e'⟩ := (show ObjOk X.prog X.w H s.heap a (.frz o (.lst xs)) from I.hok a _ q)
    rw [h1] at e'; cases e'; exact absurd (Value.type.inj hc) (by decide)
  | dic kvs =>
    obtain ⟨kv, q, _⟩ := r
    obtain ⟨_, _, vs, _, o, es, ep, e', hx, _⟩ := (show ObjOk X.prog X.w H s.heap a (.dK kv) from I.hok a _ q)
    rw [h1] at e'; cases e'
    rw [hx.1] at hc; exact absurd (Value.type.inj hc) (by decide)
  | dfz kvs =>
    obtain ⟨oo, kv, q, _⟩ := r
    obtain ⟨hd', _, _, _, _, o', es, ep, ho, hx, _⟩ := (show ObjOk X.prog X.w H s.heap a (.frz oo (.dK kv)) from I.hok a _ q)
    rw [h1] at ho; cases ho
    rw [hx.1] at hc; exact absurd (Value.type.inj hc) (by decide)
  | tab x =>
    obtain ⟨z, ps, q, _⟩ := r
    have e' : s.heap.get? a = some { cls := .none, data := .fields ps } := I.hok a _ q
    rw [h1] at e'; cases e'; cases hc
theorem rep_tup {K : PySem.W.Frag} {ds : List D} {v : V} (h : Rep K H α (.tup ds) v) : ∃ a, v = .ref a := let ⟨a, _, e, _⟩ := h; ⟨a, e⟩
theorem rep_loc {K : PySem.W.Frag} {n : Nat} {v : V} (h : Rep K H α (.loc n) v) : ∃ a, v = .ref a := let ⟨a, e, _⟩ := h; ⟨a, e⟩
mutual
theorem Rep.inj (I : Inv X pins σ H s) (S : RepS X.K H α μ) : ∀ (d e : D) (v : V), Rep X.K H α d v → Rep X.K H α e v → d = e
  | d, e, v, h, h' => by
    cases d with
    | non =>
      cases (show v = _ from h)
      cases e with
      | non => rfl
      | tup es => obtain ⟨_, z⟩ := rep_tup h'; cases z
      | loc m => obtain ⟨_, z⟩ := rep_loc h'; cases z
      | _ => exact nomatch (show (_ : V) = _ from h')
    | bl a =>
      cases (show v = _ from h)
      cases e with
      | bl b => cases (show V.bl _ = V.bl _ from h'); rfl
      | tup es => obtain ⟨_, z⟩ := rep_tup h'; cases z
      | loc m => obtain ⟨_, z⟩ := rep_loc h'; cases z
      | _ => exact nomatch (show (_ : V) = _ from h')
    | int a =>
      cases (show v = _ from h)
      cases e with
      | int b => cases (show V.int _ = V.int _ from h'); rfl
      | tup es => obtain ⟨_, z⟩ := rep_tup h'; cases z
      | loc m => obtain ⟨_, z⟩ := rep_loc h'; cases z
      | _ => exact nomatch (show (_ : V) = _ from h')
    | str a =>
      cases (show v = _ from h)
      cases e with
      | str b => cases (show V.str _ = V.str _ from h'); rfl
      | tup es => obtain ⟨_, z⟩ := rep_tup h'; cases z
      | loc m => obtain ⟨_, z⟩ := rep_loc h'; cases z
      | _ => exact nomatch (show (_ : V) = _ from h')
    | tup ds =>
      obtain ⟨a, xs, rfl, q, r⟩ := h
      cases e with
      | tup es =>
        obtain ⟨a', xs', z, q', r'⟩ := h'
        cases z
        rw [I.tuple_inj q' q] at r'
        rw [Reps.inj I S ds es xs r r']
      | loc n => obtain ⟨a', z, q'⟩ := h'; cases z; exact (S.noTup I q' q).elim
      | _ => exact nomatch (show V.ref _ = _ from h')
    | ty n =>
      cases (show v = _ from h)
      cases e with
      | ty m => cases (show V.ty _ = V.ty _ from h'); rfl
      | tup es => obtain ⟨_, z⟩ := rep_tup h'; cases z
      | loc m => obtain ⟨_, z⟩ := rep_loc h'; cases z
      | _ => exact nomatch (show (_ : V) = _ from h')
    | loc n =>
      obtain ⟨a, rfl, q⟩ := h
      cases e with
      | tup es => obtain ⟨a', xs', z, q', r'⟩ := h'; cases z; exact (S.noTup I q q').elim
      | loc m =>
        obtain ⟨a', z, q'⟩ := h'
        cases z
        obtain ⟨h1, f1⟩ := List.getElem?_eq_some_iff.mp q
        obtain ⟨h2, f2⟩ := List.getElem?_eq_some_iff.mp q'
        rw [(List.getElem_inj S.nd).mp (f1.trans f2.symm)]
      | _ => exact nomatch (show V.ref _ = _ from h')
theorem Reps.inj (I : Inv X pins σ H s) (S : RepS X.K H α μ) : ∀ (ds es : List D) (xs : List V), Reps X.K H α ds xs → Reps X.K H α es xs → ds = es
  | [], es, xs, h, h' => by
    cases (show xs = [] from h)
    cases es with
    | nil => rfl
    | cons e es => obtain ⟨_, _, z, _⟩ := h'; cases z
  | d :: ds, es, xs, h, h' => by
    obtain ⟨v, vs, rfl, r, rr⟩ := h
    cases es with
    | nil => cases (show _ = [] from h')
    | cons e es =>
      obtain ⟨v', vs', z, r', rr'⟩ := h'
      cases z
      rw [Rep.inj I S d e v r r', Reps.inj I S ds es vs rr rr']
end
end
section
variable {X : Cx} {pins : List (Addr × Obj)} {σ : L2.St} {H : Hp} {s : Shared} {α : List Addr} {μ : Sto}
def RcOk (A : Around) (s : Shared) (u v : Value) (k : Bool) : Prop := RcAt A s u v k ∧ RcNeAt A s u v (!k) ∧ EqAt A s u v k
theorem rcOk_refs {A : Around} {l b : Addr} {k : Bool} (h1 : RcAt A s (.ref l) (.ref b) k) (h2 : RcNeAt A s (.ref l) (.ref b) (!k)) (hs : l = b → k = true) : RcOk A s (.ref l) (.ref b) k := by
  refine ⟨h1, h2, ?_⟩
  by_cases e : l = b
  · rw [hs e, e]; exact EqAt.same _
  · exact EqAt.of_refs e h1
theorem items_ok {A : Around} {n : Nat} {f : D → D → Option Bool} {xs ys : List D} {k : Bool} (z : zipAll f xs ys = some k) {vs ws : List V} {us ts : List Value}
    (rx : Reps X.K H α xs vs) (ry : Reps X.K H α ys ws) (ru : Vals vs us) (rt : Vals ws ts)
    (ih : ∀ (a b : D) (k : Bool) (x y : V) (u v : Value), f a b = some k → Rep X.K H α a x → Rep X.K H α b y → RelV x u → RelV y v → EqAt A s u v k) :
    ∀ j (h1 : j < us.toArray.size) (h2 : j < ts.toArray.size), EqAt A s us.toArray[j] ts.toArray[j] (zAt f xs ys j) := by
  intro j h1 h2
  have l1 : j < xs.length := by rw [rx.length, ru.length]; simpa using h1
  have l2 : j < ys.length := by rw [ry.length, rt.length]; simpa using h2
  have e1 : xs[j]? = some xs[j] := List.getElem?_eq_getElem l1
  have e2 : ys[j]? = some ys[j] := List.getElem?_eq_getElem l2
  obtain ⟨v, p1, q1⟩ := rx.get e1
  obtain ⟨w, p2, q2⟩ := ry.get e2
  obtain ⟨u, p3, q3⟩ := ru.get p1
  obtain ⟨t, p4, q4⟩ := rt.get p2
  have f1 : us.toArray[j] = u := by
    have : us[j]? = some us[j] := List.getElem?_eq_getElem (by simpa using h1)
    rw [p3] at this
    simpa using (Option.some.inj this).symm
  have f2 : ts.toArray[j] = t := by
    have : ts[j]? = some ts[j] := List.getElem?_eq_getElem (by simpa using h2)
    rw [p4] at this
    simpa using (Option.some.inj this).symm
  rw [f1, f2]
  exact ih _ _ _ _ _ _ _ ((zipAll_range z).2 j _ _ e1 e2) q1 q2 q3 q4
theorem rc_ok (I : Inv X pins σ H s) (S : RepS X.K H α μ) : ∀ (n : Nat) (A : Around) (a b : D) (k : Bool) (x y : V) (u v : Value), A.units + n < cLine → rcD μ n a b = some k → Rep X.K H α a x → Rep X.K H α b y → RelV x u → RelV y v → RcOk A s u v k
  | 0, _, _, _, _, _, _, _, _, _, e, _, _, _, _ => by unfold rcD at e; cases e
  | n + 1, A, a, b, k, x, y, u, v, hA, e, rx, ry, ru, rv => by
    have hu : A.units < cLine := by omega
    have lst : ∀ {i : Nat} {a : Addr} {k' : Bool}, ((lstAt μ i).map fun _ => false) = some k' → α[i]? = some a → k' = false ∧ ∃ its : Array Value, s.heap.IsList a its := by
      intro i a k' h e1
      obtain ⟨ds, e2, e3⟩ := Option.map_eq_some_iff.mp h
      obtain ⟨xs, q, _⟩ := S.list e2 e1
      obtain ⟨its, _, p, _⟩ := I.list q
      exact ⟨e3.symm, _, p.isList⟩
    have ih : ∀ (a b : D) (k : Bool) (x y : V) (u v : Value), rcD μ n a b = some k → Rep X.K H α a x → Rep X.K H α b y → RelV x u → RelV y v → EqAt A.in1 s u v k := fun a b k x y u v h1 h2 h3 h4 h5 =>
      (rc_ok I S n A.in1 a b k x y u v (by show A.units + 1 + n < cLine; omega) h1 h2 h3 h4 h5).2.2
    cases a with
    | non =>
      cases (show x = _ from rx)
      cases (show u = _ from ru)
      cases b with
      | non => cases (show y = _ from ry); cases (show v = _ from rv); cases e; exact ⟨RcAt.none_none, RcNeAt.none_none, EqAt.same _⟩
      | bl b => cases (show y = _ from ry); cases (show v = _ from rv); cases e; exact ⟨RcAt.none_bool _, RcNeAt.none_bool _, EqAt.none_bool _⟩
      | int b => cases (show y = _ from ry); obtain ⟨t, rfl⟩ := rv; cases e; exact ⟨RcAt.none_int _ _, RcNeAt.none_int _ _, EqAt.none_int _ _⟩
      | str b => cases (show y = _ from ry); obtain ⟨t, rfl⟩ := rv; cases e; exact ⟨RcAt.none_str _ _, RcNeAt.none_str _ _, EqAt.none_str _ _⟩
      | tup ys => obtain ⟨a, ws, rfl, q, r⟩ := ry; cases (show v = _ from rv); cases e; obtain ⟨its, _, p, _⟩ := I.tuple q; exact ⟨RcAt.none_tuple p hu, RcNeAt.none_tuple p hu, EqAt.none_tuple p hu⟩
      | loc j => obtain ⟨a, rfl, q⟩ := ry; cases (show v = _ from rv); obtain ⟨rfl, its, p⟩ := lst e q; exact ⟨RcAt.none_list p hu, RcNeAt.none_list p hu, EqAt.none_list p hu⟩
      | ty m => cases e
    | bl a =>
      cases (show x = _ from rx)
      cases (show u = _ from ru)
      cases b with
      | non => cases (show y = _ from ry); cases (show v = _ from rv); cases e; exact ⟨RcAt.bool_none _, RcNeAt.bool_none _, EqAt.bool_none _⟩
      | bl b => cases (show y = _ from ry); cases (show v = _ from rv); cases e; exact ⟨RcAt.bool_bool _ _, RcNeAt.bool_bool _ _, EqAt.bool_bool _ _⟩
      | int b => cases (show y = _ from ry); obtain ⟨t, rfl⟩ := rv; cases e; exact ⟨RcAt.bool_int _ _ _, RcNeAt.bool_int _ _ _, EqAt.bool_int _ _ _⟩
      | str b => cases (show y = _ from ry); obtain ⟨t, rfl⟩ := rv; cases e; exact ⟨RcAt.bool_str _ _ _, RcNeAt.bool_str _ _ _, EqAt.bool_str _ _ _⟩
      | tup ys => obtain ⟨a, ws, rfl, q, r⟩ := ry; cases (show v = _ from rv); cases e; obtain ⟨its, _, p, _⟩ := I.tuple q; exact ⟨RcAt.bool_tuple _ p hu, RcNeAt.bool_tuple _ p hu, EqAt.bool_tuple _ p hu⟩
      | loc j => obtain ⟨a, rfl, q⟩ := ry; cases (show v = _ from rv); obtain ⟨rfl, its, p⟩ := lst e q; exact ⟨RcAt.bool_list _ p hu, RcNeAt.bool_list _ p hu, EqAt.bool_list _ p hu⟩
      | ty m => cases e
    | int a =>
      cases (show x = _ from rx)
      obtain ⟨ta, rfl⟩ := ru
      cases b with
      | non => cases (show y = _ from ry); cases (show v = _ from rv); cases e; exact ⟨RcAt.int_none _ _, RcNeAt.int_none _ _, EqAt.int_none _ _⟩
      | bl b => cases (show y = _ from ry); cases (show v = _ from rv); cases e; exact ⟨RcAt.int_bool _ _ _, RcNeAt.int_bool _ _ _, EqAt.int_bool _ _ _⟩
      | int b => cases (show y = _ from ry); obtain ⟨t, rfl⟩ := rv; cases e; exact ⟨RcAt.int_int _ _ _ _, RcNeAt.int_int _ _ _ _, EqAt.int_int _ _ _ _⟩
      | str b => cases (show y = _ from ry); obtain ⟨t, rfl⟩ := rv; cases e; exact ⟨RcAt.int_str _ _ _ _, RcNeAt.int_str _ _ _ _, EqAt.int_str _ _ _ _⟩
      | tup ys => obtain ⟨a, ws, rfl, q, r⟩ := ry; cases (show v = _ from rv); cases e; obtain ⟨its, _, p, _⟩ := I.tuple q; exact ⟨RcAt.int_tuple _ _ p hu, RcNeAt.int_tuple _ _ p hu, EqAt.int_tuple _ _ p hu⟩
      | loc j => obtain ⟨a, rfl, q⟩ := ry; cases (show v = _ from rv); obtain ⟨rfl, its, p⟩ := lst e q; exact ⟨RcAt.int_list _ _ p hu, RcNeAt.int_list _ _ p hu, EqAt.int_list _ _ p hu⟩
      | ty m => cases e
    | str a =>
      cases (show x = _ from rx)
      obtain ⟨ta, rfl⟩ := ru
      cases b with
      | non => cases (show y = _ from ry); cases (show v = _ from rv); cases e; exact ⟨RcAt.str_none _ _, RcNeAt.str_none _ _, EqAt.str_none _ _⟩
      | bl b => cases (show y = _ from ry); cases (show v = _ from rv); cases e; exact ⟨RcAt.str_bool _ _ _, RcNeAt.str_bool _ _ _, EqAt.str_bool _ _ _⟩
      | int b => cases (show y = _ from ry); obtain ⟨t, rfl⟩ := rv; cases e; exact ⟨RcAt.str_int _ _ _ _, RcNeAt.str_int _ _ _ _, EqAt.str_int _ _ _ _⟩
      | str b => cases (show y = _ from ry); obtain ⟨t, rfl⟩ := rv; cases e; exact ⟨RcAt.str_str _ _ _ _, RcNeAt.str_str _ _ _ _, EqAt.str_str _ _ _ _⟩
      | tup ys => obtain ⟨a, ws, rfl, q, r⟩ := ry; cases (show v = _ from rv); cases e; obtain ⟨its, _, p, _⟩ := I.tuple q; exact ⟨RcAt.str_tuple _ _ p hu, RcNeAt.str_tuple _ _ p hu, EqAt.str_tuple _ _ p hu⟩
      | loc j => obtain ⟨a, rfl, q⟩ := ry; cases (show v = _ from rv); obtain ⟨rfl, its, p⟩ := lst e q; exact ⟨RcAt.str_list _ _ p hu, RcNeAt.str_list _ _ p hu, EqAt.str_list _ _ p hu⟩
      | ty m => cases e
    | tup xs =>
      have rx0 := rx
      obtain ⟨l, vs, rfl, q0, r0⟩ := rx
      cases (show u = _ from ru)
      obtain ⟨its, vr, p0, _⟩ := I.tuple q0
      cases b with
      | non => cases (show y = _ from ry); cases (show v = _ from rv); cases e; exact ⟨RcAt.tuple_none p0 hu, RcNeAt.tuple_none p0 hu, EqAt.tuple_none p0 hu⟩
      | bl b => cases (show y = _ from ry); cases (show v = _ from rv); cases e; exact ⟨RcAt.tuple_bool _ p0 hu, RcNeAt.tuple_bool _ p0 hu, EqAt.tuple_bool _ p0 hu⟩
      | int b => cases (show y = _ from ry); obtain ⟨t, rfl⟩ := rv; cases e; exact ⟨RcAt.tuple_int _ _ p0 hu, RcNeAt.tuple_int _ _ p0 hu, EqAt.tuple_int _ _ p0 hu⟩
      | str b => cases (show y = _ from ry); obtain ⟨t, rfl⟩ := rv; cases e; exact ⟨RcAt.tuple_str _ _ p0 hu, RcNeAt.tuple_str _ _ p0 hu, EqAt.tuple_str _ _ p0 hu⟩
      | loc j => obtain ⟨a, rfl, q⟩ := ry; cases (show v = _ from rv); obtain ⟨rfl, its', p⟩ := lst e q; exact ⟨RcAt.tuple_list p0 p hu, RcNeAt.tuple_list p0 p hu, EqAt.tuple_list p0 p hu⟩
      | ty m => cases e
      | tup ys =>
        have ry0 := ry
        have e0 := e
        obtain ⟨m, ws, rfl, q1, r1⟩ := ry
        cases (show v = _ from rv)
        obtain ⟨its', wr, p1, _⟩ := I.tuple q1
        unfold rcD at e
        obtain ⟨b, e1, e2⟩ := Option.map_eq_some_iff.mp e
        have hz := items_ok (n := n) e1 r0 r1 vr wr ih
        have ek : ((List.range (min its.toArray.size its'.toArray.size)).all (zAt (rcD μ n) xs ys) && its.toArray.size == its'.toArray.size) = k := by
          rw [← e2]
          have l1 : its.toArray.size = xs.length := by rw [r0.length, vr.length]; simp
          have l2 : its'.toArray.size = ys.length := by rw [r1.length, wr.length]; simp
          rw [l1, l2, (zipAll_range e1).1]
        refine rcOk_refs (ek ▸ RcAt.tuples p0 p1 hu hz) (ek ▸ RcNeAt.tuples p0 p1 hu hz) fun z => ?_
        subst z
        have := Rep.inj I S _ _ _ rx0 ry0
        rw [this] at e0
        exact rcD_refl _ _ _ e0
    | ty m => cases b <;> cases e
    | loc i =>
      have rx0 := rx
      obtain ⟨l, rfl, q0⟩ := rx
      cases (show u = _ from ru)
      cases b with
      | non => cases (show y = _ from ry); cases (show v = _ from rv); obtain ⟨rfl, its, p⟩ := lst e q0; exact ⟨RcAt.list_none p hu, RcNeAt.list_none p hu, EqAt.list_none p hu⟩
      | bl b => cases (show y = _ from ry); cases (show v = _ from rv); obtain ⟨rfl, its, p⟩ := lst e q0; exact ⟨RcAt.list_bool _ p hu, RcNeAt.list_bool _ p hu, EqAt.list_bool _ p hu⟩
      | int b => cases (show y = _ from ry); obtain ⟨t, rfl⟩ := rv; obtain ⟨rfl, its, p⟩ := lst e q0; exact ⟨RcAt.list_int _ _ p hu, RcNeAt.list_int _ _ p hu, EqAt.list_int _ _ p hu⟩
      | str b => cases (show y = _ from ry); obtain ⟨t, rfl⟩ := rv; obtain ⟨rfl, its, p⟩ := lst e q0; exact ⟨RcAt.list_str _ _ p hu, RcNeAt.list_str _ _ p hu, EqAt.list_str _ _ p hu⟩
      | tup ys => obtain ⟨a, ws, rfl, q, r⟩ := ry; cases (show v = _ from rv); obtain ⟨rfl, its, p⟩ := lst e q0; obtain ⟨its', _, p', _⟩ := I.tuple q; exact ⟨RcAt.list_tuple p p' hu, RcNeAt.list_tuple p p' hu, EqAt.list_tuple p p' hu⟩
      | ty m => cases e
      | loc j =>
        have ry0 := ry
        have e0 := e
        obtain ⟨m, rfl, q1⟩ := ry
        cases (show v = _ from rv)
        unfold rcD at e
        split at e
        · rename_i xs ys e1 e2
          obtain ⟨vs, s0, r0⟩ := S.list e1 q0
          obtain ⟨ws, s1, r1⟩ := S.list e2 q1
          obtain ⟨its, vr, p0, _⟩ := I.list s0
          obtain ⟨its', wr, p1, _⟩ := I.list s1
          have l1 : its.toArray.size = xs.length := by rw [r0.length, vr.length]; simp
          have l2 : its'.toArray.size = ys.length := by rw [r1.length, wr.length]; simp
          have same : l = m → k = true := fun z => by
            subst z
            have := Rep.inj I S _ _ _ rx0 ry0
            rw [this] at e0
            exact rcD_refl _ _ _ e0
          by_cases hl : xs.length = ys.length
          · rw [if_pos hl] at e
            have hz := items_ok (n := n) e r0 r1 vr wr ih
            have ek : (List.range its.toArray.size).all (zAt (rcD μ n) xs ys) = k := by
              have := (zipAll_range e).1
              rw [← hl, Nat.min_self] at this
              rw [l1, this]
            exact rcOk_refs (ek ▸ RcAt.lists p0.isList p1.isList (by rw [l1, l2, hl]) hu hz) (ek ▸ RcNeAt.lists p0.isList p1.isList (by rw [l1, l2, hl]) hu hz) same
          · rw [if_neg hl] at e
            cases e
            have ne : (its.toArray.size != its'.toArray.size) = true := by rw [l1, l2]; simpa using hl
            exact rcOk_refs (RcAt.lists_lengths p0.isList p1.isList ne hu) (RcNeAt.lists_lengths p0.isList p1.isList ne hu) same
        · cases e
end
end DL
namespace DL
open PySem PySem.Spec PyProof.Rows L2
open PySem.SeqAt (EqAt RcAt RcNeAt)
section
variable {K : PySem.W.Frag} {H : Hp} {α : List Addr} {μ : Sto} {Q : VK}
theorem Kont.tup {ds : List D} {xs : List V} (k : Kont K H α μ (.tup ds) Q) (S : RepS K H α μ) (r : Reps K H α ds xs) : ∀ p, H p = none → Q (.ref p) (upd H p (.tup xs)) := fun p hp =>
  k _ α _ (ext_tup α hp) (S.tup hp) ⟨p, xs, rfl, .inl (.inl upd_same), r.up (ext_tup α hp)⟩
theorem Kont.lst {ds : List D} {xs : List V} (k : Kont K H α (μ ++ [.lst ds]) (.loc μ.length) Q) (S : RepS K H α μ) (r : Reps K H α ds xs) : ∀ p, H p = none → Q (.ref p) (upd H p (.lst xs)) := fun p hp =>
  k _ (α ++ [p]) _ (ext_new α [p] hp) (S.new hp ⟨xs, upd_same, r.up (ext_new α [p] hp)⟩) (rep_new S)
theorem Kont.dic {kvs : List (Key × D)} {kv : List (Key × V)} (k : Kont K H α (μ ++ [.dic kvs]) (.loc μ.length) Q) (S : RepS K H α μ) (r1 : kvs.map (·.1) = kv.map (·.1)) (r : Reps K H α (kvs.map (·.2)) (kv.map (·.2))) :
    ∀ p, H p = none → Q (.ref p) (upd H p (.dK kv)) := fun p hp =>
  k _ (α ++ [p]) _ (ext_new α [p] hp) (S.new hp ⟨kv, upd_same, r1, r.up (ext_new α [p] hp)⟩) (rep_new S)
theorem Kont.setL {n : Nat} {ds ds' : List D} {xs xs' : List V} {a : Addr} {d : D} {v : V} (k : Kont K H α (μ.set n (.lst ds')) d Q) (S : RepS K H α μ) (e : α[n]? = some a) (h : H a = some (.lst xs)) (r : Reps K H α ds' xs') (rv : Rep K H α d v) :
    Q v (upd H a (.lst xs')) :=
  k _ α _ (ext_write (nt_lst h)) (S.write e (nt_lst h) ⟨xs', upd_same, r.up (ext_write (nt_lst h))⟩) (rv.up (ext_write (nt_lst h)))
end
abbrev G2 := D → D → Sto → Option (D × Sto)
abbrev GN := List D → Sto → Option (D × Sto)
abbrev G1 := D → Sto → Option (D × Sto)
def rD (K : PySem.W.Frag) (g : G2) : R2 := fun x y H Q => ∃ α μ a b d μ', RepS K H α μ ∧ Rep K H α a x ∧ Rep K H α b y ∧ g a b μ = some (d, μ') ∧ Kont K H α μ' d Q
def uD (K : PySem.W.Frag) (g : G1) : V → Hp → VK → Prop := fun x H Q => ∃ α μ a d μ', RepS K H α μ ∧ Rep K H α a x ∧ g a μ = some (d, μ') ∧ Kont K H α μ' d Q
def cD (K : PySem.W.Frag) (g : GN) : List V → Hp → VK → Prop := fun xs H Q => ∃ α μ ds d μ', RepS K H α μ ∧ Reps K H α ds xs ∧ g ds μ = some (d, μ') ∧ Kont K H α μ' d Q
def mD (K : PySem.W.Frag) (g : D → List D → Sto → Option (D × Sto)) : V → List V → Hp → VK → Prop := fun x xs H Q => ∃ α μ a ds d μ', RepS K H α μ ∧ Rep K H α a x ∧ Reps K H α ds xs ∧ g a ds μ = some (d, μ') ∧ Kont K H α μ' d Q
def opAdd : G2
  | .int i, .int j, μ => some (.int (i + j), μ)
  | .str x, .str y, μ => if x.length + y.length ≤ sizeLine then some (.str (x ++ y), μ) else none
  | .tup xs, .tup ys, μ => if xs.length + ys.length ≤ sizeLine then some (.tup (xs ++ ys), μ) else none
  | _, _, _ => none
def opSub : G2
  | .int i, .int j, μ => some (.int (i - j), μ)
  | _, _, _ => none
def mulOk (i j : Int) : Bool := decide (i.natAbs.log2 + j.natAbs.log2 < 100000000)
def opMul : G2
  | .int i, .int j, μ => if mulOk i j then some (.int (i * j), μ) else none
  | _, _, _ => none
def opFdiv : G2
  | .int i, .int j, μ => if j ≠ 0 ∧ Builtin.divisionGoesByPylong i j = false then some (.int (i.fdiv j), μ) else none
  | _, _, _ => none
def opMod : G2
  | .int i, .int j, μ => if j ≠ 0 then some (.int (i.fmod j), μ) else none
  | _, _, _ => none
def opPow : G2
  | .int i, .int j, μ => if 0 ≤ j ∧ j ≤ 1000000 ∧ i.natAbs < 2 ^ 64 then some (.int (i ^ j.toNat), μ) else none
  | _, _, _ => none
def opCmp (p : Int → Int → Bool) : G2
  | .int i, .int j, μ => some (.bl (p i j), μ)
  | _, _, _ => none
abbrev opLt : G2 := opCmp fun i j => decide (i < j)
abbrev opLe : G2 := opCmp fun i j => decide (i ≤ j)
abbrev opGt : G2 := opCmp fun i j => decide (j < i)
abbrev opGe : G2 := opCmp fun i j => decide (j ≤ i)
def opEq : G2 := fun a b μ => (rcD μ 60 a b).map fun k => (.bl k, μ)
def opNe : G2 := fun a b μ => (rcD μ 60 a b).map fun k => (.bl !k, μ)
theorem mulOk_ok {i j : Int} (h : mulOk i j = true) : IntMulOk i j := by
  have b : ∀ x : Int, Builtin.Int.intBits x ≤ x.natAbs.log2 + 1 := fun x => by
    unfold Builtin.Int.intBits
    split <;> omega
  have h1 := b i
  have h2 := b j
  have h3 : i.natAbs.log2 + j.natAbs.log2 < 100000000 := of_decide_eq_true h
  have e : bitsLine = 134217728 := by decide
  unfold IntMulOk
  intro z
  rw [Bool.and_eq_true] at z
  have z2 := z.2
  unfold Builtin.Int.intTooBig at z2
  have z3 := of_decide_eq_true z2
  rw [e] at z3
  omega
section
variable {X : Cx}
theorem do_add : OpR X (binaryOp .Add) (rD X.K opAdd) := by
  refine (op_add.or (op_add_str.or op_catA)).imp ?_
  rintro x y H Q ⟨α, μ, a, b, d, μ', S, ra, rb, e, k⟩
  cases a with
  | int i => cases b with
    | int j => cases e; exact .inl ⟨i, j, ra, rb, kont_self k S rfl⟩
    | _ => cases e
  | str i => cases b with
    | str j =>
      replace e : (if i.length + j.length ≤ sizeLine then some (D.str (i ++ j), μ) else none) = some (d, μ') := e
      split at e
      · rename_i h
        cases e
        exact .inr (.inl ⟨i, j, ra, rb, h, kont_self k S rfl⟩)
      · cases e
    | _ => cases e
  | tup xs => cases b with
    | tup ys =>
      replace e : (if xs.length + ys.length ≤ sizeLine then some (D.tup (xs ++ ys), μ) else none) = some (d, μ') := e
      split at e
      · rename_i h
        cases e
        obtain ⟨p, vs, rfl, q1, r1⟩ := ra
        obtain ⟨q, ws, rfl, q2, r2⟩ := rb
        refine .inr (.inr ⟨p, q, vs, ws, rfl, rfl, q1, q2, by rw [← r1.length, ← r2.length]; exact h, fun z => ?_, fun _ z => ?_, fun _ _ => k.tup S (r1.append r2)⟩)
        · have := r1.nil_iff.mpr z
          subst this
          exact kont_self k S ⟨q, ws, rfl, q2, r2⟩
        · have := r2.nil_iff.mpr z
          subst this
          rw [List.append_nil] at k
          exact kont_self k S ⟨p, vs, rfl, q1, r1⟩
      · cases e
    | _ => cases e
  | _ => cases b <;> cases e
theorem opR_int {f : Value → Value → Sem Value} {C : Int → Int → Prop} {h : Int → Int → D} {hv : Int → Int → V} {g : G2} (o : OpR X f (rI C hv)) (hh : ∀ H α i j, Rep X.K H α (h i j) (hv i j))
    (hg : ∀ a b μ d μ', g a b μ = some (d, μ') → ∃ i j, a = .int i ∧ b = .int j ∧ C i j ∧ d = h i j ∧ μ' = μ) : OpR X f (rD X.K g) := by
  refine o.imp ?_
  rintro x y H Q ⟨α, μ, a, b, d, μ', S, ra, rb, e, k⟩
  obtain ⟨i, j, rfl, rfl, c, rfl, rfl⟩ := hg _ _ _ _ _ e
  exact ⟨i, j, ra, rb, c, kont_self k S (hh _ _ _ _)⟩
theorem rI0_I {f : Value → Value → Sem Value} {g : Int → Int → V} (o : OpR X f (rI0 g)) : OpR X f (rI (fun _ _ => True) g) := o.imp fun x y H Q ⟨i, j, h1, h2, _, q⟩ => ⟨i, j, h1, h2, q⟩
theorem do_sub : OpR X (binaryOp .Sub) (rD X.K opSub) := opR_int (h := fun i j => .int (i - j)) (rI0_I op_sub) (fun _ _ _ _ => rfl) fun a b μ d μ' e => by
  cases a <;> cases b <;> cases e; exact ⟨_, _, rfl, rfl, trivial, rfl, rfl⟩
theorem do_mul : OpR X (binaryOp .Mult) (rD X.K opMul) := opR_int (C := fun i j => mulOk i j = true) (h := fun i j => .int (i * j)) (opI fun _ _ _ _ _ _ _ hc q => mul_int q (mulOk_ok hc)) (fun _ _ _ _ => rfl) fun a b μ d μ' e => by
  cases a with
  | int i => cases b with
    | int j =>
      replace e : (if mulOk i j then some (D.int (i * j), μ) else none) = some (d, μ') := e
      split at e
      · rename_i h; cases e; exact ⟨_, _, rfl, rfl, h, rfl, rfl⟩
      · cases e
    | _ => cases e
  | _ => cases b <;> cases e
theorem do_fdiv : OpR X (binaryOp .FloorDiv) (rD X.K opFdiv) := opR_int (C := fun i j => j ≠ 0 ∧ Builtin.divisionGoesByPylong i j = false) (h := fun i j => .int (i.fdiv j)) (opI fun _ _ _ _ _ _ _ hc q => floordiv_int hc.1 q (.inl hc.2)) (fun _ _ _ _ => rfl) fun a b μ d μ' e => by
  cases a with
  | int i => cases b with
    | int j =>
      replace e : (if j ≠ 0 ∧ Builtin.divisionGoesByPylong i j = false then some (D.int (i.fdiv j), μ) else none) = some (d, μ') := e
      split at e
      · rename_i h; cases e; exact ⟨_, _, rfl, rfl, h, rfl, rfl⟩
      · cases e
    | _ => cases e
  | _ => cases b <;> cases e
theorem do_mod : OpR X (binaryOp .Mod) (rD X.K opMod) := opR_int (C := fun _ j => j ≠ 0) (h := fun i j => .int (i.fmod j)) op_modN (fun _ _ _ _ => rfl) fun a b μ d μ' e => by
  cases a with
  | int i => cases b with
    | int j =>
      replace e : (if j ≠ 0 then some (D.int (i.fmod j), μ) else none) = some (d, μ') := e
      split at e
      · rename_i h; cases e; exact ⟨_, _, rfl, rfl, h, rfl, rfl⟩
      · cases e
    | _ => cases e
  | _ => cases b <;> cases e
theorem do_pow : OpR X (binaryOp .Pow) (rD X.K opPow) := opR_int (C := CPow) (h := fun i j => .int (i ^ j.toNat)) op_pow (fun _ _ _ _ => rfl) fun a b μ d μ' e => by
  cases a with
  | int i => cases b with
    | int j =>
      replace e : (if 0 ≤ j ∧ j ≤ 1000000 ∧ i.natAbs < 2 ^ 64 then some (D.int (i ^ j.toNat), μ) else none) = some (d, μ') := e
      split at e
      · rename_i h; cases e; exact ⟨_, _, rfl, rfl, h, rfl, rfl⟩
      · cases e
    | _ => cases e
  | _ => cases b <;> cases e
theorem opCmp_some {p : Int → Int → Bool} {a b : D} {μ μ' : Sto} {d : D} (e : opCmp p a b μ = some (d, μ')) : ∃ i j, a = .int i ∧ b = .int j ∧ True ∧ d = .bl (p i j) ∧ μ' = μ := by
  cases a <;> cases b <;> cases e; exact ⟨_, _, rfl, rfl, trivial, rfl, rfl⟩
theorem do_lt : OpR X (compareOp .Lt) (rD X.K opLt) := opR_int (h := fun i j => .bl (decide (i < j))) (rI0_I op_lt) (fun _ _ _ _ => rfl) fun a b μ d μ' e => opCmp_some e
theorem do_le : OpR X (compareOp .LtE) (rD X.K opLe) := opR_int (h := fun i j => .bl (decide (i ≤ j))) (rI0_I op_le) (fun _ _ _ _ => rfl) fun a b μ d μ' e => opCmp_some e
theorem do_gt : OpR X (compareOp .Gt) (rD X.K opGt) := opR_int (h := fun i j => .bl (decide (j < i))) (rI0_I op_gt) (fun _ _ _ _ => rfl) fun a b μ d μ' e => opCmp_some e
theorem do_ge : OpR X (compareOp .GtE) (rD X.K opGe) := opR_int (h := fun i j => .bl (decide (j ≤ i))) (rI0_I op_ge) (fun _ _ _ _ => rfl) fun a b μ d μ' e => opCmp_some e
theorem do_eq (hu : X.A.units + 64 < cLine) : OpR X (compareOp .Eq) (rD X.K opEq) := by
  rintro pins s σ H x y v u Q I rx ry ⟨α, μ, a, b, d, μ', S, ra, rb, e, k⟩
  obtain ⟨c, e1, e2⟩ := Option.map_eq_some_iff.mp e
  cases e2
  exact (rc_ok I S 60 X.A a b c x y v u (by omega) e1 ra rb rx ry).1 _ _ _ _ ⟨.bl c, H, I, rfl, kont_self k S rfl⟩
theorem do_ne (hu : X.A.units + 64 < cLine) : OpR X (compareOp .NotEq) (rD X.K opNe) := by
  rintro pins s σ H x y v u Q I rx ry ⟨α, μ, a, b, d, μ', S, ra, rb, e, k⟩
  obtain ⟨c, e1, e2⟩ := Option.map_eq_some_iff.mp e
  cases e2
  exact (rc_ok I S 60 X.A a b c x y v u (by omega) e1 ra rb rx ry).2.1 _ _ _ _ ⟨.bl (!c), H, I, rfl, kont_self k S rfl⟩
end
def unNeg : G1
  | .int i, μ => some (.int (-i), μ)
  | _, _ => none
def truD (μ : Sto) : D → Option Bool
  | .non => some false
  | .bl b => some b
  | .int i => some (i != 0)
  | .str x => if x.length ≤ sizeLine then some ((x.length : Int) != 0) else none
  | .tup ds => some !ds.isEmpty
  | .loc n => match μ[n]? with
    | some (.lst ds) => some !ds.isEmpty
    | some (.frz ds) => some !ds.isEmpty
    | some (.dic kvs) => some !kvs.isEmpty
    | some (.dfz _) => none
    | some (.tab _) => none
    | none => none
  | .ty _ => none
section
variable {X : Cx}
theorem du_neg : UnR X (unaryOp .USub) (uD X.K unNeg) := by
  refine un_neg.imp ?_
  rintro x H Q ⟨α, μ, a, d, μ', S, ra, e, k⟩
  cases a <;> cases e
  exact ⟨_, ra, kont_self k S rfl⟩
theorem isEmpty_reps {K : PySem.W.Frag} {H : Hp} {α : List Addr} {ds : List D} {xs : List V} (r : Reps K H α ds xs) : ds.isEmpty = xs.isEmpty := by
  have := r.length
  cases ds <;> cases xs <;> simp_all
theorem truV {H : Hp} {α : List Addr} {μ : Sto} {a : D} {x : V} {b : Bool} (S : RepS X.K H α μ) (ra : Rep X.K H α a x) (e : truD μ a = some b) : TruV X.K x H b := by
  cases a with
  | non => cases e; cases (show x = _ from ra); rfl
  | bl c => cases e; cases (show x = _ from ra); rfl
  | int i => cases e; cases (show x = _ from ra); rfl
  | str y =>
    cases (show x = _ from ra)
    replace e : (if y.length ≤ sizeLine then some ((y.length : Int) != 0) else none) = some b := e
    split at e
    · rename_i h; cases e; exact ⟨h, rfl⟩
    · cases e
  | tup ds =>
    obtain ⟨p, xs, rfl, q, r⟩ := ra
    cases e
    exact .inr (.inl ⟨xs, q, by rw [isEmpty_reps r]⟩)
  | loc n =>
    obtain ⟨p, rfl, q⟩ := ra
    obtain ⟨o, e2, r⟩ := S.here q
    simp only [truD, e2] at e
    cases o with
    | lst ds => cases e; obtain ⟨xs, h, r⟩ := r; exact .inl ⟨xs, .inl (.inl h), by rw [isEmpty_reps r]⟩
    | frz ds => cases e; obtain ⟨o, xs, h, r⟩ := r; exact .inl ⟨xs, .inl (.inr ⟨o, h⟩), by rw [isEmpty_reps r]⟩
    | dic kvs =>
      cases e
      obtain ⟨kv, h, r1, r2⟩ := r
      refine .inr (.inr ⟨kv, h, ?_⟩)
      have := isEmpty_reps r2
      simpa using this
    | dfz kvs => cases e
    | tab x => cases e
  | ty n => cases e
end
end DL
namespace DL
open PySem PySem.Spec PyProof.Rows L2
def intsOf : List D → Option (List Int)
  | [] => some []
  | .int i :: ds => (intsOf ds).map (i :: ·)
  | _ :: _ => none
theorem intsOf_map : ∀ {ds : List D} {ns : List Int}, intsOf ds = some ns → ds = ns.map D.int
  | [], ns, e => by cases e; rfl
  | d :: ds, ns, e => by
    cases d with
    | int i =>
      obtain ⟨m, h, rfl⟩ := Option.map_eq_some_iff.mp (show (intsOf ds).map (i :: ·) = some ns from e)
      rw [intsOf_map h]; rfl
    | _ => cases e
theorem intsOf_ints : ∀ ns : List Int, intsOf (ns.map D.int) = some ns
  | [] => rfl
  | n :: ns => by
    show (intsOf (ns.map D.int)).map (n :: ·) = _
    rw [intsOf_ints ns]; rfl
def blsOf : List D → Option (List Bool)
  | [] => some []
  | .bl i :: ds => (blsOf ds).map (i :: ·)
  | _ :: _ => none
theorem blsOf_map : ∀ {ds : List D} {ns : List Bool}, blsOf ds = some ns → ds = ns.map D.bl
  | [], ns, e => by cases e; rfl
  | d :: ds, ns, e => by
    cases d with
    | bl i =>
      obtain ⟨m, h, rfl⟩ := Option.map_eq_some_iff.mp (show (blsOf ds).map (i :: ·) = some ns from e)
      rw [blsOf_map h]; rfl
    | _ => cases e
theorem blsOf_bls : ∀ ns : List Bool, blsOf (ns.map D.bl) = some ns
  | [] => rfl
  | n :: ns => by
    show (blsOf (ns.map D.bl)).map (n :: ·) = _
    rw [blsOf_bls ns]; rfl
def maxI : Int → List Int → Int
  | i, [] => i
  | i, j :: js => maxI (if j > i then j else i) js
def minI : Int → List Int → Int
  | i, [] => i
  | i, j :: js => minI (if j < i then j else i) js
theorem maxI_ok : ∀ (i : Int) (js : List Int), maxI i js ∈ i :: js ∧ ∀ y ∈ i :: js, y ≤ maxI i js
  | i, [] => by simp [maxI]
  | i, j :: js => by
    obtain ⟨h1, h2⟩ := maxI_ok (if j > i then j else i) js
    show maxI (if j > i then j else i) js ∈ _ ∧ ∀ y ∈ _, y ≤ maxI (if j > i then j else i) js
    have h3 := h2 _ List.mem_cons_self
    refine ⟨?_, fun y hy => ?_⟩
    · rcases List.mem_cons.mp h1 with e | e
      · rw [e]; split <;> simp
      · simp [e]
    · have h4 : i ≤ (if j > i then j else i) ∧ j ≤ (if j > i then j else i) := by split <;> omega
      rcases List.mem_cons.mp hy with rfl | hy
      · omega
      · rcases List.mem_cons.mp hy with rfl | hy
        · omega
        · exact h2 y (List.mem_cons_of_mem _ hy)
theorem minI_ok : ∀ (i : Int) (js : List Int), minI i js ∈ i :: js ∧ ∀ y ∈ i :: js, minI i js ≤ y
  | i, [] => by simp [minI]
  | i, j :: js => by
    obtain ⟨h1, h2⟩ := minI_ok (if j < i then j else i) js
    show minI (if j < i then j else i) js ∈ _ ∧ ∀ y ∈ _, minI (if j < i then j else i) js ≤ y
    have h3 := h2 _ List.mem_cons_self
    refine ⟨?_, fun y hy => ?_⟩
    · rcases List.mem_cons.mp h1 with e | e
      · rw [e]; split <;> simp
      · simp [e]
    · have h4 : (if j < i then j else i) ≤ i ∧ (if j < i then j else i) ≤ j := by split <;> omega
      rcases List.mem_cons.mp hy with rfl | hy
      · omega
      · rcases List.mem_cons.mp hy with rfl | hy
        · omega
        · exact h2 y (List.mem_cons_of_mem _ hy)
section
variable {X : Cx}
/-- a tracked or frozen list of the store -/
theorem RepS.sql {K : PySem.W.Frag} {H : Hp} {α : List Addr} {μ : Sto} (S : RepS K H α μ) {i : Nat} {ds : List D} {v : V} (h : lstAt μ i = some ds) (r : Rep K H α (.loc i) v) : ∃ a xs, v = .ref a ∧ SqL K H a xs ∧ Reps K H α ds xs := by
  obtain ⟨a, rfl, e⟩ := r
  obtain ⟨o, e2, r⟩ := S.here e
  unfold lstAt at h
  rw [e2] at h
  cases o with
  | lst ds' => cases h; obtain ⟨xs, q, r⟩ := r; exact ⟨a, xs, rfl, .inl (.inl q), r⟩
  | frz ds' => cases h; obtain ⟨o, xs, q, r⟩ := r; exact ⟨a, xs, rfl, .inl (.inr ⟨o, q⟩), r⟩
  | dic kvs => cases h
  | dfz kvs => cases h
  | tab x => cases h
def cAbs : GN
  | [.int i], μ => some (.int (if i < 0 then -i else i), μ)
  | _, _ => none
def cMax : GN
  | [.int i, .int j], μ => some (.int (if j > i then j else i), μ)
  | [.loc n], μ => match (lstAt μ n).bind intsOf with
    | some (i :: is) => some (.int (maxI i is), μ)
    | _ => none
  | _, _ => none
def cMin : GN
  | [.int i, .int j], μ => some (.int (if j < i then j else i), μ)
  | [.loc n], μ => match (lstAt μ n).bind intsOf with
    | some (i :: is) => some (.int (minI i is), μ)
    | _ => none
  | _, _ => none
def cInt : GN
  | [.int i], μ => some (.int i, μ)
  | [.bl k], μ => some (.int (if k then 1 else 0), μ)
  | _, _ => none
def cLen : GN
  | [.str x], μ => if x.length ≤ sizeLine then some (.int x.length, μ) else none
  | [.tup ds], μ => some (.int ds.length, μ)
  | [.loc n], μ => (lstAt μ n).map fun ds => (.int ds.length, μ)
  | _, _ => none
def cDivmod : GN
  | [.int i, .int j], μ => if 0 < j ∧ j < 1073741824 then some (.tup [.int (i / j), .int (i % j)], μ) else none
  | _, _ => none
def cTuple : GN
  | [.tup ds], μ => some (.tup ds, μ)
  | [.loc n], μ => (lstAt μ n).map fun ds => (.tup ds, μ)
  | _, _ => none
def keyD : Key → D
  | .inl i => .int i
  | .inr x => .str x
def cList : GN
  | [.tup ds], μ => some (.loc μ.length, μ ++ [.lst ds])
  | [.loc n], μ => match μ[n]? with
    | some (.lst ds) => some (.loc μ.length, μ ++ [.lst ds])
    | some (.frz ds) => some (.loc μ.length, μ ++ [.lst ds])
    | some (.dic kvs) => some (.loc μ.length, μ ++ [.lst (kvs.map fun kv => keyD kv.1)])
    | some (.dfz _) => none
    | some (.tab _) => none
    | none => none
  | _, _ => none
def cAll : GN
  | [.loc n], μ => ((lstAt μ n).bind blsOf).map fun bs => (.bl (bs.all id), μ)
  | _, _ => none
def cGcd : GN
  | [.int a, .int b], μ => some (.int ((Nat.gcd a.natAbs b.natAbs : Nat) : Int), μ)
  | _, _ => none
theorem dc_abs : CallR X (.builtin "abs") (cD X.K cAbs) := by
  refine call_abs.imp ?_
  rintro xs H Q ⟨α, μ, ds, d, μ', S, r, e, k⟩
  unfold cAbs at e
  split at e
  · cases e
    obtain ⟨v, _, rfl, h1, h2⟩ := r
    cases (show v = _ from h1); cases (show _ = _ from h2)
    exact ⟨_, rfl, kont_self k S rfl⟩
  · cases e
theorem ints_bind {μ : Sto} {n : Nat} {ns : List Int} (h : (lstAt μ n).bind intsOf = some ns) : lstAt μ n = some (ns.map D.int) := by
  obtain ⟨ds, h1, h2⟩ := Option.bind_eq_some_iff.mp h
  rw [h1, intsOf_map h2]
theorem bls_bind {μ : Sto} {n : Nat} {ns : List Bool} (h : (lstAt μ n).bind blsOf = some ns) : lstAt μ n = some (ns.map D.bl) := by
  obtain ⟨ds, h1, h2⟩ := Option.bind_eq_some_iff.mp h
  rw [h1, blsOf_map h2]
theorem dc_max (hc : X.calm = true) : CallR X (.builtin "max") (cD X.K cMax) := by
  refine ((call_max2 hc).or (cr_max hc)).imp ?_
  rintro xs H Q ⟨α, μ, ds, d, μ', S, r, e, k⟩
  unfold cMax at e
  split at e
  · cases e
    obtain ⟨v, _, rfl, h1, w, _, rfl, h2, h3⟩ := r
    cases (show v = _ from h1); cases (show w = _ from h2); cases (show _ = _ from h3)
    exact .inl ⟨_, _, rfl, kont_self k S rfl⟩
  · split at e
    · rename_i i is q
      cases e
      obtain ⟨v, _, rfl, h1, h2⟩ := r
      cases (show _ = _ from h2)
      obtain ⟨a, ys, rfl, sq, rr⟩ := S.sql (ints_bind q) h1
      refine .inr ⟨a, i :: is, rfl, by rw [← rr.ints]; exact sq, by simp, fun m hm hy => ?_⟩
      obtain ⟨z1, z2⟩ := maxI_ok i is
      have : m = maxI i is := Int.le_antisymm (z2 m hm) (hy _ z1)
      rw [this]
      exact kont_self k S rfl
    · cases e
  · cases e
theorem dc_min (hc : X.calm = true) : CallR X (.builtin "min") (cD X.K cMin) := by
  refine ((call_min2 hc).or (cr_min hc)).imp ?_
  rintro xs H Q ⟨α, μ, ds, d, μ', S, r, e, k⟩
  unfold cMin at e
  split at e
  · cases e
    obtain ⟨v, _, rfl, h1, w, _, rfl, h2, h3⟩ := r
    cases (show v = _ from h1); cases (show w = _ from h2); cases (show _ = _ from h3)
    exact .inl ⟨_, _, rfl, kont_self k S rfl⟩
  · split at e
    · rename_i i is q
      cases e
      obtain ⟨v, _, rfl, h1, h2⟩ := r
      cases (show _ = _ from h2)
      obtain ⟨a, ys, rfl, sq, rr⟩ := S.sql (ints_bind q) h1
      refine .inr ⟨a, i :: is, rfl, by rw [← rr.ints]; exact sq, by simp, fun m hm hy => ?_⟩
      obtain ⟨z1, z2⟩ := minI_ok i is
      have : m = minI i is := Int.le_antisymm (hy _ z1) (z2 m hm)
      rw [this]
      exact kont_self k S rfl
    · cases e
  · cases e
theorem dc_int : CallR X (.type "int") (cD X.K cInt) := by
  refine call_int1.imp ?_
  rintro xs H Q ⟨α, μ, ds, d, μ', S, r, e, k⟩
  unfold cInt at e
  split at e
  · cases e
    obtain ⟨v, _, rfl, h1, h2⟩ := r
    cases (show v = _ from h1); cases (show _ = _ from h2)
    exact .inl ⟨_, rfl, kont_self k S rfl⟩
  · cases e
    obtain ⟨v, _, rfl, h1, h2⟩ := r
    cases (show v = _ from h1); cases (show _ = _ from h2)
    exact .inr ⟨_, rfl, kont_self k S rfl⟩
  · cases e
theorem dc_len : CallR X (.builtin "len") (cD X.K cLen) := by
  refine call_len.imp ?_
  rintro xs H Q ⟨α, μ, ds, d, μ', S, r, e, k⟩
  unfold cLen at e
  split at e
  · split at e
    · rename_i h
      cases e
      obtain ⟨v, _, rfl, h1, h2⟩ := r
      cases (show v = _ from h1); cases (show _ = _ from h2)
      exact ⟨_, _, rfl, ⟨h, rfl⟩, kont_self k S rfl⟩
    · cases e
  · cases e
    obtain ⟨v, _, rfl, h1, h2⟩ := r
    cases (show _ = _ from h2)
    obtain ⟨p, ys, rfl, q, rr⟩ := h1
    exact ⟨_, _, rfl, .inr ⟨ys, q, rfl⟩, by rw [← rr.length]; exact kont_self k S rfl⟩
  · obtain ⟨es, q, z⟩ := Option.map_eq_some_iff.mp e
    cases z
    obtain ⟨v, _, rfl, h1, h2⟩ := r
    cases (show _ = _ from h2)
    obtain ⟨a, ys, rfl, sq, rr⟩ := S.sql q h1
    exact ⟨_, _, rfl, .inl ⟨ys, sq, rfl⟩, by rw [← rr.length]; exact kont_self k S rfl⟩
  · cases e
theorem dc_divmod : CallR X (.builtin "divmod") (cD X.K cDivmod) := by
  refine call_divmod.imp ?_
  rintro xs H Q ⟨α, μ, ds, d, μ', S, r, e, k⟩
  unfold cDivmod at e
  split at e
  · split at e
    · rename_i h
      cases e
      obtain ⟨v, _, rfl, h1, w, _, rfl, h2, h3⟩ := r
      cases (show v = _ from h1); cases (show w = _ from h2); cases (show _ = _ from h3)
      exact ⟨_, _, rfl, h, k.tup S ⟨_, _, rfl, rfl, _, _, rfl, rfl, rfl⟩⟩
    · cases e
  · cases e
theorem dc_tuple : CallR X (.type "tuple") (cD X.K cTuple) := by
  refine call_tuple_of.imp ?_
  rintro xs H Q ⟨α, μ, ds, d, μ', S, r, e, k⟩
  unfold cTuple at e
  split at e
  · cases e
    obtain ⟨v, _, rfl, h1, h2⟩ := r
    cases (show _ = _ from h2)
    have h0 := h1
    obtain ⟨p, ys, rfl, q, rr⟩ := h1
    exact ⟨p, ys, rfl, .inr ⟨q, kont_self k S h0⟩⟩
  · obtain ⟨es, q, z⟩ := Option.map_eq_some_iff.mp e
    cases z
    obtain ⟨v, _, rfl, h1, h2⟩ := r
    cases (show _ = _ from h2)
    obtain ⟨a, ys, rfl, sq, rr⟩ := S.sql q h1
    exact ⟨a, ys, rfl, .inl ⟨sq, k.tup S rr⟩⟩
  · cases e
theorem reps_keys {K : PySem.W.Frag} {H : Hp} {α : List Addr} : ∀ {kvs : List (Key × D)} {kv : List (Key × V)}, kvs.map (·.1) = kv.map (·.1) → Reps K H α (kvs.map fun kv => keyD kv.1) (kv.map fun kv => kV kv.1)
  | [], [], _ => rfl
  | [], _ :: _, e => by simp at e
  | _ :: _, [], e => by simp at e
  | p :: kvs, q :: kv, e => by
    simp only [List.map_cons, List.cons.injEq] at e
    refine ⟨kV q.1, _, rfl, ?_, reps_keys e.2⟩
    show Rep K H α (keyD p.1) (kV q.1)
    rw [e.1]
    cases q.1 <;> rfl
theorem dc_list (hc : X.calm = true) : CallR X (.type "list") (cD X.K cList) := by
  refine (call_list_of.or (call_listD hc)).imp ?_
  rintro xs H Q ⟨α, μ, ds, d, μ', S, r, e, k⟩
  unfold cList at e
  split at e
  · cases e
    obtain ⟨v, _, rfl, h1, h2⟩ := r
    cases (show _ = _ from h2)
    obtain ⟨p, ys, rfl, q, rr⟩ := h1
    exact .inl ⟨p, ys, rfl, .inr q, k.lst S rr⟩
  · rename_i n
    obtain ⟨v, _, rfl, h1, h2⟩ := r
    cases (show _ = _ from h2)
    obtain ⟨a, rfl, q⟩ := h1
    obtain ⟨o, e2, r⟩ := S.here q
    rw [e2] at e
    cases o with
    | lst ds => cases e; obtain ⟨xs, h, r⟩ := r; exact .inl ⟨a, xs, rfl, .inl (.inl (.inl h)), k.lst S r⟩
    | frz ds => cases e; obtain ⟨o, xs, h, r⟩ := r; exact .inl ⟨a, xs, rfl, .inl (.inl (.inr ⟨o, h⟩)), k.lst S r⟩
    | dic kvs => cases e; obtain ⟨kv, h, r1, r2⟩ := r; exact .inr ⟨a, kv, rfl, .inl h, k.lst S (reps_keys r1)⟩
    | dfz kvs => cases e
    | tab x => cases e
  · cases e
theorem dc_all (hc : X.calm = true) : CallR X (.builtin "all") (cD X.K cAll) := by
  refine (cr_all hc).imp ?_
  rintro xs H Q ⟨α, μ, ds, d, μ', S, r, e, k⟩
  unfold cAll at e
  split at e
  · obtain ⟨bs, q, z⟩ := Option.map_eq_some_iff.mp e
    cases z
    obtain ⟨v, _, rfl, h1, h2⟩ := r
    cases (show _ = _ from h2)
    obtain ⟨a, ys, rfl, sq, rr⟩ := S.sql (bls_bind q) h1
    exact ⟨a, bs, rfl, by rw [← rr.bls]; exact sq, kont_self k S rfl⟩
  · cases e
theorem dc_gcd : CallR X (.builtin "math.gcd") (cD X.K cGcd) := by
  refine cr_gcd.imp ?_
  rintro xs H Q ⟨α, μ, ds, d, μ', S, r, e, k⟩
  unfold cGcd at e
  split at e
  · cases e
    obtain ⟨v, _, rfl, h1, w, _, rfl, h2, h3⟩ := r
    cases (show v = _ from h1); cases (show w = _ from h2); cases (show _ = _ from h3)
    exact ⟨_, _, rfl, kont_self k S rfl⟩
  · cases e
def kindD (μ : Sto) : D → Option String
  | .non => some "NoneType"
  | .bl _ => some "bool"
  | .int _ => some "int"
  | .str _ => some "str"
  | .tup _ => some "tuple"
  | .loc n => match μ[n]? with
    | some (.lst _) => some "list"
    | some (.frz _) => some "list"
    | some (.dic _) => some "dict"
    | some (.dfz _) => none
    | some (.tab _) => none
    | none => none
  | .ty _ => none
def kinds : List String := ["NoneType", "bool", "int", "str", "tuple", "list", "dict"]
def isKind (a b : String) : Bool := a == b || (a == "bool" && b == "int")
def cIsi : GN
  | [d, .ty t], μ => match kindD μ d with
    | some a => if kinds.contains t then some (.bl (isKind a t), μ) else none
    | none => none
  | _, _ => none
theorem kinds_kit : ∀ a ∈ kinds, ∀ b ∈ kinds, kitB a b = some (isKind a b) := by decide +kernel
theorem kindD_mem {μ : Sto} {d : D} {a : String} (h : kindD μ d = some a) : a ∈ kinds := by
  cases d with
  | loc n =>
    simp only [kindD] at h
    split at h <;> cases h <;> decide
  | ty t => cases h
  | _ => cases h; decide
theorem kindD_ty {H : Hp} {α : List Addr} {μ : Sto} {d : D} {v : V} {a : String} (S : RepS X.K H α μ) (r : Rep X.K H α d v) (h : kindD μ d = some a) : TyX X.K H v (.type a) := by
  cases d with
  | non => cases (show v = _ from r); cases h; exact .base .non
  | bl b => cases (show v = _ from r); cases h; exact .base (.bl _)
  | int b => cases (show v = _ from r); cases h; exact .base (.int _)
  | str b => cases (show v = _ from r); cases h; exact .base (.str _)
  | tup ds =>
    obtain ⟨p, xs, rfl, q, _⟩ := r
    cases h
    rcases q with (q | ⟨o, q⟩) | ⟨o, its, n, q, hc, _⟩
    · exact .base (.tup q)
    · exact .fTuple q
    · exact .kTuple q hc
  | loc n =>
    obtain ⟨p, rfl, q⟩ := r
    obtain ⟨o, e2, r⟩ := S.here q
    simp only [kindD, e2] at h
    cases o with
    | lst ds => cases h; obtain ⟨xs, h, r⟩ := r; exact .base (.lst h)
    | frz ds => cases h; obtain ⟨o, xs, h, r⟩ := r; exact .base (.frz h)
    | dic kvs => cases h; obtain ⟨kv, h, r1, r2⟩ := r; exact .base (.dK h)
    | dfz kvs => cases h
    | tab x => cases h
  | ty t => cases h
theorem dc_isi : CallR X (.builtin "isinstance") (cD X.K cIsi) := by
  refine call_isi.imp ?_
  rintro xs H Q ⟨α, μ, ds, d, μ', S, r, e, k⟩
  unfold cIsi at e
  split at e
  · split at e
    · rename_i a ha
      split at e
      · rename_i t ht
        cases e
        obtain ⟨v, _, rfl, h1, w, _, rfl, h2, h3⟩ := r
        cases (show w = _ from h2); cases (show _ = _ from h3)
        exact ⟨v, _, _, _, _, rfl, .ty _, kindD_ty S h1 ha, kit_ty (kinds_kit _ (kindD_mem ha) _ (by simpa using ht)), kont_self k S rfl⟩
      · cases e
    · cases e
  · cases e
def opIx : G2
  | .tup ds, .int i, μ => (atI ds i).map fun d => (d, μ)
  | .loc n, .int i, μ => ((lstAt μ n).bind fun ds => atI ds i).map fun d => (d, μ)
  | _, _, _ => none
theorem atI_reps {K : PySem.W.Frag} {H : Hp} {α : List Addr} {ds : List D} {xs : List V} {i : Int} {d : D} (r : Reps K H α ds xs) (h : atI ds i = some d) : ∃ v, atI xs i = some v ∧ Rep K H α d v := by
  unfold atI at h ⊢
  rw [← r.length]
  obtain ⟨j, h1, h2⟩ := Option.bind_eq_some_iff.mp h
  obtain ⟨v, h3, h4⟩ := r.get h2
  exact ⟨v, by rw [h1]; exact h3, h4⟩
theorem IxR.imp {t u : R2} (h : IxR X t) (i : ∀ x y H Q, u x y H Q → t x y H Q) : IxR X u := fun value slice pins s σ H x y v w Q I r1 r2 q hs => h value slice pins s σ H x y v w Q I r1 r2 (i _ _ _ _ q) hs
theorem di_ix : IxR X (rD X.K opIx) := by
  refine IxR.imp (ix_list.or ix_tup) ?_
  rintro x y H Q ⟨α, μ, a, b, d, μ', S, ra, rb, e, k⟩
  unfold opIx at e
  split at e
  · obtain ⟨d', q, z⟩ := Option.map_eq_some_iff.mp e
    cases z
    cases (show y = _ from rb)
    obtain ⟨p, xs, rfl, sq, rr⟩ := ra
    obtain ⟨v, h1, h2⟩ := atI_reps rr q
    exact .inr ⟨p, xs, _, v, rfl, rfl, sq, h1, kont_self k S h2⟩
  · obtain ⟨d', q, z⟩ := Option.map_eq_some_iff.mp e
    cases z
    cases (show y = _ from rb)
    obtain ⟨ds, q1, q2⟩ := Option.bind_eq_some_iff.mp q
    obtain ⟨p, xs, rfl, sq, rr⟩ := S.sql q1 ra
    obtain ⟨v, h1, h2⟩ := atI_reps rr q2
    exact .inl ⟨p, xs, _, v, rfl, rfl, sq, h1, kont_self k S h2⟩
  · cases e
def cutD (xs : List D) (lo hi : Option Int) : List D := (xs.drop (HT.sIx xs.length 0 lo)).take (HT.sIx xs.length xs.length hi - HT.sIx xs.length 0 lo)
theorem cut_reps {K : PySem.W.Frag} {H : Hp} {α : List Addr} {ds : List D} {xs : List V} {lo hi : Option Int} (r : Reps K H α ds xs) : Reps K H α (cutD ds lo hi) (cutV xs lo hi) := by
  unfold cutD cutV
  rw [r.length]
  exact (r.drop _).take _
def slD (d : D) (lo hi : Option Int) (μ : Sto) : Option (D × Sto) := match d with
  | .tup ds => some (.tup (cutD ds lo hi), μ)
  | .loc n => (lstAt μ n).map fun ds => (.loc μ.length, μ ++ [.lst (cutD ds lo hi)])
  | _ => none
def rSlD (K : PySem.W.Frag) : V → Option Int → Option Int → Hp → VK → Prop := fun x lo hi H Q => ∃ α μ a d μ', RepS K H α μ ∧ Rep K H α a x ∧ slD a lo hi μ = some (d, μ') ∧ Kont K H α μ' d Q
theorem SlR.imp {t u : V → Option Int → Option Int → Hp → VK → Prop} (h : SlR X t) (i : ∀ x lo hi H Q, u x lo hi H Q → t x lo hi H Q) : SlR X u := fun pins s σ H x v vl vu lo hi sl Q I rx hs pl pu q => h pins s σ H x v vl vu lo hi sl Q I rx hs pl pu (i _ _ _ _ _ q)
theorem sl_dat : SlR X (rSlD X.K) := by
  refine SlR.imp (sl_tupA.or sl_list) ?_
  rintro x lo hi H Q ⟨α, μ, a, d, μ', S, ra, e, k⟩
  unfold slD at e
  split at e
  · cases e
    have ra0 := ra
    obtain ⟨p, xs, rfl, sq, rr⟩ := ra
    refine .inl ⟨p, xs, rfl, sq, fun hw => ?_, fun _ => k.tup S (cut_reps rr)⟩
    rename_i ds
    have : cutD ds lo hi = ds := by
      unfold cutD
      rw [rr.length, hw.1, hw.2, ← rr.length]
      simp
    rw [this] at k
    exact kont_self k S ra0
  · obtain ⟨ds, q, z⟩ := Option.map_eq_some_iff.mp e
    cases z
    obtain ⟨p, xs, rfl, sq, rr⟩ := S.sql q ra
    exact .inr ⟨p, xs, rfl, sq, k.lst S (cut_reps rr)⟩
  · cases e
end
end DL
namespace PySem.SeqAt
open AutoSeq1 (wpAny_loadPart')
open MeetsSeq
end PySem.SeqAt
namespace DL
open PySem PySem.Spec PyProof.Rows L2
open PySem.SeqAt (EqAt RcAt RcNeAt)
def keyOf : D → Option Key
  | .int i => some (.inl i)
  | .str x => some (.inr x)
  | _ => none
def valD (kvs : List (Key × D)) (k : Key) : Option D := (kvs.find? fun kv => decide (kv.1 = k)).map (·.2)
def putD (kvs : List (Key × D)) (k : Key) (d : D) : List (Key × D) :=
  if (kvs.any fun kv => decide (kv.1 = k)) = true then kvs.map (fun kv => if kv.1 = k then (kv.1, d) else kv) else kvs ++ [(k, d)]
theorem keyOf_rep {K : PySem.W.Frag} {H : Hp} {α : List Addr} {d : D} {k : Key} {v : V} (h : keyOf d = some k) (r : Rep K H α d v) : v = kV k := by
  cases d <;> cases h <;> exact r
section
variable {K : PySem.W.Frag} {H : Hp} {α : List Addr}
def DicR (K : PySem.W.Frag) (H : Hp) (α : List Addr) (kvs : List (Key × D)) (kv : List (Key × V)) : Prop := kvs.map (·.1) = kv.map (·.1) ∧ Reps K H α (kvs.map (·.2)) (kv.map (·.2))
theorem DicR.nil : DicR K H α [] [] := ⟨rfl, rfl⟩
theorem DicR.inv {p : Key × D} {kvs : List (Key × D)} {kv : List (Key × V)} (h : DicR K H α (p :: kvs) kv) : ∃ v r, kv = (p.1, v) :: r ∧ Rep K H α p.2 v ∧ DicR K H α kvs r := by
  obtain ⟨h1, h2⟩ := h
  cases kv with
  | nil => simp at h1
  | cons q r =>
    simp only [List.map_cons, List.cons.injEq] at h1
    obtain ⟨v, vs, e, r1, r2⟩ := h2
    simp only [List.map_cons, List.cons.injEq] at e
    obtain ⟨e1, e2⟩ := e
    subst e1
    subst e2
    obtain ⟨k, v⟩ := q
    exact ⟨v, r, by simp [h1.1], r1, h1.2, r2⟩
theorem DicR.cons {k : Key} {d : D} {v : V} {kvs : List (Key × D)} {kv : List (Key × V)} (r : Rep K H α d v) (h : DicR K H α kvs kv) : DicR K H α ((k, d) :: kvs) ((k, v) :: kv) := ⟨by simp [h.1], ⟨v, _, rfl, r, h.2⟩⟩
theorem DicR.nil_inv {kv : List (Key × V)} (h : DicR K H α [] kv) : kv = [] := by
  have := h.1
  cases kv with
  | nil => rfl
  | cons q r => simp at this
theorem DicR.val {k : Key} : ∀ {kvs : List (Key × D)} {kv : List (Key × V)}, DicR K H α kvs kv → (valD kvs k = none ∧ valV kv k = none) ∨ ∃ d v, valD kvs k = some d ∧ valV kv k = some v ∧ Rep K H α d v
  | [], kv, h => by rw [h.nil_inv]; exact .inl ⟨rfl, rfl⟩
  | p :: kvs, kv, h => by
    obtain ⟨v, r, rfl, r1, r2⟩ := h.inv
    by_cases e : p.1 = k
    · exact .inr ⟨p.2, v, by simp [valD, e], by simp [valV, e], r1⟩
    · have z1 : valD (p :: kvs) k = valD kvs k := by simp [valD, List.find?_cons, e]
      have z2 : valV ((p.1, v) :: r) k = valV r k := by simp [valV, List.find?_cons, e]
      rw [z1, z2]
      exact r2.val
theorem DicR.len {kvs : List (Key × D)} {kv : List (Key × V)} (h : DicR K H α kvs kv) : kvs.length = kv.length := by simpa using congrArg List.length h.1
theorem DicR.app {k : Key} {d : D} {v : V} (r : Rep K H α d v) : ∀ {kvs : List (Key × D)} {kv : List (Key × V)}, DicR K H α kvs kv → DicR K H α (kvs ++ [(k, d)]) (kv ++ [(k, v)])
  | [], kv, h => by rw [h.nil_inv]; exact DicR.cons r .nil
  | p :: kvs, kv, h => by
    obtain ⟨v', r', rfl, r1, r2⟩ := h.inv
    exact DicR.cons r1 (r2.app r)
theorem DicR.map {k : Key} {d : D} {v : V} (r : Rep K H α d v) : ∀ {kvs : List (Key × D)} {kv : List (Key × V)}, DicR K H α kvs kv → DicR K H α (kvs.map fun kv => if kv.1 = k then (kv.1, d) else kv) (kv.map fun kv => if kv.1 = k then (kv.1, v) else kv)
  | [], kv, h => by rw [h.nil_inv]; exact .nil
  | p :: kvs, kv, h => by
    obtain ⟨v', r', rfl, r1, r2⟩ := h.inv
    by_cases e : p.1 = k
    · simp only [List.map_cons, e, if_true]; exact DicR.cons r (r2.map r)
    · simp only [List.map_cons, e, if_false]; exact DicR.cons r1 (r2.map r)
theorem DicR.any {k : Key} : ∀ {kvs : List (Key × D)} {kv : List (Key × V)}, DicR K H α kvs kv → (kvs.any fun kv => decide (kv.1 = k)) = kv.any fun kv => decide (kv.1 = k)
  | [], kv, h => by rw [h.nil_inv]; rfl
  | p :: kvs, kv, h => by
    obtain ⟨v', r', rfl, r1, r2⟩ := h.inv
    rw [List.any_cons, List.any_cons, r2.any]
theorem DicR.put {k : Key} {d : D} {v : V} {kvs : List (Key × D)} {kv : List (Key × V)} (h : DicR K H α kvs kv) (r : Rep K H α d v) : DicR K H α (putD kvs k d) (putK kv k v) := by
  unfold putD putK
  rw [h.any]
  split
  · exact h.map r
  · exact h.app r
end
/-- == of dicts, one of them empty -/
def opEqM : G2
  | .loc i, .loc j, μ => match μ[i]?, μ[j]? with
    | some (.dic kvs), some (.dic []) => some (.bl kvs.isEmpty, μ)
    | _, _ => opEq (.loc i) (.loc j) μ
  | a, b, μ => opEq a b μ
section
variable {X : Cx}
theorem do_eqM (hu : X.A.units + 64 < cLine) : OpR X (compareOp .Eq) (rD X.K opEqM) := by
  rintro pins s σ H x y v u Q I rx ry ⟨α, μ, a, b, d, μ', S, ra, rb, e, k⟩
  have dflt : opEq a b μ = some (d, μ') → wpAny (model X.prog X.w) X.A (compareOp .Eq v u) (EP X pins σ Q) X.xe s := fun e => do_eq hu pins s σ H x y v u Q I rx ry ⟨α, μ, a, b, d, μ', S, ra, rb, e, k⟩
  unfold opEqM at e
  split at e
  · rename_i i j
    split at e
    · rename_i kvs h1 h2
      cases e
      obtain ⟨p, rfl, q1⟩ := ra
      obtain ⟨q, rfl, q2⟩ := rb
      cases (show v = _ from rx)
      cases (show u = _ from ry)
      obtain ⟨kv, e1, d1⟩ := S.ob _ _ _ q1 h1
      obtain ⟨kv', e2, d2⟩ := S.ob _ _ _ q2 h2
      have z : kv' = [] := DicR.nil_inv (K := X.K) (H := H) (α := α) d2
      subst z
      obtain ⟨_, ya, va, ra, da⟩ := (show ObjOk X.prog X.w H s.heap p (.dK kv) from I.hok p _ e1)
      obtain ⟨_, yb, vb, rb, db⟩ := (show ObjOk X.prog X.w H s.heap q (.dK []) from I.hok q _ e2)
      cases rb
      have l : kvs.isEmpty = va.isEmpty := by
        have h1 : kvs.length = kv.length := by simpa using congrArg List.length d1.1
        have h2 : kv.length = va.length := ra.length
        cases kvs <;> cases va <;> simp_all
      refine PySem.W.rcP_dicts (knd := mixKind X.prog X.w) (r := true) ya yb da db (by omega) (fun hl => ?_) _ _ ?_
      · have : va = [] := List.eq_nil_of_length_eq_zero (by simpa using hl)
        rw [this]
        exact .nil
      · refine ⟨.bl kvs.isEmpty, H, I, ?_, kont_self k S rfl⟩
        show Value.bool _ = Value.bool _
        rw [l]
        cases va <;> simp
    · exact dflt e
  · exact dflt e
def stD : D → D → D → Sto → Option Sto
  | .loc n, i, d, μ => match μ[n]? with
    | some (.lst ds) => match i with
      | .int k => (ixN ds.length k).map fun j => μ.set n (.lst (ds.set j d))
      | _ => none
    | some (.dic kvs) => (keyOf i).bind fun k => if kvs.length < sizeLine then some (μ.set n (.dic (putD kvs k d))) else none
    | _ => none
  | _, _, _, _ => none
def tSetD (K : PySem.W.Frag) (g : D → D → D → Sto → Option Sto) : TSet := fun o i v H Q => ∃ α μ a b c μ', RepS K H α μ ∧ Rep K H α a o ∧ Rep K H α b i ∧ Rep K H α c v ∧ g a b c μ = some μ' ∧ ∀ H' α', Ext K H α H' α' → RepS K H' α' μ' → Q H'
theorem PSet.or {t u : TSet} (h : PSet X t) (h' : PSet X u) : PSet X fun o i v H Q => t o i v H Q ∨ u o i v H Q := by
  intro pins s σ H o i v ov iv u Q I r1 r2 r3 q
  rcases q with q | q
  · exact h pins s σ H o i v ov iv u Q I r1 r2 r3 q
  · exact h' pins s σ H o i v ov iv u Q I r1 r2 r3 q
theorem PSet.imp {t u : TSet} (h : PSet X t) (i : ∀ o i v H Q, u o i v H Q → t o i v H Q) : PSet X u := fun pins s σ H o i' v ov iv u Q I r1 r2 r3 q => h pins s σ H o i' v ov iv u Q I r1 r2 r3 (i _ _ _ _ _ q)
theorem ds_set (hu : X.A.units + 1 < cLine) : PSet X (tSetD X.K stD) := by
  refine PSet.imp (PSet.or set_list (set_dict hu)) ?_
  rintro o i v H Q ⟨α, μ, a, b, c, μ', S, ra, rb, rc, e, k⟩
  unfold stD at e
  split at e
  · rename_i n i' d'
    obtain ⟨p, rfl, q⟩ := ra
    obtain ⟨ob, e2, r⟩ := S.here q
    rw [e2] at e
    cases ob with
    | lst ds =>
      simp only at e
      split at e
      · rename_i j
        obtain ⟨jj, h1, h2⟩ := Option.map_eq_some_iff.mp e
        cases (show i = _ from rb)
        obtain ⟨xs, hx, rr⟩ := r
        refine .inl ⟨p, xs, _, jj, rfl, rfl, hx, by rw [← rr.length]; exact h1, ?_⟩
        subst h2
        exact k _ α (ext_write (nt_lst hx)) (S.write q (nt_lst hx) ⟨_, upd_same, (rr.set rc jj).up (ext_write (nt_lst hx))⟩)
      · cases e
    | frz ds => cases e
    | dfz kvs => cases e
    | tab x => cases e
    | dic kvs =>
      obtain ⟨kk, h1, h2⟩ := Option.bind_eq_some_iff.mp e
      split at h2
      · rename_i hl
        cases h2
        obtain ⟨kv, hx, rr⟩ := r
        have rd : DicR X.K H α kvs kv := rr
        refine .inr ⟨p, _, rfl, .inl ⟨kv, kk, hx, keyOf_rep h1 rb, by rw [← rd.len]; exact hl, rfl⟩, ?_⟩
        have rp := rd.put (k := kk) rc
        exact k _ α (ext_write (nt_dK hx)) (S.write q (nt_dK hx) ⟨_, upd_same, rp.1, rp.2.up (ext_write (nt_dK hx))⟩)
      · cases h2
  · cases e
def mAppend (a : D) (ds : List D) (μ : Sto) : Option (D × Sto) := match a, ds with
  | .loc n, [d] => match μ[n]? with
    | some (.lst es) => if es.length < sizeLine then some (.non, μ.set n (.lst (es ++ [d]))) else none
    | _ => none
  | _, _ => none
theorem MtR.imp {id : String} {t u : V → List V → Hp → VK → Prop} (h : MtR X id t) (i : ∀ x xs H Q, u x xs H Q → t x xs H Q) : MtR X id u := fun pins s σ H x xs v us Q I r1 r2 q => h pins s σ H x xs v us Q I r1 r2 (i _ _ _ _ q)
theorem dm_append : MtR X "list.append" (mD X.K mAppend) := by
  refine MtR.imp (t := rAppend) mt_append ?_
  rintro x xs H Q ⟨α, μ, a, ds, d, μ', S, ra, rs, e, k⟩
  unfold mAppend at e
  split at e
  · rename_i n d'
    split at e
    · rename_i es h
      split at e
      · rename_i hl
        cases e
        obtain ⟨p, rfl, q⟩ := ra
        obtain ⟨v, _, rfl, r1, r2⟩ := rs
        cases (show _ = _ from r2)
        obtain ⟨ys, hx, rr⟩ := S.ob _ _ _ q h
        exact ⟨p, ys, v, rfl, rfl, hx, by rw [← rr.length]; exact hl, k.setL (ds := es) S q hx (rr.append (Reps.one r1)) rfl⟩
      · cases e
    · cases e
  · cases e
end
end DL
namespace DL
open PySem PySem.Spec PyProof.Rows L2
def fBin (g : G2) (fa fb : EF) : EF := fun ρ μ => (fa ρ μ).bind fun p => (fb ρ p.2).bind fun q => g p.1 q.1 q.2
def fUn (g : G1) (fa : EF) : EF := fun ρ μ => (fa ρ μ).bind fun p => g p.1 p.2
def fNil : AF := fun _ μ => some ([], μ)
def fCons (fa : EF) (fr : AF) : AF := fun ρ μ => (fa ρ μ).bind fun p => (fr ρ p.2).bind fun q => some (p.1 :: q.1, q.2)
def fTup (f : AF) : EF := fun ρ μ => (f ρ μ).bind fun p => if p.1.length ≤ sizeLine then some (.tup p.1, p.2) else none
def fLst (f : AF) : EF := fun ρ μ => (f ρ μ).bind fun p => if p.1.length ≤ sizeLine then some (.loc p.2.length, p.2 ++ [.lst p.1]) else none
def fDic : EF := fun _ μ => some (.loc μ.length, μ ++ [.dic []])
def fCB (g : GN) (f : AF) : EF := fun ρ μ => (f ρ μ).bind fun p => g p.1 p.2
abbrev PF := Sl → Sto → Option (Option Int × Sto)
def fNoPart : PF := fun _ μ => some (none, μ)
def fPart (f : EF) : PF := fun ρ μ => (f ρ μ).bind fun p => match p.1 with
  | .int i => some (some i, p.2)
  | _ => none
def fSl (fe : EF) (fl fh : PF) : EF := fun ρ μ => (fe ρ μ).bind fun p => (fl ρ p.2).bind fun q => (fh ρ q.2).bind fun r => slD p.1 q.1 r.1 r.2
/-- a test: a bool -/
def fB (f : EF) : TF := fun ρ μ => (f ρ μ).bind fun p => match p.1 with
  | .bl b => some (b, p.2)
  | _ => none
/-- a test: a value's truth -/
def fT (f : EF) : TF := fun ρ μ => (f ρ μ).bind fun p => (truD p.2 p.1).map fun b => (b, p.2)
def fAnd (f g : TF) : TF := fun ρ μ => (f ρ μ).bind fun p => if p.1 = true then g ρ p.2 else some (false, p.2)
def fOr (f g : TF) : TF := fun ρ μ => (f ρ μ).bind fun p => if p.1 = true then some (true, p.2) else g ρ p.2
def fNot (f : TF) : TF := fun ρ μ => (f ρ μ).bind fun p => some (!p.1, p.2)
def fAndV (f g : EF) : EF := fun ρ μ => (f ρ μ).bind fun p => match p.1 with
  | .bl true => g ρ p.2
  | .bl false => some (.bl false, p.2)
  | _ => none
def fOrV (f g : EF) : EF := fun ρ μ => (f ρ μ).bind fun p => match p.1 with
  | .bl true => some (.bl true, p.2)
  | .bl false => g ρ p.2
  | _ => none
def fNotV (f : EF) : EF := fun ρ μ => (f ρ μ).bind fun p => match p.1 with
  | .bl b => some (.bl !b, p.2)
  | _ => none
def fIf (c : TF) (f g : EF) : EF := fun ρ μ => (c ρ μ).bind fun p => if p.1 = true then f ρ p.2 else g ρ p.2
/-- o.m(..) of a list -/
def fML (g : D → List D → Sto → Option (D × Sto)) (fo : EF) (fa : AF) : EF := fun ρ μ => (fo ρ μ).bind fun p => if kindD p.2 p.1 = some "list" then (fa ρ p.2).bind fun q => g p.1 q.1 q.2 else none
/-- d.get(k, x) -/
def fGet2 (fd fk fx : EF) : EF := fun ρ μ => (fd ρ μ).bind fun p => match p.1 with
  | .loc n => match p.2[n]? with
    | some (.dic _) => (fk ρ p.2).bind fun q => (fx ρ q.2).bind fun r => match r.2[n]? with
      | some (.dic kvs) => (keyOf q.1).map fun k => ((valD kvs k).getD r.1, r.2)
      | _ => none
    | _ => none
  | _ => none
section
variable {X : Cx} {a b e : Expr} {es rest : List Expr} {pos : Pos} {fa fb fe : EF} {g : G2}
theorem i_bin {K : PySem.W.Frag} {g : G2} {fa fb : EF} : ∀ σ H Q, tE K (fBin g fa fb) σ H Q → tOp (rD K g) (tE K fa) (tE K fb) σ H Q := by
  rintro σ H Q ⟨α, ρ, μ, d, μ', S, R, e, k⟩
  obtain ⟨⟨x, μ1⟩, e1, e2⟩ := Option.bind_eq_some_iff.mp e
  obtain ⟨⟨y, μ2⟩, e3, e4⟩ := Option.bind_eq_some_iff.mp e2
  refine ⟨α, ρ, μ, x, μ1, S, R, e1, fun H1 α1 v E1 S1 r1 => ⟨α1, ρ, μ1, y, μ2, S1, R.up E1, e3, fun H2 α2 w E2 S2 r2 => ⟨α2, μ2, x, y, d, μ', S2, r1.up E2, r2, e4, k.up (E1.trans E2)⟩⟩⟩
theorem de_bin {op : Operator} (ho : OpR X (binaryOp op) (rD X.K g)) (ha : PE X a (tE X.K fa)) (hb : PE X b (tE X.K fb)) : PE X (.BinOp a op b pos) (tE X.K (fBin g fa fb)) := (pe_op ho ha hb).imp i_bin
theorem de_cmp {op : CmpOp} (ho : OpR X (compareOp op) (rD X.K g)) (ha : PE X a (tE X.K fa)) (hb : PE X b (tE X.K fb)) (hm : behindInMarks op b = false) : PE X (.Compare a [op] [b] pos) (tE X.K (fBin g fa fb)) := (pe_cmpR ho ha hb hm).imp i_bin
theorem de_ix (ha : PE X a (tE X.K fa)) (hb : PE X b (tE X.K fb)) (hs : PlainIx b) : PE X (.Subscript a b pos) (tE X.K (fBin opIx fa fb)) := (pe_ix di_ix ha hb hs).imp i_bin
theorem de_un {op : UnaryOp} {g : G1} (ho : UnR X (unaryOp op) (uD X.K g)) (ha : PE X a (tE X.K fa)) : PE X (.UnaryOp op a pos) (tE X.K (fUn g fa)) := by
  refine (pe_un ho ha).imp ?_
  rintro σ H Q ⟨α, ρ, μ, d, μ', S, R, e, k⟩
  obtain ⟨⟨x, μ1⟩, e1, e2⟩ := Option.bind_eq_some_iff.mp e
  exact ⟨α, ρ, μ, x, μ1, S, R, e1, fun H1 α1 v E1 S1 r1 => ⟨α1, μ1, x, d, μ', S1, r1, e2, k.up E1⟩⟩
theorem da_nil : PA X [] (tA X.K fNil) := by
  refine PA.imp pa_nil ?_
  rintro σ H Q ⟨α, ρ, μ, d, μ', S, R, e, k⟩
  cases e
  exact k H α [] Ext.refl S rfl
theorem da_cons {f : AF} (ha : PE X e (tE X.K fe)) (hr : PA X es (tA X.K f)) (hs : starEach (e :: es) X.env = (false, eval e X.env) :: starEach es X.env := by rfl) : PA X (e :: es) (tA X.K (fCons fe f)) := by
  refine (pa_cons ha hr hs).imp ?_
  rintro σ H Q ⟨α, ρ, μ, d, μ', S, R, e, k⟩
  obtain ⟨⟨x, μ1⟩, e1, e2⟩ := Option.bind_eq_some_iff.mp e
  obtain ⟨⟨ys, μ2⟩, e3, e4⟩ := Option.bind_eq_some_iff.mp e2
  cases e4
  exact ⟨α, ρ, μ, x, μ1, S, R, e1, fun H1 α1 v E1 S1 r1 => ⟨α1, ρ, μ1, ys, μ2, S1, R.up E1, e3, fun H2 α2 vs E2 S2 r2 => k H2 α2 _ (E1.trans E2) S2 ⟨v, vs, rfl, r1.up E2, r2⟩⟩⟩
theorem de_tup {f : AF} {x1} (h : PA X es (tA X.K f)) : PE X (.Tuple es x1 pos) (tE X.K (fTup f)) := by
  refine (pe_tup h).imp ?_
  rintro σ H Q ⟨α, ρ, μ, d, μ', S, R, e, k⟩
  obtain ⟨⟨ds, μ1⟩, e1, e2⟩ := Option.bind_eq_some_iff.mp e
  simp only at e2
  split at e2
  · rename_i hl
    cases e2
    exact ⟨α, ρ, μ, ds, _, S, R, e1, fun H1 α1 vs E1 S1 r1 => ⟨by rw [← r1.length]; exact hl, (k.up E1).tup S1 r1⟩⟩
  · cases e2
theorem de_lst {f : AF} (h : PA X es (tA X.K f)) : PE X (.List es pos) (tE X.K (fLst f)) := by
  refine (pe_lst h).imp ?_
  rintro σ H Q ⟨α, ρ, μ, d, μ', S, R, e, k⟩
  obtain ⟨⟨ds, μ1⟩, e1, e2⟩ := Option.bind_eq_some_iff.mp e
  simp only at e2
  split at e2
  · rename_i hl
    cases e2
    exact ⟨α, ρ, μ, ds, μ1, S, R, e1, fun H1 α1 vs E1 S1 r1 => ⟨by rw [← r1.length]; exact hl, (k.up E1).lst S1 r1⟩⟩
  · cases e2
theorem de_dic : PE X (.Dict [] [] pos) (tE X.K fDic) := by
  refine PE.imp pe_dnewK ?_
  rintro σ H Q ⟨α, ρ, μ, d, μ', S, R, e, k⟩
  cases e
  exact k.dic S (kv := []) rfl rfl
theorem i_cb {K : PySem.W.Frag} {g : GN} {f : AF} : ∀ σ H Q, tE K (fCB g f) σ H Q → tCB (cD K g) (tA K f) σ H Q := by
  rintro σ H Q ⟨α, ρ, μ, d, μ', S, R, e, k⟩
  obtain ⟨⟨ds, μ1⟩, e1, e2⟩ := Option.bind_eq_some_iff.mp e
  exact ⟨α, ρ, μ, ds, μ1, S, R, e1, fun H1 α1 vs E1 S1 r1 => ⟨α1, μ1, ds, d, μ', S1, r1, e2, k.up E1⟩⟩
theorem de_callB {x : Str} {id : String} {p : Pos} {gn : GN} {f : AF} (hc : CallR X (.builtin id) (cD X.K gn)) (hg : Gl X x) (hm : X.mg x = none) (hv : bootBuiltins x = some (.builtin id)) (ha : PA X (e :: es) (tA X.K f)) (hn : x ≠ "__name__" := by decide) (hdb : (x == ("__debug__" : Str)) = false := by decide)
    (he : starEach (e :: es) X.env = (false, eval e X.env) :: starEach es X.env := by rfl) (hpl : (backTo pos (starEach es X.env)).any (·.1) = false := by rfl) : PE X (.Call (.Name x p) (e :: es) [] pos) (tE X.K (fCB gn f)) :=
  (pe_callB hc hg hm hv ha hn hdb he hpl).imp i_cb
theorem de_callTy {x : Str} {T : String} {p : Pos} {gn : GN} {f : AF} (hc : CallR X (.type T) (cD X.K gn)) (hg : Gl X x) (hm : X.mg x = none) (hv : bootBuiltins x = some (.type T)) (ha : PA X (e :: es) (tA X.K f)) (hn : x ≠ "__name__" := by decide) (hdb : (x == ("__debug__" : Str)) = false := by decide)
    (he : starEach (e :: es) X.env = (false, eval e X.env) :: starEach es X.env := by rfl) (hpl : (backTo pos (starEach es X.env)).any (·.1) = false := by rfl) : PE X (.Call (.Name x p) (e :: es) [] pos) (tE X.K (fCB gn f)) :=
  (pe_callTy hc hg hm hv ha hn hdb he hpl).imp i_cb
theorem de_callBfun {x : Str} {id : String} {p : Pos} {gn : GN} {f : AF} (hc : CallR X (.builtin id) (cD X.K gn)) (hg : Gl X x) (hm : X.mg x = some (.builtin id)) (ha : PA X (e :: es) (tA X.K f)) (hdb : (x == ("__debug__" : Str)) = false := by decide)
    (he : starEach (e :: es) X.env = (false, eval e X.env) :: starEach es X.env := by rfl) (hpl : (backTo pos (starEach es X.env)).any (·.1) = false := by rfl) : PE X (.Call (.Name x p) (e :: es) [] pos) (tE X.K (fCB gn f)) :=
  (pe_callBfun hc hg hm ha hdb he hpl).imp i_cb
/-- a built-in type's name -/
theorem de_bty {x : Str} {T : String} (hg : Gl X x) (hm : X.mg x = none) (hv : bootBuiltins x = some (.type T)) (hn : x ≠ "__name__" := by decide) (hd : (x == ("__debug__" : Str)) = false := by decide) : PE X (.Name x pos) (tE X.K (fC (.ty T))) :=
  PE.imp (pe_bltn (v := .ty T) hg hm hv rfl hn hd) (i_c fun _ _ => rfl)
/-- a module's constant -/
theorem de_con {x : Str} {u : Value} {v : V} {d : D} (hg : Gl X x) (hm : X.mg x = some u) (r : RelV v u) (hr : ∀ H α, Rep X.K H α d v) (hd : (x == ("__debug__" : Str)) = false := by decide) : PE X (.Name x pos) (tE X.K (fC d)) :=
  PE.imp (pe_glob hg hm r hd) (i_c hr)
variable {f h : TF}
theorem dt_cmp {op : CmpOp} (ho : OpR X (compareOp op) (rD X.K g)) (ha : PE X a (tE X.K fa)) (hb : PE X b (tE X.K fb)) (hm : behindInMarks op b = false) : PT X (.Compare a [op] [b] pos) (tT X.K (fB (fBin g fa fb))) := by
  refine (pt_cmpR ho ha hb hm).imp ?_
  rintro σ H Q ⟨α, ρ, μ, c, μ', S, R, e, k⟩
  obtain ⟨⟨x, μ1⟩, e1, e2⟩ := Option.bind_eq_some_iff.mp e
  simp only at e2
  split at e2
  · cases e2
    exact i_bin σ H _ ⟨α, ρ, μ, _, _, S, R, e1, fun H1 α1 v E1 S1 r1 => ⟨_, r1, k H1 α1 E1 S1⟩⟩
  · cases e2
theorem dt_val (ha : PE X a (tE X.K fa)) (he : ∀ whole, isTrue a X.env whole = (do let v ← whole; standAt a.pos; holding [v] (truthy v)) := by intro _; rfl) : PT X a (tT X.K (fT fa)) := by
  refine (pt_truth ha he).imp ?_
  rintro σ H Q ⟨α, ρ, μ, c, μ', S, R, e, k⟩
  obtain ⟨⟨x, μ1⟩, e1, e2⟩ := Option.bind_eq_some_iff.mp e
  obtain ⟨c', e3, e4⟩ := Option.map_eq_some_iff.mp e2
  cases e4
  exact ⟨α, ρ, μ, x, μ1, S, R, e1, fun H1 α1 v E1 S1 r1 => ⟨_, truV S1 r1 e3, k H1 α1 E1 S1⟩⟩
theorem dw_and1 (ha : PT X a (tT X.K f)) : PW X (.BoolOp .And [a] pos) (tT X.K f) := pw_and1 ha
theorem dw_or1 (ha : PT X a (tT X.K f)) : PW X (.BoolOp .Or [a] pos) (tT X.K f) := pw_or1 ha
theorem dw_and (ha : PT X a (tT X.K f)) (hb : PW X (.BoolOp .And (b :: rest) pos) (tT X.K h)) : PW X (.BoolOp .And (a :: b :: rest) pos) (tT X.K (fAnd f h)) := by
  refine (pw_and ha hb).imp ?_
  rintro σ H Q ⟨α, ρ, μ, c, μ', S, R, e, k⟩
  obtain ⟨⟨x, μ1⟩, e1, e2⟩ := Option.bind_eq_some_iff.mp e
  refine ⟨α, ρ, μ, x, μ1, S, R, e1, fun H1 α1 E1 S1 => ?_⟩
  cases x with
  | true => exact ⟨α1, ρ, μ1, c, μ', S1, R.up E1, e2, fun H2 α2 E2 S2 => k H2 α2 (E1.trans E2) S2⟩
  | false => cases e2; exact k H1 α1 E1 S1
theorem dw_or (ha : PT X a (tT X.K f)) (hb : PW X (.BoolOp .Or (b :: rest) pos) (tT X.K h)) : PW X (.BoolOp .Or (a :: b :: rest) pos) (tT X.K (fOr f h)) := by
  refine (pw_or ha hb).imp ?_
  rintro σ H Q ⟨α, ρ, μ, c, μ', S, R, e, k⟩
  obtain ⟨⟨x, μ1⟩, e1, e2⟩ := Option.bind_eq_some_iff.mp e
  refine ⟨α, ρ, μ, x, μ1, S, R, e1, fun H1 α1 E1 S1 => ?_⟩
  cases x with
  | false => exact ⟨α1, ρ, μ1, c, μ', S1, R.up E1, e2, fun H2 α2 E2 S2 => k H2 α2 (E1.trans E2) S2⟩
  | true => cases e2; exact k H1 α1 E1 S1
theorem dt_not (ha : PT X a (tT X.K f)) : PT X (.UnaryOp .Not a pos) (tT X.K (fNot f)) := by
  refine (pt_not ha).imp ?_
  rintro σ H Q ⟨α, ρ, μ, c, μ', S, R, e, k⟩
  obtain ⟨⟨x, μ1⟩, e1, e2⟩ := Option.bind_eq_some_iff.mp e
  cases e2
  exact ⟨α, ρ, μ, x, μ1, S, R, e1, k⟩
theorem de_one {op} (h : PE X a (tE X.K fa)) : PE X (.BoolOp op [a] pos) (tE X.K fa) := pe_one h
theorem de_and (ha : PE X a (tE X.K fa)) (hb : PE X (.BoolOp .And (b :: rest) pos) (tE X.K fb)) : PE X (.BoolOp .And (a :: b :: rest) pos) (tE X.K (fAndV fa fb)) := by
  refine (pe_and ha hb).imp ?_
  rintro σ H Q ⟨α, ρ, μ, c, μ', S, R, e, k⟩
  obtain ⟨⟨x, μ1⟩, e1, e2⟩ := Option.bind_eq_some_iff.mp e
  refine ⟨α, ρ, μ, x, μ1, S, R, e1, fun H1 α1 v E1 S1 r1 => ?_⟩
  simp only at e2
  split at e2
  · exact ⟨true, r1, ⟨α1, ρ, μ1, c, μ', S1, R.up E1, e2, k.up E1⟩⟩
  · cases e2; exact ⟨false, r1, kont_self (k.up E1) S1 rfl⟩
  · cases e2
theorem de_not (ha : PE X a (tE X.K fa)) : PE X (.UnaryOp .Not a pos) (tE X.K (fNotV fa)) := by
  refine (pe_not ha).imp ?_
  rintro σ H Q ⟨α, ρ, μ, c, μ', S, R, e, k⟩
  obtain ⟨⟨x, μ1⟩, e1, e2⟩ := Option.bind_eq_some_iff.mp e
  refine ⟨α, ρ, μ, x, μ1, S, R, e1, fun H1 α1 v E1 S1 r1 => ?_⟩
  simp only at e2
  split at e2
  · cases e2; exact ⟨_, r1, kont_self (k.up E1) S1 rfl⟩
  · cases e2
theorem de_if {c : Expr} (hc : PT X c (tT X.K f)) (ha : PE X a (tE X.K fa)) (hb : PE X b (tE X.K fb)) : PE X (.IfExp c a b pos) (tE X.K (fIf f fa fb)) := by
  refine (pe_ifExp hc ha hb).imp ?_
  rintro σ H Q ⟨α, ρ, μ, d, μ', S, R, e, k⟩
  obtain ⟨⟨x, μ1⟩, e1, e2⟩ := Option.bind_eq_some_iff.mp e
  refine ⟨α, ρ, μ, x, μ1, S, R, e1, fun H1 α1 E1 S1 => ?_⟩
  cases x with
  | true => exact ⟨α1, ρ, μ1, d, μ', S1, R.up E1, e2, k.up E1⟩
  | false => exact ⟨α1, ρ, μ1, d, μ', S1, R.up E1, e2, k.up E1⟩
def tP (K : PySem.W.Frag) (f : PF) : TO := fun σ H Q => ∃ α ρ μ i μ', RepS K H α μ ∧ RepR K H α ρ σ ∧ f ρ μ = some (i, μ') ∧ ∀ H' α', Ext K H α H' α' → RepS K H' α' μ' → Q i H'
theorem _root_.L2.PO.imp {e : Option Expr} {t u : TO} (h : PO X e t) (i : ∀ σ H Q, u σ H Q → t σ H Q) : PO X e u := ⟨fun pins s σ H Q I q => h.run pins s σ H Q I (i _ _ _ q)⟩
theorem do_none : PO X none (tP X.K fNoPart) := by
  refine PO.imp po_none ?_
  rintro σ H Q ⟨α, ρ, μ, i, μ', S, R, e, k⟩
  cases e
  exact k H α Ext.refl S
theorem do_some (h : PE X e (tE X.K fe)) : PO X (some e) (tP X.K (fPart fe)) := by
  refine PO.imp (po_some h) ?_
  rintro σ H Q ⟨α, ρ, μ, i, μ', S, R, e, k⟩
  obtain ⟨⟨x, μ1⟩, e1, e2⟩ := Option.bind_eq_some_iff.mp e
  refine ⟨α, ρ, μ, x, μ1, S, R, e1, fun H1 α1 v E1 S1 r1 => ?_⟩
  simp only at e2
  split at e2
  · cases e2; exact ⟨_, r1, k H1 α1 E1 S1⟩
  · cases e2
theorem de_slice {lo hi : Option Expr} {fl fh : PF} {p2 : Pos} (he : PE X e (tE X.K fe)) (hl : PO X lo (tP X.K fl)) (hu : PO X hi (tP X.K fh)) : PE X (.Subscript e (.Slice lo hi none p2) pos) (tE X.K (fSl fe fl fh)) := by
  refine (pe_slice sl_dat he hl hu).imp ?_
  rintro σ H Q ⟨α, ρ, μ, d, μ', S, R, e, k⟩
  obtain ⟨⟨x, μ1⟩, e1, e2⟩ := Option.bind_eq_some_iff.mp e
  obtain ⟨⟨l, μ2⟩, e3, e4⟩ := Option.bind_eq_some_iff.mp e2
  obtain ⟨⟨u, μ3⟩, e5, e6⟩ := Option.bind_eq_some_iff.mp e4
  exact ⟨α, ρ, μ, x, μ1, S, R, e1, fun H1 α1 v E1 S1 r1 => ⟨α1, ρ, μ1, l, μ2, S1, R.up E1, e3, fun H2 α2 E2 S2 => ⟨α2, ρ, μ2, u, μ3, S2, R.up (E1.trans E2), e5, fun H3 α3 E3 S3 =>
    ⟨α3, μ3, x, d, μ', S3, r1.up (E2.trans E3), e6, k.up (E1.trans (E2.trans E3))⟩⟩⟩⟩
theorem kind_list {K : PySem.W.Frag} {H : Hp} {α : List Addr} {μ : Sto} {d : D} {v : V} (S : RepS K H α μ) (r : Rep K H α d v) (h : kindD μ d = some "list") : tyV K "list" v H := by
  cases d with
  | loc n =>
    obtain ⟨p, rfl, q⟩ := r
    obtain ⟨o, e2, r⟩ := S.here q
    simp only [kindD, e2] at h
    cases o with
    | lst ds => obtain ⟨xs, h, r⟩ := r; exact .inl ⟨rfl, xs, .inl (.inl h)⟩
    | frz ds => obtain ⟨o, xs, h, r⟩ := r; exact .inl ⟨rfl, xs, .inl (.inr ⟨o, h⟩)⟩
    | dic kvs => exact absurd (Option.some.inj h) (show ¬ "dict" = "list" by decide)
    | dfz kvs => cases h
    | tab x => cases h
  | ty t => cases h
  | non => exact absurd (Option.some.inj h) (show ¬ "NoneType" = "list" by decide)
  | bl b => exact absurd (Option.some.inj h) (show ¬ "bool" = "list" by decide)
  | int b => exact absurd (Option.some.inj h) (show ¬ "int" = "list" by decide)
  | str b => exact absurd (Option.some.inj h) (show ¬ "str" = "list" by decide)
  | tup b => exact absurd (Option.some.inj h) (show ¬ "tuple" = "list" by decide)
theorem de_ml {name : Str} {id : String} {apos cpos : Pos} {gm : D → List D → Sto → Option (D × Sto)} {fo : EF} {f : AF} {o : Expr} (pa : PlainAttrs "list") (slot : Slot "list" name id) (hty : typeOf (.builtin id) = pure (.type "method_descriptor")) (hm : MtR X id (mD X.K gm)) (ho : PE X o (tE X.K fo)) (ha : PA X (e :: es) (tA X.K f))
    (hbase : attributeBase o name X.env (eval o X.env) = eval o X.env := by rfl)
    (hfew : ((backTo cpos (starEach (e :: es) X.env)).all (fun x => !x.1) && (backToKw cpos (keywordEach [] X.env)).all (fun x => x.1.isSome)
      && decide ((e :: es).length + ([] : List Keyword).length + (if ([] : List Keyword).isEmpty then 0 else 1) < 30)) = true := by rfl)
    (hline : (apos.endLine == cpos.line) = true := by rfl) (hs : starEach (e :: es) X.env = (false, eval e X.env) :: starEach es X.env := by rfl) (hplain : (backTo cpos (starEach es X.env)).any (·.1) = false := by rfl) :
    PE X (.Call (.Attribute o name apos) (e :: es) [] cpos) (tE X.K (fML gm fo f)) := by
  refine (pe_bm pa slot hty hm ho ha hbase hfew hline hs hplain).imp ?_
  rintro σ H Q ⟨α, ρ, μ, d, μ', S, R, e, k⟩
  obtain ⟨⟨x, μ1⟩, e1, e2⟩ := Option.bind_eq_some_iff.mp e
  simp only at e2
  split at e2
  · rename_i hk
    obtain ⟨⟨ds, μ2⟩, e3, e4⟩ := Option.bind_eq_some_iff.mp e2
    exact ⟨α, ρ, μ, x, μ1, S, R, e1, fun H1 α1 v E1 S1 r1 => ⟨kind_list S1 r1 hk, α1, ρ, μ1, ds, μ2, S1, R.up E1, e3, fun H2 α2 vs E2 S2 r2 => ⟨α2, μ2, x, ds, d, μ', S2, r1.up E2, r2, e4, k.up (E1.trans E2)⟩⟩⟩
  · cases e2
theorem de_get2 {o k x : Expr} {apos cpos : Pos} {fo fk fx : EF} (hu : X.A.units + 1 < cLine) (ho : PE X o (tE X.K fo)) (he : PE X k (tE X.K fk)) (hf : PE X x (tE X.K fx)) (m : M2 X o "get" apos k x cpos) : PE X (.Call (.Attribute o "get" apos) [k, x] [] cpos) (tE X.K (fGet2 fo fk fx)) := by
  refine (pe_dget2 hu ho he hf m).imp ?_
  rintro σ H Q ⟨α, ρ, μ, d, μ', S, R, e, k⟩
  obtain ⟨⟨x, μ1⟩, e1, e2⟩ := Option.bind_eq_some_iff.mp e
  simp only at e2
  split at e2
  · rename_i n
    split at e2
    · rename_i kvs0 h0
      obtain ⟨⟨y, μ2⟩, e3, e4⟩ := Option.bind_eq_some_iff.mp e2
      obtain ⟨⟨z, μ3⟩, e5, e6⟩ := Option.bind_eq_some_iff.mp e4
      simp only at e6
      split at e6
      · rename_i kvs h1
        obtain ⟨kk, h2, h3⟩ := Option.map_eq_some_iff.mp e6
        cases h3
        refine ⟨α, ρ, μ, _, μ1, S, R, e1, fun H1 α1 v E1 S1 r1 => ?_⟩
        obtain ⟨p, rfl, q⟩ := r1
        obtain ⟨kv0, c0, _⟩ := S1.ob _ _ _ q h0
        refine ⟨p, rfl, .inl ⟨kv0, .inl c0⟩, α1, ρ, μ1, y, μ2, S1, R.up E1, e3, fun H2 α2 w E2 S2 r2 => ⟨α2, ρ, μ2, z, _, S2, R.up (E1.trans E2), e5, fun H3 α3 u E3 S3 r3 => ?_⟩⟩
        have q3 : α3[n]? = some p := let ⟨_, p1⟩ := (E2.trans E3).pre; pre_get p1 q
        obtain ⟨kv, c1, d1⟩ := S3.ob _ _ _ q3 h1
        have dr : DicR X.K H3 α3 kvs kv := d1
        refine ⟨valV kv kk, .inl ⟨kv, kk, .inl c1, keyOf_rep h2 r2, rfl⟩, ?_⟩
        have kk' := (k.up (E1.trans (E2.trans E3)))
        rcases dr.val (k := kk) with ⟨v1, v2⟩ | ⟨dd, vv, v1, v2, v3⟩
        · rw [v1] at kk'; rw [v2]; exact kont_self kk' S3 r3
        · rw [v1] at kk'; rw [v2]; exact kont_self kk' S3 v3
      · cases e6
    · cases e2
  · cases e2
end
end DL
namespace DL
open PySem PySem.Spec PyProof.Rows L2
inductive Out where
  | nx (ρ : Sl) (μ : Sto) | rt (d : D) (μ : Sto) | bk (ρ : Sl) (μ : Sto) | ct (ρ : Sl) (μ : Sto)
abbrev SF := Sl → Sto → Option Out
abbrev GF := D → Sl → Sto → Option (Sl × Sto)
abbrev GsF := List D → Sl → Sto → Option (Sl × Sto)
/-- what stands behind: slots and store -/
def Ahd (K : PySem.W.Frag) (H : Hp) (α : List Addr) (ρ : Sl) (μ : Sto) (P : L2.St → Hp → Prop) : Prop := ∀ H' α' σ', Ext K H α H' α' → RepS K H' α' μ → RepR K H' α' ρ σ' → P σ' H'
theorem Ahd.up {K : PySem.W.Frag} {H H1 : Hp} {α α1 : List Addr} {ρ : Sl} {μ : Sto} {P : L2.St → Hp → Prop} (k : Ahd K H α ρ μ P) (E : Ext K H α H1 α1) : Ahd K H1 α1 ρ μ P := fun H' α' σ' E' S R => k H' α' σ' (E.trans E') S R
def OutK (K : PySem.W.Frag) (H : Hp) (α : List Addr) (o : Out) (D : Ends) : Prop := match o with
  | .nx ρ μ => Ahd K H α ρ μ D.nx
  | .rt d μ => Kont K H α μ d D.rt
  | .bk ρ μ => Ahd K H α ρ μ D.bk
  | .ct ρ μ => Ahd K H α ρ μ D.ct
theorem OutK.up {K : PySem.W.Frag} {H H1 : Hp} {α α1 : List Addr} {o : Out} {D : Ends} (k : OutK K H α o D) (E : Ext K H α H1 α1) : OutK K H1 α1 o D := by
  cases o with
  | nx ρ μ => exact Ahd.up k E
  | rt d μ => exact Kont.up k E
  | bk ρ μ => exact Ahd.up k E
  | ct ρ μ => exact Ahd.up k E
def tS (K : PySem.W.Frag) (f : SF) : TS := fun D σ H => ∃ α ρ μ o, RepS K H α μ ∧ RepR K H α ρ σ ∧ f ρ μ = some o ∧ OutK K H α o D
def tG (K : PySem.W.Frag) (g : GF) : TG := fun v σ H Q => ∃ α ρ μ d ρ' μ', RepS K H α μ ∧ RepR K H α ρ σ ∧ Rep K H α d v ∧ g d ρ μ = some (ρ', μ') ∧ Ahd K H α ρ' μ' Q
def tGs (K : PySem.W.Frag) (g : GsF) : TGs := fun vs σ H Q => ∃ α ρ μ ds ρ' μ', RepS K H α μ ∧ RepR K H α ρ σ ∧ Reps K H α ds vs ∧ g ds ρ μ = some (ρ', μ') ∧ Ahd K H α ρ' μ' Q
def fSkip : SF := fun ρ μ => some (.nx ρ μ)
def fSeq (f g : SF) : SF := fun ρ μ => (f ρ μ).bind fun o => match o with
  | .nx ρ' μ' => g ρ' μ'
  | o => some o
def fRet (f : EF) : SF := fun ρ μ => (f ρ μ).bind fun p => some (.rt p.1 p.2)
def fDrop (f : EF) : SF := fun ρ μ => (f ρ μ).bind fun p => some (.nx ρ p.2)
def fIfS (c : TF) (f g : SF) : SF := fun ρ μ => (c ρ μ).bind fun p => if p.1 = true then f ρ p.2 else g ρ p.2
def fAsg (f : EF) (g : GF) : SF := fun ρ μ => (f ρ μ).bind fun p => (g p.1 ρ p.2).bind fun q => some (.nx q.1 q.2)
def fPar (i j : Nat) (f : AF) : SF := fun ρ μ => (f ρ μ).bind fun p => match p.1 with
  | [a, b] => some (.nx ((ρ.set i (some a)).set j (some b)) p.2)
  | _ => none
def gNm (i : Nat) : GF := fun d ρ μ => some (ρ.set i (some d), μ)
def gSb (fo fi : EF) : GF := fun d ρ μ => (fo ρ μ).bind fun p => (fi ρ p.2).bind fun q => (stD p.1 q.1 d q.2).map fun μ' => (ρ, μ')
def gNl : GsF := fun ds ρ μ => match ds with
  | [] => some (ρ, μ)
  | _ => none
def gCn (g : GF) (gs : GsF) : GsF := fun ds ρ μ => match ds with
  | d :: r => (g d ρ μ).bind fun p => gs r p.1 p.2
  | [] => none
def gTp (n : Nat) (gs : GsF) : GF := fun d ρ μ => match d with
  | .tup ds => if ds.length = n then gs ds ρ μ else none
  | _ => none
theorem RepR.set {K : PySem.W.Frag} {H : Hp} {α : List Addr} {ρ : Sl} {σ : L2.St} {d : D} {v : V} (R : RepR K H α ρ σ) (r : Rep K H α d v) (i : Nat) : RepR K H α (ρ.set i (some d)) (σ.set i (some v)) := by
  refine ⟨by rw [List.length_set, List.length_set]; exact R.1, fun j d' e => ?_⟩
  by_cases h : i = j
  · subst h
    by_cases l : i < ρ.length
    · rw [List.getElem?_set_self l] at e
      cases e
      exact ⟨v, by rw [List.getElem?_set_self (by rw [← R.1]; exact l)], r⟩
    · rw [List.getElem?_eq_none (by simpa using l)] at e
      cases e
  · rw [List.getElem?_set_ne h] at e ⊢
    exact R.2 j d' e
section
variable {X : Cx} {st : Stmt} {rest body : List Stmt} {f g : SF} {e : Expr} {fe : EF} {pos : Pos}
theorem dss_nil : PSs X [] (tS X.K fSkip) := by
  refine PSs.imp pss_nil ?_
  rintro D σ H ⟨α, ρ, μ, o, S, R, e, k⟩
  cases e
  exact k H α σ Ext.refl S R
theorem dss_one (h : PS X st (tS X.K f)) : PSs X [st] (tS X.K f) := pss_one h
theorem dss_cons (h1 : PS X st (tS X.K f)) (h2 : PSs X rest (tS X.K g)) : PSs X (st :: rest) (tS X.K (fSeq f g)) := by
  refine PSs.imp (pss_cons h1 h2) ?_
  rintro D σ H ⟨α, ρ, μ, o, S, R, e, k⟩
  obtain ⟨o1, e1, e2⟩ := Option.bind_eq_some_iff.mp e
  refine ⟨α, ρ, μ, o1, S, R, e1, ?_⟩
  cases o1 with
  | nx ρ1 μ1 => exact fun H1 α1 σ1 E1 S1 R1 => ⟨α1, ρ1, μ1, o, S1, R1, e2, k.up E1⟩
  | rt d μ1 => cases e2; exact k
  | bk ρ1 μ1 => cases e2; exact k
  | ct ρ1 μ1 => cases e2; exact k
theorem ds_ret (he : PE X e (tE X.K fe)) : PS X (.Return (some e) pos) (tS X.K (fRet fe)) := by
  refine PS.imp (ps_ret he) ?_
  rintro D σ H ⟨α, ρ, μ, o, S, R, e, k⟩
  obtain ⟨⟨x, μ1⟩, e1, e2⟩ := Option.bind_eq_some_iff.mp e
  cases e2
  exact ⟨α, ρ, μ, x, _, S, R, e1, k⟩
theorem ds_expr (he : PE X e (tE X.K fe)) (hs : swapsWith e none pos.line X.env = pure false := by rfl) : PS X (.Expr e pos) (tS X.K (fDrop fe)) := by
  refine PS.imp (ps_expr he hs) ?_
  rintro D σ H ⟨α, ρ, μ, o, S, R, e, k⟩
  obtain ⟨⟨x, μ1⟩, e1, e2⟩ := Option.bind_eq_some_iff.mp e
  cases e2
  exact ⟨α, ρ, μ, x, _, S, R, e1, fun H1 α1 v E1 S1 r1 => k H1 α1 σ E1 S1 (R.up E1)⟩
theorem ds_if {c : Expr} {a b : List Stmt} {fc : TF} (hc : PT X c (tT X.K fc)) (ha : PSs X a (tS X.K f)) (hb : PSs X b (tS X.K g)) : PS X (.If c a b pos) (tS X.K (fIfS fc f g)) := by
  refine PS.imp (ps_if hc ha hb) ?_
  rintro D σ H ⟨α, ρ, μ, o, S, R, e, k⟩
  obtain ⟨⟨x, μ1⟩, e1, e2⟩ := Option.bind_eq_some_iff.mp e
  refine ⟨α, ρ, μ, x, μ1, S, R, e1, fun H1 α1 E1 S1 => ?_⟩
  cases x with
  | true => exact ⟨α1, ρ, μ1, o, S1, R.up E1, e2, k.up E1⟩
  | false => exact ⟨α1, ρ, μ1, o, S1, R.up E1, e2, k.up E1⟩
theorem i_nm {K : PySem.W.Frag} {i : Nat} : ∀ v σ H Q, tG K (gNm i) v σ H Q → gName i v σ H Q := by
  rintro v σ H Q ⟨α, ρ, μ, d, ρ', μ', S, R, r, e, k⟩
  cases e
  exact k H α _ Ext.refl S (R.set r i)
theorem dg_name {i : Nat} {x : Str} (hN : X.N.Nodup) (hi : X.N[i]? = some x) (hx : Loc X.env.scope x) (hf : X.fn x = true ∨ X.env.scope.names.lookup x = some .local := by first | exact .inl rfl | exact .inr rfl | assumption) : PG X (.Name x pos) (tG X.K (gNm i)) := PG.imp (pg_name hN hi hx hf) i_nm
theorem dgs_nil : PGs X [] (tGs X.K gNl) := by
  refine PGs.imp pgs_nil ?_
  rintro vs σ H Q ⟨α, ρ, μ, ds, ρ', μ', S, R, r, e, k⟩
  unfold gNl at e
  split at e
  · cases e
    exact ⟨r, k H α σ Ext.refl S R⟩
  · cases e
theorem dgs_cons {e : Expr} {es : List Expr} {gt : GF} {gu : GsF} (h1 : PG X e (tG X.K gt)) (h2 : PGs X es (tGs X.K gu))
    (hs : (assignEach (e :: es) X.env).map (·.2) = assign e X.env :: (assignEach es X.env).map (·.2) := by rfl) : PGs X (e :: es) (tGs X.K (gCn gt gu)) := by
  refine PGs.imp (pgs_cons h1 h2 hs) ?_
  rintro vs σ H Q ⟨α, ρ, μ, ds, ρ', μ', S, R, r, e, k⟩
  unfold gCn at e
  split at e
  · obtain ⟨⟨ρ1, μ1⟩, e1, e2⟩ := Option.bind_eq_some_iff.mp e
    obtain ⟨v, vr, rfl, r1, r2⟩ := r
    exact ⟨v, vr, rfl, α, ρ, μ, _, ρ1, μ1, S, R, r1, e1, fun H1 α1 σ1 E1 S1 R1 => ⟨α1, ρ1, μ1, _, ρ', μ', S1, R1, r2.up E1, e2, k.up E1⟩⟩
  · cases e
theorem dg_tup {es : List Expr} {j : Nat} {gs : GsF} {n : Nat} (hc : X.calm = true) (h : PGs X es (tGs X.K gs))
    (hn : (assignEach es X.env).length = n := by rfl) (hst : (assignEach es X.env).findIdx? (·.1) = none := by rfl) : PG X (.Tuple es j pos) (tG X.K (gTp n gs)) := by
  refine PG.imp (pg_tup hc h hn hst) ?_
  rintro v σ H Q ⟨α, ρ, μ, d, ρ', μ', S, R, r, e, k⟩
  unfold gTp at e
  split at e
  · split at e
    · rename_i hl
      obtain ⟨a, xs, rfl, q, rr⟩ := r
      exact ⟨a, xs, rfl, q, by rw [← rr.length]; exact hl, α, ρ, μ, _, ρ', μ', S, R, rr, e, k⟩
    · cases e
  · cases e
theorem dg_sub {o i : Expr} {fo fi : EF} (hu : X.A.units + 1 < cLine) (ho : PE X o (tE X.K fo)) (hi : PE X i (tE X.K fi))
    (ha : ∀ v, assign (.Subscript o i pos) X.env v = (do
      let ov ← holding [v] (eval o X.env)
      let iv ← holding [v, ov] (eval i X.env)
      standAt pos
      holding [v, ov, iv] (setItem ov iv v)
      release [v, ov, iv] []) := by intro _; rfl) : PG X (.Subscript o i pos) (tG X.K (gSb fo fi)) := by
  refine PG.imp (pg_sub ho hi (ds_set hu) ha) ?_
  rintro v σ H Q ⟨α, ρ, μ, d, ρ', μ', S, R, r, e, k⟩
  obtain ⟨⟨x, μ1⟩, e1, e2⟩ := Option.bind_eq_some_iff.mp e
  obtain ⟨⟨y, μ2⟩, e3, e4⟩ := Option.bind_eq_some_iff.mp e2
  obtain ⟨μ3, e5, e6⟩ := Option.map_eq_some_iff.mp e4
  cases e6
  exact ⟨α, ρ, μ, x, μ1, S, R, e1, fun H1 α1 v1 E1 S1 r1 => ⟨α1, ρ, μ1, y, μ2, S1, R.up E1, e3, fun H2 α2 v2 E2 S2 r2 =>
    ⟨α2, μ2, x, y, d, _, S2, r1.up E2, r2, r.up (E1.trans E2), e5, fun H3 α3 E3 S3 => k H3 α3 σ (E1.trans (E2.trans E3)) S3 (R.up (E1.trans (E2.trans E3)))⟩⟩⟩
theorem i_asg {K : PySem.W.Frag} {fe : EF} {g : GF} : ∀ D σ H, tS K (fAsg fe g) D σ H → tAsg (tE K fe) (tG K g) D σ H := by
  rintro D σ H ⟨α, ρ, μ, o, S, R, e, k⟩
  obtain ⟨⟨x, μ1⟩, e1, e2⟩ := Option.bind_eq_some_iff.mp e
  obtain ⟨⟨ρ2, μ2⟩, e3, e4⟩ := Option.bind_eq_some_iff.mp e2
  cases e4
  exact ⟨α, ρ, μ, x, μ1, S, R, e1, fun H1 α1 v E1 S1 r1 => ⟨α1, ρ, μ1, x, ρ2, μ2, S1, R.up E1, r1, e3, Ahd.up k E1⟩⟩
theorem ds_asg {tg : Expr} {g : GF} (he : PE X e (tE X.K fe)) (hg : PG X tg (tG X.K g)) (hs : swapsWithSole [tg] e pos.line X.env = pure false := by rfl) (hw : swappedStores [tg] e X.env = pure none := by rfl)
    (h1 : (assignEach [tg] X.env).map (·.2) = [assign tg X.env] := by rfl) : PS X (.Assign [tg] e pos) (tS X.K (fAsg fe g)) := PS.imp (ps_asg he hg hs hw h1) i_asg
theorem ds_setn {i : Nat} {x : Str} {pos' : Pos} (hN : X.N.Nodup) (hi : X.N[i]? = some x) (hx : Loc X.env.scope x) (he : PE X e (tE X.K fe)) (hs : swapsWith e (some (.Name x pos')) pos.line X.env = pure false := by rfl) (hf : X.fn x = true ∨ X.env.scope.names.lookup x = some .local := by first | exact .inl rfl | exact .inr rfl | assumption) :
    PS X (.Assign [.Name x pos'] e pos) (tS X.K (fAsg fe (gNm i))) := by
  refine PS.imp (ps_set hN hi hx he hs hf) fun D σ H h => ?_
  obtain ⟨α, ρ, μ, d, μ', S, R, e, k⟩ := i_asg D σ H h
  exact ⟨α, ρ, μ, d, μ', S, R, e, fun H' α' v E' S' r' => i_nm _ _ _ _ (k H' α' v E' S' r')⟩
theorem ds_par {i j : Nat} {x y : Str} {a b : Expr} {fa : AF} {px py pt : Pos} {kt k2 pt2} (hc : X.calm = true) (hN : X.N.Nodup) (hi : X.N[i]? = some x) (hj : X.N[j]? = some y) (hij : i ≠ j)
    (hx : X.env.scope.names.lookup x = some .local) (hy : X.env.scope.names.lookup y = some .local) (ha : PA X [a, b] (tA X.K fa))
    (hw : swappedStores [.Tuple [.Name x px, .Name y py] kt pt] (.Tuple [a, b] k2 pt2) X.env = pure (some [x, y]))
    (hs : swapsWithSole [.Tuple [.Name x px, .Name y py] kt pt] (.Tuple [a, b] k2 pt2) pos.line X.env = pure false := by rfl) :
    PS X (.Assign [.Tuple [.Name x px, .Name y py] kt pt] (.Tuple [a, b] k2 pt2) pos) (tS X.K (fPar i j fa)) := by
  refine PS.imp (ps_par hc hN hi hj hij hx hy ha hw hs) ?_
  rintro D σ H ⟨α, ρ, μ, o, S, R, e, k⟩
  obtain ⟨⟨ds, μ1⟩, e1, e2⟩ := Option.bind_eq_some_iff.mp e
  refine ⟨α, ρ, μ, ds, μ1, S, R, e1, fun H1 α1 vs E1 S1 r1 => ?_⟩
  simp only at e2
  split at e2
  · cases e2
    obtain ⟨v, _, rfl, q1, w, _, rfl, q2, q3⟩ := r1
    cases (show _ = _ from q3)
    exact ⟨v, w, rfl, k H1 α1 _ E1 S1 (((R.up E1).set q1 i).set q2 j)⟩
  · cases e2
end
inductive ItD where
  | tup (ds : List D) | lst (n : Nat) | rng (lo : Int) (n : Nat)
abbrev IF := Sl → Sto → Option (ItD × Sto)
def ItR (K : PySem.W.Frag) (H : Hp) (α : List Addr) (it : ItD) (J : It) : Prop := match it with
  | .tup ds => ∃ a xs, J = Itt K a ∧ SqT K H a xs ∧ Reps K H α ds xs
  | .lst n => ∃ a, J = Itl K a ∧ α[n]? = some a
  | .rng lo n => J = Itr lo n
theorem ItR.up {K : PySem.W.Frag} {H H' : Hp} {α α' : List Addr} {it : ItD} {J : It} (h : ItR K H α it J) (E : Ext K H α H' α') : ItR K H' α' it J := by
  cases it with
  | tup ds => obtain ⟨a, xs, e, q, r⟩ := h; exact ⟨a, xs, e, E.tup _ _ q, r.up E⟩
  | lst n => obtain ⟨a, e, q⟩ := h; exact ⟨a, e, let ⟨_, p⟩ := E.pre; pre_get p q⟩
  | rng lo n => exact h
def tI (K : PySem.W.Frag) (f : IF) : TI := fun σ H R => ∃ α ρ μ it μ', RepS K H α μ ∧ RepR K H α ρ σ ∧ f ρ μ = some (it, μ') ∧ ∀ H' α' J, Ext K H α H' α' → RepS K H' α' μ' → ItR K H' α' it J → R J H'
def itAt (it : ItD) (i : Nat) (μ : Sto) : Option (Option D) := match it with
  | .tup ds => some ds[i]?
  | .lst n => (lstAt μ n).map fun ds => ds[i]?
  | .rng lo n => some (if i < n then some (.int (lo + i)) else none)
def itLen (it : ItD) (μ : Sto) : Nat := match it with
  | .tup ds => ds.length
  | .lst n => ((lstAt μ n).getD []).length
  | .rng _ n => n
section
variable {K : PySem.W.Frag} {H : Hp} {α : List Addr} {μ : Sto} {it : ItD} {J : It} {i : Nat}
theorem RepS.sqlA (S : RepS K H α μ) {n : Nat} {ds : List D} {a : Addr} (h : lstAt μ n = some ds) (e : α[n]? = some a) : ∃ xs, SqL K H a xs ∧ Reps K H α ds xs := by
  obtain ⟨_, xs, z, q, r⟩ := S.sql h ⟨a, rfl, e⟩
  cases z
  exact ⟨xs, q, r⟩
theorem it_stop (h : ItR K H α it J) (S : RepS K H α μ) (e : itAt it i μ = some none) : J.stop i H := by
  cases it with
  | tup ds =>
    obtain ⟨a, xs, rfl, q, r⟩ := h
    refine ⟨xs, q, ?_⟩
    have : ds[i]? = none := Option.some.inj e
    rw [← r.length]
    exact List.getElem?_eq_none_iff.mp this
  | lst n =>
    obtain ⟨a, rfl, q⟩ := h
    obtain ⟨ds, e1, e2⟩ := Option.map_eq_some_iff.mp e
    obtain ⟨xs, s, r⟩ := S.sqlA e1 q
    exact ⟨xs, s, by rw [← r.length]; exact List.getElem?_eq_none_iff.mp e2⟩
  | rng lo n =>
    cases (show J = _ from h)
    simp only [itAt, Option.some.injEq] at e
    split at e
    · cases e
    · show n ≤ i; omega
theorem it_go (h : ItR K H α it J) (S : RepS K H α μ) {d : D} (e : itAt it i μ = some (some d)) : J.go i H ∧ ∀ x H', J.yld i H x H' → H' = H ∧ Rep K H α d x := by
  cases it with
  | tup ds =>
    obtain ⟨a, xs, rfl, q, r⟩ := h
    have e' : ds[i]? = some d := Option.some.inj e
    obtain ⟨v, h1, h2⟩ := r.get e'
    exact ⟨⟨xs, v, q, h1⟩, fun x H' ⟨z1, z2⟩ => ⟨z1, by have := z2 xs q; rw [h1] at this; cases this; exact h2⟩⟩
  | lst n =>
    obtain ⟨a, rfl, q⟩ := h
    obtain ⟨ds, e1, e2⟩ := Option.map_eq_some_iff.mp e
    obtain ⟨xs, s, r⟩ := S.sqlA e1 q
    obtain ⟨v, h1, h2⟩ := r.get e2
    exact ⟨⟨xs, v, s, h1⟩, fun x H' ⟨z1, z2⟩ => ⟨z1, by have := z2 xs s; rw [h1] at this; cases this; exact h2⟩⟩
  | rng lo n =>
    cases (show J = _ from h)
    simp only [itAt, Option.some.injEq] at e
    split at e
    · rename_i hl
      cases e
      exact ⟨hl, fun x H' ⟨z1, z2⟩ => ⟨z1, z2⟩⟩
    · cases e
end
/-- the walk over a value: a tuple or a list -/
def iVal (f : EF) : IF := fun ρ μ => (f ρ μ).bind fun p => match p.1 with
  | .tup ds => some (.tup ds, p.2)
  | _ => none
def iLst (f : EF) : IF := fun ρ μ => (f ρ μ).bind fun p => match p.1 with
  | .loc n => if (lstAt p.2 n).isSome then some (.lst n, p.2) else none
  | _ => none
def iRng1' (f : AF) : IF := fun ρ μ => (f ρ μ).bind fun p => match p.1 with
  | [.int j] => if -(2 ^ 62) ≤ j ∧ j < 2 ^ 62 then some (.rng 0 j.toNat, p.2) else none
  | _ => none
def iRng2' (f : AF) : IF := fun ρ μ => (f ρ μ).bind fun p => match p.1 with
  | [.int i, .int j] => if -(2 ^ 62) ≤ i ∧ i < 2 ^ 62 ∧ -(2 ^ 62) ≤ j ∧ j < 2 ^ 62 then some (.rng i (j - i).toNat, p.2) else none
  | _ => none
section
variable {X : Cx} {tg e : Expr} {fe : EF}
theorem _root_.L2.PI.imp {t u : TI} (h : PI X tg e t) (i : ∀ σ H R, u σ H R → t σ H R) : PI X tg e u := ⟨fun pins s σ H R I q => h.run pins s σ H R I (i _ _ _ q)⟩
theorem di_tup (he : PE X e (tE X.K fe)) : PI X tg e (tI X.K (iVal fe)) := by
  refine PI.imp (pi_tup he) ?_
  rintro σ H Q ⟨α, ρ, μ, it, μ', S, R, e, k⟩
  obtain ⟨⟨x, μ1⟩, e1, e2⟩ := Option.bind_eq_some_iff.mp e
  simp only at e2
  split at e2
  · cases e2
    refine ⟨α, ρ, μ, _, _, S, R, e1, fun H1 α1 v E1 S1 r1 => ?_⟩
    obtain ⟨a, xs, rfl, q, r⟩ := r1
    exact ⟨a, rfl, ⟨xs, q⟩, k H1 α1 _ E1 S1 ⟨a, xs, rfl, q, r⟩⟩
  · cases e2
theorem di_lst (he : PE X e (tE X.K fe)) : PI X tg e (tI X.K (iLst fe)) := by
  refine PI.imp (pi_list he) ?_
  rintro σ H Q ⟨α, ρ, μ, it, μ', S, R, e, k⟩
  obtain ⟨⟨x, μ1⟩, e1, e2⟩ := Option.bind_eq_some_iff.mp e
  simp only at e2
  split at e2
  · split at e2
    · rename_i n hs
      cases e2
      refine ⟨α, ρ, μ, _, _, S, R, e1, fun H1 α1 v E1 S1 r1 => ?_⟩
      obtain ⟨ds, hd⟩ := Option.isSome_iff_exists.mp hs
      have r0 := r1
      obtain ⟨a, rfl, q⟩ := r1
      obtain ⟨xs, sq, r⟩ := S1.sqlA hd q
      exact ⟨a, rfl, ⟨xs, sq⟩, k H1 α1 _ E1 S1 ⟨a, rfl, q⟩⟩
    · cases e2
  · cases e2
theorem di_rng1 {a : Expr} {fa : AF} {p pos : Pos} (hg : Gl X "range") (hm : X.mg "range" = none) (ha : PA X [a] (tA X.K fa)) (hs : starEach [a] X.env = [(false, eval a X.env)] := by rfl) : PI X tg (.Call (.Name "range" p) [a] [] pos) (tI X.K (iRng1' fa)) := by
  refine PI.imp (pi_range1 hg hm ha hs) ?_
  rintro σ H Q ⟨α, ρ, μ, it, μ', S, R, e, k⟩
  obtain ⟨⟨x, μ1⟩, e1, e2⟩ := Option.bind_eq_some_iff.mp e
  refine ⟨α, ρ, μ, x, μ1, S, R, e1, fun H1 α1 v E1 S1 r1 => ?_⟩
  simp only at e2
  split at e2
  · split at e2
    · rename_i h
      cases e2
      obtain ⟨v, _, rfl, q1, q2⟩ := r1
      cases (show v = _ from q1); cases (show _ = _ from q2)
      exact ⟨_, rfl, h.1, h.2, k H1 α1 _ E1 S1 rfl⟩
    · cases e2
  · cases e2
theorem di_rng2 {a b : Expr} {fa : AF} {p pos : Pos} (hg : Gl X "range") (hm : X.mg "range" = none) (ha : PA X [a, b] (tA X.K fa)) (hs : starEach [a, b] X.env = [(false, eval a X.env), (false, eval b X.env)] := by rfl) (hs2 : starEach [b] X.env = [(false, eval b X.env)] := by rfl) :
    PI X tg (.Call (.Name "range" p) [a, b] [] pos) (tI X.K (iRng2' fa)) := by
  refine PI.imp (pi_range2 hg hm ha hs hs2) ?_
  rintro σ H Q ⟨α, ρ, μ, it, μ', S, R, e, k⟩
  obtain ⟨⟨x, μ1⟩, e1, e2⟩ := Option.bind_eq_some_iff.mp e
  refine ⟨α, ρ, μ, x, μ1, S, R, e1, fun H1 α1 v E1 S1 r1 => ?_⟩
  simp only at e2
  split at e2
  · split at e2
    · rename_i h
      cases e2
      obtain ⟨v, _, rfl, q1, w, _, rfl, q2, q3⟩ := r1
      cases (show v = _ from q1); cases (show w = _ from q2); cases (show _ = _ from q3)
      exact ⟨_, _, rfl, h, k H1 α1 _ E1 S1 rfl⟩
    · cases e2
  · cases e2
end
def loopF (g : GF) (b : SF) (it : ItD) : Nat → Nat → Sl → Sto → Option Out
  | 0, i, ρ, μ => match itAt it i μ with
    | some none => some (.nx ρ μ)
    | _ => none
  | m + 1, i, ρ, μ => match itAt it i μ with
    | some none => some (.nx ρ μ)
    | some (some d) => (g d ρ μ).bind fun p => (b p.1 p.2).bind fun o => match o with
      | .nx ρ2 μ2 => loopF g b it m (i + 1) ρ2 μ2
      | .ct ρ2 μ2 => loopF g b it m (i + 1) ρ2 μ2
      | .bk ρ2 μ2 => some (.nx ρ2 μ2)
      | .rt d μ2 => some (.rt d μ2)
    | none => none
def fFor (f : IF) (g : GF) (b : SF) : SF := fun ρ μ => (f ρ μ).bind fun p => loopF g b p.1 (itLen p.1 p.2) 0 ρ p.2
def loopW (c : TF) (b : SF) : Nat → Sl → Sto → Option Out
  | 0, _, _ => none
  | m + 1, ρ, μ => (c ρ μ).bind fun p => if p.1 = true then (b ρ p.2).bind fun o => match o with
      | .nx ρ2 μ2 => loopW c b m ρ2 μ2
      | .ct ρ2 μ2 => loopW c b m ρ2 μ2
      | .bk ρ2 μ2 => some (.nx ρ2 μ2)
      | .rt d μ2 => some (.rt d μ2)
    else some (.nx ρ p.2)
def fWhile (m : Sl → Sto → Nat) (c : TF) (b : SF) : SF := fun ρ μ => loopW c b (m ρ μ) ρ μ
section
variable {X : Cx} {pos : Pos}
theorem ds_for {iter tg : Expr} {body : List Stmt} {fi : IF} {g : GF} {b : SF} (hp : PassesOwn (model X.prog X.w) X.A X.env X.xe) (hc : X.calm = true) (hi : PI X tg iter (tI X.K fi)) (hg : PG X tg (tG X.K g)) (hb : PSs X body (tS X.K b))
    (hs : ∀ x, foldedSetIterable iter X.env x = pure x := by intro _; rfl) : PS X (.For tg iter body [] pos) (tS X.K (fFor fi g b)) := by
  refine PS.imp (ps_for hp hc hi hg hb hs) ?_
  rintro D σ H ⟨α, ρ, μ, o, S, R, e, k⟩
  obtain ⟨⟨it, μ1⟩, e1, e2⟩ := Option.bind_eq_some_iff.mp e
  refine ⟨α, ρ, μ, it, μ1, S, R, e1, fun H1 α1 J E1 S1 h1 => ?_⟩
  refine ⟨fun i m σ H => ∃ α ρ μ o, RepS X.K H α μ ∧ RepR X.K H α ρ σ ∧ ItR X.K H α it J ∧ loopF g b it m i ρ μ = some o ∧ OutK X.K H α o D, ⟨_, α1, ρ, μ1, o, S1, R.up E1, h1, e2, k.up E1⟩, ?_⟩
  rintro i m σ2 H2 ⟨α2, ρ2, μ2, o2, S2, R2, h2, e3, k2⟩
  cases m with
  | zero =>
    unfold loopF at e3
    split at e3
    · rename_i q
      cases e3
      exact .inl ⟨it_stop h2 S2 q, k2 H2 α2 σ2 Ext.refl S2 R2⟩
    · cases e3
  | succ m =>
    unfold loopF at e3
    split at e3
    · rename_i q
      cases e3
      exact .inl ⟨it_stop h2 S2 q, k2 H2 α2 σ2 Ext.refl S2 R2⟩
    · rename_i d q
      obtain ⟨g1, g2⟩ := it_go h2 S2 q
      obtain ⟨⟨ρ3, μ3⟩, e4, e5⟩ := Option.bind_eq_some_iff.mp e3
      obtain ⟨o3, e6, e7⟩ := Option.bind_eq_some_iff.mp e5
      refine .inr ⟨g1, fun σ H => ∃ α ρ μ o, RepS X.K H α μ ∧ RepR X.K H α ρ σ ∧ ItR X.K H α it J ∧ loopF g b it m (i + 1) ρ μ = some o ∧ OutK X.K H α o D, fun σ' H' n => ⟨m, Nat.lt_succ_self m, n⟩, fun x H' y => ?_⟩
      obtain ⟨rfl, rx⟩ := g2 x H' y
      refine ⟨α2, ρ2, μ2, d, ρ3, μ3, S2, R2, rx, e4, fun H3 α3 σ3 E3 S3 R3 => ⟨α3, ρ3, μ3, o3, S3, R3, e6, ?_⟩⟩
      cases o3 with
      | nx ρ4 μ4 => exact fun H4 α4 σ4 E4 S4 R4 => ⟨α4, ρ4, μ4, o2, S4, R4, h2.up (E3.trans E4), e7, k2.up (E3.trans E4)⟩
      | ct ρ4 μ4 => exact fun H4 α4 σ4 E4 S4 R4 => ⟨α4, ρ4, μ4, o2, S4, R4, h2.up (E3.trans E4), e7, k2.up (E3.trans E4)⟩
      | bk ρ4 μ4 => cases e7; exact Ahd.up k2 E3
      | rt d4 μ4 => cases e7; exact Kont.up k2 E3
    · cases e3
theorem ds_while {c : Expr} {body : List Stmt} {fc : TF} {b : SF} (m : Sl → Sto → Nat) (hp : PassesOwn (model X.prog X.w) X.A X.env X.xe) (hc : PT X c (tT X.K fc)) (hb : PSs X body (tS X.K b)) : PS X (.While c body [] pos) (tS X.K (fWhile m fc b)) := by
  refine PS.imp (ps_while hp hc hb) ?_
  rintro D σ H ⟨α, ρ, μ, o, S, R, e, k⟩
  refine ⟨fun m σ H => ∃ α ρ μ o, RepS X.K H α μ ∧ RepR X.K H α ρ σ ∧ loopW fc b m ρ μ = some o ∧ OutK X.K H α o D, ⟨_, α, ρ, μ, o, S, R, e, k⟩, ?_⟩
  rintro m σ2 H2 ⟨α2, ρ2, μ2, o2, S2, R2, e3, k2⟩
  cases m with
  | zero => cases e3
  | succ m =>
    unfold loopW at e3
    obtain ⟨⟨x, μ3⟩, e4, e5⟩ := Option.bind_eq_some_iff.mp e3
    refine ⟨α2, ρ2, μ2, x, μ3, S2, R2, e4, fun H3 α3 E3 S3 => ?_⟩
    cases x with
    | false => cases e5; exact k2 H3 α3 σ2 E3 S3 (R2.up E3)
    | true =>
      rw [if_pos rfl] at e5 ⊢
      obtain ⟨o3, e6, e7⟩ := Option.bind_eq_some_iff.mp e5
      refine ⟨fun σ H => ∃ α ρ μ o, RepS X.K H α μ ∧ RepR X.K H α ρ σ ∧ loopW fc b m ρ μ = some o ∧ OutK X.K H α o D, fun σ' H' n => ⟨m, Nat.lt_succ_self m, n⟩, α3, ρ2, μ3, o3, S3, R2.up E3, e6, ?_⟩
      cases o3 with
      | nx ρ4 μ4 => exact fun H4 α4 σ4 E4 S4 R4 => ⟨α4, ρ4, μ4, o2, S4, R4, e7, k2.up (E3.trans E4)⟩
      | ct ρ4 μ4 => exact fun H4 α4 σ4 E4 S4 R4 => ⟨α4, ρ4, μ4, o2, S4, R4, e7, k2.up (E3.trans E4)⟩
      | bk ρ4 μ4 => cases e7; exact Ahd.up k2 E3
      | rt d4 μ4 => cases e7; exact Kont.up k2 E3
end
end DL
namespace DL
open PySem PySem.Spec PyProof.Rows L2
def wipeD (ρ : Sl) : List Nat → Sl
  | [] => ρ
  | v :: vs => (wipeD ρ vs).set v none
theorem wipe_get (σ : L2.St) (j : Nat) : ∀ vs : List Nat, (wipe σ vs)[j]? = if j ∈ vs then (if j < σ.length then some none else none) else σ[j]?
  | [] => by simp [wipe]
  | v :: vs => by
    unfold wipe
    by_cases h : v = j
    · subst h
      rw [if_pos (by simp)]
      by_cases l : v < σ.length
      · rw [List.getElem?_set_self (by rw [wipe_length]; exact l), if_pos l]
      · rw [if_neg l, List.getElem?_eq_none (by simpa [wipe_length] using l)]
    · rw [List.getElem?_set_ne h, wipe_get σ j vs]
      have : (j ∈ v :: vs) ↔ j ∈ vs := by
        rw [List.mem_cons]
        exact ⟨fun z => z.elim (fun e => absurd e.symm h) id, .inr⟩
      simp only [this]
theorem wipe_set {σ : L2.St} {vs : List Nat} {i : Nat} {x : Option V} (h : i ∈ vs) : wipe (σ.set i x) vs = wipe σ vs := by
  refine List.ext_getElem? fun j => ?_
  rw [wipe_get, wipe_get, List.length_set]
  by_cases hj : j ∈ vs
  · rw [if_pos hj, if_pos hj]
  · rw [if_neg hj, if_neg hj, List.getElem?_set_ne fun e : i = j => hj (by rw [← e]; exact h)]
theorem wipe_wipe (σ : L2.St) (vs : List Nat) : wipe (wipe σ vs) vs = wipe σ vs := by
  refine List.ext_getElem? fun j => ?_
  rw [wipe_get, wipe_get, wipe_length]
  split <;> rfl
theorem RepR.none {K : PySem.W.Frag} {H : Hp} {α : List Addr} {ρ : Sl} {σ : L2.St} (R : RepR K H α ρ σ) (i : Nat) : RepR K H α (ρ.set i none) (σ.set i none) := by
  refine ⟨by rw [List.length_set, List.length_set]; exact R.1, fun j d' e => ?_⟩
  by_cases h : i = j
  · subst h
    by_cases l : i < ρ.length
    · rw [List.getElem?_set_self l] at e; cases e
    · rw [List.getElem?_eq_none (by simpa using l)] at e; cases e
  · rw [List.getElem?_set_ne h] at e ⊢
    exact R.2 j d' e
theorem RepR.wipe {K : PySem.W.Frag} {H : Hp} {α : List Addr} {ρ : Sl} {σ : L2.St} (R : RepR K H α ρ σ) : ∀ vs : List Nat, RepR K H α (wipeD ρ vs) (L2.wipe σ vs)
  | [] => R
  | v :: vs => (RepR.wipe R vs).none v
structure WG (K : PySem.W.Frag) (vs : List Nat) (t : TG) (g : GF) : Prop where
  st : ∀ d ρ μ ρ' μ', g d ρ μ = some (ρ', μ') → μ' = μ
  go : ∀ (v : V) (σ : L2.St) (H : Hp) (Q : L2.St → Hp → Prop) (α : List Addr) (ρ : Sl) (μ : Sto) (d : D) (ρ' : Sl) (μ' : Sto), RepR K H α ρ σ → Rep K H α d v → g d ρ μ = some (ρ', μ') →
    (∀ σ2, wipe σ2 vs = wipe σ vs → RepR K H α ρ' σ2 → Q σ2 H) → t v σ H Q
structure WGs (K : PySem.W.Frag) (vs : List Nat) (t : TGs) (g : GsF) : Prop where
  st : ∀ d ρ μ ρ' μ', g d ρ μ = some (ρ', μ') → μ' = μ
  go : ∀ (v : List V) (σ : L2.St) (H : Hp) (Q : L2.St → Hp → Prop) (α : List Addr) (ρ : Sl) (μ : Sto) (d : List D) (ρ' : Sl) (μ' : Sto), RepR K H α ρ σ → Reps K H α d v → g d ρ μ = some (ρ', μ') →
    (∀ σ2, wipe σ2 vs = wipe σ vs → RepR K H α ρ' σ2 → Q σ2 H) → t v σ H Q
section
variable {K : PySem.W.Frag} {vs : List Nat}
theorem wg_name {i : Nat} (h : i ∈ vs) : WG K vs (gName i) (gNm i) := ⟨fun d ρ μ ρ' μ' e => by cases e; rfl, fun v σ H Q α ρ μ d ρ' μ' R r e k => by
  cases e
  exact k _ (wipe_set h) (R.set r i)⟩
theorem wgs_nil : WGs K vs gNil gNl := by
  refine ⟨fun d ρ μ ρ' μ' e => ?_, fun v σ H Q α ρ μ d ρ' μ' R r e k => ?_⟩
  all_goals
    unfold gNl at e
    split at e
  · cases e; rfl
  · cases e
  · cases e; exact ⟨r, k _ rfl R⟩
  · cases e
theorem wgs_cons {t : TG} {u : TGs} {g : GF} {gs : GsF} (h1 : WG K vs t g) (h2 : WGs K vs u gs) : WGs K vs (gCons t u) (gCn g gs) := by
  refine ⟨fun d ρ μ ρ' μ' e => ?_, fun v σ H Q α ρ μ d ρ' μ' R r e k => ?_⟩
  all_goals
    unfold gCn at e
    split at e
  · obtain ⟨⟨ρ1, μ1⟩, e1, e2⟩ := Option.bind_eq_some_iff.mp e
    rw [h2.st _ _ _ _ _ e2]
    exact h1.st _ _ _ _ _ e1
  · cases e
  · obtain ⟨⟨ρ1, μ1⟩, e1, e2⟩ := Option.bind_eq_some_iff.mp e
    obtain ⟨w, ws, rfl, r1, r2⟩ := r
    exact ⟨w, ws, rfl, h1.go w σ H _ α ρ μ _ ρ1 μ1 R r1 e1 fun σ2 w2 R2 => h2.go ws σ2 H _ α ρ1 μ1 _ ρ' μ' R2 r2 e2 fun σ3 w3 R3 => k σ3 (w3.trans w2) R3⟩
  · cases e
theorem wg_tup {u : TGs} {gs : GsF} {n : Nat} (h : WGs K vs u gs) : WG K vs (gTup K n u) (gTp n gs) := by
  refine ⟨fun d ρ μ ρ' μ' e => ?_, fun v σ H Q α ρ μ d ρ' μ' R r e k => ?_⟩
  all_goals
    unfold gTp at e
    split at e
  · split at e
    · exact h.st _ _ _ _ _ e
    · cases e
  · cases e
  · split at e
    · rename_i hl
      obtain ⟨a, xs, rfl, q, rr⟩ := r
      exact ⟨a, xs, rfl, q, by rw [← rr.length]; exact hl, h.go xs σ H _ α ρ μ _ ρ' μ' R rr e k⟩
    · cases e
  · cases e
end
def fYes : TF := fun _ μ => some (true, μ)
theorem dts_nil {X : Cx} : PTs X [] (tT X.K fYes) := ⟨fun pins s σ H Q I ⟨α, ρ, μ, b, μ', S, R, e, k⟩ => by
  cases e
  exact pts_nil.run pins s σ H Q I (k H α Ext.refl S)⟩
theorem dts_one {X : Cx} {c : Expr} {f : TF} (h : PT X c (tT X.K f)) : PTs X [c] (tT X.K f) := pts_one h
def lcF (g : GF) (ft : TF) (fe : EF) (it : ItD) (n : Nat) (ρ : Sl) : Nat → Nat → Sto → Option Sto
  | 0, i, μ => match itAt it i μ with
    | some none => some μ
    | _ => none
  | m + 1, i, μ => match itAt it i μ with
    | some none => some μ
    | some (some d) => (g d ρ μ).bind fun p => (ft p.1 p.2).bind fun q => if q.1 = true then (fe p.1 q.2).bind fun r => match r.2[n]? with
        | some (.lst acc) => if acc.length < sizeLine then lcF g ft fe it n ρ m (i + 1) (r.2.set n (.lst (acc ++ [r.1]))) else none
        | _ => none
      else lcF g ft fe it n ρ m (i + 1) q.2
    | none => none
def fLc (fi : IF) (g : GF) (ft : TF) (fe : EF) (vs : List Nat) : EF := fun ρ μ => (fi ρ μ).bind fun p => (lcF g ft fe p.1 p.2.length (wipeD ρ vs) (itLen p.1 p.2) 0 (p.2 ++ [.lst []])).map fun μ' => (.loc p.2.length, μ')
theorem i_lc {K : PySem.W.Frag} {fi : IF} {t : TG} {g : GF} {ft : TF} {fe : EF} {vs : List Nat} (w : WG K vs t g) : ∀ σ H Q, tE K (fLc fi g ft fe vs) σ H Q → tLc (tI K fi) t (tT K ft) (tE K fe) vs σ H Q := by
  rintro σ H Q ⟨α, ρ, μ, d, μ', S, R, e, k⟩
  obtain ⟨⟨it, μ1⟩, e1, e2⟩ := Option.bind_eq_some_iff.mp e
  obtain ⟨μ2, e3, e4⟩ := Option.map_eq_some_iff.mp e2
  cases e4
  refine ⟨α, ρ, μ, it, μ1, S, R, e1, fun H1 α1 J E1 S1 h1 DD hD => ?_⟩
  have E2 : Ext K H1 α1 (upd H1 DD (.lst [])) (α1 ++ [DD]) := ext_new α1 [DD] hD
  have S2 : RepS K (upd H1 DD (.lst [])) (α1 ++ [DD]) (μ1 ++ [.lst []]) := S1.new hD ⟨[], upd_same, rfl⟩
  have hn : (α1 ++ [DD])[μ1.length]? = some DD := by rw [← S1.len]; simp
  refine ⟨fun i m H => ∃ α μ, RepS K H α μ ∧ Ext K (upd H1 DD (.lst [])) (α1 ++ [DD]) H α ∧ lcF g ft fe it μ1.length (wipeD ρ vs) m i μ = some μ', ⟨_, _, _, S2, Ext.refl, e3⟩, ?_⟩
  rintro i m H3 ⟨α3, μ3, S3, E3, e5⟩
  have n3 : α3[μ1.length]? = some DD := let ⟨_, p⟩ := E3.pre; pre_get p hn
  have h3 : ItR K H3 α3 it J := h1.up (E2.trans E3)
  have R3 : RepR K H3 α3 (wipeD ρ vs) (wipe σ vs) := (R.up (E1.trans (E2.trans E3))).wipe vs
  have fin : itAt it i μ3 = some none → μ3 = μ' → J.stop i H3 ∧ Q (.ref DD) H3 := fun q z => by
    subst z
    exact ⟨it_stop h3 S3 q, k H3 α3 _ (E1.trans (E2.trans E3)) S3 ⟨DD, rfl, n3⟩⟩
  cases m with
  | zero =>
    unfold lcF at e5
    split at e5
    · rename_i q
      exact .inl (fin q (Option.some.inj e5))
    · cases e5
  | succ m =>
    unfold lcF at e5
    split at e5
    · rename_i q
      exact .inl (fin q (Option.some.inj e5))
    · rename_i d q
      obtain ⟨g1, g2⟩ := it_go h3 S3 q
      obtain ⟨⟨ρ4, μ4⟩, e6, e7⟩ := Option.bind_eq_some_iff.mp e5
      obtain ⟨⟨b, μ5⟩, e8, e9⟩ := Option.bind_eq_some_iff.mp e7
      refine .inr ⟨g1, fun H => ∃ α μ, RepS K H α μ ∧ Ext K (upd H1 DD (.lst [])) (α1 ++ [DD]) H α ∧ lcF g ft fe it μ1.length (wipeD ρ vs) m (i + 1) μ = some μ', fun H' n => ⟨m, Nat.lt_succ_self m, n⟩, fun x H' y => ?_⟩
      obtain ⟨rfl, rx⟩ := g2 x H' y
      have hm : μ4 = μ3 := w.st _ _ _ _ _ e6
      refine w.go x _ _ _ α3 (wipeD ρ vs) μ3 d ρ4 μ4 R3 rx e6 fun σ4 w4 R4 => ⟨w4.trans (wipe_wipe σ vs), α3, ρ4, μ4, b, μ5, by rw [hm]; exact S3, R4, e8, fun H5 α5 E5 S5 => ?_⟩
      cases b with
      | false => exact ⟨α5, μ5, S5, E3.trans E5, e9⟩
      | true =>
        rw [if_pos rfl] at e9 ⊢
        obtain ⟨⟨z, μ6⟩, e10, e11⟩ := Option.bind_eq_some_iff.mp e9
        refine ⟨α5, ρ4, μ5, z, μ6, S5, R4.up E5, e10, fun H6 α6 v E6 S6 r6 => ?_⟩
        simp only at e11
        split at e11
        · rename_i acc q6
          split at e11
          · rename_i hl
            have n6 : α6[μ1.length]? = some DD := let ⟨_, p⟩ := (E5.trans E6).pre; pre_get p n3
            obtain ⟨xs, hx, rr⟩ := S6.ob _ _ _ n6 q6
            have nt := nt_lst hx
            exact ⟨xs, hx, by rw [← rr.length]; exact hl, α6, _, S6.write (ob := .lst (acc ++ [z])) n6 nt ⟨_, upd_same, (rr.append (Reps.one r6)).up (ext_write nt)⟩, E3.trans (E5.trans (E6.trans (ext_write nt))), e11⟩
          · cases e11
        · cases e11
    · cases e5
section
variable {X : Cx}
theorem de_lc {elt tg iter : Expr} {ifs : List Expr} {scope : Scope} {own : List (Str × Nat)} {pos : Pos} {fi : IF} {t : TG} {g : GF} {ft : TF} {fe : EF} (hc : X.calm = true) (hN : X.N.Nodup) (hi : PI X tg iter (tI X.K fi)) (ok : BlkOk X.N X.env.scope scope own)
    (hg : ∀ (s : Shared) (H : Hp) (C : Addr) (cl : List (Str × Addr)) (fp : List Addr), PG (X.blk s H scope (compEnvC scope cl C X.env) fp) tg t) (w : WG X.K (own.map (·.2)) t g)
    (ht : ∀ (s : Shared) (H : Hp) (C : Addr) (cl : List (Str × Addr)) (fp : List Addr), PTs (X.blk s H scope (compEnvC scope cl C X.env) fp) ifs (tT X.K ft))
    (he : ∀ (s : Shared) (H : Hp) (C : Addr) (cl : List (Str × Addr)) (fp : List Addr), PE (X.blk s H scope (compEnvC scope cl C X.env) fp) elt (tE X.K fe)) (hs : ∀ x, foldedSetIterable iter X.env x = pure x := by intro _; rfl) :
    PE X (.ListComp elt [⟨tg, iter, ifs, 0⟩] scope pos) (tE X.K (fLc fi g ft fe (own.map (·.2)))) := (pe_lc hc hN hi ok hg ht he hs).imp (i_lc w)
theorem ds_setLc {i : Nat} {y : Str} {py : Pos} {elt tg iter : Expr} {ifs : List Expr} {scope : Scope} {own : List (Str × Nat)} {pos spos : Pos} {fi : IF} {t : TG} {g : GF} {ft : TF} {fe : EF} (hc : X.calm = true) (hN : X.N.Nodup) (hy : X.N[i]? = some y) (hyl : X.env.scope.names.lookup y = some .local)
    (hsw : swapsWith (.ListComp elt [⟨tg, iter, ifs, 0⟩] scope pos) (some (.Name y py)) spos.line X.env = pure true) (hi : PI X tg iter (tI X.K fi)) (ok : BlkOk X.N X.env.scope scope own)
    (hg : ∀ (s : Shared) (H : Hp) (C : Addr) (cl : List (Str × Addr)) (fp : List Addr), PG (X.blk s H scope (compEnvC scope cl C X.env) fp) tg t) (w : WG X.K (own.map (·.2)) t g)
    (ht : ∀ (s : Shared) (H : Hp) (C : Addr) (cl : List (Str × Addr)) (fp : List Addr), PTs (X.blk s H scope (compEnvC scope cl C X.env) fp) ifs (tT X.K ft))
    (he : ∀ (s : Shared) (H : Hp) (C : Addr) (cl : List (Str × Addr)) (fp : List Addr), PE (X.blk s H scope (compEnvC scope cl C X.env) fp) elt (tE X.K fe)) (hs : ∀ x, foldedSetIterable iter X.env x = pure x := by intro _; rfl) :
    PS X (.Assign [.Name y py] (.ListComp elt [⟨tg, iter, ifs, 0⟩] scope pos) spos) (tS X.K (fAsg (fLc fi g ft fe (own.map (·.2))) (gNm i))) := by
  refine PS.imp (ps_setLc hc hN hy hyl hsw hi ok hg ht he hs) fun D σ H h => ?_
  obtain ⟨α, ρ, μ, d, μ', S, R, e, k⟩ := i_asg D σ H h
  exact i_lc w _ _ _ ⟨α, ρ, μ, d, μ', S, R, e, fun H' α' v E' S' r' => i_nm _ _ _ _ (k H' α' v E' S' r')⟩
end
def spF (K : PySem.W.Frag) (F : GN) : Sp := fun vs H Q _ => cD K F vs H Q
def fDef (n N : Nat) (b : SF) : GN := fun ds μ => if ds.length = n then match b (ds.map some ++ List.replicate (N - n) none) μ with
    | some (.rt d μ') => some (d, μ')
    | some (.nx _ μ') => some (.non, μ')
    | _ => none
  else none
theorem repR_start {K : PySem.W.Frag} {H : Hp} {α : List Addr} {ds : List D} {vs : List V} (r : Reps K H α ds vs) (m : Nat) : RepR K H α (ds.map some ++ List.replicate m none) (vs.map some ++ List.replicate m none) := by
  refine ⟨by simp [r.length], fun i d e => ?_⟩
  by_cases l : i < ds.length
  · rw [List.getElem?_append_left (by simpa using l)] at e
    rw [List.getElem?_append_left (by simpa [← r.length] using l)]
    rw [List.getElem?_map] at e ⊢
    obtain ⟨d', h1, h2⟩ := Option.map_eq_some_iff.mp e
    cases h2
    obtain ⟨v, h3, h4⟩ := r.get h1
    exact ⟨v, by rw [h3]; rfl, h4⟩
  · rw [List.getElem?_append_right (by simpa using l), List.getElem?_replicate] at e
    split at e <;> cases e
theorem body_run {K : PySem.W.Frag} {n : Nat} {N : List Str} {b : SF} {vs : List V} {H : Hp} {Q : VK} (h : cD K (fDef n N.length b) vs H Q) : vs.length = n ∧ tS K b { nx := fun _ H' => Q .non H', rt := Q } (L2.start N vs) H := by
  obtain ⟨α, μ, ds, d, μ', S, r, e, k⟩ := h
  unfold fDef at e
  split at e
  · rename_i hl
    refine ⟨by rw [← r.length]; exact hl, ?_⟩
    have R := repR_start r (N.length - n)
    have st : L2.start N vs = vs.map some ++ List.replicate (N.length - n) none := by unfold L2.start; rw [← r.length, hl]
    rw [st]
    split at e
    · rename_i d1 μ1 q
      cases e
      exact ⟨α, _, μ, _, S, R, q, k⟩
    · rename_i ρ1 μ1 q
      cases e
      exact ⟨α, _, μ, _, S, R, q, fun H' α' σ' E' S' R' => k H' α' _ E' S' rfl⟩
    · cases e
  · cases e
section
variable {P : Program} {w : World} {K : PySem.W.Frag} {mg : Str → Option Value} {base : Heap} {x qual : Str} {params : Arguments} {body : List Stmt} {scope : Scope} {dvs : List V} {kws : List (Str × V)} {f : Addr} {fd : FuncData}
/-- a def -/
theorem fn_dat {N ps : List Str} {k : Nat} {b : SF} (F : FunD K x qual params body scope dvs kws f fd) (S : FnScope N ps scope)
    (hb : ∀ (cdv : Value) (A : Around) (outer : List Env) (s : Shared) (H : Hp) (E : XK), Room k (A.deeper (envOfC qual scope s.heap.objs.size f cdv)) → PSs (cxOf CX0 P w K mg base N qual scope f cdv A outer s H E).nox body (tS K b)) :
    FnOk P w K mg base CX0 (k + 1) f fd ps (spF K (fDef ps.length N.length b)) :=
  F.ok S (fun vs H Q E h => (body_run (N := N) h).1) fun cdv A outer s H vs Q E hr h => ⟨tS K b, PSs.nox (hb cdv A outer s H E hr), (body_run (N := N) h).2⟩
end
section
variable {X : Cx} {k : Nat} {f : Addr} {fd : FuncData} {ps ks : List Str} {F : GN} {x : Str} {p pos : Pos} {e : Expr} {es : List Expr} {fa : AF}
theorem i_call {K : PySem.W.Frag} {E : XK} : ∀ σ H Q, tE K (fCB F fa) σ H Q → tCall (spF K F) [] E (tA K fa) σ H Q := by
  intro σ H Q h
  obtain ⟨α, ρ, μ, ds, μ', S, R, e, k⟩ := i_cb σ H Q h
  exact ⟨α, ρ, μ, ds, μ', S, R, e, fun H1 α1 vs E1 S1 r1 => by
    show spF K F (vs ++ []) H1 Q E
    rw [List.append_nil]
    exact k H1 α1 vs E1 S1 r1⟩
theorem de_call (Fk : FnOk X.prog X.w X.K X.mg X.base CX0 k f fd ps (spF X.K F)) (hr : Room k X.A) (hg : Gl X x) (hm : X.mg x = some (.ref f)) (hk : PySem.W.keepIn X.K (.ref f) = true) (hb : Binds X.K fd ps [])
    (ha : PA X (e :: es) (tA X.K fa)) (hdb : (x == ("__debug__" : Str)) = false := by decide) (he : starEach (e :: es) X.env = (false, eval e X.env) :: starEach es X.env := by rfl) (hpl : (backTo pos (starEach es X.env)).any (·.1) = false := by rfl) :
    PE X (.Call (.Name x p) (e :: es) [] pos) (tE X.K (fCB F fa)) := (pe_call (E := E0) (dvs := []) (ds := []) Fk hr hg hm hk hb .nil pass0 ha hdb he hpl).imp i_call
end
end DL
namespace PySem
end PySem
namespace Vk
open PySem PySem.Spec PyProof.Rows L2
def Held (H : Hp) (a C : Addr) : Prop := H a = some (exo a C none) ∨ ∃ (d : Addr) (fs : List (Str × V)), H a = some (exo a C (some d)) ∧ H d = some (exd d fs)
/-- .. with the field f, worth v -/
def HeldF (H : Hp) (a C : Addr) (f : Str) (v : V) : Prop := ∃ d : Addr, H a = some (exo a C (some d)) ∧ H d = some (exd d [(f, v)])
theorem Held.same {H H' : Hp} {a C : Addr} (s : Same H H') (x : Held H a C) : Held H' a C := by
  rcases x with x | ⟨d, fs, x, y⟩
  · exact .inl (s _ _ x)
  · exact .inr ⟨d, fs, s _ _ x, s _ _ y⟩
theorem HeldF.same {H H' : Hp} {a C : Addr} {f : Str} {v : V} (s : Same H H') (x : HeldF H a C f v) : HeldF H' a C f v := let ⟨d, h1, h2⟩ := x; ⟨d, s _ _ h1, s _ _ h2⟩
end Vk
namespace Vk
open PySem PySem.Spec PyProof.Rows L2
end Vk
namespace Vk
open PySem PySem.Spec PyProof.Rows L2
def keyD : Key → PyData
  | .inl i => .int i
  | .inr x => .str x
mutual
inductive Dq (H : Hp) : V → PyData → Prop
  | non : Dq H .non .none
  | bl (b : Bool) : Dq H (.bl b) (.bool b)
  | int (i : Int) : Dq H (.int i) (.int i)
  | str (x : Str) : Dq H (.str x) (.str x)
  | lst {a : Addr} {xs : List V} {ds : List PyData} : H a = some (.lst xs) → DqAll H xs ds → Dq H (.ref a) (.list ds)
  | tup {a : Addr} {xs : List V} {ds : List PyData} : H a = some (.tup xs) → DqAll H xs ds → Dq H (.ref a) (.tuple ds)
  | dic {a : Addr} {kvs : List (Key × V)} {ps : List (PyData × PyData)} : H a = some (.dK kvs) → ps.map (·.1) = kvs.map (fun p => keyD p.1) → DqAll H (kvs.map (·.2)) (ps.map (·.2)) → Dq H (.ref a) (.dict ps)
inductive DqAll (H : Hp) : List V → List PyData → Prop
  | nil : DqAll H [] []
  | cons {v : V} {vs : List V} {d : PyData} {ds : List PyData} : Dq H v d → DqAll H vs ds → DqAll H (v :: vs) (d :: ds)
end
mutual
theorem Dq.same {H H' : Hp} (S : Same H H') : ∀ {v : V} {d : PyData}, Dq H v d → Dq H' v d
  | _, _, .non => .non
  | _, _, .bl b => .bl b
  | _, _, .int i => .int i
  | _, _, .str x => .str x
  | _, _, .lst h k => .lst (S _ _ h) (DqAll.same S k)
  | _, _, .tup h k => .tup (S _ _ h) (DqAll.same S k)
  | _, _, .dic h e k => .dic (S _ _ h) e (DqAll.same S k)
theorem DqAll.same {H H' : Hp} (S : Same H H') : ∀ {vs : List V} {ds : List PyData}, DqAll H vs ds → DqAll H' vs ds
  | _, _, .nil => .nil
  | _, _, .cons h k => .cons (Dq.same S h) (DqAll.same S k)
end
structure FnG (P : Program) (w : World) (K : PySem.W.Frag) (mg : Str → Option Value) (base : Heap) (k : Nat) (f : Addr) (fd : FuncData) (ps : List Str) (sp : Sp) : Prop where
  len : ∀ vs H Q E, sp vs H Q E → vs.length = ps.length
  run : ∀ (A : Around) (outer : List Env) (s : Shared) (H : Hp) (args : Args) (us : List Value) (vs : List V) (Q : VK) (E : XK), A.guards = some [] → Room k A → Env0 P w K mg base A outer s H → BindsTo s fd args (ps.zip us) → Vals vs us → sp vs H Q E →
    codeAny (model P w) A (.call (.ref f) args) (CR CX0 outer P w H s Q E) s
section
variable {P : Program} {w : World} {K : PySem.W.Frag} {mg : Str → Option Value} {base : Heap} {k : Nat} {f : Addr} {fd : FuncData} {ps N : List Str} {sp : Sp} {x qual : Str} {params : Arguments} {body : List Stmt} {scope : Scope}
theorem FnG.mono {j : Nat} (F : FnG P w K mg base j f fd ps sp) (h : j ≤ k) : FnG P w K mg base k f fd ps sp := ⟨F.len, fun A outer s H args us vs Q E hg hr => F.run A outer s H args us vs Q E hg (hr.mono h)⟩
theorem fnG (F : FunD K x qual params body scope [] [] f fd) (S : FnScope N ps scope) (len : ∀ vs H Q E, sp vs H Q E → vs.length = ps.length)
    (hb : ∀ (cdv : Value) (A : Around) (outer : List Env) (s : Shared) (H : Hp) (vs : List V) (Q : VK) (E : XK), A.guards = some [] → Room k (A.deeper (envOfC qual scope s.heap.objs.size f cdv)) → sp vs H Q E →
      ∃ t, PSs (cxOf CX0 P w K mg base N qual scope f cdv A outer s H E).nox body t ∧ t { nx := fun _ H' => Q .non H', rt := Q } (start N vs) H) : FnG P w K mg base (k + 1) f fd ps sp := by
  obtain ⟨oc, od, dV, kV, doc, pm, an, cdv, ct, osl, rfl, lk, hcd, _, _⟩ := F.ex
  refine ⟨len, fun A outer s H args us vs Q E hg hr e0 hbd rv hsp => ?_⟩
  have l0 := len _ _ _ _ hsp
  have kin : K.In s.heap := e0.mod.kin.keeps fun b o e => (e0.bs b o e).1
  have nol : s.heap.NoLimit := e0.mod.nolimit.keeps fun b o e => (e0.bs b o e).1
  refine codeAny_call_function hr.depth (kin _ _ lk) rfl S.co S.gen rfl (PySem.W.codeRec_of kin hcd) (hbd _ _ _ _ ?_)
  refine wpAny_newFunctionEnv_cells S.kind ?_ fun env he s1 y => ?_
  · rintro ⟨n, v⟩ hy
    rcases S.par n (List.of_mem_zip hy).1 with q | q
    · exact .inl q
    · exact .inr ⟨q, PySem.W.cellsFrom_some _ _ _ (.inl q)⟩
  · subst he
    refine ⟨nol.keeps y.toInCall.keep, codeAny_func ?_⟩
    obtain ⟨t, ht, hq⟩ := hb cdv A outer s H vs Q E hg (hr.deeper _) hsp
    refine wpAny_mono (ht.nox.run [] s1 (start N vs) H _ (inv_start S hr.hd e0 l0 rv y) hq) (fun fl s' z => ?_) fun e s' z => z
    cases fl with
    | ret u =>
      obtain ⟨v, σ', H', J, r1, q⟩ := z
      exact ⟨v, H', J.os, J.bare, J.base, J.hok, r1, q⟩
    | next =>
      obtain ⟨σ', H', J, q⟩ := z
      exact ⟨V.non, H', J.os, J.bare, J.base, J.hok, rfl, q⟩
    | brk =>
      obtain ⟨_, _, _, q⟩ := z
      exact q.elim
    | cont =>
      obtain ⟨_, _, _, q⟩ := z
      exact q.elim
end
section
variable {X : Cx} {k : Nat} {f : Addr} {fd : FuncData} {ps : List Str} {sp : Sp} {x : Str} {p pos : Pos} {e : Expr} {es : List Expr} {t : TA}
theorem pe_callG (F : FnG X.prog X.w X.K X.mg X.base k f fd ps sp) (hA : X.A.guards = some []) (hr : Room k X.A) (hm : X.mg x = some (.ref f)) (hk : PySem.W.keepIn X.K (.ref f) = true) (hb : Binds X.K fd ps []) (ha : PA X (e :: es) t) (hg : Gl X x := by rfl)
    (hdb : (x == ("__debug__" : Str)) = false := by decide) (he : starEach (e :: es) X.env = (false, eval e X.env) :: starEach es X.env := by rfl) (hpl : (backTo pos (starEach es X.env)).any (·.1) = false := by rfl) :
    PE X (.Call (.Name x p) (e :: es) [] pos) (fun σ H Q => t σ H fun vs H1 => sp vs H1 Q E0) := by
  refine ⟨fun pins s σ H Q I h => ?_⟩
  refine wpAny_Call_Name_kw (ld_glob I hg hm ?_ hdb)
  refine PySem.W.callWith_K (h₀ := X.base) I.ok.mod.kin hk (thn (ha.run pos pins s σ H _ I h) fun us s1 hh => ?_) he hpl
  obtain ⟨vs, H1, I1, r, q⟩ := hh
  refine ⟨I1.kIn, ?_⟩
  have hl : (us ++ []).length = ps.length := by
    rw [List.append_nil, ← r.length]
    exact F.len _ _ _ _ q
  have hbd := hb s1 us I1.kIn hl
  rw [List.append_nil] at hbd
  refine wpAny_call (codeAny_mono (F.run X.A X.stack s1 H1 ⟨us, []⟩ us vs Q E0 hA hr I1.env0 hbd r q) fun rr s' hq => ?_)
  cases rr with
  | error er => exact hq.elim
  | ok fl =>
    cases fl with
    | ret u => exact I1.after hq
    | next => exact False.elim hq
    | brk => exact False.elim hq
    | cont => exact False.elim hq
end
end Vk
namespace DL
open PySem PySem.Spec PyProof.Rows L2
/-- a def of the module: what it does with data -/
structure DFn (P : Program) (w : World) (K : PySem.W.Frag) (mg : Str → Option Value) (base : Heap) (k : Nat) (x : Str) (ps : List Str) (F : GN) : Prop where
  ex : ∃ (f : Addr) (fd : FuncData), FnOk P w K mg base CX0 k f fd ps (spF K F) ∧ mg x = some (.ref f) ∧ PySem.W.keepIn K (.ref f) = true ∧ Binds K fd ps [] ∧ ∀ (s : Shared) (ws : List Value), ws.length = ps.length → BindsTo s fd ⟨[], ps.zip ws⟩ (ps.zip ws)
/-- a def of the module that knows that no repr runs -/
structure DGn (P : Program) (w : World) (K : PySem.W.Frag) (mg : Str → Option Value) (base : Heap) (k : Nat) (x : Str) (ps : List Str) (F : GN) : Prop where
  ex : ∃ (f : Addr) (fd : FuncData), Vk.FnG P w K mg base k f fd ps (spF K F) ∧ mg x = some (.ref f) ∧ PySem.W.keepIn K (.ref f) = true ∧ Binds K fd ps []
theorem DFn.mono {P : Program} {w : World} {K : PySem.W.Frag} {mg : Str → Option Value} {base : Heap} {j k : Nat} {x : Str} {ps : List Str} {F : GN} (h : DFn P w K mg base j x ps F) (l : j ≤ k) : DFn P w K mg base k x ps F :=
  let ⟨f, fd, h1, h2⟩ := h.ex; ⟨f, fd, h1.mono l, h2⟩
theorem FunD.bindsK {K : PySem.W.Frag} {x qual : Str} {params : Arguments} {body : List Stmt} {scope : Scope} {kws : List (Str × V)} {f : Addr} {fd : FuncData} {ps : List Str} (F : FunD K x qual params body scope [] kws f fd)
    (h : ∀ (kV doc pm : Value) (an : Option Addr) (cdv ct : Value) (us : List Value), us.length = ps.length → bindArgs (PySem.W.fnOf x qual params body scope .none kV doc pm an cdv ct) ⟨[], ps.zip us⟩ = pure (ps.zip us)) (s : Shared) (us : List Value) (hl : us.length = ps.length) : BindsTo s fd ⟨[], ps.zip us⟩ (ps.zip us) := by
  obtain ⟨oc, od, dV, kV, doc, pm, an, cdv, ct, osl, rfl, lk, hcd, hD, hK⟩ := F.ex
  rcases hD with ⟨_, rfl⟩ | ⟨e, _⟩
  · exact .of_eq (h kV doc pm an cdv ct us hl)
  · exact absurd rfl e
section
variable {P : Program} {w : World} {K : PySem.W.Frag} {mg : Str → Option Value} {base : Heap} {x qual : Str} {params : Arguments} {body : List Stmt} {scope : Scope} {dvs : List V} {kws : List (Str × V)} {f : Addr} {fd : FuncData}
theorem fnG_dat {N ps : List Str} {k : Nat} {b : SF} (F : FunD K x qual params body scope [] [] f fd) (S : FnScope N ps scope)
    (hb : ∀ (cdv : Value) (A : Around) (outer : List Env) (s : Shared) (H : Hp) (E : XK), A.guards = some [] → Room k (A.deeper (envOfC qual scope s.heap.objs.size f cdv)) → PSs (cxOf CX0 P w K mg base N qual scope f cdv A outer s H E).nox body (tS K b)) :
    Vk.FnG P w K mg base (k + 1) f fd ps (spF K (fDef ps.length N.length b)) :=
  Vk.fnG F S (fun vs H Q E h => (body_run (N := N) h).1) fun cdv A outer s H vs Q E hA hr h => ⟨tS K b, hb cdv A outer s H E hA hr, (body_run (N := N) h).2⟩
theorem dfn {N ps : List Str} {k : Nat} {b : SF} (F : FunD K x qual params body scope [] [] f fd) (hg : mg x = some (.ref f)) (S : FnScope N ps scope)
    (h1 : ∀ (kV doc pm : Value) (an : Option Addr) (cdv ct : Value) (us : List Value), us.length = ps.length → bindArgs (PySem.W.fnOf x qual params body scope .none kV doc pm an cdv ct) ⟨us, []⟩ = pure (ps.zip us))
    (h2 : ∀ (kV doc pm : Value) (an : Option Addr) (cdv ct : Value) (us : List Value), us.length = ps.length → bindArgs (PySem.W.fnOf x qual params body scope .none kV doc pm an cdv ct) ⟨[], ps.zip us⟩ = pure (ps.zip us))
    (hb : ∀ (cdv : Value) (A : Around) (outer : List Env) (s : Shared) (H : Hp) (E : XK), Room k (A.deeper (envOfC qual scope s.heap.objs.size f cdv)) → PSs (cxOf CX0 P w K mg base N qual scope f cdv A outer s H E).nox body (tS K b)) :
    DFn P w K mg base (k + 1) x ps (fDef ps.length N.length b) := ⟨f, fd, fn_dat F S hb, hg, F.kp, FunD.bindsN F h1, FunD.bindsK F h2⟩
/-- the same where the body knows the def's code object -/
theorem dfnC {N ps : List Str} {k : Nat} {b : SF} (F : FunD K x qual params body scope [] [] f fd) (hg : mg x = some (.ref f)) (hf : f = He.fAd K (x, none)) (S : FnScope N ps scope)
    (h1 : ∀ (kV doc pm : Value) (an : Option Addr) (cdv ct : Value) (us : List Value), us.length = ps.length → bindArgs (PySem.W.fnOf x qual params body scope .none kV doc pm an cdv ct) ⟨us, []⟩ = pure (ps.zip us))
    (h2 : ∀ (kV doc pm : Value) (an : Option Addr) (cdv ct : Value) (us : List Value), us.length = ps.length → bindArgs (PySem.W.fnOf x qual params body scope .none kV doc pm an cdv ct) ⟨[], ps.zip us⟩ = pure (ps.zip us))
    (hb : ∀ (A : Around) (outer : List Env) (s : Shared) (H : Hp) (E : XK), Room k (A.deeper (envOfC qual scope s.heap.objs.size f (.ref (codeA K x).1))) → PSs (cxOf CX0 P w K mg base N qual scope f (.ref (codeA K x).1) A outer s H E).nox body (tS K b)) :
    DFn P w K mg base (k + 1) x ps (fDef ps.length N.length b) := by
  refine ⟨f, fd, ?_, hg, F.kp, FunD.bindsN F h1, FunD.bindsK F h2⟩
  obtain ⟨oc, od, dV, kV, doc, pm, an, cdv, ct, osl, rfl, lk, hcd, _, _⟩ := F.ex
  obtain ⟨c, e⟩ := He.codeIn_ref hcd
  have e2 : cdv = .ref (codeA K x).1 := by
    rw [e]
    subst hf
    exact congrArg Value.ref (He.codeOf_eq lk e).symm
  subst e2
  exact fn_of lk hcd S (fun vs H Q E h => (body_run (N := N) h).1) fun A outer s H vs Q E hr h => ⟨tS K b, PSs.nox (hb A outer s H E hr), (body_run (N := N) h).2⟩
theorem dgn {N ps : List Str} {k : Nat} {b : SF} (F : FunD K x qual params body scope [] [] f fd) (hg : mg x = some (.ref f)) (S : FnScope N ps scope)
    (h1 : ∀ (kV doc pm : Value) (an : Option Addr) (cdv ct : Value) (us : List Value), us.length = ps.length → bindArgs (PySem.W.fnOf x qual params body scope .none kV doc pm an cdv ct) ⟨us, []⟩ = pure (ps.zip us))
    (hb : ∀ (cdv : Value) (A : Around) (outer : List Env) (s : Shared) (H : Hp) (E : XK), A.guards = some [] → Room k (A.deeper (envOfC qual scope s.heap.objs.size f cdv)) → PSs (cxOf CX0 P w K mg base N qual scope f cdv A outer s H E).nox body (tS K b)) :
    DGn P w K mg base (k + 1) x ps (fDef ps.length N.length b) := ⟨f, fd, fnG_dat F S hb, hg, F.kp, FunD.bindsN F h1⟩
end
section
variable {X : Cx} {j k : Nat} {F : GN} {x : Str} {ps : List Str} {p pos : Pos} {e : Expr} {es : List Expr} {fa : AF} {kws : List Keyword}
theorem de_callF (D : DFn X.prog X.w X.K X.mg X.base j x ps F) (hr : Room k X.A) (l : j ≤ k) (ha : PA X (e :: es) (tA X.K fa)) (hg : Gl X x := by rfl) (hdb : (x == ("__debug__" : Str)) = false := by decide)
    (he : starEach (e :: es) X.env = (false, eval e X.env) :: starEach es X.env := by rfl) (hpl : (backTo pos (starEach es X.env)).any (·.1) = false := by rfl) : PE X (.Call (.Name x p) (e :: es) [] pos) (tE X.K (fCB F fa)) := by
  obtain ⟨f, fd, h1, h2, h3, h4, h5⟩ := D.ex
  exact de_call (h1.mono l) hr hg h2 h3 h4 ha hdb he hpl
theorem de_callG (D : DGn X.prog X.w X.K X.mg X.base j x ps F) (hA : X.A.guards = some []) (hr : Room k X.A) (l : j ≤ k) (ha : PA X (e :: es) (tA X.K fa)) (hg : Gl X x := by rfl) (hdb : (x == ("__debug__" : Str)) = false := by decide)
    (he : starEach (e :: es) X.env = (false, eval e X.env) :: starEach es X.env := by rfl) (hpl : (backTo pos (starEach es X.env)).any (·.1) = false := by rfl) : PE X (.Call (.Name x p) (e :: es) [] pos) (tE X.K (fCB F fa)) := by
  obtain ⟨f, fd, h1, h2, h3, h4⟩ := D.ex
  refine (Vk.pe_callG (h1.mono l) hA hr h2 h3 h4 ha hg hdb he hpl).imp fun σ H Q h => ?_
  exact i_cb σ H Q h
/-- f(a = .., b = ..): all by name, in the parameters' order -/
theorem dk_nil : PK X [] (tA X.K fNil) := ⟨fun pos pins s σ H Q I ⟨α, ρ, μ, d, μ', S, R, e, k⟩ => by
  cases e
  exact pk_nil.run pos pins s σ H Q I (k H α [] Ext.refl S rfl)⟩
theorem dk_cons {fe : EF} {nm : Option Str} {kpos : Pos} (ha : PE X e (tE X.K fe)) (hr : PK X kws (tA X.K fa)) : PK X (⟨nm, e, kpos⟩ :: kws) (tA X.K (fCons fe fa)) := ⟨fun pos pins s σ H Q I h => by
  refine (pk_cons ha hr).run pos pins s σ H Q I ?_
  obtain ⟨α, ρ, μ, d, μ', S, R, e, k⟩ := h
  obtain ⟨⟨x, μ1⟩, e1, e2⟩ := Option.bind_eq_some_iff.mp e
  obtain ⟨⟨ys, μ2⟩, e3, e4⟩ := Option.bind_eq_some_iff.mp e2
  cases e4
  exact ⟨α, ρ, μ, x, μ1, S, R, e1, fun H1 α1 v E1 S1 r1 => ⟨α1, ρ, μ1, ys, μ2, S1, R.up E1, e3, fun H2 α2 vs E2 S2 r2 => k H2 α2 _ (E1.trans E2) S2 ⟨v, vs, rfl, r1.up E2, r2⟩⟩⟩⟩
theorem de_callK (D : DFn X.prog X.w X.K X.mg X.base j x ps F) (hr : Room k X.A) (l : j ≤ k) (ha : PK X kws (tA X.K fa)) (hg : Gl X x := by rfl) (hall : (backToKw pos (keywordEach kws X.env)).all (·.1.isSome) = true := by rfl) (hks : (backToKw pos (keywordEach kws X.env)).filterMap (·.1) = ps := by rfl)
    (hdb : (x == ("__debug__" : Str)) = false := by decide) (hpl : ((backTo pos (starEach [] X.env)).any (·.1) || (backToKw pos (keywordEach kws X.env)).any (·.1.isNone)) = false := by rfl) :
    PE X (.Call (.Name x p) [] kws pos) (tE X.K (fCB F fa)) := by
  obtain ⟨f, fd, h1, h2, h3, h4, h5⟩ := D.ex
  refine ⟨fun pins s σ H Q I h => ?_⟩
  have h' := i_cb σ H Q h
  refine wpAny_Call_Name_kw (ld_glob I hg h2 ?_ hdb)
  refine PySem.W.callWith_KW0 (h₀ := X.base) I.ok.mod.kin h3 hall ?_ hpl
  refine thn (ha.run pos pins s σ H _ I h') fun ws s2 ⟨zs, H2, I2, rz, q2⟩ => ⟨I2.kIn, ?_⟩
  rw [hks]
  have q3 : spF X.K F zs H2 Q E0 := q2
  have hl : ws.length = ps.length := by rw [← rz.length]; exact h1.len _ _ _ _ q3
  show wpAny _ _ (call (.ref f) ([] ++ []) (ps.zip ws)) _ _ _
  refine wpAny_call (codeAny_mono ((h1.mono l).run X.A X.stack s2 H2 ⟨[], ps.zip ws⟩ ws zs Q E0 hr I2.env0 (h5 s2 ws hl) rz q3) fun rr s' hq => ?_)
  cases rr with
  | error er => exact hq.elim
  | ok fl =>
    cases fl with
    | ret u => exact I2.after hq
    | next => exact False.elim hq
    | brk => exact False.elim hq
    | cont => exact False.elim hq
end
end DL
namespace DL
open PySem PySem.Spec PyProof.Rows L2
structure Cst (K : PySem.W.Frag) (mg : Str → Option Value) (x : Str) (d : D) : Prop where
  ex : ∃ (u : Value) (v : V), mg x = some u ∧ RelV v u ∧ ∀ H α, Rep K H α d v
section
variable {X : Cx} {x : Str} {d : D} {pos : Pos}
theorem de_cst (c : Cst X.K X.mg x d) (hg : Gl X x) (hd : (x == ("__debug__" : Str)) = false := by decide) : PE X (.Name x pos) (tE X.K (fC d)) := by
  obtain ⟨u, v, h1, h2, h3⟩ := c.ex
  exact de_con hg h1 h2 h3 hd
theorem dv (i : Nat) {x : Str} {pos : Pos} (hN : X.N[i]? = some x := by rfl) (hv : Vis X.env.scope x := by first | exact Or.inl rfl | exact Or.inr (Or.inl rfl) | exact Or.inr (Or.inr rfl)) (hd : (x == ("__debug__" : Str)) = false := by decide)
    (hcd : (x == ("__classdict__" : Str)) = false := by decide) : PE X (.Name x pos) (tE X.K (fVar i)) := de_var hN hv hd hcd
theorem _root_.L2.Room.units1 {k : Nat} {A : Around} (r : Room k A) : A.units + 1 < cLine := by have := r.units; omega
end
def keysOf : List (D × D) → Option (List (Key × D))
  | [] => some []
  | (k, d) :: r => match keyOf k, keysOf r with
    | some k, some r => some ((k, d) :: r)
    | _, _ => none
def mergeD (kvs more : List (Key × D)) : List (Key × D) := more.foldl (fun acc kv => putD acc kv.1 kv.2) kvs
section
variable {K : PySem.W.Frag}
theorem DicR.merge {H : Hp} {α : List Addr} : ∀ {m : List (Key × D)} {m' : List (Key × V)} {a : List (Key × D)} {a' : List (Key × V)}, DicR K H α m m' → DicR K H α a a' → DicR K H α (mergeD a m) (mergeK a' m')
  | [], m', a, a', h, q => by rw [h.nil_inv]; exact q
  | p :: m, m', a, a', h, q => by
    obtain ⟨v, r, rfl, r1, r2⟩ := h.inv
    exact DicR.merge (m := m) (m' := r) r2 (q.put r1)
theorem DicR.up {H H' : Hp} {α α' : List Addr} {kvs : List (Key × D)} {kv : List (Key × V)} (h : DicR K H α kvs kv) (E : Ext K H α H' α') : DicR K H' α' kvs kv := ⟨h.1, h.2.up E⟩
end
end DL
namespace DL
open PySem PySem.Spec PyProof.Rows L2
def Wp {α : Type} (x : Option α) (Q : α → Prop) : Prop := ∃ r, x = some r ∧ Q r
theorem Wp.some {α : Type} {a : α} {Q : α → Prop} : Wp (some a) Q = Q a := propext ⟨fun ⟨r, e, q⟩ => by cases e; exact q, fun q => ⟨a, rfl, q⟩⟩
theorem Wp.none {α : Type} {Q : α → Prop} : Wp none Q = False := propext ⟨fun ⟨r, e, q⟩ => (by cases e), False.elim⟩
theorem Wp.bind {α β : Type} {x : Option α} {f : α → Option β} {Q : β → Prop} : Wp (x.bind f) Q = Wp x fun a => Wp (f a) Q := propext
  ⟨fun ⟨r, e, q⟩ => let ⟨a, h1, h2⟩ := Option.bind_eq_some_iff.mp e; ⟨a, h1, r, h2, q⟩, fun ⟨a, h1, r, h2, q⟩ => ⟨r, Option.bind_eq_some_iff.mpr ⟨a, h1, h2⟩, q⟩⟩
theorem Wp.map {α β : Type} {x : Option α} {f : α → β} {Q : β → Prop} : Wp (x.map f) Q = Wp x fun a => Q (f a) := propext
  ⟨fun ⟨r, e, q⟩ => let ⟨a, h1, h2⟩ := Option.map_eq_some_iff.mp e; ⟨a, h1, by show Q (f a); rw [h2]; exact q⟩, fun ⟨a, h1, q⟩ => ⟨f a, Option.map_eq_some_iff.mpr ⟨a, h1, rfl⟩, q⟩⟩
theorem Wp.ite {α : Type} {c : Prop} [Decidable c] {x y : Option α} {Q : α → Prop} : Wp (if c then x else y) Q = ((c → Wp x Q) ∧ (¬ c → Wp y Q)) := by
  by_cases h : c
  · rw [if_pos h]; exact propext ⟨fun q => ⟨fun _ => q, fun n => (n h).elim⟩, fun q => q.1 h⟩
  · rw [if_neg h]; exact propext ⟨fun q => ⟨fun z => (h z).elim, fun _ => q⟩, fun q => q.2 h⟩
theorem Wp.body {α : Type} {x : Option α} {Q R : α → Prop} (h : ∀ p, Q p = R p) : Wp x Q = Wp x R := by
  have e : Q = R := funext h
  subst e
  rfl
theorem Wp.mono {α : Type} {x : Option α} {Q R : α → Prop} (h : Wp x Q) (k : ∀ a, Q a → R a) : Wp x R := let ⟨r, e, q⟩ := h; ⟨r, e, k r q⟩
theorem Wp.of {α : Type} {x : Option α} {a : α} {Q : α → Prop} (h : x = Option.some a) (q : Q a) : Wp x Q := ⟨a, h, q⟩
theorem fVar_eq {i : Nat} {ρ : Sl} {μ : Sto} {Q : D × Sto → Prop} : Wp (fVar i ρ μ) Q = Wp (ρ[i]?.bind id) fun d => Q (d, μ) := by
  unfold fVar
  cases h : ρ[i]? with
  | none => rw [show (Option.none : Option (Option D)).bind id = Option.none from rfl, Wp.none, Wp.none]
  | some o => cases o with
    | none => rw [show (Option.some (Option.none : Option D)).bind id = Option.none from rfl, Wp.none, Wp.none]
    | some d => rw [show (Option.some (Option.some d)).bind id = Option.some d from rfl, Wp.some, Wp.some]
theorem fDef_eq {n N : Nat} {b : SF} {ds : List D} {μ : Sto} {Q : D × Sto → Prop} : Wp (fDef n N b ds μ) Q = (ds.length = n ∧ Wp (b (ds.map Option.some ++ List.replicate (N - n) Option.none) μ) fun o => match o with
    | .rt d μ' => Q (d, μ')
    | .nx _ μ' => Q (.non, μ')
    | _ => False) := by
  unfold fDef
  by_cases h : ds.length = n
  · rw [if_pos h]
    cases e : b (ds.map Option.some ++ List.replicate (N - n) Option.none) μ with
    | none => rw [Wp.none, Wp.none]; exact propext ⟨False.elim, fun z => z.2⟩
    | some o => cases o with
      | nx ρ μ => rw [Wp.some, Wp.some]; exact propext ⟨fun q => ⟨h, q⟩, fun q => q.2⟩
      | rt d μ => rw [Wp.some, Wp.some]; exact propext ⟨fun q => ⟨h, q⟩, fun q => q.2⟩
      | bk ρ μ => rw [Wp.some, Wp.none]; exact propext ⟨False.elim, fun q => q.2⟩
      | ct ρ μ => rw [Wp.some, Wp.none]; exact propext ⟨False.elim, fun q => q.2⟩
  · rw [if_neg h, Wp.none]; exact propext ⟨False.elim, fun q => (h q.1).elim⟩
theorem ex_bl {b : Bool} {R : Bool → Prop} : (∃ c, D.bl b = D.bl c ∧ R c) = R b := propext ⟨fun ⟨c, e, r⟩ => by cases e; exact r, fun r => ⟨b, rfl, r⟩⟩
theorem fB_wp {f : EF} {ρ : Sl} {μ : Sto} {Q : Bool × Sto → Prop} : Wp (fB f ρ μ) Q = Wp (f ρ μ) fun p => ∃ c, p.1 = .bl c ∧ Q (c, p.2) := by
  unfold fB
  rw [Wp.bind]
  refine Wp.body fun p => ?_
  obtain ⟨d, m⟩ := p
  cases d with
  | bl b => simp only [Wp.some, ex_bl]
  | _ => exact propext ⟨fun ⟨_, e, _⟩ => (by cases e), fun ⟨_, e, _⟩ => (by cases e)⟩
theorem fAndV_wp {f g : EF} {ρ : Sl} {μ : Sto} {Q : D × Sto → Prop} : Wp (fAndV f g ρ μ) Q = Wp (f ρ μ) fun p => ∃ c, p.1 = .bl c ∧ (c = true → Wp (g ρ p.2) Q) ∧ (c = false → Q (.bl false, p.2)) := by
  unfold fAndV
  rw [Wp.bind]
  refine Wp.body fun p => ?_
  obtain ⟨d, m⟩ := p
  cases d with
  | bl b => rw [ex_bl]; cases b <;> simp [Wp.some]
  | _ => exact propext ⟨fun ⟨_, e, _⟩ => (by cases e), fun ⟨_, e, _⟩ => (by cases e)⟩
theorem fOrV_wp {f g : EF} {ρ : Sl} {μ : Sto} {Q : D × Sto → Prop} : Wp (fOrV f g ρ μ) Q = Wp (f ρ μ) fun p => ∃ c, p.1 = .bl c ∧ (c = false → Wp (g ρ p.2) Q) ∧ (c = true → Q (.bl true, p.2)) := by
  unfold fOrV
  rw [Wp.bind]
  refine Wp.body fun p => ?_
  obtain ⟨d, m⟩ := p
  cases d with
  | bl b => rw [ex_bl]; cases b <;> simp [Wp.some]
  | _ => exact propext ⟨fun ⟨_, e, _⟩ => (by cases e), fun ⟨_, e, _⟩ => (by cases e)⟩
theorem fNotV_wp {f : EF} {ρ : Sl} {μ : Sto} {Q : D × Sto → Prop} : Wp (fNotV f ρ μ) Q = Wp (f ρ μ) fun p => ∃ c, p.1 = .bl c ∧ Q (.bl !c, p.2) := by
  unfold fNotV
  rw [Wp.bind]
  refine Wp.body fun p => ?_
  obtain ⟨d, m⟩ := p
  cases d with
  | bl b => rw [ex_bl, Wp.some]
  | _ => exact propext ⟨fun ⟨_, e, _⟩ => (by cases e), fun ⟨_, e, _⟩ => (by cases e)⟩
theorem truD_bl {μ : Sto} {b : Bool} : truD μ (.bl b) = Option.some b := rfl
end DL
local macro_rules | `(tactic| simp_arith [$xs,*]) => `(tactic| simp only [↓DL.Wp.some, ↓DL.Wp.none, ↓DL.Wp.bind, ↓DL.Wp.map, ↓DL.Wp.ite, ↓DL.fVar_eq, ↓DL.fDef_eq, ↓DL.fBin, ↓DL.fUn, ↓DL.fNil, ↓DL.fCons, ↓DL.fTup, ↓DL.fLst, ↓DL.fDic, ↓DL.fCB, ↓DL.fNoPart, ↓DL.fPart, ↓DL.fSl, ↓DL.fB_wp, ↓DL.fT, ↓DL.fAnd, ↓DL.fOr, ↓DL.fNot, ↓DL.fAndV_wp, ↓DL.fOrV_wp, ↓DL.fNotV_wp, ↓DL.fIf, ↓DL.fML, ↓DL.fGet2, ↓DL.fC, ↓DL.fSkip, ↓DL.fSeq, ↓DL.fRet, ↓DL.fDrop, ↓DL.fIfS, ↓DL.fAsg, ↓DL.fPar, ↓DL.gNm, ↓DL.gSb, ↓DL.gNl, ↓DL.gCn, ↓DL.gTp, ↓DL.fFor, ↓DL.fWhile, List.length_cons, List.length_nil, List.map_cons, List.map_nil, List.replicate, List.cons_append, List.nil_append, List.append_nil, List.replicate_zero, List.getElem?_cons_zero, List.getElem?_cons_succ, List.set_cons_zero, List.set_cons_succ, Option.bind_some, Option.map_some, id, Nat.reduceAdd, Nat.reduceSub, Nat.reduceEqDiff, if_true, if_false, true_and, and_true, true_implies, eq_self, not_true_eq_false, false_implies, imp_self, implies_true, not_false_eq_true, decide_eq_true_eq, Bool.not_eq_true, decide_eq_false_iff_not, reduceCtorEq, Bool.not_false, Bool.not_true, DL.truD_bl, DL.ex_bl, ne_eq, Bool.not_eq_true', Bool.not_eq_false', Nat.zero_le, $xs,*])
namespace DL
open PySem PySem.Spec PyProof.Rows L2
def plainD (μ : Sto) : D → Bool
  | .tup ds => ds.all fun d => (kindD μ d).isSome
  | d => (kindD μ d).isSome
def fAllG (t : Nat) (x : Str) (p : D → Bool) (f : EF) : EF := fun ρ μ => (f ρ μ).bind fun q => match q.1, q.2[t]? with
  | .tup ds, some (.tab y) => if y = x ∧ ds.all (plainD q.2) = true then some (.bl (ds.all p), q.2) else none
  | _, _ => none
end DL
namespace DL
open PySem PySem.Spec PyProof.Rows L2
theorem mulOk_small {i j : Int} (h1 : i.natAbs < 18446744073709551616) (h2 : j.natAbs < 18446744073709551616) : mulOk i j = true := by
  have b : ∀ n : Nat, n < 2 ^ 64 → n.log2 < 65 := fun n h => by
    by_cases z : n = 0
    · subst z; decide
    · have := (Nat.log2_lt z).mpr h; omega
  have := b _ h1
  have := b _ h2
  unfold mulOk
  exact decide_eq_true (by omega)
theorem noPy {i j : Int} (h : j.natAbs < 1073741824) : Builtin.divisionGoesByPylong i j = false := PyProof.noPylong_small h
section
variable {α : Type} {xs : List α}
theorem atI_at (k : Nat) : atI xs (k : Int) = xs[k]? := by
  unfold atI ixN
  rw [if_pos (Int.natCast_nonneg k)]
  by_cases h : k < xs.length
  · rw [if_pos (Int.ofNat_lt.mpr h)]
    rfl
  · rw [if_neg (fun z => h (Int.ofNat_lt.mp z)), List.getElem?_eq_none (Nat.le_of_not_lt h)]
    rfl
theorem atI_0 : atI xs 0 = xs[0]? := atI_at 0
theorem atI_1 : atI xs 1 = xs[1]? := atI_at 1
theorem atI_2 : atI xs 2 = xs[2]? := atI_at 2
end
theorem ix3_0 : ixN 3 0 = some 0 := by decide
theorem ix3_1 : ixN 3 1 = some 1 := by decide
theorem ix3_2 : ixN 3 2 = some 2 := by decide
theorem lstAt_lst {μ : Sto} {n : Nat} {ds : List D} (h : μ[n]? = some (.lst ds)) : lstAt μ n = some ds := by unfold lstAt; rw [h]
end DL
namespace DL
open PySem PySem.Spec PyProof.Rows L2
end DL
namespace DL
open PySem PySem.Spec PyProof.Rows L2
/-- the turns of a walk over a tuple's places and items, each in a new pair -/
def ItE (K : PySem.W.Frag) (a : Addr) : It :=
  ⟨fun i H => ∃ (xs : List V) (x : V), SqT K H a xs ∧ xs[i]? = some x, fun i H v H' => ∃ T x, v = .ref T ∧ H T = none ∧ H' = upd H T (.tup [.int (i : Nat), x]) ∧ ∀ xs, SqT K H a xs → xs[i]? = some x, fun i H => ∃ xs : List V, SqT K H a xs ∧ xs.length ≤ i⟩
end DL
namespace DL
open PySem PySem.Spec PyProof.Rows L2
theorem _root_.L2.PS.none_of {X : Cx} {s : Stmt} {t : TS} (h : ∀ D σ H, ¬ t D σ H) : PS X s t := ⟨fun pins s σ H D I q => absurd q (h _ _ _)⟩
/-- a statement that is never reached -/
def fNever : SF := fun _ _ => none
theorem ds_never {X : Cx} {s : Stmt} : PS X s (tS X.K fNever) := PS.none_of fun D σ H ⟨_, _, _, _, _, _, e, _⟩ => by cases e
def opAddI : G2
  | .int i, .int j, μ => some (.int (i + j), μ)
  | _, _, _ => none
def opSubI : G2
  | .int i, .int j, μ => some (.int (i - j), μ)
  | _, _, _ => none
def fAug (i : Nat) (g : G2) (fe : EF) : SF := fun ρ μ => (ρ[i]?.bind id).bind fun x => (fe ρ μ).bind fun p => (g x p.1 p.2).bind fun q => some (.nx (ρ.set i (some q.1)) q.2)
section
variable {X : Cx}
theorem di_addI : PIp X .Add (rD X.K opAddI) := by
  rintro pins s σ H x y v u Q I r1 r2 ⟨α, μ, a, b, d, μ', S, ra, rb, e, k⟩
  cases a with
  | int i =>
    cases b with
    | int j => cases e; exact ip_add pins s σ H x y v u Q I r1 r2 ⟨i, j, ra, rb, kont_self k S rfl⟩
    | _ => cases e
  | _ => cases b <;> cases e
theorem di_subI : PIp X .Sub (rD X.K opSubI) := by
  rintro pins s σ H x y v u Q I r1 r2 ⟨α, μ, a, b, d, μ', S, ra, rb, e, k⟩
  cases a with
  | int i =>
    cases b with
    | int j => cases e; exact ip_sub pins s σ H x y v u Q I r1 r2 ⟨i, j, ra, rb, kont_self k S rfl⟩
    | _ => cases e
  | _ => cases b <;> cases e
theorem ds_aug {i : Nat} {x : Str} {e : Expr} {fe : EF} {op : Operator} {g : G2} {pos pos' : Pos} (nd : X.N.Nodup) (at_ : X.N[i]? = some x) (loc : Loc X.env.scope x) (pe : PE X e (tE X.K fe)) (ip : PIp X op (rD X.K g)) (hf : X.fn x = true ∨ X.env.scope.names.lookup x = some .local := by first | exact .inl rfl | exact .inr rfl | assumption) :
    PS X (.AugAssign (.Name x pos') op e pos) (tS X.K (fAug i g fe)) := by
  refine PS.imp (ps_aug nd at_ loc pe ip hf) ?_
  rintro D σ H ⟨α, ρ, μ, o, S, R, e0, k⟩
  obtain ⟨y, e1, e2⟩ := Option.bind_eq_some_iff.mp e0
  obtain ⟨⟨z, μ1⟩, e3, e4⟩ := Option.bind_eq_some_iff.mp e2
  obtain ⟨⟨q, μ2⟩, e5, e6⟩ := Option.bind_eq_some_iff.mp e4
  cases e6
  have e1' : ρ[i]? = some (some y) := by
    obtain ⟨o, h1, h2⟩ := Option.bind_eq_some_iff.mp e1
    cases (show o = some y from h2)
    exact h1
  obtain ⟨v, hv, rv⟩ := R.2 i y e1'
  refine ⟨v, hv, α, ρ, μ, z, μ1, S, R, e3, fun H1 α1 w E1 S1 r1 => ⟨α1, μ1, y, z, q, μ2, S1, rv.up E1, r1, e5, fun H2 α2 u E2 S2 r2 => ?_⟩⟩
  exact k H2 α2 _ (E1.trans E2) S2 ((R.up (E1.trans E2)).set r2 i)
end
end DL
set_option exponentiation.threshold 20000
namespace DL
open PySem PySem.Spec PyProof.Rows L2
def fChain (g g' : G2) (fa fb fc : EF) : EF := fun ρ μ => (fa ρ μ).bind fun a => (fb ρ a.2).bind fun b => (g a.1 b.1 b.2).bind fun r => match r.1 with
  | .bl true => (fc ρ r.2).bind fun c => g' b.1 c.1 c.2
  | .bl false => some (.bl false, r.2)
  | _ => none
section
variable {X : Cx} {a b c : Expr} {fa fb fc : EF} {g g' : G2} {op op' : CmpOp} {pos : Pos}
theorem i_chain {K : PySem.W.Frag} : ∀ σ H Q, tE K (fChain g g' fa fb fc) σ H Q → tChain (rD K g) (rD K g') (tE K fa) (tE K fb) (tE K fc) σ H Q := by
  rintro σ H Q ⟨α, ρ, μ, d, μ', S, R, e0, k⟩
  obtain ⟨⟨x, μ1⟩, e1, e2⟩ := Option.bind_eq_some_iff.mp e0
  obtain ⟨⟨y, μ2⟩, e3, e4⟩ := Option.bind_eq_some_iff.mp e2
  obtain ⟨⟨z, μ3⟩, e5, e6⟩ := Option.bind_eq_some_iff.mp e4
  refine ⟨α, ρ, μ, x, μ1, S, R, e1, fun H1 α1 v1 E1 S1 r1 => ⟨α1, ρ, μ1, y, μ2, S1, R.up E1, e3, fun H2 α2 v2 E2 S2 r2 => ⟨α2, μ2, x, y, z, μ3, S2, r1.up E2, r2, e5, fun H3 α3 v3 E3 S3 r3 => ?_⟩⟩⟩
  have E13 := E1.trans (E2.trans E3)
  cases z with
  | bl t =>
    cases (show v3 = _ from r3)
    refine ⟨t, rfl, ?_⟩
    cases t with
    | false => cases e6; exact k H3 α3 _ E13 S3 rfl
    | true =>
      obtain ⟨⟨w, μ4⟩, e7, e8⟩ := Option.bind_eq_some_iff.mp (show (fc ρ μ3).bind (fun c => g' y c.1 c.2) = some (d, μ') from e6)
      exact ⟨α3, ρ, μ3, w, μ4, S3, R.up E13, e7, fun H4 α4 v4 E4 S4 r4 => ⟨α4, μ4, y, w, d, μ', S4, r2.up (E3.trans E4), r4, e8, k.up (E13.trans E4)⟩⟩
  | _ => cases e6
theorem dt_chain (ho : OpR X (compareOp op) (rD X.K g)) (ho' : OpR X (compareOp op') (rD X.K g')) (ha : PE X a (tE X.K fa)) (hb : PE X b (tE X.K fb)) (hc : PE X c (tE X.K fc)) (hm : lastMarks [op, op'] [b, c] = false := by with_unfolding_all rfl) :
    PT X (.Compare a [op, op'] [b, c] pos) (tT X.K (fB (fChain g g' fa fb fc))) := by
  refine PT.imp (pt_chain ho ho' ha hb hc hm) ?_
  rintro σ H Q ⟨α, ρ, μ, t, μ2, S, R, e0, k⟩
  obtain ⟨⟨d, μ1⟩, e1, e2⟩ := Option.bind_eq_some_iff.mp e0
  cases d with
  | bl x =>
    cases e2
    exact i_chain σ H _ ⟨α, ρ, μ, _, _, S, R, e1, fun H1 α1 v E1 S1 r1 => ⟨_, r1, k H1 α1 E1 S1⟩⟩
  | _ => cases e2
end
def opAddX : G2
  | .loc m, .loc n, μ => match μ[m]?, μ[n]? with
    | some (.lst xs), some (.lst ys) => if xs.length + ys.length ≤ sizeLine then some (.loc μ.length, μ ++ [.lst (xs ++ ys)]) else none
    | _, _ => none
  | a, b, μ => opAdd a b μ
def opMulX : G2
  | .loc m, .int k, μ => match μ[m]? with
    | some (.lst xs) => if -(2 ^ 62) ≤ k ∧ k < 2 ^ 62 ∧ xs.length * k.toNat ≤ sizeLine then some (.loc μ.length, μ ++ [.lst (List.replicate k.toNat xs).flatten]) else none
    | _ => none
  | a, b, μ => opMul a b μ
theorem Reps.flat {K : PySem.W.Frag} {H : Hp} {α : List Addr} {ds : List D} {xs : List V} (r : Reps K H α ds xs) : ∀ n : Nat, Reps K H α (List.replicate n ds).flatten (List.replicate n xs).flatten
  | 0 => rfl
  | n + 1 => by
    rw [List.replicate_succ, List.replicate_succ, List.flatten_cons, List.flatten_cons]
    exact r.append (Reps.flat r n)
section
variable {X : Cx}
theorem do_addX : OpR X (binaryOp .Add) (rD X.K opAddX) := by
  intro pins s σ H x y v u Q I rx ry h
  obtain ⟨α, μ, a, b, d, μ', S, ra, rb, e, k⟩ := h
  by_cases c : ∃ m n, a = .loc m ∧ b = .loc n
  · obtain ⟨m, n, rfl, rfl⟩ := c
    unfold opAddX at e
    simp only at e
    split at e
    · rename_i xs ys e1 e2
      split at e
      · rename_i hz
        cases e
        obtain ⟨p, rfl, hp⟩ := ra
        obtain ⟨q, rfl, hq⟩ := rb
        obtain ⟨as, ha, r1⟩ := S.ob _ _ _ hp e1
        obtain ⟨bs, hb, r2⟩ := S.ob _ _ _ hq e2
        exact op_cat pins s σ H _ _ v u Q I rx ry ⟨p, q, as, bs, rfl, rfl, ha, hb, by rw [← r1.length, ← r2.length]; exact hz, k.lst S (r1.append r2)⟩
      · cases e
    · cases e
  · have e' : opAdd a b μ = some (d, μ') := by
      unfold opAddX at e
      split at e
      · exact absurd ⟨_, _, rfl, rfl⟩ c
      · exact e
    exact do_add pins s σ H x y v u Q I rx ry ⟨α, μ, a, b, d, μ', S, ra, rb, e', k⟩
theorem do_mulX : OpR X (binaryOp .Mult) (rD X.K opMulX) := by
  intro pins s σ H x y v u Q I rx ry h
  obtain ⟨α, μ, a, b, d, μ', S, ra, rb, e, k⟩ := h
  by_cases c : ∃ m n, a = .loc m ∧ b = .int n
  · obtain ⟨m, n, rfl, rfl⟩ := c
    unfold opMulX at e
    simp only at e
    split at e
    · rename_i xs e1
      split at e
      · rename_i hz
        cases e
        obtain ⟨p, rfl, hp⟩ := ra
        cases (show y = V.int n from rb)
        obtain ⟨as, ha, r1⟩ := S.ob _ _ _ hp e1
        exact op_rep pins s σ H _ _ v u Q I rx ry ⟨p, n, as, rfl, rfl, ha, by omega, by omega, by rw [← r1.length]; exact hz.2.2, k.lst S (r1.flat _)⟩
      · cases e
    · cases e
  · have e' : opMul a b μ = some (d, μ') := by
      unfold opMulX at e
      split at e
      · exact absurd ⟨_, _, rfl, rfl⟩ c
      · exact e
    exact do_mul pins s σ H x y v u Q I rx ry ⟨α, μ, a, b, d, μ', S, ra, rb, e', k⟩
end
def cSum : GN
  | [.loc n], μ => ((lstAt μ n).bind intsOf).map fun ns => (.int ns.sum, μ)
  | _, _ => none
def cLcm : GN
  | [.int a, .int b], μ => if a.natAbs.log2 < 4000 ∧ b.natAbs.log2 < 4000 then some (.int ((Nat.lcm a.natAbs b.natAbs : Nat) : Int), μ) else none
  | _, _ => none
theorem cLcm_some {ds : List D} {d : D} {μ μ' : Sto} (e : cLcm ds μ = some (d, μ')) : ∃ a b : Int, ds = [.int a, .int b] ∧ (a.natAbs.log2 < 4000 ∧ b.natAbs.log2 < 4000) ∧ d = .int ((Nat.lcm a.natAbs b.natAbs : Nat) : Int) ∧ μ' = μ := by
  unfold cLcm at e
  split at e
  · split at e
    · rename_i hz
      cases e
      exact ⟨_, _, rfl, hz, rfl, rfl⟩
    · cases e
  · cases e
section
variable {X : Cx}
theorem dc_sum (hc : X.calm = true) : CallR X (.builtin "sum") (cD X.K cSum) := by
  refine (cr_sum hc).imp ?_
  rintro xs H Q ⟨α, μ, ds, d, μ', S, r, e, k⟩
  unfold cSum at e
  split at e
  · obtain ⟨ns, e1, e2⟩ := Option.map_eq_some_iff.mp e
    cases e2
    obtain ⟨es, e3, e4⟩ := Option.bind_eq_some_iff.mp e1
    cases intsOf_map e4
    obtain ⟨v, _, rfl, ⟨p, rfl, hp⟩, h2⟩ := r
    cases (show _ = _ from h2)
    obtain ⟨ys, sq, rr⟩ := S.sqlA e3 hp
    rw [rr.ints] at sq
    exact ⟨p, ns, rfl, sq, kont_self k S rfl⟩
  · cases e
theorem dc_lcm : CallR X (.builtin "math.lcm") (cD X.K cLcm) := by
  intro pins s σ H vs us Q I r h
  obtain ⟨α, μ, ds, d, μ', S, rs, e, k⟩ := h
  obtain ⟨a, b, rfl, hz, rfl, rfl⟩ := cLcm_some e
  clear e
  obtain ⟨v, _, rfl, h1, w, _, rfl, h2, h3⟩ := rs
  cases (show v = _ from h1); cases (show w = _ from h2); cases (show _ = _ from h3)
  obtain ⟨t, u, rfl⟩ := Vals.int2 r
  have e1 : Nat.lcm 1 a.natAbs = a.natAbs := by simp [Nat.lcm]
  have lg : ∀ x y : Nat, x.log2 < 4000 → y.log2 < 4000 → (max x y).log2 < 4000 := fun x y hx hy => by
    rcases Nat.le_total x y with l | l
    · rw [Nat.max_eq_right l]; exact hy
    · rw [Nat.max_eq_left l]; exact hx
  have b1 := lg 1 a.natAbs (by decide) hz.1
  have b2 := lg _ _ hz.1 hz.2
  have lt : ∀ x : Nat, x.log2 < 4000 → x < 2 ^ 4000 := fun x hx => by
    by_cases z : x = 0
    · rw [z]; exact Nat.two_pow_pos 4000
    · exact (Nat.log2_lt z).mp hx
  have sz : ((Nat.lcm a.natAbs b.natAbs : Nat) : Int).natAbs.log2 < bitsLine := by
    have le : Nat.lcm a.natAbs b.natAbs ≤ a.natAbs * b.natAbs := Nat.div_le_self _ _
    have m : Nat.lcm a.natAbs b.natAbs < 2 ^ 8000 := Nat.lt_of_le_of_lt le (by
      have := Nat.mul_lt_mul'' (lt _ hz.1) (lt _ hz.2)
      rw [← Nat.pow_add] at this
      exact this)
    have : Nat.lcm a.natAbs b.natAbs = 0 ∨ (Nat.lcm a.natAbs b.natAbs).log2 < 8000 := by
      by_cases z : Nat.lcm a.natAbs b.natAbs = 0
      · exact .inl z
      · exact .inr ((Nat.log2_lt z).mpr m)
    show (Nat.lcm a.natAbs b.natAbs).log2 < 2 ^ 27
    rcases this with z | z
    · rw [z]; decide
    · exact Nat.lt_trans z (by decide)
  have g := PySem.W.mg_run_lcm a t b u (by omega) (by omega) (by rw [e1]; exact sz)
  rw [e1] at g
  exact call_function_meets PySem.W.MGF.kind_lcm PySem.W.MGF.plain_lcm PySem.W.MGF.entry_lcm (PySem.W.MGF.args_lcm _ _) g.meets ⟨.int _, H, I.tok _, ⟨_, rfl⟩, kont_self k S rfl⟩
end
end DL
namespace DL
open PySem PySem.Spec PyProof.Rows L2
def ItK (K : PySem.W.Frag) (a : Addr) (k : Int) : It :=
  ⟨fun i H => ∃ (xs : List V) (x : V), SqL K H a xs ∧ xs[i]? = some x, fun i H v H' => ∃ T x, v = .ref T ∧ H T = none ∧ H' = upd H T (.tup [.int (k + (i : Nat)), x]) ∧ ∀ xs, SqL K H a xs → xs[i]? = some x, fun i H => ∃ xs : List V, SqL K H a xs ∧ xs.length ≤ i⟩
end DL
namespace DL
open PySem PySem.Spec PyProof.Rows L2
inductive ItN where
  | old (it : ItD) | enuT (ds : List D) | enuL (n : Nat) | enuK (k : Int) (n : Nat) | zipT (ds es : List D) | zipL (m n : Nat) | key (n : Nat) | stp (lo c : Int) (n : Nat)
abbrev IN := Sl → Sto → Option (ItN × Sto)
def ItRN (K : PySem.W.Frag) (H : Hp) (α : List Addr) (it : ItN) (J : It) : Prop := match it with
  | .old it => ItR K H α it J
  | .enuT ds => ∃ a xs, J = ItE K a ∧ SqT K H a xs ∧ Reps K H α ds xs
  | .enuL n => ∃ a, J = Ite K a ∧ α[n]? = some a
  | .enuK k n => ∃ a, J = ItK K a k ∧ α[n]? = some a
  | .zipT ds es => ∃ a b xs ys, J = RZ.ItzT K a b ∧ SqT K H a xs ∧ Reps K H α ds xs ∧ SqT K H b ys ∧ Reps K H α es ys
  | .zipL m n => ∃ a b, J = Itz K a b ∧ α[m]? = some a ∧ α[n]? = some b
  | .key n => ∃ a o kv, J = Itk a o kv ∧ α[n]? = some a ∧ H a = some (.frz o (.dK kv))
  | .stp lo c n => J = Itc lo c n
theorem ItRN.up {K : PySem.W.Frag} {H H' : Hp} {α α' : List Addr} {it : ItN} {J : It} (h : ItRN K H α it J) (E : Ext K H α H' α') : ItRN K H' α' it J := by
  have g : ∀ {n : Nat} {a : Addr}, α[n]? = some a → α'[n]? = some a := fun q => let ⟨_, p⟩ := E.pre; pre_get p q
  cases it with
  | old it => exact ItR.up (it := it) h E
  | enuT ds => obtain ⟨a, xs, e, q, r⟩ := h; exact ⟨a, xs, e, E.tup _ _ q, r.up E⟩
  | enuL n => obtain ⟨a, e, q⟩ := h; exact ⟨a, e, g q⟩
  | enuK k n => obtain ⟨a, e, q⟩ := h; exact ⟨a, e, g q⟩
  | zipT ds es => obtain ⟨a, b, xs, ys, e, q, r, q', r'⟩ := h; exact ⟨a, b, xs, ys, e, E.tup _ _ q, r.up E, E.tup _ _ q', r'.up E⟩
  | zipL m n => obtain ⟨a, b, e, q, q'⟩ := h; exact ⟨a, b, e, g q, g q'⟩
  | key n => obtain ⟨a, o, kv, e, q, q'⟩ := h; exact ⟨a, o, kv, e, g q, E.frz _ _ _ q'⟩
  | stp lo c n => exact h
def tIN (K : PySem.W.Frag) (f : IN) : TI := fun σ H R => ∃ α ρ μ it μ', RepS K H α μ ∧ RepR K H α ρ σ ∧ f ρ μ = some (it, μ') ∧ ∀ H' α' J, Ext K H α H' α' → RepS K H' α' μ' → ItRN K H' α' it J → R J H'
def pairAt (ds es : List D) (i : Nat) : Option D := ds[i]?.bind fun x => es[i]?.map fun y => .tup [x, y]
/-- the locked dict at n -/
def dfzAt (μ : Sto) (n : Nat) : Option (List (Key × D)) := match μ[n]? with
  | some (.dfz kvs) => some kvs
  | _ => none
def itAtN (it : ItN) (i : Nat) (μ : Sto) : Option (Option D) := match it with
  | .old it => itAt it i μ
  | .enuT ds => some (ds[i]?.map fun d => .tup [.int (i : Nat), d])
  | .enuL n => (lstAt μ n).map fun ds => ds[i]?.map fun d => .tup [.int (i : Nat), d]
  | .enuK k n => (lstAt μ n).map fun ds => ds[i]?.map fun d => .tup [.int (k + (i : Nat)), d]
  | .zipT ds es => some (pairAt ds es i)
  | .zipL m n => (lstAt μ m).bind fun ds => (lstAt μ n).map fun es => pairAt ds es i
  | .key n => (dfzAt μ n).map fun kvs => kvs[i]?.map fun kv => keyD kv.1
  | .stp lo c n => some (if i < n then some (.int (lo + (i : Nat) * c)) else none)
def itLenN (it : ItN) (μ : Sto) : Nat := match it with
  | .old it => itLen it μ
  | .enuT ds => ds.length
  | .enuL n => ((lstAt μ n).getD []).length
  | .enuK _ n => ((lstAt μ n).getD []).length
  | .zipT ds _ => ds.length
  | .zipL m _ => ((lstAt μ m).getD []).length
  | .key n => ((dfzAt μ n).getD []).length
  | .stp _ _ n => n
section
variable {K : PySem.W.Frag} {H : Hp} {α : List Addr} {μ : Sto} {it : ItN} {J : It} {i : Nat}
theorem pair_none {ds es : List D} (h : pairAt ds es i = none) : ds.length ≤ i ∨ es.length ≤ i := by
  unfold pairAt at h
  cases h1 : ds[i]? with
  | none => exact .inl (List.getElem?_eq_none_iff.mp h1)
  | some x =>
    rw [h1] at h
    cases h2 : es[i]? with
    | none => exact .inr (List.getElem?_eq_none_iff.mp h2)
    | some y => rw [h2] at h; cases h
theorem pair_some {ds es : List D} {d : D} (h : pairAt ds es i = some d) : ∃ x y, ds[i]? = some x ∧ es[i]? = some y ∧ d = .tup [x, y] := by
  unfold pairAt at h
  obtain ⟨x, h1, h2⟩ := Option.bind_eq_some_iff.mp h
  obtain ⟨y, h3, rfl⟩ := Option.map_eq_some_iff.mp h2
  exact ⟨x, y, h1, h3, rfl⟩
theorem RepS.dfz {n : Nat} {a : Addr} {kvs : List (Key × D)} (S : RepS K H α μ) (h : dfzAt μ n = some kvs) (e : α[n]? = some a) : ∃ o kv, H a = some (.frz o (.dK kv)) ∧ kvs.map (·.1) = kv.map (·.1) ∧ Reps K H α (kvs.map (·.2)) (kv.map (·.2)) := by
  unfold dfzAt at h
  split at h
  · rename_i k q
    cases h
    exact S.ob _ _ _ e q
  · cases h
theorem it_stopN (h : ItRN K H α it J) (S : RepS K H α μ) (e : itAtN it i μ = some none) : J.stop i H := by
  cases it with
  | old it => exact it_stop (it := it) h S e
  | enuT ds =>
    obtain ⟨a, xs, rfl, q, r⟩ := h
    exact ⟨xs, q, by rw [← r.length]; exact List.getElem?_eq_none_iff.mp (by simpa [itAtN] using e)⟩
  | enuL n =>
    obtain ⟨a, rfl, q⟩ := h
    obtain ⟨ds, e1, e2⟩ := Option.map_eq_some_iff.mp e
    obtain ⟨xs, s, r⟩ := S.sqlA e1 q
    exact ⟨xs, s, by rw [← r.length]; exact List.getElem?_eq_none_iff.mp (by simpa using e2)⟩
  | enuK k n =>
    obtain ⟨a, rfl, q⟩ := h
    obtain ⟨ds, e1, e2⟩ := Option.map_eq_some_iff.mp e
    obtain ⟨xs, s, r⟩ := S.sqlA e1 q
    exact ⟨xs, s, by rw [← r.length]; exact List.getElem?_eq_none_iff.mp (by simpa using e2)⟩
  | zipT ds es =>
    obtain ⟨a, b, xs, ys, rfl, q, r, q', r'⟩ := h
    have z := pair_none (Option.some.inj e)
    exact ⟨xs, ys, q, q', by rw [← r.length, ← r'.length]; exact z⟩
  | zipL m n =>
    obtain ⟨a, b, rfl, q, q'⟩ := h
    obtain ⟨ds, e1, e2⟩ := Option.bind_eq_some_iff.mp e
    obtain ⟨es, e3, e4⟩ := Option.map_eq_some_iff.mp e2
    obtain ⟨xs, s, r⟩ := S.sqlA e1 q
    obtain ⟨ys, s', r'⟩ := S.sqlA e3 q'
    have z := pair_none e4
    exact ⟨xs, ys, s, s', by rw [← r.length, ← r'.length]; exact z⟩
  | key n =>
    obtain ⟨a, o, kv, rfl, q, hf⟩ := h
    obtain ⟨kvs, e1, e2⟩ := Option.map_eq_some_iff.mp e
    obtain ⟨o', kv', hf', ek, _⟩ := S.dfz e1 q
    rw [hf] at hf'
    cases hf'
    refine ⟨hf, ?_⟩
    have l : kvs.length = kv.length := by simpa using congrArg List.length ek
    rw [← l]
    exact List.getElem?_eq_none_iff.mp (by simpa using e2)
  | stp lo c n =>
    cases (show J = _ from h)
    simp only [itAtN, Option.some.injEq] at e
    split at e
    · cases e
    · show n ≤ i
      omega
/-- what a turn gives: perhaps in a heap with one new pair -/
abbrev Yld (K : PySem.W.Frag) (H : Hp) (α : List Addr) (μ : Sto) (d : D) (x : V) (H' : Hp) : Prop := Ext K H α H' α ∧ RepS K H' α μ ∧ Rep K H' α d x
theorem yld_pair (S : RepS K H α μ) {T : Addr} {d e : D} {x y : V} (hT : H T = none) (r1 : Rep K H α d x) (r2 : Rep K H α e y) : Yld K H α μ (.tup [d, e]) (.ref T) (upd H T (.tup [x, y])) := by
  have E : Ext K H α (upd H T (.tup [x, y])) α := ext_tup α hT
  exact ⟨E, S.tup hT, T, [x, y], rfl, SqT.of upd_same, x, [y], rfl, r1.up E, y, [], rfl, r2.up E, rfl⟩
theorem it_goN (h : ItRN K H α it J) (S : RepS K H α μ) {d : D} (e : itAtN it i μ = some (some d)) : J.go i H ∧ ∀ x H', J.yld i H x H' → Yld K H α μ d x H' := by
  cases it with
  | old it =>
    obtain ⟨g1, g2⟩ := it_go (it := it) h S e
    exact ⟨g1, fun x H' y => by
      obtain ⟨rfl, r⟩ := g2 x H' y
      exact ⟨Ext.refl, S, r⟩⟩
  | enuT ds =>
    obtain ⟨a, xs, rfl, q, r⟩ := h
    obtain ⟨d', h1, rfl⟩ := Option.map_eq_some_iff.mp (Option.some.inj e)
    obtain ⟨v, h2, h3⟩ := r.get h1
    refine ⟨⟨xs, v, q, h2⟩, fun x H' y => ?_⟩
    obtain ⟨T, x', rfl, hT, rfl, hy⟩ := y
    have := hy xs q
    rw [h2] at this
    cases this
    exact yld_pair S hT rfl h3
  | enuL n =>
    obtain ⟨a, rfl, q⟩ := h
    obtain ⟨ds, e1, e2⟩ := Option.map_eq_some_iff.mp e
    obtain ⟨d', h1, rfl⟩ := Option.map_eq_some_iff.mp e2
    obtain ⟨xs, s, r⟩ := S.sqlA e1 q
    obtain ⟨v, h2, h3⟩ := r.get h1
    refine ⟨⟨xs, v, s, h2⟩, fun x H' y => ?_⟩
    obtain ⟨T, x', rfl, hT, rfl, hy⟩ := y
    have := hy xs s
    rw [h2] at this
    cases this
    exact yld_pair S hT rfl h3
  | enuK k n =>
    obtain ⟨a, rfl, q⟩ := h
    obtain ⟨ds, e1, e2⟩ := Option.map_eq_some_iff.mp e
    obtain ⟨d', h1, rfl⟩ := Option.map_eq_some_iff.mp e2
    obtain ⟨xs, s, r⟩ := S.sqlA e1 q
    obtain ⟨v, h2, h3⟩ := r.get h1
    refine ⟨⟨xs, v, s, h2⟩, fun x H' y => ?_⟩
    obtain ⟨T, x', rfl, hT, rfl, hy⟩ := y
    have := hy xs s
    rw [h2] at this
    cases this
    exact yld_pair S hT rfl h3
  | zipT ds es =>
    obtain ⟨a, b, xs, ys, rfl, q, r, q', r'⟩ := h
    obtain ⟨x1, y1, h1, h2, rfl⟩ := pair_some (Option.some.inj e)
    obtain ⟨v, h3, h4⟩ := r.get h1
    obtain ⟨w, h5, h6⟩ := r'.get h2
    refine ⟨⟨xs, ys, v, w, q, q', h3, h5⟩, fun x H' y => ?_⟩
    obtain ⟨T, x', y', rfl, hT, rfl, hx, hy⟩ := y
    have z1 := hx xs q
    have z2 := hy ys q'
    rw [h3] at z1
    rw [h5] at z2
    cases z1
    cases z2
    exact yld_pair S hT h4 h6
  | zipL m n =>
    obtain ⟨a, b, rfl, q, q'⟩ := h
    obtain ⟨ds, e1, e2⟩ := Option.bind_eq_some_iff.mp e
    obtain ⟨es, e3, e4⟩ := Option.map_eq_some_iff.mp e2
    obtain ⟨xs, s, r⟩ := S.sqlA e1 q
    obtain ⟨ys, s', r'⟩ := S.sqlA e3 q'
    obtain ⟨x1, y1, h1, h2, rfl⟩ := pair_some e4
    obtain ⟨v, h3, h4⟩ := r.get h1
    obtain ⟨w, h5, h6⟩ := r'.get h2
    refine ⟨⟨xs, ys, v, w, s, s', h3, h5⟩, fun x H' y => ?_⟩
    obtain ⟨T, x', y', rfl, hT, rfl, hx, hy⟩ := y
    have z1 := hx xs s
    have z2 := hy ys s'
    rw [h3] at z1
    rw [h5] at z2
    cases z1
    cases z2
    exact yld_pair S hT h4 h6
  | key n =>
    obtain ⟨a, o, kv, rfl, q, hf⟩ := h
    obtain ⟨kvs, e1, e2⟩ := Option.map_eq_some_iff.mp e
    obtain ⟨o', kv', hf', ek, _⟩ := S.dfz e1 q
    rw [hf] at hf'
    cases hf'
    obtain ⟨p, h1, rfl⟩ := Option.map_eq_some_iff.mp e2
    have l : kvs.length = kv.length := by simpa using congrArg List.length ek
    refine ⟨⟨hf, by rw [← l]; exact (List.getElem?_eq_some_iff.mp h1).1⟩, fun x H' y => ?_⟩
    obtain ⟨rfl, k, v, hk, rfl⟩ := y
    refine ⟨Ext.refl, S, ?_⟩
    have e3 : (kvs.map (·.1))[i]? = (kv.map (·.1))[i]? := by rw [ek]
    rw [List.getElem?_map, List.getElem?_map, h1, hk] at e3
    have e4 : p.1 = k := by simpa using e3
    rw [e4]
    cases k with
    | inl i => rfl
    | inr x => rfl
  | stp lo c n =>
    cases (show J = _ from h)
    simp only [itAtN, Option.some.injEq] at e
    split at e
    · rename_i hl
      cases e
      refine ⟨hl, fun x H' y => ?_⟩
      obtain ⟨rfl, rfl⟩ := y
      exact ⟨Ext.refl, S, rfl⟩
    · cases e
end
def loopN (g : GF) (b : SF) (it : ItN) : Nat → Nat → Sl → Sto → Option Out
  | 0, i, ρ, μ => match itAtN it i μ with
    | some none => some (.nx ρ μ)
    | _ => none
  | m + 1, i, ρ, μ => match itAtN it i μ with
    | some none => some (.nx ρ μ)
    | some (some d) => (g d ρ μ).bind fun p => (b p.1 p.2).bind fun o => match o with
      | .nx ρ2 μ2 => loopN g b it m (i + 1) ρ2 μ2
      | .ct ρ2 μ2 => loopN g b it m (i + 1) ρ2 μ2
      | .bk ρ2 μ2 => some (.nx ρ2 μ2)
      | .rt d μ2 => some (.rt d μ2)
    | none => none
def fForN (f : IN) (g : GF) (b : SF) : SF := fun ρ μ => (f ρ μ).bind fun p => loopN g b p.1 (itLenN p.1 p.2) 0 ρ p.2
theorem ds_forN {X : Cx} {pos : Pos} {iter tg : Expr} {body : List Stmt} {fi : IN} {g : GF} {b : SF} (hp : PassesOwn (model X.prog X.w) X.A X.env X.xe) (cal : X.calm = true) (pi : PI X tg iter (tIN X.K fi)) (pg : PG X tg (tG X.K g)) (pb : PSs X body (tS X.K b))
    (hs : ∀ x, foldedSetIterable iter X.env x = pure x := by intro _; rfl) : PS X (.For tg iter body [] pos) (tS X.K (fForN fi g b)) := by
  refine PS.imp (ps_for hp cal pi pg pb hs) ?_
  rintro D σ H ⟨α, ρ, μ, o, S, R, e, k⟩
  obtain ⟨⟨it, μ1⟩, e1, e2⟩ := Option.bind_eq_some_iff.mp e
  refine ⟨α, ρ, μ, it, μ1, S, R, e1, fun H1 α1 J E1 S1 h1 => ?_⟩
  refine ⟨fun i m σ H => ∃ α ρ μ o, RepS X.K H α μ ∧ RepR X.K H α ρ σ ∧ ItRN X.K H α it J ∧ loopN g b it m i ρ μ = some o ∧ OutK X.K H α o D, ⟨_, α1, ρ, μ1, o, S1, R.up E1, h1, e2, k.up E1⟩, ?_⟩
  rintro i m σ2 H2 ⟨α2, ρ2, μ2, o2, S2, R2, h2, e3, k2⟩
  cases m with
  | zero =>
    unfold loopN at e3
    split at e3
    · rename_i q
      cases e3
      exact .inl ⟨it_stopN h2 S2 q, k2 H2 α2 σ2 Ext.refl S2 R2⟩
    · cases e3
  | succ m =>
    unfold loopN at e3
    split at e3
    · rename_i q
      cases e3
      exact .inl ⟨it_stopN h2 S2 q, k2 H2 α2 σ2 Ext.refl S2 R2⟩
    · rename_i d q
      obtain ⟨g1, g2⟩ := it_goN h2 S2 q
      obtain ⟨⟨ρ3, μ3⟩, e4, e5⟩ := Option.bind_eq_some_iff.mp e3
      obtain ⟨o3, e6, e7⟩ := Option.bind_eq_some_iff.mp e5
      refine .inr ⟨g1, fun σ H => ∃ α ρ μ o, RepS X.K H α μ ∧ RepR X.K H α ρ σ ∧ ItRN X.K H α it J ∧ loopN g b it m (i + 1) ρ μ = some o ∧ OutK X.K H α o D, fun σ' H' n => ⟨m, Nat.lt_succ_self m, n⟩, fun x H' y => ?_⟩
      obtain ⟨E0, S0, rx⟩ := g2 x H' y
      refine ⟨α2, ρ2, μ2, d, ρ3, μ3, S0, R2.up E0, rx, e4, fun H3 α3 σ3 E3 S3 R3 => ⟨α3, ρ3, μ3, o3, S3, R3, e6, ?_⟩⟩
      have EE := E0.trans E3
      cases o3 with
      | nx ρ4 μ4 => exact fun H4 α4 σ4 E4 S4 R4 => ⟨α4, ρ4, μ4, o2, S4, R4, h2.up (EE.trans E4), e7, k2.up (EE.trans E4)⟩
      | ct ρ4 μ4 => exact fun H4 α4 σ4 E4 S4 R4 => ⟨α4, ρ4, μ4, o2, S4, R4, h2.up (EE.trans E4), e7, k2.up (EE.trans E4)⟩
      | bk ρ4 μ4 => cases e7; exact Ahd.up k2 EE
      | rt d4 μ4 => cases e7; exact Kont.up k2 EE
    · cases e3
def lcN (g : GF) (ft : TF) (fe : EF) (it : ItN) (n : Nat) (ρ : Sl) : Nat → Nat → Sto → Option Sto
  | 0, i, μ => match itAtN it i μ with
    | some none => some μ
    | _ => none
  | m + 1, i, μ => match itAtN it i μ with
    | some none => some μ
    | some (some d) => (g d ρ μ).bind fun p => (ft p.1 p.2).bind fun q => if q.1 = true then (fe p.1 q.2).bind fun r => match r.2[n]? with
        | some (.lst acc) => if acc.length < sizeLine then lcN g ft fe it n ρ m (i + 1) (r.2.set n (.lst (acc ++ [r.1]))) else none
        | _ => none
      else lcN g ft fe it n ρ m (i + 1) q.2
    | none => none
def fLcN (fi : IN) (g : GF) (ft : TF) (fe : EF) (vs : List Nat) : EF := fun ρ μ => (fi ρ μ).bind fun p => (lcN g ft fe p.1 p.2.length (wipeD ρ vs) (itLenN p.1 p.2) 0 (p.2 ++ [.lst []])).map fun μ' => (.loc p.2.length, μ')
theorem i_lcN {K : PySem.W.Frag} {fi : IN} {t : TG} {g : GF} {ft : TF} {fe : EF} {vs : List Nat} (w : WG K vs t g) : ∀ σ H Q, tE K (fLcN fi g ft fe vs) σ H Q → tLc (tIN K fi) t (tT K ft) (tE K fe) vs σ H Q := by
  rintro σ H Q ⟨α, ρ, μ, d, μ', S, R, e, k⟩
  obtain ⟨⟨it, μ1⟩, e1, e2⟩ := Option.bind_eq_some_iff.mp e
  obtain ⟨μ2, e3, e4⟩ := Option.map_eq_some_iff.mp e2
  cases e4
  refine ⟨α, ρ, μ, it, μ1, S, R, e1, fun H1 α1 J E1 S1 h1 DD hD => ?_⟩
  have E2 : Ext K H1 α1 (upd H1 DD (.lst [])) (α1 ++ [DD]) := ext_new α1 [DD] hD
  have S2 : RepS K (upd H1 DD (.lst [])) (α1 ++ [DD]) (μ1 ++ [.lst []]) := S1.new hD ⟨[], upd_same, rfl⟩
  have hn : (α1 ++ [DD])[μ1.length]? = some DD := by rw [← S1.len]; simp
  refine ⟨fun i m H => ∃ α μ, RepS K H α μ ∧ Ext K (upd H1 DD (.lst [])) (α1 ++ [DD]) H α ∧ lcN g ft fe it μ1.length (wipeD ρ vs) m i μ = some μ', ⟨_, _, _, S2, Ext.refl, e3⟩, ?_⟩
  rintro i m H3 ⟨α3, μ3, S3, E3, e5⟩
  have n3 : α3[μ1.length]? = some DD := let ⟨_, p⟩ := E3.pre; pre_get p hn
  have h3 : ItRN K H3 α3 it J := h1.up (E2.trans E3)
  have fin : itAtN it i μ3 = some none → μ3 = μ' → J.stop i H3 ∧ Q (.ref DD) H3 := fun q z => by
    subst z
    exact ⟨it_stopN h3 S3 q, k H3 α3 _ (E1.trans (E2.trans E3)) S3 ⟨DD, rfl, n3⟩⟩
  cases m with
  | zero =>
    unfold lcN at e5
    split at e5
    · rename_i q
      exact .inl (fin q (Option.some.inj e5))
    · cases e5
  | succ m =>
    unfold lcN at e5
    split at e5
    · rename_i q
      exact .inl (fin q (Option.some.inj e5))
    · rename_i d q
      obtain ⟨g1, g2⟩ := it_goN h3 S3 q
      obtain ⟨⟨ρ4, μ4⟩, e6, e7⟩ := Option.bind_eq_some_iff.mp e5
      obtain ⟨⟨b, μ5⟩, e8, e9⟩ := Option.bind_eq_some_iff.mp e7
      refine .inr ⟨g1, fun H => ∃ α μ, RepS K H α μ ∧ Ext K (upd H1 DD (.lst [])) (α1 ++ [DD]) H α ∧ lcN g ft fe it μ1.length (wipeD ρ vs) m (i + 1) μ = some μ', fun H' n => ⟨m, Nat.lt_succ_self m, n⟩, fun x H' y => ?_⟩
      obtain ⟨E0, S0, rx⟩ := g2 x H' y
      have R3 : RepR K H' α3 (wipeD ρ vs) (wipe σ vs) := (R.up (E1.trans (E2.trans (E3.trans E0)))).wipe vs
      have hm : μ4 = μ3 := w.st _ _ _ _ _ e6
      refine w.go x _ _ _ α3 (wipeD ρ vs) μ3 d ρ4 μ4 R3 rx e6 fun σ4 w4 R4 => ⟨w4.trans (wipe_wipe σ vs), α3, ρ4, μ4, b, μ5, by rw [hm]; exact S0, R4, e8, fun H5 α5 E5 S5 => ?_⟩
      have EE := E0.trans E5
      cases b with
      | false => exact ⟨α5, μ5, S5, E3.trans EE, e9⟩
      | true =>
        rw [if_pos rfl] at e9
        dsimp only
        rw [if_pos rfl]
        obtain ⟨⟨z, μ6⟩, e10, e11⟩ := Option.bind_eq_some_iff.mp e9
        refine ⟨α5, ρ4, μ5, z, μ6, S5, R4.up E5, e10, fun H6 α6 v E6 S6 r6 => ?_⟩
        simp only at e11
        split at e11
        · rename_i acc q6
          split at e11
          · rename_i hl
            have n6 : α6[μ1.length]? = some DD := let ⟨_, p⟩ := (EE.trans E6).pre; pre_get p n3
            obtain ⟨xs, hx, rr⟩ := S6.ob _ _ _ n6 q6
            have nt := nt_lst hx
            exact ⟨xs, hx, by rw [← rr.length]; exact hl, α6, _, S6.write (ob := .lst (acc ++ [z])) n6 nt ⟨_, upd_same, (rr.append (Reps.one r6)).up (ext_write nt)⟩, E3.trans (EE.trans (E6.trans (ext_write nt))), e11⟩
          · cases e11
        · cases e11
    · cases e5
section
variable {X : Cx}
theorem de_lcN {elt tg iter : Expr} {ifs : List Expr} {scope : Scope} {own : List (Str × Nat)} {pos : Pos} {fi : IN} {t : TG} {g : GF} {ft : TF} {fe : EF} (cal : X.calm = true) (nd : X.N.Nodup) (pi : PI X tg iter (tIN X.K fi)) (ok : BlkOk X.N X.env.scope scope own)
    (pg : ∀ (s : Shared) (H : Hp) (C : Addr) (cl : List (Str × Addr)) (fp : List Addr), PG (X.blk s H scope (compEnvC scope cl C X.env) fp) tg t) (w : WG X.K (own.map (·.2)) t g)
    (pt : ∀ (s : Shared) (H : Hp) (C : Addr) (cl : List (Str × Addr)) (fp : List Addr), PTs (X.blk s H scope (compEnvC scope cl C X.env) fp) ifs (tT X.K ft))
    (pe : ∀ (s : Shared) (H : Hp) (C : Addr) (cl : List (Str × Addr)) (fp : List Addr), PE (X.blk s H scope (compEnvC scope cl C X.env) fp) elt (tE X.K fe)) (hs : ∀ x, foldedSetIterable iter X.env x = pure x := by intro _; rfl) :
    PE X (.ListComp elt [⟨tg, iter, ifs, 0⟩] scope pos) (tE X.K (fLcN fi g ft fe (own.map (·.2)))) := (pe_lc cal nd pi ok pg pt pe hs).imp (i_lcN w)
theorem ds_setLcN {i : Nat} {y : Str} {py : Pos} {elt tg iter : Expr} {ifs : List Expr} {scope : Scope} {own : List (Str × Nat)} {pos spos : Pos} {fi : IN} {t : TG} {g : GF} {ft : TF} {fe : EF} (cal : X.calm = true) (nd : X.N.Nodup) (at_ : X.N[i]? = some y) (loc : X.env.scope.names.lookup y = some .local)
    (sw : swapsWith (.ListComp elt [⟨tg, iter, ifs, 0⟩] scope pos) (some (.Name y py)) spos.line X.env = pure true) (pi : PI X tg iter (tIN X.K fi)) (ok : BlkOk X.N X.env.scope scope own)
    (pg : ∀ (s : Shared) (H : Hp) (C : Addr) (cl : List (Str × Addr)) (fp : List Addr), PG (X.blk s H scope (compEnvC scope cl C X.env) fp) tg t) (w : WG X.K (own.map (·.2)) t g)
    (pt : ∀ (s : Shared) (H : Hp) (C : Addr) (cl : List (Str × Addr)) (fp : List Addr), PTs (X.blk s H scope (compEnvC scope cl C X.env) fp) ifs (tT X.K ft))
    (pe : ∀ (s : Shared) (H : Hp) (C : Addr) (cl : List (Str × Addr)) (fp : List Addr), PE (X.blk s H scope (compEnvC scope cl C X.env) fp) elt (tE X.K fe)) (hs : ∀ x, foldedSetIterable iter X.env x = pure x := by intro _; rfl) :
    PS X (.Assign [.Name y py] (.ListComp elt [⟨tg, iter, ifs, 0⟩] scope pos) spos) (tS X.K (fAsg (fLcN fi g ft fe (own.map (·.2))) (gNm i))) := by
  refine PS.imp (ps_setLc cal nd at_ loc sw pi ok pg pt pe hs) fun D σ H h => ?_
  obtain ⟨α, ρ, μ, d, μ', S, R, e, k⟩ := i_asg D σ H h
  exact i_lcN w _ _ _ ⟨α, ρ, μ, d, μ', S, R, e, fun H' α' v E' S' r' => i_nm _ _ _ _ (k H' α' v E' S' r')⟩
/-- the keys of a dict that is locked -/
def nKey (f : EF) : IN := fun ρ μ => (f ρ μ).bind fun p => match p.1 with
  | .loc n => if (dfzAt p.2 n).isSome then some (.key n, p.2) else none
  | _ => none
def nEnL (f : AF) : IN := fun ρ μ => (f ρ μ).bind fun p => match p.1 with
  | [.loc n] => if (lstAt p.2 n).isSome then some (.enuL n, p.2) else none
  | _ => none
section
variable {e e2 : Expr} {elts : List Expr} {kk : Nat} {tpos p pos : Pos} {fa fk : AF}
theorem dn_enL (gl : Gl X "enumerate") (mn : X.mg "enumerate" = none) (pa : PA X [e] (tA X.K fa)) (st : starEach [e] X.env = [(false, eval e X.env)] := by rfl) : PI X (.Tuple elts kk tpos) (.Call (.Name "enumerate" p) [e] [] pos) (tIN X.K (nEnL fa)) := by
  refine PI.imp (pi_enum gl mn pa st) ?_
  rintro σ H Q ⟨α, ρ, μ, it, μ', S, R, e0, k⟩
  obtain ⟨⟨as, μ1⟩, e1, e2⟩ := Option.bind_eq_some_iff.mp e0
  refine ⟨α, ρ, μ, as, μ1, S, R, e1, fun H1 α1 vs E1 S1 r1 => ?_⟩
  simp only at e2
  split at e2
  · split at e2
    · rename_i hs
      cases e2
      obtain ⟨ds, hd⟩ := Option.isSome_iff_exists.mp hs
      obtain ⟨v, _, rfl, ⟨a, rfl, q⟩, r3⟩ := r1
      cases (show _ = _ from r3)
      obtain ⟨xs, sq, r⟩ := S1.sqlA hd q
      exact ⟨a, xs, rfl, sq, k H1 α1 _ E1 S1 ⟨a, rfl, q⟩⟩
    · cases e2
  · cases e2
end
end
end DL
namespace DL
open PySem PySem.Spec PyProof.Rows L2
mutual
def pyN (μ : Sto) : Nat → D → Option PyData
  | 0, _ => none
  | f + 1, .tup ds => (pyNs μ f ds).map .tuple
  | f + 1, .loc n => match μ[n]? with
    | some (.lst ds) => (pyNs μ f ds).map .list
    | _ => none
  | _ + 1, .non => some .none
  | _ + 1, .bl b => some (.bool b)
  | _ + 1, .int i => some (.int i)
  | _ + 1, .str x => some (.str x)
  | _ + 1, .ty _ => none
def pyNs (μ : Sto) : Nat → List D → Option (List PyData)
  | 0, _ => none
  | _ + 1, [] => some []
  | f + 1, d :: ds => match pyN μ f d, pyNs μ f ds with
    | some p, some ps => some (p :: ps)
    | _, _ => none
end
section
variable {X : Cx} {pins : List (Addr × Obj)} {σ : L2.St} {H : Hp} {s : Shared} {α : List Addr} {μ : Sto}
mutual
theorem pyN_reads (I : Inv X pins σ H s) (hs : ∀ b u, H b = some u → b ≠ sysModules) (S : RepS X.K H α μ) : ∀ (f : Nat) {d : D} {p : PyData} {v : V} {u : Value}, pyN μ f d = some p → Rep X.K H α d v → RelV v u → ∃ as, Reads s.heap u p as ∧ sysModules ∉ as
  | 0, _, _, _, _, e, _, _ => by cases e
  | f + 1, .tup ds, p, v, u, e, r, rv => by
    unfold pyN at e
    obtain ⟨ps, e1, rfl⟩ := Option.map_eq_some_iff.mp e
    obtain ⟨a, xs, rfl, q, rr⟩ := r
    cases rv
    obtain ⟨its, vs, tp, hz⟩ := I.tuple q
    obtain ⟨as, h1, h2⟩ := pyNs_reads I hs S f e1 rr vs
    obtain ⟨o, ho, hc, n, hd⟩ := (show s.heap.IsTuple a its.toArray from tp)
    exact ⟨as, .tuple ho hc hd (by simpa using h1), h2⟩
  | f + 1, .loc n, p, v, u, e, r, rv => by
    unfold pyN at e
    split at e
    · rename_i ds e0
      obtain ⟨ps, e1, rfl⟩ := Option.map_eq_some_iff.mp e
      obtain ⟨a, rfl, q⟩ := r
      cases rv
      obtain ⟨xs, hx, rr⟩ := S.ob _ _ _ q e0
      obtain ⟨_, its, m, vs, ho⟩ := (show ObjOk X.prog X.w H s.heap a (.lst xs) from I.hok a _ hx)
      obtain ⟨as, h1, h2⟩ := pyNs_reads I hs S f e1 rr vs
      refine ⟨_, .list ho rfl rfl (by simpa using h1), fun z => ?_⟩
      rcases List.mem_cons.mp z with z | z
      · exact hs a _ hx z.symm
      · exact h2 z
    · cases e
  | _ + 1, .non, _, _, _, e, r, rv => by
    cases e
    cases (show _ = _ from r)
    cases rv
    exact ⟨_, .none, fun z => nomatch z⟩
  | _ + 1, .bl b, _, _, _, e, r, rv => by
    cases e
    cases (show _ = _ from r)
    cases rv
    exact ⟨_, .bool b, fun z => nomatch z⟩
  | _ + 1, .int i, _, _, _, e, r, rv => by
    cases e
    cases (show _ = _ from r)
    obtain ⟨t, rfl⟩ := rv
    exact ⟨_, .int i t, fun z => nomatch z⟩
  | _ + 1, .str x, _, _, _, e, r, rv => by
    cases e
    cases (show _ = _ from r)
    obtain ⟨t, rfl⟩ := rv
    exact ⟨_, .str x t, fun z => nomatch z⟩
  | _ + 1, .ty _, _, _, _, e, _, _ => by cases e
theorem pyNs_reads (I : Inv X pins σ H s) (hs : ∀ b u, H b = some u → b ≠ sysModules) (S : RepS X.K H α μ) : ∀ (f : Nat) {ds : List D} {ps : List PyData} {vs : List V} {us : List Value}, pyNs μ f ds = some ps → Reps X.K H α ds vs → Vals vs us → ∃ as, ReadsAll s.heap us ps as ∧ sysModules ∉ as
  | 0, _, _, _, _, e, _, _ => by cases e
  | f + 1, [], _, _, _, e, r, rv => by
    cases e
    cases (show _ = _ from r)
    cases rv
    exact ⟨_, .nil, fun z => nomatch z⟩
  | f + 1, d :: ds, _, _, _, e, r, rv => by
    unfold pyNs at e
    split at e
    · rename_i p ps e1 e2
      cases e
      obtain ⟨v, vs, rfl, r1, r2⟩ := r
      cases rv with
      | cons q1 q2 =>
        obtain ⟨as, h1, n1⟩ := pyN_reads I hs S f e1 r1 q1
        obtain ⟨bs, h2, n2⟩ := pyNs_reads I hs S f e2 r2 q2
        refine ⟨_, .cons h1 h2, fun z => ?_⟩
        rcases List.mem_append.mp z with z | z
        · exact n1 z
        · exact n2 z
    · cases e
end
end
def cReprN : GN
  | [.tup ds], μ => (pyN μ 2000 (.tup ds)).bind fun p => if p.showable = true ∧ p.depth ≤ 40 ∧ p.shown.length ≤ sizeLine then some (.str p.shown, μ) else none
  | [.loc n], μ => (pyN μ 2000 (.loc n)).bind fun p => if p.showable = true ∧ p.depth ≤ 40 ∧ p.shown.length ≤ sizeLine then some (.str p.shown, μ) else none
  | _, _ => none
theorem cReprN_some {as : List D} {d : D} {μ μ' : Sto} (e : cReprN as μ = some (d, μ')) : ∃ x p, as = [x] ∧ ((∃ ds, x = .tup ds) ∨ ∃ n, x = .loc n) ∧ pyN μ 2000 x = some p ∧ (p.showable = true ∧ p.depth ≤ 40 ∧ p.shown.length ≤ sizeLine) ∧ d = .str p.shown ∧ μ' = μ := by
  unfold cReprN at e
  split at e
  · obtain ⟨p, e1, e2⟩ := Option.bind_eq_some_iff.mp e
    split at e2
    · rename_i h
      cases e2
      exact ⟨_, p, rfl, .inl ⟨_, rfl⟩, e1, h, rfl, rfl⟩
    · cases e2
  · obtain ⟨p, e1, e2⟩ := Option.bind_eq_some_iff.mp e
    split at e2
    · rename_i h
      cases e2
      exact ⟨_, p, rfl, .inr ⟨_, rfl⟩, e1, h, rfl, rfl⟩
    · cases e2
  · cases e
theorem dc_reprN {X : Cx} {k : Nat} (hA : X.A.guards = some []) (hr : Room k X.A) (hm : ∃ o, X.K.lookup sysModules = some o) : CallR X (.builtin "repr") (cD X.K cReprN) := by
  rintro pins s σ H vs us Q I r ⟨α, μ, ds, d, μ', S, rs, e, kk⟩
  obtain ⟨x, p, rfl, sh, e1, ⟨c1, c2, c3⟩, rfl, rfl⟩ := cReprN_some e
  obtain ⟨o1, ho1⟩ := hm
  have h1 : ∀ b v, H b = some v → b ≠ sysModules := fun b v e z => by
    have e2 := (I.bs _ _ (I.ok.mod.kin _ _ ho1)).2
    rw [← z, e] at e2
    cases e2
  obtain ⟨v, _, rfl, rv, h2⟩ := rs
  cases (show _ = _ from h2)
  cases r with
  | cons q qq =>
    cases qq
    rename_i u
    obtain ⟨a, rfl⟩ : ∃ a, u = Value.ref a := by
      rcases sh with ⟨ds, rfl⟩ | ⟨n, rfl⟩
      · obtain ⟨a, xs, rfl, _, _⟩ := rv
        cases q
        exact ⟨a, rfl⟩
      · obtain ⟨a, rfl, _⟩ := rv
        cases q
        exact ⟨a, rfl⟩
    obtain ⟨as, rd, nm⟩ := pyN_reads I h1 S 2000 e1 rv q
    have hu := hr.un
    exact repr_of_reads' rd c1 (fun _ => nm) hA (by omega) (fun _ _ e => e) (fun h' t tk hk => ⟨.str p.shown, H, I.kept (h' := h') (t' := tk) hk, ⟨t, rfl⟩, kont_self kk S rfl⟩) c3
end DL
namespace Vk
open PySem PySem.Spec PyProof.Rows L2
def part (n : Nat) (g : Addr → Option Obj) : PySem.W.Frag := He.frG g (sysModules :: cStatics :: He.asD g n)
end Vk
namespace DL
open PySem PySem.Spec PyProof.Rows L2
mutual
def datB (K : PySem.W.Frag) : D → Value → Bool
  | .int i, .int j _ => decide (i = j)
  | .str x, .str y _ => decide (x = y)
  | .bl b, .bool c => decide (b = c)
  | .non, .none => true
  | .tup ds, .ref a => match K.lookup a with
    | some o => decide (o.cls = .type "tuple") && (match o.data with
      | .seq its _ => datsB K ds its.toList && decide (its.size ≤ sizeLine)
      | _ => false)
    | none => false
  | _, _ => false
def datsB (K : PySem.W.Frag) : List D → List Value → Bool
  | [], [] => true
  | d :: ds, v :: vs => datB K d v && datsB K ds vs
  | _, _ => false
end
mutual
theorem datB_ok {K : PySem.W.Frag} : ∀ {d : D} {u : Value}, datB K d u = true → ∃ v, RelV v u ∧ ∀ H α, Rep K H α d v
  | .int i, .int j t, h => ⟨.int i, ⟨t, by rw [of_decide_eq_true (show decide (i = j) = true from h)]⟩, fun _ _ => rfl⟩
  | .str i, .str j t, h => ⟨.str i, ⟨t, by rw [of_decide_eq_true (show decide (i = j) = true from h)]⟩, fun _ _ => rfl⟩
  | .bl i, .bool j, h => ⟨.bl i, by rw [of_decide_eq_true (show decide (i = j) = true from h)]; rfl, fun _ _ => rfl⟩
  | .non, .none, _ => ⟨.non, rfl, fun _ _ => rfl⟩
  | .tup ds, .ref a, h => by
    unfold datB at h
    split at h
    · rename_i o e2
      obtain ⟨b1, b2⟩ := He.ba h
      split at b2
      · rename_i its n e3
        obtain ⟨b3, b4⟩ := He.ba b2
        obtain ⟨xs, r1, r2⟩ := datsB_ok b3
        exact ⟨.ref a, rfl, fun H α => ⟨a, xs, rfl, .inr ⟨o, its, n, e2, of_decide_eq_true b1, e3, of_decide_eq_true b4, r1⟩, r2 H α⟩⟩
      · cases b2
    · cases h
  | .loc _, u, h => by cases u <;> cases h
  | .ty _, u, h => by cases u <;> cases h
  | .non, .bool _, h | .non, .int _ _, h | .non, .float _ _, h | .non, .str _ _, h | .non, .bytes _ _, h | .non, .ref _, h | .non, .type _, h | .non, .builtin _, h => by cases h
  | .bl _, .none, h | .bl _, .int _ _, h | .bl _, .float _ _, h | .bl _, .str _ _, h | .bl _, .bytes _ _, h | .bl _, .ref _, h | .bl _, .type _, h | .bl _, .builtin _, h => by cases h
  | .int _, .none, h | .int _, .bool _, h | .int _, .float _ _, h | .int _, .str _ _, h | .int _, .bytes _ _, h | .int _, .ref _, h | .int _, .type _, h | .int _, .builtin _, h => by cases h
  | .str _, .none, h | .str _, .bool _, h | .str _, .float _ _, h | .str _, .int _ _, h | .str _, .bytes _ _, h | .str _, .ref _, h | .str _, .type _, h | .str _, .builtin _, h => by cases h
  | .tup _, .none, h | .tup _, .bool _, h | .tup _, .float _ _, h | .tup _, .int _ _, h | .tup _, .bytes _ _, h | .tup _, .str _ _, h | .tup _, .type _, h | .tup _, .builtin _, h => by cases h
theorem datsB_ok {K : PySem.W.Frag} : ∀ {ds : List D} {us : List Value}, datsB K ds us = true → ∃ xs, Vals xs us ∧ ∀ H α, Reps K H α ds xs
  | [], [], _ => ⟨[], .nil, fun _ _ => rfl⟩
  | d :: ds, u :: us, h => by
    obtain ⟨h1, h2⟩ := He.ba (show (_ && _) = true from h)
    obtain ⟨v, r1, r2⟩ := datB_ok h1
    obtain ⟨xs, r3, r4⟩ := datsB_ok h2
    exact ⟨v :: xs, .cons r1 r3, fun H α => ⟨v, xs, rfl, r2 H α, r4 H α⟩⟩
  | [], _ :: _, h => by cases h
  | _ :: _, [], h => by cases h
end
def cstB (K : PySem.W.Frag) (x : Str) (d : D) : Bool := match PySem.W.nsIn K mainGlobals x with
  | some (some u) => datB K d u
  | _ => false
theorem dat_cst {K : PySem.W.Frag} {h : Heap} {mg : Str → Option Value} {x : Str} {d : D} (X : K.In h) (G : h.Ns mainGlobals mg) (b : cstB K x d = true) : Cst K mg x d := by
  unfold cstB at b
  split at b
  · rename_i u e
    obtain ⟨v, r1, r2⟩ := datB_ok b
    exact ⟨u, v, PySem.W.mg_of X G e, r1, r2⟩
  · cases b
end DL
namespace DL
open PySem PySem.Spec PyProof.Rows L2
/-- a def of the module, its own record told -/
structure DFx (P : Program) (w : World) (K : PySem.W.Frag) (mg : Str → Option Value) (base : Heap) (k : Nat) (x : Str) (params : Arguments) (body : List Stmt) (scope : Scope) (ps : List Str) (F : GN) : Prop where
  ex : ∃ (f : Addr) (fd : FuncData), FunD K x x params body scope [] [] f fd ∧ FnOk P w K mg base CX0 k f fd ps (spF K F) ∧ mg x = some (.ref f)
section
variable {P : Program} {w : World} {K : PySem.W.Frag} {mg : Str → Option Value} {base : Heap} {x : Str} {params : Arguments} {body : List Stmt} {scope : Scope} {f : Addr} {fd : FuncData}
theorem DFx.n {k : Nat} {ps : List Str} {F : GN} (D : DFx P w K mg base k x params body scope ps F)
    (h1 : ∀ (kV doc pm : Value) (an : Option Addr) (cdv ct : Value) (us : List Value), us.length = ps.length → bindArgs (PySem.W.fnOf x x params body scope .none kV doc pm an cdv ct) ⟨us, []⟩ = pure (ps.zip us))
    (h2 : ∀ (kV doc pm : Value) (an : Option Addr) (cdv ct : Value) (us : List Value), us.length = ps.length → bindArgs (PySem.W.fnOf x x params body scope .none kV doc pm an cdv ct) ⟨[], ps.zip us⟩ = pure (ps.zip us)) : DFn P w K mg base k x ps F :=
  let ⟨f, fd, F, ok, hg⟩ := D.ex; ⟨f, fd, ok, hg, F.kp, FunD.bindsN F h1, FunD.bindsK F h2⟩
end
end DL
namespace BS
open PySem PySem.Spec PyProof.Rows L2 DL
def fuelC : Sl → Sto → Nat := fun ρ _ => match ρ with
  | [_, some (.int j)] => j.natAbs + 1
  | _ => 0
def fuelE : Sl → Sto → Nat := fun ρ _ => match ρ with
  | [_, _, _, some (.int j)] => j.natAbs + 1
  | _ => 0
def fuelF : Sl → Sto → Nat := fun ρ _ => match ρ with
  | [_, _, some (.int i), some (.int j)] => (j - i).natAbs + 1
  | _ => 0
/-- whether a value is a fraction -/
def fracD : D → Bool
  | .tup [.int n, .int m] => decide (0 < m) && decide (Nat.gcd n.natAbs m.natAbs = 1)
  | _ => false
def F_is_whole : GN := fDef 1 1 (fRet (fAndV (fCB cIsi (fCons (fVar 0) (fCons (fC (.ty "int")) fNil))) (fNotV (fCB cIsi (fCons (fVar 0) (fCons (fC (.ty "bool")) fNil))))))
def F_reduced : GN := fDef 2 3 (fSeq (fAsg (fCB cGcd (fCons (fVar 0) (fCons (fVar 1) fNil))) (gNm 2))
    (fSeq (fIfS (fB (fBin opLt (fVar 1) (fC (.int 0)))) (fAsg (fUn unNeg (fVar 2)) (gNm 2)) fSkip)
    (fRet (fTup (fCons (fBin opFdiv (fVar 0) (fVar 2)) (fCons (fBin opFdiv (fVar 1) (fVar 2)) fNil))))))
def F_over_one_bottom : GN := fDef 1 3 (fSeq (fAsg (fC (.int 1)) (gNm 1))
    (fSeq (fFor (iVal (fVar 0)) (gNm 2) (fAsg (fCB cLcm (fCons (fVar 1) (fCons (fBin opIx (fVar 2) (fC (.int 1))) fNil))) (gNm 1)))
    (fRet (fTup (fCons (fLc (iVal (fVar 0)) (gNm 2) fYes (fBin opMulX (fBin opIx (fVar 2) (fC (.int 0))) (fBin opFdiv (fVar 1) (fBin opIx (fVar 2) (fC (.int 1))))) [2]) (fCons (fVar 1) fNil))))))
def F_span_without : GN := fDef 2 4 (fSeq (fPar 2 3 (fCons (fC (.int 0)) (fCons (fCB cLen (fCons (fVar 0) fNil)) fNil)))
    (fSeq (fWhile fuelE (fAnd (fB (fBin opGt (fVar 3) (fC (.int 0)))) (fB (fBin opEqM (fBin opIx (fVar 0) (fBin opSub (fVar 3) (fC (.int 1)))) (fVar 1)))) (fAug 3 opSubI (fC (.int 1))))
    (fSeq (fWhile fuelF (fAnd (fB (fBin opLt (fVar 2) (fVar 3))) (fB (fBin opEqM (fBin opIx (fVar 0) (fVar 2)) (fVar 1)))) (fAug 2 opAddI (fC (.int 1))))
    (fRet (fTup (fCons (fVar 2) (fCons (fVar 3) fNil)))))))
def F_is_row : GN := fDef 1 4 (fSeq (fIfS (fOr (fNot (fT (fCB cIsi (fCons (fVar 0) (fCons (fC (.ty "tuple")) fNil))))) (fB (fBin opNe (fCB cLen (fCons (fVar 0) fNil)) (fC (.int 2))))) (fRet (fC (.bl false))) fSkip)
    (fSeq (fAsg (fVar 0) (gTp 2 (gCn (gNm 1) (gCn (gNm 2) gNl))))
    (fSeq (fIfS (fOr (fNot (fT (fCB F_is_whole (fCons (fVar 1) fNil)))) (fNot (fT (fCB cIsi (fCons (fVar 2) (fCons (fC (.ty "tuple")) fNil)))))) (fRet (fC (.bl false))) fSkip)
    (fSeq (fIfS (fB (fBin opEqM (fCB cLen (fCons (fVar 2) fNil)) (fC (.int 0)))) (fRet (fBin opEqM (fVar 1) (fC (.int 0)))) fSkip)
    (fSeq (fIfS (fNot (fT (fAllG 1 "is_row" fracD (fVar 2)))) (fRet (fC (.bl false))) fSkip)
    (fRet (fAndV (fBin opNe (fBin opIx (fVar 2) (fC (.int 0))) (fC (.tup [.int 0, .int 1]))) (fBin opNe (fBin opIx (fVar 2) (fUn unNeg (fC (.int 1)))) (fC (.tup [.int 0, .int 1]))))))))))
def F_need_whole_between : GN := fDef 3 3 (fIfS (fOr (fNot (fT (fCB F_is_whole (fCons (fVar 0) fNil)))) (fNot (fB (fChain opLe opLe (fVar 1) (fVar 0) (fVar 2))))) fNever fSkip)
def F_need_row : GN := fDef 1 1 (fIfS (fNot (fT (fCB F_is_row (fCons (fVar 0) fNil)))) fNever fSkip)
end BS
namespace DL
open PySem PySem.Spec PyProof.Rows L2
end DL
namespace DL
open PySem PySem.Spec PyProof.Rows L2
/-- the dict at n, locked or not -/
def dicAt (μ : Sto) (n : Nat) : Option (List (Key × D)) := match μ[n]? with
  | some (.dic kvs) => some kvs
  | some (.dfz kvs) => some kvs
  | _ => none
def opDix : G2
  | .loc n, k, μ => (dicAt μ n).bind fun kvs => (keyOf k).bind fun z => (valD kvs z).map fun d => (d, μ)
  | _, _, _ => none
def opDin : G2
  | k, .loc n, μ => (dicAt μ n).bind fun kvs => (keyOf k).map fun z => (.bl (valD kvs z).isSome, μ)
  | _, _, _ => none
section
variable {K : PySem.W.Frag} {H : Hp} {α : List Addr} {μ : Sto}
theorem RepS.dic (S : RepS K H α μ) {n : Nat} {a : Addr} {kvs : List (Key × D)} (h : dicAt μ n = some kvs) (e : α[n]? = some a) : ∃ kv, Rd H a (.dK kv) ∧ DicR K H α kvs kv := by
  unfold dicAt at h
  split at h
  · rename_i k q
    cases h
    obtain ⟨kv, c, d⟩ := S.ob _ _ _ e q
    exact ⟨kv, .inl c, d⟩
  · rename_i k q
    cases h
    obtain ⟨o, kv, c, d⟩ := S.ob _ _ _ e q
    exact ⟨kv, .inr ⟨o, c⟩, d⟩
  · cases h
end
section
variable {X : Cx} {e i : Expr} {fe fi : EF} {pos : Pos}
theorem de_dix (hu : X.A.units + 1 < cLine) (he : PE X e (tE X.K fe)) (hi : PE X i (tE X.K fi)) (hs : NoSl i) : PE X (.Subscript e i pos) (tE X.K (fBin opDix fe fi)) := by
  refine (pe_dget hu he hi hs).imp ?_
  rintro σ H Q ⟨α, ρ, μ, d, μ', S, R, eq, k⟩
  obtain ⟨⟨x, μ1⟩, e1, e2⟩ := Option.bind_eq_some_iff.mp eq
  obtain ⟨⟨y, μ2⟩, e3, e4⟩ := Option.bind_eq_some_iff.mp e2
  refine ⟨α, ρ, μ, x, μ1, S, R, e1, fun H1 α1 v E1 S1 r1 => ⟨α1, ρ, μ1, y, μ2, S1, R.up E1, e3, fun H2 α2 w E2 S2 r2 => ?_⟩⟩
  cases x with
  | loc n =>
    obtain ⟨kvs, h1, h2⟩ := Option.bind_eq_some_iff.mp e4
    obtain ⟨z, h3, h4⟩ := Option.bind_eq_some_iff.mp h2
    obtain ⟨dd, h5, h6⟩ := Option.map_eq_some_iff.mp h4
    cases h6
    obtain ⟨p, rfl, q⟩ := r1.up E2
    obtain ⟨kv, c, dr⟩ := S2.dic h1 q
    rcases dr.val (k := z) with ⟨v1, _⟩ | ⟨d', vv, v1, v2, v3⟩
    · rw [h5] at v1; cases v1
    · rw [h5] at v1
      cases v1
      exact ⟨p, vv, rfl, .inl ⟨kv, z, c, keyOf_rep h3 r2, v2.symm⟩, k H2 α2 vv (E1.trans E2) S2 v3⟩
  | _ => cases e4
end
theorem dn_key {X : Cx} {tg e : Expr} {fe : EF} (he : PE X e (tE X.K fe)) : PI X tg e (tIN X.K (nKey fe)) := by
  refine PI.imp (pi_keys he) ?_
  rintro σ H Q ⟨α, ρ, μ, it, μ', S, R, e0, k⟩
  obtain ⟨⟨x, μ1⟩, e1, e2⟩ := Option.bind_eq_some_iff.mp e0
  refine ⟨α, ρ, μ, x, μ1, S, R, e1, fun H1 α1 v E1 S1 r1 => ?_⟩
  cases x with
  | loc n =>
    replace e2 : (if (dfzAt μ1 n).isSome then some (ItN.key n, μ1) else none) = some (it, μ') := e2
    split at e2
    · rename_i h
      cases e2
      obtain ⟨kvs, hk⟩ := Option.isSome_iff_exists.mp h
      obtain ⟨p, rfl, q⟩ := r1
      obtain ⟨o, kv, c, _⟩ := S1.dfz hk q
      exact ⟨p, o, rfl, .inl ⟨kv, c, k H1 α1 _ E1 S1 ⟨p, o, kv, rfl, q, c⟩⟩⟩
    · cases e2
  | _ => cases e2
def Low (K : PySem.W.Frag) (H : Hp) (α : List Addr) (H' : Hp) (α' : List Addr) : Prop := (∃ more, α' = α ++ more) ∧ ∀ a xs, SqT K H a xs → SqT K H' a xs
mutual
theorem Rep.low {K : PySem.W.Frag} {H H' : Hp} {α α' : List Addr} (E : Low K H α H' α') : ∀ (d : D) (v : V), Rep K H α d v → Rep K H' α' d v
  | .non, _, h => h
  | .bl _, _, h => h
  | .int _, _, h => h
  | .str _, _, h => h
  | .tup ds, _, ⟨a, xs, e, hs, hr⟩ => ⟨a, xs, e, E.2 _ _ hs, Reps.low E ds xs hr⟩
  | .loc n, _, ⟨a, e, h⟩ => ⟨a, e, let ⟨_, p⟩ := E.1; pre_get p h⟩
  | .ty _, _, h => h
theorem Reps.low {K : PySem.W.Frag} {H H' : Hp} {α α' : List Addr} (E : Low K H α H' α') : ∀ (ds : List D) (xs : List V), Reps K H α ds xs → Reps K H' α' ds xs
  | [], _, h => h
  | d :: ds, _, ⟨v, vs, e, h1, h2⟩ => ⟨v, vs, e, Rep.low E d v h1, Reps.low E ds vs h2⟩
end
section
variable {K : PySem.W.Frag} {H H' : Hp} {α α' : List Addr} {μ : Sto}
theorem ObR.low {o : Ob} {a : Addr} (h : ObR K H α o a) (E : Low K H α H' α') (e : H' a = H a) : ObR K H' α' o a := by
  cases o with
  | lst ds => obtain ⟨xs, q, r⟩ := h; exact ⟨xs, e.trans q, r.low E⟩
  | dic kvs => obtain ⟨kv, q, r1, r2⟩ := h; exact ⟨kv, e.trans q, r1, r2.low E⟩
  | frz ds => obtain ⟨ob, xs, q, r⟩ := h; exact ⟨ob, xs, e.trans q, r.low E⟩
  | dfz kvs => obtain ⟨o, kv, q, r1, r2⟩ := h; exact ⟨o, kv, e.trans q, r1, r2.low E⟩
  | tab x => obtain ⟨z, ps, q, r⟩ := h; exact ⟨z, ps, e.trans q, r⟩
theorem RepR.low {ρ : Sl} {σ : L2.St} (h : RepR K H α ρ σ) (E : Low K H α H' α') : RepR K H' α' ρ σ :=
  ⟨h.1, fun i d e => let ⟨v, q, r⟩ := h.2 i d e; ⟨v, q, Rep.low E d v r⟩⟩
theorem no_tup {a : Addr} {od : Obj} {kv : List (Key × V)} (h : H a = some (.frz od (.dK kv))) : ∀ xs, ¬ Rd H a (.tup xs) := by
  intro ys q
  rcases q with q | ⟨o, q⟩ <;> rw [h] at q <;> cases q
theorem low_unlock {a : Addr} {od : Obj} {kv : List (Key × V)} (h : H a = some (.frz od (.dK kv))) : Low K H α (upd H a (.dK kv)) α := ⟨⟨[], by simp⟩, sqT_upd (no_tup h)⟩
/-- the dict at n is unlocked again -/
theorem RepS.unlock (S : RepS K H α μ) {n : Nat} {a : Addr} {od : Obj} {kv : List (Key × V)} {kvs : List (Key × D)} (e : α[n]? = some a) (h : H a = some (.frz od (.dK kv))) (hm : dfzAt μ n = some kvs) : RepS K (upd H a (.dK kv)) α (μ.set n (.dic kvs)) := by
  obtain ⟨o', kv', h', r1, r2⟩ := S.dfz hm e
  rw [h] at h'
  cases h'
  refine ⟨S.nd, by rw [List.length_set]; exact S.len, fun m b ob e1 e2 => ?_⟩
  by_cases hmn : m = n
  · subst hmn
    rw [e] at e1
    cases e1
    have l : m < μ.length := by rw [← S.len]; exact (List.getElem?_eq_some_iff.mp e).1
    rw [List.getElem?_set_self l] at e2
    cases e2
    exact ⟨kv, upd_same, r1, Reps.low (low_unlock h) _ _ r2⟩
  · rw [List.getElem?_set_ne (Ne.symm hmn)] at e2
    have ne : b ≠ a := fun z => by
      subst z
      obtain ⟨h1, f1⟩ := List.getElem?_eq_some_iff.mp e
      obtain ⟨h2, f2⟩ := List.getElem?_eq_some_iff.mp e1
      exact hmn ((List.getElem_inj S.nd).mp (f2.trans f1.symm))
    exact (S.ob m b ob e1 e2).low (low_unlock h) (upd_ne ne)
end
def unl (n : Nat) : Out → Option Out
  | .nx ρ μ => (dfzAt μ n).map fun kvs => .nx ρ (μ.set n (.dic kvs))
  | .rt d μ => (dfzAt μ n).map fun kvs => .rt d (μ.set n (.dic kvs))
  | .bk ρ μ => (dfzAt μ n).map fun kvs => .bk ρ (μ.set n (.dic kvs))
  | .ct ρ μ => (dfzAt μ n).map fun kvs => .ct ρ (μ.set n (.dic kvs))
/-- the statement runs while the dict of slot i is locked -/
def fLock (i : Nat) (f : SF) : SF := fun ρ μ => match ρ[i]? with
  | some (some (.loc n)) => match μ[n]? with
    | some (.dic kvs) => (f ρ (μ.set n (.dfz kvs))).bind (unl n)
    | some (.dfz _) => f ρ μ
    | _ => none
  | _ => none
theorem ds_lock {X : Cx} {i : Nat} {st : Stmt} {f : SF} (h : PS X st (tS X.K f)) : PS X st (tS X.K (fLock i f)) := by
  refine PS.imp (t := fun D σ H => tLock (tS X.K f) D σ H ∨ tS X.K f D σ H) ⟨fun pins s σ H D I q => ?_⟩ ?_
  · rcases q with q | q
    · exact (ps_lock h).run pins s σ H D I q
    · exact h.run pins s σ H D I q
  rintro D σ H ⟨α, ρ, μ, o, S, R, e, k⟩
  unfold fLock at e
  split at e
  · rename_i n hn
    split at e
    · rename_i kvs hm
      refine .inl ?_
      obtain ⟨o1, e1, e2⟩ := Option.bind_eq_some_iff.mp e
      obtain ⟨a, ha, kv, hk, r1, r2⟩ := S.there hm
      have nw := nt_dK hk
      refine ⟨a, .dK kv, hk, ?_, fun od => ?_⟩
      · exact trivial
      have E0 : Ext X.K H α (upd H a (.frz od (.dK kv))) α := ext_write nw
      have S0 : RepS X.K (upd H a (.frz od (.dK kv))) α (μ.set n (.dfz kvs)) := S.write ha nw ⟨od, kv, upd_same, r1, r2.up E0⟩
      refine ⟨α, ρ, _, o1, S0, R.up E0, e1, ?_⟩
      have step : ∀ (H' : Hp) (α' : List Addr) (μ' : Sto) (kvs' : List (Key × DL.D)), Ext X.K (upd H a (.frz od (.dK kv))) α H' α' → RepS X.K H' α' μ' → dfzAt μ' n = some kvs' →
          H' a = some (.frz od (.dK kv)) ∧ Ext X.K H α (upd H' a (.dK kv)) α' ∧ RepS X.K (upd H' a (.dK kv)) α' (μ'.set n (.dic kvs')) ∧ Low X.K H' α' (upd H' a (.dK kv)) α' := by
        intro H' α' μ' kvs' E S' hd
        have hf := E.frz a od (.dK kv) upd_same
        have ha' : α'[n]? = some a := let ⟨_, p⟩ := E.pre; pre_get p ha
        refine ⟨hf, ⟨E.pre, fun b xs q => ?_, fun b o' u q => ?_⟩, S'.unlock ha' hf hd, low_unlock hf⟩
        · exact (low_unlock (α := α') hf).2 b xs (E.tup b xs (E0.tup b xs q))
        · have nb : b ≠ a := fun z => by rw [z, hk] at q; cases q
          rw [upd_ne nb]
          exact E.frz b o' u (E0.frz b o' u q)
      cases o1 with
      | nx ρ4 μ4 =>
        obtain ⟨kvs', h1, rfl⟩ := Option.map_eq_some_iff.mp e2
        intro H' α' σ' E S' R'
        obtain ⟨f1, f2, f3, f4⟩ := step H' α' μ4 kvs' E S' h1
        exact ⟨f1, k _ α' σ' f2 f3 (R'.low f4)⟩
      | ct ρ4 μ4 =>
        obtain ⟨kvs', h1, rfl⟩ := Option.map_eq_some_iff.mp e2
        intro H' α' σ' E S' R'
        obtain ⟨f1, f2, f3, f4⟩ := step H' α' μ4 kvs' E S' h1
        exact ⟨f1, k _ α' σ' f2 f3 (R'.low f4)⟩
      | bk ρ4 μ4 =>
        obtain ⟨kvs', h1, rfl⟩ := Option.map_eq_some_iff.mp e2
        intro H' α' σ' E S' R'
        obtain ⟨f1, f2, f3, f4⟩ := step H' α' μ4 kvs' E S' h1
        exact ⟨f1, k _ α' σ' f2 f3 (R'.low f4)⟩
      | rt d4 μ4 =>
        obtain ⟨kvs', h1, rfl⟩ := Option.map_eq_some_iff.mp e2
        intro H' α' v E S' r'
        obtain ⟨f1, f2, f3, f4⟩ := step H' α' μ4 kvs' E S' h1
        exact ⟨f1, k _ α' v f2 f3 (Rep.low f4 _ _ r')⟩
    · exact .inr ⟨α, ρ, μ, o, S, R, e, k⟩
    · cases e
  · cases e
end DL
namespace BS
open PySem PySem.Spec PyProof.Rows L2 DL
end BS
namespace BS
open PySem PySem.Spec PyProof.Rows L2 DL
end BS
namespace DL
open PySem PySem.Spec PyProof.Rows L2
end DL
namespace DL
open PySem PySem.Spec PyProof.Rows L2
end DL
namespace BS
open PySem PySem.Spec PyProof.Rows L2 DL
def F_law_lowest : GN := fDef 2 4 (fSeq (fPar 2 3 (fCons (fCB cAbs (fCons (fVar 0) fNil)) (fCons (fCB cAbs (fCons (fVar 1) fNil)) fNil)))
    (fSeq (fWhile fuelE (fB (fBin opNe (fVar 3) (fC (.int 0)))) (fPar 2 3 (fCons (fVar 3) (fCons (fBin opMod (fCB cInt (fCons (fVar 2) fNil)) (fVar 3)) fNil))))
    (fRet (fIf (fB (fBin opGt (fVar 1) (fC (.int 0)))) (fTup (fCons (fBin opFdiv (fVar 0) (fVar 2)) (fCons (fBin opFdiv (fVar 1) (fVar 2)) fNil))) (fTup (fCons (fBin opSub (fC (.int 0)) (fBin opFdiv (fVar 0) (fVar 2))) (fCons (fBin opSub (fC (.int 0)) (fBin opFdiv (fVar 1) (fVar 2))) fNil)))))))
def F_law_plus_2 : GN := fDef 2 2 (fRet (fCB F_law_lowest (fCons (fBin opAddX (fBin opMulX (fBin opIx (fVar 0) (fC (.int 0))) (fBin opIx (fVar 1) (fC (.int 1)))) (fBin opMulX (fBin opIx (fVar 1) (fC (.int 0))) (fBin opIx (fVar 0) (fC (.int 1))))) (fCons (fBin opMulX (fBin opIx (fVar 0) (fC (.int 1))) (fBin opIx (fVar 1) (fC (.int 1)))) fNil))))
def F_law_clean : GN := fDef 1 3 (fSeq (fAsg fDic (gNm 1))
    (fSeq (fLock 0 (fForN (nKey (fVar 0)) (gNm 2) (fIfS (fB (fBin opNe (fBin opIx (fBin opDix (fVar 0) (fVar 2)) (fC (.int 0))) (fC (.int 0)))) (fAsg (fBin opDix (fVar 0) (fVar 2)) (gSb (fVar 1) (fVar 2))) fSkip)))
    (fRet (fVar 1))))
def F_law_sum_2 : GN := fDef 2 4 (fSeq (fAsg fDic (gNm 2))
    (fSeq (fLock 0 (fForN (nKey (fVar 0)) (gNm 3) (fAsg (fBin opDix (fVar 0) (fVar 3)) (gSb (fVar 2) (fVar 3)))))
    (fSeq (fLock 1 (fForN (nKey (fVar 1)) (gNm 3) (fAsg (fIf (fB (fBin opDin (fVar 3) (fVar 2))) (fCB F_law_plus_2 (fCons (fBin opDix (fVar 2) (fVar 3)) (fCons (fBin opDix (fVar 1) (fVar 3)) fNil))) (fBin opDix (fVar 1) (fVar 3))) (gSb (fVar 2) (fVar 3)))))
    (fRet (fCB F_law_clean (fCons (fVar 2) fNil))))))
end BS
namespace DL
open PySem PySem.Spec PyProof.Rows L2
end DL
namespace BS
open PySem PySem.Spec PyProof.Rows L2 DL
end BS
namespace DL
open PySem PySem.Spec PyProof.Rows L2
def pairOf : D → Option (D × D)
  | .tup [k, v] => some (k, v)
  | _ => none
def pairsOf : List D → Option (List (D × D))
  | [] => some []
  | d :: ds => match pairOf d, pairsOf ds with
    | some a, some b => some (a :: b)
    | _, _ => none
def cDict : GN
  | [.loc n], μ => (((lstAt μ n).bind pairsOf).bind keysOf).map fun kvs => (.loc μ.length, μ ++ [.dic (mergeD [] kvs)])
  | _, _ => none
theorem pairs_rep {K : PySem.W.Frag} {H : Hp} {α : List Addr} : ∀ {ds : List D} {ys : List V} {ps : List (D × D)} {kvs : List (Key × D)}, pairsOf ds = some ps → keysOf ps = some kvs → Reps K H α ds ys →
    ∃ (as : List Addr) (kv : List (Key × V)), ys = as.map V.ref ∧ Paired (fun p (q : Key × V) => SqT K H p [kV q.1, q.2]) as kv ∧ DicR K H α kvs kv
  | [], ys, ps, kvs, h, h2, r => by
    cases h
    cases h2
    cases (show ys = [] from r)
    exact ⟨[], [], rfl, .nil, .nil⟩
  | d :: ds, ys, ps, kvs, h, h2, r => by
    unfold pairsOf at h
    split at h
    · rename_i a b h3 h4
      cases h
      unfold keysOf at h2
      split at h2
      · rename_i kk r' h5 h6
        cases h2
        obtain ⟨v, vs, rfl, r1, r2⟩ := r
        obtain ⟨as, kv, rfl, p1, dr⟩ := pairs_rep h4 h6 r2
        unfold pairOf at h3
        split at h3
        · cases h3
          obtain ⟨p, xs, rfl, q, rr⟩ := r1
          obtain ⟨v1, w1, rfl, e1, rr1⟩ := rr
          obtain ⟨v2, w2, rfl, e2, rr2⟩ := rr1
          cases (show w2 = [] from rr2)
          have e3 := keyOf_rep h5 e1
          subst e3
          exact ⟨p :: as, (kk, v2) :: kv, rfl, .cons q p1, DicR.cons e2 dr⟩
        · cases h3
      · cases h2
    · cases h
theorem dc_dict {X : Cx} (hc : X.calm = true) : CallR X (.type "dict") (cD X.K cDict) := by
  refine (call_dictP hc).imp ?_
  rintro xs H Q ⟨α, μ, ds, d, μ', S, r, e, k⟩
  unfold cDict at e
  split at e
  · obtain ⟨kvs, q, z⟩ := Option.map_eq_some_iff.mp e
    cases z
    obtain ⟨ps, q3, q4⟩ := Option.bind_eq_some_iff.mp q
    obtain ⟨ds', q1, q2⟩ := Option.bind_eq_some_iff.mp q3
    obtain ⟨v, _, rfl, h1, h2⟩ := r
    cases (show _ = _ from h2)
    obtain ⟨a, ys, rfl, sq, rr⟩ := S.sql q1 h1
    obtain ⟨as, kv, rfl, pr, dr⟩ := pairs_rep q2 q4 rr
    have dm := DicR.merge dr (DicR.nil (K := X.K) (H := H) (α := α))
    exact ⟨a, as, kv, rfl, sq, pr, k.dic S dm.1 dm.2⟩
  · cases e
end DL
namespace BS
open PySem PySem.Spec PyProof.Rows L2 DL
def F_law_well : GN := fDef 2 5 (fSeq (fAsg (fBin opAddX (fC (.int 60101)) (fBin opMulX (fC (.int 7349)) (fVar 1))) (gNm 2))
    (fSeq (fFor (iLst (fSl (fVar 0) fNoPart (fPart (fC (.int 10))))) (gNm 3) (fAsg (fBin opMod (fCB cInt (fCons (fBin opAddX (fBin opAddX (fBin opMulX (fVar 2) (fC (.int 48673))) (fBin opMod (fCB cInt (fCons (fVar 3) fNil)) (fC (.int 2147483563)))) (fC (.int 29))) fNil)) (fC (.int 2147483629))) (gNm 2)))
    (fSeq (fAsg (fIf (fB (fBin opLt (fVar 1) (fCB cLen (fCons (fVar 0) fNil)))) (fCB cAbs (fCons (fCB cInt (fCons (fBin opIx (fVar 0) (fVar 1)) fNil)) fNil)) (fBin opAddX (fC (.int 104711)) (fBin opMulX (fC (.int 31)) (fVar 1)))) (gNm 4))
    (fSeq (fAsg (fBin opMod (fCB cInt (fCons (fBin opAddX (fBin opAddX (fBin opMulX (fVar 2) (fC (.int 131))) (fBin opMulX (fBin opMod (fCB cInt (fCons (fVar 4) fNil)) (fC (.int 2147483549))) (fC (.int 6091)))) (fC (.int 11))) fNil)) (fC (.int 2147483629))) (gNm 2))
    (fRet (fLst (fCons (fIf (fB (fBin opGe (fVar 4) (fBin opPow (fC (.int 10)) (fC (.int 18))))) (fVar 4) (fC (.int 0))) (fCons (fVar 2) (fCons (fC (.int 0)) fNil)))))))))
def F_law_take : GN := fDef 2 3 (fSeq (fIfS (fB (fBin opGt (fBin opIx (fVar 0) (fC (.int 0))) (fC (.int 0)))) (fSeq (fAsg (fCB cDivmod (fCons (fBin opIx (fVar 0) (fC (.int 0))) (fCons (fVar 1) fNil))) (gTp 2 (gCn (gSb (fVar 0) (fC (.int 0))) (gCn (gNm 2) gNl))))
    (fRet (fVar 2))) fSkip)
    (fSeq (fAsg (fBin opAddX (fBin opIx (fVar 0) (fC (.int 2))) (fC (.int 1))) (gSb (fVar 0) (fC (.int 2))))
    (fSeq (fAsg (fBin opMod (fCB cInt (fCons (fBin opAddX (fBin opAddX (fBin opMulX (fBin opIx (fVar 0) (fC (.int 1))) (fBin opAddX (fC (.int 16807)) (fBin opMulX (fC (.int 2)) (fBin opIx (fVar 0) (fC (.int 2)))))) (fBin opMulX (fC (.int 7919)) (fBin opIx (fVar 0) (fC (.int 2))))) (fC (.int 3))) fNil)) (fC (.int 2147483647))) (gSb (fVar 0) (fC (.int 1))))
    (fRet (fBin opMod (fCB cInt (fCons (fBin opFdiv (fBin opMod (fCB cInt (fCons (fBin opMulX (fBin opIx (fVar 0) (fC (.int 1))) (fBin opAddX (fBin opIx (fVar 0) (fC (.int 1))) (fC (.int 17)))) fNil)) (fC (.int 2147483629))) (fC (.int 23))) fNil)) (fVar 1))))))
def F_law_pick_2 : GN := fDef 2 2 (fRet (fBin opIx (fVar 1) (fCB F_law_take (fCons (fVar 0) (fCons (fCB cLen (fCons (fVar 1) fNil)) fNil)))))
def F_law_rounds : GN := fDef 1 1 (fRet (fCB cMax (fCons (fC (.int 2)) (fCons (fCB cMin (fCons (fCB cLen (fCons (fVar 0) fNil)) (fCons (fC (.int 3)) fNil))) fNil))))
def F_law_common : GN := fDef 2 2 (fSeq (fPar 0 1 (fCons (fCB cAbs (fCons (fVar 0) fNil)) (fCons (fCB cAbs (fCons (fVar 1) fNil)) fNil)))
    (fSeq (fWhile fuelC (fB (fBin opGt (fVar 1) (fC (.int 0)))) (fPar 0 1 (fCons (fVar 1) (fCons (fBin opMod (fCB cInt (fCons (fVar 0) fNil)) (fVar 1)) fNil))))
    (fRet (fVar 0))))
def F_law_ratio : GN := fDef 2 3 (fSeq (fAsg (fCB F_law_common (fCons (fVar 0) (fCons (fVar 1) fNil))) (gNm 2))
    (fSeq (fAsg (fIf (fB (fBin opGt (fVar 1) (fC (.int 0)))) (fVar 2) (fBin opSub (fC (.int 0)) (fVar 2))) (gNm 2))
    (fRet (fTup (fCons (fBin opFdiv (fVar 0) (fVar 2)) (fCons (fBin opFdiv (fVar 1) (fVar 2)) fNil))))))
def F_law_sum_3 : GN := fDef 2 2 (fSeq (fIfS (fAnd (fB (fBin opEqM (fBin opIx (fVar 0) (fC (.int 1))) (fC (.int 1)))) (fB (fBin opEqM (fBin opIx (fVar 1) (fC (.int 1))) (fC (.int 1))))) (fRet (fTup (fCons (fBin opAddX (fBin opIx (fVar 0) (fC (.int 0))) (fBin opIx (fVar 1) (fC (.int 0)))) (fCons (fC (.int 1)) fNil)))) fSkip)
    (fRet (fCB F_law_ratio (fCons (fBin opAddX (fBin opMulX (fBin opIx (fVar 0) (fC (.int 0))) (fBin opIx (fVar 1) (fC (.int 1)))) (fBin opMulX (fBin opIx (fVar 1) (fC (.int 0))) (fBin opIx (fVar 0) (fC (.int 1))))) (fCons (fBin opMulX (fBin opIx (fVar 0) (fC (.int 1))) (fBin opIx (fVar 1) (fC (.int 1)))) fNil)))))
def F_law_product_2 : GN := fDef 2 2 (fSeq (fIfS (fAnd (fB (fBin opEqM (fBin opIx (fVar 0) (fC (.int 1))) (fC (.int 1)))) (fB (fBin opEqM (fBin opIx (fVar 1) (fC (.int 1))) (fC (.int 1))))) (fRet (fTup (fCons (fBin opMulX (fBin opIx (fVar 0) (fC (.int 0))) (fBin opIx (fVar 1) (fC (.int 0)))) (fCons (fC (.int 1)) fNil)))) fSkip)
    (fRet (fCB F_law_ratio (fCons (fBin opMulX (fBin opIx (fVar 0) (fC (.int 0))) (fBin opIx (fVar 1) (fC (.int 0)))) (fCons (fBin opMulX (fBin opIx (fVar 0) (fC (.int 1))) (fBin opIx (fVar 1) (fC (.int 1)))) fNil)))))
def F_law_cleared : GN := fDef 1 2 (fLock 0 (fRet (fCB cDict (fCons (fLcN (nKey (fVar 0)) (gNm 1) (fB (fBin opNe (fBin opIx (fBin opDix (fVar 0) (fVar 1)) (fC (.int 0))) (fC (.int 0)))) (fTup (fCons (fVar 1) (fCons (fBin opDix (fVar 0) (fVar 1)) fNil))) [1]) fNil))))
def F_law_line : GN := fDef 1 3 (fSeq (fIfS (fB (fBin opEqM (fVar 0) fDic)) (fRet (fTup (fCons (fC (.int 0)) (fCons (fTup fNil) fNil)))) fSkip)
    (fSeq (fAsg (fCB cMin (fCons (fCB cList (fCons (fVar 0) fNil)) fNil)) (gNm 1))
    (fRet (fTup (fCons (fVar 1) (fCons (fCB cTuple (fCons (fLc (iRng2' (fCons (fVar 1) (fCons (fBin opAddX (fCB cMax (fCons (fCB cList (fCons (fVar 0) fNil)) fNil)) (fC (.int 1))) fNil))) (gNm 2) fYes (fGet2 (fVar 0) (fVar 2) (fTup (fCons (fC (.int 0)) (fCons (fC (.int 1)) fNil)))) [2]) fNil)) fNil))))))
def F_law_plus_3 : GN := fDef 2 4 (fSeq (fLock 0 (fAsg (fCB cDict (fCons (fLcN (nKey (fVar 0)) (gNm 3) fYes (fTup (fCons (fVar 3) (fCons (fBin opDix (fVar 0) (fVar 3)) fNil))) [3]) fNil)) (gNm 2)))
    (fSeq (fLock 1 (fForN (nKey (fVar 1)) (gNm 3) (fAsg (fCB F_law_sum_3 (fCons (fGet2 (fVar 2) (fVar 3) (fTup (fCons (fC (.int 0)) (fCons (fC (.int 1)) fNil)))) (fCons (fBin opDix (fVar 1) (fVar 3)) fNil))) (gSb (fVar 2) (fVar 3)))))
    (fRet (fCB F_law_cleared (fCons (fVar 2) fNil)))))
def F_law_scaled_3 : GN := fDef 2 3 (fLock 0 (fRet (fCB F_law_cleared (fCons (fCB cDict (fCons (fLcN (nKey (fVar 0)) (gNm 2) fYes (fTup (fCons (fVar 2) (fCons (fCB F_law_product_2 (fCons (fBin opDix (fVar 0) (fVar 2)) (fCons (fVar 1) fNil))) fNil))) [2]) fNil)) fNil))))
def F_law_later : GN := fDef 2 3 (fLock 0 (fRet (fCB cDict (fCons (fLcN (nKey (fVar 0)) (gNm 2) fYes (fTup (fCons (fBin opAddX (fVar 2) (fVar 1)) (fCons (fBin opDix (fVar 0) (fVar 2)) fNil))) [2]) fNil))))
def F_law_number : GN := fDef 1 3 (fSeq (fAsg (fIf (fB (fBin opGt (fCB F_law_take (fCons (fVar 0) (fCons (fC (.int 8)) fNil))) (fC (.int 0)))) (fBin opAddX (fC (.int 1)) (fCB F_law_take (fCons (fVar 0) (fCons (fC (.int 5)) fNil)))) (fBin opAddX (fC (.int 1)) (fCB F_law_take (fCons (fVar 0) (fCons (fBin opPow (fC (.int 10)) (fC (.int 9))) fNil))))) (gNm 1))
    (fSeq (fAsg (fCB F_law_pick_2 (fCons (fVar 0) (fCons (fTup (fCons (fC (.int 1)) (fCons (fC (.int 1)) (fCons (fC (.int 1)) (fCons (fC (.int 2)) (fCons (fC (.int 2)) (fCons (fC (.int 3)) (fCons (fC (.int 4)) (fCons (fC (.int 7)) fNil))))))))) fNil))) (gNm 2))
    (fRet (fCB F_law_ratio (fCons (fIf (fB (fBin opEqM (fCB F_law_take (fCons (fVar 0) (fCons (fC (.int 2)) fNil))) (fC (.int 0)))) (fVar 1) (fBin opSub (fC (.int 0)) (fVar 1))) (fCons (fVar 2) fNil))))))
def F_law_draw : GN := fDef 2 6 (fSeq (fPar 3 4 (fCons (fCB F_law_pick_2 (fCons (fVar 0) (fCons (fTup (fCons (fC (.int 0)) (fCons (fC (.int 0)) (fCons (fC (.int 0)) (fCons (fC (.int 1)) (fCons (fUn unNeg (fC (.int 1))) (fCons (fC (.int 2)) (fCons (fUn unNeg (fC (.int 3))) (fCons (fC (.int 4)) (fCons (fUn unNeg (fC (.int 700))) (fCons (fC (.int 650)) fNil))))))))))) fNil))) (fCons (fBin opAddX (fC (.int 1)) (fCB F_law_take (fCons (fVar 0) (fCons (fVar 1) fNil)))) fNil)))
    (fSeq (fAsg (fLc (iRng2' (fCons (fBin opAddX (fVar 3) (fC (.int 1))) (fCons (fBin opSub (fBin opAddX (fVar 3) (fVar 4)) (fC (.int 1))) fNil))) (gNm 5) (fB (fBin opGt (fCB F_law_take (fCons (fVar 0) (fCons (fC (.int 4)) fNil))) (fC (.int 0)))) (fVar 5) [5]) (gNm 2))
    (fRet (fCB cDict (fCons (fLc (iLst (fBin opAddX (fBin opAddX (fLst (fCons (fVar 3) fNil)) (fVar 2)) (fIf (fB (fBin opGt (fVar 4) (fC (.int 1)))) (fLst (fCons (fBin opSub (fBin opAddX (fVar 3) (fVar 4)) (fC (.int 1))) fNil)) (fLst fNil)))) (gNm 5) fYes (fTup (fCons (fVar 5) (fCons (fCB F_law_number (fCons (fVar 0) fNil)) fNil))) [5]) fNil)))))
end BS
namespace DL
open PySem PySem.Spec PyProof.Rows L2
end DL
namespace BS
open PySem PySem.Spec PyProof.Rows L2 DL
def F_law_less_2 : GN := fDef 2 2 (fRet (fCB F_law_plus_3 (fCons (fVar 0) (fCons (fCB F_law_scaled_3 (fCons (fVar 1) (fCons (fTup (fCons (fUn unNeg (fC (.int 1))) (fCons (fC (.int 1)) fNil))) fNil))) fNil))))
end BS
namespace BS
open PySem PySem.Spec PyProof.Rows L2 DL
end BS
namespace DL
open PySem PySem.Spec PyProof.Rows L2
end DL
namespace BS
open PySem PySem.Spec PyProof.Rows L2 DL
end BS
namespace DL
open PySem PySem.Spec PyProof.Rows L2
end DL
namespace BS
open PySem PySem.Spec PyProof.Rows L2 DL
end BS
namespace DL
open PySem PySem.Spec PyProof.Rows L2
end DL
namespace DL
open PySem PySem.Spec PyProof.Rows L2
end DL
namespace BS
open PySem PySem.Spec PyProof.Rows L2 DL
end BS
namespace BS
open PySem PySem.Spec PyProof.Rows L2 DL
def F_law_total : GN := fDef 1 3 (fSeq (fAsg (fTup (fCons (fC (.int 0)) (fCons (fC (.int 1)) fNil))) (gNm 1))
    (fSeq (fFor (iLst (fVar 0)) (gNm 2) (fAsg (fCB F_law_sum_3 (fCons (fVar 1) (fCons (fVar 2) fNil))) (gNm 1)))
    (fRet (fVar 1))))
end BS
namespace DL
open PySem PySem.Spec PyProof.Rows L2
end DL
namespace BS
open PySem PySem.Spec PyProof.Rows L2 DL
end BS
namespace BS
open PySem PySem.Spec PyProof.Rows L2 DL
end BS
namespace DL
open PySem PySem.Spec PyProof.Rows L2
def dropD (kvs : List (Key × D)) (k : Key) : List (Key × D) := kvs.filter fun kv => decide (kv.1 ≠ k)
section
variable {K : PySem.W.Frag} {H : Hp} {α : List Addr}
theorem DicR.drop {k : Key} : ∀ {kvs : List (Key × D)} {kv : List (Key × V)}, DicR K H α kvs kv → DicR K H α (dropD kvs k) (dropK kv k)
  | [], kv, h => by rw [h.nil_inv]; exact .nil
  | p :: kvs, kv, h => by
    obtain ⟨v', r', rfl, r1, r2⟩ := h.inv
    unfold dropD dropK
    by_cases e : p.1 = k
    · simp only [List.filter_cons, e, ne_eq, not_true_eq_false, decide_false, Bool.false_eq_true, if_false]; exact r2.drop
    · simp only [List.filter_cons, e, ne_eq, not_false_eq_true, decide_true, if_true]; exact DicR.cons r1 r2.drop
end
end DL
namespace BS
open PySem PySem.Spec PyProof.Rows L2 DL
end BS
namespace BS
open PySem PySem.Spec PyProof.Rows L2 DL
end BS
namespace DL
open PySem PySem.Spec PyProof.Rows L2
open PySem.SeqAt (EqAt RcAt RcNeAt)
end DL
namespace BS
open PySem PySem.Spec PyProof.Rows L2 DL
end BS
namespace BS
open PySem PySem.Spec PyProof.Rows L2 DL
end BS
namespace BS
open PySem PySem.Spec PyProof.Rows L2 DL
end BS
namespace DL
open PySem PySem.Spec PyProof.Rows L2
def lenS (μ : Sto) : Option D → Nat
  | some (.loc m) => ((lstAt μ m).getD []).length
  | _ => 0
def fuelN : Sl → Sto → Nat := fun ρ μ => (ρ.map (lenS μ)).sum + 1
end DL
namespace BS
open PySem PySem.Spec PyProof.Rows L2 DL
def F_law_power_2 : GN := fDef 2 4 (fSeq (fAsg (fC (.int 1)) (gNm 2))
    (fSeq (fFor (iRng1' (fCons (fVar 1) fNil)) (gNm 3) (fAsg (fBin opMulX (fVar 2) (fVar 0)) (gNm 2)))
    (fRet (fVar 2))))
end BS
namespace DL
open PySem PySem.Spec PyProof.Rows L2
end DL
namespace BS
open PySem PySem.Spec PyProof.Rows L2 DL
def F_law_made : GN := fDef 3 4 (fLock 0 (fRet (fCB F_law_total (fCons (fLcN (nKey (fVar 0)) (gNm 3) fYes (fCB F_law_product_2 (fCons (fBin opDix (fVar 0) (fVar 3)) (fCons (fTup (fCons (fCB F_law_power_2 (fCons (fBin opSub (fVar 1) (fVar 3)) (fCons (fVar 2) fNil))) (fCons (fC (.int 1)) fNil))) fNil))) [3]) fNil))))
end BS
namespace BS
open PySem PySem.Spec PyProof.Rows L2 DL
end BS
namespace DL
open PySem PySem.Spec PyProof.Rows L2
/-- xs.pop() -/
def fPopL (fo : EF) : EF := fun ρ μ => (fo ρ μ).bind fun p => match p.1 with
  | .loc n => match p.2[n]? with
    | some (.lst ds) => (ds[ds.length - 1]?).map fun d => (d, p.2.set n (.lst ds.dropLast))
    | _ => none
  | _ => none
section
variable {X : Cx}
theorem Reps.dropLast {K : PySem.W.Frag} {H : Hp} {α : List Addr} : ∀ {ds : List D} {xs : List V}, Reps K H α ds xs → Reps K H α ds.dropLast xs.dropLast := fun {ds xs} r => by
  rw [List.dropLast_eq_take, List.dropLast_eq_take, ← r.length]
  exact r.take _
theorem de_popL {o : Expr} {apos cpos : Pos} {fo : EF} (ho : PE X o (tE X.K fo))
    (hbase : attributeBase o "pop" X.env (eval o X.env) = eval o X.env := by rfl) (hline : (apos.endLine == cpos.line) = true := by rfl) : PE X (.Call (.Attribute o "pop" apos) [] [] cpos) (tE X.K (fPopL fo)) := by
  refine (pe_bm0 PySem.F.plainAttrs_list PySem.F.slot_list_pop PySem.F.type_list_pop mt_pop ho hbase hline).imp ?_
  rintro σ H Q ⟨α, ρ, μ, d, μ', S, R, e, k⟩
  obtain ⟨⟨x, μ1⟩, e1, e2⟩ := Option.bind_eq_some_iff.mp e
  simp only at e2
  split at e2
  · rename_i n
    split at e2
    · rename_i ds h0
      obtain ⟨dd, h3, h4⟩ := Option.map_eq_some_iff.mp e2
      cases h4
      refine ⟨α, ρ, μ, _, μ1, S, R, e1, fun H1 α1 v E1 S1 r1 => ?_⟩
      obtain ⟨p, rfl, q⟩ := r1
      obtain ⟨ys, hx, rr⟩ := S1.ob _ _ _ q h0
      obtain ⟨vv, v1, v2⟩ := rr.get h3
      have nt : Nw H1 p := nt_lst hx
      refine ⟨.inl ⟨rfl, _, SqL.of hx⟩, p, ys, vv, rfl, rfl, hx, by rw [← rr.length]; exact v1, ?_⟩
      exact k _ α1 _ (E1.trans (ext_write nt)) (S1.write q nt ⟨_, upd_same, (Reps.dropLast rr).up (ext_write nt)⟩) (v2.up (ext_write nt))
    · cases e2
  · cases e2
end
end DL
namespace BS
open PySem PySem.Spec PyProof.Rows L2 DL
end BS
namespace DL
open PySem PySem.Spec PyProof.Rows L2
end DL
namespace BS
open PySem PySem.Spec PyProof.Rows L2 DL
end BS
namespace BS
open PySem PySem.Spec PyProof.Rows L2 DL
end BS
namespace DL
open PySem PySem.Spec PyProof.Rows L2
def cComb : GN
  | [.int a, .int b], μ => if 0 ≤ b ∧ b ≤ a ∧ a ≤ 20 then some (.int (PySem.W.mcComb a b), μ) else none
  | _, _ => none
theorem cComb_some {ds : List D} {d : D} {μ μ' : Sto} (e : cComb ds μ = some (d, μ')) : ∃ a b : Int, ds = [.int a, .int b] ∧ (0 ≤ b ∧ b ≤ a ∧ a ≤ 20) ∧ d = .int (PySem.W.mcComb a b) ∧ μ' = μ := by
  unfold cComb at e
  split at e
  · split at e
    · rename_i hz
      cases e
      exact ⟨_, _, rfl, hz, rfl, rfl⟩
    · cases e
  · cases e
section
variable {X : Cx}
theorem dc_comb : CallR X (.builtin "math.comb") (cD X.K cComb) := by
  intro pins s σ H vs us Q I r h
  obtain ⟨α, μ, ds, d, μ', S, rs, e, k⟩ := h
  obtain ⟨a, b, rfl, hz, rfl, rfl⟩ := cComb_some e
  clear e
  obtain ⟨v, _, rfl, h1, w, _, rfl, h2, h3⟩ := rs
  cases (show v = _ from h1); cases (show w = _ from h2); cases (show _ = _ from h3)
  obtain ⟨t, u, rfl⟩ := Vals.int2 r
  have sz := PySem.W.mcComb_size (a := a) (b := b) hz.1 hz.2.1 (by omega) (by omega)
  have mm : Builtin.Math.maxSsize = 9223372036854775807 := by decide +kernel
  have e := PySem.W.mcComb_at (a := a) (b := b) hz.1 hz.2.1 rfl
  rw [e] at sz k
  have mf : Builtin.Math.manyFactors = 20000 := rfl
  have g := PySem.W.mc_run_comb a t b u (by omega) (by omega) (by omega) (by rw [mm]; omega) (by rw [mf]; omega) (by omega) sz
  exact call_function_meets PySem.W.MGF.kind_comb PySem.W.MGF.plain_comb PySem.W.MGF.entry_comb (PySem.W.MGF.args_comb _ _) g.meets ⟨.int _, H, I.tok _, ⟨_, rfl⟩, kont_self k S rfl⟩
end
end DL
namespace BS
open PySem PySem.Spec PyProof.Rows L2 DL
def F_without_top : GN := fDef 1 1 (fRet (fSl (fVar 0) fNoPart (fPart (fBin opIx (fCB F_span_without (fCons (fVar 0) (fCons (fC (.int 0)) fNil))) (fC (.int 1))))))
def F_moment_of : GN := fDef 3 7 (fSeq (fAsg (fVar 0) (gNm 3))
    (fSeq (fFor (iRng1' (fCons (fVar 2) fNil)) (gNm 4) (fAsg (fLcN (nEnL (fCons (fVar 3) fNil)) (gTp 2 (gCn (gNm 5) (gCn (gNm 6) gNl))) fYes (fBin opMulX (fVar 6) (fBin opSub (fVar 1) (fVar 5))) [5, 6]) (gNm 3)))
    (fRet (fCB cSum (fCons (fVar 3) fNil)))))
def F_on_power : GN := fDef 2 8 (fSeq (fDrop (fCB F_need_row (fCons (fVar 0) fNil)))
    (fSeq (fDrop (fCB F_need_whole_between (fCons (fVar 1) (fCons (fC (.int 0)) (fCons (fC (.int 8)) fNil)))))
    (fSeq (fAsg (fCB F_over_one_bottom (fCons (fBin opIx (fVar 0) (fC (.int 1))) fNil)) (gTp 2 (gCn (gNm 4) (gCn (gNm 5) gNl))))
    (fSeq (fAsg (fLst fNil) (gNm 2))
    (fSeq (fFor (iRng1' (fCons (fBin opAddX (fVar 1) (fC (.int 1))) fNil)) (gNm 3) (fSeq (fAsg (fCB F_moment_of (fCons (fVar 4) (fCons (fUn unNeg (fBin opIx (fVar 0) (fC (.int 0)))) (fCons (fBin opSub (fVar 1) (fVar 3)) fNil)))) (gNm 6))
    (fDrop (fML mAppend (fVar 2) (fCons (fBin opMulX (fCB cComb (fCons (fVar 1) (fCons (fVar 3) fNil))) (fVar 6)) fNil)))))
    (fRet (fCB cTuple (fCons (fLc (iLst (fCB F_without_top (fCons (fVar 2) fNil))) (gNm 7) fYes (fCB F_reduced (fCons (fVar 7) (fCons (fVar 5) fNil))) [7]) fNil))))))))
def F_law_choices : GN := fDef 1 4 (fSeq (fAsg (fLst (fCons (fC (.int 1)) fNil)) (gNm 1))
    (fSeq (fFor (iRng1' (fCons (fVar 0) fNil)) (gNm 2) (fAsg (fBin opAddX (fBin opAddX (fLst (fCons (fC (.int 1)) fNil)) (fLc (iRng1' (fCons (fBin opSub (fCB cLen (fCons (fVar 1) fNil)) (fC (.int 1))) fNil)) (gNm 3) fYes (fBin opAddX (fBin opIx (fVar 1) (fVar 3)) (fBin opIx (fVar 1) (fBin opAddX (fVar 3) (fC (.int 1))))) [3])) (fLst (fCons (fC (.int 1)) fNil))) (gNm 1)))
    (fRet (fVar 1))))
def F_law_polynomial : GN := fDef 2 7 (fSeq (fAsg (fLst fNil) (gNm 2))
    (fSeq (fForN (nEnL (fCons (fCB F_law_choices (fCons (fVar 1) fNil)) fNil)) (gTp 2 (gCn (gNm 3) (gCn (gNm 4) gNl))) (fSeq (fLock 0 (fAsg (fCB F_law_total (fCons (fLcN (nKey (fVar 0)) (gNm 6) fYes (fCB F_law_product_2 (fCons (fBin opDix (fVar 0) (fVar 6)) (fCons (fTup (fCons (fCB F_law_power_2 (fCons (fBin opSub (fC (.int 0)) (fVar 6)) (fCons (fBin opSub (fVar 1) (fVar 3)) fNil))) (fCons (fC (.int 1)) fNil))) fNil))) [6]) fNil)) (gNm 5)))
    (fDrop (fML mAppend (fVar 2) (fCons (fCB F_law_product_2 (fCons (fVar 5) (fCons (fTup (fCons (fVar 4) (fCons (fC (.int 1)) fNil))) fNil))) fNil)))))
    (fSeq (fWhile fuelN (fAnd (fB (fBin opNe (fVar 2) (fLst fNil))) (fB (fBin opEqM (fBin opIx (fBin opIx (fVar 2) (fUn unNeg (fC (.int 1)))) (fC (.int 0))) (fC (.int 0))))) (fDrop (fPopL (fVar 2))))
    (fRet (fCB cTuple (fCons (fVar 2) fNil))))))
def F_law_worth : GN := fDef 2 3 (fRet (fCB F_law_total (fCons (fLc (iRng1' (fCons (fCB cLen (fCons (fVar 0) fNil)) fNil)) (gNm 2) fYes (fCB F_law_product_2 (fCons (fBin opIx (fVar 0) (fVar 2)) (fCons (fTup (fCons (fCB F_law_power_2 (fCons (fVar 1) (fCons (fVar 2) fNil))) (fCons (fC (.int 1)) fNil))) fNil))) [2]) fNil)))
def F_law_right_28 : GN := fDef 1 9 (fSeq (fAsg (fCB F_law_draw (fCons (fVar 0) (fCons (fC (.int 5)) fNil))) (gNm 1))
    (fSeq (fFor (iRng1' (fCons (fCB F_law_take (fCons (fVar 0) (fCons (fC (.int 4)) fNil))) fNil)) (gNm 2) (fAsg (fCB F_law_less_2 (fCons (fVar 1) (fCons (fCB F_law_later (fCons (fVar 1) (fCons (fC (.int 1)) fNil))) fNil))) (gNm 1)))
    (fSeq (fAsg (fIf (fB (fBin opEqM (fCB F_law_take (fCons (fVar 0) (fCons (fC (.int 16)) fNil))) (fC (.int 0)))) fDic (fVar 1)) (gNm 1))
    (fSeq (fPar 4 5 (fCons (fCB F_law_line (fCons (fVar 1) fNil)) (fCons (fBin opSub (fCB F_law_take (fCons (fVar 0) (fCons (fC (.int 2000)) fNil))) (fC (.int 1000))) fNil)))
    (fSeq (fFor (iLst (fLst (fCons (fCB F_law_take (fCons (fVar 0) (fCons (fC (.int 4)) fNil))) (fCons (fBin opAddX (fC (.int 3)) (fCB F_law_take (fCons (fVar 0) (fCons (fC (.int 6)) fNil)))) fNil)))) (gNm 3) (fSeq (fAsg (fCB F_law_polynomial (fCons (fVar 1) (fCons (fVar 3) fNil))) (gNm 6))
    (fSeq (fAsg (fCB F_on_power (fCons (fVar 4) (fCons (fVar 3) fNil))) (gNm 7))
    (fSeq (fIfS (fB (fBin opNe (fCB cReprN (fCons (fLst (fCons (fVar 7) (fCons (fCB F_on_power (fCons (fVar 4) (fCons (fVar 3) fNil))) fNil))) fNil)) (fCB cReprN (fCons (fLst (fCons (fVar 6) (fCons (fVar 6) fNil))) fNil)))) (fRet (fC (.bl false))) fSkip)
    (fIfS (fB (fBin opNe (fLc (iVal (fTup (fCons (fC (.int 0)) (fCons (fC (.int 1)) (fCons (fUn unNeg (fC (.int 1))) (fCons (fC (.int 2)) (fCons (fVar 5) fNil))))))) (gNm 8) (fB (fBin opNe (fCB F_law_worth (fCons (fVar 7) (fCons (fVar 8) fNil))) (fCB F_law_made (fCons (fVar 1) (fCons (fVar 8) (fCons (fVar 3) fNil)))))) (fVar 8) [8]) (fLst fNil))) (fRet (fC (.bl false))) fSkip)))))
    (fRet (fC (.bl true))))))))
def F_law_28 : GN := fDef 1 2 (fRet (fCB cAll (fCons (fLc (iRng1' (fCons (fCB F_law_rounds (fCons (fVar 0) fNil)) fNil)) (gNm 1) fYes (fCB F_law_right_28 (fCons (fCB F_law_well (fCons (fVar 0) (fCons (fVar 1) fNil))) fNil)) [1]) fNil)))
end BS
namespace QA
open PySem PySem.Spec PyProof.Rows L2 DL
inductive Kd (h : Heap) : Value → String → Prop
  | non : Kd h .none "NoneType"
  | bl (b : Bool) : Kd h (.bool b) "bool"
  | int (n : Int) (t : Tok) : Kd h (.int n t) "int"
  | str (x : Str) (t : Tok) : Kd h (.str x t) "str"
  | tup {a : Addr} {o : Obj} : h.get? a = some o → o.cls = .type "tuple" → Kd h (.ref a) "tuple"
  | lst {a : Addr} {o : Obj} : h.get? a = some o → o.cls = .type "list" → Kd h (.ref a) "list"
  | dic {a : Addr} {o : Obj} : h.get? a = some o → o.cls = .type "dict" → Kd h (.ref a) "dict"
theorem Kd.keeps {h h' : Heap} {u : Value} {T : String} (k : ∀ b o, h.get? b = some o → h'.get? b = some o) (x : Kd h u T) : Kd h' u T := by
  cases x with
  | non => exact .non
  | bl b => exact .bl b
  | int n t => exact .int n t
  | str n t => exact .str n t
  | tup e c => exact .tup (k _ _ e) c
  | lst e c => exact .lst (k _ _ e) c
  | dic e c => exact .dic (k _ _ e) c
theorem Kd.mem {h : Heap} {u : Value} {T : String} (x : Kd h u T) : T ∈ kinds := by cases x <;> decide
theorem Kd.kit {K : PySem.W.Frag} {h : Heap} {u : Value} {T : String} (x : Kd h u T) : ∃ P : Heap → Prop, PySem.W.KitX K u (.type T) P ∧ P h ∧ u ≠ .builtin "__main__.__loader__#opaque" := by
  cases x with
  | non => exact ⟨_, PySem.W.kitx_none, True.intro, fun z => nomatch z⟩
  | bl b => exact ⟨_, PySem.W.kitx_bool, True.intro, fun z => nomatch z⟩
  | int n t => exact ⟨_, PySem.W.kitx_int, True.intro, fun z => nomatch z⟩
  | str n t => exact ⟨_, PySem.W.kitx_str, True.intro, fun z => nomatch z⟩
  | tup e c => exact ⟨_, PySem.W.kitx_tuple, ⟨_, e, c⟩, fun z => nomatch z⟩
  | lst e c => exact ⟨_, PySem.W.kitx_list, ⟨_, e, c⟩, fun z => nomatch z⟩
  | dic e c => exact ⟨_, PySem.W.kitx_dict, ⟨_, e, c⟩, fun z => nomatch z⟩
theorem Kd.keepC {h h' : Heap} {u : Value} {T : String} (k : ∀ b o, o.cls ≠ .none → h.get? b = some o → h'.get? b = some o) (x : Kd h u T) : Kd h' u T := by
  have no : ∀ {o : Obj} {T : String}, o.cls = .type T → o.cls ≠ .none := fun e z => by rw [e] at z; cases z
  cases x with
  | non => exact .non
  | bl b => exact .bl b
  | int n t => exact .int n t
  | str n t => exact .str n t
  | tup e c => exact .tup (k _ _ (no c) e) c
  | lst e c => exact .lst (k _ _ (no c) e) c
  | dic e c => exact .dic (k _ _ (no c) e) c
theorem tupC {h h' : Heap} {a : Addr} {vs : Array Value} (k : ∀ b o, o.cls ≠ .none → h.get? b = some o → h'.get? b = some o) (x : IsTup h a vs) : IsTup h' a vs := by
  obtain ⟨o, e, c, r⟩ := x
  exact ⟨o, k _ _ (fun z => by rw [c] at z; cases z) e, c, r⟩
/-- a def that tells a bool of a value -/
structure Tells (P : Program) (w : World) (K : PySem.W.Frag) (mg : Str → Option Value) (base : Heap) (x : Str) (dp : Nat) (R : Heap → Value → Bool → Prop) : Prop where
  ex : ∃ f : Addr, mg x = some (.ref f) ∧ PySem.W.keepIn K (.ref f) = true ∧ ∀ (A : Around) (s : Shared) (u : Value) (b : Bool), Mod K mg base → A.handled = none → A.depth + dp < recursionLimit → (∀ c o, base.get? c = some o → s.heap.get? c = some o) → R s.heap u b →
    codeAny (model P w) A (.call (.ref f) ⟨[u], []⟩) (fun r s' => r = .ok (.ret (.bool b)) ∧ Keeps s s') s
  keep : ∀ (h h' : Heap) (u : Value) (b : Bool), (∀ b o, o.cls ≠ .none → h.get? b = some o → h'.get? b = some o) → R h u b → R h' u b
/-- a def's frame: names, and what stands below -/
structure EnvG (env : Env) : Prop where
  kind : env.scope.kind = .function
  glob : env.globals = mainGlobals
structure EnvF (env : Env) : Prop extends EnvG env where
  blt : env.builtins = builtinsNs
structure SF (K : PySem.W.Frag) (mg : Str → Option Value) (base : Heap) (env : Env) (m : Str → Option Value) (h : Heap) : Prop where
  mod : Mod K mg base
  bk : ∀ b o, base.get? b = some o → h.get? b = some o
  ns : h.Ns env.locals m
section
variable {prog : Program} {w : World} {K : PySem.W.Frag} {mg : Str → Option Value} {base : Heap} {env : Env} {m : Str → Option Value} {A : Around} {E : Value → Shared → Prop} {s : Shared}
theorem SF.kin {h : Heap} (S : SF K mg base env m h) : K.In h := S.mod.kin.keeps S.bk
theorem SF.keeps {h h' : Heap} (S : SF K mg base env m h) (k : ∀ b o, h.get? b = some o → h'.get? b = some o) : SF K mg base env m h' :=
  ⟨S.mod, fun b o e => k b o (S.bk b o e), S.ns.at' fun o e => k _ o e⟩
theorem nmL {x : Str} {p : Pos} {u : Value} {Q : Value → Shared → Prop} (V : EnvG env) (S : SF K mg base env m s.heap) (hx : m x = some u) (lx : env.kindOf x = some .local) (h : Q u s)
    (hd : (x == ("__debug__" : Str)) = false := by decide) : wpAny (model prog w) A (eval (.Name x p) env) Q E s :=
  wpAny_Name (wpAny_loadName_local V.kind lx S.ns hx h) hd
theorem nmG {x : Str} {p : Pos} {u : Value} {Q : Value → Shared → Prop} (V : EnvG env) (S : SF K mg base env m s.heap) (hm : mg x = some u) (lx : env.kindOf x = some .globalImplicit) (h : Q u s)
    (hd : (x == ("__debug__" : Str)) = false := by decide) : wpAny (model prog w) A (eval (.Name x p) env) Q E s :=
  Calls.Name_function_global V.kind lx (Calls.loadGlobal_global (by rw [V.glob]; exact S.mod.glob.keeps S.bk) hm h) hd
theorem nmB {x : Str} {p : Pos} {u : Value} {Q : Value → Shared → Prop} (V : EnvF env) (S : SF K mg base env m s.heap) (hm : mg x = none) (hv : bootBuiltins x = some u) (lx : env.kindOf x = some .globalImplicit) (h : Q u s)
    (hn : x ≠ "__name__" := by decide) (hd : (x == ("__debug__" : Str)) = false := by decide) : wpAny (model prog w) A (eval (.Name x p) env) Q E s := by
  obtain ⟨mb, h1, h2⟩ := S.mod.blt
  exact Calls.Name_function_global V.kind lx (Calls.loadGlobal_builtin (by rw [V.glob]; exact S.mod.glob.keeps S.bk) hm (by rw [V.blt]; exact h1.keeps S.bk) ((h2 x hn).trans hv) h) hd
/-- isinstance(x, t) -/
theorem qIsi {x tn : Str} {t T : String} {p1 p2 p3 p4 : Pos} {u : Value} {Q : Value → Shared → Prop} (V : EnvF env) (S : SF K mg base env m s.heap) (mi : mg "isinstance" = none) (mt : mg tn = none) (bt : bootBuiltins tn = some (.type t)) (ht : t ∈ kinds)
    (hx : m x = some u) (k : Kd s.heap u T) (lx : env.kindOf x = some .local) (li : env.kindOf "isinstance" = some .globalImplicit) (lt : env.kindOf tn = some .globalImplicit)
    (h : ∀ tk, Q (.bool (isKind T t)) { s with toks := tk })
    (hd : (x == ("__debug__" : Str)) = false := by decide) (hn : tn ≠ "__name__" := by decide) (hd2 : (tn == ("__debug__" : Str)) = false := by decide) :
    wpAny (model prog w) A (eval (.Call (.Name "isinstance" p1) [.Name x p2, .Name tn p3] [] p4) env) Q E s := by
  refine wpAny_Call_Name_kw (nmB V S mi (by decide +kernel : bootBuiltins "isinstance" = some (.builtin "isinstance")) li ?_)
  refine PyProof.Rows.callWith_builtin1 ?_ (by rfl) (by rfl)
  show wpAny _ _ (spliced ((false, eval (.Name x p2) env) :: (false, _) :: [])) _ _ s
  refine Calls.spliced_cons (nmL V.toEnvG S hx lx ?_ hd)
  refine Calls.spliced_cons ?_
  show wpAny _ _ (standAt p4 >>= fun _ => eval (.Name tn p3) env) _ _ s
  refine wpAny_bind (wpAny_standAt (nmB V S mt bt lt (Calls.spliced_nil ?_) hn hd2))
  obtain ⟨P, Z, p, hu⟩ := k.kit (K := K)
  exact PySem.W.kia_one Z S.kin p (kit_ty (kinds_kit _ k.mem _ ht)) hu h
/-- len(x), x a tuple -/
theorem qLen {x : Str} {p1 p2 p4 : Pos} {a : Addr} {vs : Array Value} {Q : Value → Shared → Prop} (V : EnvF env) (S : SF K mg base env m s.heap) (ml : mg "len" = none) (hx : m x = some (.ref a)) (ht : IsTup s.heap a vs) (hz : (vs.size : Int) < 2 ^ 63)
    (lx : env.kindOf x = some .local) (li : env.kindOf "len" = some .globalImplicit) (h : ∀ t tk, Q (.int vs.size t) { s with toks := tk }) (hd : (x == ("__debug__" : Str)) = false := by decide) :
    wpAny (model prog w) A (eval (.Call (.Name "len" p1) [.Name x p2] [] p4) env) Q E s := by
  refine wpAny_Call_Name_kw (nmB V S ml (by decide +kernel : bootBuiltins "len" = some (.builtin "len")) li ?_)
  refine PyProof.Rows.callWith_builtin1 ?_ (by rfl) (by rfl)
  show wpAny _ _ (spliced ((false, eval (.Name x p2) env) :: [])) _ _ s
  exact Calls.spliced_cons (nmL V.toEnvG S hx lx (Calls.spliced_nil (PyProof.Rows.len_tuple ht hz (h _ _))) hd)
/-- f(x), f a def of the module -/
theorem qCall {f x : Str} {p1 p2 p3 : Pos} {fa : Addr} {u : Value} {Q : Value → Shared → Prop} (V : EnvG env) (S : SF K mg base env m s.heap) (hf : mg f = some (.ref fa)) (hk : PySem.W.keepIn K (.ref fa) = true)
    (hx : m x = some u) (lx : env.kindOf x = some .local) (lf : env.kindOf f = some .globalImplicit)
    (hc : codeAny (model prog w) A (.call (.ref fa) ⟨[u], []⟩) (fun r s' => ∃ v, r = .ok (.ret v) ∧ Q v s') s)
    (hd : (x == ("__debug__" : Str)) = false := by decide) (hdf : (f == ("__debug__" : Str)) = false := by decide) :
    wpAny (model prog w) A (eval (.Call (.Name f p1) [.Name x p2] [] p3) env) Q E s := by
  refine wpAny_Call_Name_kw (nmG V S hf lf ?_ hdf)
  refine PySem.W.callWith_K (h₀ := base) S.mod.kin hk ?_ (by rfl) (by rfl)
  show wpAny _ _ (spliced ((false, eval (.Name x p2) env) :: [])) _ _ s
  refine Calls.spliced_cons (nmL V S hx lx (Calls.spliced_nil ⟨S.kin, ?_⟩) hd)
  refine wpAny_call (codeAny_mono hc fun r s' hq => ?_)
  obtain ⟨v, rfl, q⟩ := hq
  exact q
/-- gcd(x, y), two ints -/
theorem qGcd {g x y : Str} {p1 p2 p3 p4 : Pos} {i j : Int} {t t' : Tok} {Q : Value → Shared → Prop} (V : EnvF env) (S : SF K mg base env m s.heap) (hg : mg g = some (.builtin "math.gcd")) (hx : m x = some (.int i t)) (hy : m y = some (.int j t'))
    (lx : env.kindOf x = some .local) (ly : env.kindOf y = some .local) (lg : env.kindOf g = some .globalImplicit)
    (h : ∀ t tk, Q (.int ((i.natAbs.gcd j.natAbs : Nat) : Int) t) { s with toks := tk })
    (hd : (x == ("__debug__" : Str)) = false := by decide) (hdy : (y == ("__debug__" : Str)) = false := by decide) (hdf : (g == ("__debug__" : Str)) = false := by decide) :
    wpAny (model prog w) A (eval (.Call (.Name g p1) [.Name x p2, .Name y p3] [] p4) env) Q E s := by
  refine wpAny_Call_Name_kw (nmG V.toEnvG S hg lg ?_ hdf)
  refine PyProof.Rows.callWith_builtin1 ?_ (by rfl) (by rfl)
  show wpAny _ _ (spliced ((false, eval (.Name x p2) env) :: (false, _) :: [])) _ _ s
  refine Calls.spliced_cons (nmL V.toEnvG S hx lx ?_ hd)
  refine Calls.spliced_cons ?_
  show wpAny _ _ (standAt p4 >>= fun _ => eval (.Name y p3) env) _ _ s
  exact wpAny_bind (wpAny_standAt (nmL V.toEnvG S hy ly (Calls.spliced_nil (PySem.W.mg_gcd fun _ => h _ _)) hdy))
/-- a, b = x, a tuple of two -/
theorem qPair {x y z : Str} {k : Nat} {p1 p2 p3 p4 p5 : Pos} {a : Addr} {u v : Value} {Q : Flow → Shared → Prop} (V : EnvF env) (S : SF K mg base env m s.heap) (hA : A.handled = none) (hx : m x = some (.ref a)) (ht : IsTup s.heap a #[u, v])
    (lx : env.kindOf x = some .local) (ly : env.kindOf y = some .local) (lz : env.kindOf z = some .local)
    (h : ∀ h' tk, SF K mg base env (fun n => if n = z then some v else if n = y then some u else m n) h' → (∀ b o, b ≠ env.locals → s.heap.get? b = some o → h'.get? b = some o) → Q .next { s with heap := h', toks := tk })
    (hb : ∀ o, base.get? env.locals ≠ some o)
    (hs : swapsWithSole [.Tuple [.Name y p1, .Name z p2] k p3] (.Name x p4) p5.line env = pure false := by rfl) (hw : swappedStores [.Tuple [.Name y p1, .Name z p2] k p3] (.Name x p4) env = pure none := by rfl)
    (hd : (x == ("__debug__" : Str)) = false := by decide) :
    wpAny (model prog w) A (exec (.Assign [.Tuple [.Name y p1, .Name z p2] k p3] (.Name x p4) p5) env) Q E s := by
  refine wpAny_Assign_stores ?_ hs hw
  refine nmL V.toEnvG S hx lx ?_ hd
  show wpAny _ _ (assign (.Tuple [.Name y p1, .Name z p2] k p3) env (.ref a)) _ _ _
  have hp : (env.scope.kind == .class || (env.scope.kind == .module && env.locals != env.globals)) = false := by rw [V.kind]; rfl
  refine assign_Tuple_tuple hA ht (by rfl) (by rfl) fun h1 x1 => ?_
  have k1 : ∀ b o, s.heap.get? b = some o → h1.get? b = some o := fun b o e => x1 b o (Nat.ne_of_lt (Heap.lt_size e)) e
  have S1 := S.keeps k1
  show wpAny _ _ (assignInOrder [assign (.Name y p1) env, assign (.Name z p2) env] [u, v]) _ _ _
  refine assignInOrder_cons (wpAny_assign_Name (wpAny_storeName_local ly S1.ns (fun h2 n2 s2 => ?_) hp))
  refine assignInOrder_cons (wpAny_assign_Name (wpAny_storeName_local lz n2 (fun h3 n3 s3 => ?_) hp))
  refine assignInOrder_nil ?_
  have k3 : ∀ b o, b ≠ env.locals → s.heap.get? b = some o → h3.get? b = some o := fun b o hb' e => s3.extBut b o hb' (s2.extBut b o hb' (k1 b o e))
  exact h h3 _ ⟨S.mod, fun b o e => k3 b o (fun z => hb o (z ▸ e)) (S.bk b o e), n3⟩ k3
end
end QA
namespace QA
open PySem PySem.Spec PyProof.Rows L2 DL GxR
def trB (bs : List Bool) (j : Nat) : Bool := (bs[j]?).getD false
theorem all_trB (bs : List Bool) : (List.range bs.length).all (trB bs) = bs.all id := by
  rw [Bool.eq_iff_iff, List.all_eq_true, List.all_eq_true]
  constructor
  · intro h b hb
    obtain ⟨j, hj, e⟩ := List.getElem_of_mem hb
    have q := h j (List.mem_range.mpr hj)
    unfold trB at q
    rw [List.getElem?_eq_getElem hj, e] at q
    exact q
  · intro h j hj
    have hj' := List.mem_range.mp hj
    unfold trB
    rw [List.getElem?_eq_getElem hj']
    exact h _ (List.getElem_mem hj')
section
variable {X : Cx} {pins : List (Addr × Obj)} {σ : L2.St} {H : Hp} {s : Shared}
/-- the generator g over a tuple, ready to be walked -/
def ReadyB (X : Cx) (pins : List (Addr × Obj)) (σ : L2.St) (H1 : Hp) (P : Addr) (bs : List Bool) (g : Addr) (s5 : Shared) : Prop :=
  ∃ (fp wr : List Addr) (G : Array GenState → Array GenState → Prop) (F : Nat → Value → Prop) (St : Nat → Shared → Prop),
    WalksS X.prog X.w X.A.in1 g fp wr G bs.length F St ∧ St 0 s5 ∧
    TruthOf X.prog X.w X.A.in1 F (trB bs) ∧
    ∀ s', Moved wr G s5 s' → ∃ H2, Tabbed P H1 H2 ∧ Inv X pins σ H2 s'
theorem gen_tup {c P : Addr} {f : Str} {iter : Expr} {x : Str} {px gpos p1 p2 p3 : Pos} {scope : Scope} {te : TE} {k dp : Nat} {RR : Heap → Value → Bool → Prop} {Q' : Value → Shared → Prop} {R : List Bool → Hp → Prop}
    (hr : Room k X.A) (hk : dp ≤ 3 * k + 3) (TB : TabB X.base X.mg c P) (hcode : X.env.code = .ref c) (S : GenS X.env scope x) (T : Tells X.prog X.w X.K X.mg X.base f dp RR) (lf : scope.names.lookup f = some .globalImplicit) (hi : PE X iter te)
    (hs : ∀ v, genFold iter X.env v = pure v) (I : Inv X pins σ H s)
    (h : te σ H fun v H1 => ∃ (a : Addr) (xs : List V), v = .ref a ∧ SqT X.K H1 a xs ∧ TabG H1 P ∧ ∀ pins (s1 : Shared) (its : List Value), Inv X pins σ H1 s1 → Vals xs its → ∃ bs : List Bool, bs.length = its.length ∧ (∀ (i : Nat) (u : Value), its[i]? = some u → ∃ b : Bool, bs[i]? = some b ∧ RR s1.heap u b) ∧ R bs H1)
    (hQ : ∀ bs H1 g s5, R bs H1 → ReadyB X pins σ H1 P bs g s5 → Q' (.ref g) s5)
    (hd : (x == ("__debug__" : Str)) = false := by decide) (hdf : (f == ("__debug__" : Str)) = false := by decide) :
    wpAny (model X.prog X.w) X.A (eval (.GeneratorExp (.Call (.Name f p1) [.Name x p2] [] p3) [⟨.Name x px, iter, [], 0⟩] scope gpos) X.env) Q' X.xe s := by
  obtain ⟨fa, hfm, hkp, run⟩ := T.ex
  refine wpAny_GeneratorExp_walksQD hr.hd S.co (closure_ok S.free) S.cell S.dot S.loc S.kind (by have := hr.dp; omega) ?_ hs
  refine thn (hi.run pins s σ H _ I h) fun xv s1 ⟨v, H1, I1, r1, q1⟩ => ?_
  obtain ⟨a, xs, rfl, hsq, ⟨ps, hP, ht⟩, q1⟩ := q1
  cases (show xv = Value.ref a from r1)
  obtain ⟨its, rv, hT, hz⟩ := I1.tuple hsq
  obtain ⟨bs, hbl, hbs, q1⟩ := q1 pins s1 its I1 rv
  refine wpAny_pyIter_tuple (items := its.toArray) hT ?_
  generalize ho : ({ cls := .type "tuple_iterator", data := .fields #[.ref a, .int 0 0] } : Obj) = o
  have hPs : s1.heap.get? P = some { cls := .none, data := .fields ps } := I1.hok P _ hP
  have hPlt : P < s1.heap.objs.size := Heap.lt_size hPs
  have hP2 : (s1.heap.push o).get? P = some { cls := .none, data := .fields ps } := Heap.get?_push_of_some _ hPs
  have cd : PySem.W.CodeHd (s1.heap.push o) c P := TB.code.keeps fun b u e => Heap.get?_push_of_some _ (I1.bk b u e)
  have lim2 : (s1.heap.push o).NoLimit := I1.nolimit.push o
  have haP : a ≠ P := fun e => by
    obtain ⟨o', e1, e2, _⟩ := hT
    rw [e, hPs] at e1
    cases e1
    cases e2
  have halt : a < s1.heap.objs.size := let ⟨o', e1, _⟩ := hT; Heap.lt_size e1
  have cont : ∀ (code : Value) (h3 : Heap) (tk : Nat) (ps' : Array Value), Heap.ExtBut P (s1.heap.push o) h3 → (s1.heap.push o).objs.size ≤ h3.objs.size → h3.get? P = some { cls := .none, data := .fields ps' } → (∃ more, ps' = ps ++ more) → TriplesOk ps'.toList →
      wpAny (model X.prog X.w) X.A (builtinsFor X.env.globals X.env.builtins) (fun bi s₄ =>
        ∃ Ia fp wr n₀ Pf St₀ pz F, Value.ref s1.heap.objs.size = .ref Ia ∧ (∀ A' : Around, A'.handled = none → Walks X.prog X.w A' Ia fp wr n₀ Pf St₀) ∧ St₀ 0 s₄.heap ∧ (∀ b ∈ fp, b < s₄.heap.objs.size) ∧ s₄.heap.NoLimit ∧ cStatics ∉ wr ∧
          (∀ href : Heap, (∀ b o, s₄.heap.get? b = some o → href.get? b = some o) →
            QuietGenD X.prog X.w (genEnv scope (cloFrom X.env.cells scope.names []) s₄.heap.objs.size code bi X.env) x [] (.Call (.Name f p1) [.Name x p2] [] p3) (List.range s₄.heap.objs.size) wr Pf pz F href (X.A.depth + 1) (X.A.units + 8)) ∧
          (∀ a h₅ tk gs, gs.bare = true → s₄.heap.objs.size < a → h₅.objs.size = a + 1 → (∀ b o, s₄.heap.get? b = some o → h₅.get? b = some o) →
            WalksS X.prog X.w X.A.in4 a (a :: s₄.heap.objs.size :: List.range s₄.heap.objs.size) (s₄.heap.objs.size :: wr) (GenOnlyQ s₄.gens.size) (passing pz n₀ 0).length
              (fun j y => ∃ i, (passing pz n₀ 0)[j]? = some i ∧ F i y) (GenAt X.prog X.w X.A.in4 a s₄.gens.size s₄.heap.objs.size (List.range s₄.heap.objs.size) wr pz n₀ F) →
            GenAt X.prog X.w X.A.in4 a s₄.gens.size s₄.heap.objs.size (List.range s₄.heap.objs.size) wr pz n₀ F 0 { s₄ with gens := s₄.gens.push gs, toks := tk, heap := h₅ } →
            Q' (.ref a) { s₄ with gens := s₄.gens.push gs, toks := tk, heap := h₅ })) X.xe { s1 with heap := h3, toks := tk } := by
    intro code h3 tk ps' hx hsz hP3 hmore ht3
    obtain ⟨bm, ob, e1, e2, e3, e4, e5, e6, e7, e8⟩ := TB.bm
    have hcP : cStatics ≠ P := fun e => by
      obtain ⟨_, hns, _⟩ := I1.nolimit
      obtain ⟨o', es, ep, ho, hd, _⟩ := hns
      rw [e, hPs] at ho
      cases ho
      cases hd
    have hcl : cStatics < s1.heap.objs.size := let ⟨_, hns, _⟩ := I1.nolimit; hns.lt
    have sz2 : (s1.heap.push o).objs.size = s1.heap.objs.size + 1 := Heap.size_push ..
    have keep3 : ∀ b u, b ≠ P → s1.heap.get? b = some u → h3.get? b = some u := fun b u hb e => hx b u hb (Heap.get?_push_of_some _ e)
    have sz3 : s1.heap.objs.size ≤ h3.objs.size := Nat.le_trans (by rw [sz2]; exact Nat.le_succ _) hsz
    have hIP : s1.heap.objs.size ≠ P := fun z => Nat.ne_of_lt hPlt z.symm
    refine wpAny_builtinsFor (m := X.mg) (by rw [I1.ok.glob]; exact ((I1.mod.glob.keeps I1.bk).push o).extBut hx TB.gP) e1 e2 (keep3 _ _ e4 (I1.bk _ _ e5)) e6 e7 e8 ?_
    refine ⟨s1.heap.objs.size, [s1.heap.objs.size, a], [s1.heap.objs.size], its.toArray.size, (fun i v => its.toArray[i]? = some v), (fun i h => h.IsTupleIter s1.heap.objs.size a i ∧ h.IsTuple a its.toArray), (fun _ => true), (fun i y => ∃ b, bs[i]? = some b ∧ y = .bool b), rfl,
      (fun A' hA => Walks.tuple hA _ _ (Nat.ne_of_lt halt) _), ?_, ?_, lim2.extBut hx hcP, ?_, ?_, ?_⟩
    · refine ⟨?_, ?_⟩
      · subst ho
        exact ⟨_, hx _ _ hIP (Heap.get?_push_size _ rfl), rfl, rfl⟩
      · obtain ⟨o', u1, u2⟩ := hT
        exact ⟨o', keep3 _ _ haP u1, u2⟩
    · intro b hb
      rcases List.mem_cons.mp hb with z | z
      · rw [z]
        show s1.heap.objs.size < h3.objs.size
        omega
      · rcases List.mem_cons.mp z with z | z
        · rw [z]
          exact Nat.lt_of_lt_of_le halt sz3
        · cases z
    · intro z
      rcases List.mem_cons.mp z with z | z
      · exact Nat.ne_of_lt hcl z
      · cases z
    · intro href hhref
      refine ⟨fun A' E' i v s₂ m₂ hA hdep hun hPv hn hm hk => ?_, fun A' E' i v s₂ m₂ hA hdep hun hPv hp hn hm hk => ?_⟩
      · simp only [List.forIn_nil]
        exact wpAny_pure ⟨rfl, keeps_refl _⟩
      · have hlt3 : ∀ b u, s1.heap.get? b = some u → b < h3.objs.size := fun b u e => Nat.lt_of_lt_of_le (Heap.lt_size e) sz3
        have up : ∀ b u, b ≠ P → s1.heap.get? b = some u → s₂.heap.get? b = some u := fun b u hb e =>
          hk b (List.mem_range.mpr (hlt3 b u e)) (fun z => by rcases List.mem_cons.mp z with z | z; exact Nat.ne_of_lt (Heap.lt_size e) z; cases z) u (hhref b u (keep3 b u hb e))
        have upC : ∀ b u, u.cls ≠ .none → s1.heap.get? b = some u → s₂.heap.get? b = some u := fun b u hc e => up b u (fun z => by
          rw [z, hPs] at e
          cases e
          exact hc rfl) e
        have upB : ∀ b u, X.base.get? b = some u → s₂.heap.get? b = some u := fun b u e => up b u (fun z => by
          have := (I1.bs b u e).2
          rw [z, hP] at this
          cases this) (I1.bk b u e)
        obtain ⟨b, hb1, hb2⟩ := hbs i v (by simpa using hPv)
        refine qCall (m := m₂) (base := X.base) (mg := X.mg) (K := X.K) ⟨S.kind, I1.ok.glob⟩ ⟨I1.mod, upB, hn⟩ hfm hkp hm S.loc lf (codeAny_mono (run A' s₂ v b I1.mod hA ?_ upB (T.keep _ _ _ _ upC hb2)) fun r s3 q => ?_) hd hdf
        · have := hr.dp
          omega
        · exact ⟨_, q.1, ⟨b, hb1, rfl⟩, q.2⟩
    · intro g h5 tk5 gs hgb hag hsz5 hk5 W5 hat
      simp only [GxR.passing_true, List.length_range, List.size_toArray] at W5
      refine hQ bs H1 g _ q1 ⟨_, _, _, _, _, by rw [hbl]; exact W5.in4_1, hat, ?_, fun s' hm => ?_⟩
      · intro j y sj Qj Ej hy hQj
        obtain ⟨i, hij, b, hb, rfl⟩ := hy
        obtain ⟨hj, ej⟩ := List.getElem?_eq_some_iff.mp hij
        rw [List.getElem_range] at ej
        subst ej
        have hQ2 : Qj (trB bs j) sj := hQj
        unfold trB at hQ2
        rw [hb] at hQ2
        exact wpAny_truthy_bool hQ2
      · obtain ⟨more, em⟩ := hmore
        have nwr : ∀ b u, s1.heap.get? b = some u → b ∉ h3.objs.size :: [s1.heap.objs.size] := fun b u e hb => by
          have hl := Heap.lt_size e
          rcases List.mem_cons.mp hb with z | z
          · rw [z] at hl
            have h9 : (h3.objs.size : Nat) < s1.heap.objs.size := hl
            omega
          · rcases List.mem_cons.mp z with z | z
            · rw [z] at hl
              exact Nat.lt_irrefl _ hl
            · cases z
        have J := inv_tab (more := more) (h' := s'.heap) (g' := s'.gens) (d' := s'.drawn) (t' := s'.toks) I1 hP (fun b u hb e => hm.heap b u (nwr b u e) (hk5 b u (keep3 b u hb e)))
          (by rw [← em]; exact hm.heap P _ (nwr P _ hPs) (hk5 P _ hP3)) (AllBare.movedS (I1.bare.push hgb) hm)
        rw [sh_eta s1 s' hm.os] at J
        refine ⟨upd H1 P (.tbl (ps ++ more)), ⟨⟨ps ++ more, upd_same, by rw [← em]; exact ht3⟩, fun b hb => upd_ne hb⟩, J⟩
  refine ⟨lim2, ?_⟩
  cases hf : codeAmong gpos ps.toList with
  | none =>
    refine wpAny_genexprCodeX hcode (cd.code hP2 ht) (cd.tab hP2) hf fun c' h' tk hx hge hlt hco' _ htab' _ => ?_
    obtain ⟨o1, vs, f1, tf, fl, tg, inF, tx, tt, op, _, _, _, _, _, _, _, _, _, htr, _⟩ := hco'
    exact cont _ h' tk _ hx (Nat.le_trans hge (Nat.le_of_lt hlt)) htab'.2 ⟨_, rfl⟩ htr
  | some cv =>
    refine wpAny_genexprCode_hit hcode (cd.code hP2 ht) hf ?_
    exact cont cv (s1.heap.push o) s1.toks ps (Heap.ExtBut.refl _ _) (Nat.le_refl _) hP2 ⟨#[], by simp⟩ ht
end
end QA
namespace QA
open PySem PySem.Spec PyProof.Rows L2 DL GxR
section
variable {K : PySem.W.Frag} {H H' : Hp} {α : List Addr} {μ : Sto} {P : Addr}
theorem ext_tab (h : TabG H P) (t : Tabbed P H H') : Ext K H α H' α := by
  refine ⟨⟨[], by simp⟩, fun a xs q => ?_, fun a o u q => ?_⟩
  rotate_left
  · have : a ≠ P := fun z => by obtain ⟨ps, e, _⟩ := h; rw [z, e] at q; cases q
    exact (t.2 a this).trans q
  rcases q with (q | ⟨o, q⟩) | q
  · have : a ≠ P := fun z => by obtain ⟨ps, e, _⟩ := h; rw [z, e] at q; cases q
    exact .inl (.inl ((t.2 a this).trans q))
  · have : a ≠ P := fun z => by obtain ⟨ps, e, _⟩ := h; rw [z, e] at q; cases q
    exact .inl (.inr ⟨o, (t.2 a this).trans q⟩)
  · exact .inr q
theorem reps_tab (S : RepS K H α μ) (h : TabG H P) (t : Tabbed P H H') : RepS K H' α μ := by
  refine ⟨S.nd, S.len, fun n a o e1 e2 => ?_⟩
  have r := S.ob n a o e1 e2
  by_cases ha : a = P
  · subst ha
    obtain ⟨ps, e, _⟩ := h
    cases o with
    | tab x => exact ⟨r.1, t.1⟩
    | lst ds => obtain ⟨xs, q, _⟩ := r; rw [e] at q; cases q
    | dic ds => obtain ⟨xs, q, _⟩ := r; rw [e] at q; cases q
    | frz ds => obtain ⟨o, xs, q, _⟩ := r; rw [e] at q; cases q
    | dfz ds => obtain ⟨o, xs, q, _⟩ := r; rw [e] at q; cases q
  · exact r.keep (ext_tab h t) (t.2 a ha)
end
section
variable {X : Cx}
/-- all(f(x) for x in e) -/
def tAllT (X : Cx) (P : Addr) (RR : Heap → Value → Bool → Prop) (te : TE) : TE := fun σ H Q => te σ H fun v H1 => ∃ (a : Addr) (xs : List V), v = .ref a ∧ SqT X.K H1 a xs ∧ TabG H1 P ∧
  ∀ pins (s1 : Shared) (its : List Value), Inv X pins σ H1 s1 → Vals xs its → ∃ bs : List Bool, bs.length = its.length ∧ (∀ (i : Nat) (u : Value), its[i]? = some u → ∃ b : Bool, bs[i]? = some b ∧ RR s1.heap u b) ∧ ∀ H2, Tabbed P H1 H2 → Q (.bl (bs.all id)) H2
theorem pe_allT {c P : Addr} {f : Str} {iter : Expr} {x : Str} {px p pos gpos p1 p2 p3 : Pos} {scope : Scope} {te : TE} {k dp : Nat} {RR : Heap → Value → Bool → Prop}
    (hr : Room k X.A) (hk : dp ≤ 3 * k + 3) (hg : Gl X "all") (hm : X.mg "all" = none) (hb : bootBuiltins "all" = some (.builtin "all")) (TB : TabB X.base X.mg c P) (hcode : X.env.code = .ref c) (S : GenS X.env scope x)
    (T : Tells X.prog X.w X.K X.mg X.base f dp RR) (lf : scope.names.lookup f = some .globalImplicit) (hi : PE X iter te) (hs : ∀ v, genFold iter X.env v = pure v)
    (he : starEach [.GeneratorExp (.Call (.Name f p1) [.Name x p2] [] p3) [⟨.Name x px, iter, [], 0⟩] scope gpos] X.env = (false, eval (.GeneratorExp (.Call (.Name f p1) [.Name x p2] [] p3) [⟨.Name x px, iter, [], 0⟩] scope gpos) X.env) :: starEach [] X.env := by rfl)
    (hd : (x == ("__debug__" : Str)) = false := by decide) (hdf : (f == ("__debug__" : Str)) = false := by decide) :
    PE X (.Call (.Name "all" p) [.GeneratorExp (.Call (.Name f p1) [.Name x p2] [] p3) [⟨.Name x px, iter, [], 0⟩] scope gpos] [] pos) (tAllT X P RR te) := by
  refine ⟨fun pins s σ H Q I h => ?_⟩
  refine wpAny_Call_Name_kw (ld_blt I hg hm hb ?_)
  refine PyProof.Rows.callWith_builtin1 ?_ he (by rfl)
  rw [he]
  show wpAny _ _ (spliced ((false, eval (.GeneratorExp (.Call (.Name f p1) [.Name x p2] [] p3) [⟨.Name x px, iter, [], 0⟩] scope gpos) X.env) :: backTo pos (starEach [] X.env))) _ _ s
  refine Calls.spliced_cons (gen_tup (R := fun bs H1 => ∀ H2, Tabbed P H1 H2 → Q (.bl (bs.all id)) H2) hr hk TB hcode S T lf hi hs I h (fun bs H1 g s5 hR hG => ?_) hd hdf)
  obtain ⟨fp, wr, G, F, St, W, hst, htr, hI⟩ := hG
  refine Calls.spliced_nil ?_
  refine call_all_walkS (W.self 0 _ _ _ hst ⟨g, fp, wr, G, _, F, St, _, rfl, W, hst, htr, fun s' hmv => ?_⟩)
  obtain ⟨H2, hT, J⟩ := hI s' hmv
  refine ⟨.bl _, H2, J, rfl, ?_⟩
  rw [all_trB bs]
  exact hR H2 hT
theorem genS_of {env : Env} {scope : Scope} {x : Str} (h1 : scope.kind = .function) (h2 : scope.isCoroutine = false) (h3 : scope.names.lookup (".0" : Str) = some NameKind.local) (h4 : scope.names.lookup x = some .local)
    (h : (scope.names.all fun y => decide (y.2 ≠ .cell ∧ y.2 ≠ .free)) = true) : GenS env scope x :=
  ⟨h1, h2, fun y hy => (of_decide_eq_true (List.all_eq_true.mp h y hy)).1, h3, h4, fun y hy e => absurd e (of_decide_eq_true (List.all_eq_true.mp h y hy)).2⟩
/-- what ties a value to what f tells of it -/
def Links (X : Cx) (RR : Heap → Value → Bool → Prop) (p : D → Bool) : Prop := ∀ (pins : List (Addr × Obj)) (σ : L2.St) (H : Hp) (s : Shared) (α : List Addr) (μ : Sto) (d : D) (v : V) (u : Value), Inv X pins σ H s → RepS X.K H α μ → Rep X.K H α d v → RelV v u → plainD μ d = true → RR s.heap u (p d)
theorem links_all {RR : Heap → Value → Bool → Prop} {pr : D → Bool} (L : Links X RR pr) {pins : List (Addr × Obj)} {σ : L2.St} {H : Hp} {s : Shared} {α : List Addr} {μ : Sto} (I : Inv X pins σ H s) (S : RepS X.K H α μ) :
    ∀ {ds : List D} {xs : List V} {its : List Value}, Reps X.K H α ds xs → Vals xs its → ds.all (plainD μ) = true → (ds.map pr).length = its.length ∧ ∀ (i : Nat) (u : Value), its[i]? = some u → ∃ b : Bool, (ds.map pr)[i]? = some b ∧ RR s.heap u b
  | [], xs, its, r, rv, _ => by
    cases (show xs = [] from r)
    cases rv
    exact ⟨rfl, fun i u e => by simp at e⟩
  | d :: ds, xs, its, r, rv, h => by
    obtain ⟨v, vs, rfl, r1, r2⟩ := r
    cases rv with
    | cons q qs =>
      rw [List.all_cons, Bool.and_eq_true] at h
      obtain ⟨h1, h2⟩ := links_all L I S r2 qs h.2
      refine ⟨by simp at h1 ⊢; exact h1, fun i u e => ?_⟩
      cases i with
      | zero =>
        cases e
        exact ⟨_, rfl, L _ _ _ _ _ _ _ _ _ I S r1 q h.1⟩
      | succ i => exact h2 i u e
theorem de_allG {c P : Addr} {f y : Str} {iter : Expr} {x : Str} {px p pos gpos p1 p2 p3 : Pos} {scope : Scope} {fe : EF} {k dp t : Nat} {RR : Heap → Value → Bool → Prop} {pr : D → Bool}
    (hP : P = tabA X.K y) (L : Links X RR pr)
    (hr : Room k X.A) (hk : dp ≤ 3 * k + 3) (hg : Gl X "all") (hm : X.mg "all" = none) (TB : TabB X.base X.mg c P) (hcode : X.env.code = .ref c) (S : GenS X.env scope x)
    (T : Tells X.prog X.w X.K X.mg X.base f dp RR) (lf : scope.names.lookup f = some .globalImplicit) (hi : PE X iter (tE X.K fe)) (hs : ∀ v, genFold iter X.env v = pure v)
    (he : starEach [.GeneratorExp (.Call (.Name f p1) [.Name x p2] [] p3) [⟨.Name x px, iter, [], 0⟩] scope gpos] X.env = (false, eval (.GeneratorExp (.Call (.Name f p1) [.Name x p2] [] p3) [⟨.Name x px, iter, [], 0⟩] scope gpos) X.env) :: starEach [] X.env := by rfl)
    (hd : (x == ("__debug__" : Str)) = false := by decide) (hdf : (f == ("__debug__" : Str)) = false := by decide) :
    PE X (.Call (.Name "all" p) [.GeneratorExp (.Call (.Name f p1) [.Name x p2] [] p3) [⟨.Name x px, iter, [], 0⟩] scope gpos] [] pos) (tE X.K (fAllG t y pr fe)) := by
  refine (pe_allT hr hk hg hm (by decide +kernel) TB hcode S T lf hi hs he hd hdf).imp ?_
  rintro σ H Q ⟨α, ρ, μ, d, μ', S0, R0, e, k0⟩
  obtain ⟨⟨d1, μ1⟩, e1, e2⟩ := Option.bind_eq_some_iff.mp e
  refine ⟨α, ρ, μ, d1, μ1, S0, R0, e1, fun H1 α1 v E1 S1 r1 => ?_⟩
  simp only at e2
  split at e2
  · rename_i ds yy htb
    split at e2
    · rename_i hc
      cases e2
      obtain ⟨hyy, hpl⟩ := hc
      subst hyy
      obtain ⟨a, xs, rfl, hq, rr⟩ := r1
      obtain ⟨aP, haP, hob⟩ := S1.there htb
      obtain ⟨haP2, tg⟩ := hob
      have eP : aP = P := haP2.trans hP.symm
      subst eP
      refine ⟨a, xs, rfl, hq, tg, fun pins s1 its I1 rv => ?_⟩
      obtain ⟨h1, h2⟩ := links_all L I1 S1 rr rv hpl
      refine ⟨ds.map pr, h1, h2, fun H2 tb => ?_⟩
      have e9 : (ds.map pr).all id = ds.all pr := by rw [List.all_map]; rfl
      rw [e9]
      exact k0 H2 α1 _ (E1.trans (ext_tab tg tb)) (reps_tab S1 tg tb) rfl
    · cases e2
  · cases e2
end
end QA
namespace QA
open PySem PySem.Spec PyProof.Rows L2 DL BS
def RWhole (h : Heap) (u : Value) (b : Bool) : Prop := ∃ T, Kd h u T ∧ b = (T == "int")
theorem kind_whole : ∀ T ∈ kinds, (isKind T "int" && !isKind T "bool") = (T == "int") := by decide +kernel
theorem kind_tuple : ∀ T ∈ kinds, isKind T "tuple" = (T == "tuple") := by decide +kernel
theorem gcd_b (g : Nat) : (((g : Nat) : Int) == 1) = decide (g = 1) := by
  rw [Bool.eq_iff_iff, beq_iff_eq, decide_eq_true_eq]
  omega
def RFrac (h : Heap) (u : Value) (b : Bool) : Prop :=
  (∃ T, Kd h u T ∧ T ≠ "tuple" ∧ b = false) ∨
  (∃ (a : Addr) (vs : List Value), u = .ref a ∧ IsTup h a vs.toArray ∧ (vs.length : Int) < 2 ^ 63 ∧ vs.length ≠ 2 ∧ b = false) ∨
  (∃ (a : Addr) (x y : Value) (Tx Ty : String), u = .ref a ∧ IsTup h a #[x, y] ∧ Kd h x Tx ∧ Kd h y Ty ∧ ¬ (Tx = "int" ∧ Ty = "int") ∧ b = false) ∨
  (∃ (a : Addr) (n : Int) (t : Tok) (m : Int) (t' : Tok), u = .ref a ∧ IsTup h a #[.int n t, .int m t'] ∧ b = (decide (0 < m) && decide (Nat.gcd n.natAbs m.natAbs = 1)))
theorem RFrac.keep {h h' : Heap} {u : Value} {b : Bool} (k : ∀ b o, o.cls ≠ .none → h.get? b = some o → h'.get? b = some o) (R : RFrac h u b) : RFrac h' u b := by
  rcases R with ⟨T, kd, e⟩ | ⟨a, vs, e1, ht, e2⟩ | ⟨a, x, y, Tx, Ty, e1, ht, kx, ky, e2⟩ | ⟨a, n, t, m, t', e1, ht, e2⟩
  · exact .inl ⟨T, kd.keepC k, e⟩
  · exact .inr (.inl ⟨a, vs, e1, tupC k ht, e2⟩)
  · exact .inr (.inr (.inl ⟨a, x, y, Tx, Ty, e1, tupC k ht, kx.keepC k, ky.keepC k, e2⟩))
  · exact .inr (.inr (.inr ⟨a, n, t, m, t', e1, tupC k ht, e2⟩))
theorem tup_kd {h : Heap} {a : Addr} {vs : Array Value} (t : IsTup h a vs) : Kd h (.ref a) "tuple" := by
  obtain ⟨o, e, c, _⟩ := t
  exact .tup e c
end QA
namespace QA
open PySem PySem.Spec PyProof.Rows L2 DL GxR
theorem rel_kd {X : Cx} {pins : List (Addr × Obj)} {σ : L2.St} {H : Hp} {s : Shared} {α : List Addr} {μ : Sto} {d : D} {v : V} {u : Value} {T : String} (I : Inv X pins σ H s) (S : RepS X.K H α μ) (r : Rep X.K H α d v) (rv : RelV v u) (h : kindD μ d = some T) : Kd s.heap u T := by
  cases d with
  | non => cases (show v = _ from r); cases h; cases (show u = Value.none from rv); exact .non
  | bl b => cases (show v = _ from r); cases h; cases (show u = Value.bool b from rv); exact .bl b
  | int i => cases (show v = _ from r); cases h; obtain ⟨t, q⟩ := (show ∃ t, u = Value.int i t from rv); cases q; exact .int _ _
  | str i => cases (show v = _ from r); cases h; obtain ⟨t, q⟩ := (show ∃ t, u = Value.str i t from rv); cases q; exact .str _ _
  | tup ds =>
    obtain ⟨p, xs, rfl, q, _⟩ := r
    cases h
    cases (show u = Value.ref p from rv)
    obtain ⟨its, _, ⟨o, e, c, _⟩, _⟩ := I.tuple q
    exact .tup e c
  | loc n =>
    obtain ⟨p, rfl, q⟩ := r
    cases (show u = Value.ref p from rv)
    obtain ⟨o, e2, r⟩ := S.here q
    simp only [kindD, e2] at h
    cases o with
    | lst ds =>
      cases h
      obtain ⟨xs, h, r⟩ := r
      obtain ⟨_, _, n, _, h1⟩ := (show ObjOk X.prog X.w H s.heap p (.lst xs) from I.hok p _ h)
      exact .lst h1 rfl
    | frz ds =>
      cases h
      obtain ⟨o, xs, h, r⟩ := r
      obtain ⟨_, _, _, n, _, h1⟩ := (show ObjOk X.prog X.w H s.heap p (.frz o (.lst xs)) from I.hok p _ h)
      exact .lst h1 rfl
    | dic kvs =>
      cases h
      obtain ⟨kv, h, r1, r2⟩ := r
      obtain ⟨_, _, vs, _, o, es, ep, h1, h2, _⟩ := (show ObjOk X.prog X.w H s.heap p (.dK kv) from I.hok p _ h)
      exact .dic h1 h2.1
    | dfz kvs => cases h
    | tab x => cases h
  | ty t => cases h
end QA
namespace QA
open PySem PySem.Spec PyProof.Rows L2 DL GxR BS
theorem kind_int {μ : Sto} {d : D} {T : String} (h : kindD μ d = some T) (e : T = "int") : ∃ n, d = .int n := by
  subst e
  cases d with
  | int n => exact ⟨n, rfl⟩
  | loc n =>
    simp only [kindD] at h
    split at h <;> first | exact absurd (Option.some.inj h) (by decide) | exact absurd h (by simp)
  | ty t => cases h
  | non => exact absurd (Option.some.inj h) (by decide)
  | bl b => exact absurd (Option.some.inj h) (by decide)
  | str b => exact absurd (Option.some.inj h) (by decide)
  | tup b => exact absurd (Option.some.inj h) (by decide)
theorem kind_tup {μ : Sto} {d : D} {T : String} (h : kindD μ d = some T) (n : ∀ ds, d ≠ .tup ds) : T ≠ "tuple" := by
  intro e
  subst e
  cases d with
  | tup ds => exact n _ rfl
  | loc n =>
    simp only [kindD] at h
    split at h <;> first | exact absurd (Option.some.inj h) (by decide) | exact absurd h (by simp)
  | ty t => cases h
  | non => exact absurd (Option.some.inj h) (by decide)
  | bl b => exact absurd (Option.some.inj h) (by decide)
  | str b => exact absurd (Option.some.inj h) (by decide)
  | int b => exact absurd (Option.some.inj h) (by decide)
theorem plain_kind {μ : Sto} {d : D} (h : plainD μ d = true) : ∃ T, kindD μ d = some T := by
  cases d with
  | tup ds => exact ⟨_, rfl⟩
  | _ => exact Option.isSome_iff_exists.mp h
theorem frac_no {d : D} (n : ∀ ds, d ≠ .tup ds) : fracD d = false := by
  cases d with
  | tup ds => exact absurd rfl (n _)
  | _ => rfl
theorem links_frac {X : Cx} : Links X RFrac fracD := by
  intro pins σ H s α μ d v u I S r rv hp
  by_cases hd : ∃ ds, d = .tup ds
  · obtain ⟨ds, rfl⟩ := hd
    obtain ⟨a, xs, rfl, q, rr⟩ := r
    cases (show u = Value.ref a from rv)
    obtain ⟨its, rvs, ht, hz⟩ := I.tuple q
    have hl1 := rr.length
    have hl2 := rvs.length
    have hp2 := List.all_eq_true.mp hp
    by_cases hl : ds.length = 2
    · obtain ⟨d1, d2, rfl⟩ : ∃ d1 d2, ds = [d1, d2] := by
        match ds, hl with
        | [a, b], _ => exact ⟨a, b, rfl⟩
      obtain ⟨v1, vs1, rfl, r1, v2, vs2, rfl, r2, r3⟩ := rr
      cases (show vs2 = [] from r3)
      cases rvs with
      | cons q1 rvs =>
        cases rvs with
        | cons q2 rvs =>
          cases rvs
          obtain ⟨T1, hT1⟩ := Option.isSome_iff_exists.mp (hp2 d1 (by simp))
          obtain ⟨T2, hT2⟩ := Option.isSome_iff_exists.mp (hp2 d2 (by simp))
          have k1 := rel_kd I S r1 q1 hT1
          have k2 := rel_kd I S r2 q2 hT2
          by_cases hi : T1 = "int" ∧ T2 = "int"
          · obtain ⟨n, rfl⟩ := kind_int hT1 hi.1
            obtain ⟨m, rfl⟩ := kind_int hT2 hi.2
            cases (show v1 = _ from r1)
            cases (show v2 = _ from r2)
            obtain ⟨t, rfl⟩ := q1
            obtain ⟨t', rfl⟩ := q2
            exact .inr (.inr (.inr ⟨a, n, t, m, t', rfl, ht, rfl⟩))
          · refine .inr (.inr (.inl ⟨a, _, _, T1, T2, rfl, ht, k1, k2, hi, ?_⟩))
            have no : ∀ n m, ¬ (d1 = .int n ∧ d2 = .int m) := fun n m ⟨e1, e2⟩ => by
              subst e1; subst e2; cases hT1; cases hT2; exact hi ⟨rfl, rfl⟩
            unfold fracD
            split
            · rename_i n m e
              cases e
              exact absurd ⟨rfl, rfl⟩ (no _ _)
            · rfl
    · refine .inr (.inl ⟨a, its, rfl, ht, ?_, by omega, ?_⟩)
      · have := sizeLine_eq
        omega
      · unfold fracD
        split
        · rename_i n m e
          cases e
          exact absurd rfl hl
        · rfl
  · obtain ⟨T, hT⟩ := plain_kind hp
    have n : ∀ ds, d ≠ .tup ds := fun ds e => hd ⟨ds, e⟩
    exact .inl ⟨T, rel_kd I S r rv hT, kind_tup hT n, frac_no n⟩
end QA
namespace K42
open PySem PySem.Spec PyProof.Rows L2 DL
open BS
def top (i : Nat) : Stmt := PySem.Challenge.pw_bandsplits_k42_whole_polynomials_of_powe.main.body.getD i (.Pass ⟨0, 0, 0, 0⟩)
abbrev n_span_without : List Str := ["numbers", "nought", "first", "end"]
theorem sc_span_without : FnScope n_span_without ["numbers", "nought"] (defScope (top 2)) := ⟨rfl, rfl, rfl, by decide +kernel, rfl, by decide +kernel, by decide +kernel⟩
abbrev n_without_top : List Str := ["numbers"]
theorem sc_without_top : FnScope n_without_top ["numbers"] (defScope (top 3)) := ⟨rfl, rfl, rfl, by decide +kernel, rfl, by decide +kernel, by decide +kernel⟩
abbrev n_is_whole : List Str := ["value"]
theorem sc_is_whole : FnScope n_is_whole ["value"] (defScope (top 10)) := ⟨rfl, rfl, rfl, by decide +kernel, rfl, by decide +kernel, by decide +kernel⟩
abbrev n_need_whole_between : List Str := ["value", "least", "greatest"]
theorem sc_need_whole_between : FnScope n_need_whole_between ["value", "least", "greatest"] (defScope (top 11)) := ⟨rfl, rfl, rfl, by decide +kernel, rfl, by decide +kernel, by decide +kernel⟩
abbrev n_reduced : List Str := ["top", "bottom", "common"]
theorem sc_reduced : FnScope n_reduced ["top", "bottom"] (defScope (top 13)) := ⟨rfl, rfl, rfl, by decide +kernel, rfl, by decide +kernel, by decide +kernel⟩
abbrev n_over_one_bottom : List Str := ["numbers", "bottom", "number"]
theorem sc_over_one_bottom : FnScope n_over_one_bottom ["numbers"] (defScope (top 14)) := ⟨rfl, rfl, rfl, by decide +kernel, rfl, by decide +kernel, by decide +kernel⟩
abbrev n_is_row : List Str := ["value", "start", "numbers", "number"]
theorem sc_is_row : FnScope n_is_row ["value"] (defScope (top 16)) := ⟨rfl, rfl, rfl, by decide +kernel, rfl, by decide +kernel, by decide +kernel⟩
abbrev n_need_row : List Str := ["row"]
theorem sc_need_row : FnScope n_need_row ["row"] (defScope (top 17)) := ⟨rfl, rfl, rfl, by decide +kernel, rfl, by decide +kernel, by decide +kernel⟩
abbrev n_moment_of : List Str := ["numbers", "first", "order", "terms", "_", "at", "number"]
theorem sc_moment_of : FnScope n_moment_of ["numbers", "first", "order"] (defScope (top 20)) := ⟨rfl, rfl, rfl, by decide +kernel, rfl, by decide +kernel, by decide +kernel⟩
abbrev n_on_power : List Str := ["row", "order", "out", "power", "numbers", "bottom", "total", "number"]
theorem sc_on_power : FnScope n_on_power ["row", "order"] (defScope (top 19)) := ⟨rfl, rfl, rfl, by decide +kernel, rfl, by decide +kernel, by decide +kernel⟩
abbrev n_law_well : List Str := ["_law_script", "_law_turn", "_law_mixed", "_law_cell", "_law_own"]
theorem sc_law_well : FnScope n_law_well ["_law_script", "_law_turn"] (defScope (top 22)) := ⟨rfl, rfl, rfl, by decide +kernel, rfl, by decide +kernel, by decide +kernel⟩
abbrev n_law_take : List Str := ["_law_well_here", "_law_count", "_law_digit"]
theorem sc_law_take : FnScope n_law_take ["_law_well_here", "_law_count"] (defScope (top 23)) := ⟨rfl, rfl, rfl, by decide +kernel, rfl, by decide +kernel, by decide +kernel⟩
abbrev n_law_pick : List Str := ["_law_well_here", "_law_some"]
theorem sc_law_pick : FnScope n_law_pick ["_law_well_here", "_law_some"] (defScope (top 24)) := ⟨rfl, rfl, rfl, by decide +kernel, rfl, by decide +kernel, by decide +kernel⟩
abbrev n_law_rounds : List Str := ["_law_script"]
theorem sc_law_rounds : FnScope n_law_rounds ["_law_script"] (defScope (top 25)) := ⟨rfl, rfl, rfl, by decide +kernel, rfl, by decide +kernel, by decide +kernel⟩
abbrev n_law_common : List Str := ["_law_one", "_law_two"]
theorem sc_law_common : FnScope n_law_common ["_law_one", "_law_two"] (defScope (top 26)) := ⟨rfl, rfl, rfl, by decide +kernel, rfl, by decide +kernel, by decide +kernel⟩
abbrev n_law_ratio : List Str := ["_law_n", "_law_m", "_law_by"]
theorem sc_law_ratio : FnScope n_law_ratio ["_law_n", "_law_m"] (defScope (top 27)) := ⟨rfl, rfl, rfl, by decide +kernel, rfl, by decide +kernel, by decide +kernel⟩
abbrev n_law_sum : List Str := ["_law_a", "_law_b"]
theorem sc_law_sum : FnScope n_law_sum ["_law_a", "_law_b"] (defScope (top 28)) := ⟨rfl, rfl, rfl, by decide +kernel, rfl, by decide +kernel, by decide +kernel⟩
abbrev n_law_product : List Str := ["_law_a", "_law_b"]
theorem sc_law_product : FnScope n_law_product ["_law_a", "_law_b"] (defScope (top 29)) := ⟨rfl, rfl, rfl, by decide +kernel, rfl, by decide +kernel, by decide +kernel⟩
abbrev n_law_cleared : List Str := ["_law_lot", "_law_k"]
theorem sc_law_cleared : FnScope n_law_cleared ["_law_lot"] (defScope (top 30)) := ⟨rfl, rfl, rfl, by decide +kernel, rfl, by decide +kernel, by decide +kernel⟩
abbrev n_law_line : List Str := ["_law_lot", "_law_first", "_law_k"]
theorem sc_law_line : FnScope n_law_line ["_law_lot"] (defScope (top 31)) := ⟨rfl, rfl, rfl, by decide +kernel, rfl, by decide +kernel, by decide +kernel⟩
abbrev n_law_plus : List Str := ["_law_one", "_law_two", "_law_found", "_law_k"]
theorem sc_law_plus : FnScope n_law_plus ["_law_one", "_law_two"] (defScope (top 32)) := ⟨rfl, rfl, rfl, by decide +kernel, rfl, by decide +kernel, by decide +kernel⟩
abbrev n_law_scaled : List Str := ["_law_lot", "_law_by", "_law_k"]
theorem sc_law_scaled : FnScope n_law_scaled ["_law_lot", "_law_by"] (defScope (top 33)) := ⟨rfl, rfl, rfl, by decide +kernel, rfl, by decide +kernel, by decide +kernel⟩
abbrev n_law_less : List Str := ["_law_one", "_law_two"]
theorem sc_law_less : FnScope n_law_less ["_law_one", "_law_two"] (defScope (top 34)) := ⟨rfl, rfl, rfl, by decide +kernel, rfl, by decide +kernel, by decide +kernel⟩
abbrev n_law_later : List Str := ["_law_lot", "_law_by", "_law_k"]
theorem sc_law_later : FnScope n_law_later ["_law_lot", "_law_by"] (defScope (top 35)) := ⟨rfl, rfl, rfl, by decide +kernel, rfl, by decide +kernel, by decide +kernel⟩
abbrev n_law_number : List Str := ["_law_well_here", "_law_tip", "_law_below"]
theorem sc_law_number : FnScope n_law_number ["_law_well_here"] (defScope (top 36)) := ⟨rfl, rfl, rfl, by decide +kernel, rfl, by decide +kernel, by decide +kernel⟩
abbrev n_law_draw : List Str := ["_law_well_here", "_law_most", "_law_inner", "_law_first", "_law_length", "_law_k"]
theorem sc_law_draw : FnScope n_law_draw ["_law_well_here", "_law_most"] (defScope (top 37)) := ⟨rfl, rfl, rfl, by decide +kernel, rfl, by decide +kernel, by decide +kernel⟩
abbrev n_law_power : List Str := ["_law_base", "_law_count", "_law_found", "_law_turn"]
theorem sc_law_power : FnScope n_law_power ["_law_base", "_law_count"] (defScope (top 38)) := ⟨rfl, rfl, rfl, by decide +kernel, rfl, by decide +kernel, by decide +kernel⟩
abbrev n_law_total : List Str := ["_law_some", "_law_found", "_law_each"]
theorem sc_law_total : FnScope n_law_total ["_law_some"] (defScope (top 39)) := ⟨rfl, rfl, rfl, by decide +kernel, rfl, by decide +kernel, by decide +kernel⟩
abbrev n_law_choices : List Str := ["_law_j", "_law_found", "_law_turn", "_law_k"]
theorem sc_law_choices : FnScope n_law_choices ["_law_j"] (defScope (top 40)) := ⟨rfl, rfl, rfl, by decide +kernel, rfl, by decide +kernel, by decide +kernel⟩
abbrev n_law_polynomial : List Str := ["_law_lot", "_law_j", "_law_found", "_law_power_here", "_law_choices_here", "_law_some", "_law_k"]
theorem sc_law_polynomial : FnScope n_law_polynomial ["_law_lot", "_law_j"] (defScope (top 41)) := ⟨rfl, rfl, rfl, by decide +kernel, rfl, by decide +kernel, by decide +kernel⟩
abbrev n_law_made : List Str := ["_law_lot", "_law_n", "_law_j", "_law_k"]
theorem sc_law_made : FnScope n_law_made ["_law_lot", "_law_n", "_law_j"] (defScope (top 42)) := ⟨rfl, rfl, rfl, by decide +kernel, rfl, by decide +kernel, by decide +kernel⟩
abbrev n_law_worth : List Str := ["_law_numbers", "_law_n", "_law_k"]
theorem sc_law_worth : FnScope n_law_worth ["_law_numbers", "_law_n"] (defScope (top 43)) := ⟨rfl, rfl, rfl, by decide +kernel, rfl, by decide +kernel, by decide +kernel⟩
abbrev n_law_right : List Str := ["_law_well_here", "_law_lot", "_law_turn", "_law_j", "_law_line_here", "_law_far", "_law_due", "_law_told", "_law_n"]
theorem sc_law_right : FnScope n_law_right ["_law_well_here"] (defScope (top 44)) := ⟨rfl, rfl, rfl, by decide +kernel, rfl, by decide +kernel, by decide +kernel⟩
abbrev n_law : List Str := ["_law_script", "_law_turn"]
theorem sc_law : FnScope n_law ["_law_script"] (defScope (top 45)) := ⟨rfl, rfl, rfl, by decide +kernel, rfl, by decide +kernel, by decide +kernel⟩
structure Ctx (P : Program) (w : World) (K : PySem.W.Frag) (mg : Str → Option Value) (base : Heap) : Prop where
  d_span_without : ∃ (f : Addr) (fd : FuncData), FunD K "span_without" "span_without" (defArgs (top 2)) (defBody (top 2)) (defScope (top 2)) [] [] f fd ∧ mg "span_without" = some (.ref f)
  d_without_top : ∃ (f : Addr) (fd : FuncData), FunD K "without_top" "without_top" (defArgs (top 3)) (defBody (top 3)) (defScope (top 3)) [] [] f fd ∧ mg "without_top" = some (.ref f)
  d_is_whole : ∃ (f : Addr) (fd : FuncData), FunD K "is_whole" "is_whole" (defArgs (top 10)) (defBody (top 10)) (defScope (top 10)) [] [] f fd ∧ mg "is_whole" = some (.ref f)
  d_need_whole_between : ∃ (f : Addr) (fd : FuncData), FunD K "need_whole_between" "need_whole_between" (defArgs (top 11)) (defBody (top 11)) (defScope (top 11)) [] [] f fd ∧ mg "need_whole_between" = some (.ref f)
  d_is_fraction : ∃ (f : Addr) (fd : FuncData), FunD K "is_fraction" "is_fraction" (defArgs (top 12)) (defBody (top 12)) (defScope (top 12)) [] [] f fd ∧ mg "is_fraction" = some (.ref f)
  d_reduced : ∃ (f : Addr) (fd : FuncData), FunD K "reduced" "reduced" (defArgs (top 13)) (defBody (top 13)) (defScope (top 13)) [] [] f fd ∧ mg "reduced" = some (.ref f)
  d_over_one_bottom : ∃ (f : Addr) (fd : FuncData), FunD K "over_one_bottom" "over_one_bottom" (defArgs (top 14)) (defBody (top 14)) (defScope (top 14)) [] [] f fd ∧ mg "over_one_bottom" = some (.ref f)
  d_is_row : ∃ (f : Addr) (fd : FuncData), FunD K "is_row" "is_row" (defArgs (top 16)) (defBody (top 16)) (defScope (top 16)) [] [] f fd ∧ mg "is_row" = some (.ref f)
  d_need_row : ∃ (f : Addr) (fd : FuncData), FunD K "need_row" "need_row" (defArgs (top 17)) (defBody (top 17)) (defScope (top 17)) [] [] f fd ∧ mg "need_row" = some (.ref f)
  d_moment_of : ∃ (f : Addr) (fd : FuncData), FunD K "moment_of" "moment_of" (defArgs (top 20)) (defBody (top 20)) (defScope (top 20)) [] [] f fd ∧ mg "moment_of" = some (.ref f)
  d_on_power : ∃ (f : Addr) (fd : FuncData), FunD K "on_power" "on_power" (defArgs (top 19)) (defBody (top 19)) (defScope (top 19)) [] [] f fd ∧ mg "on_power" = some (.ref f)
  d_law_well : ∃ (f : Addr) (fd : FuncData), FunD K "_law_well" "_law_well" (defArgs (top 22)) (defBody (top 22)) (defScope (top 22)) [] [] f fd ∧ mg "_law_well" = some (.ref f)
  d_law_take : ∃ (f : Addr) (fd : FuncData), FunD K "_law_take" "_law_take" (defArgs (top 23)) (defBody (top 23)) (defScope (top 23)) [] [] f fd ∧ mg "_law_take" = some (.ref f)
  d_law_pick : ∃ (f : Addr) (fd : FuncData), FunD K "_law_pick" "_law_pick" (defArgs (top 24)) (defBody (top 24)) (defScope (top 24)) [] [] f fd ∧ mg "_law_pick" = some (.ref f)
  d_law_rounds : ∃ (f : Addr) (fd : FuncData), FunD K "_law_rounds" "_law_rounds" (defArgs (top 25)) (defBody (top 25)) (defScope (top 25)) [] [] f fd ∧ mg "_law_rounds" = some (.ref f)
  d_law_common : ∃ (f : Addr) (fd : FuncData), FunD K "_law_common" "_law_common" (defArgs (top 26)) (defBody (top 26)) (defScope (top 26)) [] [] f fd ∧ mg "_law_common" = some (.ref f)
  d_law_ratio : ∃ (f : Addr) (fd : FuncData), FunD K "_law_ratio" "_law_ratio" (defArgs (top 27)) (defBody (top 27)) (defScope (top 27)) [] [] f fd ∧ mg "_law_ratio" = some (.ref f)
  d_law_sum : ∃ (f : Addr) (fd : FuncData), FunD K "_law_sum" "_law_sum" (defArgs (top 28)) (defBody (top 28)) (defScope (top 28)) [] [] f fd ∧ mg "_law_sum" = some (.ref f)
  d_law_product : ∃ (f : Addr) (fd : FuncData), FunD K "_law_product" "_law_product" (defArgs (top 29)) (defBody (top 29)) (defScope (top 29)) [] [] f fd ∧ mg "_law_product" = some (.ref f)
  d_law_cleared : ∃ (f : Addr) (fd : FuncData), FunD K "_law_cleared" "_law_cleared" (defArgs (top 30)) (defBody (top 30)) (defScope (top 30)) [] [] f fd ∧ mg "_law_cleared" = some (.ref f)
  d_law_line : ∃ (f : Addr) (fd : FuncData), FunD K "_law_line" "_law_line" (defArgs (top 31)) (defBody (top 31)) (defScope (top 31)) [] [] f fd ∧ mg "_law_line" = some (.ref f)
  d_law_plus : ∃ (f : Addr) (fd : FuncData), FunD K "_law_plus" "_law_plus" (defArgs (top 32)) (defBody (top 32)) (defScope (top 32)) [] [] f fd ∧ mg "_law_plus" = some (.ref f)
  d_law_scaled : ∃ (f : Addr) (fd : FuncData), FunD K "_law_scaled" "_law_scaled" (defArgs (top 33)) (defBody (top 33)) (defScope (top 33)) [] [] f fd ∧ mg "_law_scaled" = some (.ref f)
  d_law_less : ∃ (f : Addr) (fd : FuncData), FunD K "_law_less" "_law_less" (defArgs (top 34)) (defBody (top 34)) (defScope (top 34)) [] [] f fd ∧ mg "_law_less" = some (.ref f)
  d_law_later : ∃ (f : Addr) (fd : FuncData), FunD K "_law_later" "_law_later" (defArgs (top 35)) (defBody (top 35)) (defScope (top 35)) [] [] f fd ∧ mg "_law_later" = some (.ref f)
  d_law_number : ∃ (f : Addr) (fd : FuncData), FunD K "_law_number" "_law_number" (defArgs (top 36)) (defBody (top 36)) (defScope (top 36)) [] [] f fd ∧ mg "_law_number" = some (.ref f)
  d_law_draw : ∃ (f : Addr) (fd : FuncData), FunD K "_law_draw" "_law_draw" (defArgs (top 37)) (defBody (top 37)) (defScope (top 37)) [] [] f fd ∧ mg "_law_draw" = some (.ref f)
  d_law_power : ∃ (f : Addr) (fd : FuncData), FunD K "_law_power" "_law_power" (defArgs (top 38)) (defBody (top 38)) (defScope (top 38)) [] [] f fd ∧ mg "_law_power" = some (.ref f)
  d_law_total : ∃ (f : Addr) (fd : FuncData), FunD K "_law_total" "_law_total" (defArgs (top 39)) (defBody (top 39)) (defScope (top 39)) [] [] f fd ∧ mg "_law_total" = some (.ref f)
  d_law_choices : ∃ (f : Addr) (fd : FuncData), FunD K "_law_choices" "_law_choices" (defArgs (top 40)) (defBody (top 40)) (defScope (top 40)) [] [] f fd ∧ mg "_law_choices" = some (.ref f)
  d_law_polynomial : ∃ (f : Addr) (fd : FuncData), FunD K "_law_polynomial" "_law_polynomial" (defArgs (top 41)) (defBody (top 41)) (defScope (top 41)) [] [] f fd ∧ mg "_law_polynomial" = some (.ref f)
  d_law_made : ∃ (f : Addr) (fd : FuncData), FunD K "_law_made" "_law_made" (defArgs (top 42)) (defBody (top 42)) (defScope (top 42)) [] [] f fd ∧ mg "_law_made" = some (.ref f)
  d_law_worth : ∃ (f : Addr) (fd : FuncData), FunD K "_law_worth" "_law_worth" (defArgs (top 43)) (defBody (top 43)) (defScope (top 43)) [] [] f fd ∧ mg "_law_worth" = some (.ref f)
  d_law_right : ∃ (f : Addr) (fd : FuncData), FunD K "_law_right" "_law_right" (defArgs (top 44)) (defBody (top 44)) (defScope (top 44)) [] [] f fd ∧ mg "_law_right" = some (.ref f)
  d_law : ∃ (f : Addr) (fd : FuncData), FunD K "law" "law" (defArgs (top 45)) (defBody (top 45)) (defScope (top 45)) [] [] f fd ∧ mg "law" = some (.ref f)
  g_abs : mg "abs" = none
  g_all : mg "all" = none
  g_bool : mg "bool" = none
  g_dict : mg "dict" = none
  g_divmod : mg "divmod" = none
  g_enumerate : mg "enumerate" = none
  g_int : mg "int" = none
  g_isinstance : mg "isinstance" = none
  g_len : mg "len" = none
  g_list : mg "list" = none
  g_max : mg "max" = none
  g_min : mg "min" = none
  g_range : mg "range" = none
  g_repr : mg "repr" = none
  g_sum : mg "sum" = none
  g_tuple : mg "tuple" = none
  c_ZERO : Cst K mg "ZERO" (.tup [.int 0, .int 1])
  b_gcd : mg "gcd" = some (.builtin "math.gcd")
  b_lcm : mg "lcm" = some (.builtin "math.lcm")
  b_comb : mg "comb" = some (.builtin "math.comb")
  sm : ∃ o, K.lookup sysModules = some o
  a_is_row : mg "is_row" = some (.ref (He.fAd K ("is_row", none)))
  t_is_row : GxR.TabB base mg (codeA K "is_row").1 (codeA K "is_row").2
end K42
namespace QF
open PySem PySem.Spec PyProof.Rows L2 Vk
def listO (o : Obj) : Bool := match o.data with
  | .seq _ _ => decide (o.cls = .type "list")
  | _ => false
def partU (n : Nat) (g : Addr → Option Obj) : PySem.W.Frag := (He.frT g (sysModules :: cStatics :: He.asD g n)).filter fun q => !listO q.2
theorem look_sub {f : Addr × Obj → Bool} {a : Addr} {o : Obj} : ∀ {l : List (Addr × Obj)}, (∀ q ∈ l, ∀ q' ∈ l, q.1 = q'.1 → q = q') → (l.filter f).lookup a = some o → l.lookup a = some o ∧ f (a, o) = true := by
  intro l hu h
  have m := He.lookup_mem h
  obtain ⟨m1, m2⟩ := List.mem_filter.mp m
  refine ⟨?_, m2⟩
  clear h m m2
  induction l with
  | nil => cases m1
  | cons p r ih =>
    obtain ⟨b, u⟩ := p
    by_cases e : a = b
    · subst e
      have := hu (a, u) (by simp) (a, o) m1 rfl
      cases this
      simp [List.lookup]
    · have m3 : (a, o) ∈ r := by
        rcases List.mem_cons.mp m1 with z | z
        · cases z; exact absurd rfl e
        · exact z
      have := ih (fun q hq q' hq' => hu q (List.mem_cons_of_mem _ hq) q' (List.mem_cons_of_mem _ hq')) m3
      rw [List.lookup_cons, (by simpa using e : (a == b) = false)]
      exact this
theorem frT_uniq {g : Addr → Option Obj} {as : List Addr} : ∀ q ∈ He.frT g as, ∀ q' ∈ He.frT g as, q.1 = q'.1 → q = q' := by
  rintro ⟨a, o⟩ h ⟨a', o'⟩ h' e
  have h1 := He.frG_mem (List.mem_filter.mp h).1
  have h2 := He.frG_mem (List.mem_filter.mp h').1
  cases e
  rw [h1] at h2
  cases h2
  rfl
theorem partU_at {n : Nat} {g : Addr → Option Obj} {a : Addr} {o : Obj} (h : (partU n g).lookup a = some o) : g a = some o ∧ He.emptyTab o = false ∧ listO o = false := by
  obtain ⟨h1, h2⟩ := look_sub frT_uniq h
  obtain ⟨h3, h4⟩ := He.frT_mem h1
  exact ⟨h3, h4, by simpa using h2⟩
theorem partU_in {n : Nat} {h : Heap} : (partU n h.get?).In h := fun _ _ e => (partU_at e).1
/-- what is told of the part K at the heap h -/
structure Says (fa : List He.Fa) (fn : List He.DefD) (tf : List He.Defn) (ex : PySem.W.Frag → Bool) (h : Heap) (K : PySem.W.Frag) : Prop where
  d : He.SaysD fa fn K
  x : ex K = true
  hd : ∀ p ∈ tf, PySem.W.codeHdIn K (He.cT K p).1 (He.cT K p).2 = true
  out : ∀ p ∈ tf, K.lookup (He.cT K p).2 = none
  bare : ∀ p ∈ tf, h.get? (He.cT K p).2 = some { cls := .none, data := .fields #[] }
  nol : ∀ a o, K.lookup a = some o → listO o = false
def look (n : Nat) (fa : List He.Fa) (fn : List He.DefD) (tf : List He.Defn) (ex : PySem.W.Frag → Bool) (g : Addr → Option Obj) : He.AlD × Bool := (He.obsD fa fn (partU n g), ex (partU n g) && He.tabsB g tf (partU n g))
theorem says_of {n : Nat} {fa : List He.Fa} {fn : List He.DefD} {tf : List He.Defn} {ex : PySem.W.Frag → Bool} {h : Heap} (e : look n fa fn tf ex h.get? = (He.valD fn, true)) : Says fa fn tf ex h (partU n h.get?) := by
  obtain ⟨e1, e2⟩ := Prod.mk.inj e
  obtain ⟨h1, h2⟩ := He.ba e2
  have each : ∀ p ∈ tf, PySem.W.codeHdIn (partU n h.get?) (He.cT (partU n h.get?) p).1 (He.cT (partU n h.get?) p).2 = true ∧ ∃ o, h.get? (He.cT (partU n h.get?) p).2 = some o ∧ He.emptyTab o = true := fun p hp => by
    obtain ⟨z1, z2⟩ := He.ba (List.all_eq_true.mp h2 p hp)
    refine ⟨z1, ?_⟩
    split at z2
    · rename_i o q
      exact ⟨o, q, z2⟩
    · cases z2
  refine ⟨e1, h1, fun p hp => (each p hp).1, fun p hp => ?_, fun p hp => ?_, fun a o q => (partU_at q).2.2⟩
  · obtain ⟨_, o, q, z⟩ := each p hp
    cases e : (partU n h.get?).lookup (He.cT (partU n h.get?) p).2 with
    | none => rfl
    | some o' =>
      obtain ⟨y1, y2, _⟩ := partU_at e
      rw [q] at y1
      cases y1
      rw [z] at y2
      cases y2
  · obtain ⟨_, o, q, z⟩ := each p hp
    rw [q, He.emptyTab_eq z]
def hook (n : Nat) (fa : List He.Fa) (fn : List He.DefD) (tf : List He.Defn) (ex : PySem.W.Frag → Bool) : PySem.W.Hook where
  α := He.AlD × Bool
  obs := fun s => look n fa fn tf ex s.heap.get?
  val := fun _ => (He.valD fn, true)
  says := fun _ h => ∃ K : PySem.W.Frag, K.In h ∧ Says fa fn tf ex h K
  of := fun _ _ e => ⟨_, partU_in, says_of e⟩
  keeps := fun _ _ _ ⟨K, i, c⟩ k => ⟨K, i.keeps k, ⟨c.d, c.x, c.hd, c.out, fun p hp => k _ _ (c.bare p hp), c.nol⟩⟩
theorem look_eq {n : Nat} {fa : List He.Fa} {fn : List He.DefD} {tf : List He.Defn} {ex : PySem.W.Frag → Bool} {g : Addr → Option Obj} {s : Shared} (h : ∀ a, g a = s.heap.get? a) : look n fa fn tf ex g = (hook n fa fn tf ex).obs s := by
  obtain rfl : g = s.heap.get? := funext h
  rfl
section
variable {P : Program} {w : World} {K : PySem.W.Frag} {mg mb : Str → Option Value} {k : Nat} {fa a : Addr} {fd : FuncData} {x : Str} {sp : Sp} {s : Shared} {vs : List Value} {ns : List Int} {cs : List (Addr × Addr)}
/-- the heap as the law finds it: the script as it is, the tables empty -/
def H1 (a : Addr) (ob : Obj) (ns : List Int) (ts : List Addr) : Hp := fun b => if b = a then some (.frz ob (.lst (ns.map V.int))) else if b ∈ ts then some (.tbl #[]) else none
theorem H1_some {ob : Obj} {ts : List Addr} {b : Addr} {u : HO} (h : H1 a ob ns ts b = some u) : (b = a ∧ u = .frz ob (.lst (ns.map V.int))) ∨ (b ∈ ts ∧ u = .tbl #[]) := by
  unfold H1 at h
  split at h
  · rename_i c
    exact .inl ⟨c, (Option.some.inj h).symm⟩
  · split at h
    · rename_i c
      exact .inr ⟨c, (Option.some.inj h).symm⟩
    · cases h
theorem run_tabs (KX : K.In s.heap) (n1 : s.heap.Ns mainGlobals mg) (n2 : s.heap.Ns builtinsNs mb) (n3 : ∀ y : Str, y ≠ "__name__" → mb y = bootBuiltins y) (n4 : s.heap.NoLimit) (hgen : s.gens = #[])
    (hbm : ∃ (bm : Addr) (ob : Obj), mg "__builtins__" = some (.ref bm) ∧ bm ≠ builtinsNs ∧ s.heap.get? bm = some ob ∧ ob.cls = .type "module" ∧ ob.dict = some builtinsNs ∧ ob.data = .plain)
    (ha : s.heap.get? a = some { cls := .type "list", data := .seq vs.toArray }) (hi : IntsAre vs ns) (hl : ns.length ≤ sizeLine) (hr : Room k callerA) (hKa : K.lookup a = none)
    (hT : ∀ p ∈ cs, s.heap.get? p.2 = some { cls := .none, data := .fields #[] }) (nT : ∀ p ∈ cs, K.lookup p.2 = none) (C : ∀ p ∈ cs, PySem.W.codeHdIn K p.1 p.2 = true)
    (F : ∀ base : Heap, K.In base → base.Ns mainGlobals mg → (∀ p ∈ cs, GxR.TabB base mg p.1 p.2) → FnG P w K mg base k fa fd [x] sp)
    (hb : ∀ (s : Shared) (u : Value), BindsTo s fd ⟨[u], []⟩ [(x, u)])
    (hsp : ∀ (H : Hp) (ob : Obj), H a = some (.frz ob (.lst (ns.map V.int))) → (∀ p ∈ cs, H p.2 = some (.tbl #[]) ∧ p.2 ≠ a) → sp [.ref a] H (fun v _ => v = .bl true) E0) :
    codeAny (model P w) callerA (.call (.ref fa) ⟨[.ref a], []⟩) (fun r s' => r = .ok (.ret (.bool true)) ∧ OldK s.heap s'.heap ∧ s'.os = s.os ∧ AllBare s'.gens) s := by
  let ob : Obj := { cls := .type "list", data := .seq vs.toArray }
  let ts : List Addr := cs.map (·.2)
  let H : Hp := H1 a ob ns ts
  have rv := vals_ints hi
  have isT : ∀ b ∈ ts, s.heap.get? b = some { cls := .none, data := .fields #[] } := fun b m => by
    obtain ⟨p, hp, e⟩ := List.mem_map.mp m
    rw [← e]; exact hT p hp
  have aT : a ∉ ts := fun z => by
    have q := isT a z
    rw [ha] at q
    cases q
  have Ha : H a = some (.frz ob (.lst (ns.map V.int))) := if_pos rfl
  have Ht : ∀ p ∈ cs, H p.2 = some (.tbl #[]) ∧ p.2 ≠ a := fun p hp => by
    have m : p.2 ∈ ts := List.mem_map.mpr ⟨p, hp, rfl⟩
    have ne : p.2 ≠ a := fun z => aT (z ▸ m)
    exact ⟨(if_neg ne).trans (if_pos m), ne⟩
  have hok : HOk P w H s.heap := fun b u e => by
    rcases H1_some e with ⟨rfl, rfl⟩ | ⟨m, rfl⟩
    · exact ⟨ha, by rw [List.length_map]; exact hl, vs, _, rv, ha⟩
    · exact isT b m
  have see : ∀ {b : Addr} {o : Obj}, s.heap.get? b = some o → H b = none → (hidT s.heap H).get? b = some o := fun q z => hidT_get q z
  -- what is neither a list nor an empty table is not held
  have free : ∀ {b : Addr} {o : Obj}, s.heap.get? b = some o → (∀ its n, o.data ≠ .seq its n) → o.data ≠ .fields #[] → H b = none := fun {b o} q z1 z2 => by
    cases e : H b with
    | none => rfl
    | some u =>
      rcases H1_some e with ⟨rfl, _⟩ | ⟨m, _⟩
      · rw [ha] at q
        cases q
        exact absurd rfl (z1 _ _)
      · rw [isT b m] at q
        cases q
        exact absurd rfl z2
  have ns_of : ∀ {b : Addr} {m : Str → Option Value}, s.heap.Ns b m → (hidT s.heap H).Ns b m := fun {b m} z => by
    obtain ⟨o, es, ep, q, dt, r⟩ := z
    exact ⟨o, es, ep, see q (free q (fun its n y => by rw [dt] at y; cases y) fun y => by rw [dt] at y; cases y), dt, r⟩
  have kin : K.In (hidT s.heap H) := fun b o q => see (KX b o q) (by
    cases e : H b with
    | none => rfl
    | some u =>
      rcases H1_some e with ⟨rfl, _⟩ | ⟨m, _⟩
      · rw [hKa] at q
        cases q
      · obtain ⟨p, hp, e2⟩ := List.mem_map.mp m
        rw [← e2, nT p hp] at q
        cases q)
  have TB : ∀ p ∈ cs, GxR.TabB (hidT s.heap H) mg p.1 p.2 := fun p hp => by
    obtain ⟨bm, o, b1, b2, b3, b4, b5, b6⟩ := hbm
    have nG : bm ≠ mainGlobals := fun q => by
      obtain ⟨o', es, ep, e, d, _⟩ := n1
      rw [q, e] at b3
      cases b3
      rw [d] at b6
      cases b6
    have nP : bm ≠ p.2 := fun q => by
      rw [q, hT p hp] at b3
      cases b3
      cases b6
    refine ⟨PySem.W.codeHd_of_K kin (C p hp), ⟨bm, o, b1, b2, nG, nP, see b3 (free b3 (fun its n y => by rw [b6] at y; cases y) fun y => by rw [b6] at y; cases y), b4, b5, b6⟩, fun z => ?_⟩
    obtain ⟨o', es, ep, e, d, _⟩ := n1
    rw [z, hT p hp] at e
    cases e
    cases d
  have e0 : Env0 P w K mg (hidT s.heap H) callerA [] s H :=
    ⟨rfl, ⟨kin, ns_of n1, ⟨mb, ns_of n2, n3⟩, (let ⟨mc, z1, z2⟩ := n4; ⟨mc, ns_of z1, z2⟩)⟩, fun b o z => of_hidT z, Nat.le_of_eq (hidT_size _ _), trivial, (fun b z => nomatch z), hok, .of_eq hgen⟩
  refine codeAny_mono ((F _ kin (ns_of n1) TB).run callerA [] s H ⟨[.ref a], []⟩ [.ref a] [.ref a] _ _ rfl hr e0 (hb s (.ref a)) (.cons rfl .nil) (hsp H ob Ha Ht)) fun r s' h => ?_
  cases r with
  | error e => exact h.elim
  | ok fl =>
    cases fl with
    | next => exact False.elim h
    | brk => exact False.elim h
    | cont => exact False.elim h
    | ret u =>
      obtain ⟨v, H', os, bare, un, ok2, rv2, q⟩ := h
      obtain rfl : v = .bl true := q
      obtain rfl : u = Value.bool true := rv2
      have same : ∀ b o, b ∉ ts → s.heap.get? b = some o → s'.heap.get? b = some o := fun b o nb e => by
        cases hb2 : H b with
        | none => exact un.keep b o e hb2 (fun z => nomatch z) (fun z => nomatch z)
        | some u =>
          rcases H1_some hb2 with ⟨rfl, rfl⟩ | ⟨m, _⟩
          · rw [ha] at e
            cases e
            exact (ok2 b _ (un.frzs b _ _ hb2)).1
          · exact absurd m nb
      have more : ∀ p ∈ cs, ∃ us : Array Value, s'.heap.get? p.2 = some { cls := .none, data := .fields us } := fun p hp => by
        obtain ⟨us, z⟩ := un.tbls p.2 #[] (Ht p hp).1
        exact ⟨_, ok2 p.2 _ z⟩
      refine ⟨rfl, ⟨fun b o e => ?_, fun b o e => ?_⟩, os, bare⟩
      · by_cases m : b ∈ ts
        · obtain ⟨p, hp, rfl⟩ := List.mem_map.mp m
          obtain ⟨us, hm⟩ := more p hp
          have e2 := e
          rw [hT p hp] at e2
          cases e2
          exact .inr (.inl ⟨((PySem.W.codeHd_of_K KX (C p hp)).tab (hT p hp)).isCodeTable, rfl, #[], us, rfl, by rw [Array.empty_append]; exact hm⟩)
        · exact .inl (same b o m e)
      · by_cases m : b ∈ ts
        · obtain ⟨p, hp, rfl⟩ := List.mem_map.mp m
          obtain ⟨us, hm⟩ := more p hp
          exact ⟨_, hm⟩
        · exact ⟨o, same b o m e⟩
end
/-- the law's end, from what the head tells -/
theorem walkT {l : PySem.W.OpenLaw} {n k m : Nat} {q : Program} {loose : List Str} {XP : (Str → Option Value) → Heap → Prop} {d : DefRec} {x : Str} {fs : List He.Fa} {fn : List He.DefD} {tf : List He.Defn} {ex : PySem.W.Frag → Bool}
    (hn : l.most = some n) (hn2 : n ≤ sizeLine) (hdf : d.params.defaults = []) (hr : Room k callerA)
    (F : ∀ (w : World) (mg : Str → Option Value) (fa : Addr) (h : Heap) (K : PySem.W.Frag), K.In h → Says fs fn tf ex h K → h.Ns mainGlobals mg → mg d.name = some (.ref fa) →
      ∃ (fd : FuncData) (sp : Sp), (∀ (s : Shared) (u : Value), BindsTo s fd ⟨[u], []⟩ [(x, u)]) ∧
        (∀ (H : Hp) (a : Addr) (ob : Obj) (ns : List Int), ns.length ≤ n → H a = some (.frz ob (.lst (ns.map V.int))) → (∀ p ∈ tf, H (He.cT K p).2 = some (.tbl #[]) ∧ (He.cT K p).2 ≠ a) → sp [.ref a] H (fun v _ => v = .bl true) E0) ∧
        ∀ base : Heap, K.In base → base.Ns mainGlobals mg → (∀ p ∈ tf, GxR.TabB base mg (He.cT K p).1 (He.cT K p).2) → FnG l.prog w K mg base k fa fd [x] sp) :
    PySem.W.WalkO q loose XP (hook m fs fn tf ex).says l.row.toRowW d [] (fun f vs => PySem.call f vs) :=
  Att.attach_call hn hdf fun w s₀ s₁ mg mb fa o pm cd doc a vs ns G Y ho hd hcd hmg hobj hints hlen hg => by
    obtain ⟨K, KX, S⟩ := Y
    obtain ⟨fd, sp, hb, hsp, hF⟩ := F w mg fa _ K KX S G.T.g hmg
    have hKa : K.lookup a = none := by
      cases e : K.lookup a with
      | none => rfl
      | some o =>
        have e2 := S.nol a o e
        have e3 := KX a o e
        rw [hobj] at e3
        cases e3
        cases e2
    refine run_tabs (cs := tf.map (He.cT K)) KX G.T.g G.T.b G.T.builtins G.T.nolimit hg G.T.bmain hobj hints (Nat.le_trans hlen hn2) hr hKa (fun p hp => ?_) (fun p hp => ?_) (fun p hp => ?_) (fun base i j t => hF base i j fun p hp => t _ (List.mem_map.mpr ⟨p, hp, rfl⟩)) hb
      (fun H ob hH ht => hsp H a ob ns hlen hH fun p hp => ht _ (List.mem_map.mpr ⟨p, hp, rfl⟩))
    · obtain ⟨p', hp', rfl⟩ := List.mem_map.mp hp
      exact S.bare p' hp'
    · obtain ⟨p', hp', rfl⟩ := List.mem_map.mp hp
      exact S.out p' hp'
    · obtain ⟨p', hp', rfl⟩ := List.mem_map.mp hp
      exact S.hd p' hp'
end QF
namespace QH
open PySem PySem.Spec PyProof.Rows L2 Vk
open QF (Says listO)
def partA (as : List Addr) (g : Addr → Option Obj) : PySem.W.Frag := (He.frT g as).filter fun q => !listO q.2
theorem partA_at {as : List Addr} {g : Addr → Option Obj} {a : Addr} {o : Obj} (h : (partA as g).lookup a = some o) : g a = some o ∧ He.emptyTab o = false ∧ listO o = false := by
  obtain ⟨h1, h2⟩ := QF.look_sub QF.frT_uniq h
  obtain ⟨h3, h4⟩ := He.frT_mem h1
  exact ⟨h3, h4, by simpa using h2⟩
theorem partA_in {as : List Addr} {h : Heap} : (partA as h.get?).In h := fun _ _ e => (partA_at e).1
def look (as : List Addr) (fa : List He.Fa) (fn : List He.DefD) (tf : List He.Defn) (ex : PySem.W.Frag → Bool) (g : Addr → Option Obj) : He.AlD × Bool := (He.obsD fa fn (partA as g), ex (partA as g) && He.tabsB g tf (partA as g))
theorem says_of {as : List Addr} {fa : List He.Fa} {fn : List He.DefD} {tf : List He.Defn} {ex : PySem.W.Frag → Bool} {h : Heap} (e : look as fa fn tf ex h.get? = (He.valD fn, true)) : Says fa fn tf ex h (partA as h.get?) := by
  obtain ⟨e1, e2⟩ := Prod.mk.inj e
  obtain ⟨h1, h2⟩ := He.ba e2
  have each : ∀ p ∈ tf, PySem.W.codeHdIn (partA as h.get?) (He.cT (partA as h.get?) p).1 (He.cT (partA as h.get?) p).2 = true ∧ ∃ o, h.get? (He.cT (partA as h.get?) p).2 = some o ∧ He.emptyTab o = true := fun p hp => by
    obtain ⟨z1, z2⟩ := He.ba (List.all_eq_true.mp h2 p hp)
    refine ⟨z1, ?_⟩
    split at z2
    · rename_i o q
      exact ⟨o, q, z2⟩
    · cases z2
  refine ⟨e1, h1, fun p hp => (each p hp).1, fun p hp => ?_, fun p hp => ?_, fun a o q => (partA_at q).2.2⟩
  · obtain ⟨_, o, q, z⟩ := each p hp
    cases e : (partA as h.get?).lookup (He.cT (partA as h.get?) p).2 with
    | none => rfl
    | some o' =>
      obtain ⟨y1, y2, _⟩ := partA_at e
      rw [q] at y1
      cases y1
      rw [z] at y2
      cases y2
  · obtain ⟨_, o, q, z⟩ := each p hp
    rw [q, He.emptyTab_eq z]
def hook (as : List Addr) (fa : List He.Fa) (fn : List He.DefD) (tf : List He.Defn) (ex : PySem.W.Frag → Bool) : PySem.W.Hook where
  α := He.AlD × Bool
  obs := fun s => look as fa fn tf ex s.heap.get?
  val := fun _ => (He.valD fn, true)
  says := (QF.hook 0 fa fn tf ex).says
  of := fun _ _ e => ⟨_, partA_in, says_of e⟩
  keeps := (QF.hook 0 fa fn tf ex).keeps
theorem look_eq {as : List Addr} {fa : List He.Fa} {fn : List He.DefD} {tf : List He.Defn} {ex : PySem.W.Frag → Bool} {g : Addr → Option Obj} {s : Shared} (h : ∀ a, g a = s.heap.get? a) : look as fa fn tf ex g = (hook as fa fn tf ex).obs s := by
  obtain rfl : g = s.heap.get? := funext h
  rfl
end QH
namespace K42
open PySem PySem.Spec PyProof.Rows L2 DL
open BS
def hd0 : He.DefD := ⟨("span_without", none), "span_without", "span_without", defArgs (top 2), defBody (top 2), defScope (top 2), [], []⟩
def hd1 : He.DefD := ⟨("without_top", none), "without_top", "without_top", defArgs (top 3), defBody (top 3), defScope (top 3), [], []⟩
def hd2 : He.DefD := ⟨("is_whole", none), "is_whole", "is_whole", defArgs (top 10), defBody (top 10), defScope (top 10), [], []⟩
def hd3 : He.DefD := ⟨("need_whole_between", none), "need_whole_between", "need_whole_between", defArgs (top 11), defBody (top 11), defScope (top 11), [], []⟩
def hd4 : He.DefD := ⟨("is_fraction", none), "is_fraction", "is_fraction", defArgs (top 12), defBody (top 12), defScope (top 12), [], []⟩
def hd5 : He.DefD := ⟨("reduced", none), "reduced", "reduced", defArgs (top 13), defBody (top 13), defScope (top 13), [], []⟩
def hd6 : He.DefD := ⟨("over_one_bottom", none), "over_one_bottom", "over_one_bottom", defArgs (top 14), defBody (top 14), defScope (top 14), [], []⟩
def hd7 : He.DefD := ⟨("is_row", none), "is_row", "is_row", defArgs (top 16), defBody (top 16), defScope (top 16), [], []⟩
def hd8 : He.DefD := ⟨("need_row", none), "need_row", "need_row", defArgs (top 17), defBody (top 17), defScope (top 17), [], []⟩
def hd9 : He.DefD := ⟨("moment_of", none), "moment_of", "moment_of", defArgs (top 20), defBody (top 20), defScope (top 20), [], []⟩
def hd10 : He.DefD := ⟨("on_power", none), "on_power", "on_power", defArgs (top 19), defBody (top 19), defScope (top 19), [], []⟩
def hd11 : He.DefD := ⟨("_law_well", none), "_law_well", "_law_well", defArgs (top 22), defBody (top 22), defScope (top 22), [], []⟩
def hd12 : He.DefD := ⟨("_law_take", none), "_law_take", "_law_take", defArgs (top 23), defBody (top 23), defScope (top 23), [], []⟩
def hd13 : He.DefD := ⟨("_law_pick", none), "_law_pick", "_law_pick", defArgs (top 24), defBody (top 24), defScope (top 24), [], []⟩
def hd14 : He.DefD := ⟨("_law_rounds", none), "_law_rounds", "_law_rounds", defArgs (top 25), defBody (top 25), defScope (top 25), [], []⟩
def hd15 : He.DefD := ⟨("_law_common", none), "_law_common", "_law_common", defArgs (top 26), defBody (top 26), defScope (top 26), [], []⟩
def hd16 : He.DefD := ⟨("_law_ratio", none), "_law_ratio", "_law_ratio", defArgs (top 27), defBody (top 27), defScope (top 27), [], []⟩
def hd17 : He.DefD := ⟨("_law_sum", none), "_law_sum", "_law_sum", defArgs (top 28), defBody (top 28), defScope (top 28), [], []⟩
def hd18 : He.DefD := ⟨("_law_product", none), "_law_product", "_law_product", defArgs (top 29), defBody (top 29), defScope (top 29), [], []⟩
def hd19 : He.DefD := ⟨("_law_cleared", none), "_law_cleared", "_law_cleared", defArgs (top 30), defBody (top 30), defScope (top 30), [], []⟩
def hd20 : He.DefD := ⟨("_law_line", none), "_law_line", "_law_line", defArgs (top 31), defBody (top 31), defScope (top 31), [], []⟩
def hd21 : He.DefD := ⟨("_law_plus", none), "_law_plus", "_law_plus", defArgs (top 32), defBody (top 32), defScope (top 32), [], []⟩
def hd22 : He.DefD := ⟨("_law_scaled", none), "_law_scaled", "_law_scaled", defArgs (top 33), defBody (top 33), defScope (top 33), [], []⟩
def hd23 : He.DefD := ⟨("_law_less", none), "_law_less", "_law_less", defArgs (top 34), defBody (top 34), defScope (top 34), [], []⟩
def hd24 : He.DefD := ⟨("_law_later", none), "_law_later", "_law_later", defArgs (top 35), defBody (top 35), defScope (top 35), [], []⟩
def hd25 : He.DefD := ⟨("_law_number", none), "_law_number", "_law_number", defArgs (top 36), defBody (top 36), defScope (top 36), [], []⟩
def hd26 : He.DefD := ⟨("_law_draw", none), "_law_draw", "_law_draw", defArgs (top 37), defBody (top 37), defScope (top 37), [], []⟩
def hd27 : He.DefD := ⟨("_law_power", none), "_law_power", "_law_power", defArgs (top 38), defBody (top 38), defScope (top 38), [], []⟩
def hd28 : He.DefD := ⟨("_law_total", none), "_law_total", "_law_total", defArgs (top 39), defBody (top 39), defScope (top 39), [], []⟩
def hd29 : He.DefD := ⟨("_law_choices", none), "_law_choices", "_law_choices", defArgs (top 40), defBody (top 40), defScope (top 40), [], []⟩
def hd30 : He.DefD := ⟨("_law_polynomial", none), "_law_polynomial", "_law_polynomial", defArgs (top 41), defBody (top 41), defScope (top 41), [], []⟩
def hd31 : He.DefD := ⟨("_law_made", none), "_law_made", "_law_made", defArgs (top 42), defBody (top 42), defScope (top 42), [], []⟩
def hd32 : He.DefD := ⟨("_law_worth", none), "_law_worth", "_law_worth", defArgs (top 43), defBody (top 43), defScope (top 43), [], []⟩
def hd33 : He.DefD := ⟨("_law_right", none), "_law_right", "_law_right", defArgs (top 44), defBody (top 44), defScope (top 44), [], []⟩
def hd34 : He.DefD := ⟨("law", none), "law", "law", defArgs (top 45), defBody (top 45), defScope (top 45), [], []⟩
def hFn : List He.DefD := [hd0, hd1, hd2, hd3, hd4, hd5, hd6, hd7, hd8, hd9, hd10, hd11, hd12, hd13, hd14, hd15, hd16, hd17, hd18, hd19, hd20, hd21, hd22, hd23, hd24, hd25, hd26, hd27, hd28, hd29, hd30, hd31, hd32, hd33, hd34]
def hGlo : List Str := [("span_without" : Str), ("without_top" : Str), ("is_whole" : Str), ("need_whole_between" : Str), ("is_fraction" : Str), ("reduced" : Str), ("over_one_bottom" : Str), ("is_row" : Str), ("need_row" : Str), ("moment_of" : Str), ("on_power" : Str), ("_law_well" : Str), ("_law_take" : Str), ("_law_pick" : Str), ("_law_rounds" : Str), ("_law_common" : Str), ("_law_ratio" : Str), ("_law_sum" : Str), ("_law_product" : Str), ("_law_cleared" : Str), ("_law_line" : Str), ("_law_plus" : Str), ("_law_scaled" : Str), ("_law_less" : Str), ("_law_later" : Str), ("_law_number" : Str), ("_law_draw" : Str), ("_law_power" : Str), ("_law_total" : Str), ("_law_choices" : Str), ("_law_polynomial" : Str), ("_law_made" : Str), ("_law_worth" : Str), ("_law_right" : Str), ("law" : Str)]
def hFree : List Str := [("abs" : Str), ("all" : Str), ("bool" : Str), ("dict" : Str), ("divmod" : Str), ("enumerate" : Str), ("int" : Str), ("isinstance" : Str), ("len" : Str), ("list" : Str), ("max" : Str), ("min" : Str), ("range" : Str), ("repr" : Str), ("sum" : Str), ("tuple" : Str)]
def hDat : List (Str × D) := [(("ZERO" : Str), (.tup [.int 0, .int 1]))]
def hAs : List Addr := [1, 2, 3, 6, 4, 49, 56, 66, 86, 105, 108, 115, 122, 129, 136, 141, 148, 155, 160, 165, 172, 179, 186, 193, 200, 207, 214, 221, 226, 231, 236, 241, 248, 253, 260, 265, 272, 279, 284, 289, 294, 299, 304, 309, 0, 48, 55, 65, 85, 104, 114, 121, 128, 135, 140, 147, 154, 159, 164, 171, 178, 185, 192, 199, 206, 213, 220, 225, 230, 235, 240, 247, 252, 259, 264, 271, 278, 283, 288, 293, 298, 303, 308, 43, 45, 46, 47, 50, 52, 53, 54, 64, 67, 83, 84, 102, 103, 109, 111, 112, 113, 116, 118, 119, 120, 123, 125, 126, 127, 130, 132, 133, 134, 137, 139, 142, 144, 145, 146, 149, 151, 152, 153, 156, 158, 161, 163, 166, 168, 169, 170, 173, 175, 176, 177, 180, 182, 183, 184, 187, 189, 190, 191, 194, 196, 197, 198, 201, 203, 204, 205, 208, 210, 211, 212, 215, 217, 218, 219, 222, 224, 227, 229, 232, 234, 237, 239, 242, 244, 245, 246, 249, 251, 254, 256, 257, 258, 261, 263, 266, 268, 269, 270, 273, 275, 276, 277, 280, 282, 285, 287, 290, 292, 295, 297, 300, 302, 305, 307, 82, 101, 77, 79, 80, 81, 96, 98, 99, 100]
def hTab : List He.Defn := [("is_row", none)]
def hFa : List He.Fa := hGlo.map He.Fa.glo ++ hFree.map He.Fa.free
def hEx (K : PySem.W.Frag) : Bool := (K.lookup sysModules).isSome && ((He.eqO (PySem.W.nsIn K mainGlobals "comb") (some (some (.builtin "math.comb"))) && He.eqO (PySem.W.nsIn K mainGlobals "gcd") (some (some (.builtin "math.gcd"))) && He.eqO (PySem.W.nsIn K mainGlobals "lcm") (some (some (.builtin "math.lcm")))) && hDat.all fun p => cstB K p.1 p.2)
variable {P : Program} {w : World} {K : PySem.W.Frag} {mg : Str → Option Value} {base h : Heap}
theorem ctx_of (S : QF.Says hFa hFn hTab hEx h K) (X : K.In h) (G : h.Ns mainGlobals mg) (T : ∀ p ∈ hTab, GxR.TabB base mg (He.cT K p).1 (He.cT K p).2) : Ctx P w K mg base := by
  obtain ⟨x1, x⟩ := He.ba (show (_ && _) = true from S.x)
  obtain ⟨x2, x3⟩ := He.ba x
  have g : ∀ x ∈ hGlo, mg x = some (.ref (He.ga K x)) := fun x hx => He.glo_ok X G (He.SaysD.facts S.d (List.mem_append_left _ (List.mem_map.mpr ⟨x, hx, rfl⟩)))
  have f : ∀ x ∈ hFree, mg x = none := fun x hx => He.free_ok X G (He.SaysD.facts S.d (List.mem_append_right _ (List.mem_map.mpr ⟨x, hx, rfl⟩)))
  have t : ∀ p ∈ hDat, Cst K mg p.1 p.2 := fun p hp => dat_cst X G (List.all_eq_true.mp x3 p hp)
  obtain ⟨y12, y3⟩ := He.ba x2
  obtain ⟨y1, y2⟩ := He.ba y12
  have b_comb := PySem.W.mg_of X G (He.eqO_ok y1)
  have b_gcd := PySem.W.mg_of X G (He.eqO_ok y2)
  have b_lcm := PySem.W.mg_of X G (He.eqO_ok y3)
  exact {
    d_span_without := (S.d.def_ 0 (d := hd0) rfl).elim fun fd F => ⟨_, fd, F, g "span_without" (by simp [hGlo])⟩
    d_without_top := (S.d.def_ 1 (d := hd1) rfl).elim fun fd F => ⟨_, fd, F, g "without_top" (by simp [hGlo])⟩
    d_is_whole := (S.d.def_ 2 (d := hd2) rfl).elim fun fd F => ⟨_, fd, F, g "is_whole" (by simp [hGlo])⟩
    d_need_whole_between := (S.d.def_ 3 (d := hd3) rfl).elim fun fd F => ⟨_, fd, F, g "need_whole_between" (by simp [hGlo])⟩
    d_is_fraction := (S.d.def_ 4 (d := hd4) rfl).elim fun fd F => ⟨_, fd, F, g "is_fraction" (by simp [hGlo])⟩
    d_reduced := (S.d.def_ 5 (d := hd5) rfl).elim fun fd F => ⟨_, fd, F, g "reduced" (by simp [hGlo])⟩
    d_over_one_bottom := (S.d.def_ 6 (d := hd6) rfl).elim fun fd F => ⟨_, fd, F, g "over_one_bottom" (by simp [hGlo])⟩
    d_is_row := (S.d.def_ 7 (d := hd7) rfl).elim fun fd F => ⟨_, fd, F, g "is_row" (by simp [hGlo])⟩
    d_need_row := (S.d.def_ 8 (d := hd8) rfl).elim fun fd F => ⟨_, fd, F, g "need_row" (by simp [hGlo])⟩
    d_moment_of := (S.d.def_ 9 (d := hd9) rfl).elim fun fd F => ⟨_, fd, F, g "moment_of" (by simp [hGlo])⟩
    d_on_power := (S.d.def_ 10 (d := hd10) rfl).elim fun fd F => ⟨_, fd, F, g "on_power" (by simp [hGlo])⟩
    d_law_well := (S.d.def_ 11 (d := hd11) rfl).elim fun fd F => ⟨_, fd, F, g "_law_well" (by simp [hGlo])⟩
    d_law_take := (S.d.def_ 12 (d := hd12) rfl).elim fun fd F => ⟨_, fd, F, g "_law_take" (by simp [hGlo])⟩
    d_law_pick := (S.d.def_ 13 (d := hd13) rfl).elim fun fd F => ⟨_, fd, F, g "_law_pick" (by simp [hGlo])⟩
    d_law_rounds := (S.d.def_ 14 (d := hd14) rfl).elim fun fd F => ⟨_, fd, F, g "_law_rounds" (by simp [hGlo])⟩
    d_law_common := (S.d.def_ 15 (d := hd15) rfl).elim fun fd F => ⟨_, fd, F, g "_law_common" (by simp [hGlo])⟩
    d_law_ratio := (S.d.def_ 16 (d := hd16) rfl).elim fun fd F => ⟨_, fd, F, g "_law_ratio" (by simp [hGlo])⟩
    d_law_sum := (S.d.def_ 17 (d := hd17) rfl).elim fun fd F => ⟨_, fd, F, g "_law_sum" (by simp [hGlo])⟩
    d_law_product := (S.d.def_ 18 (d := hd18) rfl).elim fun fd F => ⟨_, fd, F, g "_law_product" (by simp [hGlo])⟩
    d_law_cleared := (S.d.def_ 19 (d := hd19) rfl).elim fun fd F => ⟨_, fd, F, g "_law_cleared" (by simp [hGlo])⟩
    d_law_line := (S.d.def_ 20 (d := hd20) rfl).elim fun fd F => ⟨_, fd, F, g "_law_line" (by simp [hGlo])⟩
    d_law_plus := (S.d.def_ 21 (d := hd21) rfl).elim fun fd F => ⟨_, fd, F, g "_law_plus" (by simp [hGlo])⟩
    d_law_scaled := (S.d.def_ 22 (d := hd22) rfl).elim fun fd F => ⟨_, fd, F, g "_law_scaled" (by simp [hGlo])⟩
    d_law_less := (S.d.def_ 23 (d := hd23) rfl).elim fun fd F => ⟨_, fd, F, g "_law_less" (by simp [hGlo])⟩
    d_law_later := (S.d.def_ 24 (d := hd24) rfl).elim fun fd F => ⟨_, fd, F, g "_law_later" (by simp [hGlo])⟩
    d_law_number := (S.d.def_ 25 (d := hd25) rfl).elim fun fd F => ⟨_, fd, F, g "_law_number" (by simp [hGlo])⟩
    d_law_draw := (S.d.def_ 26 (d := hd26) rfl).elim fun fd F => ⟨_, fd, F, g "_law_draw" (by simp [hGlo])⟩
    d_law_power := (S.d.def_ 27 (d := hd27) rfl).elim fun fd F => ⟨_, fd, F, g "_law_power" (by simp [hGlo])⟩
    d_law_total := (S.d.def_ 28 (d := hd28) rfl).elim fun fd F => ⟨_, fd, F, g "_law_total" (by simp [hGlo])⟩
    d_law_choices := (S.d.def_ 29 (d := hd29) rfl).elim fun fd F => ⟨_, fd, F, g "_law_choices" (by simp [hGlo])⟩
    d_law_polynomial := (S.d.def_ 30 (d := hd30) rfl).elim fun fd F => ⟨_, fd, F, g "_law_polynomial" (by simp [hGlo])⟩
    d_law_made := (S.d.def_ 31 (d := hd31) rfl).elim fun fd F => ⟨_, fd, F, g "_law_made" (by simp [hGlo])⟩
    d_law_worth := (S.d.def_ 32 (d := hd32) rfl).elim fun fd F => ⟨_, fd, F, g "_law_worth" (by simp [hGlo])⟩
    d_law_right := (S.d.def_ 33 (d := hd33) rfl).elim fun fd F => ⟨_, fd, F, g "_law_right" (by simp [hGlo])⟩
    d_law := (S.d.def_ 34 (d := hd34) rfl).elim fun fd F => ⟨_, fd, F, g "law" (by simp [hGlo])⟩
    g_abs := f "abs" (by simp [hFree])
    g_all := f "all" (by simp [hFree])
    g_bool := f "bool" (by simp [hFree])
    g_dict := f "dict" (by simp [hFree])
    g_divmod := f "divmod" (by simp [hFree])
    g_enumerate := f "enumerate" (by simp [hFree])
    g_int := f "int" (by simp [hFree])
    g_isinstance := f "isinstance" (by simp [hFree])
    g_len := f "len" (by simp [hFree])
    g_list := f "list" (by simp [hFree])
    g_max := f "max" (by simp [hFree])
    g_min := f "min" (by simp [hFree])
    g_range := f "range" (by simp [hFree])
    g_repr := f "repr" (by simp [hFree])
    g_sum := f "sum" (by simp [hFree])
    g_tuple := f "tuple" (by simp [hFree])
    c_ZERO := t ("ZERO", (.tup [.int 0, .int 1])) (by simp [hDat])
    b_comb := b_comb
    b_gcd := b_gcd
    b_lcm := b_lcm
    sm := Option.isSome_iff_exists.mp x1
    a_is_row := g "is_row" (by simp [hGlo])
    t_is_row := T ("is_row", none) (by simp [hTab]) }
end K42
namespace K42
open PySem PySem.Spec PyProof.Rows L2 DL
abbrev Rw : PySem.W.OpenRow := PySem.W.OpenLaw.row PySem.Challenge.rw_bandsplits_k42_whole_polynomials_of_powe
abbrev hk : PySem.W.Hook := QH.hook hAs hFa hFn hTab hEx
def ob (s : PySem.W.SharedT) : He.AlD × Bool := QH.look hAs hFa hFn hTab hEx (HandSHeadRun.getT s)
theorem ob_eq (s : PySem.W.SharedT) : ob s = hk.obs s.abs := QH.look_eq (HandSHeadRun.getT_eq s)
def loose : List Str := [("span_without" : Str), ("without_top" : Str), ("BandError" : Str), ("InvalidNumber" : Str), ("InvalidRow" : Str), ("ZERO" : Str), ("is_whole" : Str), ("need_whole_between" : Str), ("is_fraction" : Str), ("reduced" : Str), ("over_one_bottom" : Str), ("is_row" : Str), ("need_row" : Str), ("on_power" : Str), ("moment_of" : Str), ("_law_well" : Str), ("_law_take" : Str), ("_law_pick" : Str), ("_law_rounds" : Str), ("_law_common" : Str), ("_law_ratio" : Str), ("_law_sum" : Str), ("_law_product" : Str), ("_law_cleared" : Str), ("_law_line" : Str), ("_law_plus" : Str), ("_law_scaled" : Str), ("_law_less" : Str), ("_law_later" : Str), ("_law_number" : Str), ("_law_draw" : Str), ("_law_power" : Str), ("_law_total" : Str), ("_law_choices" : Str), ("_law_polynomial" : Str), ("_law_made" : Str), ("_law_worth" : Str), ("_law_right" : Str)]
theorem run (w : World) : HandSHeadRun.RunEqI Rw (PySem.W.view Rw.prog [0, 45]) hk ob 8000 loose w := by
  unfold HandSHeadRun.RunEqI
  kernel_rfl
end K42
namespace K42
open PySem PySem.Spec PyProof.Rows L2 DL
open BS QA
section
variable {P : Program} {w : World} {K : PySem.W.Frag} {mg : Str → Option Value} {base : Heap}
theorem whole_tells (C : Ctx P w K mg base) : Tells P w K mg base "is_whole" 0 RWhole := by
  obtain ⟨f, fd, F, hg⟩ := C.d_is_whole
  refine ⟨⟨f, hg, F.kp, fun A s u b M hA hd bk ⟨T, kd, hb⟩ => ?_⟩, fun h h' u b k ⟨T, kd, hb⟩ => ⟨T, kd.keepC k, hb⟩⟩
  obtain ⟨oc, od, dV, kV, doc, pm, an, cdv, ct, osl, rfl, lk, hcd, hD, hK⟩ := F.ex
  rcases hD with ⟨_, hD⟩ | ⟨e, _⟩
  case inr => exact absurd rfl e
  subst hD
  refine Att.call_fn (binds := [("value", u)]) (M.kin.keeps bk) (M.nolimit.keeps bk) lk hcd (by omega) (BindsTo.of_eq (by rfl)) (by rfl) (fun s₁ IC => ?_) rfl rfl rfl
  obtain ⟨h₁, tk₁, rfl⟩ := IC.toInCall.same
  have k : ∀ b o, s.heap.get? b = some o → h₁.get? b = some o := IC.toInCall.keep
  have hn := IC.toInCall.ns
  have V : EnvF (envOfC "is_whole" (defScope (top 10)) s.heap.objs.size f cdv) := ⟨⟨rfl, rfl⟩, rfl⟩
  have S : SF K mg base (envOfC "is_whole" (defScope (top 10)) s.heap.objs.size f cdv) _ h₁ := ⟨M, fun b o e => k b o (bk b o e), hn⟩
  have back : ∀ tk b', b' = b → (Except.ok (Flow.ret (Value.bool b')) : Result) = .ok (.ret (.bool b)) ∧ Keeps s { s with heap := h₁, toks := tk } := fun tk b' e => ⟨by rw [e], h₁, tk, rfl, k⟩
  have fact := kind_whole T kd.mem
  refine wpAny_execs_cons (wpAny_Return_some (BoolOp_and ?_))
  refine qIsi (t := "int") V S C.g_isinstance C.g_int (by decide +kernel) (by decide) (by rfl) (kd.keeps k) (by rfl) (by rfl) (by rfl) fun tk => ?_
  refine wpAny_truthy_bool ?_
  cases e : isKind T "int" with
  | false =>
    rw [e] at fact
    exact back tk false (by rw [hb]; exact fact)
  | true =>
    rw [e] at fact
    refine BoolOp_one (UnaryOp_ (qIsi (t := "bool") V S C.g_isinstance C.g_bool (by decide +kernel) (by decide) (by rfl) (kd.keeps k) (by rfl) (by rfl) (by rfl) fun tk2 => ?_))
    refine not_of (wpAny_truthy_bool ?_)
    exact back tk2 _ (by rw [hb]; exact fact)
theorem frac_tells (C : Ctx P w K mg base) : Tells P w K mg base "is_fraction" 1 RFrac := by
  obtain ⟨f, fd, F, hg⟩ := C.d_is_fraction
  obtain ⟨fw, hgw, kpw, runw⟩ := (whole_tells C).ex
  refine ⟨⟨f, hg, F.kp, fun A s u b M hA hd bk R => ?_⟩, fun h h' u b k R => R.keep k⟩
  obtain ⟨oc, od, dV, kV, doc, pm, an, cdv, ct, osl, rfl, lk, hcd, hD, hK⟩ := F.ex
  rcases hD with ⟨_, hD⟩ | ⟨e, _⟩
  case inr => exact absurd rfl e
  subst hD
  refine Att.call_fn (binds := [("value", u)]) (M.kin.keeps bk) (M.nolimit.keeps bk) lk hcd (by omega) (BindsTo.of_eq (by rfl)) (by rfl) (fun s₁ IC => ?_) rfl rfl rfl
  obtain ⟨h₁, tk₁, rfl⟩ := IC.toInCall.same
  have k : ∀ b o, s.heap.get? b = some o → h₁.get? b = some o := IC.toInCall.keep
  have hn := IC.toInCall.ns
  have V : EnvF (envOfC "is_fraction" (defScope (top 12)) s.heap.objs.size f cdv) := ⟨⟨rfl, rfl⟩, rfl⟩
  have S : SF K mg base (envOfC "is_fraction" (defScope (top 12)) s.heap.objs.size f cdv) _ h₁ := ⟨M, fun b o e => k b o (bk b o e), hn⟩
  have hdep : (A.deeper (envOfC "is_fraction" (defScope (top 12)) s.heap.objs.size f cdv)).depth + 0 < recursionLimit := by show A.depth + 1 + 0 < _; omega
  have noL : ∀ o, base.get? s.heap.objs.size ≠ some o := fun o e => absurd (Heap.lt_size (bk _ _ e)) (Nat.lt_irrefl _)
  have back : ∀ h' tk b', (∀ c o, s.heap.get? c = some o → h'.get? c = some o) → b' = b → (Except.ok (Flow.ret (Value.bool b')) : Result) = .ok (.ret (.bool b)) ∧ Keeps s { s with heap := h', toks := tk } := fun h' tk b' k' e => ⟨by rw [e], h', tk, rfl, k'⟩
  -- the first test: a tuple of two?
  rcases R with ⟨T, kd, hT, hb⟩ | R
  · refine wpAny_execs_cons (wpAny_If (isTrue_or (isTrue_not (isTrue_plain ?_))))
    refine qIsi (t := "tuple") V S C.g_isinstance C.g_tuple (by decide +kernel) (by decide) (by rfl) (kd.keeps k) (by rfl) (by rfl) (by rfl) fun tk => ?_
    refine wpAny_truthy_bool ?_
    rw [kind_tuple T kd.mem, (by simpa using hT : (T == "tuple") = false)]
    exact wpAny_execs_cons (wpAny_Return_some (Constant_bool (back _ tk _ k hb.symm)))
  · -- a tuple
    have first : ∀ (a : Addr) (vs : Array Value), u = .ref a → IsTup s.heap a vs → (vs.size : Int) < 2 ^ 63 → ∀ (Q : Flow → Shared → Prop) (Ex : Value → Shared → Prop) (rest : List Stmt) (body : List Stmt) (p0 p1 p2 p3 p4 p5 p6 p7 p8 p9 p10 p11 p12 p13 : Pos) (j1 : Nat),
        (∀ tk, if vs.size = 2 then wpAny (model P w) (A.deeper (envOfC "is_fraction" (defScope (top 12)) s.heap.objs.size f cdv)) (execs rest (envOfC "is_fraction" (defScope (top 12)) s.heap.objs.size f cdv)) Q Ex { s with heap := h₁, toks := tk } else
          wpAny (model P w) (A.deeper (envOfC "is_fraction" (defScope (top 12)) s.heap.objs.size f cdv)) (execs (body) (envOfC "is_fraction" (defScope (top 12)) s.heap.objs.size f cdv)) (fun fl s' => match fl with | .next => wpAny (model P w) (A.deeper (envOfC "is_fraction" (defScope (top 12)) s.heap.objs.size f cdv)) (execs rest (envOfC "is_fraction" (defScope (top 12)) s.heap.objs.size f cdv)) Q Ex s' | fl => Q fl s') Ex { s with heap := h₁, toks := tk }) →
        wpAny (model P w) (A.deeper (envOfC "is_fraction" (defScope (top 12)) s.heap.objs.size f cdv)) (execs (.If (.BoolOp .Or [.UnaryOp .Not (.Call (.Name "isinstance" p1) [.Name "value" p2, .Name "tuple" p3] [] p4) p5, .Compare (.Call (.Name "len" p6) [.Name "value" p7] [] p8) [.NotEq] [.Constant (.int 2) j1 p9] p10] p11) body [] p12 :: rest) (envOfC "is_fraction" (defScope (top 12)) s.heap.objs.size f cdv)) Q Ex { s with heap := h₁, toks := tk₁ } := by
      intro a vs hu ht hz Q Ex rest body p0 p1 p2 p3 p4 p5 p6 p7 p8 p9 p10 p11 p12 p13 j1 h
      subst hu
      refine wpAny_execs_cons (wpAny_If (isTrue_or (isTrue_not (isTrue_plain ?_))))
      refine qIsi (t := "tuple") V S C.g_isinstance C.g_tuple (by decide +kernel) (by decide) (by rfl) ((tup_kd ht).keeps k) (by rfl) (by rfl) (by rfl) fun tk => ?_
      refine wpAny_truthy_bool ?_
      show wpAny _ _ (isTrue _ _ _) _ _ _
      refine isTrue_or (wpAny_isTrue_Compare1 (qLen V S C.g_len (by rfl) (ht.keeps k) hz (by rfl) (by rfl) fun t tk => ?_))
      refine wpAny_Constant_int (PyProof.Rows.ne_int (wpAny_truthy_bool ?_))
      by_cases e : vs.size = 2
      · have q := fun tk => h tk
        simp only [e, if_true] at q
        have e2 : (((vs.size : Nat) : Int) != 2) = false := by rw [e]; rfl
        rw [e2]
        exact isTrue_or_nil (wpAny_execs_nil (q _))
      · have q := fun tk => h tk
        simp only [e, if_false] at q
        have e2 : (((vs.size : Nat) : Int) != 2) = true := by simp; omega
        rw [e2]
        exact q _
    rcases R with ⟨a, vs, hu, ht, hz, hl, hb⟩ | R
    · refine first a vs.toArray hu ht (by simpa using hz) _ _ _ _ ⟨0, 0, 0, 0⟩ _ _ _ _ _ _ _ _ _ _ _ _ ⟨0, 0, 0, 0⟩ _ fun tk => ?_
      rw [if_neg (by simpa using hl)]
      exact wpAny_execs_cons (wpAny_Return_some (Constant_bool (back _ tk _ k hb.symm)))
    · have R2 : ∃ (a : Addr) (x y : Value) (Tx Ty : String), u = .ref a ∧ IsTup s.heap a #[x, y] ∧ Kd s.heap x Tx ∧ Kd s.heap y Ty ∧ ((¬ (Tx = "int" ∧ Ty = "int") ∧ b = false) ∨
          ∃ (n : Int) (t : Tok) (m : Int) (t' : Tok), x = .int n t ∧ y = .int m t' ∧ Tx = "int" ∧ Ty = "int" ∧ b = (decide (0 < m) && decide (Nat.gcd n.natAbs m.natAbs = 1))) := by
        rcases R with ⟨a, x, y, Tx, Ty, h1, h2, h3, h4, h5⟩ | ⟨a, n, t, m, t', h1, h2, h3⟩
        · exact ⟨a, x, y, Tx, Ty, h1, h2, h3, h4, .inl h5⟩
        · exact ⟨a, _, _, "int", "int", h1, h2, .int n t, .int m t', .inr ⟨n, t, m, t', rfl, rfl, rfl, rfl, h3⟩⟩
      obtain ⟨a, x, y, Tx, Ty, hu, ht, kx, ky, R3⟩ := R2
      refine first a #[x, y] hu ht (by show ((2 : Nat) : Int) < 2 ^ 63; decide) _ _ _ _ ⟨0, 0, 0, 0⟩ _ _ _ _ _ _ _ _ _ _ _ _ ⟨0, 0, 0, 0⟩ _ fun tk => ?_
      rw [if_pos (by rfl)]
      subst hu
      refine wpAny_execs_cons (qPair (s := { s with heap := h₁, toks := tk }) V S hA (by rfl) (ht.keeps k) (by rfl) (by rfl) (by rfl) (fun h2 tk2 S2 k2 => ?_) noL)
      have kk2 : ∀ c o, s.heap.get? c = some o → h2.get? c = some o := fun c o e => k2 c o (Nat.ne_of_lt (Heap.lt_size e)) (k c o e)
      have hA' : (A.deeper (envOfC "is_fraction" (defScope (top 12)) s.heap.objs.size f cdv)).handled = none := hA
      refine wpAny_execs_cons (wpAny_If (isTrue_or (isTrue_not (isTrue_plain ?_))))
      refine qCall (s := { s with heap := h2, toks := tk2 }) V.toEnvG S2 hgw kpw (by rfl) (by rfl) (by rfl) (codeAny_mono (runw _ _ x _ M hA' hdep S2.bk ⟨Tx, kx.keeps kk2, rfl⟩) fun r s3 q => ?_)
      obtain ⟨hr, h3, tk3, e3, k3⟩ := q
      refine ⟨_, hr, ?_⟩
      subst e3
      refine wpAny_truthy_bool ?_
      have kk3 : ∀ c o, s.heap.get? c = some o → h3.get? c = some o := fun c o e => k3 c o (kk2 c o e)
      have S3 := S2.keeps k3
      cases eT : (Tx == "int") with
      | false =>
        have hb : false = b := by
          rcases R3 with ⟨_, hb⟩ | ⟨n, t, m, t', _, _, e, _⟩
          · exact hb.symm
          · rw [e] at eT; cases eT
        exact wpAny_execs_cons (wpAny_Return_some (Constant_bool (back _ tk3 _ kk3 hb)))
      | true =>
        refine isTrue_or (isTrue_not (isTrue_plain ?_))
        refine qCall (s := { s with heap := h3, toks := tk3 }) V.toEnvG S3 hgw kpw (by rfl) (by rfl) (by rfl) (codeAny_mono (runw _ _ y _ M hA' hdep S3.bk ⟨Ty, ky.keeps kk3, rfl⟩) fun r s4 q => ?_)
        obtain ⟨hr, h4, tk4, e4, k4⟩ := q
        refine ⟨_, hr, ?_⟩
        subst e4
        refine wpAny_truthy_bool ?_
        have kk4 : ∀ c o, s.heap.get? c = some o → h4.get? c = some o := fun c o e => k4 c o (kk3 c o e)
        have S4 := S3.keeps k4
        cases eY : (Ty == "int") with
        | false =>
          have hb : false = b := by
            rcases R3 with ⟨_, hb⟩ | ⟨n, t, m, t', _, _, _, e, _⟩
            · exact hb.symm
            · rw [e] at eY; cases eY
          exact wpAny_execs_cons (wpAny_Return_some (Constant_bool (back _ tk4 _ kk4 hb)))
        | true =>
          rcases R3 with ⟨z, _⟩ | ⟨n, t, m, t', rfl, rfl, _, _, hb⟩
          · exact absurd ⟨beq_iff_eq.mp eT, beq_iff_eq.mp eY⟩ z
          refine isTrue_or_nil (wpAny_execs_nil ?_)
          refine wpAny_execs_cons (wpAny_Return_some (BoolOp_and (wpAny_Compare1 ?_)))
          refine nmL (s := { s with heap := h4, toks := tk4 }) V.toEnvG S4 (u := .int m t') (by rfl) (by rfl) ?_
          refine wpAny_Constant_int (PyProof.Rows.gt_int (wpAny_truthy_bool ?_))
          cases e0 : decide ((0 : Int) < m) with
          | false => exact back _ _ _ kk4 (by rw [hb, e0]; rfl)
          | true =>
            refine BoolOp_one (wpAny_Compare1 ?_)
            refine qGcd (i := n) (j := m) (t := t) (t' := t') V S4 C.b_gcd (by rfl) (by rfl) (by rfl) (by rfl) (by rfl) fun t9 tk9 => ?_
            refine wpAny_Constant_int (PyProof.Rows.eq_int ?_)
            exact back _ _ _ kk4 (by rw [hb, e0, Bool.true_and]; exact gcd_b _)
end
end K42
namespace K42
open PySem PySem.Spec PyProof.Rows L2 DL
open BS
section
variable {P : Program} {w : World} {K : PySem.W.Frag} {mg : Str → Option Value} {base : Heap}
theorem ok_span_without (C : Ctx P w K mg base) : DFn P w K mg base 1 "span_without" ["numbers", "nought"] F_span_without := by
  obtain ⟨f, fd, F, hg⟩ := C.d_span_without
  exact dfn (k := 0) F hg sc_span_without (fun _ _ _ _ _ _ us hl => match us, hl with | [_, _], _ => rfl) (fun _ _ _ _ _ _ us hl => match us, hl with | [_, _], _ => rfl) (fun cdv A outer s H E hr => (dss_cons (ds_par (i := 2) (j := 3) (by rfl) sc_span_without.nd rfl rfl (by decide) rfl rfl (da_cons de_int (da_cons (de_callB dc_len (by rfl) C.g_len (by decide +kernel) (da_cons (dv 0) da_nil)) da_nil)) (by rfl))
    (dss_cons (ds_while fuelE PassesOwn.never (PW.pt (dw_and (dt_cmp do_gt (dv 3) de_int (nomark _)) (dw_and1 (dt_cmp (do_eqM hr.units) (de_ix (dv 0) (de_bin do_sub (dv 3) de_int) (fun _ _ => rfl)) (dv 1) (nomark _))))) (dss_one (ds_aug (i := 3) sc_span_without.nd rfl (.inl rfl) de_int di_subI)))
    (dss_cons (ds_while fuelF PassesOwn.never (PW.pt (dw_and (dt_cmp do_lt (dv 2) (dv 3) (nomark _)) (dw_and1 (dt_cmp (do_eqM hr.units) (de_ix (dv 0) (dv 2) (fun _ _ => rfl)) (dv 1) (nomark _))))) (dss_one (ds_aug (i := 2) sc_span_without.nd rfl (.inl rfl) de_int di_addI)))
    (dss_one (ds_ret (de_tup (da_cons (dv 2) (da_cons (dv 3) da_nil)))))))))
theorem ok_without_top (C : Ctx P w K mg base) : DFn P w K mg base 2 "without_top" ["numbers"] F_without_top := by
  obtain ⟨f, fd, F, hg⟩ := C.d_without_top
  exact dfn (k := 1) F hg sc_without_top (fun _ _ _ _ _ _ us hl => match us, hl with | [_], _ => rfl) (fun _ _ _ _ _ _ us hl => match us, hl with | [_], _ => rfl) (fun cdv A outer s H E hr => (dss_one (ds_ret (de_slice (dv 0) do_none (do_some (de_ix (de_callF (ok_span_without C) hr (by decide) (da_cons (dv 0) (da_cons de_int da_nil))) de_int (fun _ _ => rfl)))))))
theorem ok_is_whole (C : Ctx P w K mg base) : DFn P w K mg base 1 "is_whole" ["value"] F_is_whole := by
  obtain ⟨f, fd, F, hg⟩ := C.d_is_whole
  exact dfn (k := 0) F hg sc_is_whole (fun _ _ _ _ _ _ us hl => match us, hl with | [_], _ => rfl) (fun _ _ _ _ _ _ us hl => match us, hl with | [_], _ => rfl) (fun cdv A outer s H E hr => (dss_one (ds_ret (de_and (de_callB dc_isi (by rfl) C.g_isinstance (by decide +kernel) (da_cons (dv 0) (da_cons (de_bty (by rfl) C.g_int (by decide +kernel)) da_nil))) (de_one (de_not (de_callB dc_isi (by rfl) C.g_isinstance (by decide +kernel) (da_cons (dv 0) (da_cons (de_bty (by rfl) C.g_bool (by decide +kernel)) da_nil)))))))))
theorem ok_need_whole_between (C : Ctx P w K mg base) : DFn P w K mg base 2 "need_whole_between" ["value", "least", "greatest"] F_need_whole_between := by
  obtain ⟨f, fd, F, hg⟩ := C.d_need_whole_between
  exact dfn (k := 1) F hg sc_need_whole_between (fun _ _ _ _ _ _ us hl => match us, hl with | [_, _, _], _ => rfl) (fun _ _ _ _ _ _ us hl => match us, hl with | [_, _, _], _ => rfl) (fun cdv A outer s H E hr => (dss_one (ds_if (PW.pt (dw_or (dt_not (dt_val (de_callF (ok_is_whole C) hr (by decide) (da_cons (dv 0) da_nil)))) (dw_or1 (dt_not (dt_chain do_le do_le (dv 1) (dv 0) (dv 2)))))) (dss_one ds_never) dss_nil)))
theorem ok_reduced (C : Ctx P w K mg base) : DFn P w K mg base 1 "reduced" ["top", "bottom"] F_reduced := by
  obtain ⟨f, fd, F, hg⟩ := C.d_reduced
  exact dfn (k := 0) F hg sc_reduced (fun _ _ _ _ _ _ us hl => match us, hl with | [_, _], _ => rfl) (fun _ _ _ _ _ _ us hl => match us, hl with | [_, _], _ => rfl) (fun cdv A outer s H E hr => (dss_cons (ds_setn (i := 2) sc_reduced.nd rfl (.inl rfl) (de_callBfun dc_gcd (by rfl) C.b_gcd (da_cons (dv 0) (da_cons (dv 1) da_nil))))
    (dss_cons (ds_if (dt_cmp do_lt (dv 1) de_int (nomark _)) (dss_one (ds_setn (i := 2) sc_reduced.nd rfl (.inl rfl) (de_un du_neg (dv 2)))) dss_nil)
    (dss_one (ds_ret (de_tup (da_cons (de_bin do_fdiv (dv 0) (dv 2)) (da_cons (de_bin do_fdiv (dv 1) (dv 2)) da_nil))))))))
theorem ok_over_one_bottom (C : Ctx P w K mg base) : DFn P w K mg base 1 "over_one_bottom" ["numbers"] F_over_one_bottom := by
  obtain ⟨f, fd, F, hg⟩ := C.d_over_one_bottom
  exact dfn (k := 0) F hg sc_over_one_bottom (fun _ _ _ _ _ _ us hl => match us, hl with | [_], _ => rfl) (fun _ _ _ _ _ _ us hl => match us, hl with | [_], _ => rfl) (fun cdv A outer s H E hr => (dss_cons (ds_setn (i := 1) sc_over_one_bottom.nd rfl (.inr rfl) de_int)
    (dss_cons (ds_for PassesOwn.never rfl (di_tup (dv 0)) (dg_name (i := 2) sc_over_one_bottom.nd rfl (.inl rfl)) (dss_one (ds_setn (i := 1) sc_over_one_bottom.nd rfl (.inr rfl) (de_callBfun dc_lcm (by rfl) C.b_lcm (da_cons (dv 1) (da_cons (de_ix (dv 2) de_int (fun _ _ => rfl)) da_nil))))))
    (dss_one (ds_ret (de_tup (da_cons (de_lc (own := [("number", 2)]) (t := (gName 2)) rfl sc_over_one_bottom.nd (di_tup (dv 0)) (blkOk_by (N := n_over_one_bottom) (sc := (defScope (top 14))) (by decide +kernel)) (fun _ _ _ _ _ => (pg_name (i := 2) sc_over_one_bottom.nd rfl (Or.inl rfl))) (wg_name (by decide)) (fun _ _ _ _ _ => dts_nil) (fun _ _ _ _ _ => (de_bin do_mulX (de_ix (dv 2) de_int (fun _ _ => rfl)) (de_bin do_fdiv (dv 1) (de_ix (dv 2) de_int (fun _ _ => rfl)))))) (da_cons (dv 1) da_nil))))))))
theorem ok_is_row (C : Ctx P w K mg base) : DFn P w K mg base 3 "is_row" ["value"] F_is_row := by
  obtain ⟨f, fd, F, hg⟩ := C.d_is_row
  exact dfnC (k := 2) F hg (Option.some.inj (hg.symm.trans C.a_is_row) |> fun e => by cases e; rfl) sc_is_row (fun _ _ _ _ _ _ us hl => match us, hl with | [_], _ => rfl) (fun _ _ _ _ _ _ us hl => match us, hl with | [_], _ => rfl) (fun A outer s H E hr => (dss_cons (ds_if (PW.pt (dw_or (dt_not (dt_val (de_callB dc_isi (by rfl) C.g_isinstance (by decide +kernel) (da_cons (dv 0) (da_cons (de_bty (by rfl) C.g_tuple (by decide +kernel)) da_nil))))) (dw_or1 (dt_cmp (do_ne hr.units) (de_callB dc_len (by rfl) C.g_len (by decide +kernel) (da_cons (dv 0) da_nil)) de_int (nomark _))))) (dss_one (ds_ret de_bl)) dss_nil)
    (dss_cons (ds_asg (dv 0) (dg_tup (by rfl) (dgs_cons (dg_name (i := 1) sc_is_row.nd rfl (.inl rfl)) (dgs_cons (dg_name (i := 2) sc_is_row.nd rfl (.inl rfl)) dgs_nil))))
    (dss_cons (ds_if (PW.pt (dw_or (dt_not (dt_val (de_callF (ok_is_whole C) hr (by decide) (da_cons (dv 1) da_nil)))) (dw_or1 (dt_not (dt_val (de_callB dc_isi (by rfl) C.g_isinstance (by decide +kernel) (da_cons (dv 2) (da_cons (de_bty (by rfl) C.g_tuple (by decide +kernel)) da_nil)))))))) (dss_one (ds_ret de_bl)) dss_nil)
    (dss_cons (ds_if (dt_cmp (do_eqM hr.units) (de_callB dc_len (by rfl) C.g_len (by decide +kernel) (da_cons (dv 2) da_nil)) de_int (nomark _)) (dss_one (ds_ret (de_cmp (do_eqM hr.units) (dv 1) de_int (nomark _)))) dss_nil)
    (dss_cons (ds_if (dt_not (dt_val (QA.de_allG (t := 1) rfl QA.links_frac hr (by decide) (by rfl) C.g_all C.t_is_row rfl (QA.genS_of (by rfl) (by rfl) (by rfl) (by rfl) (by decide +kernel)) (frac_tells C) (by rfl) (dv 2) (fun _ => rfl)))) (dss_one (ds_ret de_bl)) dss_nil)
    (dss_one (ds_ret (de_and (de_cmp (do_ne hr.units) (de_ix (dv 2) de_int (fun _ _ => rfl)) (de_cst C.c_ZERO rfl) (nomark _)) (de_one (de_cmp (do_ne hr.units) (de_ix (dv 2) (de_un du_neg de_int) (fun _ _ => rfl)) (de_cst C.c_ZERO rfl) (nomark _))))))))))))
theorem ok_need_row (C : Ctx P w K mg base) : DFn P w K mg base 4 "need_row" ["row"] F_need_row := by
  obtain ⟨f, fd, F, hg⟩ := C.d_need_row
  exact dfn (k := 3) F hg sc_need_row (fun _ _ _ _ _ _ us hl => match us, hl with | [_], _ => rfl) (fun _ _ _ _ _ _ us hl => match us, hl with | [_], _ => rfl) (fun cdv A outer s H E hr => (dss_one (ds_if (dt_not (dt_val (de_callF (ok_is_row C) hr (by decide) (da_cons (dv 0) da_nil)))) (dss_one ds_never) dss_nil)))
theorem ok_moment_of (C : Ctx P w K mg base) : DFn P w K mg base 1 "moment_of" ["numbers", "first", "order"] F_moment_of := by
  obtain ⟨f, fd, F, hg⟩ := C.d_moment_of
  exact dfn (k := 0) F hg sc_moment_of (fun _ _ _ _ _ _ us hl => match us, hl with | [_, _, _], _ => rfl) (fun _ _ _ _ _ _ us hl => match us, hl with | [_, _, _], _ => rfl) (fun cdv A outer s H E hr => (dss_cons (ds_setn (i := 3) sc_moment_of.nd rfl (.inl rfl) (dv 0))
    (dss_cons (ds_for PassesOwn.never rfl (di_rng1 (by rfl) C.g_range (da_cons (dv 2) da_nil)) (dg_name (i := 4) sc_moment_of.nd rfl (.inl rfl)) (dss_one (ds_setLcN (i := 3) (own := [("at", 5), ("number", 6)]) (t := (gTup K 2 (gCons (gName 5) (gCons (gName 6) gNil)))) rfl sc_moment_of.nd rfl rfl (by rfl) (dn_enL (by rfl) C.g_enumerate (da_cons (dv 3) da_nil)) (blkOk_by (N := n_moment_of) (sc := (defScope (top 20))) (by decide +kernel)) (fun _ _ _ _ _ => (pg_tup (by rfl) (pgs_cons (pg_name (i := 5) sc_moment_of.nd rfl (Or.inl rfl)) (pgs_cons (pg_name (i := 6) sc_moment_of.nd rfl (Or.inl rfl)) pgs_nil)))) (wg_tup (wgs_cons (wg_name (by decide)) (wgs_cons (wg_name (by decide)) wgs_nil))) (fun _ _ _ _ _ => dts_nil) (fun _ _ _ _ _ => (de_bin do_mulX (dv 6) (de_bin do_sub (dv 1) (dv 5)))))))
    (dss_one (ds_ret (de_callB (dc_sum rfl) (by rfl) C.g_sum (by decide +kernel) (da_cons (dv 3) da_nil)))))))
theorem ok_on_power (C : Ctx P w K mg base) : DFn P w K mg base 5 "on_power" ["row", "order"] F_on_power := by
  obtain ⟨f, fd, F, hg⟩ := C.d_on_power
  exact dfn (k := 4) F hg sc_on_power (fun _ _ _ _ _ _ us hl => match us, hl with | [_, _], _ => rfl) (fun _ _ _ _ _ _ us hl => match us, hl with | [_, _], _ => rfl) (fun cdv A outer s H E hr => (dss_cons (ds_expr (de_callF (ok_need_row C) hr (by decide) (da_cons (dv 0) da_nil)))
    (dss_cons (ds_expr (de_callF (ok_need_whole_between C) hr (by decide) (da_cons (dv 1) (da_cons de_int (da_cons de_int da_nil)))))
    (dss_cons (ds_asg (de_callF (ok_over_one_bottom C) hr (by decide) (da_cons (de_ix (dv 0) de_int (fun _ _ => rfl)) da_nil)) (dg_tup (by rfl) (dgs_cons (dg_name (i := 4) sc_on_power.nd rfl (.inl rfl)) (dgs_cons (dg_name (i := 5) sc_on_power.nd rfl (.inr rfl)) dgs_nil))))
    (dss_cons (ds_setn (i := 2) sc_on_power.nd rfl (.inl rfl) (de_lst da_nil))
    (dss_cons (ds_for PassesOwn.never rfl (di_rng1 (by rfl) C.g_range (da_cons (de_bin do_addX (dv 1) de_int) da_nil)) (dg_name (i := 3) sc_on_power.nd rfl (.inl rfl)) (dss_cons (ds_setn (i := 6) sc_on_power.nd rfl (.inl rfl) (de_callF (ok_moment_of C) hr (by decide) (da_cons (dv 4) (da_cons (de_un du_neg (de_ix (dv 0) de_int (fun _ _ => rfl))) (da_cons (de_bin do_sub (dv 1) (dv 3)) da_nil)))))
    (dss_one (ds_expr (de_ml PySem.F.plainAttrs_list PySem.F.slot_list_append PySem.F.type_list_append dm_append (dv 2) (da_cons (de_bin do_mulX (de_callBfun dc_comb (by rfl) C.b_comb (da_cons (dv 1) (da_cons (dv 3) da_nil))) (dv 6)) da_nil))))))
    (dss_one (ds_ret (de_callTy dc_tuple (by rfl) C.g_tuple (by decide +kernel) (da_cons (de_lc (own := [("number", 7)]) (t := (gName 7)) rfl sc_on_power.nd (di_lst (de_callF (ok_without_top C) hr (by decide) (da_cons (dv 2) da_nil))) (blkOk_by (N := n_on_power) (sc := (defScope (top 19))) (by decide +kernel)) (fun _ _ _ _ _ => (pg_name (i := 7) sc_on_power.nd rfl (Or.inl rfl))) (wg_name (by decide)) (fun _ _ _ _ _ => dts_nil) (fun _ _ _ _ _ => (de_callF (ok_reduced C) hr (by decide) (da_cons (dv 7) (da_cons (dv 5) da_nil))))) da_nil))))))))))
theorem ok_law_well (C : Ctx P w K mg base) : DFn P w K mg base 1 "_law_well" ["_law_script", "_law_turn"] F_law_well := by
  obtain ⟨f, fd, F, hg⟩ := C.d_law_well
  exact dfn (k := 0) F hg sc_law_well (fun _ _ _ _ _ _ us hl => match us, hl with | [_, _], _ => rfl) (fun _ _ _ _ _ _ us hl => match us, hl with | [_, _], _ => rfl) (fun cdv A outer s H E hr => (dss_cons (ds_setn (i := 2) sc_law_well.nd rfl (.inl rfl) (de_bin do_addX de_int (de_bin do_mulX de_int (dv 1))))
    (dss_cons (ds_for PassesOwn.never rfl (di_lst (de_slice (dv 0) do_none (do_some de_int))) (dg_name (i := 3) sc_law_well.nd rfl (.inl rfl)) (dss_one (ds_setn (i := 2) sc_law_well.nd rfl (.inl rfl) (de_bin do_mod (de_callTy dc_int (by rfl) C.g_int (by decide +kernel) (da_cons (de_bin do_addX (de_bin do_addX (de_bin do_mulX (dv 2) de_int) (de_bin do_mod (de_callTy dc_int (by rfl) C.g_int (by decide +kernel) (da_cons (dv 3) da_nil)) de_int)) de_int) da_nil)) de_int))))
    (dss_cons (ds_setn (i := 4) sc_law_well.nd rfl (.inl rfl) (de_if (dt_cmp do_lt (dv 1) (de_callB dc_len (by rfl) C.g_len (by decide +kernel) (da_cons (dv 0) da_nil)) (nomark _)) (de_callB dc_abs (by rfl) C.g_abs (by decide +kernel) (da_cons (de_callTy dc_int (by rfl) C.g_int (by decide +kernel) (da_cons (de_ix (dv 0) (dv 1) (fun _ _ => rfl)) da_nil)) da_nil)) (de_bin do_addX de_int (de_bin do_mulX de_int (dv 1)))))
    (dss_cons (ds_setn (i := 2) sc_law_well.nd rfl (.inl rfl) (de_bin do_mod (de_callTy dc_int (by rfl) C.g_int (by decide +kernel) (da_cons (de_bin do_addX (de_bin do_addX (de_bin do_mulX (dv 2) de_int) (de_bin do_mulX (de_bin do_mod (de_callTy dc_int (by rfl) C.g_int (by decide +kernel) (da_cons (dv 4) da_nil)) de_int) de_int)) de_int) da_nil)) de_int))
    (dss_one (ds_ret (de_lst (da_cons (de_if (dt_cmp do_ge (dv 4) (de_bin do_pow de_int de_int) (nomark _)) (dv 4) de_int) (da_cons (dv 2) (da_cons de_int da_nil)))))))))))
theorem ok_law_take (C : Ctx P w K mg base) : DFn P w K mg base 1 "_law_take" ["_law_well_here", "_law_count"] F_law_take := by
  obtain ⟨f, fd, F, hg⟩ := C.d_law_take
  exact dfn (k := 0) F hg sc_law_take (fun _ _ _ _ _ _ us hl => match us, hl with | [_, _], _ => rfl) (fun _ _ _ _ _ _ us hl => match us, hl with | [_, _], _ => rfl) (fun cdv A outer s H E hr => (dss_cons (ds_if (dt_cmp do_gt (de_ix (dv 0) de_int (fun _ _ => rfl)) de_int (nomark _)) (dss_cons (ds_asg (de_callB dc_divmod (by rfl) C.g_divmod (by decide +kernel) (da_cons (de_ix (dv 0) de_int (fun _ _ => rfl)) (da_cons (dv 1) da_nil))) (dg_tup (by rfl) (dgs_cons (dg_sub hr.units1 (dv 0) de_int) (dgs_cons (dg_name (i := 2) sc_law_take.nd rfl (.inl rfl)) dgs_nil))))
    (dss_one (ds_ret (dv 2)))) dss_nil)
    (dss_cons (ds_asg (de_bin do_addX (de_ix (dv 0) de_int (fun _ _ => rfl)) de_int) (dg_sub hr.units1 (dv 0) de_int))
    (dss_cons (ds_asg (de_bin do_mod (de_callTy dc_int (by rfl) C.g_int (by decide +kernel) (da_cons (de_bin do_addX (de_bin do_addX (de_bin do_mulX (de_ix (dv 0) de_int (fun _ _ => rfl)) (de_bin do_addX de_int (de_bin do_mulX de_int (de_ix (dv 0) de_int (fun _ _ => rfl))))) (de_bin do_mulX de_int (de_ix (dv 0) de_int (fun _ _ => rfl)))) de_int) da_nil)) de_int) (dg_sub hr.units1 (dv 0) de_int))
    (dss_one (ds_ret (de_bin do_mod (de_callTy dc_int (by rfl) C.g_int (by decide +kernel) (da_cons (de_bin do_fdiv (de_bin do_mod (de_callTy dc_int (by rfl) C.g_int (by decide +kernel) (da_cons (de_bin do_mulX (de_ix (dv 0) de_int (fun _ _ => rfl)) (de_bin do_addX (de_ix (dv 0) de_int (fun _ _ => rfl)) de_int)) da_nil)) de_int) de_int) da_nil)) (dv 1))))))))
theorem ok_law_pick (C : Ctx P w K mg base) : DFn P w K mg base 2 "_law_pick" ["_law_well_here", "_law_some"] F_law_pick_2 := by
  obtain ⟨f, fd, F, hg⟩ := C.d_law_pick
  exact dfn (k := 1) F hg sc_law_pick (fun _ _ _ _ _ _ us hl => match us, hl with | [_, _], _ => rfl) (fun _ _ _ _ _ _ us hl => match us, hl with | [_, _], _ => rfl) (fun cdv A outer s H E hr => (dss_one (ds_ret (de_ix (dv 1) (de_callF (ok_law_take C) hr (by decide) (da_cons (dv 0) (da_cons (de_callB dc_len (by rfl) C.g_len (by decide +kernel) (da_cons (dv 1) da_nil)) da_nil))) (fun _ _ => rfl)))))
theorem ok_law_rounds (C : Ctx P w K mg base) : DFn P w K mg base 1 "_law_rounds" ["_law_script"] F_law_rounds := by
  obtain ⟨f, fd, F, hg⟩ := C.d_law_rounds
  exact dfn (k := 0) F hg sc_law_rounds (fun _ _ _ _ _ _ us hl => match us, hl with | [_], _ => rfl) (fun _ _ _ _ _ _ us hl => match us, hl with | [_], _ => rfl) (fun cdv A outer s H E hr => (dss_one (ds_ret (de_callB (dc_max rfl) (by rfl) C.g_max (by decide +kernel) (da_cons de_int (da_cons (de_callB (dc_min rfl) (by rfl) C.g_min (by decide +kernel) (da_cons (de_callB dc_len (by rfl) C.g_len (by decide +kernel) (da_cons (dv 0) da_nil)) (da_cons de_int da_nil))) da_nil))))))
theorem ok_law_common (C : Ctx P w K mg base) : DFn P w K mg base 1 "_law_common" ["_law_one", "_law_two"] F_law_common := by
  obtain ⟨f, fd, F, hg⟩ := C.d_law_common
  exact dfn (k := 0) F hg sc_law_common (fun _ _ _ _ _ _ us hl => match us, hl with | [_, _], _ => rfl) (fun _ _ _ _ _ _ us hl => match us, hl with | [_, _], _ => rfl) (fun cdv A outer s H E hr => (dss_cons (ds_par (i := 0) (j := 1) (by rfl) sc_law_common.nd rfl rfl (by decide) rfl rfl (da_cons (de_callB dc_abs (by rfl) C.g_abs (by decide +kernel) (da_cons (dv 0) da_nil)) (da_cons (de_callB dc_abs (by rfl) C.g_abs (by decide +kernel) (da_cons (dv 1) da_nil)) da_nil)) (by rfl))
    (dss_cons (ds_while fuelC PassesOwn.never (dt_cmp do_gt (dv 1) de_int (nomark _)) (dss_one (ds_par (i := 0) (j := 1) (by rfl) sc_law_common.nd rfl rfl (by decide) rfl rfl (da_cons (dv 1) (da_cons (de_bin do_mod (de_callTy dc_int (by rfl) C.g_int (by decide +kernel) (da_cons (dv 0) da_nil)) (dv 1)) da_nil)) (by rfl))))
    (dss_one (ds_ret (dv 0))))))
theorem ok_law_ratio (C : Ctx P w K mg base) : DFn P w K mg base 2 "_law_ratio" ["_law_n", "_law_m"] F_law_ratio := by
  obtain ⟨f, fd, F, hg⟩ := C.d_law_ratio
  exact dfn (k := 1) F hg sc_law_ratio (fun _ _ _ _ _ _ us hl => match us, hl with | [_, _], _ => rfl) (fun _ _ _ _ _ _ us hl => match us, hl with | [_, _], _ => rfl) (fun cdv A outer s H E hr => (dss_cons (ds_setn (i := 2) sc_law_ratio.nd rfl (.inl rfl) (de_callF (ok_law_common C) hr (by decide) (da_cons (dv 0) (da_cons (dv 1) da_nil))))
    (dss_cons (ds_setn (i := 2) sc_law_ratio.nd rfl (.inl rfl) (de_if (dt_cmp do_gt (dv 1) de_int (nomark _)) (dv 2) (de_bin do_sub de_int (dv 2))))
    (dss_one (ds_ret (de_tup (da_cons (de_bin do_fdiv (dv 0) (dv 2)) (da_cons (de_bin do_fdiv (dv 1) (dv 2)) da_nil))))))))
theorem ok_law_sum (C : Ctx P w K mg base) : DFn P w K mg base 3 "_law_sum" ["_law_a", "_law_b"] F_law_sum_3 := by
  obtain ⟨f, fd, F, hg⟩ := C.d_law_sum
  exact dfn (k := 2) F hg sc_law_sum (fun _ _ _ _ _ _ us hl => match us, hl with | [_, _], _ => rfl) (fun _ _ _ _ _ _ us hl => match us, hl with | [_, _], _ => rfl) (fun cdv A outer s H E hr => (dss_cons (ds_if (PW.pt (dw_and (dt_cmp (do_eqM hr.units) (de_ix (dv 0) de_int (fun _ _ => rfl)) de_int (nomark _)) (dw_and1 (dt_cmp (do_eqM hr.units) (de_ix (dv 1) de_int (fun _ _ => rfl)) de_int (nomark _))))) (dss_one (ds_ret (de_tup (da_cons (de_bin do_addX (de_ix (dv 0) de_int (fun _ _ => rfl)) (de_ix (dv 1) de_int (fun _ _ => rfl))) (da_cons de_int da_nil))))) dss_nil)
    (dss_one (ds_ret (de_callF (ok_law_ratio C) hr (by decide) (da_cons (de_bin do_addX (de_bin do_mulX (de_ix (dv 0) de_int (fun _ _ => rfl)) (de_ix (dv 1) de_int (fun _ _ => rfl))) (de_bin do_mulX (de_ix (dv 1) de_int (fun _ _ => rfl)) (de_ix (dv 0) de_int (fun _ _ => rfl)))) (da_cons (de_bin do_mulX (de_ix (dv 0) de_int (fun _ _ => rfl)) (de_ix (dv 1) de_int (fun _ _ => rfl))) da_nil)))))))
theorem ok_law_product (C : Ctx P w K mg base) : DFn P w K mg base 3 "_law_product" ["_law_a", "_law_b"] F_law_product_2 := by
  obtain ⟨f, fd, F, hg⟩ := C.d_law_product
  exact dfn (k := 2) F hg sc_law_product (fun _ _ _ _ _ _ us hl => match us, hl with | [_, _], _ => rfl) (fun _ _ _ _ _ _ us hl => match us, hl with | [_, _], _ => rfl) (fun cdv A outer s H E hr => (dss_cons (ds_if (PW.pt (dw_and (dt_cmp (do_eqM hr.units) (de_ix (dv 0) de_int (fun _ _ => rfl)) de_int (nomark _)) (dw_and1 (dt_cmp (do_eqM hr.units) (de_ix (dv 1) de_int (fun _ _ => rfl)) de_int (nomark _))))) (dss_one (ds_ret (de_tup (da_cons (de_bin do_mulX (de_ix (dv 0) de_int (fun _ _ => rfl)) (de_ix (dv 1) de_int (fun _ _ => rfl))) (da_cons de_int da_nil))))) dss_nil)
    (dss_one (ds_ret (de_callF (ok_law_ratio C) hr (by decide) (da_cons (de_bin do_mulX (de_ix (dv 0) de_int (fun _ _ => rfl)) (de_ix (dv 1) de_int (fun _ _ => rfl))) (da_cons (de_bin do_mulX (de_ix (dv 0) de_int (fun _ _ => rfl)) (de_ix (dv 1) de_int (fun _ _ => rfl))) da_nil)))))))
theorem ok_law_cleared (C : Ctx P w K mg base) : DFn P w K mg base 1 "_law_cleared" ["_law_lot"] F_law_cleared := by
  obtain ⟨f, fd, F, hg⟩ := C.d_law_cleared
  exact dfn (k := 0) F hg sc_law_cleared (fun _ _ _ _ _ _ us hl => match us, hl with | [_], _ => rfl) (fun _ _ _ _ _ _ us hl => match us, hl with | [_], _ => rfl) (fun cdv A outer s H E hr => (dss_one (ds_lock (i := 0) (ds_ret (de_callTy (dc_dict rfl) (by rfl) C.g_dict (by decide +kernel) (da_cons (de_lcN (own := [("_law_k", 1)]) (t := (gName 1)) rfl sc_law_cleared.nd (dn_key (dv 0)) (blkOk_by (N := n_law_cleared) (sc := (defScope (top 30))) (by decide +kernel)) (fun _ _ _ _ _ => (pg_name (i := 1) sc_law_cleared.nd rfl (Or.inl rfl))) (wg_name (by decide)) (fun _ _ _ _ _ => (dts_one (dt_cmp (do_ne hr.units) (de_ix (de_dix hr.units1 (dv 0) (dv 1) (fun _ _ => rfl)) de_int (fun _ _ => rfl)) de_int (nomark _)))) (fun _ _ _ _ _ => (de_tup (da_cons (dv 1) (da_cons (de_dix hr.units1 (dv 0) (dv 1) (fun _ _ => rfl)) da_nil))))) da_nil))))))
theorem ok_law_line (C : Ctx P w K mg base) : DFn P w K mg base 1 "_law_line" ["_law_lot"] F_law_line := by
  obtain ⟨f, fd, F, hg⟩ := C.d_law_line
  exact dfn (k := 0) F hg sc_law_line (fun _ _ _ _ _ _ us hl => match us, hl with | [_], _ => rfl) (fun _ _ _ _ _ _ us hl => match us, hl with | [_], _ => rfl) (fun cdv A outer s H E hr => (dss_cons (ds_if (dt_cmp (do_eqM hr.units) (dv 0) de_dic (nomark _)) (dss_one (ds_ret (de_tup (da_cons de_int (da_cons (de_tup da_nil) da_nil))))) dss_nil)
    (dss_cons (ds_setn (i := 1) sc_law_line.nd rfl (.inl rfl) (de_callB (dc_min rfl) (by rfl) C.g_min (by decide +kernel) (da_cons (de_callTy (dc_list rfl) (by rfl) C.g_list (by decide +kernel) (da_cons (dv 0) da_nil)) da_nil)))
    (dss_one (ds_ret (de_tup (da_cons (dv 1) (da_cons (de_callTy dc_tuple (by rfl) C.g_tuple (by decide +kernel) (da_cons (de_lc (own := [("_law_k", 2)]) (t := (gName 2)) rfl sc_law_line.nd (di_rng2 (by rfl) C.g_range (da_cons (dv 1) (da_cons (de_bin do_addX (de_callB (dc_max rfl) (by rfl) C.g_max (by decide +kernel) (da_cons (de_callTy (dc_list rfl) (by rfl) C.g_list (by decide +kernel) (da_cons (dv 0) da_nil)) da_nil)) de_int) da_nil))) (blkOk_by (N := n_law_line) (sc := (defScope (top 31))) (by decide +kernel)) (fun _ _ _ _ _ => (pg_name (i := 2) sc_law_line.nd rfl (Or.inl rfl))) (wg_name (by decide)) (fun _ _ _ _ _ => dts_nil) (fun _ _ _ _ _ => (de_get2 hr.units1 (dv 0) (dv 2) (de_tup (da_cons de_int (da_cons de_int da_nil))) ⟨rfl, rfl, rfl, rfl⟩))) da_nil)) da_nil))))))))
theorem ok_law_plus (C : Ctx P w K mg base) : DFn P w K mg base 4 "_law_plus" ["_law_one", "_law_two"] F_law_plus_3 := by
  obtain ⟨f, fd, F, hg⟩ := C.d_law_plus
  exact dfn (k := 3) F hg sc_law_plus (fun _ _ _ _ _ _ us hl => match us, hl with | [_, _], _ => rfl) (fun _ _ _ _ _ _ us hl => match us, hl with | [_, _], _ => rfl) (fun cdv A outer s H E hr => (dss_cons (ds_lock (i := 0) (ds_setn (i := 2) sc_law_plus.nd rfl (.inl rfl) (de_callTy (dc_dict rfl) (by rfl) C.g_dict (by decide +kernel) (da_cons (de_lcN (own := [("_law_k", 3)]) (t := (gName 3)) rfl sc_law_plus.nd (dn_key (dv 0)) (blkOk_by (N := n_law_plus) (sc := (defScope (top 32))) (by decide +kernel)) (fun _ _ _ _ _ => (pg_name (i := 3) sc_law_plus.nd rfl (Or.inl rfl))) (wg_name (by decide)) (fun _ _ _ _ _ => dts_nil) (fun _ _ _ _ _ => (de_tup (da_cons (dv 3) (da_cons (de_dix hr.units1 (dv 0) (dv 3) (fun _ _ => rfl)) da_nil))))) da_nil))))
    (dss_cons (ds_lock (i := 1) (ds_forN PassesOwn.never rfl (dn_key (dv 1)) (dg_name (i := 3) sc_law_plus.nd rfl (.inl rfl)) (dss_one (ds_asg (de_callF (ok_law_sum C) hr (by decide) (da_cons (de_get2 hr.units1 (dv 2) (dv 3) (de_tup (da_cons de_int (da_cons de_int da_nil))) ⟨rfl, rfl, rfl, rfl⟩) (da_cons (de_dix hr.units1 (dv 1) (dv 3) (fun _ _ => rfl)) da_nil))) (dg_sub hr.units1 (dv 2) (dv 3))))))
    (dss_one (ds_ret (de_callF (ok_law_cleared C) hr (by decide) (da_cons (dv 2) da_nil)))))))
theorem ok_law_scaled (C : Ctx P w K mg base) : DFn P w K mg base 4 "_law_scaled" ["_law_lot", "_law_by"] F_law_scaled_3 := by
  obtain ⟨f, fd, F, hg⟩ := C.d_law_scaled
  exact dfn (k := 3) F hg sc_law_scaled (fun _ _ _ _ _ _ us hl => match us, hl with | [_, _], _ => rfl) (fun _ _ _ _ _ _ us hl => match us, hl with | [_, _], _ => rfl) (fun cdv A outer s H E hr => (dss_one (ds_lock (i := 0) (ds_ret (de_callF (ok_law_cleared C) hr (by decide) (da_cons (de_callTy (dc_dict rfl) (by rfl) C.g_dict (by decide +kernel) (da_cons (de_lcN (own := [("_law_k", 2)]) (t := (gName 2)) rfl sc_law_scaled.nd (dn_key (dv 0)) (blkOk_by (N := n_law_scaled) (sc := (defScope (top 33))) (by decide +kernel)) (fun _ _ _ _ _ => (pg_name (i := 2) sc_law_scaled.nd rfl (Or.inl rfl))) (wg_name (by decide)) (fun _ _ _ _ _ => dts_nil) (fun _ _ _ _ _ => (de_tup (da_cons (dv 2) (da_cons (de_callF (ok_law_product C) hr (by decide) (da_cons (de_dix hr.units1 (dv 0) (dv 2) (fun _ _ => rfl)) (da_cons (dv 1) da_nil))) da_nil))))) da_nil)) da_nil))))))
theorem ok_law_less (C : Ctx P w K mg base) : DFn P w K mg base 5 "_law_less" ["_law_one", "_law_two"] F_law_less_2 := by
  obtain ⟨f, fd, F, hg⟩ := C.d_law_less
  exact dfn (k := 4) F hg sc_law_less (fun _ _ _ _ _ _ us hl => match us, hl with | [_, _], _ => rfl) (fun _ _ _ _ _ _ us hl => match us, hl with | [_, _], _ => rfl) (fun cdv A outer s H E hr => (dss_one (ds_ret (de_callF (ok_law_plus C) hr (by decide) (da_cons (dv 0) (da_cons (de_callF (ok_law_scaled C) hr (by decide) (da_cons (dv 1) (da_cons (de_tup (da_cons (de_un du_neg de_int) (da_cons de_int da_nil))) da_nil))) da_nil))))))
theorem ok_law_later (C : Ctx P w K mg base) : DFn P w K mg base 1 "_law_later" ["_law_lot", "_law_by"] F_law_later := by
  obtain ⟨f, fd, F, hg⟩ := C.d_law_later
  exact dfn (k := 0) F hg sc_law_later (fun _ _ _ _ _ _ us hl => match us, hl with | [_, _], _ => rfl) (fun _ _ _ _ _ _ us hl => match us, hl with | [_, _], _ => rfl) (fun cdv A outer s H E hr => (dss_one (ds_lock (i := 0) (ds_ret (de_callTy (dc_dict rfl) (by rfl) C.g_dict (by decide +kernel) (da_cons (de_lcN (own := [("_law_k", 2)]) (t := (gName 2)) rfl sc_law_later.nd (dn_key (dv 0)) (blkOk_by (N := n_law_later) (sc := (defScope (top 35))) (by decide +kernel)) (fun _ _ _ _ _ => (pg_name (i := 2) sc_law_later.nd rfl (Or.inl rfl))) (wg_name (by decide)) (fun _ _ _ _ _ => dts_nil) (fun _ _ _ _ _ => (de_tup (da_cons (de_bin do_addX (dv 2) (dv 1)) (da_cons (de_dix hr.units1 (dv 0) (dv 2) (fun _ _ => rfl)) da_nil))))) da_nil))))))
theorem ok_law_number (C : Ctx P w K mg base) : DFn P w K mg base 3 "_law_number" ["_law_well_here"] F_law_number := by
  obtain ⟨f, fd, F, hg⟩ := C.d_law_number
  exact dfn (k := 2) F hg sc_law_number (fun _ _ _ _ _ _ us hl => match us, hl with | [_], _ => rfl) (fun _ _ _ _ _ _ us hl => match us, hl with | [_], _ => rfl) (fun cdv A outer s H E hr => (dss_cons (ds_setn (i := 1) sc_law_number.nd rfl (.inl rfl) (de_if (dt_cmp do_gt (de_callF (ok_law_take C) hr (by decide) (da_cons (dv 0) (da_cons de_int da_nil))) de_int (nomark _)) (de_bin do_addX de_int (de_callF (ok_law_take C) hr (by decide) (da_cons (dv 0) (da_cons de_int da_nil)))) (de_bin do_addX de_int (de_callF (ok_law_take C) hr (by decide) (da_cons (dv 0) (da_cons (de_bin do_pow de_int de_int) da_nil))))))
    (dss_cons (ds_setn (i := 2) sc_law_number.nd rfl (.inl rfl) (de_callF (ok_law_pick C) hr (by decide) (da_cons (dv 0) (da_cons (de_tup (da_cons de_int (da_cons de_int (da_cons de_int (da_cons de_int (da_cons de_int (da_cons de_int (da_cons de_int (da_cons de_int da_nil))))))))) da_nil))))
    (dss_one (ds_ret (de_callF (ok_law_ratio C) hr (by decide) (da_cons (de_if (dt_cmp (do_eqM hr.units) (de_callF (ok_law_take C) hr (by decide) (da_cons (dv 0) (da_cons de_int da_nil))) de_int (nomark _)) (dv 1) (de_bin do_sub de_int (dv 1))) (da_cons (dv 2) da_nil))))))))
theorem ok_law_draw (C : Ctx P w K mg base) : DFn P w K mg base 4 "_law_draw" ["_law_well_here", "_law_most"] F_law_draw := by
  obtain ⟨f, fd, F, hg⟩ := C.d_law_draw
  exact dfn (k := 3) F hg sc_law_draw (fun _ _ _ _ _ _ us hl => match us, hl with | [_, _], _ => rfl) (fun _ _ _ _ _ _ us hl => match us, hl with | [_, _], _ => rfl) (fun cdv A outer s H E hr => (dss_cons (ds_par (i := 3) (j := 4) (by rfl) sc_law_draw.nd rfl rfl (by decide) rfl rfl (da_cons (de_callF (ok_law_pick C) hr (by decide) (da_cons (dv 0) (da_cons (de_tup (da_cons de_int (da_cons de_int (da_cons de_int (da_cons de_int (da_cons (de_un du_neg de_int) (da_cons de_int (da_cons (de_un du_neg de_int) (da_cons de_int (da_cons (de_un du_neg de_int) (da_cons de_int da_nil))))))))))) da_nil))) (da_cons (de_bin do_addX de_int (de_callF (ok_law_take C) hr (by decide) (da_cons (dv 0) (da_cons (dv 1) da_nil)))) da_nil)) (by rfl))
    (dss_cons (ds_setLc (i := 2) (own := [("_law_k", 5)]) (t := (gName 5)) rfl sc_law_draw.nd rfl rfl (by rfl) (di_rng2 (by rfl) C.g_range (da_cons (de_bin do_addX (dv 3) de_int) (da_cons (de_bin do_sub (de_bin do_addX (dv 3) (dv 4)) de_int) da_nil))) (blkOk_by (N := n_law_draw) (sc := (defScope (top 37))) (by decide +kernel)) (fun _ _ _ _ _ => (pg_name (i := 5) sc_law_draw.nd rfl (Or.inl rfl))) (wg_name (by decide)) (fun _ _ _ _ _ => (dts_one (dt_cmp do_gt (de_callF (ok_law_take C) hr (by decide) (da_cons (dv 0) (da_cons de_int da_nil))) de_int (nomark _)))) (fun _ _ _ _ _ => (dv 5)))
    (dss_one (ds_ret (de_callTy (dc_dict rfl) (by rfl) C.g_dict (by decide +kernel) (da_cons (de_lc (own := [("_law_k", 5)]) (t := (gName 5)) rfl sc_law_draw.nd (di_lst (de_bin do_addX (de_bin do_addX (de_lst (da_cons (dv 3) da_nil)) (dv 2)) (de_if (dt_cmp do_gt (dv 4) de_int (nomark _)) (de_lst (da_cons (de_bin do_sub (de_bin do_addX (dv 3) (dv 4)) de_int) da_nil)) (de_lst da_nil)))) (blkOk_by (N := n_law_draw) (sc := (defScope (top 37))) (by decide +kernel)) (fun _ _ _ _ _ => (pg_name (i := 5) sc_law_draw.nd rfl (Or.inl rfl))) (wg_name (by decide)) (fun _ _ _ _ _ => dts_nil) (fun _ _ _ _ _ => (de_tup (da_cons (dv 5) (da_cons (de_callF (ok_law_number C) hr (by decide) (da_cons (dv 0) da_nil)) da_nil))))) da_nil)))))))
theorem ok_law_power (C : Ctx P w K mg base) : DFn P w K mg base 1 "_law_power" ["_law_base", "_law_count"] F_law_power_2 := by
  obtain ⟨f, fd, F, hg⟩ := C.d_law_power
  exact dfn (k := 0) F hg sc_law_power (fun _ _ _ _ _ _ us hl => match us, hl with | [_, _], _ => rfl) (fun _ _ _ _ _ _ us hl => match us, hl with | [_, _], _ => rfl) (fun cdv A outer s H E hr => (dss_cons (ds_setn (i := 2) sc_law_power.nd rfl (.inl rfl) de_int)
    (dss_cons (ds_for PassesOwn.never rfl (di_rng1 (by rfl) C.g_range (da_cons (dv 1) da_nil)) (dg_name (i := 3) sc_law_power.nd rfl (.inl rfl)) (dss_one (ds_setn (i := 2) sc_law_power.nd rfl (.inl rfl) (de_bin do_mulX (dv 2) (dv 0)))))
    (dss_one (ds_ret (dv 2))))))
theorem ok_law_total (C : Ctx P w K mg base) : DFn P w K mg base 4 "_law_total" ["_law_some"] F_law_total := by
  obtain ⟨f, fd, F, hg⟩ := C.d_law_total
  exact dfn (k := 3) F hg sc_law_total (fun _ _ _ _ _ _ us hl => match us, hl with | [_], _ => rfl) (fun _ _ _ _ _ _ us hl => match us, hl with | [_], _ => rfl) (fun cdv A outer s H E hr => (dss_cons (ds_setn (i := 1) sc_law_total.nd rfl (.inl rfl) (de_tup (da_cons de_int (da_cons de_int da_nil))))
    (dss_cons (ds_for PassesOwn.never rfl (di_lst (dv 0)) (dg_name (i := 2) sc_law_total.nd rfl (.inl rfl)) (dss_one (ds_setn (i := 1) sc_law_total.nd rfl (.inl rfl) (de_callF (ok_law_sum C) hr (by decide) (da_cons (dv 1) (da_cons (dv 2) da_nil))))))
    (dss_one (ds_ret (dv 1))))))
theorem ok_law_choices (C : Ctx P w K mg base) : DFn P w K mg base 1 "_law_choices" ["_law_j"] F_law_choices := by
  obtain ⟨f, fd, F, hg⟩ := C.d_law_choices
  exact dfn (k := 0) F hg sc_law_choices (fun _ _ _ _ _ _ us hl => match us, hl with | [_], _ => rfl) (fun _ _ _ _ _ _ us hl => match us, hl with | [_], _ => rfl) (fun cdv A outer s H E hr => (dss_cons (ds_setn (i := 1) sc_law_choices.nd rfl (.inr rfl) (de_lst (da_cons de_int da_nil)))
    (dss_cons (ds_for PassesOwn.never rfl (di_rng1 (by rfl) C.g_range (da_cons (dv 0) da_nil)) (dg_name (i := 2) sc_law_choices.nd rfl (.inl rfl)) (dss_one (ds_setn (i := 1) sc_law_choices.nd rfl (.inr rfl) (de_bin do_addX (de_bin do_addX (de_lst (da_cons de_int da_nil)) (de_lc (own := [("_law_k", 3)]) (t := (gName 3)) rfl sc_law_choices.nd (di_rng1 (by rfl) C.g_range (da_cons (de_bin do_sub (de_callB dc_len (by rfl) C.g_len (by decide +kernel) (da_cons (dv 1) da_nil)) de_int) da_nil)) (blkOk_by (N := n_law_choices) (sc := (defScope (top 40))) (by decide +kernel)) (fun _ _ _ _ _ => (pg_name (i := 3) sc_law_choices.nd rfl (Or.inl rfl))) (wg_name (by decide)) (fun _ _ _ _ _ => dts_nil) (fun _ _ _ _ _ => (de_bin do_addX (de_ix (dv 1) (dv 3) (fun _ _ => rfl)) (de_ix (dv 1) (de_bin do_addX (dv 3) de_int) (fun _ _ => rfl)))))) (de_lst (da_cons de_int da_nil))))))
    (dss_one (ds_ret (dv 1))))))
theorem ok_law_polynomial (C : Ctx P w K mg base) : DFn P w K mg base 5 "_law_polynomial" ["_law_lot", "_law_j"] F_law_polynomial := by
  obtain ⟨f, fd, F, hg⟩ := C.d_law_polynomial
  exact dfn (k := 4) F hg sc_law_polynomial (fun _ _ _ _ _ _ us hl => match us, hl with | [_, _], _ => rfl) (fun _ _ _ _ _ _ us hl => match us, hl with | [_, _], _ => rfl) (fun cdv A outer s H E hr => (dss_cons (ds_setn (i := 2) sc_law_polynomial.nd rfl (.inl rfl) (de_lst da_nil))
    (dss_cons (ds_forN PassesOwn.never rfl (dn_enL (by rfl) C.g_enumerate (da_cons (de_callF (ok_law_choices C) hr (by decide) (da_cons (dv 1) da_nil)) da_nil)) (dg_tup (by rfl) (dgs_cons (dg_name (i := 3) sc_law_polynomial.nd rfl (.inr rfl)) (dgs_cons (dg_name (i := 4) sc_law_polynomial.nd rfl (.inl rfl)) dgs_nil))) (dss_cons (ds_lock (i := 0) (ds_setn (i := 5) sc_law_polynomial.nd rfl (.inl rfl) (de_callF (ok_law_total C) hr (by decide) (da_cons (de_lcN (own := [("_law_k", 6)]) (t := (gName 6)) rfl sc_law_polynomial.nd (dn_key (dv 0)) (blkOk_by (N := n_law_polynomial) (sc := (defScope (top 41))) (by decide +kernel)) (fun _ _ _ _ _ => (pg_name (i := 6) sc_law_polynomial.nd rfl (Or.inl rfl))) (wg_name (by decide)) (fun _ _ _ _ _ => dts_nil) (fun _ _ _ _ _ => (de_callF (ok_law_product C) hr (by decide) (da_cons (de_dix hr.units1 (dv 0) (dv 6) (fun _ _ => rfl)) (da_cons (de_tup (da_cons (de_callF (ok_law_power C) hr (by decide) (da_cons (de_bin do_sub de_int (dv 6)) (da_cons (de_bin do_sub (dv 1) (dv 3)) da_nil))) (da_cons de_int da_nil))) da_nil))))) da_nil))))
    (dss_one (ds_expr (de_ml PySem.F.plainAttrs_list PySem.F.slot_list_append PySem.F.type_list_append dm_append (dv 2) (da_cons (de_callF (ok_law_product C) hr (by decide) (da_cons (dv 5) (da_cons (de_tup (da_cons (dv 4) (da_cons de_int da_nil))) da_nil))) da_nil))))))
    (dss_cons (ds_while fuelN PassesOwn.never (PW.pt (dw_and (dt_cmp (do_ne hr.units) (dv 2) (de_lst da_nil) (nomark _)) (dw_and1 (dt_cmp (do_eqM hr.units) (de_ix (de_ix (dv 2) (de_un du_neg de_int) (fun _ _ => rfl)) de_int (fun _ _ => rfl)) de_int (nomark _))))) (dss_one (ds_expr (de_popL (dv 2)))))
    (dss_one (ds_ret (de_callTy dc_tuple (by rfl) C.g_tuple (by decide +kernel) (da_cons (dv 2) da_nil))))))))
theorem ok_law_made (C : Ctx P w K mg base) : DFn P w K mg base 5 "_law_made" ["_law_lot", "_law_n", "_law_j"] F_law_made := by
  obtain ⟨f, fd, F, hg⟩ := C.d_law_made
  exact dfn (k := 4) F hg sc_law_made (fun _ _ _ _ _ _ us hl => match us, hl with | [_, _, _], _ => rfl) (fun _ _ _ _ _ _ us hl => match us, hl with | [_, _, _], _ => rfl) (fun cdv A outer s H E hr => (dss_one (ds_lock (i := 0) (ds_ret (de_callF (ok_law_total C) hr (by decide) (da_cons (de_lcN (own := [("_law_k", 3)]) (t := (gName 3)) rfl sc_law_made.nd (dn_key (dv 0)) (blkOk_by (N := n_law_made) (sc := (defScope (top 42))) (by decide +kernel)) (fun _ _ _ _ _ => (pg_name (i := 3) sc_law_made.nd rfl (Or.inl rfl))) (wg_name (by decide)) (fun _ _ _ _ _ => dts_nil) (fun _ _ _ _ _ => (de_callF (ok_law_product C) hr (by decide) (da_cons (de_dix hr.units1 (dv 0) (dv 3) (fun _ _ => rfl)) (da_cons (de_tup (da_cons (de_callF (ok_law_power C) hr (by decide) (da_cons (de_bin do_sub (dv 1) (dv 3)) (da_cons (dv 2) da_nil))) (da_cons de_int da_nil))) da_nil))))) da_nil))))))
theorem ok_law_worth (C : Ctx P w K mg base) : DFn P w K mg base 5 "_law_worth" ["_law_numbers", "_law_n"] F_law_worth := by
  obtain ⟨f, fd, F, hg⟩ := C.d_law_worth
  exact dfn (k := 4) F hg sc_law_worth (fun _ _ _ _ _ _ us hl => match us, hl with | [_, _], _ => rfl) (fun _ _ _ _ _ _ us hl => match us, hl with | [_, _], _ => rfl) (fun cdv A outer s H E hr => (dss_one (ds_ret (de_callF (ok_law_total C) hr (by decide) (da_cons (de_lc (own := [("_law_k", 2)]) (t := (gName 2)) rfl sc_law_worth.nd (di_rng1 (by rfl) C.g_range (da_cons (de_callB dc_len (by rfl) C.g_len (by decide +kernel) (da_cons (dv 0) da_nil)) da_nil)) (blkOk_by (N := n_law_worth) (sc := (defScope (top 43))) (by decide +kernel)) (fun _ _ _ _ _ => (pg_name (i := 2) sc_law_worth.nd rfl (Or.inl rfl))) (wg_name (by decide)) (fun _ _ _ _ _ => dts_nil) (fun _ _ _ _ _ => (de_callF (ok_law_product C) hr (by decide) (da_cons (de_ix (dv 0) (dv 2) (fun _ _ => rfl)) (da_cons (de_tup (da_cons (de_callF (ok_law_power C) hr (by decide) (da_cons (dv 1) (da_cons (dv 2) da_nil))) (da_cons de_int da_nil))) da_nil))))) da_nil)))))
theorem ok_law_right (C : Ctx P w K mg base) : DGn P w K mg base 6 "_law_right" ["_law_well_here"] F_law_right_28 := by
  obtain ⟨f, fd, F, hg⟩ := C.d_law_right
  exact dgn (k := 5) F hg sc_law_right (fun _ _ _ _ _ _ us hl => match us, hl with | [_], _ => rfl) (fun cdv A outer s H E hA hr => (dss_cons (ds_setn (i := 1) sc_law_right.nd rfl (.inr rfl) (de_callF (ok_law_draw C) hr (by decide) (da_cons (dv 0) (da_cons de_int da_nil))))
    (dss_cons (ds_for PassesOwn.never rfl (di_rng1 (by rfl) C.g_range (da_cons (de_callF (ok_law_take C) hr (by decide) (da_cons (dv 0) (da_cons de_int da_nil))) da_nil)) (dg_name (i := 2) sc_law_right.nd rfl (.inl rfl)) (dss_one (ds_setn (i := 1) sc_law_right.nd rfl (.inr rfl) (de_callF (ok_law_less C) hr (by decide) (da_cons (dv 1) (da_cons (de_callF (ok_law_later C) hr (by decide) (da_cons (dv 1) (da_cons de_int da_nil))) da_nil))))))
    (dss_cons (ds_setn (i := 1) sc_law_right.nd rfl (.inr rfl) (de_if (dt_cmp (do_eqM hr.units) (de_callF (ok_law_take C) hr (by decide) (da_cons (dv 0) (da_cons de_int da_nil))) de_int (nomark _)) de_dic (dv 1)))
    (dss_cons (ds_par (i := 4) (j := 5) (by rfl) sc_law_right.nd rfl rfl (by decide) rfl rfl (da_cons (de_callF (ok_law_line C) hr (by decide) (da_cons (dv 1) da_nil)) (da_cons (de_bin do_sub (de_callF (ok_law_take C) hr (by decide) (da_cons (dv 0) (da_cons de_int da_nil))) de_int) da_nil)) (by rfl))
    (dss_cons (ds_for PassesOwn.never rfl (di_lst (de_lst (da_cons (de_callF (ok_law_take C) hr (by decide) (da_cons (dv 0) (da_cons de_int da_nil))) (da_cons (de_bin do_addX de_int (de_callF (ok_law_take C) hr (by decide) (da_cons (dv 0) (da_cons de_int da_nil)))) da_nil)))) (dg_name (i := 3) sc_law_right.nd rfl (.inr rfl)) (dss_cons (ds_setn (i := 6) sc_law_right.nd rfl (.inl rfl) (de_callF (ok_law_polynomial C) hr (by decide) (da_cons (dv 1) (da_cons (dv 3) da_nil))))
    (dss_cons (ds_setn (i := 7) sc_law_right.nd rfl (.inr rfl) (de_callF (ok_on_power C) hr (by decide) (da_cons (dv 4) (da_cons (dv 3) da_nil))))
    (dss_cons (ds_if (dt_cmp (do_ne hr.units) (de_callB (dc_reprN hA hr C.sm) (by rfl) C.g_repr (by decide +kernel) (da_cons (de_lst (da_cons (dv 7) (da_cons (de_callK (ok_on_power C) hr (by decide) (dk_cons (dv 4) (dk_cons (dv 3) dk_nil))) da_nil))) da_nil)) (de_callB (dc_reprN hA hr C.sm) (by rfl) C.g_repr (by decide +kernel) (da_cons (de_lst (da_cons (dv 6) (da_cons (dv 6) da_nil))) da_nil)) (nomark _)) (dss_one (ds_ret de_bl)) dss_nil)
    (dss_one (ds_if (dt_cmp (do_ne hr.units) (de_lc (own := [("_law_n", 8)]) (t := (gName 8)) rfl sc_law_right.nd (di_tup (de_tup (da_cons de_int (da_cons de_int (da_cons (de_un du_neg de_int) (da_cons de_int (da_cons (dv 5) da_nil))))))) (blkOk_by (N := n_law_right) (sc := (defScope (top 44))) (by decide +kernel)) (fun _ _ _ _ _ => (pg_name (i := 8) sc_law_right.nd rfl (Or.inl rfl))) (wg_name (by decide)) (fun _ _ _ _ _ => (dts_one (dt_cmp (do_ne hr.units) (de_callF (ok_law_worth C) hr (by decide) (da_cons (dv 7) (da_cons (dv 8) da_nil))) (de_callF (ok_law_made C) hr (by decide) (da_cons (dv 1) (da_cons (dv 8) (da_cons (dv 3) da_nil)))) (nomark _)))) (fun _ _ _ _ _ => (dv 8))) (de_lst da_nil) (nomark _)) (dss_one (ds_ret de_bl)) dss_nil))))))
    (dss_one (ds_ret de_bl))))))))
end
end K42
namespace K42
open PySem PySem.Spec PyProof.Rows L2 DL
open BS
variable {P : Program} {w : World} {K : PySem.W.Frag} {mg : Str → Option Value} {base h : Heap}
theorem law_fn (C : Ctx P w K mg base) {f : Addr} {fd : FuncData} (F : FunD K "law" "law" (defArgs (top 45)) (defBody (top 45)) (defScope (top 45)) [] [] f fd) : Vk.FnG P w K mg base 7 f fd ["_law_script"] (spF K F_law_28) :=
  fnG_dat F sc_law fun cdv A outer s H E hA hr => (dss_one (ds_ret (de_callB (dc_all rfl) (by rfl) C.g_all (by decide +kernel) (da_cons (de_lc (own := [("_law_turn", 1)]) (t := (gName 1)) rfl sc_law.nd (di_rng1 (by rfl) C.g_range (da_cons (de_callF (ok_law_rounds C) hr (by decide) (da_cons (dv 0) da_nil)) da_nil)) (blkOk_by (N := n_law) (sc := (defScope (top 45))) (by decide +kernel)) (fun _ _ _ _ _ => (pg_name (i := 1) sc_law.nd rfl (Or.inl rfl))) (wg_name (by decide)) (fun _ _ _ _ _ => dts_nil) (fun _ _ _ _ _ => (de_callG (ok_law_right C) hA hr (by decide) (da_cons (de_callF (ok_law_well C) hr (by decide) (da_cons (dv 0) (da_cons (dv 1) da_nil))) da_nil)))) da_nil))))
end K42
namespace BS
open PySem PySem.Spec PyProof.Rows L2 DL
theorem need {p q : Prop} (h : p) (k : q) : (p → q) ∧ (¬ p → False) := ⟨fun _ => k, fun n => n h⟩
/-- the store but for the thing at n -/
structure Kp (n : Nat) (μ μ' : Sto) : Prop where
  len : μ.length ≤ μ'.length
  at_ : ∀ m o, m ≠ n → μ[m]? = some o → μ'[m]? = some o
theorem Kp.refl {n : Nat} {μ : Sto} : Kp n μ μ := ⟨Nat.le_refl _, fun _ _ _ h => h⟩
theorem Kp.trans {n : Nat} {a b c : Sto} (x : Kp n a b) (y : Kp n b c) : Kp n a c := ⟨Nat.le_trans x.len y.len, fun m o h e => y.at_ m o h (x.at_ m o h e)⟩
theorem Kp.set {n : Nat} {μ : Sto} {o : Ob} : Kp n μ (μ.set n o) := ⟨by simp, fun m o h e => by rw [List.getElem?_set_ne (Ne.symm h)]; exact e⟩
theorem Kp.app {n : Nat} {μ more : Sto} : Kp n μ (μ ++ more) := ⟨by simp, fun m o _ e => by rw [List.getElem?_append_left (List.getElem?_eq_some_iff.mp e).1]; exact e⟩
/-- the well at n -/
def W (μ : Sto) (n k : Nat) : Prop := ∃ a b c : Int, μ[n]? = some (.lst [.int a, .int b, .int c]) ∧ 0 ≤ a ∧ 0 ≤ b ∧ b < 2147483648 ∧ 0 ≤ c ∧ c ≤ k
theorem W.le {μ : Sto} {n k l : Nat} (w : W μ n k) (h : k ≤ l) : W μ n l := let ⟨a, b, c, h1, h2, h3, h4, h5, h6⟩ := w; ⟨a, b, c, h1, h2, h3, h4, h5, by omega⟩
theorem W.app {μ more : Sto} {n k : Nat} (w : W μ n k) : W (μ ++ more) n k := let ⟨a, b, c, h1, h2⟩ := w; ⟨a, b, c, by rw [List.getElem?_append_left (List.getElem?_eq_some_iff.mp h1).1]; exact h1, h2⟩
end BS
namespace BS
open PySem PySem.Spec PyProof.Rows L2 DL
def Gr (μ μ' : Sto) : Prop := ∃ more, μ' = μ ++ more
theorem Gr.refl {μ : Sto} : Gr μ μ := ⟨[], by simp⟩
theorem Gr.trans {a b c : Sto} (x : Gr a b) (y : Gr b c) : Gr a c := by
  obtain ⟨m, rfl⟩ := x
  obtain ⟨n, rfl⟩ := y
  exact ⟨m ++ n, by rw [List.append_assoc]⟩
theorem Gr.app {μ more : Sto} : Gr μ (μ ++ more) := ⟨more, rfl⟩
theorem Gr.get {μ μ' : Sto} {n : Nat} {o : Ob} (g : Gr μ μ') (h : μ[n]? = some o) : μ'[n]? = some o := by
  obtain ⟨m, rfl⟩ := g
  rw [List.getElem?_append_left (List.getElem?_eq_some_iff.mp h).1]; exact h
theorem Gr.lst {μ μ' : Sto} {n : Nat} {ds : List D} (g : Gr μ μ') (h : lstAt μ n = some ds) : lstAt μ' n = some ds := by
  unfold lstAt at h ⊢
  cases e : μ[n]? with
  | none => rw [e] at h; cases h
  | some o => rw [e] at h; rw [g.get e]; exact h
mutual
def OkD (μ : Sto) : D → Prop
  | .tup ds => ds.length ≤ 1000 ∧ OkDs μ ds
  | .loc n => (kindD μ (.loc n)).isSome = true
  | .int i => i.natAbs < 1180591620717411303424
  | .ty _ => False
  | _ => True
def OkDs (μ : Sto) : List D → Prop
  | [] => True
  | d :: ds => OkD μ d ∧ OkDs μ ds
end
theorem OkDs.mem {μ : Sto} : ∀ {ds : List D} {d : D}, OkDs μ ds → d ∈ ds → OkD μ d
  | _ :: _, _, h, m => by
    rcases List.mem_cons.mp m with rfl | m
    · exact h.1
    · exact OkDs.mem h.2 m
theorem OkDs.of {μ : Sto} : ∀ {ds : List D}, (∀ d ∈ ds, OkD μ d) → OkDs μ ds
  | [], _ => trivial
  | d :: ds, h => ⟨h d List.mem_cons_self, OkDs.of fun z hz => h z (List.mem_cons_of_mem _ hz)⟩
theorem kind_gr {μ μ' : Sto} {n : Nat} (g : Gr μ μ') (h : (kindD μ (.loc n)).isSome = true) : (kindD μ' (.loc n)).isSome = true := by
  simp only [kindD] at h ⊢
  cases e : μ[n]? with
  | none => rw [e] at h; cases h
  | some o => rw [e] at h; rw [g.get e]; exact h
mutual
theorem OkD.gr {μ μ' : Sto} (g : Gr μ μ') : ∀ d : D, OkD μ d → OkD μ' d
  | .tup ds, h => ⟨h.1, OkDs.gr g ds h.2⟩
  | .loc n, h => kind_gr g h
  | .int _, h => h
  | .ty _, h => h
  | .non, h => h
  | .bl _, h => h
  | .str _, h => h
theorem OkDs.gr {μ μ' : Sto} (g : Gr μ μ') : ∀ ds : List D, OkDs μ ds → OkDs μ' ds
  | [], h => h
  | d :: ds, h => ⟨OkD.gr g d h.1, OkDs.gr g ds h.2⟩
end
theorem rc_int {μ : Sto} {i j : Int} : rcD μ 60 (.int i) (.int j) = some (i == j) := rfl
theorem rc_str {μ : Sto} {i j : Str} : rcD μ 60 (.str i) (.str j) = some (i == j) := rfl
section
variable {μ : Sto} {d : D} {Q : D × Sto → Prop}
theorem eq_len {n : Nat} {ds : List D} : opEqM (.int (ds.length : Nat)) (.int (n : Nat)) μ = some (.bl (decide (ds.length = n)), μ) := by
  simp only [opEqM, opEq, rc_int, Option.map_some]
  congr 3
  by_cases h : ds.length = n
  · simp [h]
  · have : ¬ ((ds.length : Int) = (n : Int)) := by omega
    simp [h, this]
theorem ne_int {i j : Int} : opNe (.int i) (.int j) μ = some (.bl (decide (i ≠ j)), μ) := by
  show (some (i == j)).map _ = _
  simp only [Option.map_some]
  congr 2
  by_cases h : i = j <;> simp [h]
theorem eq_int {i j : Int} : opEqM (.int i) (.int j) μ = some (.bl (decide (i = j)), μ) := by
  simp only [opEqM, opEq, rc_int, Option.map_some]
  by_cases h : i = j <;> simp [h]
end
theorem lc_tup {g : GF} {ft : TF} {fe : EF} {ρ : Sl} {μ0 : Sto} {ds : List D} {p : D → Bool} {e : D → D} (hl : ds.length ≤ 1000)
    (h : ∀ d ∈ ds, ∀ μ, Gr μ0 μ → ∃ ρ1, g d ρ μ = some (ρ1, μ) ∧ Wp (ft ρ1 μ) fun q => q.1 = p d ∧ Gr μ q.2 ∧ (p d = true → Wp (fe ρ1 q.2) fun r => r.1 = e d ∧ Gr q.2 r.2)) :
    ∀ (m i : Nat) (acc : List D) (more : Sto), m + i = ds.length → acc.length ≤ i → Wp (lcF g ft fe (.tup ds) μ0.length ρ m i (μ0 ++ .lst acc :: more)) fun μ' => ∃ more', μ' = μ0 ++ .lst (acc ++ ((ds.drop i).filter p).map e) :: more' := by
  intro m
  induction m with
  | zero =>
    intro i acc more hi ha
    have e1 : ds[i]? = none := List.getElem?_eq_none (by omega)
    refine Wp.of (a := μ0 ++ .lst acc :: more) ?_ ⟨more, ?_⟩
    · unfold lcF; simp only [itAt, e1]
    · rw [List.drop_of_length_le (by omega)]; simp
  | succ m ih =>
    intro i acc more hi ha
    have lt : i < ds.length := by omega
    have e1 : ds[i]? = some ds[i] := List.getElem?_eq_getElem lt
    have hm : ds[i] ∈ ds := List.getElem_mem lt
    have dr : ds.drop i = ds[i] :: ds.drop (i + 1) := List.drop_eq_getElem_cons lt
    obtain ⟨ρ1, e2, ⟨q, μq⟩, e3, e4, ⟨mq, e5⟩, e6⟩ := h _ hm (μ0 ++ .lst acc :: more) Gr.app
    dsimp only at e4 e5 e6
    subst e4
    unfold lcF
    simp only [itAt, e1, e2, e3, Option.bind_some]
    cases hp : p ds[i] with
    | false =>
      simp only [Bool.false_eq_true, if_false]
      rw [e5, List.append_assoc, List.cons_append]
      refine (ih (i + 1) acc (more ++ mq) (by omega) (by omega)).mono ?_
      rintro _ ⟨m', rfl⟩
      exact ⟨m', by rw [dr, List.filter_cons_of_neg (by simp [hp])]⟩
    | true =>
      obtain ⟨⟨y, μy⟩, f1, f2, ⟨my, f3⟩⟩ := e6 hp
      dsimp only at f2 f3
      subst f2
      simp only [if_true, f1, Option.bind_some]
      have e7 : μy = μ0 ++ .lst acc :: (more ++ (mq ++ my)) := by rw [f3, e5]; simp
      have e8 : μy[μ0.length]? = some (.lst acc) := by rw [e7]; simp
      simp only [e8]
      rw [if_pos (by rw [sizeLine_eq]; omega)]
      have e9 : μy.set μ0.length (.lst (acc ++ [e ds[i]])) = μ0 ++ .lst (acc ++ [e ds[i]]) :: (more ++ (mq ++ my)) := by rw [e7]; simp [List.set_append_right]
      rw [e9]
      refine (ih (i + 1) (acc ++ [e ds[i]]) _ (by omega) (by simp; omega)).mono ?_
      rintro _ ⟨m', rfl⟩
      exact ⟨m', by rw [dr, List.filter_cons_of_pos hp]; simp⟩
end BS
namespace BS
open PySem PySem.Spec PyProof.Rows L2 DL
def redI (n m : Int) : Int × Int := (n / ((Nat.gcd n.natAbs m.natAbs : Nat) : Int), m / ((Nat.gcd n.natAbs m.natAbs : Nat) : Int))
def frD (p : Int × Int) : D := .tup [.int p.1, .int p.2]
def frP : D → Int × Int
  | .tup [.int n, .int m] => (n, m)
  | _ => (0, 1)
def isFr (p : Int × Int) : Prop := 0 < p.2 ∧ Nat.gcd p.1.natAbs p.2.natAbs = 1
def mulP (p q : Int × Int) : Int × Int := redI (p.1 * q.1) (p.2 * q.2)
def addP (p q : Int × Int) : Int × Int := redI (p.1 * q.2 + q.1 * p.2) (p.2 * q.2)
def Sm (k : Nat) (p : Int × Int) : Prop := p.1.natAbs < 2 ^ k ∧ p.2.natAbs < 2 ^ k
theorem redI_self {p : Int × Int} (h : isFr p) : redI p.1 p.2 = p := by
  unfold redI
  rw [h.2]
  simp
theorem gcd_pos {n m : Int} (h : 0 < m) : 0 < Nat.gcd n.natAbs m.natAbs := Nat.gcd_pos_of_pos_right _ (by omega)
theorem natAbs_div {n : Int} {g : Nat} (h : g ∣ n.natAbs) : (n / (g : Int)).natAbs = n.natAbs / g := by
  have : (g : Int) ∣ n := Int.ofNat_dvd_left.mpr h
  rw [Int.natAbs_ediv_of_dvd this]
  simp
theorem redI_fr {n m : Int} (h : 0 < m) : isFr (redI n m) := by
  have hg := gcd_pos (n := n) h
  have d1 := Nat.gcd_dvd_left n.natAbs m.natAbs
  have d2 := Nat.gcd_dvd_right n.natAbs m.natAbs
  refine ⟨?_, ?_⟩
  · show 0 < m / _
    have e : (m / ((Nat.gcd n.natAbs m.natAbs : Nat) : Int)).natAbs = m.natAbs / Nat.gcd n.natAbs m.natAbs := natAbs_div d2
    have p1 : 0 < m.natAbs / Nat.gcd n.natAbs m.natAbs := Nat.div_pos (Nat.le_of_dvd (by omega) d2) hg
    have p2 : 0 ≤ m / ((Nat.gcd n.natAbs m.natAbs : Nat) : Int) := Int.ediv_nonneg (by omega) (by omega)
    omega
  · show Nat.gcd (n / _).natAbs (m / _).natAbs = 1
    rw [natAbs_div d1, natAbs_div d2]
    rw [Nat.gcd_div d1 d2, Nat.div_self hg]
theorem redI_le (n m : Int) : (redI n m).1.natAbs ≤ n.natAbs ∧ (redI n m).2.natAbs ≤ m.natAbs := ⟨Int.natAbs_ediv_le_natAbs _ _, Int.natAbs_ediv_le_natAbs _ _⟩
theorem redI_one (n : Int) : redI n 1 = (n, 1) := by
  have : isFr (n, 1) := ⟨by show (0 : Int) < 1; decide, by simp⟩
  exact redI_self this
theorem isFr_zero {p : Int × Int} (h : isFr p) (z : p.1 = 0) : p.2 = 1 := by
  obtain ⟨h1, h2⟩ := h
  rw [z] at h2
  simp at h2
  omega
theorem addP_zero_left {p q : Int × Int} (hp : isFr p) (hq : isFr q) (z : p.1 = 0) : addP p q = q := by
  have o := isFr_zero hp z
  unfold addP
  rw [z, o]
  simp
  exact redI_self hq
theorem mul_lt {i j : Int} {a b : Nat} (h1 : i.natAbs < 2 ^ a) (h2 : j.natAbs < 2 ^ b) : (i * j).natAbs < 2 ^ (a + b) := by
  rw [Int.natAbs_mul, Nat.pow_add]
  exact Nat.mul_lt_mul'' h1 h2
theorem Sm.mul {p q : Int × Int} {a b : Nat} (h1 : Sm a p) (h2 : Sm b q) : Sm (a + b) (mulP p q) :=
  ⟨Nat.lt_of_le_of_lt (redI_le _ _).1 (mul_lt h1.1 h2.1), Nat.lt_of_le_of_lt (redI_le _ _).2 (mul_lt h1.2 h2.2)⟩
theorem log_of {i : Int} {k : Nat} (h : i.natAbs < 2 ^ k) (hk : 0 < k) : i.natAbs.log2 < k := by
  by_cases z : i.natAbs = 0
  · rw [z]; simpa using hk
  · exact (Nat.log2_lt z).mpr h
theorem mulOk_of {i j : Int} {a b : Nat} (h1 : i.natAbs < 2 ^ a) (h2 : j.natAbs < 2 ^ b) (ha : 0 < a ∧ a ≤ 2000) (hb : 0 < b ∧ b ≤ 2000) : mulOk i j = true := by
  have := log_of h1 ha.1
  have := log_of h2 hb.1
  unfold mulOk
  exact decide_eq_true (by omega)
theorem div_pos {n : Int} {g : Nat} (h : 0 < g) : n.fdiv (g : Int) = n / (g : Int) := Int.fdiv_eq_ediv_of_nonneg _ (by omega)
theorem noPy_gcd {x n m : Int} {a : Nat} (h : 0 < m) (hm : m.natAbs < 2 ^ a) (ha : 0 < a ∧ a ≤ 4000) : Builtin.divisionGoesByPylong x ((Nat.gcd n.natAbs m.natAbs : Nat) : Int) = false := by
  refine PyProof.noPylong_of_log2 ?_
  have l : Nat.gcd n.natAbs m.natAbs ≤ m.natAbs := Nat.le_of_dvd (by omega) (Nat.gcd_dvd_right _ _)
  have := log_of (i := ((Nat.gcd n.natAbs m.natAbs : Nat) : Int)) (k := a) (by simpa using Nat.lt_of_le_of_lt l hm) ha.1
  omega
section
variable {μ : Sto} {Q : D × Sto → Prop}
theorem reduced_ok {n m : Int} {a : Nat} (h : 0 < m) (hm : m.natAbs < 2 ^ a) (ha : 0 < a ∧ a ≤ 4000) (q : Q (frD (redI n m), μ)) : Wp (F_reduced [.int n, .int m] μ) Q := by
  have hg := gcd_pos (n := n) h
  have np : ∀ x : Int, Builtin.divisionGoesByPylong x ((Nat.gcd n.natAbs m.natAbs : Nat) : Int) = false := fun x => noPy_gcd h hm ha
  have nz : ¬ (((Nat.gcd n.natAbs m.natAbs : Nat) : Int) = 0) := by omega
  have nl : ¬ m < 0 := by omega
  unfold F_reduced
  simp_arith [cGcd, opCmp, nl, decide_false, opFdiv, nz, np, sizeLine_eq, Nat.reduceLeDiff, div_pos hg]
  exact q
end
theorem loop_deep (c : TF) (b : SF) (hc : c = (fB (fBin opGt (fVar 1) (fC (.int 0))))) (hb : b = (fPar 0 1 (fCons (fVar 1) (fCons (fBin opMod (fCB cInt (fCons (fVar 0) fNil)) (fVar 1)) fNil)))) (μ : Sto) : ∀ (m x y : Nat), y < m →
    loopW c b m [some (.int x), some (.int y)] μ = some (.nx [some (.int (Nat.gcd x y : Nat)), some (.int 0)] μ)
  | 0, _, _, h => by omega
  | m + 1, x, y, h => by
    unfold loopW
    by_cases hy : y = 0
    · subst hy
      subst hc
      simp [fB, fBin, fVar, fC, opCmp]
    · have hp : (0 : Int) < y := by omega
      have e : (x : Int).fmod y = ((x % y : Nat) : Int) := by
        rw [Int.fmod_eq_emod_of_nonneg _ (by omega)]; rfl
      have ih := loop_deep c b hc hb μ m y (x % y) (by have := Nat.mod_lt x (y := y) (by omega); omega)
      have g : Nat.gcd y (x % y) = Nat.gcd x y := by rw [Nat.gcd_comm x y, Nat.gcd_rec y x, Nat.gcd_comm]
      rw [g] at ih
      have hy' : (y : Int) ≠ 0 := by omega
      have hcx : c [some (.int x), some (.int y)] μ = some (true, μ) := by
        rw [hc]
        simp only [fB, fBin, fVar, fC, opCmp, List.getElem?_cons_zero, List.getElem?_cons_succ, Option.bind_some]
        rw [decide_eq_true hp]
      have hbx : b [some (.int x), some (.int y)] μ = some (.nx [some (.int y), some (.int (x % y : Nat))] μ) := by
        rw [hb]
        simp only [fPar, fCons, fNil, fVar, fBin, fCB, cInt, opMod, List.getElem?_cons_zero, List.getElem?_cons_succ, Option.bind_some]
        rw [if_pos hy', e]
        rfl
      rw [hcx]
      simp only [Option.bind_some, if_true]
      rw [hbx]
      exact ih
end BS
set_option exponentiation.threshold 20000
namespace BS
open PySem PySem.Spec PyProof.Rows L2 DL
theorem loop_gen {g : GF} {b : SF} {it : ItD} {n : Nat} {x : Nat → D} (I : Nat → Sl → Sto → Prop) (hit : ∀ i ρ μ, I i ρ μ → itAt it i μ = some (if i < n then some (x i) else none))
    (step : ∀ i ρ μ, i < n → I i ρ μ → Wp ((g (x i) ρ μ).bind fun p => b p.1 p.2) fun o => ∃ ρ' μ', o = .nx ρ' μ' ∧ I (i + 1) ρ' μ') :
    ∀ (m i : Nat) (ρ : Sl) (μ : Sto), m + i = n → I i ρ μ → Wp (loopF g b it m i ρ μ) fun o => ∃ ρ' μ', o = .nx ρ' μ' ∧ I n ρ' μ' := by
  intro m
  induction m with
  | zero =>
    intro i ρ μ hi h
    have : i = n := by omega
    subst this
    refine Wp.of (a := .nx ρ μ) ?_ ⟨ρ, μ, rfl, h⟩
    unfold loopF
    rw [hit i ρ μ h, if_neg (by omega)]
  | succ m ih =>
    intro i ρ μ hi h
    have lt : i < n := by omega
    obtain ⟨o, e, ρ', μ', rfl, h'⟩ := step i ρ μ lt h
    obtain ⟨r, e2, q⟩ := ih (i + 1) ρ' μ' (by omega) h'
    refine ⟨r, ?_, q⟩
    unfold loopF
    obtain ⟨p, e3, e4⟩ := Option.bind_eq_some_iff.mp e
    rw [hit i ρ μ h]
    simp only [lt, if_true, e3, Option.bind_some, e4]
    exact e2
theorem loop_genN {g : GF} {b : SF} {it : ItN} {n : Nat} {x : Nat → D} (I : Nat → Sl → Sto → Prop) (hit : ∀ i ρ μ, I i ρ μ → itAtN it i μ = some (if i < n then some (x i) else none))
    (step : ∀ i ρ μ, i < n → I i ρ μ → Wp ((g (x i) ρ μ).bind fun p => b p.1 p.2) fun o => ∃ ρ' μ', o = .nx ρ' μ' ∧ I (i + 1) ρ' μ') :
    ∀ (m i : Nat) (ρ : Sl) (μ : Sto), m + i = n → I i ρ μ → Wp (loopN g b it m i ρ μ) fun o => ∃ ρ' μ', o = .nx ρ' μ' ∧ I n ρ' μ' := by
  intro m
  induction m with
  | zero =>
    intro i ρ μ hi h
    have : i = n := by omega
    subst this
    refine Wp.of (a := .nx ρ μ) ?_ ⟨ρ, μ, rfl, h⟩
    unfold loopN
    rw [hit i ρ μ h, if_neg (by omega)]
  | succ m ih =>
    intro i ρ μ hi h
    have lt : i < n := by omega
    obtain ⟨o, e, ρ', μ', rfl, h'⟩ := step i ρ μ lt h
    obtain ⟨r, e2, q⟩ := ih (i + 1) ρ' μ' (by omega) h'
    refine ⟨r, ?_, q⟩
    unfold loopN
    obtain ⟨p, e3, e4⟩ := Option.bind_eq_some_iff.mp e
    rw [hit i ρ μ h]
    simp only [lt, if_true, e3, Option.bind_some, e4]
    exact e2
theorem get_ite {α : Type} (z : α) (xs : List α) (i : Nat) : xs[i]? = if i < xs.length then some (xs.getD i z) else none := by
  by_cases h : i < xs.length
  · rw [if_pos h, List.getElem?_eq_getElem h, List.getD_eq_getElem?_getD, List.getElem?_eq_getElem h]; rfl
  · rw [if_neg h, List.getElem?_eq_none (by omega)]
def lcmL (fs : List (Int × Int)) : Nat := fs.foldl (fun b p => Nat.lcm b p.2.natAbs) 1
def intsL (b : Nat) (fs : List (Int × Int)) : List Int := fs.map fun p => p.1 * ((b : Int) / p.2)
theorem lcmL_snoc (fs : List (Int × Int)) (p : Int × Int) : lcmL (fs ++ [p]) = Nat.lcm (lcmL fs) p.2.natAbs := by
  unfold lcmL
  rw [List.foldl_append]
  rfl
theorem take_snoc {α : Type} {fs : List α} {i : Nat} (h : i < fs.length) : fs.take (i + 1) = fs.take i ++ [fs[i]] := by
  rw [List.take_succ, List.getElem?_eq_getElem h]
  rfl
/-- fractions whose bottoms divide one number -/
structure Den (B : Nat) (fs : List (Int × Int)) : Prop where
  pos : 0 < B
  small : B < 2 ^ 1000
  fr : ∀ p ∈ fs, isFr p
  dv : ∀ p ∈ fs, p.2.natAbs ∣ B
  sm : ∀ p ∈ fs, p.1.natAbs < 2 ^ 1000
theorem foldl_dvd {B : Nat} : ∀ (fs : List (Int × Int)) (b : Nat), b ∣ B → (∀ p ∈ fs, p.2.natAbs ∣ B) → fs.foldl (fun b p => Nat.lcm b p.2.natAbs) b ∣ B
  | [], _, h, _ => h
  | p :: fs, b, h, k => foldl_dvd fs _ (Nat.lcm_dvd h (k p List.mem_cons_self)) fun q hq => k q (List.mem_cons_of_mem _ hq)
theorem lcmL_dvd {B : Nat} {fs : List (Int × Int)} (h : ∀ p ∈ fs, p.2.natAbs ∣ B) : lcmL fs ∣ B := foldl_dvd fs 1 (Nat.one_dvd _) h
theorem dvd_foldl : ∀ (fs : List (Int × Int)) (b : Nat), b ∣ fs.foldl (fun b p => Nat.lcm b p.2.natAbs) b ∧ ∀ p ∈ fs, p.2.natAbs ∣ fs.foldl (fun b p => Nat.lcm b p.2.natAbs) b
  | [], b => ⟨Nat.dvd_refl _, fun p h => by cases h⟩
  | p :: fs, b => by
    obtain ⟨h1, h2⟩ := dvd_foldl fs (Nat.lcm b p.2.natAbs)
    refine ⟨Nat.dvd_trans (Nat.dvd_lcm_left _ _) h1, fun q hq => ?_⟩
    rcases List.mem_cons.mp hq with rfl | hq
    · exact Nat.dvd_trans (Nat.dvd_lcm_right _ _) h1
    · exact h2 q hq
theorem dvd_lcmL {fs : List (Int × Int)} {p : Int × Int} (h : p ∈ fs) : p.2.natAbs ∣ lcmL fs := (dvd_foldl fs 1).2 p h
theorem lcmL_pos {B : Nat} {fs : List (Int × Int)} (D : Den B fs) : 0 < lcmL fs ∧ lcmL fs ≤ B := by
  have h := lcmL_dvd D.dv
  exact ⟨Nat.pos_of_ne_zero fun z => by rw [z] at h; have := Nat.eq_zero_of_zero_dvd h; have := D.pos; omega, Nat.le_of_dvd D.pos h⟩
theorem Den.take {B : Nat} {fs : List (Int × Int)} (D : Den B fs) (i : Nat) : Den B (fs.take i) :=
  ⟨D.pos, D.small, fun p h => D.fr p (List.mem_of_mem_take h), fun p h => D.dv p (List.mem_of_mem_take h), fun p h => D.sm p (List.mem_of_mem_take h)⟩
theorem log_nat {n k : Nat} (h : n < 2 ^ k) (hk : 0 < k) : n.log2 < k := log_of (i := (n : Int)) (k := k) (by simpa using h) hk
theorem fdiv_pos {n m : Int} (h : 0 < m) : n.fdiv m = n / m := Int.fdiv_eq_ediv_of_nonneg _ (Int.le_of_lt h)
theorem ints_list (b : Nat) (fs : List (Int × Int)) : (((fs.map frD).filter fun _ => true).map fun d => D.int ((frP d).1 * ((b : Int) / (frP d).2))) = (intsL b fs).map D.int := by
  rw [List.filter_eq_self.mpr (by simp), List.map_map, intsL, List.map_map]
  rfl
theorem frD_mem {fs : List (Int × Int)} {d : D} (h : d ∈ fs.map frD) : ∃ p ∈ fs, d = frD p := by
  obtain ⟨p, h1, h2⟩ := List.mem_map.mp h
  exact ⟨p, h1, h2.symm⟩
theorem noPy_small {x y : Int} {a : Nat} (h : y.natAbs < 2 ^ a) (ha : 0 < a ∧ a ≤ 4000) : Builtin.divisionGoesByPylong x y = false := by
  refine PyProof.noPylong_of_log2 ?_
  have := log_of h ha.1
  omega
theorem fLc_tupL {fi : EF} {g : GF} {ft : TF} {fe : EF} {vs : List Nat} {ρ : Sl} {μ μ0 : Sto} {ds : List D} {p : D → Bool} {e : D → D} {Q : D × Sto → Prop} (hi : fi ρ μ = some (.tup ds, μ0)) (hl : ds.length ≤ 1000)
    (h : ∀ d ∈ ds, ∀ μ, Gr μ0 μ → ∃ ρ1, g d (wipeD ρ vs) μ = some (ρ1, μ) ∧ Wp (ft ρ1 μ) fun q => q.1 = p d ∧ Gr μ q.2 ∧ (p d = true → Wp (fe ρ1 q.2) fun r => r.1 = e d ∧ Gr q.2 r.2))
    (k : ∀ n μ', μ'[n]? = some (.lst ((ds.filter p).map e)) → μ0.length ≤ n → Gr μ0 μ' → Q (.loc n, μ')) : Wp (fLc (iVal fi) g ft fe vs ρ μ) Q := by
  obtain ⟨_, e1, m', rfl⟩ := lc_tup hl h ds.length 0 [] [] rfl (Nat.zero_le _)
  refine Wp.of (a := (.loc μ0.length, μ0 ++ .lst ([] ++ ((ds.drop 0).filter p).map e) :: m')) ?_ (k _ _ (by simp) (Nat.le_refl _) ⟨_, rfl⟩)
  unfold fLc iVal
  simp only [hi, Option.bind_some, itLen]
  rw [e1]
  rfl
/-- the comprehension of both: each top times what its bottom lacks -/
theorem ints_comp {μ : Sto} {ρ : Sl} {fs : List (Int × Int)} {B b : Nat} {k : Nat} {Q : D × Sto → Prop} (DD : Den B fs) (hl : fs.length ≤ 1000) (hb : b ≤ B) (h0 : ρ[0]? = some (some (.tup (fs.map frD)))) (h1 : ρ[1]? = some (some (.int (b : Int)))) (h2 : ρ.length = 3)
    (q : ∀ n μ', μ'[n]? = some (.lst ((intsL b fs).map D.int)) → μ.length ≤ n → Gr μ μ' → Q (.loc n, μ')) :
    Wp (fLc (iVal (fVar 0)) (gNm 2) fYes (fBin opMulX (fBin opIx (fVar 2) (fC (.int 0))) (fBin opFdiv (fVar 1) (fBin opIx (fVar 2) (fC (.int 1))))) [2] ρ μ) Q := by
  obtain ⟨a0, a1, a2, rfl⟩ : ∃ a0 a1 a2, ρ = [a0, a1, a2] := by
    match ρ, h2 with
    | [a0, a1, a2], _ => exact ⟨a0, a1, a2, rfl⟩
  cases (show a0 = _ from Option.some.inj h0)
  cases (show a1 = _ from Option.some.inj h1)
  refine fLc_tupL (p := fun _ => true) (e := fun d => D.int ((frP d).1 * ((b : Int) / (frP d).2))) (ds := fs.map frD) (μ0 := μ) rfl (by simpa using hl) (fun d hd μ1 g1 => ?_) (fun n μ' h l g => q n μ' (by rw [h, ints_list]) l g)
  obtain ⟨p, hp, rfl⟩ := frD_mem hd
  have fr := DD.fr p hp
  have sm2 : p.2.natAbs < 2 ^ 1000 := Nat.lt_of_le_of_lt (Nat.le_of_dvd DD.pos (DD.dv p hp)) DD.small
  have sb : (b : Int).natAbs < 2 ^ 1000 := by simpa using Nat.lt_of_le_of_lt hb DD.small
  have np : Builtin.divisionGoesByPylong (b : Int) p.2 = false := noPy_small sm2 (by decide)
  have nz : ¬ p.2 = 0 := by have := fr.1; omega
  have mo : mulOk p.1 ((b : Int) / p.2) = true := mulOk_of (DD.sm p hp) (Nat.lt_of_le_of_lt (Int.natAbs_ediv_le_natAbs _ _) sb) (by decide) (by decide)
  refine ⟨[some (.tup (fs.map frD)), some (.int (b : Int)), some (frD p)], rfl, ?_⟩
  unfold fYes
  refine Wp.of rfl ⟨rfl, Gr.refl, fun _ => ?_⟩
  unfold frD
  simp_arith [opIx, atI_0, atI_1, opFdiv, nz, np, fdiv_pos fr.1, opMulX, opMul, mo]
  exact ⟨rfl, Gr.refl⟩
theorem bottom_ok {μ : Sto} {fs : List (Int × Int)} {B : Nat} {Q : D × Sto → Prop} (DD : Den B fs) (hl : fs.length ≤ 1000) (q : ∀ n μ', μ'[n]? = some (.lst ((intsL (lcmL fs) fs).map D.int)) → μ.length ≤ n → Gr μ μ' → Q (.tup [.loc n, .int (lcmL fs : Nat)], μ')) :
    Wp (F_over_one_bottom [.tup (fs.map frD)] μ) Q := by
  unfold F_over_one_bottom
  simp_arith [iVal, itLen, List.length_map]
  refine (loop_gen (n := fs.length) (x := fun i => (fs.map frD).getD i .non) (I := fun i ρ μ' => μ' = μ ∧ ∃ c, ρ = [some (.tup (fs.map frD)), some (.int (lcmL (fs.take i) : Nat)), c]) ?_ ?_ fs.length 0 _ _ rfl ⟨rfl, _, rfl⟩).mono ?_
  · rintro i ρ μ' _
    simp only [itAt]
    rw [get_ite D.non]
    simp
  · rintro i _ _ hi ⟨rfl, c, rfl⟩
    have e : (fs.map frD).getD i .non = frD fs[i] := by
      rw [List.getD_eq_getElem?_getD, List.getElem?_map, List.getElem?_eq_getElem hi]; rfl
    have hm : fs[i] ∈ fs := List.getElem_mem hi
    have l1 := (lcmL_pos (DD.take i)).2
    have g1 : (lcmL (fs.take i)).log2 < 4000 := Nat.lt_trans (log_nat (Nat.lt_of_le_of_lt l1 DD.small) (by decide)) (by decide)
    have g2 : fs[i].2.natAbs.log2 < 4000 := Nat.lt_trans (log_nat (Nat.lt_of_le_of_lt (Nat.le_of_dvd DD.pos (DD.dv _ hm)) DD.small) (by decide)) (by decide)
    rw [e]
    unfold frD
    simp_arith [opIx, atI_1, cLcm, Int.natAbs_natCast, g1, g2]
    refine ⟨_, _, rfl, rfl, some (frD fs[i]), ?_⟩
    rw [take_snoc hi, lcmL_snoc]
    rfl
  · rintro _ ⟨ρ', μ', rfl, rfl, c, rfl⟩
    rw [List.take_length]
    simp_arith []
    refine ints_comp (k := 0) DD hl (lcmL_pos DD).2 rfl rfl rfl fun n μ1 h1 l1 g1 => ?_
    simp_arith [sizeLine_eq, Nat.reduceLeDiff]
    exact q n μ1 h1 l1 g1
end BS
set_option exponentiation.threshold 20000
namespace BS
open PySem PySem.Spec PyProof.Rows L2 DL
def termC (x : Int) (ys : List Int) (i k : Nat) : Int := if i ≤ k then x * ys.getD (k - i) 0 else 0
def pcf (xs ys : List Int) : Nat → Nat → Int
  | 0, _ => 0
  | i + 1, k => pcf xs ys i k + termC (xs.getD i 0) ys i k
def oR (xs ys : List Int) (i : Nat) : List Int := (List.range (xs.length + ys.length - 1)).map (pcf xs ys i)
def cvL (xs ys : List Int) : List Int := oR xs ys xs.length
theorem getD_out {ys : List Int} {k : Nat} (h : ys.length ≤ k) : ys.getD k 0 = 0 := by
  rw [List.getD_eq_getElem?_getD, List.getElem?_eq_none h]; rfl
theorem map_range_get (L : Nat) (f : Nat → Int) (k : Nat) : ((List.range L).map f)[k]? = if k < L then some (f k) else none := by
  by_cases h : k < L
  · rw [if_pos h, List.getElem?_map, List.getElem?_range h]; rfl
  · rw [if_neg h, List.getElem?_eq_none (by simp; omega)]
theorem ints_get {ns : List Int} {i : Nat} (h : i < ns.length) : (ns.map D.int)[i]? = some (.int (ns.getD i 0)) := by
  rw [List.getElem?_map, List.getElem?_eq_getElem h, List.getD_eq_getElem?_getD, List.getElem?_eq_getElem h]; rfl
end BS
set_option exponentiation.threshold 20000
namespace BS
open PySem PySem.Spec PyProof.Rows L2 DL
theorem lst_loc {μ : Sto} {n : Nat} {ds : List D} (h : μ[n]? = some (.lst ds)) : lstAt μ n = some ds := lstAt_lst h
theorem rng_ok {r : Nat} (h : r ≤ 1000000) : -(2 ^ 62) ≤ (r : Int) ∧ (r : Int) < 2 ^ 62 := by omega
theorem rng1_of {f : AF} {ρ : Sl} {μ μ' : Sto} {r : Nat} (h : f ρ μ = some ([.int (r : Int)], μ')) (hr : r ≤ 1000000) : iRng1' f ρ μ = some (.rng 0 r, μ') := by
  unfold iRng1'
  rw [h, Option.bind_some]
  show (if -(2 ^ 62) ≤ (r : Int) ∧ (r : Int) < 2 ^ 62 then some (ItD.rng 0 (r : Int).toNat, μ') else none) = _
  rw [if_pos (rng_ok hr), Int.toNat_natCast]
/-- the numbers of a list are so small -/
def Bd (a : Nat) (xs : List Int) : Prop := ∀ x ∈ xs, x.natAbs < 2 ^ a
theorem Bd.at_ {a : Nat} {xs : List Int} (h : Bd a xs) {i : Nat} (hi : i < xs.length) : (xs.getD i 0).natAbs < 2 ^ a := by
  rw [List.getD_eq_getElem?_getD, List.getElem?_eq_getElem hi]
  exact h _ (List.getElem_mem hi)
theorem Gr.list {μ μ' : Sto} {n : Nat} {ds : List D} (g : Gr μ μ') (h : μ[n]? = some (.lst ds)) : μ'[n]? = some (.lst ds) := g.get h
end BS
set_option exponentiation.threshold 20000
namespace BS
open PySem PySem.Spec PyProof.Rows L2 DL
theorem range_drop {n i : Nat} (h : i < n) : (List.range n).drop i = i :: (List.range n).drop (i + 1) := by
  rw [List.drop_eq_getElem_cons (by simpa using h), List.getElem_range]
theorem lcN_list {g : GF} {ft : TF} {fe : EF} {ρ : Sl} {μ0 : Sto} {it : ItN} {n : Nat} {x : Nat → D} {p : Nat → Bool} {e : Nat → D} (hit : ∀ i μ, Gr μ0 μ → itAtN it i μ = some (if i < n then some (x i) else none)) (hl : n ≤ 1000000)
    (h : ∀ i, i < n → ∀ μ, Gr μ0 μ → ∃ ρ1, g (x i) ρ μ = some (ρ1, μ) ∧ Wp (ft ρ1 μ) fun q => q.1 = p i ∧ Gr μ q.2 ∧ (p i = true → Wp (fe ρ1 q.2) fun r => r.1 = e i ∧ Gr q.2 r.2)) :
    ∀ (m i : Nat) (acc : List D) (more : Sto), m + i = n → acc.length ≤ i → Wp (lcN g ft fe it μ0.length ρ m i (μ0 ++ .lst acc :: more)) fun μ' => ∃ more', μ' = μ0 ++ .lst (acc ++ (((List.range n).drop i).filter p).map e) :: more' := by
  intro m
  induction m with
  | zero =>
    intro i acc more hi ha
    refine Wp.of (a := μ0 ++ .lst acc :: more) ?_ ⟨more, ?_⟩
    · unfold lcN; simp only [hit i _ Gr.app, show ¬ i < n by omega, if_false]
    · rw [List.drop_of_length_le (by simp; omega)]; simp
  | succ m ih =>
    intro i acc more hi ha
    have lt : i < n := by omega
    obtain ⟨ρ1, e2, ⟨q, μq⟩, e3, e4, ⟨mq, e5⟩, e6⟩ := h i lt (μ0 ++ .lst acc :: more) Gr.app
    dsimp only at e4 e5 e6
    subst e4
    unfold lcN
    simp only [hit i _ Gr.app, lt, if_true, e2, e3, Option.bind_some]
    rw [range_drop lt]
    cases hp : p i with
    | false =>
      simp only [Bool.false_eq_true, if_false]
      rw [e5, List.append_assoc, List.cons_append, List.filter_cons_of_neg (by simp [hp])]
      exact ih (i + 1) acc (more ++ mq) (by omega) (by omega)
    | true =>
      obtain ⟨⟨r, μr⟩, e7, e8, ⟨mr, e9⟩⟩ := e6 hp
      dsimp only at e8 e9
      subst e8
      simp only [if_true, e7, Option.bind_some]
      rw [e9, e5, List.append_assoc, List.append_assoc, List.cons_append]
      have g1 : (μ0 ++ .lst acc :: (more ++ (mq ++ mr)))[μ0.length]? = some (.lst acc) := by simp
      have g2 : (μ0 ++ .lst acc :: (more ++ (mq ++ mr))).set μ0.length (.lst (acc ++ [e i])) = μ0 ++ .lst (acc ++ [e i]) :: (more ++ (mq ++ mr)) := by simp
      have g3 : acc.length < sizeLine := by rw [sizeLine_eq]; omega
      simp only [g1, g3, if_true, g2]
      refine (ih (i + 1) (acc ++ [e i]) _ (by omega) (by simp; omega)).mono ?_
      rintro μ' ⟨more', rfl⟩
      refine ⟨more', ?_⟩
      rw [List.filter_cons_of_pos hp, List.map_cons, List.append_assoc]
      rfl
theorem fLcN_list {fi : IN} {g : GF} {ft : TF} {fe : EF} {vs : List Nat} {ρ : Sl} {μ μ0 : Sto} {it : ItN} {n : Nat} {x : Nat → D} {p : Nat → Bool} {e : Nat → D} {Q : D × Sto → Prop} (hi : fi ρ μ = some (it, μ0)) (hit : ∀ i μ, Gr μ0 μ → itAtN it i μ = some (if i < n then some (x i) else none)) (hl : n ≤ 1000000) (hn : itLenN it μ0 = n)
    (h : ∀ i, i < n → ∀ μ, Gr μ0 μ → ∃ ρ1, g (x i) (wipeD ρ vs) μ = some (ρ1, μ) ∧ Wp (ft ρ1 μ) fun q => q.1 = p i ∧ Gr μ q.2 ∧ (p i = true → Wp (fe ρ1 q.2) fun r => r.1 = e i ∧ Gr q.2 r.2))
    (k : ∀ m μ', μ'[m]? = some (.lst (((List.range n).filter p).map e)) → μ0.length ≤ m → Gr μ0 μ' → Q (.loc m, μ')) : Wp (fLcN fi g ft fe vs ρ μ) Q := by
  obtain ⟨_, e1, m', rfl⟩ := lcN_list hit hl h n 0 [] [] rfl (Nat.zero_le _)
  refine Wp.of (a := (.loc μ0.length, μ0 ++ .lst ([] ++ (((List.range n).drop 0).filter p).map e) :: m')) ?_ (k _ _ (by simp) (Nat.le_refl _) ⟨_, rfl⟩)
  unfold fLcN
  simp only [hi, Option.bind_some, hn]
  rw [e1]
  rfl
theorem lcF_list {g : GF} {ft : TF} {fe : EF} {ρ : Sl} {μ0 : Sto} {it : ItD} {n : Nat} {x : Nat → D} {p : Nat → Bool} {e : Nat → D} (hit : ∀ i μ, Gr μ0 μ → itAt it i μ = some (if i < n then some (x i) else none)) (hl : n ≤ 1000000)
    (h : ∀ i, i < n → ∀ μ, Gr μ0 μ → ∃ ρ1, g (x i) ρ μ = some (ρ1, μ) ∧ Wp (ft ρ1 μ) fun q => q.1 = p i ∧ Gr μ q.2 ∧ (p i = true → Wp (fe ρ1 q.2) fun r => r.1 = e i ∧ Gr q.2 r.2)) :
    ∀ (m i : Nat) (acc : List D) (more : Sto), m + i = n → acc.length ≤ i → Wp (lcF g ft fe it μ0.length ρ m i (μ0 ++ .lst acc :: more)) fun μ' => ∃ more', μ' = μ0 ++ .lst (acc ++ (((List.range n).drop i).filter p).map e) :: more' := by
  intro m
  induction m with
  | zero =>
    intro i acc more hi ha
    refine Wp.of (a := μ0 ++ .lst acc :: more) ?_ ⟨more, ?_⟩
    · unfold lcF; simp only [hit i _ Gr.app, show ¬ i < n by omega, if_false]
    · rw [List.drop_of_length_le (by simp; omega)]; simp
  | succ m ih =>
    intro i acc more hi ha
    have lt : i < n := by omega
    obtain ⟨ρ1, e2, ⟨q, μq⟩, e3, e4, ⟨mq, e5⟩, e6⟩ := h i lt (μ0 ++ .lst acc :: more) Gr.app
    dsimp only at e4 e5 e6
    subst e4
    unfold lcF
    simp only [hit i _ Gr.app, lt, if_true, e2, e3, Option.bind_some]
    rw [range_drop lt]
    cases hp : p i with
    | false =>
      simp only [Bool.false_eq_true, if_false]
      rw [e5, List.append_assoc, List.cons_append, List.filter_cons_of_neg (by simp [hp])]
      exact ih (i + 1) acc (more ++ mq) (by omega) (by omega)
    | true =>
      obtain ⟨⟨r, μr⟩, e7, e8, ⟨mr, e9⟩⟩ := e6 hp
      dsimp only at e8 e9
      subst e8
      simp only [if_true, e7, Option.bind_some]
      rw [e9, e5, List.append_assoc, List.append_assoc, List.cons_append]
      have g1 : (μ0 ++ .lst acc :: (more ++ (mq ++ mr)))[μ0.length]? = some (.lst acc) := by simp
      have g2 : (μ0 ++ .lst acc :: (more ++ (mq ++ mr))).set μ0.length (.lst (acc ++ [e i])) = μ0 ++ .lst (acc ++ [e i]) :: (more ++ (mq ++ mr)) := by simp
      have g3 : acc.length < sizeLine := by rw [sizeLine_eq]; omega
      simp only [g1, g3, if_true, g2]
      refine (ih (i + 1) (acc ++ [e i]) _ (by omega) (by simp; omega)).mono ?_
      rintro μ' ⟨more', rfl⟩
      refine ⟨more', ?_⟩
      rw [List.filter_cons_of_pos hp, List.map_cons, List.append_assoc]
      rfl
theorem fLc_list {fi : IF} {g : GF} {ft : TF} {fe : EF} {vs : List Nat} {ρ : Sl} {μ μ0 : Sto} {it : ItD} {n : Nat} {x : Nat → D} {p : Nat → Bool} {e : Nat → D} {Q : D × Sto → Prop} (hi : fi ρ μ = some (it, μ0)) (hit : ∀ i μ, Gr μ0 μ → itAt it i μ = some (if i < n then some (x i) else none)) (hl : n ≤ 1000000) (hn : itLen it μ0 = n)
    (h : ∀ i, i < n → ∀ μ, Gr μ0 μ → ∃ ρ1, g (x i) (wipeD ρ vs) μ = some (ρ1, μ) ∧ Wp (ft ρ1 μ) fun q => q.1 = p i ∧ Gr μ q.2 ∧ (p i = true → Wp (fe ρ1 q.2) fun r => r.1 = e i ∧ Gr q.2 r.2))
    (k : ∀ m μ', μ'[m]? = some (.lst (((List.range n).filter p).map e)) → μ0.length ≤ m → Gr μ0 μ' → Q (.loc m, μ')) : Wp (fLc fi g ft fe vs ρ μ) Q := by
  obtain ⟨_, e1, m', rfl⟩ := lcF_list hit hl h n 0 [] [] rfl (Nat.zero_le _)
  refine Wp.of (a := (.loc μ0.length, μ0 ++ .lst ([] ++ (((List.range n).drop 0).filter p).map e) :: m')) ?_ (k _ _ (by simp) (Nat.le_refl _) ⟨_, rfl⟩)
  unfold fLc
  simp only [hi, Option.bind_some, hn]
  rw [e1]
  rfl
theorem enu_at {μ μ0 : Sto} {n i : Nat} {ys : List Int} (h : μ0[n]? = some (.lst (ys.map D.int))) (g : Gr μ0 μ) : itAtN (.enuL n) i μ = some (if i < ys.length then some (.tup [.int (i : Nat), .int (ys.getD i 0)]) else none) := by
  have l := lst_loc (g.get h)
  simp only [itAtN, l, Option.map_some]
  by_cases hi : i < ys.length
  · rw [if_pos hi, ints_get hi]; rfl
  · rw [if_neg hi, List.getElem?_eq_none (by simpa using hi)]; rfl
end BS
set_option exponentiation.threshold 20000
namespace BS
open PySem PySem.Spec PyProof.Rows L2 DL
theorem frD_eq {p q : Int × Int} {μ : Sto} : opEqM (frD p) (frD q) μ = some (.bl (decide (p = q)), μ) := by
  have e : rcD μ 60 (frD p) (frD q) = some ((p.1 == q.1 && (p.2 == q.2 && true)) && true) := rfl
  obtain ⟨p1, p2⟩ := p
  obtain ⟨q1, q2⟩ := q
  have e2 : opEqM (frD (p1, p2)) (frD (q1, q2)) μ = opEq (frD (p1, p2)) (frD (q1, q2)) μ := rfl
  rw [e2]
  simp only [opEq, e, Option.map_some]
  congr 3
  by_cases h1 : p1 = q1
  · by_cases h2 : p2 = q2
    · simp [h1, h2]
    · simp [h1, h2]
  · simp [h1]
theorem frD_eq0 {p : Int × Int} {μ : Sto} (h : isFr p) : opEqM (frD p) (.tup [.int 0, .int 1]) μ = some (.bl (decide (p.1 = 0)), μ) := by
  have e : (.tup [.int 0, .int 1] : D) = frD (0, 1) := rfl
  rw [e, frD_eq]
  congr 3
  obtain ⟨p1, p2⟩ := p
  by_cases z : p1 = 0
  · have := isFr_zero h z
    simp at this
    simp [z, this]
  · simp [z]
theorem loopW_gen {c : TF} {b : SF} (I : Nat → Sl → Sto → Prop) (J : Sl → Sto → Prop)
    (step : ∀ n ρ μ, I n ρ μ → Wp (c ρ μ) fun p => (p.1 = true → ∃ k, n = k + 1 ∧ Wp (b ρ p.2) fun o => ∃ ρ' μ', o = .nx ρ' μ' ∧ I k ρ' μ') ∧ (p.1 = false → J ρ p.2)) :
    ∀ (n m : Nat) (ρ : Sl) (μ : Sto), I n ρ μ → n < m → Wp (loopW c b m ρ μ) fun o => ∃ ρ' μ', o = .nx ρ' μ' ∧ J ρ' μ' := by
  intro n
  induction n with
  | zero =>
    intro m ρ μ h hm
    obtain ⟨m, rfl⟩ : ∃ k, m = k + 1 := ⟨m - 1, by omega⟩
    obtain ⟨⟨t, μ1⟩, e, q1, q2⟩ := step 0 ρ μ h
    cases t with
    | true => obtain ⟨k, hk, _⟩ := q1 rfl; omega
    | false => exact ⟨.nx ρ μ1, by unfold loopW; rw [e]; rfl, ρ, μ1, rfl, q2 rfl⟩
  | succ n ih =>
    intro m ρ μ h hm
    obtain ⟨m, rfl⟩ : ∃ k, m = k + 1 := ⟨m - 1, by omega⟩
    obtain ⟨⟨t, μ1⟩, e, q1, q2⟩ := step (n + 1) ρ μ h
    cases t with
    | false => exact ⟨.nx ρ μ1, by unfold loopW; rw [e]; rfl, ρ, μ1, rfl, q2 rfl⟩
    | true =>
      obtain ⟨k, hk, o, e2, ρ', μ', rfl, hI⟩ := q1 rfl
      have : k = n := by omega
      subst this
      obtain ⟨r, e3, q⟩ := ih m ρ' μ' hI (by omega)
      refine ⟨r, ?_, q⟩
      unfold loopW
      rw [e, Option.bind_some, if_pos rfl]
      rw [show b ρ μ1 = some (.nx ρ' μ') from e2]
      exact e3
abbrev FrL := List (Int × Int)
def at0 (fs : FrL) (k : Nat) : Prop := (fs.getD k (0, 1)).1 = 0
structure Span (fs : FrL) (f e : Nat) : Prop where
  le : e ≤ fs.length
  fe : f ≤ e
  hi : ∀ k, e ≤ k → at0 fs k
  top : e ≠ 0 → ¬ at0 fs (e - 1)
  lo : ∀ k, k < f → at0 fs k
  bot : f ≠ e → ¬ at0 fs f
  no : f = e → e = 0
theorem Span.uniq {fs : FrL} {f e f' e' : Nat} (a : Span fs f e) (b : Span fs f' e') : f = f' ∧ e = e' := by
  have ee : e = e' := by
    rcases Nat.lt_trichotomy e e' with h | h | h
    · exact absurd (a.hi (e' - 1) (by omega)) (b.top (by omega))
    · exact h
    · exact absurd (b.hi (e - 1) (by omega)) (a.top (by omega))
  subst ee
  refine ⟨?_, rfl⟩
  rcases Nat.lt_trichotomy f f' with h | h | h
  · exact absurd (b.lo f h) (a.bot (by have := b.fe; omega))
  · exact h
  · exact absurd (a.lo f' h) (b.bot (by have := a.fe; omega))
def cutR (s : Int) (fs : FrL) (f e : Nat) : Int × FrL := if f = e then (0, []) else (s + f, (fs.take e).drop f)
def rowD (r : Int × FrL) : D := .tup [.int r.1, .tup (r.2.map frD)]
theorem fr_get {fs : FrL} {k : Nat} (h : k < fs.length) : (fs.map frD)[k]? = some (frD (fs.getD k (0, 1))) := by
  rw [List.getElem?_map, List.getElem?_eq_getElem h, List.getD_eq_getElem?_getD, List.getElem?_eq_getElem h]; rfl
theorem at0_out {fs : FrL} {k : Nat} (h : fs.length ≤ k) : at0 fs k := by
  unfold at0
  rw [List.getD_eq_getElem?_getD, List.getElem?_eq_none h]; rfl
end BS
set_option exponentiation.threshold 20000
namespace BS
open PySem PySem.Spec PyProof.Rows L2 DL
theorem gNm_bind {b : SF} {k : Nat} {d : D} {ρ : Sl} {μ : Sto} {R : Out → Prop} (h : Wp (b (ρ.set k (some d)) μ) R) : Wp ((gNm k d ρ μ).bind fun p => b p.1 p.2) R := h
def trimE (fs : FrL) : Nat → Nat
  | 0 => 0
  | e + 1 => if (fs.getD e (0, 1)).1 = 0 then trimE fs e else e + 1
def trimF (fs : FrL) (e : Nat) : Nat → Nat
  | 0 => e
  | n + 1 => if (fs.getD (e - (n + 1)) (0, 1)).1 = 0 then trimF fs e n else e - (n + 1)
theorem trimE_ok (fs : FrL) : ∀ n : Nat, trimE fs n ≤ n ∧ (∀ k, trimE fs n ≤ k → k < n → at0 fs k) ∧ (trimE fs n ≠ 0 → ¬ at0 fs (trimE fs n - 1))
  | 0 => ⟨Nat.le_refl _, fun k _ h => absurd h (Nat.not_lt_zero k), fun h => absurd rfl h⟩
  | n + 1 => by
    obtain ⟨h1, h2, h3⟩ := trimE_ok fs n
    unfold trimE
    by_cases z : (fs.getD n (0, 1)).1 = 0
    · rw [if_pos z]
      exact ⟨by omega, fun k a b => by
        by_cases e : k = n
        · rw [e]; exact z
        · exact h2 k a (by omega), h3⟩
    · rw [if_neg z]
      exact ⟨Nat.le_refl _, fun k a b => by omega, fun _ => z⟩
theorem trimF_ok (fs : FrL) (e : Nat) : ∀ n : Nat, n ≤ e → (∀ k, k < e - n → at0 fs k) → trimF fs e n ≤ e ∧ (∀ k, k < trimF fs e n → at0 fs k) ∧ (trimF fs e n ≠ e → ¬ at0 fs (trimF fs e n))
  | 0, _, h => ⟨Nat.le_refl _, h, fun c => absurd rfl c⟩
  | n + 1, hn, h => by
    unfold trimF
    by_cases z : (fs.getD (e - (n + 1)) (0, 1)).1 = 0
    · rw [if_pos z]
      refine trimF_ok fs e n (by omega) fun k hk => ?_
      by_cases c : k = e - (n + 1)
      · rw [c]; exact z
      · exact h k (by omega)
    · rw [if_neg z]
      exact ⟨by omega, h, fun _ => z⟩
theorem span_of (fs : FrL) : Span fs (trimF fs (trimE fs fs.length) (trimE fs fs.length)) (trimE fs fs.length) := by
  obtain ⟨h1, h2, h3⟩ := trimE_ok fs fs.length
  obtain ⟨k1, k2, k3⟩ := trimF_ok fs (trimE fs fs.length) (trimE fs fs.length) (Nat.le_refl _) (fun k hk => by omega)
  refine ⟨h1, k1, fun k hk => ?_, h3, k2, k3, fun c => ?_⟩
  · by_cases l : k < fs.length
    · exact h2 k hk l
    · exact at0_out (by omega)
  · by_cases e0 : trimE fs fs.length = 0
    · exact e0
    · exact absurd (k2 (trimE fs fs.length - 1) (by omega)) (h3 e0)
def trimR (s : Int) (fs : FrL) : Int × FrL := cutR s fs (trimF fs (trimE fs fs.length) (trimE fs fs.length)) (trimE fs fs.length)
/-- the row that is the product of both -/
def mulR (x y : Int × FrL) : Int × FrL :=
  if x.2 = [] ∨ y.2 = [] then (0, []) else trimR (x.1 + y.1) ((cvL (intsL (lcmL x.2) x.2) (intsL (lcmL y.2) y.2)).map fun n => redI n ((lcmL x.2 : Int) * (lcmL y.2 : Int)))
theorem oR_len (xs ys : List Int) (i : Nat) : (oR xs ys i).length = xs.length + ys.length - 1 := by unfold oR; simp
theorem ints_len (b : Nat) (fs : FrL) : (intsL b fs).length = fs.length := by unfold intsL; simp
theorem mulOk_big {i j : Int} {a b : Nat} (h1 : i.natAbs < 2 ^ a) (h2 : j.natAbs < 2 ^ b) (ha : 0 < a) (hb : 0 < b) (hs : a + b < 1000000) : mulOk i j = true := by
  have := log_of h1 ha
  have := log_of h2 hb
  unfold mulOk
  exact decide_eq_true (by omega)
end BS
set_option exponentiation.threshold 20000
namespace BS
open PySem PySem.Spec PyProof.Rows L2 DL
theorem Gr.lt {μ μ' : Sto} (g : Gr μ μ') : μ.length ≤ μ'.length := by obtain ⟨m, rfl⟩ := g; simp
theorem Gr.set {μ μ' : Sto} {f : Nat} {o : Ob} (g : Gr μ μ') (h : μ.length ≤ f) : Gr μ (μ'.set f o) := by
  obtain ⟨m, rfl⟩ := g
  refine ⟨m.set (f - μ.length) o, ?_⟩
  rw [List.set_append, if_neg (by omega)]
def part (zs : List Int) (j : Nat) : List Int := (List.range zs.length).map fun k => if k < j then zs.getD k 0 else 0
end BS
namespace BS
def pq : List Rat → Rat → Rat
  | [], _ => 0
  | a :: as, x => a + x * pq as x
def sbL : List Rat → List Rat → List Rat
  | [], bs => bs.map fun b => -b
  | as, [] => as
  | a :: as, b :: bs => (a - b) :: sbL as bs
theorem pq_neg : ∀ (bs : List Rat) (x : Rat), pq (bs.map fun b => -b) x = - pq bs x
  | [], x => by simp [pq]
  | b :: bs, x => by
    have ih := pq_neg bs x
    simp only [List.map_cons, pq, ih]
    grind
theorem pq_sb : ∀ (as bs : List Rat) (x : Rat), pq (sbL as bs) x = pq as x - pq bs x
  | [], bs, x => by simp only [sbL, pq, pq_neg]; grind
  | a :: as, [], x => by simp only [sbL, pq]; grind
  | a :: as, b :: bs, x => by
    have ih := pq_sb as bs x
    simp only [sbL, pq, ih]
    grind
theorem sb_get : ∀ (as bs : List Rat) (k : Nat), (sbL as bs).getD k 0 = as.getD k 0 - bs.getD k 0
  | [], bs, k => by
    simp only [sbL, List.getD_eq_getElem?_getD, List.getElem?_map]
    cases bs[k]? <;> simp <;> grind
  | a :: as, [], k => by simp [sbL]; grind
  | a :: as, b :: bs, 0 => by simp [sbL]
  | a :: as, b :: bs, k + 1 => by
    have ih := sb_get as bs k
    simpa [sbL] using ih
/-- a bound of what a list tells near 0 -/
def sz : List Rat → Rat
  | [] => 0
  | a :: as => a.abs + sz as
theorem sz_pos : ∀ as : List Rat, 0 ≤ sz as
  | [] => by simp [sz]
  | a :: as => by
    have := sz_pos as
    have := Rat.abs_nonneg (x := a)
    simp only [sz]; grind
theorem pq_le : ∀ (as : List Rat) (x : Rat), 0 ≤ x → x ≤ 1 → pq as x ≤ sz as ∧ -(sz as) ≤ pq as x
  | [], x, _, _ => by simp [pq, sz]
  | a :: as, x, h0, h1 => by
    obtain ⟨h2, h3⟩ := pq_le as x h0 h1
    have hp := sz_pos as
    have ha : a ≤ a.abs ∧ -(a.abs) ≤ a := by
      rcases Rat.le_total (a := 0) (b := a) with h | h
      · rw [Rat.abs_of_nonneg h]; grind
      · rw [Rat.abs_of_nonpos h]; grind
    have h4 : x * pq as x ≤ x * sz as := Rat.mul_le_mul_of_nonneg_left h2 h0
    have h5 : x * -(sz as) ≤ x * pq as x := Rat.mul_le_mul_of_nonneg_left h3 h0
    have h6 : x * sz as ≤ 1 * sz as := Rat.mul_le_mul_of_nonneg_right h1 hp
    simp only [pq, sz]
    have h7 : x * -(sz as) = - (x * sz as) := by grind
    rw [h7] at h5
    grind
theorem head_zero {a : Rat} {as : List Rat} (h : ∀ x : Rat, x ≠ 0 → pq (a :: as) x = 0) : a = 0 := by
  refine Classical.byContradiction fun ne => ?_
  have hp := sz_pos as
  have ha : 0 < a.abs := Rat.abs_pos_iff.mpr ne
  have hd : 0 < a.abs + sz as + 1 := by grind
  let x : Rat := a.abs / (a.abs + sz as + 1)
  have hx : x * (a.abs + sz as + 1) = a.abs := Rat.div_mul_cancel (by grind)
  have x0 : 0 < x := by
    show 0 < a.abs / _
    rw [Rat.div_def]
    exact Rat.mul_pos ha (Rat.inv_pos.mpr hd)
  have x1 : x ≤ 1 := by
    refine Rat.not_lt.mp fun c => ?_
    have : 1 * (a.abs + sz as + 1) < x * (a.abs + sz as + 1) := Rat.mul_lt_mul_of_pos_right c hd
    grind
  obtain ⟨h2, h3⟩ := pq_le as x (Rat.le_of_lt x0) x1
  have e := h x (by grind)
  simp only [pq] at e
  have h4 : x * pq as x ≤ x * sz as := Rat.mul_le_mul_of_nonneg_left h2 (Rat.le_of_lt x0)
  have h5 : x * -(sz as) ≤ x * pq as x := Rat.mul_le_mul_of_nonneg_left h3 (Rat.le_of_lt x0)
  have h7 : x * -(sz as) = - (x * sz as) := by grind
  rw [h7] at h5
  have h8 : x * (a.abs + sz as + 1) = x * a.abs + x * sz as + x := by grind
  have h9 : 0 < x * a.abs := Rat.mul_pos x0 ha
  have hc : a.abs ≤ x * sz as := by
    rcases Rat.le_total (a := 0) (b := a) with h | h
    · rw [Rat.abs_of_nonneg h] at *; grind
    · rw [Rat.abs_of_nonpos h] at *; grind
  grind
theorem all_zero : ∀ (as : List Rat), (∀ x : Rat, x ≠ 0 → pq as x = 0) → ∀ k, as.getD k 0 = 0
  | [], _, k => by simp
  | a :: as, h, k => by
    have e := head_zero h
    subst e
    cases k with
    | zero => simp
    | succ k =>
      have := all_zero as (fun x hx => by
        have e := h x hx
        simp only [pq] at e
        have e2 : x * pq as x = 0 := by grind
        rcases Rat.mul_eq_zero.mp e2 with c | c
        · exact absurd c hx
        · exact c) k
      simpa using this
theorem pq_inj {as bs : List Rat} (h : ∀ x : Rat, x ≠ 0 → pq as x = pq bs x) (k : Nat) : as.getD k 0 = bs.getD k 0 := by
  have := all_zero (sbL as bs) (fun x hx => by rw [pq_sb, h x hx]; grind) k
  rw [sb_get] at this
  grind
theorem pq_zeros (as : List Rat) (x : Rat) : ∀ n : Nat, pq (List.replicate n 0 ++ as) x = x ^ n * pq as x
  | 0 => by simp
  | n + 1 => by
    have ih := pq_zeros as x n
    rw [List.replicate_succ, List.cons_append]
    simp only [pq, ih, Rat.pow_succ]
    grind
def evq (s : Int) (as : List Rat) (x : Rat) : Rat := x ^ s * pq as x
theorem zpow_ne {x : Rat} (h : x ≠ 0) (s : Int) : x ^ s ≠ 0 := by
  intro c
  have e := Rat.zpow_add h s (-s)
  rw [c] at e
  have : s + -s = 0 := by omega
  rw [this, Rat.zpow_zero] at e
  grind
/-- rows without noughts at their ends are told apart by what they are as functions of x -/
theorem evq_le {s t : Int} {as bs : List Rat} (ha : as.getD 0 0 ≠ 0) (h : ∀ x : Rat, x ≠ 0 → evq s as x = evq t bs x) : t ≤ s := by
  refine Classical.byContradiction fun c => ?_
  obtain ⟨n, hn⟩ : ∃ n : Nat, t = s + ((n + 1 : Nat) : Int) := ⟨(t - s - 1).toNat, by omega⟩
  have e : ∀ x : Rat, x ≠ 0 → pq as x = pq (List.replicate (n + 1) 0 ++ bs) x := fun x hx => by
    have e1 := h x hx
    unfold evq at e1
    rw [hn, Rat.zpow_add hx, Rat.zpow_natCast] at e1
    rw [pq_zeros]
    have z := zpow_ne hx s
    have e2 : x ^ s * (pq as x - x ^ (n + 1) * pq bs x) = 0 := by grind
    rcases Rat.mul_eq_zero.mp e2 with c | c
    · exact absurd c z
    · grind
  have := pq_inj e 0
  rw [List.replicate_succ, List.cons_append] at this
  exact ha (by simpa using this)
theorem evq_inj {s t : Int} {as bs : List Rat} (ha : as.getD 0 0 ≠ 0) (hb : bs.getD 0 0 ≠ 0) (h : ∀ x : Rat, x ≠ 0 → evq s as x = evq t bs x) : s = t ∧ ∀ k, as.getD k 0 = bs.getD k 0 := by
  have h1 := evq_le ha h
  have h2 := evq_le hb fun x hx => (h x hx).symm
  have e : s = t := by omega
  subst e
  refine ⟨rfl, pq_inj fun x hx => ?_⟩
  have e1 := h x hx
  unfold evq at e1
  have z := zpow_ne hx s
  have e2 : x ^ s * (pq as x - pq bs x) = 0 := by grind
  rcases Rat.mul_eq_zero.mp e2 with c | c
  · exact absurd c z
  · grind
end BS
set_option exponentiation.threshold 20000
namespace BS
def qv (p : Int × Int) : Rat := (p.1 : Rat) / (p.2 : Rat)
theorem cast_ne {m : Int} (h : 0 < m) : (m : Rat) ≠ 0 := fun c => by
  have := Rat.intCast_eq_zero_iff.mp c
  omega
theorem div_eq {a b c : Rat} (hb : b ≠ 0) : a / b = c ↔ a = c * b := by
  constructor
  · intro h; rw [← h, Rat.div_mul_cancel hb]
  · intro h; rw [h, Rat.mul_div_cancel hb]
theorem qv_red {n m : Int} (h : 0 < m) : qv (redI n m) = (n : Rat) / (m : Rat) := by
  have hg := gcd_pos (n := n) h
  have d1 : ((Nat.gcd n.natAbs m.natAbs : Nat) : Int) ∣ n := Int.ofNat_dvd_left.mpr (Nat.gcd_dvd_left _ _)
  have d2 : ((Nat.gcd n.natAbs m.natAbs : Nat) : Int) ∣ m := Int.ofNat_dvd_left.mpr (Nat.gcd_dvd_right _ _)
  have fr := (redI_fr (n := n) h).1
  have e1 : n = (redI n m).1 * ((Nat.gcd n.natAbs m.natAbs : Nat) : Int) := (Int.ediv_mul_cancel d1).symm
  have e2 : m = (redI n m).2 * ((Nat.gcd n.natAbs m.natAbs : Nat) : Int) := (Int.ediv_mul_cancel d2).symm
  have z1 := cast_ne h
  have z2 := cast_ne fr
  unfold qv
  have c1 : (n : Rat) = ((redI n m).1 : Rat) * (((Nat.gcd n.natAbs m.natAbs : Nat) : Int) : Rat) := by rw [← Rat.intCast_mul, ← e1]
  have c2 : (m : Rat) = ((redI n m).2 : Rat) * (((Nat.gcd n.natAbs m.natAbs : Nat) : Int) : Rat) := by rw [← Rat.intCast_mul, ← e2]
  rw [div_eq z2, c1]
  have z3 : (((Nat.gcd n.natAbs m.natAbs : Nat) : Int) : Rat) ≠ 0 := cast_ne (by omega)
  rw [c2] at z1 ⊢
  grind
theorem qv_cross {p r : Int × Int} (hp : 0 < p.2) (hr : 0 < r.2) : qv p = qv r ↔ p.1 * r.2 = r.1 * p.2 := by
  have z1 := cast_ne hp
  have z2 := cast_ne hr
  unfold qv
  rw [div_eq z1]
  constructor
  · intro h
    have : ((p.1 * r.2 : Int) : Rat) = ((r.1 * p.2 : Int) : Rat) := by
      rw [Rat.intCast_mul, Rat.intCast_mul]
      grind
    exact Rat.intCast_inj.mp this
  · intro h
    have : ((p.1 * r.2 : Int) : Rat) = ((r.1 * p.2 : Int) : Rat) := by rw [h]
    rw [Rat.intCast_mul, Rat.intCast_mul] at this
    grind
theorem fr_uniq {p r : Int × Int} (hp : isFr p) (hr : isFr r) (h : p.1 * r.2 = r.1 * p.2) : p = r := by
  obtain ⟨n, m⟩ := p
  obtain ⟨k, l⟩ := r
  obtain ⟨hm, hg⟩ := hp
  obtain ⟨hl, hk⟩ := hr
  simp only at hm hg hl hk h
  have hn : n.natAbs * l.natAbs = k.natAbs * m.natAbs := by rw [← Int.natAbs_mul, ← Int.natAbs_mul, h]
  have d1 : m.natAbs ∣ l.natAbs := by
    have : m.natAbs ∣ n.natAbs * l.natAbs := ⟨k.natAbs, by rw [hn, Nat.mul_comm]⟩
    exact Nat.Coprime.dvd_of_dvd_mul_left (Nat.Coprime.symm hg) this
  have d2 : l.natAbs ∣ m.natAbs := by
    have : l.natAbs ∣ k.natAbs * m.natAbs := ⟨n.natAbs, by rw [← hn, Nat.mul_comm]⟩
    exact Nat.Coprime.dvd_of_dvd_mul_left (Nat.Coprime.symm hk) this
  have e : m.natAbs = l.natAbs := Nat.dvd_antisymm d1 d2
  have e2 : m = l := by omega
  subst e2
  have : n = k := Int.eq_of_mul_eq_mul_right (by omega) h
  rw [this]
theorem qv_inj {p r : Int × Int} (hp : isFr p) (hr : isFr r) (h : qv p = qv r) : p = r := fr_uniq hp hr ((qv_cross hp.1 hr.1).mp h)
theorem qv_zero {p : Int × Int} (hp : 0 < p.2) : qv p = 0 ↔ p.1 = 0 := by
  unfold qv
  rw [div_eq (cast_ne hp), Rat.zero_mul]
  exact Rat.intCast_eq_zero_iff
theorem qv_mul {p r : Int × Int} (hp : 0 < p.2) (hr : 0 < r.2) : qv (mulP p r) = qv p * qv r := by
  unfold mulP
  rw [qv_red (Int.mul_pos hp hr)]
  have z1 := cast_ne hp
  have z2 := cast_ne hr
  unfold qv
  rw [Rat.intCast_mul, Rat.intCast_mul]
  grind
theorem qv_add {p r : Int × Int} (hp : 0 < p.2) (hr : 0 < r.2) : qv (addP p r) = qv p + qv r := by
  unfold addP
  rw [qv_red (Int.mul_pos hp hr)]
  have z1 := cast_ne hp
  have z2 := cast_ne hr
  unfold qv
  rw [Rat.intCast_add, Rat.intCast_mul, Rat.intCast_mul, Rat.intCast_mul]
  grind
theorem addP_fr {p r : Int × Int} (hp : 0 < p.2) (hr : 0 < r.2) : isFr (addP p r) := redI_fr (Int.mul_pos hp hr)
theorem mulP_fr {p r : Int × Int} (hp : 0 < p.2) (hr : 0 < r.2) : isFr (mulP p r) := redI_fr (Int.mul_pos hp hr)
theorem pq_append (as bs : List Rat) (x : Rat) : pq (as ++ bs) x = pq as x + x ^ as.length * pq bs x := by
  induction as with
  | nil => simp [pq]; grind
  | cons a as ih =>
    rw [List.cons_append, List.length_cons, Rat.pow_succ]
    simp only [pq, ih]
    grind
theorem pq_allz : ∀ (as : List Rat) (x : Rat), (∀ k, as.getD k 0 = 0) → pq as x = 0
  | [], _, _ => rfl
  | a :: as, x, h => by
    have h0 := h 0
    have ih := pq_allz as x fun k => by simpa using h (k + 1)
    simp at h0
    simp only [pq, ih, h0]
    grind
theorem pq_take {as : List Rat} {x : Rat} {e : Nat} (h : ∀ k, e ≤ k → as.getD k 0 = 0) : pq (as.take e) x = pq as x := by
  have e1 : as = as.take e ++ as.drop e := (List.take_append_drop e as).symm
  rw [e1, pq_append, List.take_append_drop]
  have : pq (as.drop e) x = 0 := pq_allz _ _ fun k => by
    have := h (e + k) (by omega)
    rw [List.getD_eq_getElem?_getD, List.getElem?_drop]
    rw [List.getD_eq_getElem?_getD] at this
    exact this
  rw [this]
  grind
theorem pq_drop {as : List Rat} {x : Rat} {f : Nat} (hf : f ≤ as.length) (h : ∀ k, k < f → as.getD k 0 = 0) : pq as x = x ^ f * pq (as.drop f) x := by
  have e1 : as = as.take f ++ as.drop f := (List.take_append_drop f as).symm
  have e2 : pq as x = pq (as.take f ++ as.drop f) x := by rw [List.take_append_drop]
  rw [e2, pq_append]
  have : pq (as.take f) x = 0 := pq_allz _ _ fun k => by
    rw [List.getD_eq_getElem?_getD, List.getElem?_take]
    by_cases hk : k < f
    · have := h k hk
      rw [List.getD_eq_getElem?_getD] at this
      simpa [hk] using this
    · simp [hk]
  rw [this, List.length_take, Nat.min_eq_left hf]
  grind
theorem pq_mul (c : Rat) : ∀ (as : List Rat) (x : Rat), pq (as.map fun a => c * a) x = c * pq as x
  | [], x => by simp [pq]
  | a :: as, x => by
    have ih := pq_mul c as x
    simp only [List.map_cons, pq, ih]
    grind
def pz (zs : List Int) (x : Rat) : Rat := pq (zs.map fun (z : Int) => (z : Rat)) x
def se (f : Nat → Int) (L : Nat) (x : Rat) : Rat := pz ((List.range L).map f) x
theorem se_zero (f : Nat → Int) (x : Rat) : se f 0 x = 0 := rfl
theorem se_succ (f : Nat → Int) (L : Nat) (x : Rat) : se f (L + 1) x = se f L x + (f L : Rat) * x ^ L := by
  unfold se pz
  rw [List.range_succ, List.map_append, List.map_append, pq_append]
  simp only [List.map_cons, List.map_nil, pq, List.length_map, List.length_range]
  grind
theorem se_add (f g : Nat → Int) (x : Rat) : ∀ L : Nat, se (fun k => f k + g k) L x = se f L x + se g L x
  | 0 => by rw [se_zero, se_zero, se_zero]; grind
  | L + 1 => by
    rw [se_succ, se_succ, se_succ, se_add f g x L, Rat.intCast_add]
    grind
theorem se_get (ys : List Int) (x : Rat) : ∀ d : Nat, se (fun k => ys.getD k 0) (ys.length + d) x = pz ys x
  | 0 => by
    unfold se
    congr 1
    refine List.ext_getElem? fun k => ?_
    rw [Nat.add_zero, map_range_get]
    by_cases h : k < ys.length
    · rw [if_pos h, List.getElem?_eq_getElem h, List.getD_eq_getElem?_getD, List.getElem?_eq_getElem h]; rfl
    · rw [if_neg h, List.getElem?_eq_none (by omega)]
  | d + 1 => by
    rw [← Nat.add_assoc, se_succ, se_get ys x d, getD_out (by omega)]
    grind
theorem se_term0 (c : Int) (ys : List Int) (i : Nat) (x : Rat) : ∀ L : Nat, L ≤ i → se (termC c ys i) L x = 0
  | 0, _ => rfl
  | L + 1, h => by
    rw [se_succ, se_term0 c ys i x L (by omega)]
    unfold termC
    rw [if_neg (by omega)]
    grind
theorem pow_add (x : Rat) (i : Nat) : ∀ m : Nat, x ^ (i + m) = x ^ i * x ^ m
  | 0 => by rw [Nat.add_zero, Rat.pow_zero]; grind
  | m + 1 => by
    rw [← Nat.add_assoc, Rat.pow_succ, Rat.pow_succ, pow_add x i m]
    grind
theorem se_term (c : Int) (ys : List Int) (i : Nat) (x : Rat) : ∀ m : Nat, se (termC c ys i) (i + m) x = (c : Rat) * x ^ i * se (fun k => ys.getD k 0) m x
  | 0 => by rw [Nat.add_zero, se_term0 c ys i x i (Nat.le_refl _), se_zero]; grind
  | m + 1 => by
    rw [← Nat.add_assoc, se_succ, se_term c ys i x m, se_succ]
    unfold termC
    rw [if_pos (by omega), show i + m - i = m by omega, Rat.intCast_mul, pow_add]
    grind
theorem se_pcf (xs ys : List Int) (x : Rat) (ny : 0 < ys.length) : ∀ i : Nat, i ≤ xs.length → se (pcf xs ys i) (xs.length + ys.length - 1) x = se (fun k => xs.getD k 0) i x * pz ys x
  | 0, _ => by
    have : ∀ L : Nat, se (pcf xs ys 0) L x = 0 := fun L => by
      induction L with
      | zero => rfl
      | succ L ih => rw [se_succ, ih]; unfold pcf; grind
    rw [this, se_zero]; grind
  | i + 1, h => by
    have ih := se_pcf xs ys x ny i (by omega)
    have e : pcf xs ys (i + 1) = fun k => pcf xs ys i k + termC (xs.getD i 0) ys i k := rfl
    rw [e, se_add, ih, se_succ]
    have e2 : xs.length + ys.length - 1 = i + (ys.length + (xs.length - 1 - i)) := by omega
    have e3 : se (termC (xs.getD i 0) ys i) (xs.length + ys.length - 1) x = (xs.getD i 0 : Rat) * x ^ i * pz ys x := by
      rw [e2, se_term, se_get]
    rw [e3]
    grind
theorem pz_cv {xs ys : List Int} (x : Rat) (ny : 0 < ys.length) : pz (cvL xs ys) x = pz xs x * pz ys x := by
  have h := se_pcf xs ys x ny xs.length (Nat.le_refl _)
  have e := se_get xs x 0
  rw [Nat.add_zero] at e
  rw [e] at h
  exact h
def pe (fs : FrL) (x : Rat) : Rat := pq (fs.map qv) x
def ev (r : Int × FrL) (x : Rat) : Rat := evq r.1 (r.2.map qv) x
theorem ev_eq (r : Int × FrL) (x : Rat) : ev r x = x ^ r.1 * pe r.2 x := rfl
theorem pe_ints {b : Nat} (hb : 0 < b) : ∀ (fs : FrL) (x : Rat), (∀ p ∈ fs, 0 < p.2) → (∀ p ∈ fs, p.2.natAbs ∣ b) → pz (intsL b fs) x = (b : Rat) * pe fs x
  | [], x, _, _ => by
    show (0 : Rat) = b * 0
    grind
  | p :: fs, x, h1, h2 => by
    have ih := pe_ints hb fs x (fun q hq => h1 q (List.mem_cons_of_mem _ hq)) fun q hq => h2 q (List.mem_cons_of_mem _ hq)
    have e1 : pz (intsL b (p :: fs)) x = ((p.1 * ((b : Int) / p.2) : Int) : Rat) + x * pz (intsL b fs) x := rfl
    have e2 : pe (p :: fs) x = qv p + x * pe fs x := rfl
    rw [e1, e2, ih]
    have hp := h1 p List.mem_cons_self
    have d : p.2 ∣ (b : Int) := by
      have := h2 p List.mem_cons_self
      exact Int.natAbs_dvd.mp (Int.ofNat_dvd.mpr this)
    have c : ((b : Int) : Rat) = (((b : Int) / p.2 : Int) : Rat) * (p.2 : Rat) := by rw [← Rat.intCast_mul, Int.ediv_mul_cancel d]
    have z := cast_ne hp
    have c2 : (b : Rat) = (((b : Int) / p.2 : Int) : Rat) * (p.2 : Rat) := by rw [← c]; exact (Rat.intCast_natCast b).symm
    have e3 : ((p.1 * ((b : Int) / p.2) : Int) : Rat) = (b : Rat) * qv p := by
      rw [c2, Rat.intCast_mul]
      unfold qv
      grind
    rw [e3]
    grind
theorem pe_red {zs : List Int} {b : Int} (hb : 0 < b) (x : Rat) : (b : Rat) * pe (zs.map fun n => redI n b) x = pz zs x := by
  have z := cast_ne hb
  induction zs with
  | nil => show (b : Rat) * 0 = 0; grind
  | cons n zs ih =>
    have e1 : pz (n :: zs) x = (n : Rat) + x * pz zs x := rfl
    have e2 : pe ((n :: zs).map fun n => redI n b) x = qv (redI n b) + x * pe (zs.map fun n => redI n b) x := rfl
    rw [e1, e2, ← ih, qv_red hb]
    grind
/-- rows without noughts at their ends, numbers in lowest terms -/
structure Can (r : Int × FrL) : Prop where
  fr : ∀ p ∈ r.2, isFr p
  nul : r.2 = [] → r.1 = 0
  lo : r.2 ≠ [] → ¬ at0 r.2 0
  hi : r.2 ≠ [] → ¬ at0 r.2 (r.2.length - 1)
theorem qv01 : qv (0, 1) = 0 := by rw [qv_zero] <;> decide
theorem getD_qv (fs : FrL) (k : Nat) : (fs.map qv).getD k 0 = qv (fs.getD k (0, 1)) := by
  rw [List.getD_eq_getElem?_getD, List.getD_eq_getElem?_getD, List.getElem?_map]
  cases fs[k]? with
  | none => simp [qv01]
  | some p => rfl
theorem getD_fr {fs : FrL} (h : ∀ p ∈ fs, isFr p) (k : Nat) : isFr (fs.getD k (0, 1)) := by
  rw [List.getD_eq_getElem?_getD]
  by_cases hk : k < fs.length
  · rw [List.getElem?_eq_getElem hk]; exact h _ (List.getElem_mem hk)
  · rw [List.getElem?_eq_none (by omega)]; exact ⟨by decide, by decide⟩
theorem at0_qv {fs : FrL} (h : ∀ p ∈ fs, isFr p) (k : Nat) : at0 fs k ↔ (fs.map qv).getD k 0 = 0 := by
  rw [getD_qv, qv_zero (getD_fr h k).1]
  rfl
theorem ev_nil {r : Int × FrL} (h : r.2 = []) (x : Rat) : ev r x = 0 := by
  rw [ev_eq, h]
  show x ^ r.1 * 0 = 0
  grind
theorem Can.zero_of {r : Int × FrL} (c : Can r) (h : ∀ x : Rat, x ≠ 0 → ev r x = 0) : r = (0, []) := by
  have z : r.2 = [] := by
    refine Classical.byContradiction fun n => ?_
    refine c.lo n ((at0_qv c.fr 0).mpr ?_)
    refine all_zero _ (fun x hx => ?_) 0
    have e := h x hx
    rw [ev_eq] at e
    rcases Rat.mul_eq_zero.mp e with k | k
    · exact absurd k (zpow_ne hx _)
    · exact k
  have := c.nul z
  obtain ⟨a, b⟩ := r
  simp only at z this
  rw [z, this]
theorem Can.uniq {r t : Int × FrL} (c : Can r) (d : Can t) (h : ∀ x : Rat, x ≠ 0 → ev r x = ev t x) : r = t := by
  by_cases n1 : r.2 = []
  · have e1 := c.zero_of fun x _ => ev_nil n1 x
    have e2 := d.zero_of fun x hx => by rw [← h x hx]; exact ev_nil n1 x
    rw [e1, e2]
  · by_cases n2 : t.2 = []
    · have e1 := d.zero_of fun x _ => ev_nil n2 x
      have e2 := c.zero_of fun x hx => by rw [h x hx]; exact ev_nil n2 x
      rw [e1, e2]
    · obtain ⟨e1, e2⟩ := evq_inj (fun z => c.lo n1 ((at0_qv c.fr 0).mpr z)) (fun z => d.lo n2 ((at0_qv d.fr 0).mpr z)) h
      have e3 : ∀ k, r.2.getD k (0, 1) = t.2.getD k (0, 1) := fun k => by
        have := e2 k
        rw [getD_qv, getD_qv] at this
        exact qv_inj (getD_fr c.fr k) (getD_fr d.fr k) this
      have l1 : ∀ {a b : Int × FrL}, Can a → a.2 ≠ [] → (∀ k, a.2.getD k (0, 1) = b.2.getD k (0, 1)) → a.2.length ≤ b.2.length := fun {a b} ca na ha => by
        refine Classical.byContradiction fun l => ?_
        refine ca.hi na ?_
        unfold at0
        rw [ha]
        exact at0_out (by omega)
      have l2 : r.2.length = t.2.length := Nat.le_antisymm (l1 c n1 e3) (l1 d n2 fun k => (e3 k).symm)
      have e4 : r.2 = t.2 := by
        refine List.ext_getElem? fun k => ?_
        have := e3 k
        by_cases hk : k < r.2.length
        · rw [List.getD_eq_getElem?_getD, List.getD_eq_getElem?_getD, List.getElem?_eq_getElem hk, List.getElem?_eq_getElem (l2 ▸ hk)] at this
          rw [List.getElem?_eq_getElem hk, List.getElem?_eq_getElem (l2 ▸ hk)]
          exact congrArg some this
        · rw [List.getElem?_eq_none (by omega), List.getElem?_eq_none (by omega)]
      exact Prod.ext e1 e4
end BS
set_option exponentiation.threshold 20000
namespace BS
theorem span_pe {fs : FrL} {f e : Nat} (hf : ∀ p ∈ fs, isFr p) (sp : Span fs f e) (x : Rat) : (f ≠ e → pe fs x = x ^ f * pe ((fs.take e).drop f) x) ∧ (f = e → pe fs x = 0) := by
  have hi : pe (fs.take e) x = pe fs x := by
    unfold pe
    rw [List.map_take]
    exact pq_take fun k hk => (at0_qv hf k).mp (sp.hi k hk)
  constructor
  · intro ne
    rw [← hi]
    unfold pe
    rw [List.map_drop]
    refine pq_drop (by rw [List.length_map, List.length_take, Nat.min_eq_left sp.le]; exact sp.fe) fun k hk => ?_
    have h0 := (at0_qv hf k).mp (sp.lo k hk)
    have fe := sp.fe
    rw [List.getD_eq_getElem?_getD] at h0 ⊢
    rw [List.map_take, List.getElem?_take, if_pos (by omega)]
    exact h0
  · intro c
    have e0 := sp.no c
    rw [← hi, e0]
    rfl
theorem trimR_ev {fs : FrL} (hf : ∀ p ∈ fs, isFr p) (s : Int) {x : Rat} (hx : x ≠ 0) : ev (trimR s fs) x = x ^ s * pe fs x := by
  have sp := span_of fs
  unfold trimR cutR
  obtain ⟨h1, h2⟩ := span_pe hf sp x
  by_cases c : trimF fs (trimE fs fs.length) (trimE fs fs.length) = trimE fs fs.length
  · rw [if_pos c, h2 c, ev_eq]
    show x ^ (0 : Int) * 0 = _
    grind
  · rw [if_neg c, h1 c, ev_eq]
    show x ^ (s + ((trimF fs (trimE fs fs.length) (trimE fs fs.length) : Nat) : Int)) * _ = _
    rw [Rat.zpow_add hx, Rat.zpow_natCast]
    grind
theorem trimR_mem {fs : FrL} {s : Int} {p : Int × Int} (h : p ∈ (trimR s fs).2) : p ∈ fs := by
  unfold trimR cutR at h
  split at h
  · cases h
  · exact List.mem_of_mem_take (List.mem_of_mem_drop h)
theorem cut_getD {fs : FrL} {f e k : Nat} (h : f + k < e) : ((fs.take e).drop f).getD k (0, 1) = fs.getD (f + k) (0, 1) := by
  rw [List.getD_eq_getElem?_getD, List.getD_eq_getElem?_getD, List.getElem?_drop, List.getElem?_take, if_pos h]
theorem cut_len {fs : FrL} {f e : Nat} (h : e ≤ fs.length) : ((fs.take e).drop f).length = e - f := by
  rw [List.length_drop, List.length_take, Nat.min_eq_left h]
theorem trimR_can {fs : FrL} (hf : ∀ p ∈ fs, isFr p) (s : Int) : Can (trimR s fs) := by
  have sp := span_of fs
  have fe := sp.fe
  refine ⟨fun p hp => hf p (trimR_mem hp), ?_, ?_, ?_⟩
  · unfold trimR cutR
    split
    · intro _; rfl
    · rename_i c
      intro h
      have := congrArg List.length h
      rw [cut_len sp.le] at this
      simp only [List.length_nil] at this
      omega
  · unfold trimR cutR
    split
    · intro h; exact absurd rfl h
    · rename_i c
      intro _
      have := sp.bot c
      unfold at0 at this ⊢
      rw [cut_getD (by omega)]
      exact this
  · unfold trimR cutR
    split
    · intro h; exact absurd rfl h
    · rename_i c
      intro _
      have := sp.top (by omega)
      unfold at0 at this ⊢
      rw [cut_len sp.le, cut_getD (by omega)]
      have e : trimF fs (trimE fs fs.length) (trimE fs fs.length) + (trimE fs fs.length - trimF fs (trimE fs fs.length) (trimE fs fs.length) - 1) = trimE fs fs.length - 1 := by omega
      rw [e]
      exact this
theorem trimR_len (s : Int) (fs : FrL) : (trimR s fs).2.length ≤ fs.length := by
  have sp := span_of fs
  unfold trimR cutR
  split
  · exact Nat.zero_le _
  · rw [cut_len sp.le]; have := sp.le; omega
theorem trimR_pos (s : Int) (fs : FrL) : (trimR s fs).1.natAbs ≤ s.natAbs + fs.length := by
  have sp := span_of fs
  have le := sp.le
  have fe := sp.fe
  unfold trimR cutR
  split
  · exact Nat.zero_le _
  · show (s + ((trimF fs (trimE fs fs.length) (trimE fs fs.length) : Nat) : Int)).natAbs ≤ _
    omega
/-- a row's end stays within the list's -/
theorem trimR_end (s : Int) (fs : FrL) : (trimR s fs).2 ≠ [] → s ≤ (trimR s fs).1 ∧ (trimR s fs).1 + (trimR s fs).2.length ≤ s + fs.length := by
  have sp := span_of fs
  have le := sp.le
  have fe := sp.fe
  unfold trimR cutR
  split
  · intro h; exact absurd rfl h
  · intro _
    rw [cut_len sp.le]
    show s ≤ s + ((trimF fs (trimE fs fs.length) (trimE fs fs.length) : Nat) : Int) ∧ s + ((trimF fs (trimE fs fs.length) (trimE fs fs.length) : Nat) : Int) + _ ≤ _
    omega
structure Rw (b v l s : Nat) (r : Int × FrL) : Prop where
  can : Can r
  den : ∃ B : Nat, 0 < B ∧ B < 2 ^ b ∧ ∀ p ∈ r.2, p.2.natAbs ∣ B
  val : ∀ p ∈ r.2, p.1.natAbs < 2 ^ v * p.2.natAbs
  len : r.2.length ≤ l
  pos : r.1.natAbs ≤ s
theorem Rw.mono {b v l s b' v' l' s' : Nat} {r : Int × FrL} (h : Rw b v l s r) (hb : b ≤ b') (hv : v ≤ v') (hl : l ≤ l') (hs : s ≤ s') : Rw b' v' l' s' r := by
  obtain ⟨B, h1, h2, h3⟩ := h.den
  exact ⟨h.can, ⟨B, h1, Nat.lt_of_lt_of_le h2 (Nat.pow_le_pow_right (by decide) hb), h3⟩, fun p hp => Nat.lt_of_lt_of_le (h.val p hp) (Nat.mul_le_mul_right _ (Nat.pow_le_pow_right (by decide) hv)), Nat.le_trans h.len hl, Nat.le_trans h.pos hs⟩
theorem can_nil : Can (0, []) := ⟨fun p h => (by cases h), fun _ => rfl, fun h => absurd rfl h, fun h => absurd rfl h⟩
theorem Rw.Den {b v l s : Nat} {r : Int × FrL} (h : Rw b v l s r) (hs : b + v ≤ 1000) : ∃ B, Den B r.2 ∧ B < 2 ^ b := by
  obtain ⟨B, h1, h2, h3⟩ := h.den
  refine ⟨B, ⟨h1, Nat.lt_of_lt_of_le h2 (Nat.pow_le_pow_right (by decide) (by omega)), h.can.fr, h3, fun p hp => ?_⟩, h2⟩
  have a := h.val p hp
  have c : p.2.natAbs < 2 ^ b := Nat.lt_of_le_of_lt (Nat.le_of_dvd h1 (h3 p hp)) h2
  have d : 2 ^ v * p.2.natAbs ≤ 2 ^ v * 2 ^ b := Nat.mul_le_mul_left _ (Nat.le_of_lt c)
  rw [← Nat.pow_add] at d
  exact Nat.lt_of_lt_of_le (Nat.lt_of_lt_of_le a d) (Nat.pow_le_pow_right (by decide) (by omega))
theorem bot_pos {p : Int × Int} (h : isFr p) : 0 < p.2.natAbs := by have := h.1; omega
theorem ints_le {V b : Nat} {fs : FrL} (hf : ∀ p ∈ fs, isFr p) (hb : 0 < b) (hd : ∀ p ∈ fs, p.2.natAbs ∣ b) (hv : ∀ p ∈ fs, p.1.natAbs < V * p.2.natAbs) : ∀ z ∈ intsL b fs, z.natAbs ≤ V * b := by
  intro z hz
  unfold intsL at hz
  obtain ⟨p, hp, rfl⟩ := List.mem_map.mp hz
  obtain ⟨c, hc⟩ := hd p hp
  have p2 := bot_pos (hf p hp)
  have h1 := (hf p hp).1
  have e : ((b : Int) / p.2) = (c : Int) := by
    have : p.2 = ((p.2.natAbs : Nat) : Int) := by omega
    rw [this, hc, ← Int.natCast_ediv, Nat.mul_div_cancel_left _ p2]
  rw [e, Int.natAbs_mul, Int.natAbs_natCast, hc, ← Nat.mul_assoc]
  exact Nat.mul_le_mul_right _ (Nat.le_of_lt (hv p hp))
theorem termC_le {M N : Nat} {x : Int} {ys : List Int} (hx : x.natAbs ≤ M) (hy : ∀ y ∈ ys, y.natAbs ≤ N) (i k : Nat) : (termC x ys i k).natAbs ≤ M * N := by
  unfold termC
  split
  · by_cases h : k - i < ys.length
    · rw [Int.natAbs_mul]
      refine Nat.mul_le_mul hx ?_
      rw [List.getD_eq_getElem?_getD, List.getElem?_eq_getElem h]
      exact hy _ (List.getElem_mem h)
    · rw [getD_out (by omega)]; simp
  · simp
theorem pcf_le {M N : Nat} {xs ys : List Int} (hx : ∀ x ∈ xs, x.natAbs ≤ M) (hy : ∀ y ∈ ys, y.natAbs ≤ N) (k : Nat) : ∀ i : Nat, i ≤ xs.length → (pcf xs ys i k).natAbs ≤ i * (M * N)
  | 0, _ => by simp [pcf]
  | i + 1, h => by
    have ih := pcf_le hx hy k i (by omega)
    have hi : i < xs.length := by omega
    have t := termC_le (x := xs.getD i 0) (by rw [List.getD_eq_getElem?_getD, List.getElem?_eq_getElem hi]; exact hx _ (List.getElem_mem hi)) hy i k
    have e : (i + 1) * (M * N) = i * (M * N) + M * N := by rw [Nat.add_mul, Nat.one_mul]
    have n := Int.natAbs_add_le (pcf xs ys i k) (termC (xs.getD i 0) ys i k)
    show (pcf xs ys i k + termC (xs.getD i 0) ys i k).natAbs ≤ _
    rw [e]
    omega
theorem cv_le {M N : Nat} {xs ys : List Int} (hx : ∀ x ∈ xs, x.natAbs ≤ M) (hy : ∀ y ∈ ys, y.natAbs ≤ N) : ∀ z ∈ cvL xs ys, z.natAbs ≤ xs.length * (M * N) := by
  intro z hz
  unfold cvL oR at hz
  obtain ⟨k, _, rfl⟩ := List.mem_map.mp hz
  exact pcf_le hx hy k xs.length (Nat.le_refl _)
theorem redI_val {n m : Int} {V : Nat} (hm : 0 < m) (h : n.natAbs < V * m.natAbs) : (redI n m).1.natAbs < V * (redI n m).2.natAbs := by
  have hg := gcd_pos (n := n) hm
  have d1 := Nat.gcd_dvd_left n.natAbs m.natAbs
  have d2 := Nat.gcd_dvd_right n.natAbs m.natAbs
  have e1 : (redI n m).1.natAbs = n.natAbs / Nat.gcd n.natAbs m.natAbs := natAbs_div d1
  have e2 : (redI n m).2.natAbs = m.natAbs / Nat.gcd n.natAbs m.natAbs := natAbs_div d2
  rw [e1, e2]
  refine Nat.lt_of_mul_lt_mul_right (a := Nat.gcd n.natAbs m.natAbs) ?_
  rw [Nat.mul_assoc, Nat.div_mul_cancel d1, Nat.div_mul_cancel d2]
  exact h
theorem redI_dvd {n m : Int} : (redI n m).2.natAbs ∣ m.natAbs := by
  have d2 := Nat.gcd_dvd_right n.natAbs m.natAbs
  have e2 : (redI n m).2.natAbs = m.natAbs / Nat.gcd n.natAbs m.natAbs := natAbs_div d2
  rw [e2]
  exact Nat.div_dvd_of_dvd d2
theorem lcmL_pos0 {fs : FrL} (hf : ∀ p ∈ fs, isFr p) : 0 < lcmL fs := by
  unfold lcmL
  have : ∀ (fs : FrL) (b : Nat), 0 < b → (∀ p ∈ fs, isFr p) → 0 < fs.foldl (fun b p => Nat.lcm b p.2.natAbs) b := fun fs => by
    induction fs with
    | nil => intro b h _; exact h
    | cons p fs ih => intro b h hf; exact ih _ (Nat.lcm_pos h (bot_pos (hf p List.mem_cons_self))) fun q hq => hf q (List.mem_cons_of_mem _ hq)
  exact this fs 1 (by decide) hf
theorem mul_pos_cast {a b : Nat} (ha : 0 < a) (hb : 0 < b) : 0 < (a : Int) * (b : Int) := Int.mul_pos (by omega) (by omega)
theorem mulR_fr {x y : Int × FrL} (hx : ∀ p ∈ x.2, isFr p) (hy : ∀ p ∈ y.2, isFr p) : ∀ p ∈ (cvL (intsL (lcmL x.2) x.2) (intsL (lcmL y.2) y.2)).map fun n => redI n ((lcmL x.2 : Int) * (lcmL y.2 : Int)), isFr p := by
  intro p hp
  obtain ⟨n, _, rfl⟩ := List.mem_map.mp hp
  exact redI_fr (mul_pos_cast (lcmL_pos0 hx) (lcmL_pos0 hy))
theorem mulR_can {x y : Int × FrL} (cx : Can x) (cy : Can y) : Can (mulR x y) := by
  unfold mulR
  split
  · exact can_nil
  · exact trimR_can (mulR_fr cx.fr cy.fr) _
theorem mulR_ev {x y : Int × FrL} (cx : Can x) (cy : Can y) {t : Rat} (ht : t ≠ 0) : ev (mulR x y) t = ev x t * ev y t := by
  unfold mulR
  split
  · rename_i c
    rw [ev_nil rfl]
    rcases c with c | c
    · rw [ev_nil c]; grind
    · rw [ev_nil c]; grind
  · rename_i c
    have px := lcmL_pos0 cx.fr
    have py := lcmL_pos0 cy.fr
    have ny : 0 < (intsL (lcmL y.2) y.2).length := by
      rw [ints_len]
      exact List.length_pos_iff.mpr fun z => c (.inr z)
    rw [trimR_ev (mulR_fr cx.fr cy.fr) _ ht, Rat.zpow_add ht, ev_eq, ev_eq]
    have e := pe_red (zs := cvL (intsL (lcmL x.2) x.2) (intsL (lcmL y.2) y.2)) (mul_pos_cast px py) t
    rw [pz_cv t ny, pe_ints px x.2 t (fun p hp => (cx.fr p hp).1) (fun p hp => dvd_lcmL hp), pe_ints py y.2 t (fun p hp => (cy.fr p hp).1) (fun p hp => dvd_lcmL hp), Rat.intCast_mul, Rat.intCast_natCast, Rat.intCast_natCast] at e
    have z1 : ((lcmL x.2 : Nat) : Rat) ≠ 0 := fun c => by
      have := Rat.natCast_eq_zero_iff.mp c
      omega
    have z2 : ((lcmL y.2 : Nat) : Rat) ≠ 0 := fun c => by
      have := Rat.natCast_eq_zero_iff.mp c
      omega
    generalize pe ((cvL (intsL (lcmL x.2) x.2) (intsL (lcmL y.2) y.2)).map fun n => redI n ((lcmL x.2 : Int) * (lcmL y.2 : Int))) t = P at *
    have : P = pe x.2 t * pe y.2 t := by grind
    rw [this]
    grind
theorem Rw.mul {b v l s c w m t : Nat} {x y : Int × FrL} (hx : Rw b v l s x) (hy : Rw c w m t y) (hl : l ≤ 1000) : Rw (b + c) (v + w + 10) (l + m) (s + t + l + m) (mulR x y) := by
  refine ⟨mulR_can hx.can hy.can, ?_, ?_, ?_, ?_⟩
  · obtain ⟨B, h1, h2, h3⟩ := hx.den
    obtain ⟨C, k1, k2, k3⟩ := hy.den
    refine ⟨B * C, Nat.mul_pos h1 k1, by rw [Nat.pow_add]; exact Nat.mul_lt_mul'' h2 k2, fun p hp => ?_⟩
    unfold mulR at hp
    split at hp
    · cases hp
    · obtain ⟨n, _, rfl⟩ := List.mem_map.mp (trimR_mem hp)
      refine Nat.dvd_trans redI_dvd ?_
      rw [Int.natAbs_mul, Int.natAbs_natCast, Int.natAbs_natCast]
      exact Nat.mul_dvd_mul (lcmL_dvd h3) (lcmL_dvd k3)
  · intro p hp
    unfold mulR at hp
    split at hp
    · cases hp
    · obtain ⟨n, hn, rfl⟩ := List.mem_map.mp (trimR_mem hp)
      have px := lcmL_pos0 hx.can.fr
      have py := lcmL_pos0 hy.can.fr
      refine redI_val (mul_pos_cast px py) ?_
      have := cv_le (ints_le hx.can.fr px (fun p hp => dvd_lcmL hp) hx.val) (ints_le hy.can.fr py (fun p hp => dvd_lcmL hp) hy.val) n hn
      rw [ints_len] at this
      rw [Int.natAbs_mul, Int.natAbs_natCast, Int.natAbs_natCast]
      have e : 2 ^ (v + w + 10) * (lcmL x.2 * lcmL y.2) = 1024 * (2 ^ v * lcmL x.2 * (2 ^ w * lcmL y.2)) := by
        rw [Nat.pow_add, Nat.pow_add]
        simp only [Nat.reducePow]
        ac_rfl
      rw [e]
      have p0 : 0 < 2 ^ v * lcmL x.2 * (2 ^ w * lcmL y.2) := Nat.mul_pos (Nat.mul_pos (Nat.two_pow_pos _) px) (Nat.mul_pos (Nat.two_pow_pos _) py)
      generalize 2 ^ v * lcmL x.2 * (2 ^ w * lcmL y.2) = Z at *
      have l1 : x.2.length * Z ≤ 1000 * Z := Nat.mul_le_mul_right _ (Nat.le_trans hx.len hl)
      omega
  · unfold mulR
    split
    · exact Nat.zero_le _
    · refine Nat.le_trans (trimR_len _ _) ?_
      rw [List.length_map, show (cvL (intsL (lcmL x.2) x.2) (intsL (lcmL y.2) y.2)).length = _ from oR_len _ _ _, ints_len, ints_len]
      have := hx.len
      have := hy.len
      omega
  · unfold mulR
    split
    · exact Nat.zero_le _
    · refine Nat.le_trans (trimR_pos _ _) ?_
      rw [List.length_map, show (cvL (intsL (lcmL x.2) x.2) (intsL (lcmL y.2) y.2)).length = _ from oR_len _ _ _, ints_len, ints_len]
      have := hx.len
      have := hy.len
      have := hx.pos
      have := hy.pos
      omega
def wl : FrL → FrL
  | [] => []
  | [p] => [p]
  | p :: q :: ps => p :: (0, 1) :: wl (q :: ps)
def wideR (r : Int × FrL) : Int × FrL := (2 * r.1, wl r.2)
theorem wl_pe : ∀ (fs : FrL) (x : Rat), pe (wl fs) x = pe fs (x * x)
  | [], x => rfl
  | [p], x => by
    show qv p + x * 0 = qv p + x * x * 0
    grind
  | p :: q :: ps, x => by
    have ih := wl_pe (q :: ps) x
    show qv p + x * (qv (0, 1) + x * pe (wl (q :: ps)) x) = qv p + x * x * pe (q :: ps) (x * x)
    rw [ih, qv01]
    grind
theorem zpow_sq {x : Rat} (hx : x ≠ 0) (s : Int) : x ^ (2 * s) = (x * x) ^ s := by
  have key : ∀ n : Nat, x ^ (2 * (n : Int)) = (x * x) ^ (n : Int) := fun n => by
    have : (2 * (n : Int)) = ((n + n : Nat) : Int) := by omega
    rw [this, Rat.zpow_natCast, Rat.zpow_natCast, pow_add]
    induction n with
    | zero => simp
    | succ n ih => 
      have := ih (by omega)
      rw [Rat.pow_succ, Rat.pow_succ, ← this]
      grind
  have hxx : x * x ≠ 0 := fun c => by
    rcases Rat.mul_eq_zero.mp c with c | c <;> exact hx c
  rcases Int.le_total 0 s with h | h
  · obtain ⟨n, rfl⟩ := Int.eq_ofNat_of_zero_le h
    exact key n
  · obtain ⟨n, hn⟩ := Int.eq_ofNat_of_zero_le (show 0 ≤ -s by omega)
    have e : s = -(n : Int) := by omega
    subst e
    have k := key n
    have a1 := Rat.zpow_add hx (2 * -(n : Int)) (2 * (n : Int))
    have a2 := Rat.zpow_add hxx (-(n : Int)) (n : Int)
    rw [show 2 * -(n : Int) + 2 * (n : Int) = 0 by omega, Rat.zpow_zero, k] at a1
    rw [show -(n : Int) + (n : Int) = 0 by omega, Rat.zpow_zero] at a2
    have z := zpow_ne hxx (n : Int)
    grind
theorem wideR_ev (r : Int × FrL) {x : Rat} (hx : x ≠ 0) : ev (wideR r) x = ev r (x * x) := by
  rw [ev_eq, ev_eq]
  show x ^ (2 * r.1) * pe (wl r.2) x = _
  rw [wl_pe, zpow_sq hx]
theorem wl_mem : ∀ (fs : FrL) {p : Int × Int}, p ∈ wl fs → p = (0, 1) ∨ p ∈ fs
  | [], p, h => by cases h
  | [q], p, h => .inr h
  | a :: q :: ps, p, h => by
    rcases List.mem_cons.mp h with h | h
    · exact .inr (by rw [h]; exact List.mem_cons_self)
    · rcases List.mem_cons.mp h with h | h
      · exact .inl h
      · rcases wl_mem (q :: ps) h with h | h
        · exact .inl h
        · exact .inr (List.mem_cons_of_mem _ h)
theorem wl_len : ∀ fs : FrL, (wl fs).length = 2 * fs.length - 1
  | [] => rfl
  | [p] => rfl
  | p :: q :: ps => by
    have ih := wl_len (q :: ps)
    show (wl (q :: ps)).length + 1 + 1 = 2 * (ps.length + 1 + 1) - 1
    rw [ih]
    show 2 * (ps.length + 1) - 1 + 1 + 1 = _
    omega
theorem wl_head (p : Int × Int) (fs : FrL) : (wl (p :: fs)).getD 0 (0, 1) = p := by
  cases fs <;> rfl
theorem wl_last : ∀ fs : FrL, fs ≠ [] → (wl fs).getD (2 * fs.length - 1 - 1) (0, 1) = fs.getD (fs.length - 1) (0, 1)
  | [], h => absurd rfl h
  | [p], _ => rfl
  | p :: q :: ps, _ => by
    have ih := wl_last (q :: ps) (by simp)
    show (p :: (0, 1) :: wl (q :: ps)).getD (2 * (ps.length + 1 + 1) - 1 - 1) (0, 1) = (p :: q :: ps).getD (ps.length + 1 + 1 - 1) (0, 1)
    have e1 : 2 * (ps.length + 1 + 1) - 1 - 1 = (2 * (ps.length + 1) - 1 - 1) + 1 + 1 := by omega
    have e2 : ps.length + 1 + 1 - 1 = (ps.length + 1 - 1) + 1 := by omega
    rw [e1, e2, List.getD_cons_succ, List.getD_cons_succ, List.getD_cons_succ]
    exact ih
theorem wideR_can {r : Int × FrL} (c : Can r) : Can (wideR r) := by
  obtain ⟨s, fs⟩ := r
  cases fs with
  | nil =>
    have := c.nul rfl
    simp only at this
    subst this
    exact can_nil
  | cons p fs =>
    refine ⟨fun q hq => ?_, fun h => ?_, fun _ => ?_, fun _ => ?_⟩
    · rcases wl_mem _ hq with h | h
      · rw [h]; exact ⟨by decide, by decide⟩
      · exact c.fr q h
    · have := congrArg List.length (show wl (p :: fs) = [] from h)
      rw [wl_len] at this
      simp at this
      omega
    · have := c.lo (by simp)
      unfold at0 at this ⊢
      show ¬ ((wl (p :: fs)).getD 0 (0, 1)).1 = 0
      rw [wl_head]
      exact this
    · have := c.hi (by simp)
      unfold at0 at this ⊢
      show ¬ ((wl (p :: fs)).getD ((wl (p :: fs)).length - 1) (0, 1)).1 = 0
      rw [wl_len, wl_last _ (by simp)]
      exact this
theorem Rw.wide {b v l s : Nat} {r : Int × FrL} (h : Rw b v l s r) : Rw b v (2 * l) (2 * s) (wideR r) := by
  obtain ⟨B, h1, h2, h3⟩ := h.den
  refine ⟨wideR_can h.can, ⟨B, h1, h2, fun p hp => ?_⟩, fun p hp => ?_, ?_, ?_⟩
  · rcases wl_mem _ hp with e | e
    · rw [e]; exact Nat.one_dvd _
    · exact h3 p e
  · rcases wl_mem _ hp with e | e
    · rw [e]; show 0 < 2 ^ v * 1; have := Nat.two_pow_pos v; omega
    · exact h.val p e
  · show (wl r.2).length ≤ _
    rw [wl_len]
    have := h.len
    omega
  · show (2 * r.1).natAbs ≤ _
    have := h.pos
    omega
end BS
set_option exponentiation.threshold 20000
namespace BS
def atR (r : Int × FrL) (k : Int) : Int × Int := if 0 ≤ k - r.1 ∧ k - r.1 < r.2.length then r.2.getD (k - r.1).toNat (0, 1) else (0, 1)
def lowA (x y : Int × FrL) : Int := if y.1 < x.1 then y.1 else x.1
def farA (x y : Int × FrL) : Int := if x.1 + x.2.length < y.1 + y.2.length then y.1 + y.2.length else x.1 + x.2.length
def addR (x y : Int × FrL) : Int × FrL :=
  if y.2 = [] then x else if x.2 = [] then y else trimR (lowA x y) ((List.range (farA x y - lowA x y).toNat).map fun (i : Nat) => addP (atR x (lowA x y + i)) (atR y (lowA x y + i)))
theorem atR_fr {r : Int × FrL} (h : ∀ p ∈ r.2, isFr p) (k : Int) : isFr (atR r k) := by
  unfold atR
  split
  · exact getD_fr h _
  · exact ⟨by decide, by decide⟩
theorem pq_fn (f : Nat → Rat) (L : Nat) (x : Rat) : pq ((List.range (L + 1)).map f) x = pq ((List.range L).map f) x + f L * x ^ L := by
  rw [List.range_succ, List.map_append, pq_append]
  simp only [List.map_cons, List.map_nil, pq, List.length_map, List.length_range]
  grind
theorem pq_addf (f g : Nat → Rat) (x : Rat) : ∀ L : Nat, pq ((List.range L).map fun k => f k + g k) x = pq ((List.range L).map f) x + pq ((List.range L).map g) x
  | 0 => by show (0 : Rat) = 0 + 0; grind
  | L + 1 => by
    rw [pq_fn, pq_fn, pq_fn, pq_addf f g x L]
    grind
theorem pq_congr {f g : Nat → Rat} {L : Nat} (h : ∀ k, k < L → f k = g k) (x : Rat) : pq ((List.range L).map f) x = pq ((List.range L).map g) x := by
  congr 1
  exact List.map_congr_left fun k hk => h k (List.mem_range.mp hk)
theorem pq_getD (as : List Rat) (x : Rat) : ∀ d : Nat, pq ((List.range (as.length + d)).map fun k => as.getD k 0) x = pq as x
  | 0 => by
    congr 1
    refine List.ext_getElem? fun k => ?_
    rw [Nat.add_zero, List.getElem?_map]
    by_cases h : k < as.length
    · rw [List.getElem?_range h, List.getElem?_eq_getElem h, Option.map_some, List.getD_eq_getElem?_getD, List.getElem?_eq_getElem h]; rfl
    · rw [List.getElem?_eq_none (by simpa using h), List.getElem?_eq_none (by omega)]; rfl
  | d + 1 => by
    rw [← Nat.add_assoc, pq_fn, pq_getD as x d, List.getD_eq_getElem?_getD, List.getElem?_eq_none (by omega)]
    show _ + (0 : Rat) * _ = _
    grind
theorem pq_shift (as : List Rat) (n d : Nat) (x : Rat) : pq ((List.range (n + (as.length + d))).map fun k => if n ≤ k then as.getD (k - n) 0 else 0) x = x ^ n * pq as x := by
  rw [← pq_zeros as x n, ← pq_getD (List.replicate n 0 ++ as) x d]
  rw [List.length_append, List.length_replicate, Nat.add_assoc]
  refine pq_congr (fun k _ => ?_) x
  rw [List.getD_eq_getElem?_getD, List.getD_eq_getElem?_getD]
  by_cases h : n ≤ k
  · rw [if_pos h, List.getElem?_append_right (by simpa using h), List.length_replicate]
  · rw [if_neg h, List.getElem?_append_left (by simp; omega), List.getElem?_replicate, if_pos (by omega)]
    rfl
theorem atR_ev (r : Int × FrL) {a : Int} {L : Nat} (h1 : a ≤ r.1) (h2 : r.1 + r.2.length ≤ a + L) {x : Rat} (hx : x ≠ 0) : x ^ a * pq ((List.range L).map fun (i : Nat) => qv (atR r (a + i))) x = ev r x := by
  obtain ⟨n, hn⟩ := Int.eq_ofNat_of_zero_le (show 0 ≤ r.1 - a by omega)
  obtain ⟨d, hd⟩ : ∃ d : Nat, L = n + (r.2.length + d) := ⟨L - (n + r.2.length), by omega⟩
  have e1 : pq ((List.range L).map fun (i : Nat) => qv (atR r (a + i))) x = pq ((List.range L).map fun k => if n ≤ k then (r.2.map qv).getD (k - n) 0 else 0) x := by
    refine pq_congr (fun k _ => ?_) x
    unfold atR
    by_cases h : n ≤ k
    · rw [if_pos h, getD_qv]
      by_cases h3 : 0 ≤ a + (k : Int) - r.1 ∧ a + (k : Int) - r.1 < r.2.length
      · rw [if_pos h3, show (a + (k : Int) - r.1).toNat = k - n by omega]
      · rw [if_neg h3, List.getD_eq_getElem?_getD, List.getElem?_eq_none (by omega)]
        rfl
    · rw [if_neg h, if_neg (by omega), qv01]
  have e2 := pq_shift (r.2.map qv) n d x
  rw [List.length_map, ← hd] at e2
  rw [e1, e2, ev_eq]
  have e3 : r.1 = a + (n : Int) := by omega
  rw [e3, Rat.zpow_add hx, Rat.zpow_natCast]
  show x ^ a * (x ^ n * pe r.2 x) = _
  grind
theorem addR_fr {x y : Int × FrL} (cx : Can x) (cy : Can y) : ∀ p ∈ (List.range (farA x y - lowA x y).toNat).map fun (i : Nat) => addP (atR x (lowA x y + i)) (atR y (lowA x y + i)), isFr p := by
  intro p hp
  obtain ⟨i, _, rfl⟩ := List.mem_map.mp hp
  exact addP_fr (atR_fr cx.fr _).1 (atR_fr cy.fr _).1
theorem addR_can {x y : Int × FrL} (cx : Can x) (cy : Can y) : Can (addR x y) := by
  unfold addR
  split
  · exact cx
  · split
    · exact cy
    · exact trimR_can (addR_fr cx cy) _
theorem low_far (x y : Int × FrL) : lowA x y ≤ x.1 ∧ lowA x y ≤ y.1 ∧ x.1 + x.2.length ≤ farA x y ∧ y.1 + y.2.length ≤ farA x y ∧ (lowA x y = x.1 ∨ lowA x y = y.1) ∧ (farA x y = x.1 + x.2.length ∨ farA x y = y.1 + y.2.length) := by
  unfold lowA farA
  split <;> split <;> omega
theorem addR_ev {x y : Int × FrL} (cx : Can x) (cy : Can y) {t : Rat} (ht : t ≠ 0) : ev (addR x y) t = ev x t + ev y t := by
  unfold addR
  split
  · rename_i c
    rw [ev_nil c]; grind
  · split
    · rename_i c
      rw [ev_nil c]; grind
    · obtain ⟨h1, h2, h3, h4, _, _⟩ := low_far x y
      rw [trimR_ev (addR_fr cx cy) _ ht]
      have e : pe ((List.range (farA x y - lowA x y).toNat).map fun (i : Nat) => addP (atR x (lowA x y + i)) (atR y (lowA x y + i))) t = pq ((List.range (farA x y - lowA x y).toNat).map fun (i : Nat) => qv (atR x (lowA x y + i)) + qv (atR y (lowA x y + i))) t := by
        unfold pe
        rw [List.map_map]
        refine pq_congr (fun k _ => ?_) t
        exact qv_add (atR_fr cx.fr _).1 (atR_fr cy.fr _).1
      rw [e, pq_addf, ← atR_ev x (a := lowA x y) (L := (farA x y - lowA x y).toNat) h1 (by omega) ht, ← atR_ev y (a := lowA x y) (L := (farA x y - lowA x y).toNat) h2 (by omega) ht]
      grind
theorem atR_mem (r : Int × FrL) (k : Int) : atR r k = (0, 1) ∨ atR r k ∈ r.2 := by
  unfold atR
  split
  · rename_i h
    rw [List.getD_eq_getElem?_getD]
    by_cases hk : (k - r.1).toNat < r.2.length
    · rw [List.getElem?_eq_getElem hk]; exact .inr (List.getElem_mem hk)
    · rw [List.getElem?_eq_none (by omega)]; exact .inl rfl
  · exact .inl rfl
theorem addP_val {p r : Int × Int} {V W : Nat} (hp : isFr p) (hr : isFr r) (h1 : p.1.natAbs < V * p.2.natAbs) (h2 : r.1.natAbs < W * r.2.natAbs) : (addP p r).1.natAbs < (V + W) * (addP p r).2.natAbs := by
  unfold addP
  refine redI_val (Int.mul_pos hp.1 hr.1) ?_
  have a := Int.natAbs_add_le (p.1 * r.2) (r.1 * p.2)
  have b1 : (p.1 * r.2).natAbs < V * p.2.natAbs * r.2.natAbs := by
    rw [Int.natAbs_mul]
    exact Nat.mul_lt_mul_of_pos_right h1 (bot_pos hr)
  have b2 : (r.1 * p.2).natAbs < W * r.2.natAbs * p.2.natAbs := by
    rw [Int.natAbs_mul]
    exact Nat.mul_lt_mul_of_pos_right h2 (bot_pos hp)
  have e : (V + W) * (p.2 * r.2).natAbs = V * p.2.natAbs * r.2.natAbs + W * r.2.natAbs * p.2.natAbs := by
    rw [Int.natAbs_mul, Nat.add_mul]
    congr 1
    · rw [Nat.mul_assoc]
    · rw [Nat.mul_assoc, Nat.mul_comm p.2.natAbs]
  rw [e]
  omega
theorem addP_dvd {p r : Int × Int} : (addP p r).2.natAbs ∣ p.2.natAbs * r.2.natAbs := by
  unfold addP
  refine Nat.dvd_trans redI_dvd ?_
  rw [Int.natAbs_mul]
  exact Nat.dvd_refl _
theorem pow_two_add {v w : Nat} : 2 ^ v + 2 ^ w ≤ 2 ^ (v + w + 1) := by
  have h1 : 2 ^ v ≤ 2 ^ (v + w) := Nat.pow_le_pow_right (by decide) (by omega)
  have h2 : 2 ^ w ≤ 2 ^ (v + w) := Nat.pow_le_pow_right (by decide) (by omega)
  rw [Nat.pow_succ]
  omega
theorem Rw.atv {b v l s : Nat} {r : Int × FrL} (h : Rw b v l s r) (k : Int) : (atR r k).1.natAbs < 2 ^ v * (atR r k).2.natAbs := by
  rcases atR_mem r k with e | e
  · rw [e]; show 0 < 2 ^ v * 1; have := Nat.two_pow_pos v; omega
  · exact h.val _ e
theorem Rw.add {b v l s c w m t : Nat} {x y : Int × FrL} (hx : Rw b v l s x) (hy : Rw c w m t y) : Rw (b + c) (v + w + 1) (s + t + l + m) (s + t + l + m) (addR x y) := by
  unfold addR
  split
  · exact hx.mono (by omega) (by omega) (by omega) (by omega)
  · split
    · exact hy.mono (by omega) (by omega) (by omega) (by omega)
    · rename_i n1 n2
      obtain ⟨h1, h2, h3, h4, h5, h6⟩ := low_far x y
      have fr := addR_fr hx.can hy.can
      have p1 := hx.pos
      have p2 := hy.pos
      have l1 := hx.len
      have l2 := hy.len
      obtain ⟨B, b1, b2, b3⟩ := hx.den
      obtain ⟨C, c1, c2, c3⟩ := hy.den
      refine ⟨trimR_can fr _, ⟨B * C, Nat.mul_pos b1 c1, by rw [Nat.pow_add]; exact Nat.mul_lt_mul'' b2 c2, fun p hp => ?_⟩, fun p hp => ?_, ?_, ?_⟩
      · obtain ⟨i, _, rfl⟩ := List.mem_map.mp (trimR_mem hp)
        refine Nat.dvd_trans addP_dvd (Nat.mul_dvd_mul ?_ ?_)
        · rcases atR_mem x (lowA x y + i) with e | e
          · rw [e]; exact Nat.one_dvd _
          · exact b3 _ e
        · rcases atR_mem y (lowA x y + i) with e | e
          · rw [e]; exact Nat.one_dvd _
          · exact c3 _ e
      · obtain ⟨i, _, rfl⟩ := List.mem_map.mp (trimR_mem hp)
        exact Nat.lt_of_lt_of_le (addP_val (atR_fr hx.can.fr _) (atR_fr hy.can.fr _) (hx.atv _) (hy.atv _)) (Nat.mul_le_mul_right _ pow_two_add)
      · refine Nat.le_trans (trimR_len _ _) ?_
        rw [List.length_map, List.length_range]
        omega
      · by_cases n : (trimR (lowA x y) ((List.range (farA x y - lowA x y).toNat).map fun (i : Nat) => addP (atR x (lowA x y + i)) (atR y (lowA x y + i)))).2 = []
        · rw [(trimR_can fr _).nul n]; exact Nat.zero_le _
        · obtain ⟨e1, e2⟩ := trimR_end _ _ n
          rw [List.length_map, List.length_range] at e2
          have := List.length_pos_iff.mpr n
          omega
end BS
set_option exponentiation.threshold 20000
namespace BS
def cf (r : Int × FrL) (k : Int) : Rat := qv (atR r k)
/-- nothing but noughts outside of L places from a on -/
def Sup (g : Int → Rat) (a : Int) (L : Nat) : Prop := ∀ k, k < a ∨ a + L ≤ k → g k = 0
def ser (g : Int → Rat) (a : Int) (L : Nat) (x : Rat) : Rat := x ^ a * pq ((List.range L).map fun (i : Nat) => g (a + i)) x
theorem cf_sup (r : Int × FrL) : Sup (cf r) r.1 r.2.length := fun k hk => by
  unfold cf atR
  rw [if_neg (by omega)]
  exact qv01
theorem Sup.mono {g : Int → Rat} {a a' : Int} {L L' : Nat} (h : Sup g a L) (h1 : a' ≤ a) (h2 : a + L ≤ a' + L') : Sup g a' L' := fun k hk => h k (by omega)
theorem ev_ser {r : Int × FrL} {a : Int} {L : Nat} (h1 : a ≤ r.1) (h2 : r.1 + r.2.length ≤ a + L) {x : Rat} (hx : x ≠ 0) : ser (cf r) a L x = ev r x := atR_ev r h1 h2 hx
theorem ser_succ (g : Int → Rat) (a : Int) (L : Nat) {x : Rat} (hx : x ≠ 0) : ser g a (L + 1) x = ser g a L x + g (a + L) * x ^ (a + L) := by
  unfold ser
  rw [pq_fn, Rat.zpow_add hx, Rat.zpow_natCast]
  grind
theorem ser_congr {g h : Int → Rat} {a : Int} {L : Nat} (e : ∀ k, a ≤ k → k < a + L → g k = h k) (x : Rat) : ser g a L x = ser h a L x := by
  unfold ser
  congr 1
  exact pq_congr (fun k hk => e _ (by omega) (by omega)) x
theorem ser_zero {g : Int → Rat} (x : Rat) (a : Int) : ∀ L : Nat, (∀ k, a ≤ k → k < a + L → g k = 0) → ser g a L x = 0
  | 0, _ => by unfold ser; show x ^ a * 0 = 0; grind
  | L + 1, h => by
    unfold ser
    rw [pq_fn, h _ (by omega) (by omega)]
    have := ser_zero x a L fun k h1 h2 => h k h1 (by omega)
    unfold ser at this
    grind
/-- places ahead may be taken along -/
theorem ser_ahead {g : Int → Rat} {a : Int} {x : Rat} (hx : x ≠ 0) (L : Nat) : ∀ n : Nat, (∀ k, a - n ≤ k → k < a → g k = 0) → ser g (a - n) (n + L) x = ser g a L x
  | 0, _ => by simp
  | n + 1, h => by
    have ih := ser_ahead hx L n fun k h1 h2 => h k (by omega) h2
    rw [← ih]
    unfold ser
    have e : (List.range (n + 1 + L)).map (fun (i : Nat) => g (a - ((n + 1 : Nat) : Int) + i)) = g (a - ((n + 1 : Nat) : Int)) :: (List.range (n + L)).map fun (i : Nat) => g (a - (n : Nat) + i) := by
      rw [show n + 1 + L = (n + L) + 1 by omega, List.range_succ_eq_map, List.map_cons, List.map_map]
      congr 1
      · simp
      · refine List.map_congr_left fun i _ => ?_
        show g (a - ((n + 1 : Nat) : Int) + ((i + 1 : Nat) : Int)) = _
        congr 1
        omega
    rw [e, h _ (by omega) (by omega)]
    show x ^ (a - ((n + 1 : Nat) : Int)) * (0 + x * pq _ x) = _
    have z : x ^ (a - (n : Nat)) = x ^ (a - ((n + 1 : Nat) : Int)) * x := by
      rw [show a - ((n : Nat) : Int) = (a - ((n + 1 : Nat) : Int)) + 1 by omega, Rat.zpow_add hx, Rat.zpow_one]
    rw [z]
    grind
theorem ser_behind {g : Int → Rat} {a : Int} {x : Rat} (hx : x ≠ 0) (L : Nat) : ∀ d : Nat, (∀ k, a + L ≤ k → k < a + L + d → g k = 0) → ser g a (L + d) x = ser g a L x
  | 0, _ => rfl
  | d + 1, h => by
    rw [← Nat.add_assoc, ser_succ _ _ _ hx, ser_behind hx L d fun k h1 h2 => h k h1 (by omega), h _ (by omega) (by omega)]
    grind
theorem ser_more {g : Int → Rat} {a a' : Int} {L L' : Nat} (s : Sup g a L) (h1 : a' ≤ a) (h2 : a + L ≤ a' + L') {x : Rat} (hx : x ≠ 0) : ser g a' L' x = ser g a L x := by
  obtain ⟨n, hn⟩ := Int.eq_ofNat_of_zero_le (show 0 ≤ a - a' by omega)
  obtain ⟨d, rfl⟩ : ∃ d, L' = n + (L + d) := ⟨L' - n - L, by omega⟩
  have e : a' = a - (n : Nat) := by omega
  subst e
  rw [ser_ahead hx _ n fun k _ h => s k (by omega), ser_behind hx L d fun k h _ => s k (by omega)]
theorem ser_inj {g h : Int → Rat} {a : Int} {L : Nat} (sg : Sup g a L) (sh : Sup h a L) (e : ∀ x : Rat, x ≠ 0 → ser g a L x = ser h a L x) (k : Int) : g k = h k := by
  by_cases c : a ≤ k ∧ k < a + L
  · obtain ⟨n, hn⟩ := Int.eq_ofNat_of_zero_le (show 0 ≤ k - a by omega)
    have hl : n < L := by omega
    have p : ∀ x : Rat, x ≠ 0 → pq ((List.range L).map fun (i : Nat) => g (a + i)) x = pq ((List.range L).map fun (i : Nat) => h (a + i)) x := fun x hx => by
      have := e x hx
      unfold ser at this
      have z := zpow_ne hx a
      have q : x ^ a * (pq ((List.range L).map fun (i : Nat) => g (a + i)) x - pq ((List.range L).map fun (i : Nat) => h (a + i)) x) = 0 := by grind
      rcases Rat.mul_eq_zero.mp q with q | q
      · exact absurd q z
      · grind
    have := pq_inj p n
    rw [List.getD_eq_getElem?_getD, List.getD_eq_getElem?_getD, List.getElem?_map, List.getElem?_map, List.getElem?_range hl] at this
    have ek : k = a + (n : Nat) := by omega
    rw [ek]
    exact this
  · rw [sg k (by omega), sh k (by omega)]
/-- a row's numbers, told by its values -/
theorem cf_of {r : Int × FrL} {g : Int → Rat} {a : Int} {L : Nat} (s : Sup g a L) (e : ∀ x : Rat, x ≠ 0 → ev r x = ser g a L x) (k : Int) : cf r k = g k := by
  have h1 : ∀ M : Int, ∀ N : Nat, M ≤ r.1 → M ≤ a → r.1 + r.2.length ≤ M + N → a + L ≤ M + N → cf r k = g k := fun M N m1 m2 n1 n2 => by
    refine ser_inj ((cf_sup r).mono m1 n1) (s.mono m2 n2) (fun x hx => ?_) k
    rw [ev_ser m1 n1 hx, e x hx, ser_more s m2 n2 hx]
  exact h1 (min r.1 a) (r.1.natAbs + a.natAbs + r.2.length + L + (min r.1 a).natAbs) (by omega) (by omega) (by omega) (by omega)
theorem Can.ext {r t : Int × FrL} (c : Can r) (d : Can t) (h : ∀ k, cf r k = cf t k) : r = t := by
  refine c.uniq d fun x hx => ?_
  have m1 : min r.1 t.1 ≤ r.1 := by omega
  have m2 : min r.1 t.1 ≤ t.1 := by omega
  have N : ∃ N : Nat, r.1 + r.2.length ≤ min r.1 t.1 + N ∧ t.1 + t.2.length ≤ min r.1 t.1 + N := ⟨r.1.natAbs + t.1.natAbs + r.2.length + t.2.length + (min r.1 t.1).natAbs, by omega, by omega⟩
  obtain ⟨N, n1, n2⟩ := N
  rw [← ev_ser m1 n1 hx, ← ev_ser m2 n2 hx]
  exact ser_congr (fun k _ _ => h k) x
theorem ser_add (g h : Int → Rat) (a : Int) (L : Nat) (x : Rat) : ser (fun k => g k + h k) a L x = ser g a L x + ser h a L x := by
  unfold ser
  rw [pq_addf (fun i => g (a + (i : Nat))) (fun i => h (a + (i : Nat))) x L]
  grind
theorem ser_mulc (c : Rat) (g : Int → Rat) (a : Int) (L : Nat) (x : Rat) : ser (fun k => c * g k) a L x = c * ser g a L x := by
  unfold ser
  have e : (List.range L).map (fun (i : Nat) => c * g (a + i)) = ((List.range L).map fun (i : Nat) => g (a + i)).map fun z => c * z := by rw [List.map_map]; rfl
  rw [e, pq_mul]
  grind
theorem cf_add {x y : Int × FrL} (cx : Can x) (cy : Can y) (k : Int) : cf (addR x y) k = cf x k + cf y k := by
  have N : ∃ N : Nat, x.1 + x.2.length ≤ min x.1 y.1 + N ∧ y.1 + y.2.length ≤ min x.1 y.1 + N := ⟨x.1.natAbs + y.1.natAbs + x.2.length + y.2.length + (min x.1 y.1).natAbs, by omega, by omega⟩
  obtain ⟨N, n1, n2⟩ := N
  have s1 := (cf_sup x).mono (a' := min x.1 y.1) (by omega) n1
  have s2 := (cf_sup y).mono (a' := min x.1 y.1) (by omega) n2
  refine cf_of (g := fun k => cf x k + cf y k) (a := min x.1 y.1) (L := N) (fun k hk => by show cf x k + cf y k = 0; rw [s1 k hk, s2 k hk]; grind) (fun t ht => ?_) k
  rw [addR_ev cx cy ht, ser_add, ev_ser (by omega) n1 ht, ev_ser (by omega) n2 ht]
/-- sum of f below n -/
def sm (f : Nat → Rat) : Nat → Rat
  | 0 => 0
  | n + 1 => sm f n + f n
theorem sm_congr {f g : Nat → Rat} : ∀ n : Nat, (∀ i, i < n → f i = g i) → sm f n = sm g n
  | 0, _ => rfl
  | n + 1, h => by unfold sm; rw [sm_congr n fun i hi => h i (by omega), h n (by omega)]
theorem sm_add (f g : Nat → Rat) : ∀ n : Nat, sm (fun i => f i + g i) n = sm f n + sm g n
  | 0 => by show (0 : Rat) = 0 + 0; grind
  | n + 1 => by unfold sm; rw [sm_add f g n]; grind
theorem sm_zero {f : Nat → Rat} : ∀ n : Nat, (∀ i, i < n → f i = 0) → sm f n = 0
  | 0, _ => rfl
  | n + 1, h => by unfold sm; rw [sm_zero n fun i hi => h i (by omega), h n (by omega)]; grind
theorem cf_trim {fs : FrL} (hf : ∀ p ∈ fs, isFr p) (s k : Int) : cf (trimR s fs) k = if 0 ≤ k - s ∧ k - s < fs.length then qv (fs.getD (k - s).toNat (0, 1)) else 0 := by
  refine cf_of (g := fun k => if 0 ≤ k - s ∧ k - s < fs.length then qv (fs.getD (k - s).toNat (0, 1)) else 0) (a := s) (L := fs.length) (fun k hk => by show (if _ then _ else _) = _; rw [if_neg (by omega)]) (fun t ht => ?_) k
  rw [trimR_ev hf s ht]
  unfold ser pe
  have := pq_getD (fs.map qv) t 0
  rw [List.length_map, Nat.add_zero] at this
  rw [← this]
  congr 1
  refine pq_congr (fun i hi => ?_) t
  show _ = if 0 ≤ s + (i : Nat) - s ∧ s + (i : Nat) - s < fs.length then qv (fs.getD (s + (i : Nat) - s).toNat (0, 1)) else 0
  rw [if_pos (by omega), getD_qv, show (s + ((i : Nat) : Int) - s).toNat = i by omega]
end BS
set_option exponentiation.threshold 20000
namespace BS
open PySem PySem.Spec PyProof.Rows L2 DL
theorem Bd.le {a b : Nat} {xs : List Int} (h : Bd a xs) (l : a ≤ b) : Bd b xs := fun x hx => Nat.lt_of_lt_of_le (h x hx) (Nat.pow_le_pow_right (by decide) l)
theorem iLst_of {f : EF} {ρ : Sl} {μ μ' : Sto} {n : Nat} {ds : List D} (h : f ρ μ = some (.loc n, μ')) (l : μ'[n]? = some (.lst ds)) : iLst f ρ μ = some (.lst n, μ') := by
  unfold iLst
  rw [h, Option.bind_some]
  simp only [lst_loc l, Option.isSome_some, if_true]
end BS
set_option exponentiation.threshold 20000
namespace BS
open PySem PySem.Spec PyProof.Rows L2 DL
end BS
set_option exponentiation.threshold 20000
namespace BS
open PySem PySem.Spec PyProof.Rows L2 DL
theorem atI_last {α : Type} {xs : List α} (h : xs ≠ []) : atI xs (-1) = xs[xs.length - 1]? := by
  have hp : 0 < xs.length := List.length_pos_iff.mpr h
  unfold atI ixN
  rw [if_neg (by decide), if_pos (by omega)]
  rw [Option.bind_some]
  congr 1
  omega
end BS
set_option exponentiation.threshold 20000
namespace BS
open PySem PySem.Spec PyProof.Rows L2 DL
def sprN : Nat → (Int × FrL) → Int × FrL
  | 0, r => r
  | n + 1, r => wideR (sprN n r)
theorem sprN_rw {b v l s : Nat} {r : Int × FrL} (h : Rw b v l s r) : ∀ n : Nat, Rw b v (2 ^ n * l) (2 ^ n * s) (sprN n r)
  | 0 => by simpa [sprN] using h
  | n + 1 => by
    have := (sprN_rw h n).wide
    rw [Nat.pow_succ, show 2 ^ n * 2 * l = 2 * (2 ^ n * l) by rw [Nat.mul_comm (2 ^ n) 2, Nat.mul_assoc], show 2 ^ n * 2 * s = 2 * (2 ^ n * s) by rw [Nat.mul_comm (2 ^ n) 2, Nat.mul_assoc]]
    exact this
end BS
set_option exponentiation.threshold 20000
namespace BS
open PySem PySem.Spec PyProof.Rows L2 DL
theorem Gr.kp {n : Nat} {μ μ' : Sto} (g : Gr μ μ') : Kp n μ μ' := by obtain ⟨m, rfl⟩ := g; exact Kp.app
theorem W.gr {μ μ' : Sto} {n k : Nat} (w : W μ n k) (g : Gr μ μ') : W μ' n k := by obtain ⟨m, rfl⟩ := g; exact w.app
theorem W.lt {μ : Sto} {n k : Nat} (w : W μ n k) : n < μ.length := by
  obtain ⟨a, b, c, h, _⟩ := w
  exact (List.getElem?_eq_some_iff.mp h).1
theorem W.set {μ : Sto} {n k t : Nat} {o : Ob} (w : W μ n k) (h : t ≠ n) : W (μ.set t o) n k := by
  obtain ⟨a, b, c, e, r⟩ := w
  exact ⟨a, b, c, by rw [List.getElem?_set_ne h]; exact e, r⟩
theorem Kp.set_out {n t : Nat} {μ μ' : Sto} {o : Ob} (kp : Kp n μ μ') (h : μ.length ≤ t) : Kp n μ (μ'.set t o) := by
  refine ⟨by rw [List.length_set]; exact kp.len, fun m o' hm e => ?_⟩
  have hl := (List.getElem?_eq_some_iff.mp e).1
  rw [List.getElem?_set_ne (by omega)]
  exact kp.at_ m o' hm e
structure Dr (p : Int × Int) : Prop where
  fr : isFr p
  dv : p.2.natAbs ∣ 60
  vl : p.1.natAbs < 2 ^ 6 * p.2.natAbs
theorem red_nz {n m : Int} (hm : 0 < m) (hn : n ≠ 0) : (redI n m).1 ≠ 0 := by
  intro c
  have e := qv_red (n := n) hm
  have z := (qv_zero (redI_fr (n := n) hm).1).mpr c
  rw [z] at e
  have e2 := (div_eq (cast_ne hm)).mp e.symm
  rw [Rat.zero_mul] at e2
  exact hn (Rat.intCast_eq_zero_iff.mp e2)
end BS
set_option exponentiation.threshold 20000
namespace BS
open PySem PySem.Spec PyProof.Rows L2 DL
structure DrL (fs : FrL) : Prop where
  dr : ∀ p ∈ fs, Dr p
  lo : (fs.getD 0 (0, 1)).1 ≠ 0
theorem DrL.ne {fs : FrL} (h : DrL fs) : fs ≠ [] := fun z => h.lo (by rw [z]; rfl)
theorem DrL.rw {fs : FrL} {s : Int} {l : Nat} (h : DrL fs) (hi : (fs.getD (fs.length - 1) (0, 1)).1 ≠ 0) (hs : s.natAbs ≤ 3) (hl : fs.length ≤ l) : Rw 6 6 l 3 (s, fs) :=
  ⟨⟨fun p hp => (h.dr p hp).fr, fun z => absurd z h.ne, fun _ => h.lo, fun _ => hi⟩, ⟨60, by decide, by decide, fun p hp => (h.dr p hp).dv⟩, fun p hp => (h.dr p hp).vl, hl, hs⟩
theorem fr_ne {fs : FrL} (h : fs ≠ []) : fs.map frD ≠ [] := fun z => h (List.map_eq_nil_iff.mp z)
end BS
set_option exponentiation.threshold 20000
namespace BS
open PySem PySem.Spec PyProof.Rows L2 DL
structure Iv (a e : Int) (r : Int × FrL) : Prop where
  lo : r.2 ≠ [] → a ≤ r.1
  hi : r.2 ≠ [] → r.1 + r.2.length ≤ e
theorem Iv.mono {a e a' e' : Int} {r : Int × FrL} (h : Iv a e r) (ha : a' ≤ a) (he : e ≤ e') : Iv a' e' r := ⟨fun n => Int.le_trans ha (h.lo n), fun n => Int.le_trans (h.hi n) he⟩
theorem Iv.trim {a e s : Int} {fs : FrL} (h1 : a ≤ s) (h2 : s + fs.length ≤ e) : Iv a e (trimR s fs) := by
  refine ⟨fun n => ?_, fun n => ?_⟩ <;> · have := trimR_end s fs n; omega
theorem Iv.mul {a e c f : Int} {x y : Int × FrL} (hx : Iv a e x) (hy : Iv c f y) : Iv (a + c) (e + f - 1) (mulR x y) := by
  unfold mulR
  split
  · exact ⟨fun n => absurd rfl n, fun n => absurd rfl n⟩
  · rename_i h
    have nx : x.2 ≠ [] := fun z => h (.inl z)
    have ny : y.2 ≠ [] := fun z => h (.inr z)
    have lx := List.length_pos_iff.mpr nx
    have ly := List.length_pos_iff.mpr ny
    have a1 := hx.lo nx
    have a2 := hx.hi nx
    have b1 := hy.lo ny
    have b2 := hy.hi ny
    refine Iv.trim (by omega) ?_
    rw [List.length_map, show (cvL (intsL (lcmL x.2) x.2) (intsL (lcmL y.2) y.2)).length = _ from oR_len _ _ _, ints_len, ints_len]
    omega
theorem Iv.add {a e : Int} {x y : Int × FrL} (hx : Iv a e x) (hy : Iv a e y) : Iv a e (addR x y) := by
  unfold addR
  split
  · exact hx
  · split
    · exact hy
    · rename_i ny nx
      obtain ⟨g1, g2, g3, g4, g5, g6⟩ := low_far x y
      have a1 := hx.lo nx
      have a2 := hx.hi nx
      have b1 := hy.lo ny
      have b2 := hy.hi ny
      refine Iv.trim (by omega) ?_
      rw [List.length_map, List.length_range]
      omega
theorem Iv.wide {a e : Int} {r : Int × FrL} (h : Iv a e r) : Iv (2 * a) (2 * e - 1) (wideR r) := by
  have nn : (wideR r).2 ≠ [] → r.2 ≠ [] := fun n z => n (by show wl r.2 = []; rw [z]; rfl)
  refine ⟨fun n => ?_, fun n => ?_⟩
  · have := h.lo (nn n)
    show 2 * a ≤ 2 * r.1
    omega
  · have := h.hi (nn n)
    have lp := List.length_pos_iff.mpr (nn n)
    show 2 * r.1 + ((wl r.2).length : Nat) ≤ _
    rw [wl_len]
    omega
theorem Rw.iv {b v l s : Nat} {A E : Nat} {r : Int × FrL} (h : Rw b v l s r) (i : Iv (-(A : Int)) E r) : Rw b v (A + E) (A + E) r := by
  refine ⟨h.can, h.den, h.val, ?_, ?_⟩
  · by_cases n : r.2 = []
    · rw [n]; exact Nat.zero_le _
    · have := i.lo n; have := i.hi n; omega
  · by_cases n : r.2 = []
    · rw [h.can.nul n]; exact Nat.zero_le _
    · have := i.lo n
      have := i.hi n
      have := List.length_pos_iff.mpr n
      omega
/-- a row of so many steps -/
structure Lad (i : Nat) (r : Int × FrL) : Prop where
  rw : Rw (if i = 0 then 6 else if i = 1 then 18 else 42) (if i = 0 then 6 else if i = 1 then 29 else 75) (6 * i + 6) (6 * i + 6) r
  iv : Iv (-(2 * i + 2 : Int)) (4 * i + 4 : Int) r
theorem Lad.up {i : Nat} {r : Int × FrL} (hi : i < 2) (h : Lad i r) : Lad (i + 1) r := by
  obtain ⟨a, b⟩ := h
  refine ⟨a.mono ?_ ?_ (by omega) (by omega), b.mono (by omega) (by omega)⟩ <;> (match i, hi with | 0, _ => decide | 1, _ => decide)
end BS
set_option exponentiation.threshold 20000
namespace BS
open PySem PySem.Spec PyProof.Rows L2 DL
theorem isiTup {μ : Sto} {ds : List D} : cIsi [.tup ds, .ty "tuple"] μ = some (.bl true, μ) := by
  unfold cIsi
  rfl
theorem isiInt {μ : Sto} {n : Int} : cIsi [.int n, .ty "int"] μ = some (.bl true, μ) := by
  unfold cIsi
  rfl
theorem isiBoolI {μ : Sto} {n : Int} : cIsi [.int n, .ty "bool"] μ = some (.bl false, μ) := by
  unfold cIsi
  rfl
theorem wholeI {μ : Sto} {n : Int} {Q : D × Sto → Prop} (q : Q (.bl true, μ)) : Wp (F_is_whole [.int n] μ) Q := by
  unfold F_is_whole
  simp_arith [isiInt, isiBoolI]
  exact q
theorem frac_true {p : Int × Int} (h : isFr p) : fracD (frD p) = true := by
  show (decide (0 < p.2) && decide (Nat.gcd p.1.natAbs p.2.natAbs = 1)) = true
  rw [decide_eq_true h.1, decide_eq_true h.2]
  rfl
theorem all_frac {fs : FrL} (h : ∀ p ∈ fs, isFr p) : (fs.map frD).all fracD = true := by
  rw [List.all_eq_true]
  intro d hd
  obtain ⟨p, hp, rfl⟩ := frD_mem hd
  exact frac_true (h p hp)
theorem all_plain {μ : Sto} {fs : FrL} : (fs.map frD).all (plainD μ) = true := by
  rw [List.all_eq_true]
  intro d hd
  obtain ⟨p, _, rfl⟩ := frD_mem hd
  rfl
theorem ne_fr0 {μ : Sto} {p : Int × Int} (h : isFr p) : opNe (frD p) (.tup [.int 0, .int 1]) μ = some (.bl (decide (p.1 ≠ 0)), μ) := by
  have e := frD_eq0 (μ := μ) h
  have e2 : opEqM (frD p) (.tup [.int 0, .int 1]) μ = opEq (frD p) (.tup [.int 0, .int 1]) μ := rfl
  rw [e2] at e
  unfold opEq at e
  unfold opNe
  cases hr : rcD μ 60 (frD p) (.tup [.int 0, .int 1]) with
  | none => rw [hr] at e; cases e
  | some b =>
    rw [hr] at e
    simp only [Option.map_some, Option.some.injEq, Prod.mk.injEq, D.bl.injEq, and_true] at e
    rw [Option.map_some, e]
    simp
theorem isrow_ok {μ : Sto} {r : Int × FrL} {Q : D × Sto → Prop} (h1 : μ[1]? = some (.tab "is_row")) (c : Can r) (q : Q (.bl true, μ)) : Wp (F_is_row [rowD r] μ) Q := by
  obtain ⟨s, fs⟩ := r
  unfold F_is_row rowD
  have cf : ∀ p ∈ fs, isFr p := c.fr
  have n22 : opNe (.int ((1 + 1 : Nat) : Int)) (.int 2) μ = some (.bl false, μ) := rfl
  have n0 : ∀ n : Nat, opEqM (.int (n : Int)) (.int 0) μ = some (.bl (decide (n = 0)), μ) := fun n => eq_len (ds := List.replicate n (.non : D)) (n := 0) |> fun h => by rw [List.length_replicate] at h; exact h
  simp_arith [isiTup, cLen, n22]
  refine wholeI ?_
  simp_arith [isiTup, List.length_map, n0]
  by_cases e : fs = []
  · subst e
    have s0 : s = 0 := c.nul rfl
    subst s0
    simp_arith [eq_int]
    rw [decide_eq_true trivial]
    exact q
  · have lp := List.length_pos_iff.mpr e
    have nz : ¬ fs.length = 0 := by omega
    simp_arith [nz, decide_false]
    unfold fAllG
    have a0 : (fs.map frD)[0]? = some (frD (fs.getD 0 (0, 1))) := fr_get lp
    have al : atI (fs.map frD) (-1) = some (frD (fs.getD (fs.length - 1) (0, 1))) := by rw [atI_last (fr_ne e), List.length_map, fr_get (by omega)]
    have b0 : (fs.getD 0 (0, 1)).1 ≠ 0 := c.lo e
    have bl : (fs.getD (fs.length - 1) (0, 1)).1 ≠ 0 := c.hi e
    have m0 := ne_fr0 (μ := μ) (getD_fr cf 0)
    have ml := ne_fr0 (μ := μ) (getD_fr cf (fs.length - 1))
    rw [decide_eq_true b0] at m0
    rw [decide_eq_true bl] at ml
    simp_arith [h1, all_plain, all_frac cf, opIx, atI_0, a0, m0, unNeg, al, ml]
    exact q
end BS
set_option exponentiation.threshold 20000
namespace BS
open PySem PySem.Spec PyProof.Rows L2 DL
abbrev Row := Int × FrL
abbrev Lf := Row × Nat
def DepR (d : Nat) (r : Row) : Prop := Rw (42 * d + 1) (85 * d + 1) (19 * 2 ^ d - 18) ((38 * d + 36) * 2 ^ d) r
def SoR (lv : Nat) (r : Row) : Prop := Rw (42 * lv + 1) (85 * lv + 1) (18 * 2 ^ lv) (100 * 2 ^ lv) r
theorem DepR.up {d : Nat} {x r : Row} (hx : Rw 42 75 18 18 x) (h : DepR d r) : DepR (d + 1) (mulR x (wideR r)) := by
  have := hx.mul h.wide (by decide)
  have p : 0 < 2 ^ d := Nat.two_pow_pos d
  refine this.mono (by omega) (by omega) ?_ ?_
  · rw [Nat.pow_succ]; omega
  · rw [Nat.pow_succ, show (38 * (d + 1) + 36) * (2 ^ d * 2) = 2 * ((38 * d + 36) * 2 ^ d) + 76 * 2 ^ d by
      rw [show 38 * (d + 1) + 36 = (38 * d + 36) + 38 by omega, Nat.add_mul, show 38 * (2 ^ d * 2) = 76 * 2 ^ d by omega, show (38 * d + 36) * (2 ^ d * 2) = 2 * ((38 * d + 36) * 2 ^ d) by rw [Nat.mul_comm (2 ^ d) 2, Nat.mul_left_comm]]]
    omega
theorem DepR.le {d e : Nat} {r : Row} (h : DepR d r) (l : d ≤ e) : DepR e r := by
  have p : 2 ^ d ≤ 2 ^ e := Nat.pow_le_pow_right (by decide) l
  refine h.mono (by omega) (by omega) (by omega) (Nat.mul_le_mul (by omega) p)
theorem SoR.up {lv : Nat} {x r : Row} (hx : Rw 42 75 18 18 x) (h : SoR lv r) (hl : lv ≤ 4) : SoR (lv + 1) (mulR r (sprN lv x)) := by
  have p : 2 ^ lv ≤ 2 ^ 4 := Nat.pow_le_pow_right (by decide) hl
  have := h.mul (sprN_rw hx lv) (by omega)
  refine this.mono (by omega) (by omega) ?_ ?_
  · rw [Nat.pow_succ]; omega
  · rw [Nat.pow_succ]; omega
def wayE (P : Row × Row) : List Bool → Rat → Rat
  | [], _ => 1
  | false :: w, x => ev P.1 x * wayE P w (x * x)
  | true :: w, x => ev P.2 x * wayE P w (x * x)
structure Tells (P : Row × Row) (w : List Bool) (p : Lf) : Prop where
  can : Can p.1
  lev : p.2 = w.length
  val : ∀ x : Rat, x ≠ 0 → ev p.1 x = wayE P w x
theorem Tells.uniq {P : Row × Row} {w : List Bool} {p q : Lf} (h : Tells P w p) (k : Tells P w q) : p = q :=
  Prod.ext (h.can.uniq k.can fun x hx => by rw [h.val x hx, k.val x hx]) (by rw [h.lev, k.lev])
/-- both lists go along -/
inductive All2 {α β : Type} (R : α → β → Prop) : List α → List β → Prop
  | nil : All2 R [] []
  | cons {a : α} {b : β} {as : List α} {bs : List β} : R a b → All2 R as bs → All2 R (a :: as) (b :: bs)
theorem All2.append {α β : Type} {R : α → β → Prop} {as cs : List α} {bs ds : List β} (h : All2 R as bs) (k : All2 R cs ds) : All2 R (as ++ cs) (bs ++ ds) := by
  induction h with
  | nil => exact k
  | cons r _ ih => exact .cons r ih
theorem All2.uniq {α β : Type} {R : α → β → Prop} (u : ∀ a b c, R a b → R a c → b = c) {as : List α} {bs cs : List β} (h : All2 R as bs) : All2 R as cs → bs = cs := by
  induction h generalizing cs with
  | nil => intro k; cases k; rfl
  | cons r _ ih => intro k; cases k with | cons r' k' => rw [u _ _ _ r r', ih k']
end BS
set_option exponentiation.threshold 20000
namespace BS
open PySem PySem.Spec PyProof.Rows L2 DL
theorem addX_lst {μ : Sto} {m n : Nat} {xs ys : List D} (h1 : μ[m]? = some (.lst xs)) (h2 : μ[n]? = some (.lst ys)) (l : xs.length + ys.length ≤ 16777216) : opAddX (.loc m) (.loc n) μ = some (.loc μ.length, μ ++ [.lst (xs ++ ys)]) := by
  unfold opAddX
  simp only [h1, h2, sizeLine_eq, l, if_true]
theorem addX_int {μ : Sto} {i j : Int} : opAddX (.int i) (.int j) μ = some (.int (i + j), μ) := rfl
end BS
set_option exponentiation.threshold 20000
namespace BS
open PySem PySem.Spec PyProof.Rows L2 DL
theorem gr_of {b μ : Sto} (h : ∀ (i : Nat) (o : Ob), b[i]? = some o → μ[i]? = some o) : Gr b μ := by
  have : b <+: μ := List.prefix_iff_getElem?.mpr fun i hi => h i _ (List.getElem?_eq_getElem hi)
  obtain ⟨m, rfl⟩ := this
  exact ⟨m, rfl⟩
end BS
set_option exponentiation.threshold 20000
namespace BS
open PySem PySem.Spec PyProof.Rows L2 DL
/-- data whose text is so long at most, nested so deep -/
def Sh (f0 dp n : Nat) (d : D) : Prop := ∃ p : PyData, (∀ (μ : Sto) (f : Nat), f0 ≤ f → pyN μ f d = some p) ∧ p.showable = true ∧ p.depth ≤ dp ∧ p.shown.length ≤ n
theorem Sh.mono {f dp n f' dp' n' : Nat} {d : D} (h : Sh f dp n d) (h1 : f ≤ f') (h2 : dp ≤ dp') (h3 : n ≤ n') : Sh f' dp' n' d := by
  obtain ⟨p, a, b, c, e⟩ := h
  exact ⟨p, fun μ g hg => a μ g (Nat.le_trans h1 hg), b, Nat.le_trans c h2, Nat.le_trans e h3⟩
theorem Sh.int {k : Nat} {i : Int} (hk : 0 < k) (h : i.natAbs < 10 ^ k) (h2 : i.natAbs < 2 ^ 1900) : Sh 1 0 (k + 1) (.int i) := by
  refine ⟨.int i, fun μ f hf => ?_, ?_, Nat.le_refl _, ?_⟩
  · obtain ⟨f, rfl⟩ : ∃ g, f = g + 1 := ⟨f - 1, by omega⟩
    rfl
  · simp only [PyData.showable, decide_eq_true_eq]
    exact Nat.lt_trans (log_of h2 (by decide)) (by decide)
  · have e := int_text_length_le10 hk h
    show (Str.ofString (toString i)).length ≤ k + 1
    rw [PySem.ofString_length]; exact e
theorem shAll {f0 dp n : Nat} : ∀ ds : List D, (∀ d ∈ ds, Sh f0 dp n d) → ∃ ps : List PyData, (∀ (μ : Sto) (f : Nat), f0 + ds.length + 1 ≤ f → pyNs μ f ds = some ps) ∧ PyData.showableAll ps = true ∧ PyData.depthAll ps ≤ dp ∧ ((PyData.shownAll ps).map (·.length)).sum ≤ ds.length * n ∧ (PyData.shownAll ps).length = ds.length
  | [], _ => ⟨[], fun μ f hf => by
      obtain ⟨f, rfl⟩ : ∃ g, f = g + 1 := ⟨f - 1, by omega⟩
      rfl, rfl, Nat.zero_le _, Nat.zero_le _, rfl⟩
  | d :: ds, h => by
    obtain ⟨p, a, b, c, e⟩ := h d List.mem_cons_self
    obtain ⟨ps, a2, b2, c2, e2, l2⟩ := shAll ds fun x hx => h x (List.mem_cons_of_mem _ hx)
    refine ⟨p :: ps, fun μ f hf => ?_, ?_, ?_, ?_, ?_⟩
    · rw [List.length_cons] at hf
      obtain ⟨f, rfl⟩ : ∃ g, f = g + 1 := ⟨f - 1, by omega⟩
      unfold pyNs
      rw [a μ f (by omega), a2 μ f (by omega)]
    · simp only [PyData.showableAll, b, b2, Bool.and_self]
    · simp only [PyData.depthAll]; omega
    · simp only [PyData.shownAll, List.map_cons, List.sum_cons, List.length_cons, Nat.add_mul, Nat.one_mul]; omega
    · simp only [PyData.shownAll, List.length_cons, l2]
theorem Sh.tup {f0 dp n : Nat} {ds : List D} (h : ∀ d ∈ ds, Sh f0 dp n d) : Sh (f0 + ds.length + 2) (dp + 1) (ds.length * (n + 2) + 3) (.tup ds) := by
  obtain ⟨ps, a, b, c, e, l⟩ := shAll ds h
  refine ⟨.tuple ps, fun μ f hf => ?_, ?_, ?_, ?_⟩
  · obtain ⟨f, rfl⟩ : ∃ g, f = g + 1 := ⟨f - 1, by omega⟩
    unfold pyN
    rw [a μ f (by omega)]
    rfl
  · simpa only [PyData.showable] using b
  · simp only [PyData.depth]; omega
  · have t := tupleText_len_le (PyData.shownAll ps)
    rw [l] at t
    simp only [PyData.shown]
    rw [Nat.mul_add]
    omega
end BS
set_option exponentiation.threshold 20000
namespace BS
open PySem PySem.Spec PyProof.Rows L2 DL
theorem asg_wp {f : EF} {g : GF} {ρ : Sl} {μ : Sto} {Q : Out → Prop} (h : Wp (f ρ μ) fun p => Wp (g p.1 ρ p.2) fun q => Q (.nx q.1 q.2)) : Wp (fAsg f g ρ μ) Q := by
  unfold fAsg
  rw [Wp.bind]
  refine h.mono fun p hp => ?_
  rw [Wp.bind]
  refine hp.mono fun q hq => ?_
  rw [Wp.some]
  exact hq
theorem for_wp {fi : IF} {g : GF} {b : SF} {ρ : Sl} {μ μ' : Sto} {it : ItD} {Q : Out → Prop} (e : fi ρ μ = some (it, μ')) (h : Wp (loopF g b it (itLen it μ') 0 ρ μ') Q) : Wp (fFor fi g b ρ μ) Q := by
  unfold fFor
  rw [e, Option.bind_some]
  exact h
theorem ret_wp {f : EF} {ρ : Sl} {μ : Sto} {Q : Out → Prop} (h : Wp (f ρ μ) fun p => Q (.rt p.1 p.2)) : Wp (fRet f ρ μ) Q := by
  unfold fRet
  rw [Wp.bind]
  refine h.mono fun p hp => ?_
  rw [Wp.some]
  exact hp
theorem sm_small {n m : Int} (h : n.natAbs < 2 ^ 60) (k : m.natAbs < 2 ^ 60) : Sm 1000 (n, m) :=
  ⟨Nat.lt_of_lt_of_le h (Nat.pow_le_pow_right (by decide) (by decide)), Nat.lt_of_lt_of_le k (Nat.pow_le_pow_right (by decide) (by decide))⟩
end BS
set_option exponentiation.threshold 20000
namespace BS
open PySem PySem.Spec PyProof.Rows L2 DL
end BS
set_option exponentiation.threshold 20000
namespace BS
open PySem PySem.Spec PyProof.Rows L2 DL
theorem ne_same {μ : Sto} {s : Str} : opNe (.str s) (.str s) μ = some (.bl false, μ) := by
  show (rcD μ 60 (.str s) (.str s)).map _ = _
  rw [rc_str]
  simp
theorem Kp.tab {n : Nat} {μ μ' : Sto} (k : Kp n μ μ') (h : μ[1]? = some (.tab "is_row")) (hn : 1 < n) : μ'[1]? = some (.tab "is_row") := k.at_ 1 _ (by omega) h
theorem range_getD {α β : Type} (z : α) (xs : List α) (f : α → β) : (((List.range xs.length).filter fun _ => true).map fun i => f (xs.getD i z)) = xs.map f := by
  rw [List.filter_eq_self.mpr (by simp)]
  refine List.ext_getElem? fun k => ?_
  rw [List.getElem?_map, List.getElem?_map]
  by_cases h : k < xs.length
  · rw [List.getElem?_range h, List.getElem?_eq_getElem h, Option.map_some, Option.map_some, List.getD_eq_getElem?_getD, List.getElem?_eq_getElem h]; rfl
  · rw [List.getElem?_eq_none (by simpa using h), List.getElem?_eq_none (by omega)]; rfl
end BS
set_option exponentiation.threshold 20000
namespace BS
open PySem PySem.Spec PyProof.Rows L2 DL
theorem fmod_pos {i m : Int} (h : 0 < m) : 0 ≤ i.fmod m ∧ i.fmod m < m := by
  rw [Int.fmod_eq_emod_of_nonneg _ (by omega)]
  exact ⟨Int.emod_nonneg _ (by omega), Int.emod_lt_of_pos _ h⟩
theorem cut_to {ns : List Int} (k : Nat) : DL.cutD (ns.map D.int) none (some (k : Int)) = (ns.take k).map D.int := by
  unfold DL.cutD
  have e : HT.sIx (ns.map D.int).length (ns.map D.int).length (some (k : Int)) = min k (ns.map D.int).length := HT.sIx_nat _ _ k
  rw [HT.sIx_none, e]
  simp only [List.drop_zero, Nat.sub_zero, List.length_map]
  rw [← List.map_take]
  congr 1
  rw [List.take_eq_take_iff]
  omega
theorem pow18 {μ : Sto} : opPow (.int 10) (.int 18) μ = some (.int 1000000000000000000, μ) := by
  unfold opPow
  simp only
  rw [if_pos (by decide)]
  rfl
theorem kp_gr {μ1 μ2 μ3 : Sto} {n : Nat} (g : Gr μ1 μ2) (hn : μ1.length ≤ n) (k : Kp n μ2 μ3) : Gr μ1 μ3 := gr_of fun i o e => by
  have hi := (List.getElem?_eq_some_iff.mp e).1
  exact k.at_ i o (by omega) (g.get e)
end BS
set_option exponentiation.threshold 20000
namespace BS
open PySem PySem.Spec PyProof.Rows L2 DL
theorem sumI_le {M : Nat} : ∀ (zs : List Int), (∀ z ∈ zs, z.natAbs ≤ M) → zs.sum.natAbs ≤ zs.length * M
  | [], _ => by simp
  | z :: zs, h => by
    have ih := sumI_le zs fun w hw => h w (List.mem_cons_of_mem _ hw)
    have hz := h z List.mem_cons_self
    rw [List.sum_cons, List.length_cons, Nat.add_mul, Nat.one_mul]
    have := Int.natAbs_add_le z zs.sum
    omega
theorem red_sm {n : Int} {D : Nat} (h1 : n.natAbs < 2 ^ 1000) (h2 : D < 2 ^ 1000) : Sm 1000 (redI n (D : Int)) := by
  have l := redI_le n (D : Int)
  exact ⟨Nat.lt_of_le_of_lt l.1 h1, Nat.lt_of_le_of_lt l.2 (by rw [Int.natAbs_natCast]; exact h2)⟩
end BS
set_option exponentiation.threshold 20000
namespace BS
open PySem PySem.Spec PyProof.Rows L2 DL
end BS
set_option exponentiation.threshold 20000
namespace BS
open PySem PySem.Spec PyProof.Rows L2 DL
def Rest (g : SF) (ρ : Sl) (μ : Sto) (Q : Out → Prop) : Prop := Wp (g ρ μ) Q
theorem sq_wp {f g : SF} {ρ : Sl} {μ : Sto} {Q : Out → Prop} (h : Wp (f ρ μ) fun o => match o with | .nx ρ1 μ1 => Rest g ρ1 μ1 Q | .rt d μ1 => Q (.rt d μ1) | .bk ρ1 μ1 => Q (.bk ρ1 μ1) | .ct ρ1 μ1 => Q (.ct ρ1 μ1)) : Wp (fSeq f g ρ μ) Q := by
  obtain ⟨o, e, q⟩ := h
  unfold fSeq
  rw [Wp.bind]
  refine Wp.of e ?_
  cases o with
  | nx ρ1 μ1 => exact q
  | rt d μ1 => exact Wp.of rfl q
  | bk ρ1 μ1 => exact Wp.of rfl q
  | ct ρ1 μ1 => exact Wp.of rfl q
theorem sq_rest {f g : SF} {ρ : Sl} {μ : Sto} {Q : Out → Prop} (h : Wp (f ρ μ) fun o => match o with | .nx ρ1 μ1 => Rest g ρ1 μ1 Q | .rt d μ1 => Q (.rt d μ1) | .bk ρ1 μ1 => Q (.bk ρ1 μ1) | .ct ρ1 μ1 => Q (.ct ρ1 μ1)) : Rest (fSeq f g) ρ μ Q := sq_wp h
theorem rest {g : SF} {ρ : Sl} {μ : Sto} {Q : Out → Prop} (h : Wp (g ρ μ) Q) : Rest g ρ μ Q := h
/-- a def's body -/
theorem def_wp {n N : Nat} {b : SF} {ds : List D} {μ : Sto} {Q : D × Sto → Prop} (hn : ds.length = n) (h : Wp (b (ds.map Option.some ++ List.replicate (N - n) Option.none) μ) fun o => match o with
    | .rt d μ' => Q (d, μ')
    | .nx _ μ' => Q (.non, μ')
    | _ => False) : Wp (fDef n N b ds μ) Q := by
  rw [fDef_eq]
  exact ⟨hn, h⟩
/-- a loop over so many numbers -/
theorem forr_wp {fi : IF} {g : GF} {b : SF} {ρ : Sl} {μ μ' : Sto} {n : Nat} {a : Int} {Q : Out → Prop} (I : Nat → Sl → Sto → Prop) (e : fi ρ μ = some (.rng a n, μ')) (h0 : I 0 ρ μ')
    (step : ∀ i ρ μ, i < n → I i ρ μ → Wp ((g (.int (a + (i : Nat))) ρ μ).bind fun p => b p.1 p.2) fun o => ∃ ρ' μ', o = .nx ρ' μ' ∧ I (i + 1) ρ' μ')
    (q : ∀ ρ' μ', I n ρ' μ' → Q (.nx ρ' μ')) : Wp (fFor fi g b ρ μ) Q := by
  refine for_wp e ?_
  refine (loop_gen (n := n) (x := fun i => .int (a + (i : Nat))) I (fun _ _ _ _ => rfl) step n 0 _ _ rfl h0).mono ?_
  rintro _ ⟨ρ', μ', rfl, h⟩
  exact q ρ' μ' h
end BS
set_option exponentiation.threshold 20000
namespace BS
open PySem PySem.Spec PyProof.Rows L2 DL
end BS
set_option exponentiation.threshold 20000
namespace BS
open PySem PySem.Spec PyProof.Rows L2 DL
structure Msk (m : Row) (w : Nat) : Prop where
  rw : Rw 6 6 w 0 m
  two : 2 ≤ m.2.length
  m0 : m.1 = 0
theorem Msk.ne {m : Row} {w : Nat} (h : Msk m w) : m.2 ≠ [] := fun z => by have := h.two; rw [z] at this; cases this
theorem needrow_ok {μ : Sto} {r : Row} {Q : D × Sto → Prop} (h1 : μ[1]? = some (.tab "is_row")) (c : Can r) (q : Q (.non, μ)) : Wp (F_need_row [rowD r] μ) Q := by
  unfold F_need_row
  simp_arith []
  refine isrow_ok h1 c ?_
  simp_arith []
  exact q
/-- what may be halved so often -/
structure Hal (x : Row) (w n : Nat) : Prop where
  rw : ∃ l s, Rw 6 6 l s x ∧ 2 ^ n * (l + w) ≤ 270 + w ∧ 4 ^ n * (s + l + w) ≤ 1000000
  n6 : n ≤ 6
theorem Hal.le {x : Row} {w n i : Nat} (h : Hal x w n) (hi : i ≤ n) : Hal x w i := by
  obtain ⟨⟨l, s, h1, h2, h3⟩, h4⟩ := h
  exact ⟨⟨l, s, h1, Nat.le_trans (Nat.mul_le_mul_right _ (Nat.pow_le_pow_right (by decide) hi)) h2, Nat.le_trans (Nat.mul_le_mul_right _ (Nat.pow_le_pow_right (by decide) hi)) h3⟩, by omega⟩
theorem DrL.all {fs : FrL} {s : Int} {l : Nat} (h : DrL fs) (hi : (fs.getD (fs.length - 1) (0, 1)).1 ≠ 0) (hl : fs.length ≤ l) : Rw 6 6 l s.natAbs (s, fs) :=
  ⟨⟨fun p hp => (h.dr p hp).fr, fun z => absurd z h.ne, fun _ => h.lo, fun _ => hi⟩, ⟨60, by decide, by decide, fun p hp => (h.dr p hp).dv⟩, fun p hp => (h.dr p hp).vl, hl, Nat.le_refl _⟩
def movR (r : Row) (d : Int) : Row := if r.2 = [] then r else (r.1 + d, r.2)
theorem movR_can {r : Row} (c : Can r) (d : Int) : Can (movR r d) := by
  unfold movR
  split
  · exact c
  · rename_i n
    exact ⟨c.fr, fun z => absurd z n, fun _ => c.lo n, fun _ => c.hi n⟩
theorem movR_ev {r : Row} (d : Int) {t : Rat} (ht : t ≠ 0) : ev (movR r d) t = t ^ d * ev r t := by
  unfold movR
  split
  · rename_i n
    rw [ev_nil n]; grind
  · rw [ev_eq, ev_eq]
    show t ^ (r.1 + d) * pe r.2 t = _
    rw [Rat.zpow_add ht]
    grind
end BS
set_option exponentiation.threshold 20000
namespace BS
open PySem PySem.Spec PyProof.Rows L2 DL
theorem Rw.span {b v l s L S : Nat} {a e : Int} {r : Row} (h : Rw b v l s r) (i : Iv a e r) (h1 : e - a ≤ L) (h2 : -(S : Int) ≤ a) (h3 : e ≤ S) : Rw b v L S r := by
  refine ⟨h.can, h.den, h.val, ?_, ?_⟩
  · by_cases n : r.2 = []
    · rw [n]; exact Nat.zero_le _
    · have := i.lo n; have := i.hi n; omega
  · by_cases n : r.2 = []
    · rw [h.can.nul n]; exact Nat.zero_le _
    · have := i.lo n
      have := i.hi n
      have := List.length_pos_iff.mpr n
      omega
/-- the text of a list -/
theorem reprL {f0 dp n : Nat} {ds : List D} (h : ∀ d ∈ ds, Sh f0 dp n d) (h1 : f0 + ds.length ≤ 1900) (h2 : dp ≤ 38) (h3 : ds.length * (n + 2) + 3 ≤ 16777216) : ∃ s : Str, ∀ (μ : Sto) (k : Nat), μ[k]? = some (.lst ds) → cReprN [.loc k] μ = some (.str s, μ) := by
  obtain ⟨ps, a, b, c, e, l⟩ := shAll ds h
  refine ⟨(PyData.list ps).shown, fun μ k hk => ?_⟩
  unfold cReprN
  have e1 : pyN μ 2000 (.loc k) = some (.list ps) := by
    show pyN μ (1999 + 1) (.loc k) = _
    unfold pyN
    rw [hk]
    simp only [a μ 1999 (by omega), Option.map_some]
  simp only [e1, Option.bind_some]
  have t := listText_len_le (PyData.shownAll ps)
  rw [l] at t
  rw [if_pos ⟨by simpa only [PyData.showable] using b, by simp only [PyData.depth]; omega, by rw [sizeLine_eq]; simp only [PyData.shown]; rw [Nat.mul_add] at h3; omega⟩]
end BS
set_option exponentiation.threshold 20000
namespace BS
open PySem PySem.Spec PyProof.Rows L2 DL
theorem getD_rev (fs : FrL) (k : Nat) (h : k < fs.length) : fs.reverse.getD k (0, 1) = fs.getD (fs.length - 1 - k) (0, 1) := by
  rw [List.getD_eq_getElem?_getD, List.getD_eq_getElem?_getD, List.getElem?_reverse h]
def rndR (r : Row) : Row := if r.2 = [] then r else (1 - r.1 - (r.2.length : Nat), r.2.reverse)
theorem rndR_can {r : Row} (c : Can r) : Can (rndR r) := by
  unfold rndR
  split
  · exact c
  · rename_i n
    have lp := List.length_pos_iff.mpr n
    refine ⟨fun p hp => c.fr p (List.mem_reverse.mp hp), fun z => absurd (List.reverse_eq_nil_iff.mp z) n, fun _ => ?_, fun _ => ?_⟩
    · show (r.2.reverse.getD 0 (0, 1)).1 ≠ 0
      rw [getD_rev _ _ lp]; exact c.hi n
    · show (r.2.reverse.getD (r.2.reverse.length - 1) (0, 1)).1 ≠ 0
      rw [List.length_reverse, getD_rev _ _ (by omega), show r.2.length - 1 - (r.2.length - 1) = 0 by omega]
      exact c.lo n
theorem cf_nil {r : Row} (h : r.2 = []) (k : Int) : cf r k = 0 := by
  unfold cf atR
  rw [h, if_neg (by simp only [List.length_nil]; omega)]
  exact qv01
theorem cf_rnd (r : Row) (k : Int) : cf (rndR r) k = cf r (-k) := by
  unfold rndR
  split
  · rename_i n
    rw [cf_nil n, cf_nil n]
  · unfold cf atR
    simp only [List.length_reverse]
    by_cases h : 0 ≤ k - (1 - r.1 - (r.2.length : Nat)) ∧ k - (1 - r.1 - (r.2.length : Nat)) < (r.2.length : Nat)
    · rw [if_pos h, if_pos (by omega), getD_rev _ _ (by omega)]
      congr 2
      omega
    · rw [if_neg h, if_neg (by omega)]
theorem pq_rev (t : Rat) (ht : t ≠ 0) : ∀ as : List Rat, t * pq as.reverse t = t ^ as.length * pq as t⁻¹
  | [] => by show t * 0 = t ^ 0 * 0; grind
  | a :: as => by
    have ih := pq_rev t ht as
    rw [List.reverse_cons, pq_append, List.length_reverse, List.length_cons, Rat.pow_succ]
    show t * (pq as.reverse t + t ^ as.length * (a + t * 0)) = t ^ as.length * t * (a + t⁻¹ * pq as t⁻¹)
    have : t * t⁻¹ = 1 := Rat.mul_inv_cancel t ht
    grind
theorem mul_zpow {a b : Rat} (ha : a ≠ 0) (hb : b ≠ 0) (s : Int) : (a * b) ^ s = a ^ s * b ^ s := by
  have key : ∀ n : Nat, (a * b) ^ n = a ^ n * b ^ n := fun n => by
    induction n with
    | zero => simp
    | succ n ih => rw [Rat.pow_succ, Rat.pow_succ, Rat.pow_succ, ih]; grind
  have hab : a * b ≠ 0 := fun c => by
    rcases Rat.mul_eq_zero.mp c with c | c
    · exact ha c
    · exact hb c
  rcases Int.le_total 0 s with h | h
  · obtain ⟨n, rfl⟩ := Int.eq_ofNat_of_zero_le h
    exact key n
  · obtain ⟨n, hn⟩ := Int.eq_ofNat_of_zero_le (show 0 ≤ -s by omega)
    have e : s = -(n : Int) := by omega
    subst e
    have a1 := Rat.zpow_add ha (-(n : Int)) (n : Int)
    have a2 := Rat.zpow_add hb (-(n : Int)) (n : Int)
    have a3 := Rat.zpow_add hab (-(n : Int)) (n : Int)
    have k : (a * b) ^ (n : Int) = a ^ (n : Int) * b ^ (n : Int) := key n
    rw [show -(n : Int) + (n : Int) = 0 by omega, Rat.zpow_zero] at a1 a2 a3
    rw [k] at a3
    have z1 := zpow_ne ha (n : Int)
    have z2 := zpow_ne hb (n : Int)
    have z : a ^ (n : Int) * b ^ (n : Int) ≠ 0 := fun c => by
      rcases Rat.mul_eq_zero.mp c with c | c
      · exact z1 c
      · exact z2 c
    have q : ((a * b) ^ (-(n : Int)) - a ^ (-(n : Int)) * b ^ (-(n : Int))) * (a ^ (n : Int) * b ^ (n : Int)) = 0 := by grind
    rcases Rat.mul_eq_zero.mp q with q | q
    · grind
    · exact absurd q z
theorem one_zpow (s : Int) : (1 : Rat) ^ s = 1 := by
  have h := mul_zpow (a := 1) (b := 1) (by decide) (by decide) s
  have z := zpow_ne (x := 1) (by decide) s
  have e : (1 : Rat) * 1 = 1 := Rat.mul_one 1
  rw [e] at h
  have q : (1 : Rat) ^ s * ((1 : Rat) ^ s - 1) = 0 := by grind
  rcases Rat.mul_eq_zero.mp q with q | q
  · exact absurd q z
  · grind
theorem inv_ne {t : Rat} (ht : t ≠ 0) : t⁻¹ ≠ 0 := fun c => by
  have := Rat.mul_inv_cancel t ht
  rw [c] at this
  grind
theorem inv_zpow {t : Rat} (ht : t ≠ 0) (s : Int) : t⁻¹ ^ s = (t ^ s)⁻¹ := by
  have h := mul_zpow (inv_ne ht) ht s
  rw [Rat.inv_mul_cancel t ht, one_zpow] at h
  have z := zpow_ne ht s
  have := Rat.mul_inv_cancel _ z
  grind
theorem rndR_ev (r : Row) {t : Rat} (ht : t ≠ 0) : ev (rndR r) t = ev r t⁻¹ := by
  unfold rndR
  split
  · rename_i n
    rw [ev_nil n, ev_nil n]
  · have h := pq_rev t ht (r.2.map qv)
    rw [ev_eq, ev_eq]
    show t ^ (1 - r.1 - (r.2.length : Nat)) * pq (r.2.reverse.map qv) t = t⁻¹ ^ r.1 * pq (r.2.map qv) t⁻¹
    rw [List.map_reverse, show (1 : Int) - r.1 - (r.2.length : Nat) = (-r.1) + (1 + -((r.2.length : Nat) : Int)) by omega, Rat.zpow_add ht, Rat.zpow_add ht, Rat.zpow_one, Rat.zpow_neg, Rat.zpow_neg, Rat.zpow_natCast, inv_zpow ht]
    rw [List.length_map] at h
    have z : (t ^ r.2.length)⁻¹ * t ^ r.2.length = 1 := Rat.inv_mul_cancel _ (fun c => by
      have := zpow_ne ht (r.2.length : Nat)
      rw [Rat.zpow_natCast] at this
      exact this c)
    grind
theorem cf_mov (r : Row) (d k : Int) : cf (movR r d) k = cf r (k - d) := by
  unfold movR
  split
  · rename_i n
    rw [cf_nil n, cf_nil n]
  · unfold cf atR
    simp only [show k - (r.1 + d) = k - d - r.1 by omega]
def evF (a : Nat) (fs : FrL) : FrL := (List.range ((fs.length - a + 1) / 2)).map fun i => fs.getD (a + 2 * i) (0, 1)
theorem evF_len (a : Nat) (fs : FrL) : (evF a fs).length = (fs.length - a + 1) / 2 := by unfold evF; simp
theorem evF_fr {a : Nat} {fs : FrL} (hf : ∀ p ∈ fs, isFr p) : ∀ p ∈ evF a fs, isFr p := fun p hp => by
  obtain ⟨i, _, rfl⟩ := List.mem_map.mp hp
  exact getD_fr hf _
theorem evF_mem {a : Nat} {fs : FrL} {p : Int × Int} (hp : p ∈ evF a fs) : p ∈ fs := by
  obtain ⟨i, hi, rfl⟩ := List.mem_map.mp hp
  have hi := List.mem_range.mp hi
  rw [List.getD_eq_getElem?_getD, List.getElem?_eq_getElem (by omega)]
  exact List.getElem_mem _
/-- where the part begins: the first number's place in the row -/
def evA (d : Int) (r : Row) : Nat := ((r.1 + d) % 2).toNat
def evenR (d : Int) (r : Row) : Row := trimR ((r.1 + (evA d r : Nat) - d) / 2) (evF (evA d r) r.2)
theorem evenR_can {r : Row} (c : Can r) (d : Int) : Can (evenR d r) := trimR_can (evF_fr c.fr) _
theorem mul_add {A B C : Row} (ca : Can A) (cb : Can B) (cc : Can C) : mulR A (addR B C) = addR (mulR A B) (mulR A C) := by
  refine (mulR_can ca (addR_can cb cc)).uniq (addR_can (mulR_can ca cb) (mulR_can ca cc)) fun t ht => ?_
  rw [mulR_ev ca (addR_can cb cc) ht, addR_ev cb cc ht, addR_ev (mulR_can ca cb) (mulR_can ca cc) ht, mulR_ev ca cb ht, mulR_ev ca cc ht]
  grind
end BS
set_option exponentiation.threshold 20000
namespace BS
open PySem PySem.Spec PyProof.Rows L2 DL
end BS
set_option exponentiation.threshold 20000
namespace BS
open PySem PySem.Spec PyProof.Rows L2 DL
def sclR (c : Int × Int) (r : Row) : Row := (r.1, r.2.map fun p => mulP p c)
theorem getD_map_mul (c : Int × Int) (fs : FrL) (k : Nat) (h : k < fs.length) : (fs.map fun p => mulP p c).getD k (0, 1) = mulP (fs.getD k (0, 1)) c := by
  rw [List.getD_eq_getElem?_getD, List.getElem?_map, List.getElem?_eq_getElem h, List.getD_eq_getElem?_getD, List.getElem?_eq_getElem h]
  rfl
theorem mulP_ne {p c : Int × Int} (hp : isFr p) (hc : isFr c) (n1 : p.1 ≠ 0) (n2 : c.1 ≠ 0) : (mulP p c).1 ≠ 0 := fun z => by
  have h := (qv_zero (mulP_fr hp.1 hc.1).1).mpr z
  rw [qv_mul hp.1 hc.1] at h
  rcases Rat.mul_eq_zero.mp h with h | h
  · exact n1 ((qv_zero hp.1).mp h)
  · exact n2 ((qv_zero hc.1).mp h)
theorem scl_fr {c : Int × Int} {fs : FrL} (hc : isFr c) (hf : ∀ p ∈ fs, isFr p) : ∀ p ∈ fs.map fun p => mulP p c, isFr p := fun p hp => by
  obtain ⟨q, hq, rfl⟩ := List.mem_map.mp hp
  exact mulP_fr (hf q hq).1 hc.1
theorem sclR_can {c : Int × Int} {r : Row} (hc : isFr c) (nc : c.1 ≠ 0) (h : Can r) : Can (sclR c r) := by
  refine ⟨scl_fr hc h.fr, fun z => h.nul (List.map_eq_nil_iff.mp z), fun n => ?_, fun n => ?_⟩
  · have n' : r.2 ≠ [] := fun z => n (by show r.2.map _ = []; rw [z]; rfl)
    show ((r.2.map fun p => mulP p c).getD 0 (0, 1)).1 ≠ 0
    rw [getD_map_mul c _ _ (List.length_pos_iff.mpr n')]
    exact mulP_ne (getD_fr h.fr _) hc (h.lo n') nc
  · have n' : r.2 ≠ [] := fun z => n (by show r.2.map _ = []; rw [z]; rfl)
    have := List.length_pos_iff.mpr n'
    show ((r.2.map fun p => mulP p c).getD ((r.2.map fun p => mulP p c).length - 1) (0, 1)).1 ≠ 0
    rw [List.length_map, getD_map_mul c _ _ (by omega)]
    exact mulP_ne (getD_fr h.fr _) hc (h.hi n') nc
theorem cf_scl {c : Int × Int} {r : Row} (hc : isFr c) (h : Can r) (k : Int) : cf (sclR c r) k = qv c * cf r k := by
  unfold cf atR sclR
  simp only [List.length_map]
  by_cases g : 0 ≤ k - r.1 ∧ k - r.1 < (r.2.length : Nat)
  · rw [if_pos g, if_pos g, getD_map_mul c _ _ (by omega), qv_mul (getD_fr h.fr _).1 hc.1]
    grind
  · rw [if_neg g, if_neg g, qv01]
    grind
theorem scl_ev {c : Int × Int} {r : Row} (hc : isFr c) (nc : c.1 ≠ 0) (h : Can r) {t : Rat} (ht : t ≠ 0) : ev (sclR c r) t = qv c * ev r t := by
  rw [← ev_ser (r := sclR c r) (a := r.1) (L := r.2.length) (Int.le_refl _) (by show r.1 + ((r.2.map _).length : Nat) ≤ _; rw [List.length_map]; exact Int.le_refl _) ht, ← ev_ser (r := r) (Int.le_refl _) (Int.le_refl _) ht, ← ser_mulc]
  exact ser_congr (fun k _ _ => cf_scl hc h k) t
theorem Rw.even {b v l s : Nat} {r : Row} (h : Rw b v l s r) (d : Int) (hd : d = 0 ∨ d = 1) : Rw b v l (s + l + 2) (evenR d r) := by
  have p := h.pos
  have n := h.len
  have el := evF_len (evA d r) r.2
  have ha : ((evA d r : Nat) : Int) ≤ 1 := by unfold evA; omega
  refine ⟨evenR_can h.can d, ?_, ?_, ?_, ?_⟩
  · obtain ⟨B, b1, b2, b3⟩ := h.den
    exact ⟨B, b1, b2, fun p hp => b3 p (evF_mem (trimR_mem hp))⟩
  · exact fun p hp => h.val p (evF_mem (trimR_mem hp))
  · refine Nat.le_trans (trimR_len _ _) ?_
    omega
  · refine Nat.le_trans (trimR_pos _ _) ?_
    omega
def hf : Int × Int := (1, 2)
end BS
set_option exponentiation.threshold 20000
namespace BS
open PySem PySem.Spec PyProof.Rows L2 DL
structure FinQ (D M : Nat) (p : Int × Int) : Prop where
  fr : isFr p
  ex : ∃ Z : Int, Z.natAbs ≤ M ∧ qv p * ((D : Int) : Rat) = (Z : Rat)
theorem FinQ.sm {D M : Nat} {p : Int × Int} (h : FinQ D M p) (h0 : 0 < D) (h1 : D < 2 ^ 1000) (h2 : M < 2 ^ 1000) : Sm 1000 p := by
  obtain ⟨Z, h3, h4⟩ := h.ex
  have z : ((D : Int) : Rat) ≠ 0 := cast_ne (by omega)
  have e : p = redI Z (D : Int) := qv_inj h.fr (redI_fr (by omega)) (by
    rw [qv_red (by omega)]
    exact ((div_eq z).mpr h4.symm).symm)
  rw [e]
  exact red_sm (Nat.lt_of_le_of_lt h3 h2) h1
theorem FinQ.add {D M N : Nat} {p r : Int × Int} (h : FinQ D M p) (k : FinQ D N r) : FinQ D (M + N) (addP p r) := by
  obtain ⟨Z, h3, h4⟩ := h.ex
  obtain ⟨Y, k3, k4⟩ := k.ex
  refine ⟨addP_fr h.fr.1 k.fr.1, Z + Y, by have := Int.natAbs_add_le Z Y; omega, ?_⟩
  rw [qv_add h.fr.1 k.fr.1, Rat.intCast_add]
  grind
theorem FinQ.mono {D M N : Nat} {p : Int × Int} (h : FinQ D M p) (l : M ≤ N) : FinQ D N p := ⟨h.fr, let ⟨Z, a, b⟩ := h.ex; ⟨Z, Nat.le_trans a l, b⟩⟩
theorem FinQ.zero {D : Nat} : FinQ D 0 (0, 1) := ⟨⟨by decide, by decide⟩, 0, by decide, by rw [qv01]; show (0 : Rat) * _ = ((0 : Int) : Rat); grind⟩
theorem FinQ.of {D V : Nat} {p : Int × Int} (hp : isFr p) (h0 : 0 < D) (hd : p.2.natAbs ∣ D) (hv : p.1.natAbs < V * p.2.natAbs) : FinQ D (V * D) p := by
  have a := ints_le (V := V) (b := D) (fs := [p]) (fun q hq => by rw [List.mem_singleton.mp hq]; exact hp) h0 (fun q hq => by rw [List.mem_singleton.mp hq]; exact hd) (fun q hq => by rw [List.mem_singleton.mp hq]; exact hv) (p.1 * ((D : Int) / p.2)) (by simp [intsL])
  refine ⟨hp, _, a, ?_⟩
  have d : p.2 ∣ (D : Int) := Int.natAbs_dvd.mp (Int.ofNat_dvd.mpr hd)
  have c : ((D : Int) : Rat) = (((D : Int) / p.2 : Int) : Rat) * (p.2 : Rat) := by rw [← Rat.intCast_mul, Int.ediv_mul_cancel d]
  have z1 := cast_ne hp.1
  rw [c, Rat.intCast_mul]
  unfold qv
  grind
theorem sm_succ (f : Nat → Rat) (n : Nat) : sm f (n + 1) = sm f n + f n := rfl
end BS
set_option exponentiation.threshold 20000
namespace BS
open PySem PySem.Spec PyProof.Rows L2 DL
def g1 : Row := (0, [(1, 1), (-1, 1)])
theorem fr_int (n : Int) : isFr (n, 1) := ⟨show (0 : Int) < 1 by decide, by simp⟩
end BS
set_option exponentiation.threshold 20000
namespace BS
open PySem PySem.Spec PyProof.Rows L2 DL
end BS
set_option exponentiation.threshold 20000
namespace BS
open PySem PySem.Spec PyProof.Rows L2 DL
def chR (h r : Row) : Row := evenR 0 (mulR h r)
/-- a channel behind i splittings of a row with the bounds b, v -/
def Chn (b v i : Nat) (r : Row) : Prop := Rw (b + 42 * i) (v + 85 * i) (12 + 18 * i) (1000 + 300 * i) r
theorem Chn.up {b v i : Nat} {h r : Row} (hh : Rw 42 75 18 18 h) (hr : Chn b v i r) (hi : i ≤ 4) : Chn b v (i + 1) (chR h r) :=
  ((hh.mul hr (by decide)).even 0 (.inl rfl)).mono (by omega) (by omega) (by omega) (by omega)
theorem Chn.le {b v i j : Nat} {r : Row} (h : Chn b v i r) (l : i ≤ j) : Chn b v j r := h.mono (by omega) (by omega) (by omega) (by omega)
theorem Iv.even {a e : Int} {r : Row} (h : Iv a e r) : Iv (a / 2) (e / 2 + 1) (evenR 0 r) := by
  by_cases n : r.2 = []
  · have : (evenR 0 r).2 = [] := by
      unfold evenR
      have : (evF (evA 0 r) r.2) = [] := List.eq_nil_of_length_eq_zero (by rw [evF_len, n, List.length_nil]; omega)
      rw [this]
      rfl
    exact ⟨fun z => absurd this z, fun z => absurd this z⟩
  · have h1 := h.lo n
    have h2 := h.hi n
    have ha : ((evA 0 r : Nat) : Int) = (r.1 + 0) % 2 := by unfold evA; omega
    have lp := List.length_pos_iff.mpr n
    refine Iv.trim (by omega) ?_
    rw [evF_len]
    omega
end BS
set_option exponentiation.threshold 20000
namespace BS
open PySem PySem.Spec PyProof.Rows L2 DL
/-- a comprehension over the places of a list -/
theorem fLc_rng {g : GF} {fi : IF} {fe : EF} {vs : List Nat} {ρ : Sl} {μ : Sto} {n : Nat} {e : Nat → D} {Q : D × Sto → Prop} (hi : fi ρ μ = some (.rng 0 n, μ)) (hl : n ≤ 1000000)
    (h : ∀ i, i < n → ∀ μ1, Gr μ μ1 → ∃ ρ1, g (.int (i : Nat)) (wipeD ρ vs) μ1 = some (ρ1, μ1) ∧ Wp (fe ρ1 μ1) fun r => r.1 = e i ∧ Gr μ1 r.2)
    (k : ∀ m μ', μ'[m]? = some (.lst ((List.range n).map e)) → μ.length ≤ m → Gr μ μ' → Q (.loc m, μ')) : Wp (fLc fi g fYes fe vs ρ μ) Q := by
  refine fLc_list (it := .rng 0 n) (n := n) (x := fun i => .int (0 + (i : Nat))) (p := fun _ => true) (e := e) (μ0 := μ) hi (fun i μ' _ => rfl) hl rfl (fun i hi μ1 g1 => ?_) (fun m μ' e l g1 => k m μ' (by rw [List.filter_eq_self.mpr (by simp)] at e; exact e) l g1)
  obtain ⟨ρ1, e1, e2⟩ := h i hi μ1 g1
  have z : (0 + (i : Int)) = ((i : Nat) : Int) := by omega
  rw [z]
  exact ⟨ρ1, e1, Wp.of rfl ⟨rfl, Gr.refl, fun _ => e2⟩⟩
end BS
set_option exponentiation.threshold 20000
namespace BS
open PySem PySem.Spec PyProof.Rows L2 DL
end BS
set_option exponentiation.threshold 20000
namespace BS
open PySem PySem.Spec PyProof.Rows L2 DL
structure Tm where
  s : Int
  zs : List Int
  b : Nat
def tmD (t : Tm) (f : Nat) : D := .tup [.int t.s, .loc f, .int (t.b : Nat)]
/-- the terms of the list at t -/
structure Ts (μ : Sto) (t : Nat) (ds : List D) (ts : List Tm) : Prop where
  len : ds.length = ts.length
  at_ : ∀ (i : Nat) (x : Tm), ts[i]? = some x → ∃ f, f ≠ t ∧ ds[i]? = some (tmD x f) ∧ μ[f]? = some (.lst (x.zs.map D.int))
theorem Ts.gr {μ μ' : Sto} {t : Nat} {ds : List D} {ts : List Tm} (h : Ts μ t ds ts) (g : Gr μ μ') : Ts μ' t ds ts :=
  ⟨h.len, fun i x e => let ⟨f, n, a, b⟩ := h.at_ i x e; ⟨f, n, a, g.get b⟩⟩
theorem intsOf_ints : ∀ ns : List Int, intsOf (ns.map D.int) = some ns
  | [] => rfl
  | n :: ns => by
    show (intsOf (ns.map D.int)).map (n :: ·) = some (n :: ns)
    rw [intsOf_ints ns]; rfl
theorem range_all {α β : Type} (z : α) (xs : List α) (f : α → β) : ((List.range xs.length).map fun i => f (xs.getD i z)) = xs.map f := by
  have := range_getD z xs f
  rw [List.filter_eq_self.mpr (by simp)] at this
  exact this
end BS
set_option exponentiation.threshold 20000
namespace BS
open PySem PySem.Spec PyProof.Rows L2 DL
end BS
set_option exponentiation.threshold 20000
namespace BS
open PySem PySem.Spec PyProof.Rows L2 DL
abbrev Pl := Int × (Int × Int)
def kvD (ts : List Pl) : List (Key × D) := ts.map fun t => (.inl t.1, frD t.2)
def lk (ts : List Pl) (k : Int) : Option (Int × Int) := (ts.find? fun t => decide (t.1 = k)).map (·.2)
def putT (ts : List Pl) (k : Int) (p : Int × Int) : List Pl := if (lk ts k).isSome then ts.map (fun t => if t.1 = k then (t.1, p) else t) else ts ++ [(k, p)]
theorem lk_cons (t : Pl) (ts : List Pl) (k : Int) : lk (t :: ts) k = if t.1 = k then some t.2 else lk ts k := by
  unfold lk
  rw [List.find?_cons]
  by_cases h : t.1 = k
  · rw [if_pos h]; simp [h]
  · rw [if_neg h]; simp [h]
theorem valD_kv (ts : List Pl) (k : Int) : valD (kvD ts) (.inl k) = (lk ts k).map frD := by
  induction ts with
  | nil => rfl
  | cons t ts ih =>
    rw [lk_cons]
    unfold valD kvD at *
    rw [List.map_cons, List.find?_cons]
    by_cases h : t.1 = k
    · rw [if_pos h]; simp [h]
    · rw [if_neg h]
      have : decide ((Sum.inl t.1 : Key) = Sum.inl k) = false := by simp [h]
      simp only [this]
      exact ih
theorem any_kv (ts : List Pl) (k : Int) : ((kvD ts).any fun kv => decide (kv.1 = (.inl k : Key))) = (lk ts k).isSome := by
  induction ts with
  | nil => rfl
  | cons t ts ih =>
    rw [lk_cons]
    unfold kvD at *
    rw [List.map_cons, List.any_cons, ih]
    by_cases h : t.1 = k
    · rw [if_pos h]; simp [h]
    · rw [if_neg h]; simp [h]
theorem putD_kv (ts : List Pl) (k : Int) (p : Int × Int) : putD (kvD ts) (.inl k) (frD p) = kvD (putT ts k p) := by
  unfold putD putT
  rw [any_kv]
  by_cases h : (lk ts k).isSome = true
  · rw [if_pos h, if_pos h]
    unfold kvD
    rw [List.map_map, List.map_map]
    refine List.map_congr_left fun t _ => ?_
    show (if (Sum.inl t.1 : Key) = Sum.inl k then ((Sum.inl t.1 : Key), frD p) else (Sum.inl t.1, frD t.2)) = (fun t => ((Sum.inl t.1 : Key), frD t.2)) (if t.1 = k then (t.1, p) else t)
    by_cases e : t.1 = k
    · rw [if_pos e, if_pos (by rw [e])]
    · rw [if_neg e, if_neg (fun z => e (Sum.inl.inj z))]
  · rw [if_neg h, if_neg h]
    unfold kvD
    rw [List.map_append]
    rfl
theorem kvD_len (ts : List Pl) : (kvD ts).length = ts.length := by unfold kvD; simp
theorem lk_none {ts : List Pl} {k : Int} (h : ∀ t ∈ ts, t.1 ≠ k) : lk ts k = none := by
  induction ts with
  | nil => rfl
  | cons t ts ih =>
    rw [lk_cons, if_neg (h t List.mem_cons_self), ih fun u hu => h u (List.mem_cons_of_mem _ hu)]
theorem lk_mem {ts : List Pl} {k : Int} {p : Int × Int} (h : lk ts k = some p) : (k, p) ∈ ts := by
  induction ts with
  | nil => cases h
  | cons t ts ih =>
    rw [lk_cons] at h
    by_cases e : t.1 = k
    · rw [if_pos e] at h
      cases h
      rw [← e]
      exact List.mem_cons_self
    · rw [if_neg e] at h
      exact List.mem_cons_of_mem _ (ih h)
def Nd (ts : List Pl) : Prop := (ts.map (·.1)).Nodup
theorem lk_of {ts : List Pl} (nd : Nd ts) {t : Pl} (h : t ∈ ts) : lk ts t.1 = some t.2 := by
  induction ts with
  | nil => cases h
  | cons u ts ih =>
    rw [lk_cons]
    unfold Nd at nd
    rw [List.map_cons, List.nodup_cons] at nd
    rcases List.mem_cons.mp h with rfl | h
    · rw [if_pos rfl]
    · have ne : u.1 ≠ t.1 := fun z => nd.1 (by rw [z]; exact List.mem_map.mpr ⟨t, h, rfl⟩)
      rw [if_neg ne]
      exact ih nd.2 h
theorem put_new {ts : List Pl} {k : Int} {p : Int × Int} (h : ∀ t ∈ ts, t.1 ≠ k) : putT ts k p = ts ++ [(k, p)] := by
  unfold putT
  rw [lk_none h]
  rfl
def evt (ts : List Pl) (x : Rat) : Rat := (ts.map fun t => qv t.2 * x ^ t.1).sum
def vl (ts : List Pl) (k : Int) : Rat := (ts.map fun t => if t.1 = k then qv t.2 else 0).sum
theorem evt_app (a b : List Pl) (x : Rat) : evt (a ++ b) x = evt a x + evt b x := by unfold evt; rw [List.map_append, List.sum_append]
theorem evt_one (t : Pl) (x : Rat) : evt [t] x = qv t.2 * x ^ t.1 := by unfold evt; simp only [List.map_cons, List.map_nil, List.sum_cons, List.sum_nil]; rw [Rat.add_zero]
theorem ser_point (v : Rat) (n : Int) {a : Int} {x : Rat} (hx : x ≠ 0) : ∀ L : Nat, ser (fun k => if n = k then v else 0) a L x = if a ≤ n ∧ n < a + L then v * x ^ n else 0
  | 0 => by
    rw [if_neg (by omega)]
    unfold ser
    show x ^ a * 0 = 0
    grind
  | L + 1 => by
    rw [ser_succ _ _ _ hx, ser_point v n hx L]
    by_cases h : n = a + L
    · rw [if_neg (by omega), if_pos h, if_pos (by omega), h]
      grind
    · rw [if_neg h]
      by_cases g : a ≤ n ∧ n < a + L
      · rw [if_pos g, if_pos (by omega)]
        grind
      · rw [if_neg g, if_neg (by omega)]
        grind
structure Kr (a e : Int) (ts : List Pl) : Prop where
  lo : ∀ t ∈ ts, a ≤ t.1
  hi : ∀ t ∈ ts, t.1 < e
theorem vl_ser {a e : Int} {ts : List Pl} (h : Kr a e ts) (ae : a ≤ e) {x : Rat} (hx : x ≠ 0) : ser (vl ts) a (e - a).toNat x = evt ts x := by
  induction ts with
  | nil => exact ser_zero x a _ fun k _ _ => rfl
  | cons t ts ih =>
    have ih' := ih ⟨fun u hu => h.lo u (List.mem_cons_of_mem _ hu), fun u hu => h.hi u (List.mem_cons_of_mem _ hu)⟩
    have e1 : vl (t :: ts) = fun k => (fun k => if t.1 = k then qv t.2 else 0) k + vl ts k := by
      funext k
      unfold vl
      rw [List.map_cons, List.sum_cons]
    rw [e1, ser_add, ih', ser_point _ _ hx, if_pos ⟨h.lo t List.mem_cons_self, by have := h.hi t List.mem_cons_self; omega⟩]
    unfold evt
    rw [List.map_cons, List.sum_cons]
theorem vl_sup {a e : Int} {ts : List Pl} (h : Kr a e ts) (ae : a ≤ e) : Sup (vl ts) a (e - a).toNat := fun k hk => by
  induction ts with
  | nil => rfl
  | cons t ts ih =>
    have ih' := ih ⟨fun u hu => h.lo u (List.mem_cons_of_mem _ hu), fun u hu => h.hi u (List.mem_cons_of_mem _ hu)⟩
    have h1 := h.lo t List.mem_cons_self
    have h2 := h.hi t List.mem_cons_self
    unfold vl at *
    rw [List.map_cons, List.sum_cons, ih', if_neg (by omega)]
    grind
/-- the dict's row -/
structure DOf (ts : List Pl) (r : Row) : Prop where
  can : Can r
  ev : ∀ x : Rat, x ≠ 0 → ev r x = evt ts x
theorem DOf.cf {a e : Int} {ts : List Pl} {r : Row} (d : DOf ts r) (h : Kr a e ts) (ae : a ≤ e) (k : Int) : cf r k = vl ts k :=
  cf_of (vl_sup h ae) (fun x hx => by rw [d.ev x hx, vl_ser h ae hx]) k
theorem DOf.of_cf {a e : Int} {ts : List Pl} {r : Row} (c : Can r) (h : Kr a e ts) (ae : a ≤ e) (hk : ∀ k, BS.cf r k = vl ts k) : DOf ts r := by
  refine ⟨c, fun x hx => ?_⟩
  obtain ⟨A, hA1, hA2⟩ : ∃ A : Int, A ≤ a ∧ A ≤ r.1 := ⟨min a r.1, by omega, by omega⟩
  obtain ⟨L, hL1, hL2⟩ : ∃ L : Nat, e ≤ A + L ∧ r.1 + r.2.length ≤ A + L := ⟨(e - A).toNat + (r.1 + r.2.length - A).toNat, by omega, by omega⟩
  rw [← ev_ser (r := r) hA2 hL2 hx, ← vl_ser (a := A) (e := A + L) ⟨fun t ht => by have := h.lo t ht; omega, fun t ht => by have := h.hi t ht; omega⟩ (by omega) hx, show (A + (L : Nat) - A).toNat = L by omega]
  exact ser_congr (fun k _ _ => hk k) x
theorem vl_of {ts : List Pl} (nd : Nd ts) (k : Int) : vl ts k = ((lk ts k).map qv).getD 0 := by
  induction ts with
  | nil => rfl
  | cons t ts ih =>
    have nd' := nd
    unfold Nd at nd'
    rw [List.map_cons, List.nodup_cons] at nd'
    rw [lk_cons]
    have e : vl (t :: ts) k = (if t.1 = k then qv t.2 else 0) + vl ts k := by unfold vl; rw [List.map_cons, List.sum_cons]
    rw [e, ih nd'.2]
    by_cases h : t.1 = k
    · rw [if_pos h, if_pos h]
      have : lk ts k = none := lk_none fun u hu z => nd'.1 (by rw [h, ← z]; exact List.mem_map.mpr ⟨u, hu, rfl⟩)
      rw [this]
      show qv t.2 + 0 = qv t.2
      grind
    · rw [if_neg h, if_neg h]
      grind
/-- what the accumulating writes do -/
def upK (ts : List Pl) (k : Int) (p : Int × Int) : List Pl := match lk ts k with
  | some q => putT ts k (addP q p)
  | none => putT ts k p
theorem map_put_evt {ts : List Pl} (nd : Nd ts) {k : Int} {q p : Int × Int} (h : lk ts k = some q) (x : Rat) : evt (ts.map fun t => if t.1 = k then (t.1, p) else t) x = evt ts x - qv q * x ^ k + qv p * x ^ k := by
  induction ts with
  | nil => cases h
  | cons t ts ih =>
    have nd' := nd
    unfold Nd at nd'
    rw [List.map_cons, List.nodup_cons] at nd'
    rw [lk_cons] at h
    have c : ∀ (u : Pl) (us : List Pl), evt (u :: us) x = qv u.2 * x ^ u.1 + evt us x := fun u us => by unfold evt; rw [List.map_cons, List.sum_cons]
    rw [List.map_cons, c, c]
    by_cases e : t.1 = k
    · rw [if_pos e] at h
      cases h
      have : (ts.map fun t => if t.1 = k then (t.1, p) else t) = ts := by
        conv => rhs; rw [← List.map_id ts]
        refine List.map_congr_left fun u hu => ?_
        rw [if_neg (fun z => nd'.1 (by rw [e, ← z]; exact List.mem_map.mpr ⟨u, hu, rfl⟩))]
        rfl
      rw [this, if_pos e, e]
      grind
    · rw [if_neg e] at h ⊢
      rw [ih nd'.2 h]
      grind
theorem keys_map (ts : List Pl) (k : Int) (p : Int × Int) : (ts.map fun t => if t.1 = k then (t.1, p) else t).map (·.1) = ts.map (·.1) := by
  rw [List.map_map]
  refine List.map_congr_left fun t _ => ?_
  show (if t.1 = k then (t.1, p) else t).1 = t.1
  split <;> rfl
theorem put_nd {ts : List Pl} (nd : Nd ts) (k : Int) (p : Int × Int) : Nd (putT ts k p) := by
  unfold putT
  by_cases h : (lk ts k).isSome = true
  · rw [if_pos h]
    unfold Nd
    rw [keys_map]
    exact nd
  · rw [if_neg h]
    unfold Nd
    rw [List.map_append, List.nodup_append]
    refine ⟨nd, by simp, fun a ha b hb => ?_⟩
    have : b = k := by simpa using hb
    rw [this]
    intro z
    obtain ⟨t, ht, rfl⟩ := List.mem_map.mp ha
    apply h
    rw [← z, lk_of nd ht]
    rfl
theorem put_mem {ts : List Pl} {k : Int} {p : Int × Int} {t : Pl} (h : t ∈ putT ts k p) : t = (k, p) ∨ t ∈ ts := by
  unfold putT at h
  split at h
  · obtain ⟨u, hu, rfl⟩ := List.mem_map.mp h
    by_cases e : u.1 = k
    · rw [if_pos e, e]; exact .inl rfl
    · rw [if_neg e]; exact .inr hu
  · rcases List.mem_append.mp h with h | h
    · exact .inr h
    · exact .inl (List.mem_singleton.mp h)
theorem up_evt {ts : List Pl} (nd : Nd ts) {k : Int} {p : Int × Int} (hp : isFr p) (hf : ∀ t ∈ ts, isFr t.2) (x : Rat) : evt (upK ts k p) x = evt ts x + qv p * x ^ k := by
  unfold upK
  cases h : lk ts k with
  | none =>
    show evt (putT ts k p) x = _
    unfold putT
    rw [h]
    show evt (ts ++ [(k, p)]) x = _
    rw [evt_app, evt_one]
  | some q =>
    show evt (putT ts k (addP q p)) x = _
    have fq := hf _ (lk_mem h)
    unfold putT
    rw [h]
    show evt (ts.map fun t => if t.1 = k then (t.1, addP q p) else t) x = _
    rw [map_put_evt nd h, qv_add fq.1 hp.1]
    grind
theorem up_nd {ts : List Pl} (nd : Nd ts) (k : Int) (p : Int × Int) : Nd (upK ts k p) := by
  unfold upK
  split <;> exact put_nd nd _ _
theorem up_mem {ts : List Pl} {k : Int} {p : Int × Int} {t : Pl} (h : t ∈ upK ts k p) : t ∈ ts ∨ t = (k, p) ∨ ∃ q, (k, q) ∈ ts ∧ t = (k, addP q p) := by
  unfold upK at h
  split at h
  · rename_i q e
    rcases put_mem h with h | h
    · exact .inr (.inr ⟨q, lk_mem e, h⟩)
    · exact .inl h
  · rcases put_mem h with h | h
    · exact .inr (.inl h)
    · exact .inl h
/-- size of a dict's numbers -/
def Fq (D M : Nat) (ts : List Pl) : Prop := ∀ t ∈ ts, FinQ D M t.2
theorem FinQ.lift {D M : Nat} {p : Int × Int} (h : FinQ D M p) (E : Nat) : FinQ (D * E) (M * E) p := by
  obtain ⟨Z, a, b⟩ := h.ex
  refine ⟨h.fr, Z * E, by rw [Int.natAbs_mul, Int.natAbs_natCast]; exact Nat.mul_le_mul_right _ a, ?_⟩
  rw [Int.natCast_mul, Rat.intCast_mul, Rat.intCast_mul, ← b]
  grind
theorem FinQ.mul {D M E N : Nat} {p r : Int × Int} (h : FinQ D M p) (k : FinQ E N r) : FinQ (D * E) (M * N) (mulP p r) := by
  obtain ⟨Z, a, b⟩ := h.ex
  obtain ⟨Y, c, d⟩ := k.ex
  refine ⟨mulP_fr h.fr.1 k.fr.1, Z * Y, by rw [Int.natAbs_mul]; exact Nat.mul_le_mul a c, ?_⟩
  rw [qv_mul h.fr.1 k.fr.1, Int.natCast_mul, Rat.intCast_mul, Rat.intCast_mul, ← b, ← d]
  grind
theorem FinQ.dv {D M : Nat} {p : Int × Int} (h : FinQ D M p) : p.2.natAbs ∣ D := by
  obtain ⟨Z, _, b⟩ := h.ex
  have z := cast_ne h.fr.1
  have e : p.1 * (D : Int) = Z * p.2 := by
    have : ((p.1 * (D : Int) : Int) : Rat) = ((Z * p.2 : Int) : Rat) := by
      rw [Rat.intCast_mul, Rat.intCast_mul, ← b]
      unfold qv
      grind
    exact Rat.intCast_inj.mp this
  have d : p.2.natAbs ∣ p.1.natAbs * D := by
    have := congrArg Int.natAbs e
    rw [Int.natAbs_mul, Int.natAbs_mul, Int.natAbs_natCast] at this
    rw [this]
    exact Nat.dvd_mul_left _ _
  exact (Nat.Coprime.dvd_of_dvd_mul_left (Nat.Coprime.symm h.fr.2) d)
theorem FinQ.val {D M : Nat} {p : Int × Int} (h : FinQ D M p) (h0 : 0 < D) : p.1.natAbs ≤ M * p.2.natAbs := by
  obtain ⟨Z, a, b⟩ := h.ex
  have e : p.1 * (D : Int) = Z * p.2 := by
    have z := cast_ne h.fr.1
    have : ((p.1 * (D : Int) : Int) : Rat) = ((Z * p.2 : Int) : Rat) := by
      rw [Rat.intCast_mul, Rat.intCast_mul, ← b]
      unfold qv
      grind
    exact Rat.intCast_inj.mp this
  have e2 := congrArg Int.natAbs e
  rw [Int.natAbs_mul, Int.natAbs_mul, Int.natAbs_natCast] at e2
  have : p.1.natAbs ≤ p.1.natAbs * D := Nat.le_mul_of_pos_right _ h0
  rw [e2] at this
  exact Nat.le_trans this (Nat.mul_le_mul_right _ a)
/-- a row whose numbers are so small -/
structure RF (D M : Nat) (r : Row) : Prop where
  can : Can r
  fq : ∀ p ∈ r.2, FinQ D M p
theorem RF.rw {D M b v l s : Nat} {a e : Int} {r : Row} (h : RF D M r) (h0 : 0 < D) (hb : D < 2 ^ b) (hv : M < 2 ^ v) (i : Iv a e r) (h1 : e - a ≤ l) (h2 : -(s : Int) ≤ a) (h3 : e ≤ s) : Rw b v l s r := by
  have r0 : Rw b v r.2.length r.1.natAbs r := ⟨h.can, ⟨D, h0, hb, fun p hp => (h.fq p hp).dv⟩, fun p hp => by
    have a := (h.fq p hp).val h0
    have b := bot_pos (h.can.fr p hp)
    exact Nat.lt_of_le_of_lt a (Nat.mul_lt_mul_of_pos_right hv b), Nat.le_refl _, Nat.le_refl _⟩
  exact r0.span i h1 h2 h3
end BS
set_option exponentiation.threshold 20000
namespace BS
open PySem PySem.Spec PyProof.Rows L2 DL
theorem dicAt_dic {μ : Sto} {n : Nat} {kvs : List (Key × D)} (h : μ[n]? = some (.dic kvs)) : dicAt μ n = some kvs := by unfold dicAt; rw [h]
theorem dicAt_dfz {μ : Sto} {n : Nat} {kvs : List (Key × D)} (h : μ[n]? = some (.dfz kvs)) : dicAt μ n = some kvs := by unfold dicAt; rw [h]
theorem dfzAt_dfz {μ : Sto} {n : Nat} {kvs : List (Key × D)} (h : μ[n]? = some (.dfz kvs)) : dfzAt μ n = some kvs := by unfold dfzAt; rw [h]
theorem dix_ok {μ : Sto} {n : Nat} {ts : List Pl} {k : Int} {p : Int × Int} (h : dicAt μ n = some (kvD ts)) (e : lk ts k = some p) : opDix (.loc n) (.int k) μ = some (frD p, μ) := by
  show (dicAt μ n).bind _ = _
  rw [h, Option.bind_some]
  show ((some (Sum.inl k : Key)).bind fun z => (valD (kvD ts) z).map fun d => (d, μ)) = _
  rw [Option.bind_some, valD_kv, e]
  rfl
theorem din_ok {μ : Sto} {n : Nat} {ts : List Pl} {k : Int} (h : dicAt μ n = some (kvD ts)) : opDin (.int k) (.loc n) μ = some (.bl (lk ts k).isSome, μ) := by
  show (dicAt μ n).bind _ = _
  rw [h, Option.bind_some]
  show ((some (Sum.inl k : Key)).map fun z => (D.bl (valD (kvD ts) z).isSome, μ)) = _
  rw [Option.map_some, valD_kv, Option.isSome_map]
theorem std_ok {μ : Sto} {f : Nat} {acc : List Pl} {k : Int} {p : Int × Int} (h : μ[f]? = some (.dic (kvD acc))) (hl : acc.length < 1000000) : stD (.loc f) (.int k) (frD p) μ = some (μ.set f (.dic (kvD (putT acc k p)))) := by
  unfold stD
  simp only [h]
  show ((some (Sum.inl k : Key)).bind fun z => if (kvD acc).length < sizeLine then some (μ.set f (.dic (putD (kvD acc) z (frD p)))) else none) = _
  rw [Option.bind_some, kvD_len, if_pos (by rw [sizeLine_eq]; omega), putD_kv]
theorem lock_for {i n : Nat} {ts : List Pl} {g : GF} {b : SF} {ρ : Sl} {μ : Sto} {Q : Out → Prop} (hρ : ρ[i]? = some (some (.loc n))) (hμ : μ[n]? = some (.dic (kvD ts))) (I : Nat → Sl → Sto → Prop)
    (hI : ∀ j ρ' μ', I j ρ' μ' → μ'[n]? = some (.dfz (kvD ts))) (h0 : I 0 ρ (μ.set n (.dfz (kvD ts))))
    (step : ∀ (j : Nat) (ρ' : Sl) (μ' : Sto) (h : j < ts.length), I j ρ' μ' → Wp ((g (.int ts[j].1) ρ' μ').bind fun p => b p.1 p.2) fun o => ∃ ρ2 μ2, o = .nx ρ2 μ2 ∧ I (j + 1) ρ2 μ2)
    (q : ∀ ρ' μ', I ts.length ρ' μ' → Q (.nx ρ' (μ'.set n (.dic (kvD ts))))) : Wp (fLock i (fForN (nKey (fVar i)) g b) ρ μ) Q := by
  have hd := hI 0 _ _ h0
  have e1 : fLock i (fForN (nKey (fVar i)) g b) ρ μ = (fForN (nKey (fVar i)) g b ρ (μ.set n (.dfz (kvD ts)))).bind (unl n) := by
    unfold fLock
    rw [hρ]
    simp only [hμ]
  have e2 : nKey (fVar i) ρ (μ.set n (.dfz (kvD ts))) = some (.key n, μ.set n (.dfz (kvD ts))) := by
    unfold nKey fVar
    rw [hρ]
    simp only [Option.bind_some, dfzAt_dfz hd, Option.isSome_some, if_true]
  rw [e1, Wp.bind]
  unfold fForN
  rw [e2, Option.bind_some]
  have el : itLenN (.key n) (μ.set n (.dfz (kvD ts))) = ts.length := by
    show ((dfzAt _ n).getD []).length = _
    rw [dfzAt_dfz hd, Option.getD_some, kvD_len]
  simp only [el]
  refine (loop_genN (n := ts.length) (x := fun j => .int (ts.getD j (0, 0, 1)).1) (I := I) (fun j ρ' μ' h => ?_) (fun j ρ' μ' hj h => ?_) ts.length 0 _ _ rfl h0).mono ?_
  · show (dfzAt μ' n).map _ = _
    rw [dfzAt_dfz (hI j ρ' μ' h), Option.map_some]
    congr 1
    unfold kvD
    rw [List.getElem?_map]
    by_cases hj : j < ts.length
    · rw [if_pos hj, List.getElem?_eq_getElem hj, List.getD_eq_getElem?_getD, List.getElem?_eq_getElem hj]
      rfl
    · rw [if_neg hj, List.getElem?_eq_none (by omega)]
      rfl
  · have := step j ρ' μ' hj h
    rw [List.getD_eq_getElem?_getD, List.getElem?_eq_getElem hj]
    exact this
  · rintro _ ⟨ρ', μ', rfl, h⟩
    refine Wp.of (a := .nx ρ' (μ'.set n (.dic (kvD ts)))) ?_ (q ρ' μ' h)
    show (dfzAt μ' n).map _ = _
    rw [dfzAt_dfz (hI _ _ _ h)]
    rfl
/-- the store while the dict at n is walked and the one at f is filled -/
structure Acc (n f : Nat) (ts : List Pl) (μ0 μ' : Sto) (acc : List Pl) : Prop where
  kp : Kp n μ0 μ'
  dz : μ'[n]? = some (.dfz (kvD ts))
  ac : μ'[f]? = some (.dic (kvD acc))
theorem Acc.put {n f : Nat} {ts acc acc' : List Pl} {μ0 μ' : Sto} (h : Acc n f ts μ0 μ' acc) (hf : μ0.length ≤ f) (ne : f ≠ n) : Acc n f ts μ0 (μ'.set f (.dic (kvD acc'))) acc' :=
  ⟨h.kp.set_out hf, by rw [List.getElem?_set_ne ne]; exact h.dz, List.getElem?_set_self (List.getElem?_eq_some_iff.mp h.ac).1⟩
theorem Acc.done {n f : Nat} {ts acc : List Pl} {μ0 μ' : Sto} (h : Acc n f ts μ0 μ' acc) (h0 : μ0[n]? = some (.dic (kvD ts))) (ne : f ≠ n) : Gr μ0 (μ'.set n (.dic (kvD ts))) ∧ (μ'.set n (.dic (kvD ts)))[f]? = some (.dic (kvD acc)) := by
  refine ⟨gr_of fun i o e => ?_, by rw [List.getElem?_set_ne (Ne.symm ne)]; exact h.ac⟩
  by_cases hi : i = n
  · subst hi
    rw [h0] at e
    cases e
    exact List.getElem?_set_self (List.getElem?_eq_some_iff.mp h.dz).1
  · rw [List.getElem?_set_ne (Ne.symm hi)]
    exact h.kp.at_ i o hi e
theorem Acc.start {n f : Nat} {ts acc : List Pl} {μ0 μ' : Sto} (g : Gr μ0 μ') (h0 : μ0[n]? = some (.dic (kvD ts))) (ne : f ≠ n) (ac : μ'[f]? = some (.dic (kvD acc))) : Acc n f ts μ0 (μ'.set n (.dfz (kvD ts))) acc := by
  have hn := g.get h0
  refine ⟨g.kp.trans Kp.set, List.getElem?_set_self (List.getElem?_eq_some_iff.mp hn).1, by rw [List.getElem?_set_ne (Ne.symm ne)]; exact ac⟩
theorem take_map_snoc {ts : List Pl} {P : Pl → Bool} {φ : Pl → Pl} {j : Nat} (h : j < ts.length) : ((ts.take (j + 1)).filter P).map φ = ((ts.take j).filter P).map φ ++ (if P ts[j] then [φ ts[j]] else []) := by
  rw [take_snoc h, List.filter_append, List.map_append]
  congr 1
  by_cases e : P ts[j] = true
  · rw [if_pos e, List.filter_cons_of_pos e]; rfl
  · rw [if_neg e, List.filter_cons_of_neg e]; rfl
theorem nd_take {ts : List Pl} (nd : Nd ts) {j : Nat} (h : j < ts.length) : ∀ t ∈ ts.take j, t.1 ≠ ts[j].1 := fun t ht z => by
  obtain ⟨k, hk, e⟩ := List.getElem_of_mem ht
  rw [List.length_take] at hk
  rw [List.getElem_take] at e
  unfold Nd at nd
  have a : (ts.map (·.1))[k]'(by simp; omega) = (ts.map (·.1))[j]'(by simpa using h) := by
    rw [List.getElem_map, List.getElem_map, e, z]
  have := (List.getElem_inj nd).mp a
  omega
/-- a loop that stores, or leaves out, what it makes of each place -/
theorem dmap_ok {n f i : Nat} {ts : List Pl} {g : GF} {b : SF} {ρ : Sl} {μ0 μ : Sto} {Q : Out → Prop} {P : Pl → Bool} {φ : Pl → Pl} (R : Sl → Prop) (nd : Nd ts) (hρ : ρ[i]? = some (some (.loc n))) (h0 : μ0[n]? = some (.dic (kvD ts))) (hf : μ0.length ≤ f) (g0 : Gr μ0 μ) (ac : μ[f]? = some (.dic (kvD []))) (hR : R ρ)
    (inj : ∀ t ∈ ts, ∀ u ∈ ts, P t = true → P u = true → (φ t).1 = (φ u).1 → t.1 = u.1)
    (body : ∀ (t : Pl) (ρ' : Sl) (μ' : Sto) (acc : List Pl), t ∈ ts → R ρ' → Acc n f ts μ0 μ' acc → acc.length ≤ ts.length → Wp ((g (.int t.1) ρ' μ').bind fun p => b p.1 p.2) fun o => ∃ ρ2, R ρ2 ∧ o = .nx ρ2 (if P t then μ'.set f (.dic (kvD (putT acc (φ t).1 (φ t).2))) else μ'))
    (q : ∀ ρ' μ', R ρ' → Gr μ0 μ' → μ'[f]? = some (.dic (kvD ((ts.filter P).map φ))) → Q (.nx ρ' μ')) : Wp (fLock i (fForN (nKey (fVar i)) g b) ρ μ) Q := by
  have ne : f ≠ n := by have := (List.getElem?_eq_some_iff.mp h0).1; omega
  refine lock_for hρ (g0.get h0) (fun j ρ' μ' => R ρ' ∧ Acc n f ts μ0 μ' (((ts.take j).filter P).map φ)) (fun j ρ' μ' h => h.2.dz) ⟨hR, Acc.start g0 h0 ne ac⟩ (fun j ρ' μ' hj h => ?_) (fun ρ' μ' h => ?_)
  · have hm : ts[j] ∈ ts := List.getElem_mem hj
    have ll : (((ts.take j).filter P).map φ).length ≤ ts.length := by
      rw [List.length_map]
      have := List.length_filter_le P (ts.take j)
      rw [List.length_take] at this
      omega
    refine (body ts[j] ρ' μ' _ hm h.1 h.2 ll).mono ?_
    rintro _ ⟨ρ2, hR2, rfl⟩
    refine ⟨_, _, rfl, hR2, ?_⟩
    rw [take_map_snoc hj]
    by_cases e : P ts[j] = true
    · rw [if_pos e, if_pos e, put_new (fun t ht z => ?_)]
      · exact h.2.put hf ne
      · obtain ⟨u, hu, rfl⟩ := List.mem_map.mp ht
        obtain ⟨hu1, hu2⟩ := List.mem_filter.mp hu
        exact nd_take nd hj u hu1 (inj u (List.mem_of_mem_take hu1) _ hm hu2 e z)
    · rw [if_neg e, if_neg e, List.append_nil]
      exact h.2
  · rw [List.take_length] at h
    obtain ⟨g1, a1⟩ := h.2.done h0 ne
    exact q _ _ h.1 g1 a1
theorem fm_nd {ts : List Pl} {P : Pl → Bool} {φ : Pl → Pl} (nd : Nd ts) (inj : ∀ t ∈ ts, ∀ u ∈ ts, P t = true → P u = true → (φ t).1 = (φ u).1 → t.1 = u.1) : Nd ((ts.filter P).map φ) := by
  induction ts with
  | nil => exact List.nodup_nil
  | cons t ts ih =>
    have nd' := nd
    unfold Nd at nd'
    rw [List.map_cons, List.nodup_cons] at nd'
    have ih' := ih nd'.2 fun a ha b hb => inj a (List.mem_cons_of_mem _ ha) b (List.mem_cons_of_mem _ hb)
    by_cases e : P t = true
    · rw [List.filter_cons_of_pos e, List.map_cons]
      unfold Nd at ih' ⊢
      rw [List.map_cons, List.nodup_cons]
      refine ⟨fun z => ?_, ih'⟩
      obtain ⟨u, hu, he⟩ := List.mem_map.mp z
      obtain ⟨w, hw, rfl⟩ := List.mem_map.mp hu
      obtain ⟨hw1, hw2⟩ := List.mem_filter.mp hw
      exact nd'.1 (List.mem_map.mpr ⟨w, hw1, inj w (List.mem_cons_of_mem _ hw1) t List.mem_cons_self hw2 e he⟩)
    · rw [List.filter_cons_of_neg e]
      exact ih'
theorem vl_fm (ts : List Pl) (P : Pl → Bool) (φ : Pl → Pl) (k : Int) : vl ((ts.filter P).map φ) k = (ts.map fun t => if P t then (if (φ t).1 = k then qv (φ t).2 else 0) else 0).sum := by
  induction ts with
  | nil => rfl
  | cons t ts ih =>
    rw [List.map_cons, List.sum_cons, ← ih]
    by_cases e : P t = true
    · rw [List.filter_cons_of_pos e, if_pos e]
      unfold vl
      rw [List.map_cons, List.map_cons, List.sum_cons]
    · rw [List.filter_cons_of_neg e, if_neg e]
      grind
theorem sum_congr' {ts : List Pl} {f g : Pl → Rat} (h : ∀ t ∈ ts, f t = g t) : (ts.map f).sum = (ts.map g).sum := by
  congr 1
  exact List.map_congr_left h
theorem sum_scale (c : Rat) : ∀ ts : List Pl, ∀ f : Pl → Rat, (ts.map fun t => c * f t).sum = c * (ts.map f).sum
  | [], f => by show (0 : Rat) = c * 0; grind
  | t :: ts, f => by rw [List.map_cons, List.sum_cons, List.map_cons, List.sum_cons, sum_scale c ts f]; grind
/-- a dict in the store: its places, its row, its sizes -/
structure DD (μ : Sto) (n : Nat) (D M : Nat) (a e : Int) (ts : List Pl) (r : Row) : Prop where
  at_ : μ[n]? = some (.dic (kvD ts))
  nd : Nd ts
  fq : Fq D M ts
  kr : Kr a e ts
  ae : a ≤ e
  of : DOf ts r
theorem DD.gr {μ μ' : Sto} {n D M : Nat} {a e : Int} {ts : List Pl} {r : Row} (h : DD μ n D M a e ts r) (g : Gr μ μ') : DD μ' n D M a e ts r := ⟨g.get h.at_, h.nd, h.fq, h.kr, h.ae, h.of⟩
theorem DD.cf {μ : Sto} {n D M : Nat} {a e : Int} {ts : List Pl} {r : Row} (h : DD μ n D M a e ts r) (k : Int) : BS.cf r k = vl ts k := h.of.cf h.kr h.ae k
theorem DD.len {μ : Sto} {n D M : Nat} {a e : Int} {ts : List Pl} {r : Row} (h : DD μ n D M a e ts r) : (ts.length : Int) ≤ e - a := by
  have nd := h.nd
  have hl : (ts.map (·.1)).length ≤ (e - a).toNat := by
    have sub : ∀ x ∈ ts.map (·.1), x ∈ (List.range (e - a).toNat).map fun (i : Nat) => a + (i : Int) := fun x hx => by
      obtain ⟨t, ht, rfl⟩ := List.mem_map.mp hx
      have h1 := h.kr.lo t ht
      have h2 := h.kr.hi t ht
      exact List.mem_map.mpr ⟨(t.1 - a).toNat, List.mem_range.mpr (by omega), by omega⟩
    have := List.Nodup.length_le_of_subset nd sub
    rw [List.length_map, List.length_map, List.length_range] at this
    rw [List.length_map]
    exact this
  rw [List.length_map] at hl
  have := h.ae
  omega
end BS
set_option exponentiation.threshold 20000
namespace BS
open PySem PySem.Spec PyProof.Rows L2 DL
theorem loop_low (c : TF) (b : SF) (hc : c = (fB (fBin opNe (fVar 3) (fC (.int 0))))) (hb : b = (fPar 2 3 (fCons (fVar 3) (fCons (fBin opMod (fCB cInt (fCons (fVar 2) fNil)) (fVar 3)) fNil)))) (μ : Sto) (d0 d1 : Option D) : ∀ (m x y : Nat), y < m →
    loopW c b m [d0, d1, some (.int x), some (.int y)] μ = some (.nx [d0, d1, some (.int (Nat.gcd x y : Nat)), some (.int 0)] μ)
  | 0, _, _, h => by omega
  | m + 1, x, y, h => by
    unfold loopW
    by_cases hy : y = 0
    · subst hy
      subst hc
      simp [fB, fBin, fVar, fC, ne_int]
    · have hp : (0 : Int) < y := by omega
      have e : (x : Int).fmod y = ((x % y : Nat) : Int) := by
        rw [Int.fmod_eq_emod_of_nonneg _ (by omega)]; rfl
      have ih := loop_low c b hc hb μ d0 d1 m y (x % y) (by have := Nat.mod_lt x (y := y) (by omega); omega)
      have g : Nat.gcd y (x % y) = Nat.gcd x y := by rw [Nat.gcd_comm x y, Nat.gcd_rec y x, Nat.gcd_comm]
      rw [g] at ih
      have hy' : (y : Int) ≠ 0 := by omega
      have hcx : c [d0, d1, some (.int x), some (.int y)] μ = some (true, μ) := by
        rw [hc]
        simp only [fB, fBin, fVar, fC, ne_int, List.getElem?_cons_zero, List.getElem?_cons_succ, Option.bind_some]
        rw [decide_eq_true hy']
      have hbx : b [d0, d1, some (.int x), some (.int y)] μ = some (.nx [d0, d1, some (.int y), some (.int (x % y : Nat))] μ) := by
        rw [hb]
        simp only [fPar, fCons, fNil, fVar, fBin, fCB, cInt, opMod, List.getElem?_cons_zero, List.getElem?_cons_succ, Option.bind_some]
        rw [if_pos hy', e]
        rfl
      rw [hcx]
      simp only [Option.bind_some, if_true]
      rw [hbx]
      exact ih
theorem lowest_ok {μ : Sto} {n m : Int} {a : Nat} {Q : D × Sto → Prop} (h : 0 < m) (hm : m.natAbs < 2 ^ a) (ha : 0 < a ∧ a ≤ 4000) (q : Q (frD (redI n m), μ)) : Wp (F_law_lowest [.int n, .int m] μ) Q := by
  have abs_ : ∀ i : Int, (if i < 0 then -i else i) = (i.natAbs : Nat) := fun i => by split <;> omega
  have L := loop_low _ _ rfl rfl μ (some (.int n)) (some (.int m)) (m.natAbs + 1) n.natAbs m.natAbs (Nat.lt_succ_self _)
  have hg := gcd_pos (n := n) h
  have np : ∀ x : Int, Builtin.divisionGoesByPylong x ((Nat.gcd n.natAbs m.natAbs : Nat) : Int) = false := fun x => noPy_gcd h hm ha
  have nz : ¬ (((Nat.gcd n.natAbs m.natAbs : Nat) : Int) = 0) := by omega
  unfold F_law_lowest
  simp_arith [cAbs, abs_, fuelE, Int.natAbs_natCast]
  refine Wp.of L ?_
  simp_arith [opCmp, h, decide_true, opFdiv, nz, np, div_pos hg, sizeLine_eq, Nat.reduceLeDiff]
  exact q
theorem plus2_ok {μ : Sto} {p r : Int × Int} {Q : D × Sto → Prop} (hp : isFr p) (hr : isFr r) (sp : Sm 1000 p) (sr : Sm 1000 r) (q : Q (frD (addP p r), μ)) : Wp (F_law_plus_2 [frD p, frD r] μ) Q := by
  have m1 : mulOk p.1 r.2 = true := mulOk_of sp.1 sr.2 (by decide) (by decide)
  have m2 : mulOk r.1 p.2 = true := mulOk_of sr.1 sp.2 (by decide) (by decide)
  have m3 : mulOk p.2 r.2 = true := mulOk_of sp.2 sr.2 (by decide) (by decide)
  unfold F_law_plus_2 frD
  simp_arith [opIx, atI_0, atI_1, opMulX, opMul, opAddX, opAdd, m1, m2, m3]
  exact lowest_ok (Int.mul_pos hp.1 hr.1) (mul_lt sp.2 sr.2) (by decide) q
theorem dd_fm {μ μ' : Sto} {n f D M D' M' : Nat} {a e a' e' : Int} {ts : List Pl} {r r' : Row} {P : Pl → Bool} {φ : Pl → Pl} (d : DD μ n D M a e ts r) (at' : μ'[f]? = some (.dic (kvD ((ts.filter P).map φ))))
    (inj : ∀ t ∈ ts, ∀ u ∈ ts, P t = true → P u = true → (φ t).1 = (φ u).1 → t.1 = u.1) (fq : ∀ t ∈ ts, P t = true → FinQ D' M' (φ t).2) (kr : ∀ t ∈ ts, P t = true → a' ≤ (φ t).1 ∧ (φ t).1 < e') (ae : a' ≤ e') (c : Can r')
    (hc : ∀ k, BS.cf r' k = (ts.map fun t => if P t then (if (φ t).1 = k then qv (φ t).2 else 0) else 0).sum) : DD μ' f D' M' a' e' ((ts.filter P).map φ) r' := by
  have mem : ∀ t ∈ (ts.filter P).map φ, ∃ u, u ∈ ts ∧ P u = true ∧ t = φ u := fun t ht => by
    obtain ⟨u, hu, rfl⟩ := List.mem_map.mp ht
    obtain ⟨hu1, hu2⟩ := List.mem_filter.mp hu
    exact ⟨u, hu1, hu2, rfl⟩
  have k' : Kr a' e' ((ts.filter P).map φ) := ⟨fun t ht => by obtain ⟨u, h1, h2, rfl⟩ := mem t ht; exact (kr u h1 h2).1, fun t ht => by obtain ⟨u, h1, h2, rfl⟩ := mem t ht; exact (kr u h1 h2).2⟩
  exact ⟨at', fm_nd d.nd inj, fun t ht => by obtain ⟨u, h1, h2, rfl⟩ := mem t ht; exact fq u h1 h2, k', ae, DOf.of_cf c k' ae fun k => by rw [hc, vl_fm]⟩
theorem filt_true (ts : List Pl) (φ : Pl → Pl) : (ts.filter fun _ => true).map φ = ts.map φ := by rw [List.filter_eq_self.mpr fun _ _ => rfl]
theorem clean_ok {μ : Sto} {n D M : Nat} {a e : Int} {ts : List Pl} {r : Row} {Q : DL.D × Sto → Prop} (d : DD μ n D M a e ts r) (hl : e - a ≤ 900000) (q : ∀ f μ', DD μ' f D M a e (ts.filter fun t => decide (t.2.1 ≠ 0)) r → μ.length ≤ f → Gr μ μ' → Q (.loc f, μ')) : Wp (F_law_clean [.loc n] μ) Q := by
  have ln := d.len
  have inj : ∀ t ∈ ts, ∀ u ∈ ts, (decide (t.2.1 ≠ 0)) = true → (decide (u.2.1 ≠ 0)) = true → (id t : Pl).1 = (id u : Pl).1 → t.1 = u.1 := fun t _ u _ _ _ z => z
  refine def_wp rfl (sq_wp ?_)
  simp_arith []
  refine sq_rest ?_
  refine dmap_ok (fun ρ => ∃ c, ρ = [some (.loc n), some (.loc μ.length), c]) (P := fun t => decide (t.2.1 ≠ 0)) (φ := id) (f := μ.length) (n := n) (ts := ts) (μ0 := μ) d.nd rfl d.at_ (Nat.le_refl _) Gr.app (by simp; rfl) ⟨_, rfl⟩ inj ?_ ?_
  · rintro t ρ' μ' acc ht ⟨c, rfl⟩ A hl'
    have ga := dix_ok (dicAt_dfz A.dz) (lk_of d.nd ht)
    have st := std_ok (k := t.1) (p := t.2) A.ac (by omega)
    have g0 : opIx (frD t.2) (.int 0) μ' = some (.int t.2.1, μ') := by unfold frD; rfl
    refine gNm_bind ?_
    simp_arith [ga, g0, ne_int, st]
    refine ⟨fun h => ⟨[some (.loc n), some (.loc μ.length), some (.int t.1)], ⟨_, rfl⟩, ?_⟩, fun h => ⟨[some (.loc n), some (.loc μ.length), some (.int t.1)], ⟨_, rfl⟩, ?_⟩⟩
    · rw [if_pos h]
    · rw [if_neg h]
  · rintro ρ' μ' ⟨c, rfl⟩ g at'
    refine rest (ret_wp ?_)
    simp_arith []
    have at2 : μ'[μ.length]? = some (.dic (kvD ((ts.filter fun t => decide (t.2.1 ≠ 0)).map id))) := at'
    have dd := dd_fm d at2 inj (fun t ht _ => d.fq t ht) (fun t ht _ => ⟨d.kr.lo t ht, d.kr.hi t ht⟩) d.ae d.of.can (fun k => by
      rw [d.cf]
      refine sum_congr' fun t ht => ?_
      by_cases h : t.2.1 ≠ 0
      · rw [if_pos (decide_eq_true h)]; rfl
      · have z : qv t.2 = 0 := (qv_zero (d.fq t ht).fr.1).mpr (by simpa using h)
        rw [show (if decide (t.2.1 ≠ 0) = true then (if (id t : Pl).1 = k then qv (id t : Pl).2 else 0) else (0 : Rat)) = 0 from if_neg (by simpa using h), z]
        split <;> rfl)
    rw [List.map_id] at dd
    exact q _ _ dd (Nat.le_refl _) g
end BS
set_option exponentiation.threshold 20000
namespace BS
open PySem PySem.Spec PyProof.Rows L2 DL
def sg (k : Int) : Rat := if k % 2 = 0 then 1 else -1
def negR (r : Row) : Row := sclR (-1, 1) r
end BS
set_option exponentiation.threshold 20000
namespace BS
open PySem PySem.Spec PyProof.Rows L2 DL
/-- what a filling dict keeps -/
structure Au (D A B : Nat) (a e : Int) (j : Nat) (acc : List Pl) : Prop where
  nd : Nd acc
  fq : Fq D (A + j * B) acc
  kr : Kr a e acc
theorem nd_len {ts : List Pl} {a e : Int} (nd : Nd ts) (kr : Kr a e ts) (ae : a ≤ e) : (ts.length : Int) ≤ e - a := by
  have hl : (ts.map (·.1)).length ≤ (e - a).toNat := by
    have sub : ∀ x ∈ ts.map (·.1), x ∈ (List.range (e - a).toNat).map fun (i : Nat) => a + (i : Int) := fun x hx => by
      obtain ⟨t, ht, rfl⟩ := List.mem_map.mp hx
      have h1 := kr.lo t ht
      have h2 := kr.hi t ht
      exact List.mem_map.mpr ⟨(t.1 - a).toNat, List.mem_range.mpr (by omega), by omega⟩
    have := List.Nodup.length_le_of_subset nd sub
    rw [List.length_map, List.length_map, List.length_range] at this
    rw [List.length_map]
    exact this
  rw [List.length_map] at hl
  omega
theorem Au.up {D A B : Nat} {a e : Int} {j : Nat} {acc : List Pl} (h : Au D A B a e j acc) {k : Int} {p : Int × Int} (hp : FinQ D B p) (hk : a ≤ k ∧ k < e) : Au D A B a e (j + 1) (upK acc k p) := by
  have e1 : A + (j + 1) * B = A + j * B + B := by rw [Nat.add_mul, Nat.one_mul]; omega
  refine ⟨up_nd h.nd _ _, fun t ht => ?_, ⟨fun t ht => ?_, fun t ht => ?_⟩⟩
  · rw [e1]
    rcases up_mem ht with ht | rfl | ⟨q, hq, rfl⟩
    · exact (h.fq t ht).mono (by omega)
    · exact hp.mono (by omega)
    · exact (h.fq _ hq).add hp
  · rcases up_mem ht with ht | rfl | ⟨q, hq, rfl⟩
    · exact h.kr.lo t ht
    · exact hk.1
    · exact hk.1
  · rcases up_mem ht with ht | rfl | ⟨q, hq, rfl⟩
    · exact h.kr.hi t ht
    · exact hk.2
    · exact hk.2
theorem Au.evt {D A B : Nat} {a e : Int} {j : Nat} {acc : List Pl} (h : Au D A B a e j acc) {k : Int} {p : Int × Int} (hp : FinQ D B p) (x : Rat) : BS.evt (upK acc k p) x = BS.evt acc x + qv p * x ^ k := up_evt h.nd hp.fr (fun t ht => (h.fq t ht).fr) x
theorem Au.dd {D A B : Nat} {a e : Int} {j : Nat} {acc : List Pl} {r : Row} {μ : Sto} {n : Nat} (h : Au D A B a e j acc) (ae : a ≤ e) (at' : μ[n]? = some (.dic (kvD acc))) (c : Can r) (hv : ∀ x : Rat, x ≠ 0 → ev r x = BS.evt acc x) : DD μ n D (A + j * B) a e acc r := ⟨at', h.nd, h.fq, h.kr, ae, c, hv⟩
theorem evt_take {ts : List Pl} {j : Nat} (h : j < ts.length) (x : Rat) : evt (ts.take (j + 1)) x = evt (ts.take j) x + qv ts[j].2 * x ^ ts[j].1 := by rw [take_snoc h, evt_app, evt_one]
/-- a loop over a dict that adds, place by place -/
theorem sum2_ok {μ : Sto} {m n D M E N : Nat} {a e : Int} {ts us : List Pl} {r s : Row} {Q : DL.D × Sto → Prop} (d : DD μ m D M a e ts r) (f : DD μ n E N a e us s) (hl : e - a ≤ 1000) (h0 : 0 < D * E) (h1 : D * E < 2 ^ 1000) (h2 : M * E + 1000 * (N * D) < 2 ^ 1000)
    (q : ∀ f μ' vs, DD μ' f (D * E) (M * E + 1000 * (N * D)) a e vs (addR r s) → μ.length ≤ f → Gr μ μ' → Q (.loc f, μ')) : Wp (F_law_sum_2 [.loc m, .loc n] μ) Q := by
  have ln := d.len
  have lf := f.len
  have inj : ∀ t ∈ ts, ∀ u ∈ ts, (fun _ : Pl => true) t = true → (fun _ : Pl => true) u = true → (id t : Pl).1 = (id u : Pl).1 → t.1 = u.1 := fun t _ u _ _ _ z => z
  refine def_wp rfl (sq_wp ?_)
  simp_arith []
  refine sq_rest (rest ?_)
  refine dmap_ok (fun ρ => ∃ c, ρ = [some (.loc m), some (.loc n), some (.loc μ.length), c]) (P := fun _ => true) (φ := id) (f := μ.length) (n := m) (ts := ts) (μ0 := μ) d.nd rfl d.at_ (Nat.le_refl _) Gr.app (by simp; rfl) ⟨_, rfl⟩ inj ?_ ?_
  · rintro t ρ' μ' acc ht ⟨c, rfl⟩ A hl'
    have ga := dix_ok (dicAt_dfz A.dz) (lk_of d.nd ht)
    have st := std_ok (k := t.1) (p := t.2) A.ac (by omega)
    refine gNm_bind ?_
    simp_arith [ga, st]
    exact ⟨_, ⟨_, rfl⟩, rfl⟩
  rintro ρ1 μ1 ⟨c, rfl⟩ g1 at1
  have at2 : μ1[μ.length]? = some (.dic (kvD ts)) := by rw [filt_true, List.map_id] at at1; exact at1
  have ne : μ.length ≠ n := by have := (List.getElem?_eq_some_iff.mp f.at_).1; omega
  have lift1 : ∀ t ∈ ts, FinQ (D * E) (M * E) t.2 := fun t ht => (d.fq t ht).lift E
  have lift2 : ∀ t ∈ us, FinQ (D * E) (N * D) t.2 := fun t ht => by have := (f.fq t ht).lift D; rw [Nat.mul_comm E D] at this; exact this
  have a0 : Au (D * E) (M * E) (N * D) a e 0 ts := ⟨d.nd, fun t ht => (lift1 t ht).mono (by omega), d.kr⟩
  refine rest (sq_rest ?_)
  refine lock_for (i := 1) (n := n) (ts := us) rfl (g1.get f.at_) (fun j ρ' μ' => ∃ c acc, ρ' = [some (.loc m), some (.loc n), some (.loc μ.length), c] ∧ Acc n μ.length us μ μ' acc ∧ Au (D * E) (M * E) (N * D) a e j acc ∧ ∀ x : Rat, evt acc x = evt ts x + evt (us.take j) x) (fun j ρ' μ' h => by obtain ⟨c, acc, _, A, _⟩ := h; exact A.dz) ⟨_, _, rfl, Acc.start g1 f.at_ ne at2, a0, fun x => by show _ = _ + (0 : Rat); grind⟩ ?_ ?_
  · rintro j ρ' μ' hj ⟨c, acc, rfl, A, au, hv⟩
    have hm : us[j] ∈ us := List.getElem_mem hj
    have la := nd_len au.nd au.kr d.ae
    have hk : a ≤ us[j].1 ∧ us[j].1 < e := ⟨f.kr.lo _ hm, f.kr.hi _ hm⟩
    have ga := dix_ok (dicAt_dfz A.dz) (lk_of f.nd hm)
    have gi := din_ok (k := us[j].1) (dicAt_dic A.ac)
    have st := fun p => std_ok (k := us[j].1) (p := p) A.ac (by omega)
    have j1 : j * (N * D) ≤ 1000 * (N * D) := Nat.mul_le_mul_right _ (by omega)
    refine gNm_bind ?_
    simp_arith [gi]
    cases hlk : lk acc us[j].1 with
    | none =>
      simp_arith [Option.isSome_none, ga, st, Bool.false_eq_true]
      refine ⟨_, _, rfl, _, upK acc us[j].1 us[j].2, rfl, ?_, au.up (lift2 _ hm) hk, fun x => by rw [au.evt (lift2 _ hm), hv, evt_take hj]; grind⟩
      have : upK acc us[j].1 us[j].2 = putT acc us[j].1 us[j].2 := by unfold upK; rw [hlk]
      rw [this]
      exact A.put (Nat.le_refl _) ne
    | some p =>
      have gp := dix_ok (dicAt_dic A.ac) hlk
      have fp := au.fq _ (lk_mem hlk)
      have fu := lift2 _ hm
      simp_arith [Option.isSome_some, ga, gp]
      refine plus2_ok fp.fr fu.fr (fp.sm h0 h1 (by omega)) (fu.sm h0 h1 (by omega)) ?_
      simp_arith [st]
      refine ⟨_, _, rfl, _, upK acc us[j].1 us[j].2, rfl, ?_, au.up (lift2 _ hm) hk, fun x => by rw [au.evt (lift2 _ hm), hv, evt_take hj]; grind⟩
      have : upK acc us[j].1 us[j].2 = putT acc us[j].1 (addP p us[j].2) := by unfold upK; rw [hlk]
      rw [this]
      exact A.put (Nat.le_refl _) ne
  · rintro ρ' μ' ⟨c, acc, rfl, A, au, hv⟩
    obtain ⟨g2, at3⟩ := A.done f.at_ ne
    refine rest (ret_wp ?_)
    simp_arith []
    rw [List.take_length] at hv
    have dd := au.dd (r := addR r s) d.ae at3 (addR_can d.of.can f.of.can) (fun x hx => by rw [addR_ev d.of.can f.of.can hx, hv, d.of.ev x hx, f.of.ev x hx])
    have j1 : us.length * (N * D) ≤ 1000 * (N * D) := Nat.mul_le_mul_right _ (by omega)
    refine clean_ok dd (by omega) fun f2 μ2 d2 hf2 g3 => ?_
    exact q _ _ _ ⟨d2.at_, d2.nd, fun t ht => (d2.fq t ht).mono (by omega), d2.kr, d2.ae, d2.of⟩ (by have := (List.getElem?_eq_some_iff.mp at3).1; omega) (g2.trans g3)
end BS
set_option exponentiation.threshold 20000
namespace BS
open PySem PySem.Spec PyProof.Rows L2 DL
theorem Acc.base {n f : Nat} {ts acc : List Pl} {μ0 μ' : Sto} (h : Acc n f ts μ0 μ' acc) (hn : n < μ0.length) : Gr (μ0.set n (.dfz (kvD ts))) μ' := gr_of fun i o e => by
  by_cases hi : i = n
  · subst hi
    rw [List.getElem?_set_self hn] at e
    cases e
    exact h.dz
  · rw [List.getElem?_set_ne (Ne.symm hi)] at e
    exact h.kp.at_ i o hi e
end BS
set_option exponentiation.threshold 20000
namespace BS
open PySem PySem.Spec PyProof.Rows L2 DL
theorem lock_st {i n : Nat} {kvs : List (Key × D)} {f : SF} {ρ : Sl} {μ : Sto} {Q : Out → Prop} (hρ : ρ[i]? = some (some (.loc n))) (hμ : μ[n]? = some (.dic kvs))
    (h : Wp (f ρ (μ.set n (.dfz kvs))) fun o => ∃ ρ' μ', o = .nx ρ' μ' ∧ μ'[n]? = some (.dfz kvs) ∧ Q (.nx ρ' (μ'.set n (.dic kvs)))) : Wp (fLock i f ρ μ) Q := by
  have e1 : fLock i f ρ μ = (f ρ (μ.set n (.dfz kvs))).bind (unl n) := by
    unfold fLock
    rw [hρ]
    simp only [hμ]
  rw [e1, Wp.bind]
  refine h.mono ?_
  rintro _ ⟨ρ', μ', rfl, h1, h2⟩
  refine Wp.of (a := .nx ρ' (μ'.set n (.dic kvs))) ?_ h2
  show (dfzAt μ' n).map _ = _
  rw [dfzAt_dfz h1]
  rfl
theorem range_filt {α β : Type} (z : α) (xs : List α) (P : α → Bool) (f : α → β) : (((List.range xs.length).filter fun i => P (xs.getD i z)).map fun i => f (xs.getD i z)) = (xs.filter P).map f := by
  have e := range_all z xs (fun x => x)
  rw [List.map_id'] at e
  conv => rhs; rw [← e, List.filter_map, List.map_map]
  rfl
def nzT (ts : List Pl) : List Int := (ts.filter fun t => decide (t.2.1 ≠ 0)).map (·.1)
theorem nz_mem {ts : List Pl} {k : Int} : k ∈ nzT ts ↔ ∃ t, t ∈ ts ∧ t.1 = k ∧ t.2.1 ≠ 0 := by
  unfold nzT
  rw [List.mem_map]
  constructor
  · rintro ⟨t, ht, rfl⟩
    obtain ⟨h1, h2⟩ := List.mem_filter.mp ht
    exact ⟨t, h1, rfl, of_decide_eq_true h2⟩
  · rintro ⟨t, h1, rfl, h2⟩
    exact ⟨t, List.mem_filter.mpr ⟨h1, decide_eq_true h2⟩, rfl⟩
def toldL (ts : List Pl) (lo : Int) (n : Nat) : FrL := (List.range n).map fun (i : Nat) => (lk ts (lo + (i : Int))).getD (0, 1)
theorem told_get {ts : List Pl} {lo : Int} {n i : Nat} (h : i < n) : (toldL ts lo n).getD i (0, 1) = (lk ts (lo + (i : Int))).getD (0, 1) := by
  unfold toldL
  rw [List.getD_eq_getElem?_getD, List.getElem?_map, List.getElem?_range h]
  rfl
theorem told_len (ts : List Pl) (lo : Int) (n : Nat) : (toldL ts lo n).length = n := by unfold toldL; simp
theorem lkD_fr {D M : Nat} {ts : List Pl} (h : Fq D M ts) (k : Int) : isFr ((lk ts k).getD (0, 1)) := by
  cases e : lk ts k with
  | none => exact ⟨by decide, by decide⟩
  | some p => exact (h _ (lk_mem e)).fr
theorem lkD_vl {ts : List Pl} (nd : Nd ts) (k : Int) : qv ((lk ts k).getD (0, 1)) = vl ts k := by
  rw [vl_of nd]
  cases lk ts k with
  | none => exact qv01
  | some p => rfl
theorem cf_out0 {μ : Sto} {n D M : Nat} {a e : Int} {ts : List Pl} {r : Row} (d : DD μ n D M a e ts r) {k : Int} (h : k ∉ nzT ts) : cf r k = 0 := by
  rw [d.cf, vl_of d.nd]
  cases el : lk ts k with
  | none => rfl
  | some p =>
    show qv p = 0
    have hm := lk_mem el
    rw [qv_zero (d.fq _ hm).fr.1]
    apply Classical.byContradiction
    intro z
    exact h (nz_mem.mpr ⟨_, hm, rfl, z⟩)
theorem told_nil {μ : Sto} {n D M : Nat} {a e : Int} {ts : List Pl} {r : Row} (d : DD μ n D M a e ts r) (h : nzT ts = []) : r = (0, []) := by
  refine d.of.can.ext can_nil fun k => ?_
  rw [cf_out0 d (by rw [h]; exact List.not_mem_nil), cf_nil rfl]
theorem told_eq {μ : Sto} {n D M : Nat} {a e : Int} {ts : List Pl} {r : Row} (d : DD μ n D M a e ts r) {lo hi : Int} (h1 : lo ∈ nzT ts) (h2 : hi ∈ nzT ts) (h3 : ∀ k ∈ nzT ts, lo ≤ k ∧ k ≤ hi) : r = (lo, toldL ts lo (hi + 1 - lo).toNat) := by
  have lh := (h3 lo h1).2
  have nzv : ∀ k ∈ nzT ts, ((lk ts k).getD (0, 1)).1 ≠ 0 := fun k hk => by
    obtain ⟨t, ht, rfl, nz⟩ := nz_mem.mp hk
    rw [lk_of d.nd ht]
    exact nz
  refine d.of.can.ext ⟨fun p hp => ?_, fun z => ?_, fun _ => ?_, fun _ => ?_⟩ fun k => ?_
  · obtain ⟨i, _, rfl⟩ := List.mem_map.mp hp
    exact lkD_fr d.fq _
  · have := told_len ts lo (hi + 1 - lo).toNat
    rw [show toldL ts lo (hi + 1 - lo).toNat = [] from z] at this
    simp at this
    omega
  · show ((toldL ts lo (hi + 1 - lo).toNat).getD 0 (0, 1)).1 ≠ 0
    rw [told_get (by omega), show lo + ((0 : Nat) : Int) = lo by omega]
    exact nzv _ h1
  · show ((toldL ts lo (hi + 1 - lo).toNat).getD ((toldL ts lo (hi + 1 - lo).toNat).length - 1) (0, 1)).1 ≠ 0
    rw [told_len, told_get (by omega), show lo + (((hi + 1 - lo).toNat - 1 : Nat) : Int) = hi by omega]
    exact nzv _ h2
  · show _ = qv (atR (lo, toldL ts lo (hi + 1 - lo).toNat) k)
    unfold atR
    simp only [told_len]
    by_cases g : 0 ≤ k - lo ∧ k - lo < ((hi + 1 - lo).toNat : Nat)
    · rw [if_pos g, told_get (by omega), show lo + ((k - lo).toNat : Int) = k by omega, lkD_vl d.nd, d.cf]
    · rw [if_neg g, qv01]
      exact cf_out0 d fun hk => by have := h3 k hk; omega
end BS
set_option exponentiation.threshold 20000
namespace BS
open PySem PySem.Spec PyProof.Rows L2 DL
structure Sml (p : Int × Int) : Prop where
  fr : isFr p
  bot : p.2.natAbs ≤ 1000
  top : p.1.natAbs < 2 ^ 30
/-- every dict of places has its row -/
theorem row_of {D M : Nat} {a e : Int} {ts : List Pl} (nd : Nd ts) (fq : Fq D M ts) (kr : Kr a e ts) (ae : a ≤ e) : ∃ r, DOf ts r := by
  have hf : ∀ p ∈ toldL ts a (e - a).toNat, isFr p := fun p hp => by
    obtain ⟨i, _, rfl⟩ := List.mem_map.mp hp
    exact lkD_fr fq _
  refine ⟨trimR a (toldL ts a (e - a).toNat), DOf.of_cf (trimR_can hf a) kr ae fun k => ?_⟩
  rw [cf_trim hf, told_len]
  by_cases g : 0 ≤ k - a ∧ k - a < ((e - a).toNat : Nat)
  · rw [if_pos g, told_get (by omega), show a + ((k - a).toNat : Int) = k by omega, lkD_vl nd]
  · rw [if_neg g]
    exact (vl_sup kr ae k (by omega)).symm
theorem mem_at {r : Row} {p : Int × Int} (h : p ∈ r.2) : ∃ k, atR r k = p := by
  obtain ⟨i, hi, rfl⟩ := List.getElem_of_mem h
  refine ⟨r.1 + (i : Int), ?_⟩
  unfold atR
  rw [if_pos (by omega), show r.1 + (i : Int) - r.1 = (i : Int) by omega, Int.toNat_natCast, List.getD_eq_getElem?_getD, List.getElem?_eq_getElem hi]
  rfl
theorem DD.rf {μ : Sto} {n D M : Nat} {a e : Int} {ts : List Pl} {r : Row} (d : DD μ n D M a e ts r) : RF D M r := by
  refine ⟨d.of.can, fun p hp => ?_⟩
  obtain ⟨k, rfl⟩ := mem_at hp
  have e1 : atR r k = (lk ts k).getD (0, 1) := qv_inj (d.of.can.fr _ hp) (lkD_fr d.fq k) (by rw [lkD_vl d.nd, ← d.cf]; rfl)
  rw [e1]
  cases hlk : lk ts k with
  | none => exact FinQ.zero.mono (Nat.zero_le _)
  | some q => exact d.fq _ (lk_mem hlk)
theorem DD.iv {μ : Sto} {n D M : Nat} {a e : Int} {ts : List Pl} {r : Row} (d : DD μ n D M a e ts r) : Iv a e r := by
  have out : ∀ k, (k < a ∨ e ≤ k) → BS.cf r k = 0 := fun k h => by rw [d.cf]; exact vl_sup d.kr d.ae k (by have := d.ae; omega)
  refine ⟨fun n => ?_, fun n => ?_⟩
  · apply Classical.byContradiction
    intro z
    have h := out r.1 (by omega)
    have l := List.length_pos_iff.mpr n
    unfold BS.cf atR at h
    rw [if_pos (by omega), show r.1 - r.1 = 0 by omega] at h
    exact d.of.can.lo n ((qv_zero (getD_fr d.of.can.fr _).1).mp h)
  · apply Classical.byContradiction
    intro z
    have l := List.length_pos_iff.mpr n
    have h := out (r.1 + (r.2.length : Nat) - 1) (by omega)
    unfold BS.cf atR at h
    rw [if_pos (by omega), show (r.1 + (r.2.length : Nat) - 1 - r.1).toNat = r.2.length - 1 by omega] at h
    exact d.of.can.hi n ((qv_zero (getD_fr d.of.can.fr _).1).mp h)
/-- what is drawn: at most six places -/
structure Din (μ : Sto) (f : Nat) (a : Int) (r : Row) : Prop where
  ex : ∃ D ts, DD μ f D (2 ^ 42 * D) a (a + 6) ts r ∧ 0 < D ∧ D < 2 ^ 120
end BS
set_option exponentiation.threshold 20000
namespace BS
open PySem PySem.Spec PyProof.Rows L2 DL
structure Fil (low : Int) (i : Nat) (acc : List Pl) : Prop where
  keys : acc.map (·.1) = (List.range (i + 1)).map fun (j : Nat) => low + (j : Int)
  sml : ∀ t ∈ acc, Sml t.2
  fst : ∃ p rest, acc = (low, p) :: rest ∧ p.1 ≠ 0
theorem Fil.len {low : Int} {i : Nat} {acc : List Pl} (h : Fil low i acc) : acc.length = i + 1 := by
  have := congrArg List.length h.keys
  simpa using this
theorem Fil.key {low : Int} {i : Nat} {acc : List Pl} (h : Fil low i acc) {t : Pl} (ht : t ∈ acc) : low ≤ t.1 ∧ t.1 < low + (i : Nat) + 1 := by
  have : t.1 ∈ acc.map (·.1) := List.mem_map.mpr ⟨t, ht, rfl⟩
  rw [h.keys] at this
  obtain ⟨j, hj, e⟩ := List.mem_map.mp this
  have := List.mem_range.mp hj
  omega
theorem Fil.nd {low : Int} {i : Nat} {acc : List Pl} (h : Fil low i acc) : Nd acc := by
  unfold Nd
  rw [h.keys]
  exact List.Pairwise.map _ (fun a b (h : a ≠ b) => by omega) List.nodup_range
/-- a drawn dict: all its numbers small, some place not nought -/
structure Drn (μ : Sto) (f : Nat) (low : Int) (ts : List Pl) (r : Row) (D : Nat) : Prop where
  dd : DD μ f D (2 ^ 42 * D) low (low + 6) ts r
  d0 : 0 < D
  d1 : D < 2 ^ 120
  sml : ∀ t ∈ ts, Sml t.2
  ne : r.2 ≠ []
end BS
set_option exponentiation.threshold 20000
namespace BS
open PySem PySem.Spec PyProof.Rows L2 DL
theorem DD.kp {μ μ' : Sto} {n f D M : Nat} {a e : Int} {ts : List Pl} {r : Row} (h : DD μ f D M a e ts r) (k : Kp n μ μ') (hf : f ≠ n) : DD μ' f D M a e ts r := ⟨k.at_ f _ hf h.at_, h.nd, h.fq, h.kr, h.ae, h.of⟩
theorem Drn.kp {μ μ' : Sto} {n f D : Nat} {low : Int} {ts : List Pl} {r : Row} (h : Drn μ f low ts r D) (k : Kp n μ μ') (hf : f ≠ n) : Drn μ' f low ts r D := ⟨h.dd.kp k hf, h.d0, h.d1, h.sml, h.ne⟩
theorem Din.kp {μ μ' : Sto} {n f : Nat} {a : Int} {r : Row} (h : Din μ f a r) (k : Kp n μ μ') (hf : f ≠ n) : Din μ' f a r := let ⟨D, ts, d, p, q⟩ := h.ex; ⟨D, ts, d.kp k hf, p, q⟩
theorem Din.gr {μ μ' : Sto} {f : Nat} {a : Int} {r : Row} (h : Din μ f a r) (k : Gr μ μ') : Din μ' f a r := let ⟨D, ts, d, p, q⟩ := h.ex; ⟨D, ts, d.gr k, p, q⟩
theorem Din.lt {μ : Sto} {f : Nat} {a : Int} {r : Row} (h : Din μ f a r) : f < μ.length := let ⟨_, _, d, _⟩ := h.ex; (List.getElem?_eq_some_iff.mp d.at_).1
theorem Drn.lt {μ : Sto} {f D : Nat} {a : Int} {ts : List Pl} {r : Row} (h : Drn μ f a ts r D) : f < μ.length := (List.getElem?_eq_some_iff.mp h.dd.at_).1
theorem m42 {D : Nat} (h : D < 2 ^ 120) : D < 2 ^ 1000 ∧ 2 ^ 42 * D < 2 ^ 162 := by
  have : (2 : Nat) ^ 120 ≤ 2 ^ 1000 := Nat.pow_le_pow_right (by decide) (by decide)
  have e : (2 : Nat) ^ 162 = 2 ^ 42 * 2 ^ 120 := by decide +kernel
  rw [e]
  exact ⟨by omega, Nat.mul_lt_mul_of_pos_left h (by decide)⟩
theorem Sml.sm {p : Int × Int} (h : Sml p) : Sm 1000 p := sm_small (Nat.lt_trans h.top (by decide)) (Nat.lt_of_le_of_lt h.bot (by decide))
end BS
set_option exponentiation.threshold 20000
namespace BS
open PySem PySem.Spec PyProof.Rows L2 DL
end BS
set_option exponentiation.threshold 20000
namespace BS
open PySem PySem.Spec PyProof.Rows L2 DL
end BS
set_option exponentiation.threshold 20000
namespace BS
open PySem PySem.Spec PyProof.Rows L2 DL
theorem Din.rw {μ : Sto} {f : Nat} {a : Int} {r : Row} (d : Din μ f a r) (ha : -910 ≤ a ∧ a ≤ 910) : Rw 120 162 6 916 r ∧ Iv a (a + 6) r := by
  obtain ⟨D, ts, dd, d0, d1⟩ := d.ex
  have mm := m42 d1
  exact ⟨dd.rf.rw d0 d1 mm.2 dd.iv (by omega) (by omega) (by omega), dd.iv⟩
theorem sh_fr {p : Int × Int} (h : Sm 1000 p) : Sh 5 1 700 (frD p) := by
  have p10 : (2 : Nat) ^ 1000 < 10 ^ 302 := by decide +kernel
  have p19 : (2 : Nat) ^ 1000 ≤ 2 ^ 1900 := Nat.pow_le_pow_right (by decide) (by decide)
  refine (Sh.tup (f0 := 1) (dp := 0) (n := 303) (ds := [.int p.1, .int p.2]) fun d hd => ?_).mono (by simp) (by decide) (by simp)
  simp only [List.mem_cons, List.not_mem_nil, or_false] at hd
  rcases hd with rfl | rfl
  · exact Sh.int (by decide) (Nat.lt_trans h.1 p10) (Nat.lt_of_lt_of_le h.1 p19)
  · exact Sh.int (by decide) (Nat.lt_trans h.2 p10) (Nat.lt_of_lt_of_le h.2 p19)
end BS
set_option exponentiation.threshold 20000
namespace BS
open PySem PySem.Spec PyProof.Rows L2 DL
/-- a dict with bounds in powers of two -/
structure DB (μ : Sto) (f b m : Nat) (a e : Int) (r : Row) : Prop where
  ex : ∃ D M ts, DD μ f D M a e ts r ∧ 0 < D ∧ D < 2 ^ b ∧ M < 2 ^ m
theorem DB.gr {μ μ' : Sto} {f b m : Nat} {a e : Int} {r : Row} (h : DB μ f b m a e r) (g : Gr μ μ') : DB μ' f b m a e r := let ⟨D, M, ts, d, p⟩ := h.ex; ⟨D, M, ts, d.gr g, p⟩
theorem DB.lt {μ : Sto} {f b m : Nat} {a e : Int} {r : Row} (h : DB μ f b m a e r) : f < μ.length := let ⟨_, _, _, d, _⟩ := h.ex; (List.getElem?_eq_some_iff.mp d.at_).1
theorem DB.span {μ : Sto} {f b m : Nat} {a e a' e' : Int} {r : Row} (h : DB μ f b m a e r) (h1 : a' ≤ a) (h2 : e ≤ e') : DB μ f b m a' e' r := let ⟨D, M, ts, d, p⟩ := h.ex; ⟨D, M, ts, ⟨d.at_, d.nd, d.fq, ⟨fun t ht => Int.le_trans h1 (d.kr.lo t ht), fun t ht => Int.lt_of_lt_of_le (d.kr.hi t ht) h2⟩, by have := d.ae; omega, d.of⟩, p⟩
theorem pw {a b : Nat} (h : a ≤ b) : (2 : Nat) ^ a ≤ 2 ^ b := Nat.pow_le_pow_right (by decide) h
theorem mulpw {x y a b : Nat} (hx : x < 2 ^ a) (hy : y < 2 ^ b) : x * y < 2 ^ (a + b) := by
  rw [Nat.pow_add]
  exact Nat.mul_lt_mul_of_lt_of_lt hx hy
theorem DB.sum {μ : Sto} {f g b m c p : Nat} {a e : Int} {r s : Row} {Q : D × Sto → Prop} (d : DB μ f b m a e r) (k : DB μ g c p a e s) (hl : e - a ≤ 1000) (hb : b + c ≤ 1000) (hm : m + p + b + c + 12 ≤ 1000)
    (q : ∀ h μ', DB μ' h (b + c) (m + p + b + c + 12) a e (addR r s) → μ.length ≤ h → Gr μ μ' → Q (.loc h, μ')) : Wp (F_law_sum_2 [.loc f, .loc g] μ) Q := by
  obtain ⟨D, M, ts, dd, d0, d1, d2⟩ := d.ex
  obtain ⟨E, N, us, kk, k0, k1, k2⟩ := k.ex
  have hD := mulpw d1 k1
  have b1 : M * E + 1000 * (N * D) < 2 ^ (m + p + b + c + 12) := by
    have a1 := mulpw d2 k1
    have a2 := mulpw k2 d1
    have a3 : (2 : Nat) ^ (m + c) ≤ 2 ^ (m + p + b + c + 1) := pw (by omega)
    have a4 : (2 : Nat) ^ (p + b) ≤ 2 ^ (m + p + b + c + 1) := pw (by omega)
    have a5 : (2 : Nat) ^ (m + p + b + c + 12) = 2 ^ (m + p + b + c + 1) * 2048 := by
      rw [show m + p + b + c + 12 = (m + p + b + c + 1) + 11 by omega, Nat.pow_add]
    rw [a5]
    omega
  refine sum2_ok dd kk hl (Nat.mul_pos d0 k0) (Nat.lt_of_lt_of_le hD (pw hb)) (Nat.lt_of_lt_of_le b1 (pw hm)) fun h μ' vs d' hh gg => q h μ' ⟨_, _, vs, d', Nat.mul_pos d0 k0, hD, b1⟩ hh gg
end BS
set_option exponentiation.threshold 20000
namespace BS
open PySem PySem.Spec PyProof.Rows L2 DL
end BS
set_option exponentiation.threshold 20000
namespace BS
open PySem PySem.Spec PyProof.Rows L2 DL
end BS
set_option exponentiation.threshold 20000
namespace BS
open PySem PySem.Spec PyProof.Rows L2 DL
end BS
set_option exponentiation.threshold 20000
namespace BS
open PySem PySem.Spec PyProof.Rows L2 DL
theorem DB.kp {μ μ' : Sto} {n f b m : Nat} {a e : Int} {r : Row} (h : DB μ f b m a e r) (k : Kp n μ μ') (hf : f ≠ n) : DB μ' f b m a e r := let ⟨D, M, ts, d, p⟩ := h.ex; ⟨D, M, ts, d.kp k hf, p⟩
end BS
set_option exponentiation.threshold 20000
namespace BS
open PySem PySem.Spec PyProof.Rows L2 DL
def tabR (r : Row) : Row × Row := (evenR 0 r, movR (evenR 1 r) 1)
end BS
set_option exponentiation.threshold 20000
namespace BS
open PySem PySem.Spec PyProof.Rows L2 DL
/-- a list of two dicts, all at k or behind -/
structure LP (μ : Sto) (m k b v : Nat) (a e : Int) (P : Row × Row) : Prop where
  ex : ∃ f g, μ[m]? = some (.lst [.loc f, .loc g]) ∧ k ≤ m ∧ k ≤ f ∧ k ≤ g ∧ DB μ f b v a e P.1 ∧ DB μ g b v a e P.2
theorem LP.gr {μ μ' : Sto} {m k b v : Nat} {a e : Int} {P : Row × Row} (h : LP μ m k b v a e P) (g : Gr μ μ') : LP μ' m k b v a e P :=
  let ⟨f, f', h1, h2, h3, h4, h5, h6⟩ := h.ex; ⟨f, f', g.get h1, h2, h3, h4, h5.gr g, h6.gr g⟩
theorem LP.kp {μ μ' : Sto} {n m k b v : Nat} {a e : Int} {P : Row × Row} (h : LP μ m k b v a e P) (g : Kp n μ μ') (hn : n < k) : LP μ' m k b v a e P :=
  let ⟨f, f', h1, h2, h3, h4, h5, h6⟩ := h.ex; ⟨f, f', g.at_ m _ (by omega) h1, h2, h3, h4, h5.kp g (by omega), h6.kp g (by omega)⟩
theorem LP.lt {μ : Sto} {m k b v : Nat} {a e : Int} {P : Row × Row} (h : LP μ m k b v a e P) : m < μ.length := let ⟨_, _, h1, _⟩ := h.ex; (List.getElem?_eq_some_iff.mp h1).1
/-- a list of two such lists -/
structure LT (μ : Sto) (m k b v : Nat) (a e : Int) (T : (Row × Row) × (Row × Row)) : Prop where
  ex : ∃ f g, μ[m]? = some (.lst [.loc f, .loc g]) ∧ k ≤ m ∧ LP μ f k b v a e T.1 ∧ LP μ g k b v a e T.2
theorem LT.gr {μ μ' : Sto} {m k b v : Nat} {a e : Int} {T : (Row × Row) × (Row × Row)} (h : LT μ m k b v a e T) (g : Gr μ μ') : LT μ' m k b v a e T :=
  let ⟨f, f', h1, h2, h5, h6⟩ := h.ex; ⟨f, f', g.get h1, h2, h5.gr g, h6.gr g⟩
theorem LT.kp {μ μ' : Sto} {n m k b v : Nat} {a e : Int} {T : (Row × Row) × (Row × Row)} (h : LT μ m k b v a e T) (g : Kp n μ μ') (hn : n < k) : LT μ' m k b v a e T :=
  let ⟨f, f', h1, h2, h5, h6⟩ := h.ex; ⟨f, f', g.at_ m _ (by omega) h1, h2, h5.kp g hn, h6.kp g hn⟩
end BS
set_option exponentiation.threshold 20000
namespace BS
open PySem PySem.Spec PyProof.Rows L2 DL
end BS
set_option exponentiation.threshold 20000
namespace BS
open PySem PySem.Spec PyProof.Rows L2 DL
theorem DB.can {μ : Sto} {f b v : Nat} {a e : Int} {r : Row} (d : DB μ f b v a e r) : Can r := let ⟨_, _, _, d, _⟩ := d.ex; d.of.can
end BS
set_option exponentiation.threshold 20000
namespace BS
open PySem PySem.Spec PyProof.Rows L2 DL
end BS
set_option exponentiation.threshold 20000
namespace BS
open PySem PySem.Spec PyProof.Rows L2 DL
end BS
set_option exponentiation.threshold 20000
namespace BS
open PySem PySem.Spec PyProof.Rows L2 DL
end BS
set_option exponentiation.threshold 20000
namespace BS
open PySem PySem.Spec PyProof.Rows L2 DL
end BS
set_option exponentiation.threshold 20000
namespace BS
open PySem PySem.Spec PyProof.Rows L2 DL
end BS
set_option exponentiation.threshold 20000
namespace BS
open PySem PySem.Spec PyProof.Rows L2 DL
theorem DB.rw {μ : Sto} {f b m l s : Nat} {a e : Int} {r : Row} (d : DB μ f b m a e r) (h1 : e - a ≤ l) (h2 : -(s : Int) ≤ a) (h3 : e ≤ s) : Rw b m l s r ∧ Iv a e r := by
  obtain ⟨D, M, ts, dd, d0, d1, d2⟩ := d.ex
  exact ⟨dd.rf.rw d0 d1 d2 dd.iv h1 h2 h3, dd.iv⟩
theorem repr_gen {n : Nat} {ds : List D} (h : ∀ d ∈ ds, Sh 116 4 n d) (hn : n ≤ 200000) (hl : ds.length ≤ 20) : ∃ s : Str, ∀ (μ : Sto) (k : Nat), μ[k]? = some (.lst ds) → cReprN [.loc k] μ = some (.str s, μ) :=
  reprL h (by omega) (by decide) (by
    have : ds.length * (n + 2) ≤ 20 * 200002 := Nat.mul_le_mul hl (by omega)
    omega)
end BS
set_option exponentiation.threshold 20000
namespace BS
open PySem PySem.Spec PyProof.Rows L2 DL
end BS
set_option exponentiation.threshold 20000
namespace BS
open PySem PySem.Spec PyProof.Rows L2 DL
theorem one_ev (c : Int × Int) (t : Rat) : ev (0, [c]) t = qv c := by
  rw [ev_eq]
  show t ^ (0 : Int) * pq [qv c] t = _
  show t ^ (0 : Int) * (qv c + t * 0) = _
  rw [Rat.zpow_zero]
  grind
end BS
set_option exponentiation.threshold 20000
namespace BS
open PySem PySem.Spec PyProof.Rows L2 DL
theorem LP.iv {μ : Sto} {m k b v : Nat} {a e : Int} {P : Row × Row} (L : LP μ m k b v a e P) : Iv a e P.1 ∧ Iv a e P.2 := by
  obtain ⟨f, g, _, _, _, _, d1, d2⟩ := L.ex
  obtain ⟨D, M, ts, dd, _⟩ := d1.ex
  obtain ⟨D', M', ts', dd', _⟩ := d2.ex
  exact ⟨dd.iv, dd'.iv⟩
theorem DB.iv {μ : Sto} {f b m : Nat} {a e : Int} {r : Row} (d : DB μ f b m a e r) : Iv a e r := let ⟨_, _, _, d, _⟩ := d.ex; d.iv
theorem Rw.addv {b v l s c m t : Nat} {x y : Row} (hx : Rw b v l s x) (hy : Rw c v m t y) : Rw (b + c) (v + 1) (s + t + l + m) (s + t + l + m) (addR x y) := by
  have h := hx.add hy
  refine ⟨h.can, h.den, fun p hp => ?_, h.len, h.pos⟩
  have two : (2 : Nat) ^ (v + 1) = 2 ^ v + 2 ^ v := by rw [Nat.pow_succ]; omega
  rw [two]
  unfold addR at hp
  split at hp
  · exact Nat.lt_of_lt_of_le (hx.val p hp) (Nat.mul_le_mul_right _ (Nat.le_add_right _ _))
  · split at hp
    · exact Nat.lt_of_lt_of_le (hy.val p hp) (Nat.mul_le_mul_right _ (Nat.le_add_right _ _))
    · obtain ⟨i, _, rfl⟩ := List.mem_map.mp (trimR_mem hp)
      exact addP_val (atR_fr hx.can.fr _) (atR_fr hy.can.fr _) (hx.atv _) (hy.atv _)
end BS
set_option exponentiation.threshold 20000
namespace BS
open PySem PySem.Spec PyProof.Rows L2 DL
end BS
set_option exponentiation.threshold 20000
namespace BS
open PySem PySem.Spec PyProof.Rows L2 DL
theorem rc_frD {μ : Sto} (n : Nat) (p q : Int × Int) : rcD μ (n + 2) (frD p) (frD q) = some (decide (p = q)) := by
  have e : rcD μ (n + 2) (frD p) (frD q) = some ((p.1 == q.1 && (p.2 == q.2 && true)) && true) := rfl
  rw [e]
  obtain ⟨p1, p2⟩ := p
  obtain ⟨q1, q2⟩ := q
  congr 1
  by_cases h1 : p1 = q1
  · by_cases h2 : p2 = q2
    · simp [h1, h2]
    · simp [h1, h2]
  · simp [h1]
end BS
set_option exponentiation.threshold 20000
namespace BS
open PySem PySem.Spec PyProof.Rows L2 DL
structure Fil2 (low : Int) (i : Nat) (acc : List Pl) : Prop where
  nd : Nd acc
  key : ∀ t ∈ acc, low ≤ t.1 ∧ t.1 < low + (i : Nat) + 1
  sml : ∀ t ∈ acc, Sml t.2
  fst : ∃ p rest, acc = (low, p) :: rest ∧ p.1 ≠ 0
theorem Fil2.up {low : Int} {i : Nat} {acc : List Pl} (h : Fil2 low i acc) : Fil2 low (i + 1) acc := ⟨h.nd, fun t ht => by have := h.key t ht; omega, h.sml, h.fst⟩
end BS
set_option exponentiation.threshold 20000
namespace BS
open PySem PySem.Spec PyProof.Rows L2 DL
end BS
set_option exponentiation.threshold 20000
namespace BS
open PySem PySem.Spec PyProof.Rows L2 DL
theorem DB.up {μ : Sto} {f b m c p : Nat} {a e : Int} {r : Row} (d : DB μ f b m a e r) (h1 : b ≤ c) (h2 : m ≤ p) : DB μ f c p a e r := let ⟨D, M, ts, dd, d0, d1, d2⟩ := d.ex; ⟨D, M, ts, dd, d0, Nat.lt_of_lt_of_le d1 (pw h1), Nat.lt_of_lt_of_le d2 (pw h2)⟩
end BS
set_option exponentiation.threshold 20000
namespace BS
open PySem PySem.Spec PyProof.Rows L2 DL
/-- a table whose lists were copied -/
structure CT (μ : Sto) (m k b v : Nat) (a e : Int) (T : (Row × Row) × (Row × Row)) : Prop where
  ex : ∃ x y c1 c2 c3 c4, μ[m]? = some (.lst [.loc x, .loc y]) ∧ μ[x]? = some (.lst [.loc c1, .loc c2]) ∧ μ[y]? = some (.lst [.loc c3, .loc c4]) ∧ (x ≠ y ∧ x ≠ m ∧ y ≠ m) ∧ (k ≤ m ∧ k ≤ x ∧ k ≤ y) ∧ (k ≤ c1 ∧ k ≤ c2 ∧ k ≤ c3 ∧ k ≤ c4) ∧ DB μ c1 b v a e T.1.1 ∧ DB μ c2 b v a e T.1.2 ∧ DB μ c3 b v a e T.2.1 ∧ DB μ c4 b v a e T.2.2
theorem CT.kp {μ μ' : Sto} {n m k b v : Nat} {a e : Int} {T : (Row × Row) × (Row × Row)} (h : CT μ m k b v a e T) (g : Kp n μ μ') (hn : n < k) : CT μ' m k b v a e T :=
  let ⟨x, y, c1, c2, c3, c4, hm, hx, hy, n3, k3, k4, d1, d2, d3, d4⟩ := h.ex
  ⟨x, y, c1, c2, c3, c4, g.at_ m _ (by omega) hm, g.at_ x _ (by omega) hx, g.at_ y _ (by omega) hy, n3, k3, k4, d1.kp g (by omega), d2.kp g (by omega), d3.kp g (by omega), d4.kp g (by omega)⟩
end BS
set_option exponentiation.threshold 20000
namespace BS
open PySem PySem.Spec PyProof.Rows L2 DL
end BS
set_option exponentiation.threshold 20000
namespace BS
open PySem PySem.Spec PyProof.Rows L2 DL
theorem take_ok {μ : Sto} {n k : Nat} {j : Int} (w : W μ n k) (hk : k ≤ 1000000) (hj : 0 < j) (hj2 : j < 1073741824) :
    Wp (F_law_take [.loc n, .int j] μ) fun p => ∃ (r : Int) (μ' : Sto), p = (.int r, μ') ∧ 0 ≤ r ∧ r < j ∧ W μ' n (k + 1) ∧ Kp n μ μ' := by
  obtain ⟨a, b, c, h, ha, hb, hb2, hc, hc2⟩ := w
  have hl : n < μ.length := (List.getElem?_eq_some_iff.mp h).1
  have e1 := lstAt_lst h
  by_cases h0 : 0 < a
  · unfold F_law_take
    simp_arith [opIx, e1, atI_0, opCmp, h0, decide_true, cDivmod, hj, hj2, stD, h, ix3_0]
    exact ⟨_, _, rfl, Int.emod_nonneg _ (by omega), Int.emod_lt_of_pos _ hj, ⟨a / j, b, c, by simp [hl], Int.ediv_nonneg (by omega) (by omega), hb, hb2, hc, by omega⟩, Kp.set⟩
  · have m1 : mulOk 2 (c + 1) = true := mulOk_small (by omega) (by omega)
    have m2 : mulOk b (16807 + 2 * (c + 1)) = true := mulOk_small (by omega) (by omega)
    have m3 : mulOk 7919 (c + 1) = true := mulOk_small (by omega) (by omega)
    unfold F_law_take
    simp_arith [opIx, e1, atI_0, atI_1, atI_2, opCmp, h0, decide_false, opAddX, opAdd, opMulX, opMul, opMod, opFdiv, cInt, stD, h, ix3_0, ix3_1, ix3_2, hl, List.getElem?_set_self, lstAt, List.length_set, List.set_set, m1, m2, m3]
    have t1 := fmod_pos (i := b * (16807 + 2 * (c + 1)) + 7919 * (c + 1) + 3) (m := 2147483647) (by decide)
    generalize (b * (16807 + 2 * (c + 1)) + 7919 * (c + 1) + 3).fmod 2147483647 = t at t1 ⊢
    have m4 : mulOk t (t + 17) = true := mulOk_small (by omega) (by omega)
    simp_arith [m4]
    generalize (t * (t + 17)).fmod 2147483629 = u
    refine need (by decide) (need (by decide) (need ⟨by decide, noPy (by decide)⟩ (need (by omega) ⟨_, _, rfl, ?_, ?_, ⟨a, t, c + 1, by simp [hl], ha, t1.1, by omega, by omega, by omega⟩, Kp.set⟩)))
    · rw [Int.fmod_eq_emod_of_nonneg _ (by omega)]; exact Int.emod_nonneg _ (by omega)
    · rw [Int.fmod_eq_emod_of_nonneg _ (by omega)]; exact Int.emod_lt_of_pos _ hj
theorem takec {μ : Sto} {n k : Nat} {j : Int} {Q : D × Sto → Prop} (w : W μ n k) (hk : k ≤ 1000000) (hj : 0 < j) (hj2 : j < 1073741824) (q : ∀ (r : Int) μ', 0 ≤ r → r < j → W μ' n (k + 1) → Kp n μ μ' → Q (.int r, μ')) : Wp (F_law_take [.loc n, .int j] μ) Q := by
  refine (take_ok w hk hj hj2).mono ?_
  rintro _ ⟨r, μ', rfl, h1, h2, w', kp⟩
  exact q r μ' h1 h2 w' kp
theorem pickt {μ : Sto} {n k : Nat} {ds : List D} {Q : D × Sto → Prop} (w : W μ n k) (hk : k ≤ 1000000) (h0 : ds ≠ []) (hl : ds.length ≤ 1000)
    (q : ∀ d μ', d ∈ ds → W μ' n (k + 1) → Kp n μ μ' → Q (d, μ')) : Wp (F_law_pick_2 [.loc n, .tup ds] μ) Q := by
  have hp : 0 < ds.length := List.length_pos_iff.mpr h0
  unfold F_law_pick_2
  simp_arith [cLen]
  refine takec w hk (j := ds.length) (by omega) (by omega) fun r μ' h1 h2 w' kp => ?_
  obtain ⟨i, rfl⟩ := Int.eq_ofNat_of_zero_le h1
  have hi : i < ds.length := by omega
  simp_arith [opIx, atI_at, List.getElem?_eq_getElem hi]
  exact q _ _ (List.getElem_mem hi) w' kp
theorem common_ok {μ : Sto} {a b : Int} {Q : D × Sto → Prop} (q : Q (.int (Nat.gcd a.natAbs b.natAbs : Nat), μ)) : Wp (F_law_common [.int a, .int b] μ) Q := by
  have abs_ : ∀ i : Int, (if i < 0 then -i else i) = (i.natAbs : Nat) := fun i => by split <;> omega
  have L := loop_deep _ _ rfl rfl μ (b.natAbs + 1) a.natAbs b.natAbs (Nat.lt_succ_self _)
  unfold F_law_common
  simp_arith [cAbs, abs_, fuelC, Int.natAbs_natCast]
  refine Wp.of L ?_
  simp_arith []
  exact q
theorem ratio_ok {μ : Sto} {n m : Int} {a : Nat} {Q : D × Sto → Prop} (h : 0 < m) (hm : m.natAbs < 2 ^ a) (ha : 0 < a ∧ a ≤ 4000) (q : Q (frD (redI n m), μ)) : Wp (F_law_ratio [.int n, .int m] μ) Q := by
  have hg := gcd_pos (n := n) h
  have np : ∀ x : Int, Builtin.divisionGoesByPylong x ((Nat.gcd n.natAbs m.natAbs : Nat) : Int) = false := fun x => noPy_gcd h hm ha
  have nz : ¬ (((Nat.gcd n.natAbs m.natAbs : Nat) : Int) = 0) := by omega
  unfold F_law_ratio
  simp_arith []
  refine common_ok ?_
  simp_arith [opCmp, h, decide_true, opFdiv, nz, np, sizeLine_eq, Nat.reduceLeDiff, div_pos hg]
  exact q
theorem fr_ix0 (p : Int × Int) (μ : Sto) : opIx (frD p) (.int 0) μ = some (.int p.1, μ) := rfl
theorem fr_ix1 (p : Int × Int) (μ : Sto) : opIx (frD p) (.int 1) μ = some (.int p.2, μ) := rfl
theorem lsum3_ok {μ : Sto} {p r : Int × Int} {Q : D × Sto → Prop} (hp : isFr p) (hr : isFr r) (sp : Sm 1000 p) (sr : Sm 1000 r) (q : Q (frD (addP p r), μ)) : Wp (F_law_sum_3 [frD p, frD r] μ) Q := by
  have m1 : mulOk p.1 r.2 = true := mulOk_of sp.1 sr.2 (by decide) (by decide)
  have m2 : mulOk r.1 p.2 = true := mulOk_of sr.1 sp.2 (by decide) (by decide)
  have m3 : mulOk p.2 r.2 = true := mulOk_of sp.2 sr.2 (by decide) (by decide)
  have G : Wp (F_law_ratio [.int (p.1 * r.2 + r.1 * p.2), .int (p.2 * r.2)] μ) Q := ratio_ok (Int.mul_pos hp.1 hr.1) (mul_lt sp.2 sr.2) (by decide) q
  unfold F_law_sum_3
  simp_arith [fr_ix0, fr_ix1, eq_int]
  refine ⟨fun h1 => ⟨fun h2 => ?_, fun h2 => ?_⟩, fun h1 => ?_⟩
  · simp_arith [addX_int, sizeLine_eq, Nat.reduceLeDiff]
    have e : addP p r = (p.1 + r.1, 1) := by unfold addP; rw [h1, h2, Int.mul_one, Int.mul_one]; exact redI_one _
    rw [e] at q
    exact q
  · simp_arith [opMulX, opMul, addX_int, m1, m2, m3]
    exact G
  · simp_arith [opMulX, opMul, addX_int, m1, m2, m3]
    exact G
theorem lprod2_ok {μ : Sto} {p r : Int × Int} {Q : D × Sto → Prop} (hp : isFr p) (hr : isFr r) (sp : Sm 1000 p) (sr : Sm 1000 r) (q : Q (frD (mulP p r), μ)) : Wp (F_law_product_2 [frD p, frD r] μ) Q := by
  have m1 : mulOk p.1 r.1 = true := mulOk_of sp.1 sr.1 (by decide) (by decide)
  have m2 : mulOk p.2 r.2 = true := mulOk_of sp.2 sr.2 (by decide) (by decide)
  have G : Wp (F_law_ratio [.int (p.1 * r.1), .int (p.2 * r.2)] μ) Q := ratio_ok (Int.mul_pos hp.1 hr.1) (mul_lt sp.2 sr.2) (by decide) q
  unfold F_law_product_2
  simp_arith [fr_ix0, fr_ix1, eq_int]
  refine ⟨fun h1 => ⟨fun h2 => ?_, fun h2 => ?_⟩, fun h1 => ?_⟩
  · simp_arith [opMulX, opMul, m1, sizeLine_eq, Nat.reduceLeDiff]
    have e : mulP p r = (p.1 * r.1, 1) := by unfold mulP; rw [h1, h2, Int.mul_one]; exact redI_one _
    rw [e] at q
    exact q
  · simp_arith [opMulX, opMul, m1, m2]
    exact G
  · simp_arith [opMulX, opMul, m1, m2]
    exact G
/-- a drawn number -/
structure Nm (p : Int × Int) : Prop where
  fr : isFr p
  nz : p.1 ≠ 0
  bot : p.2.natAbs ∣ 84
  top : p.1.natAbs ≤ 1000000000
theorem pow9 {μ : Sto} : opPow (.int 10) (.int 9) μ = some (.int 1000000000, μ) := by
  have h : (0 : Int) ≤ 9 ∧ (9 : Int) ≤ 1000000 ∧ (10 : Int).natAbs < 2 ^ 64 := ⟨by decide, by decide, by decide⟩
  simp only [opPow]
  rw [if_pos h]
  rfl
theorem nm_red {t m : Int} (t0 : t ≠ 0) (h : t.natAbs ≤ 1000000000) (hm : 0 < m) (hd : m.natAbs ∣ 84) : Nm (redI t m) :=
  ⟨redI_fr hm, red_nz hm t0, Nat.dvd_trans redI_dvd hd, Nat.le_trans (redI_le t m).1 h⟩
theorem number_ok {μ : Sto} {n k : Nat} {Q : D × Sto → Prop} (w : W μ n k) (hk : k ≤ 900000) (q : ∀ p μ', Nm p → W μ' n (k + 4) → Kp n μ μ' → Q (frD p, μ')) : Wp (F_law_number [.loc n] μ) Q := by
  unfold F_law_number
  simp_arith []
  refine takec w (by omega) (by decide) (by decide) fun r1 μ1 a1 b1 w1 p1 => ?_
  have rest : ∀ (t : Int) (μ2 : Sto), 0 < t → t ≤ 1000000000 → W μ2 n (k + 2) → Kp n μ μ2 → Wp (F_law_pick_2 [.loc n, .tup [.int 1, .int 1, .int 1, .int 2, .int 2, .int 3, .int 4, .int 7]] μ2) fun a_2 =>
      Wp (F_law_take [.loc n, .int 2] a_2.2) fun a_3 => Wp (opEqM a_3.1 (.int 0) a_3.2) fun p => ∃ c, p.1 = .bl c ∧ (c = true → Wp (F_law_ratio [.int t, a_2.1] p.2) fun a => Q (a.1, a.2)) ∧
        (c = false → Wp (opSub (.int 0) (.int t) p.2) fun a => Wp (F_law_ratio [a.1, a_2.1] a.2) fun a => Q (a.1, a.2)) := by
    intro t μ2 t1 t2 w2 p2
    refine pickt w2 (by omega) (by simp) (by simp) fun d μ3 hd w3 p3 => ?_
    obtain ⟨m, rfl, m1, m2, m3⟩ : ∃ m : Int, d = .int m ∧ 0 < m ∧ m ≤ 7 ∧ m.natAbs ∣ 84 := by
      simp only [List.mem_cons, List.not_mem_nil, or_false] at hd
      rcases hd with h | h | h | h | h | h | h | h <;> subst h <;> exact ⟨_, rfl, by decide, by decide, by decide⟩
    refine takec w3 (by omega) (by decide) (by decide) fun r4 μ4 a4 b4 w4 p4 => ?_
    have fin : ∀ t' : Int, t' ≠ 0 → t'.natAbs ≤ 1000000000 → Wp (F_law_ratio [.int t', .int m] μ4) fun a => Q (a.1, a.2) := fun t' t0 ht =>
      ratio_ok (a := 10) m1 (by omega) (by decide) (q _ _ (nm_red t0 ht m1 m3) w4 (p2.trans (p3.trans p4)))
    simp_arith [eq_int, opSub]
    exact ⟨fun _ => fin _ (by omega) (by omega), fun _ => fin _ (by omega) (by omega)⟩
  simp_arith [opCmp, sizeLine_eq, Nat.reduceLeDiff]
  refine ⟨fun _ => ?_, fun _ => ?_⟩
  · refine takec w1 (by omega) (by decide) (by decide) fun r μ2 a2 b2 w2 p2 => ?_
    simp_arith [addX_int]
    exact rest _ _ (by omega) (by omega) w2 (p1.trans p2)
  · refine Wp.of pow9 ?_
    refine takec w1 (by omega) (by decide) (by decide) fun r μ2 a2 b2 w2 p2 => ?_
    simp_arith [addX_int]
    exact rest _ _ (by omega) (by omega) w2 (p1.trans p2)
end BS
set_option exponentiation.threshold 20000
namespace BS
open PySem PySem.Spec PyProof.Rows L2 DL
def NzT (ts : List Pl) : Prop := ∀ t ∈ ts, t.2.1 ≠ 0
structure Lt (μ : Sto) (f D M : Nat) (a e : Int) (r : Row) : Prop where
  ex : ∃ ts, DD μ f D M a e ts r ∧ NzT ts
theorem Lt.gr {μ μ' : Sto} {f D M : Nat} {a e : Int} {r : Row} (h : Lt μ f D M a e r) (g : Gr μ μ') : Lt μ' f D M a e r := let ⟨ts, d, z⟩ := h.ex; ⟨ts, d.gr g, z⟩
theorem Lt.kp {μ μ' : Sto} {n f D M : Nat} {a e : Int} {r : Row} (h : Lt μ f D M a e r) (k : Kp n μ μ') (hf : f ≠ n) : Lt μ' f D M a e r := let ⟨ts, d, z⟩ := h.ex; ⟨ts, d.kp k hf, z⟩
theorem Lt.lt {μ : Sto} {f D M : Nat} {a e : Int} {r : Row} (h : Lt μ f D M a e r) : f < μ.length := let ⟨_, d, _⟩ := h.ex; (List.getElem?_eq_some_iff.mp d.at_).1
theorem Lt.can {μ : Sto} {f D M : Nat} {a e : Int} {r : Row} (h : Lt μ f D M a e r) : Can r := let ⟨_, d, _⟩ := h.ex; d.of.can
theorem Lt.iv {μ : Sto} {f D M : Nat} {a e : Int} {r : Row} (h : Lt μ f D M a e r) : Iv a e r := let ⟨_, d, _⟩ := h.ex; d.iv
theorem Lt.span {μ : Sto} {f D M : Nat} {a e a' e' : Int} {r : Row} (h : Lt μ f D M a e r) (h1 : a' ≤ a) (h2 : e ≤ e') : Lt μ f D M a' e' r := let ⟨ts, d, z⟩ := h.ex; ⟨ts, ⟨d.at_, d.nd, d.fq, ⟨fun t ht => Int.le_trans h1 (d.kr.lo t ht), fun t ht => Int.lt_of_lt_of_le (d.kr.hi t ht) h2⟩, by have := d.ae; omega, d.of⟩, z⟩
theorem Lt.mono {μ : Sto} {f D M N : Nat} {a e : Int} {r : Row} (h : Lt μ f D M a e r) (h1 : M ≤ N) : Lt μ f D N a e r := let ⟨ts, d, z⟩ := h.ex; ⟨ts, ⟨d.at_, d.nd, fun t ht => (d.fq t ht).mono h1, d.kr, d.ae, d.of⟩, z⟩
theorem Lt.lift {μ : Sto} {f D M : Nat} {a e : Int} {r : Row} (h : Lt μ f D M a e r) (E : Nat) : Lt μ f (D * E) (M * E) a e r := let ⟨ts, d, z⟩ := h.ex; ⟨ts, ⟨d.at_, d.nd, fun t ht => (d.fq t ht).lift E, d.kr, d.ae, d.of⟩, z⟩
theorem Lt.rw {μ : Sto} {f D M b v l s : Nat} {a e : Int} {r : Row} (h : Lt μ f D M a e r) (h0 : 0 < D) (hb : D < 2 ^ b) (hv : M < 2 ^ v) (h1 : e - a ≤ l) (h2 : -(s : Int) ≤ a) (h3 : e ≤ s) : Rw b v l s r := let ⟨_, d, _⟩ := h.ex; d.rf.rw h0 hb hv d.iv h1 h2 h3
/-- a dict without places -/
theorem Lt.nil {μ : Sto} {f D M : Nat} {a e : Int} (h : μ[f]? = some (.dic [])) (ae : a ≤ e) : Lt μ f D M a e (0, []) :=
  ⟨[], ⟨h, List.nodup_nil, fun t ht => (by cases ht), ⟨fun t ht => (by cases ht), fun t ht => (by cases ht)⟩, ae, ⟨can_nil, fun x _ => by rw [ev_nil rfl]; rfl⟩⟩, fun t ht => (by cases ht)⟩
theorem lock_out {i n : Nat} {kvs : List (Key × D)} {f : SF} {ρ : Sl} {μ : Sto} {Q : Out → Prop} (hρ : ρ[i]? = some (some (.loc n))) (hμ : μ[n]? = some (.dic kvs))
    (h : Wp (f ρ (μ.set n (.dfz kvs))) fun o => ∃ o', unl n o = some o' ∧ Q o') : Wp (fLock i f ρ μ) Q := by
  have e1 : fLock i f ρ μ = (f ρ (μ.set n (.dfz kvs))).bind (unl n) := by
    unfold fLock
    rw [hρ]
    simp only [hμ]
  rw [e1, Wp.bind]
  refine h.mono ?_
  rintro o ⟨o', e, q⟩
  exact Wp.of e q
theorem unl_rt {n : Nat} {kvs : List (Key × D)} {d : D} {μ : Sto} (h : μ[n]? = some (.dfz kvs)) : unl n (.rt d μ) = some (.rt d (μ.set n (.dic kvs))) := by
  show (dfzAt μ n).map _ = _
  rw [dfzAt_dfz h]
  rfl
theorem unl_nx {n : Nat} {kvs : List (Key × D)} {ρ : Sl} {μ : Sto} (h : μ[n]? = some (.dfz kvs)) : unl n (.nx ρ μ) = some (.nx ρ (μ.set n (.dic kvs))) := by
  show (dfzAt μ n).map _ = _
  rw [dfzAt_dfz h]
  rfl
theorem unlock_gr {μ μ1 : Sto} {n : Nat} {kvs : List (Key × D)} (h : μ[n]? = some (.dic kvs)) (g : Gr (μ.set n (.dfz kvs)) μ1) : Gr μ (μ1.set n (.dic kvs)) := gr_of fun i o hi => by
  have hl := (List.getElem?_eq_some_iff.mp h).1
  by_cases e : i = n
  · subst e
    rw [h] at hi
    cases hi
    exact List.getElem?_set_self (List.getElem?_eq_some_iff.mp (g.get (List.getElem?_set_self hl))).1
  · rw [List.getElem?_set_ne (Ne.symm e)]
    exact g.get (by rw [List.getElem?_set_ne (Ne.symm e)]; exact hi)
theorem locked {μ : Sto} {n : Nat} {o : Ob} {kvs : List (Key × D)} (h : μ[n]? = some o) : (μ.set n (.dfz kvs))[n]? = some (.dfz kvs) := List.getElem?_set_self (List.getElem?_eq_some_iff.mp h).1
/-- a return while the dict is locked -/
theorem lock_ret {i n : Nat} {kvs : List (Key × D)} {f : EF} {ρ : Sl} {μ : Sto} {Q : Out → Prop} (hρ : ρ[i]? = some (some (.loc n))) (hμ : μ[n]? = some (.dic kvs))
    (h : Wp (f ρ (μ.set n (.dfz kvs))) fun p => Gr (μ.set n (.dfz kvs)) p.2 ∧ Q (.rt p.1 (p.2.set n (.dic kvs)))) : Wp (fLock i (fRet f) ρ μ) Q := by
  refine lock_out hρ hμ (ret_wp (h.mono ?_))
  rintro ⟨d, μ'⟩ ⟨g, q⟩
  exact ⟨_, unl_rt (g.get (locked hμ)), q⟩
theorem merge_kv {us : List Pl} : ∀ {acc : List Pl}, Nd (acc ++ us) → mergeD (kvD acc) (kvD us) = kvD (acc ++ us) := by
  induction us with
  | nil => intro acc _; rw [List.append_nil]; rfl
  | cons u us ih =>
    intro acc nd
    have e : kvD (u :: us) = (.inl u.1, frD u.2) :: kvD us := rfl
    have h : ∀ t ∈ acc, t.1 ≠ u.1 := fun t ht z => by
      unfold Nd at nd
      rw [List.map_append, List.nodup_append] at nd
      exact nd.2.2 t.1 (List.mem_map.mpr ⟨t, ht, rfl⟩) u.1 (by simp) z
    have s : mergeD (kvD acc) (kvD (u :: us)) = mergeD (putD (kvD acc) (.inl u.1) (frD u.2)) (kvD us) := by rw [e]; rfl
    rw [s, putD_kv, put_new h, ih (by rw [List.append_assoc]; exact nd), List.append_assoc]
    rfl
def pairT (t : Pl) : D := .tup [.int t.1, frD t.2]
theorem pairs_kv (us : List Pl) : (DL.pairsOf (us.map pairT)).bind keysOf = some (kvD us) := by
  have h1 : DL.pairsOf (us.map pairT) = some (us.map fun t => (DL.D.int t.1, frD t.2)) := by
    induction us with
    | nil => rfl
    | cons u us ih =>
      rw [List.map_cons]
      unfold DL.pairsOf
      rw [ih]
      rfl
  rw [h1, Option.bind_some]
  induction us with
  | nil => rfl
  | cons u us ih =>
    rw [List.map_cons]
    unfold keysOf
    rw [ih (by
      rw [List.map_cons] at h1
      unfold DL.pairsOf at h1
      split at h1
      · rename_i a b e1 e2
        cases h1
        exact e2
      · cases h1)]
    rfl
theorem cDict_kv {μ : Sto} {m : Nat} {us : List Pl} (h : μ[m]? = some (.lst (us.map pairT))) (nd : Nd us) : cDict [.loc m] μ = some (.loc μ.length, μ ++ [.dic (kvD us)]) := by
  show ((((lstAt μ m).bind DL.pairsOf).bind keysOf).map fun kvs => (DL.D.loc μ.length, μ ++ [Ob.dic (mergeD [] kvs)])) = _
  rw [lst_loc h, Option.bind_some, pairs_kv, Option.map_some]
  have := merge_kv (us := us) (acc := []) nd
  rw [show kvD [] = ([] : List (Key × DL.D)) from rfl, List.nil_append] at this
  rw [this]
/-- dict([.. for k in lot if ..]), the lot locked -/
theorem lotc {i j n : Nat} {ts : List Pl} {ρ : Sl} {μ : Sto} {ft : TF} {fe : EF} {P : Pl → Bool} {φ : Pl → Pl} {Q : D × Sto → Prop} (hρ : ρ[i]? = some (some (.loc n))) (dz : μ[n]? = some (.dfz (kvD ts))) (nd : Nd ts) (ln : ts.length ≤ 900000)
    (inj : ∀ t ∈ ts, ∀ u ∈ ts, P t = true → P u = true → (φ t).1 = (φ u).1 → t.1 = u.1)
    (body : ∀ t ∈ ts, ∀ μ', Gr μ μ' → Wp (ft ((wipeD ρ [j]).set j (some (.int t.1))) μ') fun q => q.1 = P t ∧ Gr μ' q.2 ∧ (P t = true → Wp (fe ((wipeD ρ [j]).set j (some (.int t.1))) q.2) fun r => r.1 = pairT (φ t) ∧ Gr q.2 r.2))
    (q : ∀ f μ', μ'[f]? = some (.dic (kvD ((ts.filter P).map φ))) → μ.length ≤ f → Gr μ μ' → Q (.loc f, μ')) : Wp ((fCB cDict (fCons (fLcN (nKey (fVar i)) (gNm j) ft fe [j]) fNil)) ρ μ) Q := by
  have hi0 : nKey (fVar i) ρ μ = some (.key n, μ) := by
    unfold nKey fVar
    rw [hρ]
    simp only [Option.bind_some, dfzAt_dfz dz, Option.isSome_some, if_true]
  have et : ∀ (k : Nat) (hk : k < ts.length), ts.getD k (0, 0, 1) = ts[k] := fun k hk => by rw [List.getD_eq_getElem?_getD, List.getElem?_eq_getElem hk]; rfl
  simp_arith []
  refine fLcN_list (n := ts.length) (x := fun k => .int (ts.getD k (0, 0, 1)).1) (p := fun k => P (ts.getD k (0, 0, 1))) (e := fun k => pairT (φ (ts.getD k (0, 0, 1)))) hi0 (fun k μ' g => ?_) (by omega) ?_ ?_ ?_
  · show (dfzAt μ' n).map _ = _
    rw [dfzAt_dfz (g.get dz), Option.map_some]
    congr 1
    unfold kvD
    rw [List.getElem?_map]
    by_cases hj : k < ts.length
    · rw [if_pos hj, List.getElem?_eq_getElem hj, List.getD_eq_getElem?_getD, List.getElem?_eq_getElem hj]
      rfl
    · rw [if_neg hj, List.getElem?_eq_none (by omega)]
      rfl
  · show ((dfzAt _ n).getD []).length = _
    rw [dfzAt_dfz dz, Option.getD_some, kvD_len]
  · intro k hk μ' g
    rw [et k hk]
    exact ⟨_, rfl, body ts[k] (List.getElem_mem hk) μ' g⟩
  · intro m μ1 hm lm g1
    have ef : (((List.range ts.length).filter fun k => P (ts.getD k (0, 0, 1))).map fun k => pairT (φ (ts.getD k (0, 0, 1)))) = ((ts.filter P).map φ).map pairT := by
      rw [range_filt (0, 0, 1) ts P (fun t => pairT (φ t)), List.map_map]
      rfl
    rw [ef] at hm
    simp_arith [cDict_kv hm (fm_nd nd inj)]
    exact q μ1.length _ (by simp) (by have := g1.lt; omega) (g1.trans Gr.app)
end BS
set_option exponentiation.threshold 20000
namespace BS
open PySem PySem.Spec PyProof.Rows L2 DL
theorem lotd {i j n D M D' M' : Nat} {a e a' e' : Int} {ts : List Pl} {r r' : Row} {μ0 μ : Sto} {ρ : Sl} {ft : TF} {fe : EF} {P : Pl → Bool} {φ : Pl → Pl} {Q : DL.D × Sto → Prop} (d : DD μ0 n D M a e ts r) (hρ : ρ[i]? = some (some (.loc n))) (dz : μ[n]? = some (.dfz (kvD ts))) (hl : e - a ≤ 900000)
    (inj : ∀ t ∈ ts, ∀ u ∈ ts, P t = true → P u = true → (φ t).1 = (φ u).1 → t.1 = u.1)
    (body : ∀ t ∈ ts, ∀ μ', Gr μ μ' → Wp (ft ((wipeD ρ [j]).set j (some (.int t.1))) μ') fun q => q.1 = P t ∧ Gr μ' q.2 ∧ (P t = true → Wp (fe ((wipeD ρ [j]).set j (some (.int t.1))) q.2) fun r => r.1 = pairT (φ t) ∧ Gr q.2 r.2))
    (fq : ∀ t ∈ ts, P t = true → FinQ D' M' (φ t).2) (kr : ∀ t ∈ ts, P t = true → a' ≤ (φ t).1 ∧ (φ t).1 < e') (ae : a' ≤ e') (c : Can r')
    (hc : ∀ k, BS.cf r' k = (ts.map fun t => if P t then (if (φ t).1 = k then qv (φ t).2 else 0) else 0).sum)
    (q : ∀ f μ', DD μ' f D' M' a' e' ((ts.filter P).map φ) r' → μ.length ≤ f → Gr μ μ' → Q (.loc f, μ')) : Wp ((fCB cDict (fCons (fLcN (nKey (fVar i)) (gNm j) ft fe [j]) fNil)) ρ μ) Q :=
  lotc hρ dz d.nd (by have := d.len; omega) inj body fun f μ' at' lf g => q f μ' (dd_fm d at' inj fq kr ae c hc) lf g
theorem lot_ret {j n D M D' M' : Nat} {a e a' e' : Int} {ts : List Pl} {r r' : Row} {μ : Sto} {ρ : Sl} {ft : TF} {fe : EF} {P : Pl → Bool} {φ : Pl → Pl} {Q : Out → Prop} (d : DD μ n D M a e ts r) (hρ : ρ[0]? = some (some (.loc n))) (hl : e - a ≤ 900000)
    (inj : ∀ t ∈ ts, ∀ u ∈ ts, P t = true → P u = true → (φ t).1 = (φ u).1 → t.1 = u.1)
    (body : ∀ t ∈ ts, ∀ μ', μ'[n]? = some (.dfz (kvD ts)) → Wp (ft ((wipeD ρ [j]).set j (some (.int t.1))) μ') fun q => q.1 = P t ∧ Gr μ' q.2 ∧ (P t = true → Wp (fe ((wipeD ρ [j]).set j (some (.int t.1))) q.2) fun r => r.1 = pairT (φ t) ∧ Gr q.2 r.2))
    (fq : ∀ t ∈ ts, P t = true → FinQ D' M' (φ t).2) (kr : ∀ t ∈ ts, P t = true → a' ≤ (φ t).1 ∧ (φ t).1 < e') (ae : a' ≤ e') (c : Can r')
    (hc : ∀ k, BS.cf r' k = (ts.map fun t => if P t then (if (φ t).1 = k then qv (φ t).2 else 0) else 0).sum)
    (q : ∀ f μ', DD μ' f D' M' a' e' ((ts.filter P).map φ) r' → μ.length ≤ f → Gr μ μ' → Q (.rt (.loc f) μ')) : Wp (fLock 0 (fRet (fCB cDict (fCons (fLcN (nKey (fVar 0)) (gNm j) ft fe [j]) fNil))) ρ μ) Q := by
  have dz := locked (kvs := kvD ts) d.at_
  refine lock_ret hρ d.at_ (lotd d hρ dz hl inj (fun t ht μ' g => body t ht μ' (g.get dz)) fq kr ae c hc fun f μ' dd lf g => ⟨g, ?_⟩)
  have l := (List.getElem?_eq_some_iff.mp d.at_).1
  simp at lf
  exact q f _ (dd.kp Kp.set (by omega)) lf (unlock_gr d.at_ g)
theorem nz_fm {ts : List Pl} {P : Pl → Bool} {φ : Pl → Pl} (h : ∀ t ∈ ts, P t = true → (φ t).2.1 ≠ 0) : NzT ((ts.filter P).map φ) := fun u hu => by
  obtain ⟨t, ht, rfl⟩ := List.mem_map.mp hu
  obtain ⟨h1, h2⟩ := List.mem_filter.mp ht
  exact h t h1 h2
theorem cleared_ok {μ : Sto} {n D M : Nat} {a e : Int} {ts : List Pl} {r : Row} {Q : DL.D × Sto → Prop} (d : DD μ n D M a e ts r) (hl : e - a ≤ 900000) (q : ∀ f μ', Lt μ' f D M a e r → μ.length ≤ f → Gr μ μ' → Q (.loc f, μ')) : Wp (F_law_cleared [.loc n] μ) Q := by
  refine def_wp rfl (lot_ret (P := fun t => decide (t.2.1 ≠ 0)) (φ := fun t => t) d rfl hl (fun t _ u _ _ _ z => z) (fun t ht μ' dz => ?_) (fun t ht _ => d.fq t ht) (fun t ht _ => ⟨d.kr.lo t ht, d.kr.hi t ht⟩) d.ae d.of.can (fun k => ?_) fun f μ' dd lf g => q f μ' ⟨_, dd, nz_fm fun t _ h => of_decide_eq_true h⟩ lf g)
  · have ga := dix_ok (dicAt_dfz dz) (lk_of d.nd ht)
    simp_arith [wipeD, ga, fr_ix0, ne_int, Gr.refl, pairT, sizeLine_eq, Nat.reduceLeDiff]
  · rw [d.cf]
    refine sum_congr' fun t ht => ?_
    by_cases h : t.2.1 ≠ 0
    · rw [if_pos (decide_eq_true h)]
    · have z : qv t.2 = 0 := (qv_zero (d.fq t ht).fr.1).mpr (by simpa using h)
      rw [show (if decide (t.2.1 ≠ 0) = true then (if t.1 = k then qv t.2 else 0) else (0 : Rat)) = 0 from if_neg (by simpa using h), z]
      split <;> rfl
theorem later_lot {μ : Sto} {n D M : Nat} {a e b : Int} {r : Row} {Q : DL.D × Sto → Prop} (L : Lt μ n D M a e r) (hl : e - a ≤ 900000) (q : ∀ f μ', Lt μ' f D M (a + b) (e + b) (movR r b) → μ.length ≤ f → Gr μ μ' → Q (.loc f, μ')) : Wp (F_law_later [.loc n, .int b] μ) Q := by
  obtain ⟨ts, d, nz⟩ := L.ex
  refine def_wp rfl (lot_ret (P := fun _ => true) (φ := fun t => (t.1 + b, t.2)) d rfl hl (fun t _ u _ _ _ z => by simp only at z; omega) (fun t ht μ' dz => ?_) (fun t ht _ => d.fq t ht) (fun t ht _ => ⟨by have := d.kr.lo t ht; simp only; omega, by have := d.kr.hi t ht; simp only; omega⟩) (by have := d.ae; omega) (movR_can d.of.can _) (fun k => ?_) fun f μ' dd lf g => q f μ' ⟨_, dd, nz_fm fun t ht _ => nz t ht⟩ lf g)
  · have ga := dix_ok (dicAt_dfz dz) (lk_of d.nd ht)
    simp_arith [wipeD, fYes, ga, addX_int, Gr.refl, pairT, sizeLine_eq, Nat.reduceLeDiff]
  · rw [cf_mov, d.cf]
    refine sum_congr' fun t ht => ?_
    simp only [if_true]
    by_cases h : t.1 = k - b
    · rw [if_pos h, if_pos (by omega)]
    · rw [if_neg h, if_neg (by omega)]
theorem cb1 {F : GN} {e : EF} {ρ : Sl} {μ : Sto} {Q : D × Sto → Prop} (h : Wp (e ρ μ) fun p => Wp (F [p.1] p.2) Q) : Wp (fCB F (fCons e fNil) ρ μ) Q := by
  simp_arith []
  exact h
theorem scaled_lot {μ : Sto} {n D M E N : Nat} {a e : Int} {r : Row} {c : Int × Int} {Q : DL.D × Sto → Prop} (L : Lt μ n D M a e r) (fc : FinQ E N c) (nc : c.1 ≠ 0) (hl : e - a ≤ 900000) (h1 : 0 < D ∧ D < 2 ^ 1000 ∧ M < 2 ^ 1000) (h2 : 0 < E ∧ E < 2 ^ 1000 ∧ N < 2 ^ 1000)
    (q : ∀ f μ', Lt μ' f (D * E) (M * N) a e (sclR c r) → μ.length ≤ f → Gr μ μ' → Q (.loc f, μ')) : Wp (F_law_scaled_3 [.loc n, frD c] μ) Q := by
  obtain ⟨ts, d, nz⟩ := L.ex
  have l := (List.getElem?_eq_some_iff.mp d.at_).1
  have dz := locked (kvs := kvD ts) d.at_
  refine def_wp rfl (lock_ret (kvs := kvD ts) rfl d.at_ ?_)
  have cc : Can (sclR c r) := sclR_can fc.fr nc d.of.can
  refine cb1 ?_
  refine lotd (P := fun _ => true) (φ := fun t => (t.1, mulP t.2 c)) (r' := sclR c r) d rfl dz hl (fun t _ u _ _ _ z => z) (fun t ht μ' g => ?_) (fun t ht _ => (d.fq t ht).mul fc) (fun t ht _ => ⟨d.kr.lo t ht, d.kr.hi t ht⟩) d.ae cc (fun k => ?_) fun f μ' dd lf g => ?_
  · have ga := dix_ok (dicAt_dfz (g.get dz)) (lk_of d.nd ht)
    have ft := d.fq t ht
    simp_arith [wipeD, fYes, ga, Gr.refl, sizeLine_eq, Nat.reduceLeDiff]
    refine lprod2_ok ft.fr fc.fr (ft.sm h1.1 h1.2.1 h1.2.2) (fc.sm h2.1 h2.2.1 h2.2.2) ?_
    exact ⟨rfl, Gr.refl⟩
  · rw [cf_scl fc.fr d.of.can, d.cf]
    unfold vl
    rw [← sum_scale]
    refine sum_congr' fun t ht => ?_
    simp only [if_true]
    split
    · rw [qv_mul (d.fq t ht).fr.1 fc.fr.1]; grind
    · grind
  · refine cleared_ok dd hl fun f2 μ2 L2 lf2 g2 => ⟨g.trans g2, ?_⟩
    have := g.lt
    simp only at lf2
    simp at lf this
    exact q f2 _ (L2.kp Kp.set (by omega)) (by omega) (unlock_gr d.at_ (g.trans g2))
theorem line_ok {μ : Sto} {n A M : Nat} {a e : Int} {r : Row} {Q : D × Sto → Prop} (L : Lt μ n A M a e r) (hl : -100000 ≤ a ∧ e ≤ 100000) (q : ∀ μ', Gr μ μ' → Q (rowD r, μ')) : Wp (F_law_line [.loc n] μ) Q := by
  obtain ⟨ts, d, nz⟩ := L.ex
  have h := d.at_
  have nzs : nzT ts = ts.map (·.1) := by unfold nzT; rw [List.filter_eq_self.mpr fun t ht => decide_eq_true (nz t ht)]
  have e0 : opEqM (.loc n) (.loc μ.length) (μ ++ [.dic []]) = some (.bl (kvD ts).isEmpty, μ ++ [.dic []]) := by
    have h1 : (μ ++ [Ob.dic []])[n]? = some (.dic (kvD ts)) := Gr.app.get h
    have h2 : (μ ++ [Ob.dic []])[μ.length]? = some (.dic []) := by simp
    simp only [opEqM, h1, h2]
  have g0 : Gr μ (μ ++ [Ob.dic []]) := Gr.app
  refine def_wp rfl (sq_wp ?_)
  simp_arith [e0]
  generalize μ ++ [Ob.dic []] = μ0 at g0 ⊢
  cases hts : ts with
  | nil =>
    have := told_nil d (by rw [nzs, hts]; rfl)
    subst this
    simp_arith [kvD, List.isEmpty_nil, sizeLine_eq, Nat.reduceLeDiff]
    exact q _ g0
  | cons t0 ts0 =>
    simp_arith [kvD, List.isEmpty_cons]
    have hk : ∀ μ', Gr μ0 μ' → cList [.loc n] μ' = some (.loc μ'.length, μ' ++ [.lst (D.int t0.1 :: (ts0.map (·.1)).map D.int)]) := fun μ' g => by
      have e1 : (kvD ts).map (fun kv => keyD kv.1) = D.int t0.1 :: (ts0.map (·.1)).map D.int := by
        rw [hts]
        unfold kvD
        rw [List.map_map, List.map_cons, List.map_map]
        rfl
      unfold cList
      simp only [(g0.trans g).get h, e1]
    have lkk : ∀ μ' : Sto, lstAt (μ' ++ [.lst (D.int t0.1 :: (ts0.map (·.1)).map D.int)]) μ'.length = some (D.int t0.1 :: (ts0.map (·.1)).map D.int) := fun μ' => by unfold lstAt; simp
    have io : intsOf (D.int t0.1 :: (ts0.map (·.1)).map D.int) = some (t0.1 :: ts0.map (·.1)) := by have := intsOf_ints (t0.1 :: ts0.map fun t => t.1); exact this
    have c2 : ∀ μ' : Sto, cMin [.loc μ'.length] (μ' ++ [.lst (D.int t0.1 :: (ts0.map (·.1)).map D.int)]) = some (.int (minI t0.1 (ts0.map (·.1))), μ' ++ [.lst (D.int t0.1 :: (ts0.map (·.1)).map D.int)]) := fun μ' => by
      unfold cMin
      simp only [lkk, Option.bind_some, io]
    have c3 : ∀ μ' : Sto, cMax [.loc μ'.length] (μ' ++ [.lst (D.int t0.1 :: (ts0.map (·.1)).map D.int)]) = some (.int (maxI t0.1 (ts0.map (·.1))), μ' ++ [.lst (D.int t0.1 :: (ts0.map (·.1)).map D.int)]) := fun μ' => by
      unfold cMax
      simp only [lkk, Option.bind_some, io]
    obtain ⟨n1, n2⟩ := minI_ok t0.1 (ts0.map (·.1))
    obtain ⟨x1, x2⟩ := maxI_ok t0.1 (ts0.map (·.1))
    have nr : ∀ k ∈ nzT ts, a ≤ k ∧ k < e := fun k hk => by
      obtain ⟨t, ht, rfl, _⟩ := nz_mem.mp hk
      exact ⟨d.kr.lo t ht, d.kr.hi t ht⟩
    have ek : nzT ts = t0.1 :: ts0.map (·.1) := by rw [nzs, hts]; rfl
    rw [← ek] at n1 n2 x1 x2
    have b1 := nr _ n1
    have b2 := nr _ x1
    have er := told_eq d n1 x1 (fun k hk => ⟨n2 k hk, x2 k hk⟩)
    generalize hlo : minI t0.1 (ts0.map (·.1)) = lo at *
    generalize hhi : maxI t0.1 (ts0.map (·.1)) = hi at *
    refine rest (sq_rest ?_)
    simp_arith [hk μ0 Gr.refl, c2]
    have g1 : Gr μ0 (μ0 ++ [Ob.lst (D.int t0.1 :: (ts0.map (·.1)).map D.int)]) := Gr.app
    generalize μ0 ++ [Ob.lst (D.int t0.1 :: (ts0.map (·.1)).map D.int)] = μ1 at g1 ⊢
    refine rest (ret_wp ?_)
    have hr : iRng2' (fCons (fVar 1) (fCons (fBin opAddX (fCB cMax (fCons (fCB cList (fCons (fVar 0) fNil)) fNil)) (fC (.int 1))) fNil)) [some (.loc n), some (.int lo), none] μ1 = some (.rng lo (hi + 1 - lo).toNat, μ1 ++ [Ob.lst (D.int t0.1 :: (ts0.map (·.1)).map D.int)]) := by
      unfold iRng2'
      simp only [fCons, fVar, fBin, fCB, fC, fNil, List.getElem?_cons_zero, List.getElem?_cons_succ, Option.bind_some, hk μ1 g1, c3, addX_int]
      rw [if_pos (by omega)]
    have g2 := g1.trans (Gr.app (more := [Ob.lst (D.int t0.1 :: (ts0.map (·.1)).map D.int)]))
    simp_arith []
    refine fLc_list (n := (hi + 1 - lo).toNat) (x := fun i => .int (lo + (i : Nat))) (p := fun _ => true) (e := fun (i : Nat) => frD ((lk ts (lo + (i : Int))).getD (0, 1))) hr (fun _ _ _ => rfl) (by omega) rfl ?_ ?_
    · intro i hi μ' g
      have dg := (g0.trans (g2.trans g)).get h
      refine ⟨_, rfl, ?_⟩
      have ev : (valD (kvD ts) (.inl (lo + (i : Int)))).getD (DL.D.tup [.int 0, .int 1]) = frD ((lk ts (lo + (i : Int))).getD (0, 1)) := by
        rw [valD_kv]
        cases lk ts (lo + (i : Int)) <;> rfl
      simp_arith [wipeD, fYes, Gr.refl, dg, keyOf, sizeLine_eq, Nat.reduceLeDiff, ev]
    · intro f μ' hf lf g
      have ef : (((List.range (hi + 1 - lo).toNat).filter fun _ => true).map fun (i : Nat) => frD ((lk ts (lo + (i : Int))).getD (0, 1))) = (toldL ts lo (hi + 1 - lo).toNat).map frD := by
        rw [List.filter_eq_self.mpr (fun _ _ => rfl)]
        unfold toldL
        rw [List.map_map]
        rfl
      rw [ef] at hf
      simp_arith [cTuple, lst_loc hf, sizeLine_eq, Nat.reduceLeDiff]
      have := q μ' (g0.trans (g2.trans g))
      rw [er] at this
      exact this
end BS
set_option exponentiation.threshold 20000
namespace BS
open PySem PySem.Spec PyProof.Rows L2 DL
theorem up_get {acc : List Pl} {k : Int} {p : Int × Int} (hp : isFr p) : upK acc k p = putT acc k (addP ((lk acc k).getD (0, 1)) p) := by
  unfold upK
  cases lk acc k with
  | none =>
    show putT acc k p = putT acc k (addP (0, 1) p)
    rw [addP_zero_left ⟨by decide, by decide⟩ hp rfl]
  | some q => rfl
theorem get2_kv (acc : List Pl) (k : Int) : (valD (kvD acc) (.inl k)).getD (DL.D.tup [.int 0, .int 1]) = frD ((lk acc k).getD (0, 1)) := by
  rw [valD_kv]
  cases lk acc k <;> rfl
theorem finq_get {D M : Nat} {acc : List Pl} (h : Fq D M acc) (k : Int) : FinQ D M ((lk acc k).getD (0, 1)) := by
  cases e : lk acc k with
  | none => exact FinQ.zero.mono (Nat.zero_le _)
  | some q => exact h _ (lk_mem e)
theorem plus_lot {μ : Sto} {m n D M N U : Nat} {a e : Int} {r s : Row} {Q : DL.D × Sto → Prop} (L : Lt μ m D M a e r) (K : Lt μ n D N a e s) (hU : e - a ≤ U) (hU2 : U ≤ 1000) (h0 : 0 < D) (h1 : D < 2 ^ 1000) (h2 : M + U * N < 2 ^ 1000)
    (q : ∀ f μ', Lt μ' f D (M + U * N) a e (addR r s) → μ.length ≤ f → Gr μ μ' → Q (.loc f, μ')) : Wp (F_law_plus_3 [.loc m, .loc n] μ) Q := by
  obtain ⟨ts, d, nz⟩ := L.ex
  obtain ⟨us, f, nz2⟩ := K.ex
  have ln := d.len
  have lf := f.len
  have dz := locked (kvs := kvD ts) d.at_
  have lm := (List.getElem?_eq_some_iff.mp d.at_).1
  have lnn := (List.getElem?_eq_some_iff.mp f.at_).1
  refine def_wp rfl (sq_wp (lock_out (n := m) (kvs := kvD ts) rfl d.at_ (asg_wp ?_)))
  refine lotd (P := fun _ => true) (φ := fun t => t) (r' := r) d rfl dz (by omega) (fun t _ u _ _ _ z => z) (fun t ht μ' g => ?_) (fun t ht _ => d.fq t ht) (fun t ht _ => ⟨d.kr.lo t ht, d.kr.hi t ht⟩) d.ae d.of.can (fun k => ?_) fun fo μ1 dd lfo g1 => ?_
  · have ga := dix_ok (dicAt_dfz (g.get dz)) (lk_of d.nd ht)
    simp_arith [wipeD, fYes, ga, Gr.refl, pairT, sizeLine_eq, Nat.reduceLeDiff]
  · rw [d.cf]
    unfold vl
    refine sum_congr' fun t ht => ?_
    simp only [if_true]
  simp_arith []
  refine ⟨_, unl_nx (g1.get dz), ?_⟩
  have g1' := unlock_gr d.at_ g1
  have e1 : ((ts.filter fun _ => true).map fun t => t) = ts := by rw [List.filter_eq_self.mpr fun _ _ => rfl, List.map_id']
  rw [e1] at dd
  simp at lfo
  replace dd := dd.kp (n := m) (μ' := μ1.set m (.dic (kvD ts))) Kp.set (by omega)
  generalize μ1.set m (.dic (kvD ts)) = μ2 at dd g1' ⊢
  have ne : fo ≠ n := by omega
  have a0 : Au D M N a e 0 ts := ⟨d.nd, fun t ht => (d.fq t ht).mono (by omega), d.kr⟩
  have jb : ∀ j, j ≤ us.length → M + j * N ≤ M + U * N := fun j hj => Nat.add_le_add_left (Nat.mul_le_mul_right _ (by omega)) _
  refine rest (sq_rest ?_)
  refine lock_for (i := 1) (n := n) (ts := us) rfl (g1'.get f.at_) (fun j ρ' μ' => ∃ c acc, ρ' = [some (.loc m), some (.loc n), some (.loc fo), c] ∧ Acc n fo us μ μ' acc ∧ Au D M N a e j acc ∧ ∀ x : Rat, evt acc x = evt ts x + evt (us.take j) x) (fun j ρ' μ' h => by obtain ⟨c, acc, _, A, _⟩ := h; exact A.dz) ⟨_, _, rfl, Acc.start g1' f.at_ ne dd.at_, a0, fun x => by show _ = _ + (0 : Rat); grind⟩ ?_ ?_
  · rintro j ρ' μ' hj ⟨c, acc, rfl, A, au, hv⟩
    have hm : us[j] ∈ us := List.getElem_mem hj
    have la := nd_len au.nd au.kr d.ae
    have hk : a ≤ us[j].1 ∧ us[j].1 < e := ⟨f.kr.lo _ hm, f.kr.hi _ hm⟩
    have ga := dix_ok (dicAt_dfz A.dz) (lk_of f.nd hm)
    have st := fun p => std_ok (k := us[j].1) (p := p) A.ac (by omega)
    have j1 := jb j (by omega)
    have j2 := jb (j + 1) (by omega)
    have fu := f.fq _ hm
    have fg := finq_get au.fq us[j].1
    have ac := A.ac
    have nb : N ≤ M + (j + 1) * N := by rw [Nat.add_mul, Nat.one_mul]; omega
    refine gNm_bind ?_
    simp_arith [ac, keyOf, get2_kv, ga, sizeLine_eq, Nat.reduceLeDiff]
    refine lsum3_ok fg.fr fu.fr (fg.sm h0 h1 (by omega)) (fu.sm h0 h1 (by omega)) ?_
    simp_arith [st]
    refine ⟨_, _, rfl, _, upK acc us[j].1 us[j].2, rfl, ?_, au.up fu hk, fun x => by rw [au.evt fu, hv, evt_take hj]; grind⟩
    rw [up_get fu.fr]
    exact A.put (by omega) ne
  · rintro ρ' μ' ⟨c, acc, rfl, A, au, hv⟩
    obtain ⟨g2, at2⟩ := A.done f.at_ ne
    refine rest (ret_wp ?_)
    simp_arith []
    rw [List.take_length] at hv
    have dd2 := au.dd (r := addR r s) d.ae at2 (addR_can d.of.can f.of.can) (fun x hx => by rw [addR_ev d.of.can f.of.can hx, hv x, d.of.ev x hx, f.of.ev x hx])
    have b1 := jb us.length (Nat.le_refl _)
    refine cleared_ok dd2 (by omega) fun f2 μ3 L3 hf2 g3 => q f2 μ3 (L3.mono b1) ?_ (g2.trans g3)
    have := g2.lt
    omega
end BS
set_option exponentiation.threshold 20000
namespace BS
open PySem PySem.Spec PyProof.Rows L2 DL
end BS
set_option exponentiation.threshold 20000
namespace BS
open PySem PySem.Spec PyProof.Rows L2 DL
abbrev Stq := Bool × Row
abbrev Scl := ((Int × Int) × Int) × ((Int × Int) × Int)
def wayD (w : Bool) : D := .str (if w then Str.ofString "low" else Str.ofString "high")
/-- what a ladder must be -/
structure LadOk (ss : List Stq) (x : Scl) : Prop where
  can : ∀ s ∈ ss, Can s.2
  len : ss.length ≤ 10
  f1 : isFr x.1.1
  n1 : x.1.1.1 ≠ 0
  f2 : isFr x.2.1
  n2 : x.2.1.1 ≠ 0
end BS
set_option exponentiation.threshold 20000
namespace BS
open PySem PySem.Spec PyProof.Rows L2 DL
/-- what a step makes of two rows -/
def aft (s : Stq) (x : Row × Row) : Row × Row := if s.1 then (addR x.1 (mulR s.2 x.2), x.2) else (x.1, addR x.2 (mulR s.2 x.1))
def bA (b c : Nat) : Nat → Nat
  | 0 => c
  | i + 1 => b + 2 * bA b c i
def wA (v w : Nat) (i : Nat) : Nat := w + i * (v + 11)
theorem bA_le (b c i : Nat) : bA b c i ≤ bA b c (i + 1) := by show bA b c i ≤ b + 2 * bA b c i; omega
theorem wA_mono (v w : Nat) {i j : Nat} (h : i ≤ j) : wA v w i ≤ wA v w j := Nat.add_le_add_left (Nat.mul_le_mul_right _ h) _
/-- two rows of a ladder, so many steps on -/
structure Two (b v c w L S : Nat) (a e : Int) (i : Nat) (x : Row × Row) : Prop where
  r1 : Rw (bA b c i) (wA v w i) L S x.1
  r2 : Rw (bA b c i) (wA v w i) L S x.2
  i1 : Iv (a - i) (e + 2 * i) x.1
  i2 : Iv (a - i) (e + 2 * i) x.2
/-- a step's row -/
structure SOk (b v : Nat) (s : Stq) : Prop where
  rw : Rw b v 4 4 s.2
  iv : Iv (-1) 3 s.2
theorem Two.aft {b v c w L S : Nat} {a e : Int} {i : Nat} {x : Row × Row} {s : Stq} (h : Two b v c w L S a e i x) (hs : SOk b v s) (h1 : (e + 2 * (i + 1 : Nat)) - (a - (i + 1 : Nat)) ≤ L) (h2 : -(S : Int) ≤ a - (i + 1 : Nat)) (h3 : e + 2 * (i + 1 : Nat) ≤ S) : Two b v c w L S a e (i + 1) (BS.aft s x) := by
  have eb : bA b c (i + 1) = bA b c i + (b + bA b c i) := by show b + 2 * bA b c i = _; omega
  have ev : wA v w (i + 1) = (v + wA v w i + 10) + 1 := by unfold wA; rw [Nat.add_mul, Nat.one_mul]; omega
  have one : ∀ {p r : Row}, Rw (bA b c i) (wA v w i) L S p → Rw (bA b c i) (wA v w i) L S r → Iv (a - i) (e + 2 * i) p → Iv (a - i) (e + 2 * i) r → Rw (bA b c (i + 1)) (wA v w (i + 1)) L S (addR p (mulR s.2 r)) ∧ Iv (a - (i + 1 : Nat)) (e + 2 * (i + 1 : Nat)) (addR p (mulR s.2 r)) := fun hp hr ip ir => by
    have iv := (ip.mono (a' := a - (i + 1 : Nat)) (e' := e + 2 * (i + 1 : Nat)) (by omega) (by omega)).add ((hs.iv.mul ir).mono (a' := a - (i + 1 : Nat)) (e' := e + 2 * (i + 1 : Nat)) (by omega) (by omega))
    have h := (hp.mono (v' := v + wA v w i + 10) (Nat.le_refl _) (by omega) (Nat.le_refl _) (Nat.le_refl _)).addv (hs.rw.mul hr (by decide))
    rw [eb, ev]
    exact ⟨h.span iv h1 h2 h3, iv⟩
  have lift : ∀ {p : Row}, Rw (bA b c i) (wA v w i) L S p → Rw (bA b c (i + 1)) (wA v w (i + 1)) L S p := fun hp => hp.mono (bA_le b c i) (wA_mono v w (Nat.le_succ i)) (Nat.le_refl _) (Nat.le_refl _)
  unfold BS.aft
  split
  · obtain ⟨A, B⟩ := one h.r1 h.r2 h.i1 h.i2
    exact ⟨A, lift h.r2, B, h.i2.mono (by omega) (by omega)⟩
  · obtain ⟨A, B⟩ := one h.r2 h.r1 h.i2 h.i1
    exact ⟨lift h.r1, A, h.i1.mono (by omega) (by omega), B⟩
def run (ss : List Stq) (x : Row × Row) : Row × Row := ss.foldl (fun x s => aft s x) x
theorem run_take {ss : List Stq} {i : Nat} (h : i < ss.length) (x : Row × Row) : run (ss.take (i + 1)) x = aft ss[i] (run (ss.take i) x) := by
  unfold run
  rw [take_snoc h, List.foldl_append]
  rfl
theorem Two.run {b v c w L S : Nat} {a e : Int} {x : Row × Row} {ss : List Stq} (h : Two b v c w L S a e 0 x) (hs : ∀ s ∈ ss, SOk b v s) (h1 : (e + 2 * ss.length) - (a - ss.length) ≤ L) (h2 : -(S : Int) ≤ a - ss.length) (h3 : e + 2 * ss.length ≤ S) : ∀ i, i ≤ ss.length → Two b v c w L S a e i (BS.run (ss.take i) x)
  | 0, _ => h
  | i + 1, hi => by
    rw [run_take (by omega)]
    exact (Two.run h hs h1 h2 h3 i (by omega)).aft (hs _ (List.getElem_mem _)) (by omega) (by omega) (by omega)
end BS
set_option exponentiation.threshold 20000
namespace BS
open PySem PySem.Spec PyProof.Rows L2 DL
theorem getD_in {α : Type} (z : α) {xs : List α} {i : Nat} (h : i < xs.length) : xs.getD i z = xs[i] := by rw [List.getD_eq_getElem?_getD, List.getElem?_eq_getElem h]; rfl
end BS
set_option exponentiation.threshold 20000
namespace BS
open PySem PySem.Spec PyProof.Rows L2 DL
theorem lcF_inv {g : GF} {ft : TF} {fe : EF} {it : ItD} {f N : Nat} {ρ : Sl} {x : Nat → D} (I : Nat → List D → Sto → Prop)
    (hit : ∀ i acc μ', I i acc μ' → itAt it i μ' = some (if i < N then some (x i) else none)) (hl : ∀ i acc μ', I i acc μ' → acc.length < 1000000)
    (step : ∀ i acc μ', i < N → I i acc μ' → ∃ ρ1, g (x i) ρ μ' = some (ρ1, μ') ∧ Wp (ft ρ1 μ') fun q => (q.1 = true → Wp (fe ρ1 q.2) fun r => r.2[f]? = some (.lst acc) ∧ I (i + 1) (acc ++ [r.1]) (r.2.set f (.lst (acc ++ [r.1])))) ∧ (q.1 = false → I (i + 1) acc q.2)) :
    ∀ (m i : Nat) (acc : List D) (μ : Sto), m + i = N → I i acc μ → ∃ acc' μ', lcF g ft fe it f ρ m i μ = some μ' ∧ I N acc' μ'
  | 0, i, acc, μ, hm, h => by
    have : i = N := by omega
    subst this
    refine ⟨acc, μ, ?_, h⟩
    unfold lcF
    rw [hit i acc μ h, if_neg (by omega)]
  | m + 1, i, acc, μ, hm, h => by
    have hi : i < N := by omega
    obtain ⟨ρ1, e1, ⟨b, μ1⟩, e2, h1, h2⟩ := step i acc μ hi h
    unfold lcF
    rw [hit i acc μ h, if_pos hi]
    simp only [e1, Option.bind_some, e2]
    cases b with
    | true =>
      obtain ⟨⟨d, μ2⟩, e3, e4, e5⟩ := h1 rfl
      simp only [if_true, e3, Option.bind_some, e4]
      have := hl _ _ _ h
      rw [if_pos (by rw [sizeLine_eq]; omega)]
      exact lcF_inv I hit hl step m (i + 1) _ _ (by omega) e5
    | false =>
      simp only [Bool.false_eq_true, if_false]
      exact lcF_inv I hit hl step m (i + 1) _ _ (by omega) (h2 rfl)
theorem fLc_inv {fi : IF} {g : GF} {ft : TF} {fe : EF} {vs : List Nat} {ρ : Sl} {μ μ0 : Sto} {it : ItD} {N : Nat} {x : Nat → D} {Q : D × Sto → Prop} (hi : fi ρ μ = some (it, μ0)) (hn : itLen it μ0 = N) (I : Nat → List D → Sto → Prop)
    (hit : ∀ i acc μ', I i acc μ' → itAt it i μ' = some (if i < N then some (x i) else none)) (hl : ∀ i acc μ', I i acc μ' → acc.length < 1000000) (h0 : I 0 [] (μ0 ++ [.lst []]))
    (step : ∀ i acc μ', i < N → I i acc μ' → ∃ ρ1, g (x i) (wipeD ρ vs) μ' = some (ρ1, μ') ∧ Wp (ft ρ1 μ') fun q => (q.1 = true → Wp (fe ρ1 q.2) fun r => r.2[μ0.length]? = some (.lst acc) ∧ I (i + 1) (acc ++ [r.1]) (r.2.set μ0.length (.lst (acc ++ [r.1])))) ∧ (q.1 = false → I (i + 1) acc q.2))
    (q : ∀ acc μ', I N acc μ' → Q (.loc μ0.length, μ')) : Wp (fLc fi g ft fe vs ρ μ) Q := by
  obtain ⟨acc, μ', e, h⟩ := lcF_inv I hit hl step N 0 [] _ (by omega) h0
  refine Wp.of (a := (.loc μ0.length, μ')) ?_ (q acc μ' h)
  unfold fLc
  simp only [hi, Option.bind_some, hn, e, Option.map_some]
theorem cut10 {ns : List Int} : DL.cutD (ns.map D.int) none (some 10) = (ns.take 10).map D.int := cut_to 10
theorem well_ok {μ : Sto} {ns : List Int} {t : Nat} (l0 : lstAt μ 0 = some (ns.map D.int)) (ht : t ≤ 60) : Wp (F_law_well [.loc 0, .int (t : Nat)] μ) fun p => ∃ n, p.1 = .loc n ∧ μ.length ≤ n ∧ W p.2 n 0 ∧ Gr μ p.2 := by
  have m2 : mulOk 7349 ((t : Nat) : Int) = true := mulOk_small (by decide) (by omega)
  have m3 : mulOk 31 ((t : Nat) : Int) = true := mulOk_small (by decide) (by omega)
  refine def_wp rfl (sq_wp ?_)
  simp_arith [opMulX, opMul, m2, addX_int]
  generalize hm0 : (60101 + 7349 * ((t : Nat) : Int)) = m0
  have hm : 0 ≤ m0 ∧ m0 < 2147483648 := by omega
  refine sq_rest ?_
  have hit : iLst (fSl (fVar 0) fNoPart (fPart (fC (.int 10)))) [some (.loc 0), some (.int (t : Nat)), some (.int m0), none, none] μ = some (.lst μ.length, μ ++ [Ob.lst ((ns.take 10).map D.int)]) := by
    refine iLst_of (ds := (ns.take 10).map D.int) ?_ (by simp)
    simp only [fSl, fVar, fNoPart, fPart, fC, List.getElem?_cons_zero, Option.bind_some, slD, l0, Option.map_some, cut10, id]
  refine for_wp hit ?_
  have hL : (μ ++ [Ob.lst ((ns.take 10).map D.int)])[μ.length]? = some (.lst ((ns.take 10).map D.int)) := by simp
  have g3 : Gr μ (μ ++ [Ob.lst ((ns.take 10).map D.int)]) := Gr.app
  generalize hT : μ.length = T at hL ⊢
  generalize μ ++ [Ob.lst ((ns.take 10).map D.int)] = μ2 at hL g3 ⊢
  generalize ns.take 10 = cs at hL ⊢
  have lL := lst_loc hL
  have el : itLen (.lst T) μ2 = cs.length := by simp only [itLen, lL]; simp
  rw [el]
  refine (loop_gen (n := cs.length) (x := fun i => .int (cs.getD i 0)) (I := fun i ρ μ' => (∃ (m : Int) (c3 : Option D), ρ = [some (.loc 0), some (.int t), some (.int m), c3, none] ∧ 0 ≤ m ∧ m < 2147483648) ∧ μ' = μ2) ?_ ?_ cs.length 0 _ _ rfl ⟨⟨_, _, rfl, hm.1, hm.2⟩, rfl⟩).mono ?_
  · rintro i ρ _ ⟨_, rfl⟩
    simp only [itAt, lL, Option.map_some]
    by_cases hi : i < cs.length
    · rw [if_pos hi, ints_get hi]
    · rw [if_neg hi, List.getElem?_eq_none (by simpa using hi)]
  · rintro i _ _ hi ⟨⟨m, c3, rfl, hm1, hm2⟩, rfl⟩
    have q1 : mulOk m 48673 = true := mulOk_small (by omega) (by omega)
    simp_arith [opMulX, opMul, q1, opMod, cInt, opAddX, opAdd]
    generalize cs.getD i 0 = z
    have b1 := fmod_pos (i := m * 48673 + z.fmod 2147483563 + 29) (m := 2147483629) (by decide)
    refine need (by decide) (need (by decide) ⟨_, _, rfl, ⟨_, _, rfl, b1.1, by omega⟩, rfl⟩)
  · rintro _ ⟨ρ', μ', rfl, ⟨m, c3, rfl, hm1, hm2⟩, rfl⟩
    have l2 := g3.lst l0
    have ln := g3.lt
    refine rest (sq_rest ?_)
    have S : Wp ((fAsg (fIf (fB (fBin opLt (fVar 1) (fCB cLen (fCons (fVar 0) fNil)))) (fCB cAbs (fCons (fCB cInt (fCons (fBin opIx (fVar 0) (fVar 1)) fNil)) fNil)) (fBin opAddX (fC (.int 104711)) (fBin opMulX (fC (.int 31)) (fVar 1)))) (gNm 4)) [some (.loc 0), some (.int (t : Nat)), some (.int m), c3, none] μ') fun o => ∃ own : Int, 0 ≤ own ∧ o = .nx [some (.loc 0), some (.int (t : Nat)), some (.int m), c3, some (.int own)] μ' := by
      simp_arith [cLen, l2, List.length_map, opCmp]
      refine ⟨fun h => ?_, fun h => ?_⟩
      · have h : t < ns.length := by simpa using h
        simp_arith [opIx, l2, atI_at, ints_get h, cInt, cAbs]
        exact ⟨_, by split <;> omega, rfl⟩
      · simp_arith [opMulX, opMul, m3, addX_int]
        exact ⟨_, by omega, rfl⟩
    refine S.mono ?_
    rintro _ ⟨own, ho, rfl⟩
    have fo := fmod_pos (i := own) (m := 2147483549) (by decide)
    have q1 : mulOk m 131 = true := mulOk_small (by omega) (by decide)
    have q2 : mulOk (own.fmod 2147483549) 6091 = true := mulOk_small (by omega) (by decide)
    have fm := fmod_pos (i := m * 131 + own.fmod 2147483549 * 6091 + 11) (m := 2147483629) (by decide)
    have wk : ∀ a : Int, 0 ≤ a → W (μ' ++ [Ob.lst [.int a, .int ((m * 131 + own.fmod 2147483549 * 6091 + 11).fmod 2147483629), .int 0]]) μ'.length 0 := fun a ha =>
      ⟨a, _, 0, by simp, ha, fm.1, by omega, by omega, by omega⟩
    refine rest (sq_rest ?_)
    simp_arith [opMulX, opMul, q1, q2, opMod, cInt, addX_int, show ((2147483549 : Int) = 0) = False by simp, show ((2147483629 : Int) = 0) = False by simp]
    refine rest (ret_wp ?_)
    simp_arith [opCmp, pow18, sizeLine_eq, Nat.reduceLeDiff]
    exact ⟨fun h => ⟨_, rfl, by omega, wk _ ho, g3.trans Gr.app⟩, fun h => ⟨_, rfl, by omega, wk 0 (by omega), g3.trans Gr.app⟩⟩
abbrev M84 : Nat := 84000000084
theorem Nm.fq {p : Int × Int} (h : Nm p) : FinQ 84 M84 p := by
  have b := bot_pos h.fr
  have t := h.top
  exact FinQ.of (V := 1000000001) h.fr (by decide) h.bot (by
    have : 1000000001 ≤ 1000000001 * p.2.natAbs := Nat.le_mul_of_pos_right _ b
    omega)
theorem lot_of {μ : Sto} {f : Nat} {ts : List Pl} {a e : Int} (h : μ[f]? = some (.dic (kvD ts))) (nd : Nd ts) (kr : Kr a e ts) (ae : a ≤ e) (hs : ∀ t ∈ ts, Nm t.2) : ∃ r, Lt μ f 84 M84 a e r := by
  have fq : Fq 84 M84 ts := fun t ht => (hs t ht).fq
  obtain ⟨r, dr⟩ := row_of nd fq kr ae
  exact ⟨r, ts, ⟨h, nd, fq, kr, ae, dr⟩, fun t ht => (hs t ht).nz⟩
end BS
set_option exponentiation.threshold 20000
namespace BS
open PySem PySem.Spec PyProof.Rows L2 DL
structure NScl (x : Scl) : Prop where
  f1 : Nm x.1.1
  f2 : Nm x.2.1
  p1 : -1 ≤ x.1.2 ∧ x.1.2 ≤ 2
  p2 : -2 ≤ x.2.2 ∧ x.2.2 ≤ 1
/-- steps in the store: a list of pairs of a word and a lot -/
abbrev Ent := Bool × (Nat × Row)
def entD (e : Ent) : D := .tup [wayD e.1, .loc e.2.1]
def entS (e : Ent) : Stq := (e.1, e.2.2)
structure LS (μ : Sto) (f k : Nat) (ss : List Stq) : Prop where
  ex : ∃ es : List Ent, ss = es.map entS ∧ μ[f]? = some (.lst (es.map entD)) ∧ k ≤ f ∧ ∀ e ∈ es, k ≤ e.2.1 ∧ Lt μ e.2.1 84 M84 (-1) 3 e.2.2
theorem LS.gr {μ μ' : Sto} {f k : Nat} {ss : List Stq} (h : LS μ f k ss) (g : Gr μ μ') : LS μ' f k ss := let ⟨es, e, h1, h2, h3⟩ := h.ex; ⟨es, e, g.get h1, h2, fun x hx => ⟨(h3 x hx).1, (h3 x hx).2.gr g⟩⟩
theorem LS.kp {μ μ' : Sto} {n f k : Nat} {ss : List Stq} (h : LS μ f k ss) (g : Kp n μ μ') (hn : n < k) : LS μ' f k ss := let ⟨es, e, h1, h2, h3⟩ := h.ex; ⟨es, e, g.at_ f _ (by omega) h1, h2, fun x hx => ⟨(h3 x hx).1, (h3 x hx).2.kp g (by have := (h3 x hx).1; omega)⟩⟩
theorem LS.sok {μ : Sto} {f k : Nat} {ss : List Stq} (h : LS μ f k ss) : ∀ s ∈ ss, SOk 7 37 s := fun s hs => by
  obtain ⟨es, rfl, _, _, h3⟩ := h.ex
  obtain ⟨e, he, rfl⟩ := List.mem_map.mp hs
  have L := (h3 e he).2
  exact ⟨L.rw (by decide) (by decide) (by decide) (by decide) (by decide) (by decide), L.iv⟩
theorem LS.can {μ : Sto} {f k : Nat} {ss : List Stq} (h : LS μ f k ss) : ∀ s ∈ ss, Can s.2 := fun s hs => (h.sok s hs).rw.can
end BS
set_option exponentiation.threshold 20000
namespace BS
open PySem PySem.Spec PyProof.Rows L2 DL
theorem iRng2_of {f : AF} {ρ : Sl} {μ μ' : Sto} {i j : Int} (h : f ρ μ = some ([.int i, .int j], μ')) (hi : -(2 ^ 62) ≤ i ∧ i < 2 ^ 62) (hj : -(2 ^ 62) ≤ j ∧ j < 2 ^ 62) : iRng2' f ρ μ = some (.rng i (j - i).toNat, μ') := by
  unfold iRng2'
  rw [h, Option.bind_some]
  simp only
  rw [if_pos ⟨hi.1, hi.2, hj.1, hj.2⟩]
/-- dict([(k, a drawn number) for k in a list of places]) -/
theorem numlot_ok {μ : Sto} {n k j m : Nat} {fi : IF} {ρ : Sl} {μ0 : Sto} {ks : List Int} {Q : D × Sto → Prop} (hi : fi ρ μ = some (.lst m, μ0)) (hm : μ0[m]? = some (.lst (ks.map D.int))) (w : W μ0 n k) (hk : k ≤ 500000) (hl : ks.length ≤ 100) (nd : ks.Nodup) (hmn : m ≠ n)
    (hv0 : ∀ x : Int, ((wipeD ρ [j]).set j (some (.int x)))[0]? = some (some (.loc n))) (hvj : ∀ x : Int, ((wipeD ρ [j]).set j (some (.int x)))[j]? = some (some (.int x)))
    (q : ∀ f μ' us, μ'[f]? = some (.dic (kvD us)) → Nd us → us.map (·.1) = ks → (∀ t ∈ us, Nm t.2) → μ0.length ≤ f → W μ' n (k + 4 * ks.length) → Kp n μ0 μ' → Q (.loc f, μ')) :
    Wp (fCB cDict (fCons (fLc fi (gNm j) fYes (fTup (fCons (fVar j) (fCons (fCB F_law_number (fCons (fVar 0) fNil)) fNil))) [j]) fNil) ρ μ) Q := by
  have nl := w.lt
  have hT : (μ0 ++ [Ob.lst []])[μ0.length]? = some (.lst []) := by simp
  have lm := (List.getElem?_eq_some_iff.mp hm).1
  have g00 : Gr μ0 (μ0 ++ [Ob.lst []]) := Gr.app
  refine cb1 ?_
  refine fLc_inv (it := .lst m) (N := ks.length) (x := fun i => .int (ks.getD i 0)) hi (by simp only [itLen, lst_loc hm]; simp) (fun i acc μ' => ∃ us : List Pl, acc = us.map pairT ∧ us.length = i ∧ us.map (·.1) = ks.take i ∧ (∀ t ∈ us, Nm t.2) ∧ i ≤ ks.length ∧ μ'[μ0.length]? = some (.lst acc) ∧ W μ' n (k + 4 * i) ∧ Kp n μ0 μ') ?_ ?_ ⟨[], rfl, rfl, rfl, fun t ht => (by cases ht), Nat.zero_le _, hT, w.app, Kp.app⟩ ?_ ?_
  · rintro i acc μ' ⟨us, rfl, hul, huk, hun, hin, hA, wi, kp⟩
    have hm' := kp.at_ m _ hmn hm
    simp only [itAt, lst_loc hm', Option.map_some]
    by_cases h : i < ks.length
    · rw [if_pos h, ints_get h]
    · rw [if_neg h, List.getElem?_eq_none (by simpa using h)]
  · rintro i acc μ' ⟨us, rfl, hul, huk, hun, hin, _⟩
    rw [List.length_map]
    omega
  · rintro i acc μ' hlt ⟨us, rfl, hul, huk, hun, hin, hA, wi, kp⟩
    refine ⟨(wipeD ρ [j]).set j (some (.int (ks.getD i 0))), rfl, ?_⟩
    refine Wp.of (a := (true, μ')) rfl ⟨fun _ => ?_, fun h => (by cases h)⟩
    have v0 := hv0 (ks.getD i 0)
    have vj := hvj (ks.getD i 0)
    generalize (wipeD ρ [j]).set j (some (.int (ks.getD i 0))) = ρ1 at v0 vj ⊢
    have go : Wp ((fTup (fCons (fVar j) (fCons (fCB F_law_number (fCons (fVar 0) fNil)) fNil))) ρ1 μ') fun r => ∃ p μ2, r = (pairT (ks.getD i 0, p), μ2) ∧ Nm p ∧ W μ2 n (k + 4 * i + 4) ∧ Kp n μ' μ2 := by
      simp_arith [v0, vj]
      refine number_ok wi (by omega) fun p μ2 np w2 k2 => ?_
      simp_arith [sizeLine_eq, Nat.reduceLeDiff]
      exact ⟨p, μ2, rfl, np, w2, k2⟩
    refine go.mono ?_
    rintro _ ⟨p, μ2, rfl, np, w2, k2⟩
    have hA2 := k2.at_ _ _ (by omega) hA
    refine ⟨hA2, us ++ [(ks.getD i 0, p)], by rw [List.map_append]; rfl, by simp [hul], ?_, fun t ht => ?_, hlt, ?_, (w2.set (by omega)).le (by omega), (kp.trans k2).set_out (Nat.le_refl _)⟩
    · rw [List.map_append, huk, take_snoc hlt, getD_in _ hlt]
      rfl
    · rcases List.mem_append.mp ht with ht | ht
      · exact hun t ht
      · rw [List.mem_singleton.mp ht]; exact np
    · exact List.getElem?_set_self (List.getElem?_eq_some_iff.mp hA2).1
  · rintro acc μ' ⟨us, rfl, hul, huk, hun, _, hA, wi, kp⟩
    rw [List.take_length] at huk
    have ndu : Nd us := by unfold Nd; rw [huk]; exact nd
    refine Wp.of (cDict_kv hA ndu) ?_
    have := kp.len
    exact q μ'.length _ us (by simp) ndu huk hun (by omega) wi.app (kp.trans Kp.app)
theorem draw_ok {μ : Sto} {n k most : Nat} {Q : D × Sto → Prop} (w : W μ n k) (hk : k ≤ 400000) (hm : 0 < most) (hm2 : most ≤ 6) (q : ∀ f μ' r first, Lt μ' f 84 M84 first (first + 6) r → -700 ≤ first → first ≤ 650 → μ.length ≤ f → W μ' n (k + 50) → Kp n μ μ' → Q (.loc f, μ')) : Wp (F_law_draw [.loc n, .int (most : Nat)] μ) Q := by
  have nl := w.lt
  refine def_wp rfl (sq_wp ?_)
  simp_arith [unNeg, sizeLine_eq, Nat.reduceLeDiff]
  refine pickt w (by omega) (by simp) (by simp) fun d μ1 hd w1 k1 => ?_
  obtain ⟨first, rfl, f0, f1⟩ : ∃ first : Int, d = .int first ∧ -700 ≤ first ∧ first ≤ 650 := by
    simp only [List.mem_cons, List.not_mem_nil, or_false] at hd
    rcases hd with h | h | h | h | h | h | h | h | h | h <;> subst h <;> exact ⟨_, rfl, by decide, by decide⟩
  simp_arith []
  refine takec w1 (by omega) (by omega) (by omega) fun l0 μ2 a0 a1 w2 k2 => ?_
  obtain ⟨l, rfl⟩ := Int.eq_ofNat_of_zero_le a0
  simp_arith [addX_int]
  have k12 := k1.trans k2
  have z12 := k12.len
  refine rest (sq_rest (asg_wp ?_))
  generalize hN : (first + (1 + (l : Int)) - 1 - (first + 1)).toNat = N
  have hN2 : N ≤ 5 := by omega
  have hr : iRng2' (fCons (fBin opAddX (fVar 3) (fC (.int 1))) (fCons (fBin opSub (fBin opAddX (fVar 3) (fVar 4)) (fC (.int 1))) fNil)) [some (.loc n), some (.int (most : Nat)), none, some (.int first), some (.int (1 + (l : Int))), none] μ2 = some (.rng (first + 1) N, μ2) := by
    rw [← hN]
    exact iRng2_of (by simp only [fCons, fVar, fBin, fC, fNil, List.getElem?_cons_zero, List.getElem?_cons_succ, Option.bind_some, addX_int, opSub, id]) (by omega) (by omega)
  have hT : (μ2 ++ [Ob.lst []])[μ2.length]? = some (.lst []) := by simp
  refine fLc_inv (it := .rng (first + 1) N) (N := N) (x := fun i => .int (first + 1 + (i : Nat))) hr rfl (fun i acc μ' => ∃ ks : List Int, acc = ks.map D.int ∧ ks.Nodup ∧ (∀ x ∈ ks, first + 1 ≤ x ∧ x < first + 1 + (i : Nat)) ∧ i ≤ N ∧ ks.length ≤ i ∧ μ'[μ2.length]? = some (.lst acc) ∧ W μ' n (k + 2 + i) ∧ Kp n μ2 μ') (fun i acc μ' _ => rfl) (fun i acc μ' h => by
    obtain ⟨ks, rfl, _, _, _, h5, _⟩ := h
    rw [List.length_map]
    omega) ⟨[], rfl, List.nodup_nil, fun x hx => (by cases hx), Nat.zero_le _, Nat.le_refl _, hT, w2.app.le (by omega), Kp.app⟩ ?_ ?_
  · rintro i acc μ' hlt ⟨ks, rfl, nd, hk2, hi, hl, hA, wi, kp⟩
    refine ⟨_, rfl, ?_⟩
    have nA : μ2.length ≠ n := by have := w2.lt; omega
    simp_arith [wipeD]
    refine takec wi (by omega) (by decide) (by decide) fun y μ3 y0 y1 w3 k3 => ?_
    have hA3 := k3.at_ _ _ nA hA
    simp_arith [opCmp]
    refine ⟨fun _ => ⟨hA3, ks ++ [first + 1 + (i : Nat)], by rw [List.map_append]; rfl, ?_, ?_, hlt, by simp; omega, List.getElem?_set_self (List.getElem?_eq_some_iff.mp hA3).1, (w3.set nA).le (by omega), (kp.trans k3).set_out (Nat.le_refl _)⟩, fun _ => ⟨ks, rfl, nd, fun x hx => by have := hk2 x hx; omega, hlt, by omega, hA3, w3.le (by omega), kp.trans k3⟩⟩
    · rw [List.nodup_append]
      refine ⟨nd, by simp, fun a ha b hb => ?_⟩
      have := hk2 a ha
      rw [List.mem_singleton.mp hb]
      omega
    · intro x hx
      rcases List.mem_append.mp hx with hx | hx
      · have := hk2 x hx; omega
      · rw [List.mem_singleton.mp hx]; omega
  · rintro acc μ3 ⟨ks, rfl, nd, hk2, _, hl, hA, w3, k3⟩
    have k13 := k12.trans k3
    have z23 := k3.len
    have nl2 := w2.lt
    simp_arith []
    refine rest (ret_wp ?_)
    -- the list of the places
    have fin : ∀ (m : Nat) (μ4 : Sto) (ks' : List Int), iLst (fBin opAddX (fBin opAddX (fLst (fCons (fVar 3) fNil)) (fVar 2)) (fIf (fB (fBin opGt (fVar 4) (fC (.int 1)))) (fLst (fCons (fBin opSub (fBin opAddX (fVar 3) (fVar 4)) (fC (.int 1))) fNil)) (fLst fNil))) [some (.loc n), some (.int (most : Nat)), some (.loc μ2.length), some (.int first), some (.int (1 + (l : Int))), none] μ3 = some (.lst m, μ4) → μ4[m]? = some (.lst (ks'.map D.int)) → Gr μ3 μ4 → μ3.length ≤ m → ks'.Nodup → (∀ x ∈ ks', first ≤ x ∧ x < first + 6) → ks'.length ≤ 7 →
        Wp ((fCB cDict (fCons (fLc (iLst (fBin opAddX (fBin opAddX (fLst (fCons (fVar 3) fNil)) (fVar 2)) (fIf (fB (fBin opGt (fVar 4) (fC (.int 1)))) (fLst (fCons (fBin opSub (fBin opAddX (fVar 3) (fVar 4)) (fC (.int 1))) fNil)) (fLst fNil)))) (gNm 5) fYes (fTup (fCons (fVar 5) (fCons (fCB F_law_number (fCons (fVar 0) fNil)) fNil))) [5]) fNil)) [some (.loc n), some (.int (most : Nat)), some (.loc μ2.length), some (.int first), some (.int (1 + (l : Int))), none] μ3) fun p => Q (p.1, p.2) := fun m μ4 ks' hi hm4 g4 lm nd' hk' hl' => by
      refine numlot_ok (k := k + 7) hi hm4 ((w3.gr g4).le (by omega)) (by omega) (by omega) nd' (by omega) (fun _ => rfl) (fun _ => rfl) fun f μ5 us h5 nd5 hu hn5 lf w5 k5 => ?_
      have inks : ∀ t ∈ us, first ≤ t.1 ∧ t.1 < first + 6 := fun t ht => hk' _ (by rw [← hu]; exact List.mem_map.mpr ⟨t, ht, rfl⟩)
      obtain ⟨r, L⟩ := lot_of (a := first) (e := first + 6) h5 nd5 ⟨fun t ht => (inks t ht).1, fun t ht => (inks t ht).2⟩ (by omega) hn5
      have := g4.lt
      exact q f μ5 r first L f0 f1 (by omega) (w5.le (by omega)) (k13.trans (g4.kp.trans k5))
    have hA1 : (μ3 ++ [Ob.lst [D.int first]])[μ2.length]? = some (.lst (ks.map D.int)) := Gr.app.get hA
    have h01 : (μ3 ++ [Ob.lst [D.int first]])[μ3.length]? = some (.lst [D.int first]) := by simp
    have s1 := addX_lst h01 hA1 (by rw [List.length_map]; simp; omega)
    have g1 : Gr μ3 (μ3 ++ [Ob.lst [D.int first]]) := Gr.app
    generalize hν1 : μ3 ++ [Ob.lst [D.int first]] = ν1 at *
    have h2 : (ν1 ++ [Ob.lst ([D.int first] ++ ks.map D.int)])[ν1.length]? = some (.lst ([D.int first] ++ ks.map D.int)) := by simp
    have g2 : Gr ν1 (ν1 ++ [Ob.lst ([D.int first] ++ ks.map D.int)]) := Gr.app
    generalize hν2 : ν1 ++ [Ob.lst ([D.int first] ++ ks.map D.int)] = ν2 at *
    have first_nd : (first :: ks).Nodup := List.nodup_cons.mpr ⟨fun h => by have := hk2 _ h; omega, nd⟩
    have z1 := g1.lt
    have z2 := g2.lt
    by_cases hlen : (1 : Int) < 1 + (l : Int)
    · have h3 : (ν2 ++ [Ob.lst [D.int (first + (1 + (l : Int)) - 1)]])[ν1.length]? = some (.lst ([D.int first] ++ ks.map D.int)) := Gr.app.get h2
      have h4 : (ν2 ++ [Ob.lst [D.int (first + (1 + (l : Int)) - 1)]])[ν2.length]? = some (.lst [D.int (first + (1 + (l : Int)) - 1)]) := by simp
      have s2 := addX_lst h3 h4 (by simp; omega)
      have g3 : Gr ν2 (ν2 ++ [Ob.lst [D.int (first + (1 + (l : Int)) - 1)]]) := Gr.app
      generalize hν3 : ν2 ++ [Ob.lst [D.int (first + (1 + (l : Int)) - 1)]] = ν3 at *
      have z3 := g3.lt
      refine fin ν3.length (ν3 ++ [Ob.lst ([D.int first] ++ ks.map D.int ++ [D.int (first + (1 + (l : Int)) - 1)])]) ((first :: ks) ++ [first + (1 + (l : Int)) - 1]) (iLst_of (ds := [D.int first] ++ ks.map D.int ++ [D.int (first + (1 + (l : Int)) - 1)]) ?_ (by simp)) (by simp) (g1.trans (g2.trans (g3.trans Gr.app))) (by omega) ?_ ?_ (by simp; omega)
      · simp only [fBin, fLst, fCons, fVar, fNil, fIf, fB, fC, opCmp, List.getElem?_cons_zero, List.getElem?_cons_succ, Option.bind_some, id, List.length_cons, List.length_nil, Nat.reduceAdd, sizeLine_eq, Nat.reduceLeDiff, if_true, hν1, s1, hν2, hlen, decide_true, addX_int, opSub, hν3, s2]
      · rw [List.nodup_append]
        refine ⟨first_nd, by simp, fun a ha b hb => ?_⟩
        rw [List.mem_singleton.mp hb]
        rcases List.mem_cons.mp ha with rfl | ha
        · omega
        · have := hk2 a ha; omega
      · intro x hx
        rcases List.mem_append.mp hx with hx | hx
        · rcases List.mem_cons.mp hx with rfl | hx
          · omega
          · have := hk2 x hx; omega
        · rw [List.mem_singleton.mp hx]; omega
    · have h3 : (ν2 ++ [Ob.lst []])[ν1.length]? = some (.lst ([D.int first] ++ ks.map D.int)) := Gr.app.get h2
      have h4 : (ν2 ++ [Ob.lst []])[ν2.length]? = some (.lst []) := by simp
      have s2 := addX_lst h3 h4 (by simp; omega)
      have g3 : Gr ν2 (ν2 ++ [Ob.lst []]) := Gr.app
      generalize hν3 : ν2 ++ [Ob.lst []] = ν3 at *
      have z3 := g3.lt
      refine fin ν3.length (ν3 ++ [Ob.lst ([D.int first] ++ ks.map D.int ++ [])]) (first :: ks) (iLst_of (ds := [D.int first] ++ ks.map D.int ++ []) ?_ (by simp)) (by simp) (g1.trans (g2.trans (g3.trans Gr.app))) (by omega) first_nd ?_ (by simp; omega)
      · simp only [fBin, fLst, fCons, fVar, fNil, fIf, fB, fC, opCmp, List.getElem?_cons_zero, List.getElem?_cons_succ, Option.bind_some, id, List.length_cons, List.length_nil, Nat.reduceAdd, sizeLine_eq, Nat.reduceLeDiff, if_true, hν1, s1, hν2, hlen, decide_false, Bool.false_eq_true, if_false, Nat.zero_le, hν3, s2]
      · intro x hx
        rcases List.mem_cons.mp hx with rfl | hx
        · omega
        · have := hk2 x hx; omega
end BS
set_option exponentiation.threshold 20000
namespace BS
open PySem PySem.Spec PyProof.Rows L2 DL
/-- a list of two lots -/
structure LL (μ : Sto) (m k D M : Nat) (a e : Int) (x : Row × Row) : Prop where
  ex : ∃ f g, μ[m]? = some (.lst [.loc f, .loc g]) ∧ k ≤ m ∧ k ≤ f ∧ k ≤ g ∧ Lt μ f D M a e x.1 ∧ Lt μ g D M a e x.2
theorem LL.gr {μ μ' : Sto} {m k D M : Nat} {a e : Int} {x : Row × Row} (h : LL μ m k D M a e x) (g : Gr μ μ') : LL μ' m k D M a e x := let ⟨f, f', h1, h2, h3, h4, h5, h6⟩ := h.ex; ⟨f, f', g.get h1, h2, h3, h4, h5.gr g, h6.gr g⟩
theorem LL.kp {μ μ' : Sto} {n m k D M : Nat} {a e : Int} {x : Row × Row} (h : LL μ m k D M a e x) (g : Kp n μ μ') (hn : n < k) : LL μ' m k D M a e x := let ⟨f, f', h1, h2, h3, h4, h5, h6⟩ := h.ex; ⟨f, f', g.at_ m _ (by omega) h1, h2, h3, h4, h5.kp g (by omega), h6.kp g (by omega)⟩
theorem LL.rw {μ : Sto} {m k D M b v l s : Nat} {a e : Int} {x : Row × Row} (h : LL μ m k D M a e x) (h0 : 0 < D) (hb : D < 2 ^ b) (hv : M < 2 ^ v) (h1 : e - a ≤ l) (h2 : -(s : Int) ≤ a) (h3 : e ≤ s) : Rw b v l s x.1 ∧ Rw b v l s x.2 := let ⟨_, _, _, _, _, _, h5, h6⟩ := h.ex; ⟨h5.rw h0 hb hv h1 h2 h3, h6.rw h0 hb hv h1 h2 h3⟩
theorem LL.can {μ : Sto} {m k D M : Nat} {a e : Int} {x : Row × Row} (h : LL μ m k D M a e x) : Can x.1 ∧ Can x.2 := let ⟨_, _, _, _, _, _, h5, h6⟩ := h.ex; ⟨h5.can, h6.can⟩
structure NSc (x : Scl) : Prop where
  f1 : Nm x.1.1
  f2 : Nm x.2.1
def dA (D : Nat) : Nat → Nat
  | 0 => D
  | i + 1 => dA D i * 84
end BS
set_option exponentiation.threshold 20000
namespace BS
open PySem PySem.Spec PyProof.Rows L2 DL
theorem single_can {c : Int × Int} (hc : isFr c) (nc : c.1 ≠ 0) (p : Int) : Can (p, [c]) := by
  refine ⟨fun q hq => by rw [List.mem_singleton.mp hq]; exact hc, fun z => (by cases z), fun _ => nc, fun _ => nc⟩
theorem single_ev (c : Int × Int) (p : Int) {t : Rat} (ht : t ≠ 0) : ev (p, [c]) t = t ^ p * qv c := by
  have h := movR_ev (r := (0, [c])) p ht
  have e : movR (0, [c]) p = (p, [c]) := by unfold movR; rw [if_neg (by simp)]; simp
  rw [e, one_ev] at h
  exact h
theorem Nm.rw {c : Int × Int} (h : Nm c) : Rw 7 30 1 0 (0, [c]) := by
  have p0 := bot_pos h.fr
  have l84 : c.2.natAbs ≤ 84 := Nat.le_of_dvd (by decide) h.bot
  refine ⟨single_can h.fr h.nz 0, ⟨c.2.natAbs, p0, by omega, fun p hp => by rw [List.mem_singleton.mp hp]; exact Nat.dvd_refl _⟩, fun p hp => ?_, by simp, by simp⟩
  rw [List.mem_singleton.mp hp]
  exact Nat.lt_of_lt_of_le (Nat.lt_of_le_of_lt h.top (by decide)) (Nat.le_mul_of_pos_right _ p0)
theorem Nm.sm {c : Int × Int} (h : Nm c) : Sm 1000 c := by
  have l84 : c.2.natAbs ≤ 84 := Nat.le_of_dvd (by decide) h.bot
  have t := h.top
  have p : (1000000001 : Nat) < 2 ^ 1000 := by decide +kernel
  exact ⟨by omega, by omega⟩
end BS
set_option exponentiation.threshold 20000
namespace BS
open PySem PySem.Spec PyProof.Rows L2 DL
structure LQ (μ : Sto) (m k D M : Nat) (a e : Int) (T : (Row × Row) × (Row × Row)) : Prop where
  ex : ∃ f g, μ[m]? = some (.lst [.loc f, .loc g]) ∧ k ≤ m ∧ LL μ f k D M a e T.1 ∧ LL μ g k D M a e T.2
end BS
set_option exponentiation.threshold 20000
namespace BS
open PySem PySem.Spec PyProof.Rows L2 DL
/-- what stands of a drawn ladder -/
structure LadIn (μ : Sto) (fS k : Nat) (ss : List Stq) (x : Scl) : Prop where
  S : LS μ fS k ss
  len : ss.length ≤ 4
  sc : NSc x
  p1 : -1 ≤ x.1.2 ∧ x.1.2 ≤ 42
  p2 : -2 ≤ x.2.2 ∧ x.2.2 ≤ 1
theorem LadIn.ok {μ : Sto} {fS k : Nat} {ss : List Stq} {x : Scl} (h : LadIn μ fS k ss x) : LadOk ss x := ⟨h.S.can, by have := h.len; omega, h.sc.f1.fr, h.sc.f1.nz, h.sc.f2.fr, h.sc.f2.nz⟩
theorem LadIn.gr {μ μ' : Sto} {fS k : Nat} {ss : List Stq} {x : Scl} (h : LadIn μ fS k ss x) (g : Gr μ μ') : LadIn μ' fS k ss x := ⟨h.S.gr g, h.len, h.sc, h.p1, h.p2⟩
theorem LadIn.kp {μ μ' : Sto} {n fS k : Nat} {ss : List Stq} {x : Scl} (h : LadIn μ fS k ss x) (g : Kp n μ μ') (hn : n < k) : LadIn μ' fS k ss x := ⟨h.S.kp g hn, h.len, h.sc, h.p1, h.p2⟩
end BS
set_option exponentiation.threshold 20000
namespace BS
open PySem PySem.Spec PyProof.Rows L2 DL
structure Rd (D v l s : Nat) (r : Row) : Prop where
  can : Can r
  dv : ∀ p ∈ r.2, p.2.natAbs ∣ D
  val : ∀ p ∈ r.2, p.1.natAbs < 2 ^ v * p.2.natAbs
  len : r.2.length ≤ l
  pos : r.1.natAbs ≤ s
theorem Rd.rw {D b v l s : Nat} {r : Row} (h : Rd D v l s r) (h0 : 0 < D) (hb : D < 2 ^ b) : Rw b v l s r := ⟨h.can, ⟨D, h0, hb, h.dv⟩, h.val, h.len, h.pos⟩
theorem Rd.self {D v l s : Nat} {r : Row} (h : Rd D v l s r) (h0 : 0 < D) : Rw D v l s r := h.rw h0 Nat.lt_two_pow_self
theorem Rd.mono {D v l s v' l' s' : Nat} {r : Row} (h : Rd D v l s r) (hv : v ≤ v') (hl : l ≤ l') (hs : s ≤ s') : Rd D v' l' s' r := ⟨h.can, h.dv, fun p hp => Nat.lt_of_lt_of_le (h.val p hp) (Nat.mul_le_mul_right _ (Nat.pow_le_pow_right (by decide) hv)), Nat.le_trans h.len hl, Nat.le_trans h.pos hs⟩
theorem Rd.lift {D v l s : Nat} {r : Row} (h : Rd D v l s r) (E : Nat) : Rd (D * E) v l s r := ⟨h.can, fun p hp => Nat.dvd_trans (h.dv p hp) (Nat.dvd_mul_right _ _), h.val, h.len, h.pos⟩
theorem Rd.span {D v l s L S : Nat} {a e : Int} {r : Row} (h : Rd D v l s r) (i : Iv a e r) (h1 : e - a ≤ L) (h2 : -(S : Int) ≤ a) (h3 : e ≤ S) : Rd D v L S r := by
  by_cases n : r.2 = []
  · have z := h.can.nul n
    exact ⟨h.can, h.dv, h.val, by rw [n]; exact Nat.zero_le _, by rw [z]; exact Nat.zero_le _⟩
  · have l1 := i.lo n
    have l2 := i.hi n
    exact ⟨h.can, h.dv, h.val, by omega, by omega⟩
theorem Rd.mul {D E v l s w m t : Nat} {x y : Row} (hx : Rd D v l s x) (hy : Rd E w m t y) (h0 : 0 < D) (h1 : 0 < E) (hl : l ≤ 1000) : Rd (D * E) (v + w + 10) (l + m) (s + t + l + m) (mulR x y) := by
  have h := (hx.self h0).mul (hy.self h1) hl
  refine ⟨h.can, fun p hp => ?_, h.val, h.len, h.pos⟩
  unfold mulR at hp
  split at hp
  · cases hp
  · obtain ⟨n, _, rfl⟩ := List.mem_map.mp (trimR_mem hp)
    refine Nat.dvd_trans redI_dvd ?_
    rw [Int.natAbs_mul, Int.natAbs_natCast, Int.natAbs_natCast]
    exact Nat.mul_dvd_mul (lcmL_dvd hx.dv) (lcmL_dvd hy.dv)
theorem finq_dv {D : Nat} {p : Int × Int} (hp : isFr p) (h0 : 0 < D) (hd : p.2.natAbs ∣ D) : FinQ D ((p.1.natAbs + 1) * D) p := by
  have b := bot_pos hp
  exact FinQ.of hp h0 hd (Nat.lt_of_lt_of_le (Nat.lt_succ_self _) (Nat.le_mul_of_pos_right _ b))
theorem Rd.add {D v l s m t : Nat} {x y : Row} (hx : Rd D v l s x) (hy : Rd D v m t y) (h0 : 0 < D) : Rd D (v + 1) (s + t + l + m) (s + t + l + m) (addR x y) := by
  have h := (hx.self h0).addv (hy.self h0)
  refine ⟨h.can, fun p hp => ?_, h.val, h.len, h.pos⟩
  obtain ⟨k, rfl⟩ := mem_at hp
  have at_dv : ∀ {r : Row} {k : Int}, Can r → (∀ p ∈ r.2, p.2.natAbs ∣ D) → isFr (atR r k) ∧ (atR r k).2.natAbs ∣ D := fun {r k} c d => by
    refine ⟨atR_fr c.fr _, ?_⟩
    rcases atR_mem r k with e | e
    · rw [e]; exact Nat.one_dvd _
    · exact d _ e
  have e : atR (addR x y) k = addP (atR x k) (atR y k) := by
    refine qv_inj (h.can.fr _ hp) (addP_fr (atR_fr hx.can.fr k).1 (atR_fr hy.can.fr k).1) ?_
    rw [qv_add (atR_fr hx.can.fr k).1 (atR_fr hy.can.fr k).1]
    exact cf_add hx.can hy.can k
  rw [e]
  obtain ⟨f1, d1⟩ := at_dv (k := k) hx.can hx.dv
  obtain ⟨f2, d2⟩ := at_dv (k := k) hy.can hy.dv
  exact ((finq_dv f1 h0 d1).add (finq_dv f2 h0 d2)).dv
/-- a step's row -/
structure SOd (D v : Nat) (s : Stq) : Prop where
  rd : Rd D v 4 4 s.2
  iv : Iv (-1) 3 s.2
/-- two rows of a ladder, so many steps on -/
structure Twd (D v w L S : Nat) (a e : Int) (i : Nat) (x : Row × Row) : Prop where
  r1 : Rd (dA D i) (wA v w i) L S x.1
  r2 : Rd (dA D i) (wA v w i) L S x.2
  i1 : Iv (a - i) (e + 2 * i) x.1
  i2 : Iv (a - i) (e + 2 * i) x.2
theorem dA_pos {D : Nat} (h : 0 < D) : ∀ i, 0 < dA D i
  | 0 => h
  | i + 1 => Nat.mul_pos (dA_pos h i) (by decide)
theorem Twd.aft {D v w L S : Nat} {a e : Int} {i : Nat} {x : Row × Row} {s : Stq} (h : Twd D v w L S a e i x) (hs : SOd 84 v s) (h0 : 0 < D) (h1 : (e + 2 * (i + 1 : Nat)) - (a - (i + 1 : Nat)) ≤ L) (h2 : -(S : Int) ≤ a - (i + 1 : Nat)) (h3 : e + 2 * (i + 1 : Nat) ≤ S) : Twd D v w L S a e (i + 1) (BS.aft s x) := by
  have ed : dA D (i + 1) = dA D i * 84 := rfl
  have ev : wA v w (i + 1) = (v + wA v w i + 10) + 1 := by unfold wA; rw [Nat.add_mul, Nat.one_mul]; omega
  have p := dA_pos h0 i
  have p1 := dA_pos h0 (i + 1)
  have lift : ∀ {p : Row}, Rd (dA D i) (wA v w i) L S p → Rd (dA D (i + 1)) (wA v w (i + 1)) L S p := fun hp => (hp.lift 84).mono (wA_mono v w (Nat.le_succ i)) (Nat.le_refl _) (Nat.le_refl _)
  have one : ∀ {p r : Row}, Rd (dA D i) (wA v w i) L S p → Rd (dA D i) (wA v w i) L S r → Iv (a - i) (e + 2 * i) p → Iv (a - i) (e + 2 * i) r → Rd (dA D (i + 1)) (wA v w (i + 1)) L S (addR p (mulR s.2 r)) ∧ Iv (a - (i + 1 : Nat)) (e + 2 * (i + 1 : Nat)) (addR p (mulR s.2 r)) := fun {p r} hp hr ip ir => by
    have iv := (ip.mono (a' := a - (i + 1 : Nat)) (e' := e + 2 * (i + 1 : Nat)) (by omega) (by omega)).add ((hs.iv.mul ir).mono (a' := a - (i + 1 : Nat)) (e' := e + 2 * (i + 1 : Nat)) (by omega) (by omega))
    have hm := hs.rd.mul hr (by decide) (dA_pos h0 i) (by decide)
    rw [Nat.mul_comm 84] at hm
    have ha := ((hp.lift 84).mono (v' := v + wA v w i + 10) (by omega) (Nat.le_refl _) (Nat.le_refl _)).add hm p1
    rw [ev]
    exact ⟨ha.span iv h1 h2 h3, iv⟩
  unfold BS.aft
  split
  · obtain ⟨A, B⟩ := one h.r1 h.r2 h.i1 h.i2
    exact ⟨A, lift h.r2, B, h.i2.mono (by omega) (by omega)⟩
  · obtain ⟨A, B⟩ := one h.r2 h.r1 h.i2 h.i1
    exact ⟨lift h.r1, A, h.i1.mono (by omega) (by omega), B⟩
theorem Twd.run {D v w L S : Nat} {a e : Int} {x : Row × Row} {ss : List Stq} (h : Twd D v w L S a e 0 x) (hs : ∀ s ∈ ss, SOd 84 v s) (h0 : 0 < D) (h1 : (e + 2 * ss.length) - (a - ss.length) ≤ L) (h2 : -(S : Int) ≤ a - ss.length) (h3 : e + 2 * ss.length ≤ S) : ∀ i, i ≤ ss.length → Twd D v w L S a e i (BS.run (ss.take i) x)
  | 0, _ => h
  | i + 1, hi => by
    rw [run_take (by omega)]
    exact (Twd.run h hs h0 h1 h2 h3 i (by omega)).aft (hs _ (List.getElem_mem _)) h0 (by omega) (by omega) (by omega)
end BS
set_option exponentiation.threshold 20000
namespace BS
open PySem PySem.Spec PyProof.Rows L2 DL
theorem m1_fr : isFr (-1, 1) := ⟨by decide, by decide⟩
def oppR (r : Row) : Row := sclR (-1, 1) r
end BS
set_option exponentiation.threshold 20000
namespace BS
open PySem PySem.Spec PyProof.Rows L2 DL
end BS
set_option exponentiation.threshold 20000
namespace BS
open PySem PySem.Spec PyProof.Rows L2 DL
theorem less_ok {μ : Sto} {m n D M N U : Nat} {a e : Int} {r s : Row} {Q : DL.D × Sto → Prop} (L : Lt μ m D M a e r) (K : Lt μ n D N a e s) (hU : e - a ≤ U) (hU2 : U ≤ 1000) (h0 : 0 < D) (h1 : D < 2 ^ 1000) (hN : N < 2 ^ 1000) (h2 : M + U * (N * 2) < 2 ^ 1000)
    (q : ∀ f μ', Lt μ' f D (M + U * (N * 2)) a e (addR r (oppR s)) → μ.length ≤ f → Gr μ μ' → Q (.loc f, μ')) : Wp (F_law_less_2 [.loc m, .loc n] μ) Q := by
  have fc : FinQ 1 2 (-1, 1) := FinQ.of (V := 2) m1_fr (by decide) (by decide) (by decide)
  have fd : (DL.D.tup [.int (-1), .int 1]) = frD (-1, 1) := rfl
  refine def_wp rfl (ret_wp ?_)
  simp_arith [unNeg, sizeLine_eq, Nat.reduceLeDiff, fd]
  refine scaled_lot (c := (-1, 1)) K fc (by decide) (by omega) ⟨h0, h1, hN⟩ ⟨by decide, by decide +kernel, by decide +kernel⟩ fun f μ1 L1 m1 g1 => ?_
  rw [Nat.mul_one] at L1
  simp_arith []
  refine plus_lot (U := U) (L.gr g1) L1 hU hU2 h0 h1 h2 fun f2 μ2 L2 m2 g2 => ?_
  have := g1.lt
  exact q f2 μ2 L2 (by omega) (g1.trans g2)
end BS
set_option exponentiation.threshold 20000
namespace BS
open PySem PySem.Spec PyProof.Rows L2 DL
end BS
set_option exponentiation.threshold 20000
namespace BS
open PySem PySem.Spec PyProof.Rows L2 DL
end BS
set_option exponentiation.threshold 20000
namespace BS
open PySem PySem.Spec PyProof.Rows L2 DL
theorem Lt.rd {μ : Sto} {f D M v l s : Nat} {a e : Int} {r : Row} (h : Lt μ f D M a e r) (h0 : 0 < D) (hv : M < 2 ^ v) (h1 : e - a ≤ l) (h2 : -(s : Int) ≤ a) (h3 : e ≤ s) : Rd D v l s r := by
  have R := h.rw (b := D) (v := v) (l := l) (s := s) h0 Nat.lt_two_pow_self hv h1 h2 h3
  obtain ⟨_, d, _⟩ := h.ex
  exact ⟨R.can, fun p hp => (d.rf.fq p hp).dv, R.val, R.len, R.pos⟩
theorem Twd.rw {D v w L S i b : Nat} {a e : Int} {x : Row × Row} (T : Twd D v w L S a e i x) (h0 : 0 < D) (hb : dA D i < 2 ^ b) : Rw b (wA v w i) L S x.1 ∧ Rw b (wA v w i) L S x.2 := ⟨T.r1.rw (dA_pos h0 i) hb, T.r2.rw (dA_pos h0 i) hb⟩
theorem Rd.even {D v l s : Nat} {r : Row} (h : Rd D v l s r) (h0 : 0 < D) (d : Int) (hd : d = 0 ∨ d = 1) : Rd D v l (s + l + 2) (evenR d r) := by
  have R := (h.self h0).even d hd
  exact ⟨R.can, fun p hp => h.dv p (evF_mem (trimR_mem hp)), R.val, R.len, R.pos⟩
theorem Nm.rd {c : Int × Int} (h : Nm c) : Rd 84 30 1 0 (0, [c]) := by
  have R := h.rw
  exact ⟨R.can, fun p hp => by rw [List.mem_singleton.mp hp]; exact h.bot, R.val, R.len, R.pos⟩
end BS
set_option exponentiation.threshold 20000
namespace BS
open PySem PySem.Spec PyProof.Rows L2 DL
theorem NScl.sc {x : Scl} (h : NScl x) : NSc x := ⟨h.f1, h.f2⟩
theorem lawG_ok {F : GN} (hF : ∀ (n : Nat) (μ : Sto), W μ n 0 → 1 < n → μ[1]? = some (.tab "is_row") → Wp (F [.loc n] μ) fun p => p.1 = .bl true ∧ Kp n μ p.2) {μ : Sto} {ns : List Int} (l0 : lstAt μ 0 = some (ns.map D.int)) (h1 : μ[1]? = some (.tab "is_row")) :
    Wp (fDef 1 2 (fRet (fCB cAll (fCons (fLc (iRng1' (fCons (fCB F_law_rounds (fCons (fVar 0) fNil)) fNil)) (gNm 1) fYes (fCB F (fCons (fCB F_law_well (fCons (fVar 0) (fCons (fVar 1) fNil))) fNil)) [1]) fNil))) [.loc 0] μ) fun p => p.1 = .bl true := by
  have l2 : 2 ≤ μ.length := (List.getElem?_eq_some_iff.mp h1).1
  refine def_wp rfl (ret_wp ?_)
  obtain ⟨r, hr, hr2⟩ : ∃ r : Nat, (if (if (3 : Int) < ((ns.length : Nat) : Int) then 3 else ((ns.length : Nat) : Int)) > 2 then (if (3 : Int) < ((ns.length : Nat) : Int) then 3 else ((ns.length : Nat) : Int)) else (2 : Int)) = (r : Int) ∧ r ≤ 3 := by
    by_cases h : (3 : Int) < ((ns.length : Nat) : Int)
    · exact ⟨3, by rw [if_pos h]; rfl, by decide⟩
    · rw [if_neg h]
      by_cases h2 : ((ns.length : Nat) : Int) > 2
      · exact ⟨ns.length, by rw [if_pos h2], by omega⟩
      · exact ⟨2, by rw [if_neg h2]; rfl, by decide⟩
  have hrd : F_law_rounds [.loc 0] μ = some (.int (r : Int), μ) := by
    have : Wp (F_law_rounds [.loc 0] μ) fun p => p = (.int (r : Int), μ) := by
      unfold F_law_rounds
      simp_arith [cLen, l0, List.length_map, cMin, cMax, hr]
    obtain ⟨p, e, rfl⟩ := this
    exact e
  have hit : iRng1' (fCons (fCB F_law_rounds (fCons (fVar 0) fNil)) fNil) [some (.loc 0), none] μ = some (.rng 0 r, μ) := by
    refine rng1_of ?_ (by omega)
    simp only [fCons, fCB, fVar, fNil, List.getElem?_cons_zero, Option.bind_some, hrd, id]
  simp_arith []
  refine fLc_list (it := .rng 0 r) (n := r) (x := fun i => .int (0 + (i : Nat))) (p := fun _ => true) (e := fun _ => .bl true) (μ0 := μ) hit (fun i μ' g => rfl) (by omega) rfl (fun i hi μ1 g1 => ?_) (fun n μ1 e1 _ g1 => ?_)
  · refine ⟨_, rfl, Wp.of rfl ⟨rfl, Gr.refl, fun _ => ?_⟩⟩
    have z : (0 + (i : Int)) = ((i : Nat) : Int) := by omega
    simp_arith [wipeD, z]
    refine (well_ok (g1.lst l0) (by omega)).mono ?_
    rintro ⟨_, μ2⟩ ⟨n, rfl, hn, w, g2⟩
    have h3 := g1.lt
    refine (hF n μ2 w (by omega) ((g1.trans g2).get h1)).mono ?_
    rintro ⟨_, μ3⟩ ⟨rfl, kp⟩
    exact ⟨rfl, kp_gr g2 hn kp⟩
  · have e2 : (((List.range r).filter fun _ => true).map fun _ => D.bl true) = (List.replicate r true).map D.bl := by
      rw [List.filter_eq_self.mpr (by simp), List.map_replicate]
      refine List.ext_getElem? fun k => ?_
      rw [List.getElem?_map, List.getElem?_replicate]
      by_cases h : k < r
      · rw [List.getElem?_range h, if_pos h]; rfl
      · rw [List.getElem?_eq_none (by simpa using h), if_neg h]; rfl
    rw [e2] at e1
    have e3 : cAll [.loc n] μ1 = some (.bl true, μ1) := by
      show Option.map (fun bs => (D.bl (bs.all id), μ1)) ((lstAt μ1 n).bind blsOf) = _
      rw [lst_loc e1, Option.bind_some, blsOf_bls, Option.map_some]
      simp
    simp_arith [e3]
end BS
set_option exponentiation.threshold 20000
namespace BS
open PySem PySem.Spec PyProof.Rows L2 DL
end BS
set_option exponentiation.threshold 20000
namespace BS
open PySem PySem.Spec PyProof.Rows L2 DL
end BS
set_option exponentiation.threshold 20000
namespace BS
open PySem PySem.Spec PyProof.Rows L2 DL
end BS
set_option exponentiation.threshold 20000
namespace BS
open PySem PySem.Spec PyProof.Rows L2 DL
structure B6 (p : Int × Int) : Prop where
  fq : FinQ 6 18 p
  nz : p.1 ≠ 0
/-- a dict filled with such numbers -/
structure Fil6 (low : Int) (i : Nat) (acc : List Pl) : Prop where
  nd : Nd acc
  key : ∀ t ∈ acc, low ≤ t.1 ∧ t.1 < low + (i : Nat) + 1
  b6 : ∀ t ∈ acc, B6 t.2
  fst : ∃ p rest, acc = (low, p) :: rest
theorem Fil6.up {low : Int} {i : Nat} {acc : List Pl} (h : Fil6 low i acc) : Fil6 low (i + 1) acc := ⟨h.nd, fun t ht => by have := h.key t ht; omega, h.b6, h.fst⟩
theorem ne_of_cf {r : Row} {k : Int} (h : BS.cf r k ≠ 0) : r.2 ≠ [] := fun z => h (cf_nil z k)
theorem cf_in {r : Row} {k : Int} (h : BS.cf r k ≠ 0) : r.1 ≤ k ∧ k < r.1 + r.2.length := by
  unfold BS.cf atR at h
  by_cases g : 0 ≤ k - r.1 ∧ k - r.1 < r.2.length
  · omega
  · rw [if_neg g] at h
    exact absurd qv01 h
end BS
set_option exponentiation.threshold 20000
namespace BS
open PySem PySem.Spec PyProof.Rows L2 DL
/-- a dict without noughts -/
structure DC (μ : Sto) (f b m : Nat) (a e : Int) (r : Row) : Prop where
  ex : ∃ D M ts, DD μ f D M a e ts r ∧ 0 < D ∧ D < 2 ^ b ∧ M < 2 ^ m ∧ ∀ t ∈ ts, t.2.1 ≠ 0
theorem DC.gr {μ μ' : Sto} {f b m : Nat} {a e : Int} {r : Row} (h : DC μ f b m a e r) (g : Gr μ μ') : DC μ' f b m a e r := let ⟨D, M, ts, d, p⟩ := h.ex; ⟨D, M, ts, d.gr g, p⟩
/-- what a dict without noughts tells of its row -/
theorem dc_len {μ : Sto} {f D M : Nat} {a e : Int} {ts : List Pl} {r : Row} (d : DD μ f D M a e ts r) (nz : ∀ t ∈ ts, t.2.1 ≠ 0) : (ts = [] ↔ r.2 = []) ∧ (ts.length = 1 ↔ r.2.length = 1) ∧ ∀ p c, r = (p, [c]) → ts = [(p, c)] := by
  have cfn : ∀ t ∈ ts, BS.cf r t.1 ≠ 0 := fun t ht z => by
    rw [d.cf, vl_of d.nd, lk_of d.nd ht] at z
    exact nz t ht ((qv_zero (d.fq t ht).fr.1).mp z)
  have nil : ts = [] ↔ r.2 = [] := by
    constructor
    · intro h
      have := told_nil d (by rw [h]; rfl)
      rw [this]
    · intro h
      cases hts : ts with
      | nil => rfl
      | cons t us => exact absurd h (ne_of_cf (cfn t (by rw [hts]; exact List.mem_cons_self)))
  have one : ∀ p c, r = (p, [c]) → ts = [(p, c)] := fun p c hr => by
    have keys : ∀ t ∈ ts, t.1 = p := fun t ht => by
      have := cf_in (cfn t ht)
      rw [hr] at this
      simp only [List.length_singleton] at this
      omega
    cases hts : ts with
    | nil => rw [hr] at nil; have := nil.mp hts; cases this
    | cons t us =>
      cases us with
      | nil =>
        have h1 := keys t (by rw [hts]; exact List.mem_cons_self)
        have h2 := d.cf p
        rw [vl_of d.nd, hts, lk_cons, if_pos h1] at h2
        have h3 : atR r p = c := by rw [hr]; unfold atR; rw [if_pos (by simp)]; simp
        have h4 : qv c = qv t.2 := by rw [← h3]; exact h2
        have fc : isFr c := d.of.can.fr c (by rw [hr]; exact List.mem_singleton.mpr rfl)
        have ft := (d.fq t (by rw [hts]; exact List.mem_cons_self)).fr
        have := qv_inj fc ft h4
        rw [this, ← h1]
      | cons u vs =>
        exfalso
        have h1 := keys t (by rw [hts]; exact List.mem_cons_self)
        have h2 := keys u (by rw [hts]; exact List.mem_cons_of_mem _ List.mem_cons_self)
        have nd := d.nd
        unfold Nd at nd
        rw [hts, List.map_cons, List.nodup_cons] at nd
        exact nd.1 (by rw [List.map_cons, h1, ← h2]; exact List.mem_cons_self)
  refine ⟨nil, ⟨fun h => ?_, fun h => ?_⟩, one⟩
  · obtain ⟨t, ht⟩ := List.length_eq_one_iff.mp h
    have fq := d.fq t (by rw [ht]; exact List.mem_singleton.mpr rfl)
    have nzt := nz t (by rw [ht]; exact List.mem_singleton.mpr rfl)
    have cs := single_can fq.fr nzt t.1
    have : r = (t.1, [t.2]) := d.of.can.uniq cs fun x hx => by
      rw [d.of.ev x hx, single_ev _ _ hx, ht, evt_one]
      grind
    rw [this]
    rfl
  · obtain ⟨c, hc⟩ := List.length_eq_one_iff.mp h
    rw [one r.1 c (Prod.ext rfl hc)]
    rfl
/-- a list of two dicts, all from k on, all below B -/
structure LK (μ : Sto) (m k B b v : Nat) (a e : Int) (P : Row × Row) : Prop where
  ex : ∃ f g, μ[m]? = some (.lst [.loc f, .loc g]) ∧ (k ≤ m ∧ m < B) ∧ (k ≤ f ∧ f < B) ∧ (k ≤ g ∧ g < B) ∧ DB μ f b v a e P.1 ∧ DB μ g b v a e P.2
theorem LK.gr {μ μ' : Sto} {m k B b v : Nat} {a e : Int} {P : Row × Row} (h : LK μ m k B b v a e P) (g : Gr μ μ') : LK μ' m k B b v a e P :=
  let ⟨f, f', h1, h2, h3, h4, h5, h6⟩ := h.ex; ⟨f, f', g.get h1, h2, h3, h4, h5.gr g, h6.gr g⟩
theorem LK.kp {μ μ' : Sto} {n m k B b v : Nat} {a e : Int} {P : Row × Row} (h : LK μ m k B b v a e P) (g : Kp n μ μ') (hn : n < k ∨ B ≤ n) : LK μ' m k B b v a e P :=
  let ⟨f, f', h1, h2, h3, h4, h5, h6⟩ := h.ex; ⟨f, f', g.at_ m _ (by omega) h1, h2, h3, h4, h5.kp g (by omega), h6.kp g (by omega)⟩
theorem LK.mono {μ : Sto} {m k k' B B' b v b' v' : Nat} {a e a' e' : Int} {P : Row × Row} (h : LK μ m k B b v a e P) (hk : k' ≤ k) (hB : B ≤ B') (hb : b ≤ b') (hv : v ≤ v') (ha : a' ≤ a) (he : e ≤ e') : LK μ m k' B' b' v' a' e' P :=
  let ⟨f, f', h1, h2, h3, h4, h5, h6⟩ := h.ex; ⟨f, f', h1, by omega, by omega, by omega, (h5.up hb hv).span ha he, (h6.up hb hv).span ha he⟩
/-- a table of dicts, all from k on, all below B -/
structure LX (μ : Sto) (m k B b v : Nat) (a e : Int) (T : (Row × Row) × (Row × Row)) : Prop where
  ex : ∃ x y c1 c2 c3 c4, μ[m]? = some (.lst [.loc x, .loc y]) ∧ μ[x]? = some (.lst [.loc c1, .loc c2]) ∧ μ[y]? = some (.lst [.loc c3, .loc c4]) ∧ (c1 ≠ c4 ∧ c2 ≠ c3 ∧ x ≠ y ∧ x ≠ m ∧ y ≠ m) ∧ (∀ i ∈ [m, x, y, c1, c2, c3, c4], k ≤ i ∧ i < B) ∧ DB μ c1 b v a e T.1.1 ∧ DB μ c2 b v a e T.1.2 ∧ DB μ c3 b v a e T.2.1 ∧ DB μ c4 b v a e T.2.2
theorem LX.gr {μ μ' : Sto} {m k B b v : Nat} {a e : Int} {T : (Row × Row) × (Row × Row)} (h : LX μ m k B b v a e T) (g : Gr μ μ') : LX μ' m k B b v a e T :=
  let ⟨x, y, c1, c2, c3, c4, h1, h2, h3, h4, h5, d1, d2, d3, d4⟩ := h.ex; ⟨x, y, c1, c2, c3, c4, g.get h1, g.get h2, g.get h3, h4, h5, d1.gr g, d2.gr g, d3.gr g, d4.gr g⟩
theorem LX.kp {μ μ' : Sto} {n m k B b v : Nat} {a e : Int} {T : (Row × Row) × (Row × Row)} (h : LX μ m k B b v a e T) (g : Kp n μ μ') (hn : n < k ∨ B ≤ n) : LX μ' m k B b v a e T := by
  obtain ⟨x, y, c1, c2, c3, c4, h1, h2, h3, h4, h5, d1, d2, d3, d4⟩ := h.ex
  have ne : ∀ i ∈ [m, x, y, c1, c2, c3, c4], i ≠ n := fun i hi => by have := h5 i hi; omega
  exact ⟨x, y, c1, c2, c3, c4, g.at_ _ _ (ne _ (by simp)) h1, g.at_ _ _ (ne _ (by simp)) h2, g.at_ _ _ (ne _ (by simp)) h3, h4, h5, d1.kp g (ne _ (by simp)), d2.kp g (ne _ (by simp)), d3.kp g (ne _ (by simp)), d4.kp g (ne _ (by simp))⟩
theorem LX.lt {μ : Sto} {m k B b v : Nat} {a e : Int} {T : (Row × Row) × (Row × Row)} (h : LX μ m k B b v a e T) : LT μ m k b v a e T := by
  obtain ⟨x, y, c1, c2, c3, c4, h1, h2, h3, h4, h5, d1, d2, d3, d4⟩ := h.ex
  have ge : ∀ i ∈ [m, x, y, c1, c2, c3, c4], k ≤ i := fun i hi => (h5 i hi).1
  exact ⟨x, y, h1, ge _ (by simp), ⟨c1, c2, h2, ge _ (by simp), ge _ (by simp), ge _ (by simp), d1, d2⟩, ⟨c3, c4, h3, ge _ (by simp), ge _ (by simp), ge _ (by simp), d3, d4⟩⟩
theorem LX.mono {μ : Sto} {m k k' B B' b v b' v' : Nat} {a e a' e' : Int} {T : (Row × Row) × (Row × Row)} (h : LX μ m k B b v a e T) (hk : k' ≤ k) (hB : B ≤ B') (hb : b ≤ b') (hv : v ≤ v') (ha : a' ≤ a) (he : e ≤ e') : LX μ m k' B' b' v' a' e' T :=
  let ⟨x, y, c1, c2, c3, c4, h1, h2, h3, h4, h5, d1, d2, d3, d4⟩ := h.ex
  ⟨x, y, c1, c2, c3, c4, h1, h2, h3, h4, fun i hi => by have := h5 i hi; omega, (d1.up hb hv).span ha he, (d2.up hb hv).span ha he, (d3.up hb hv).span ha he, (d4.up hb hv).span ha he⟩
def detR (T : (Row × Row) × (Row × Row)) : Row := addR (mulR T.1.1 T.2.2) (negR (mulR T.1.2 T.2.1))
end BS
set_option exponentiation.threshold 20000
namespace BS
open PySem PySem.Spec PyProof.Rows L2 DL
structure CanT (T : (Row × Row) × (Row × Row)) : Prop where
  c1 : Can T.1.1
  c2 : Can T.1.2
  c3 : Can T.2.1
  c4 : Can T.2.2
theorem LX.can {μ : Sto} {m k B b v : Nat} {a e : Int} {T : (Row × Row) × (Row × Row)} (h : LX μ m k B b v a e T) : CanT T :=
  let ⟨x, y, c1, c2, c3, c4, h1, h2, h3, h4, h5, d1, d2, d3, d4⟩ := h.ex; ⟨d1.can, d2.can, d3.can, d4.can⟩
end BS
set_option exponentiation.threshold 20000
namespace BS
open PySem PySem.Spec PyProof.Rows L2 DL
end BS
set_option exponentiation.threshold 20000
namespace BS
open PySem PySem.Spec PyProof.Rows L2 DL
end BS
set_option exponentiation.threshold 20000
namespace BS
open PySem PySem.Spec PyProof.Rows L2 DL
theorem wide_len (r : Row) : (wideR r).2.length = 2 * r.2.length - 1 := wl_len r.2
theorem movR_len (r : Row) (d : Int) : (movR r d).2.length = r.2.length := by unfold movR; split <;> rfl
theorem sclR_len (c : Int × Int) (r : Row) : (sclR c r).2.length = r.2.length := by unfold sclR; simp
theorem cls {r s : Row} {c : Int × Int} {m : Int} (cr : Can r) (cs : Can s) (hc : isFr c) (nc : c.1 ≠ 0) (h : ∀ t : Rat, t ≠ 0 → ev s (t * t) = qv c * (t * t) ^ m * ev r (t * t)) : s.2.length = r.2.length := by
  have e : wideR s = movR (sclR c (wideR r)) (2 * m) := (wideR_can cs).uniq (movR_can (sclR_can hc nc (wideR_can cr)) _) fun t ht => by
    rw [wideR_ev s ht, movR_ev _ ht, scl_ev hc nc (wideR_can cr) ht, wideR_ev r ht, h t ht, zpow_sq ht]
    grind
  have l := congrArg (fun x : Row => x.2.length) e
  simp only [movR_len, sclR_len, wide_len] at l
  omega
theorem negR_can {r : Row} (c : Can r) : Can (negR r) := sclR_can (fr_int (-1)) (by decide) c
theorem negR_ev {r : Row} (c : Can r) {t : Rat} (ht : t ≠ 0) : ev (negR r) t = - ev r t := by
  unfold negR
  rw [scl_ev (fr_int (-1)) (by decide) c ht]
  have : qv (-1, 1) = -1 := by unfold qv; simp only; grind
  rw [this]; grind
def dP (P : Row × Row) : Row := detR (tabR P.1, tabR P.2)
theorem qvm1 : qv (-1, 1) = -1 := by unfold qv; simp only; grind
end BS
set_option exponentiation.threshold 20000
namespace BS
open PySem PySem.Spec PyProof.Rows L2 DL
end BS
set_option exponentiation.threshold 20000
namespace BS
open PySem PySem.Spec PyProof.Rows L2 DL
end BS
set_option exponentiation.threshold 20000
namespace BS
open PySem PySem.Spec PyProof.Rows L2 DL
end BS
set_option exponentiation.threshold 20000
namespace BS
open PySem PySem.Spec PyProof.Rows L2 DL
end BS
set_option exponentiation.threshold 20000
namespace BS
open PySem PySem.Spec PyProof.Rows L2 DL
end BS
set_option exponentiation.threshold 20000
namespace BS
open PySem PySem.Spec PyProof.Rows L2 DL
/-- a splitter whose determinant has one number -/
structure PO (P : Row × Row) : Prop where
  r1 : Rw 80 241 40 40 P.1
  r2 : Rw 80 241 40 40 P.2
  i1 : Iv (-13) 23 P.1
  i2 : Iv (-13) 23 P.2
  one : (dP P).2.length = 1
end BS
set_option exponentiation.threshold 20000
namespace BS
open PySem PySem.Spec PyProof.Rows L2 DL
end BS
set_option exponentiation.threshold 20000
namespace BS
open PySem PySem.Spec PyProof.Rows L2 DL
end BS
set_option exponentiation.threshold 20000
namespace BS
open PySem PySem.Spec PyProof.Rows L2 DL
theorem keysW_list {i j n : Nat} {ts : List Pl} {ρ : Sl} {μ : Sto} {ft : TF} {fe : EF} {P : Pl → Bool} {G : Pl → DL.D} {Q : DL.D × Sto → Prop} (hρ : ρ[i]? = some (some (.loc n))) (dz : μ[n]? = some (.dfz (kvD ts))) (ln : ts.length ≤ 900000)
    (body : ∀ t ∈ ts, ∀ μ', Gr μ μ' → Wp (ft ((wipeD ρ [j]).set j (some (.int t.1))) μ') fun q => q.1 = P t ∧ Gr μ' q.2 ∧ (P t = true → Wp (fe ((wipeD ρ [j]).set j (some (.int t.1))) q.2) fun r => r.1 = G t ∧ Gr q.2 r.2))
    (q : ∀ m μ', μ'[m]? = some (.lst ((ts.filter P).map G)) → μ.length ≤ m → Gr μ μ' → Q (.loc m, μ')) : Wp (fLcN (nKey (fVar i)) (gNm j) ft fe [j] ρ μ) Q := by
  have hi0 : nKey (fVar i) ρ μ = some (.key n, μ) := by
    unfold nKey fVar
    rw [hρ]
    simp only [Option.bind_some, dfzAt_dfz dz, Option.isSome_some, if_true]
  have et : ∀ (k : Nat) (hk : k < ts.length), ts.getD k (0, 0, 1) = ts[k] := fun k hk => by rw [List.getD_eq_getElem?_getD, List.getElem?_eq_getElem hk]; rfl
  refine fLcN_list (n := ts.length) (x := fun k => .int (ts.getD k (0, 0, 1)).1) (p := fun k => P (ts.getD k (0, 0, 1))) (e := fun k => G (ts.getD k (0, 0, 1))) hi0 (fun k μ' g => ?_) (by omega) ?_ ?_ ?_
  · show (dfzAt μ' n).map _ = _
    rw [dfzAt_dfz (g.get dz), Option.map_some]
    congr 1
    unfold kvD
    rw [List.getElem?_map]
    by_cases hj : k < ts.length
    · rw [if_pos hj, List.getElem?_eq_getElem hj, List.getD_eq_getElem?_getD, List.getElem?_eq_getElem hj]
      rfl
    · rw [if_neg hj, List.getElem?_eq_none (by omega)]
      rfl
  · show ((dfzAt _ n).getD []).length = _
    rw [dfzAt_dfz dz, Option.getD_some, kvD_len]
  · intro k hk μ' g
    rw [et k hk]
    exact ⟨_, rfl, body ts[k] (List.getElem_mem hk) μ' g⟩
  · intro m μ1 hm lm g1
    have ef : (((List.range ts.length).filter fun k => P (ts.getD k (0, 0, 1))).map fun k => G (ts.getD k (0, 0, 1))) = (ts.filter P).map G := by
      rw [range_filt (0, 0, 1) ts P G]
    rw [ef] at hm
    exact q m μ1 hm lm g1
theorem nilNe {μ : Sto} {i j : Nat} {ds : List DL.D} (h1 : μ[i]? = some (.lst ds)) (h2 : μ[j]? = some (.lst [])) : opNe (.loc i) (.loc j) μ = some (.bl (!ds.isEmpty), μ) := by
  unfold opNe
  rw [show (60 : Nat) = 59 + 1 from rfl]
  unfold rcD
  simp only [lst_loc h1, lst_loc h2]
  cases ds <;> rfl
/-- a number times a sign -/
def sP (s : Int) (p : Int × Int) : Int × Int := (s * p.1, p.2)
theorem sP_fr {s : Int} {p : Int × Int} (hs : s = 1 ∨ s = -1) (h : isFr p) : isFr (sP s p) := by
  rcases hs with h1 | h1 <;> subst h1
  · unfold sP; rw [Int.one_mul]; exact h
  · exact ⟨h.1, by unfold sP; simp only [Int.neg_mul, Int.one_mul, Int.natAbs_neg]; exact h.2⟩
/-- a row's number at each place is s times that at u less the place -/
def Sym (r : Row) (s u : Int) : Prop := ∀ k, cf r (u - k) = (s : Rat) * cf r k
def sclS (s : Int) (r : Row) : Row := if s = 1 then r else negR r
theorem sclS_can {s : Int} {r : Row} (c : Can r) : Can (sclS s r) := by unfold sclS; split; exact c; exact negR_can c
theorem sclS_cf {s : Int} {r : Row} (hs : s = 1 ∨ s = -1) (c : Can r) (k : Int) : cf (sclS s r) k = (s : Rat) * cf r k := by
  unfold sclS
  rcases hs with h | h <;> subst h
  · rw [if_pos rfl]; show _ = (1 : Rat) * _; grind
  · rw [if_neg (by decide)]
    unfold negR
    rw [cf_scl (fr_int (-1)) c, qvm1]
    rfl
theorem sym_iff {r : Row} {s u : Int} (hs : s = 1 ∨ s = -1) (c : Can r) : Sym r s u ↔ rndR (movR r (-u)) = sclS s r := by
  have e : ∀ k, cf (rndR (movR r (-u))) k = cf r (u - k) := fun k => by rw [cf_rnd, cf_mov]; congr 1; omega
  constructor
  · intro h
    refine (rndR_can (movR_can c _)).ext (sclS_can c) fun k => ?_
    rw [e, sclS_cf hs c]
    exact h k
  · intro h k
    rw [← e, h, sclS_cf hs c]
theorem sclS_ev {s : Int} {r : Row} (hs : s = 1 ∨ s = -1) (c : Can r) {t : Rat} (ht : t ≠ 0) : ev (sclS s r) t = (s : Rat) * ev r t := by
  unfold sclS
  rcases hs with h | h <;> subst h
  · rw [if_pos rfl]; show _ = (1 : Rat) * _; grind
  · rw [if_neg (by decide), negR_ev c ht]
    show _ = (-1 : Rat) * _
    grind
theorem invt_ne {t : Rat} (ht : t ≠ 0) : t⁻¹ ≠ 0 := fun z => by
  have := Rat.mul_inv_cancel t ht
  rw [z, Rat.mul_zero] at this
  exact absurd this (by decide)
theorem Sym.mul {x y : Row} {s u p v : Int} (hs : s = 1 ∨ s = -1) (hp : p = 1 ∨ p = -1) (cx : Can x) (cy : Can y) (h : Sym x s u) (k : Sym y p v) : Sym (mulR x y) (s * p) (u + v) := by
  have hsp : s * p = 1 ∨ s * p = -1 := by rcases hs with h | h <;> rcases hp with k | k <;> subst h <;> subst k <;> decide
  have cm := mulR_can cx cy
  refine (sym_iff hsp cm).mpr ((rndR_can (movR_can cm _)).uniq (sclS_can cm) fun t ht => ?_)
  have hi := invt_ne ht
  have e1 := congrArg (fun r => ev r t) ((sym_iff hs cx).mp h)
  have e2 := congrArg (fun r => ev r t) ((sym_iff hp cy).mp k)
  rw [rndR_ev _ ht, movR_ev _ hi, sclS_ev hs cx ht] at e1
  rw [rndR_ev _ ht, movR_ev _ hi, sclS_ev hp cy ht] at e2
  rw [rndR_ev _ ht, movR_ev _ hi, sclS_ev hsp cm ht, mulR_ev cx cy hi, mulR_ev cx cy ht, show -(u + v) = -u + -v by omega, Rat.zpow_add hi, Rat.intCast_mul]
  have : t⁻¹ ^ (-u) * t⁻¹ ^ (-v) * (ev x t⁻¹ * ev y t⁻¹) = (t⁻¹ ^ (-u) * ev x t⁻¹) * (t⁻¹ ^ (-v) * ev y t⁻¹) := by grind
  rw [this, e1, e2]
  grind
theorem ends_ne {r : Row} (c : Can r) (n : r.2 ≠ []) : cf r r.1 ≠ 0 ∧ cf r (r.1 + (r.2.length : Nat) - 1) ≠ 0 := by
  have hl := List.length_pos_iff.mpr n
  have h1 := c.lo n
  have h2 := c.hi n
  constructor
  · intro z
    unfold cf atR at z
    rw [if_pos (by omega), show (r.1 - r.1).toNat = 0 by omega] at z
    exact h1 ((qv_zero (getD_fr c.fr 0).1).mp z)
  · intro z
    unfold cf atR at z
    rw [if_pos (by omega), show (r.1 + (r.2.length : Nat) - 1 - r.1).toNat = r.2.length - 1 by omega] at z
    exact h2 ((qv_zero (getD_fr c.fr _).1).mp z)
end BS
set_option exponentiation.threshold 20000
namespace BS
open PySem PySem.Spec PyProof.Rows L2 DL
theorem lk_put (ts : List Pl) (k j : Int) (p : Int × Int) : lk (putT ts k p) j = if j = k then some p else lk ts j := by
  have mp : ∀ ts : List Pl, lk (ts.map fun t => if t.1 = k then (t.1, p) else t) j = if j = k then (lk ts k).map fun _ => p else lk ts j := fun ts => by
    induction ts with
    | nil => show none = _; split <;> rfl
    | cons t ts ih =>
      rw [List.map_cons, lk_cons, lk_cons, lk_cons, ih]
      by_cases h1 : t.1 = k
      · rw [if_pos h1, if_pos h1]
        by_cases h2 : j = k
        · rw [if_pos h2, if_pos h2, if_pos (show (t.1, p).1 = j by simp only; omega)]
          rfl
        · rw [if_neg h2, if_neg h2, if_neg (show ¬ (t.1, p).1 = j by simp only; omega), if_neg (by omega)]
      · rw [if_neg h1, if_neg h1]
        by_cases h2 : j = k
        · rw [if_pos h2, if_pos h2, if_neg (by omega)]
        · rw [if_neg h2, if_neg h2]
  have ap : ∀ ts : List Pl, lk (ts ++ [(k, p)]) j = (lk ts j).orElse fun _ => if j = k then some p else none := fun ts => by
    induction ts with
    | nil =>
      rw [List.nil_append, lk_cons]
      by_cases h : j = k
      · rw [if_pos (show (k, p).1 = j from h.symm), if_pos h]; rfl
      · rw [if_neg (show ¬ (k, p).1 = j from fun z => h z.symm), if_neg h]; rfl
    | cons t ts ih =>
      rw [List.cons_append, lk_cons, lk_cons, ih]
      by_cases h : t.1 = j
      · rw [if_pos h, if_pos h]; rfl
      · rw [if_neg h, if_neg h]
  unfold putT
  cases h : lk ts k with
  | some q =>
    rw [Option.isSome_some, if_pos rfl, mp, h]
    rfl
  | none =>
    rw [Option.isSome_none, if_neg (by decide), ap]
    by_cases e : j = k
    · subst e; rw [h, if_pos rfl]; rfl
    · simp only [e, if_false]; cases lk ts j <;> rfl
abbrev lkD (ts : List Pl) (k : Int) : Int × Int := (lk ts k).getD (0, 1)
theorem ne_frs {μ : Sto} (p q : Int × Int) : opNe (frD p) (.tup [.int q.1, .int q.2]) μ = some (.bl (decide (p ≠ q)), μ) := by
  have t : rcD μ 60 (frD p) (frD q) = some (decide (p = q)) := rc_frD 58 p q
  show (rcD μ 60 (frD p) (frD q)).map _ = _
  rw [t]
  by_cases h : p = q <;> simp [h]
/-- the first and the last place of a lot -/
theorem lot_ends {μ : Sto} {f D M : Nat} {a e : Int} {ts : List Pl} {r : Row} (d : DD μ f D M a e ts r) (nz : NzT ts) (n : r.2 ≠ []) : (∃ t ∈ ts, t.1 = r.1) ∧ (∃ t ∈ ts, t.1 = r.1 + (r.2.length : Nat) - 1) ∧ ∀ t ∈ ts, r.1 ≤ t.1 ∧ t.1 ≤ r.1 + (r.2.length : Nat) - 1 := by
  have cfn : ∀ t ∈ ts, cf r t.1 ≠ 0 := fun t ht z => by
    rw [d.cf, vl_of d.nd, lk_of d.nd ht] at z
    exact nz t ht ((qv_zero (d.fq t ht).fr.1).mp z)
  have key : ∀ k, cf r k ≠ 0 → ∃ t ∈ ts, t.1 = k := fun k hk => by
    rw [d.cf, vl_of d.nd] at hk
    cases h : lk ts k with
    | none => rw [h] at hk; exact absurd rfl hk
    | some p => exact ⟨_, lk_mem h, rfl⟩
  obtain ⟨e1, e2⟩ := ends_ne d.of.can n
  exact ⟨key _ e1, key _ e2, fun t ht => by have := cf_in (cfn t ht); omega⟩
end BS
set_option exponentiation.threshold 20000
namespace BS
open PySem PySem.Spec PyProof.Rows L2 DL
theorem sP_nm {s : Int} {p : Int × Int} (hs : s = 1 ∨ s = -1) (h : Nm p) : Nm (sP s p) := by
  refine ⟨sP_fr hs h.fr, fun z => h.nz ?_, h.bot, ?_⟩
  · unfold sP at z
    simp only at z
    rcases hs with h1 | h1 <;> subst h1 <;> omega
  · have := h.top
    unfold sP
    simp only
    rcases hs with h1 | h1 <;> subst h1 <;> omega
theorem sP_sP {s : Int} {p : Int × Int} (hs : s = 1 ∨ s = -1) : sP s (sP s p) = p := by
  unfold sP
  refine Prod.ext ?_ rfl
  simp only
  rcases hs with h1 | h1 <;> subst h1 <;> omega
structure EH (first : Int) (L : Nat) (s : Int) (acc : List Pl) : Prop where
  nd : Nd acc
  key : ∀ t ∈ acc, first ≤ t.1 ∧ t.1 < first + (L : Nat)
  nm : ∀ t ∈ acc, Nm t.2
  sym : ∀ k, 2 * k ≠ 2 * first + (L : Nat) - 1 → lkD acc (2 * first + (L : Nat) - 1 - k) = sP s (lkD acc k)
theorem lkD_put (ts : List Pl) (k j : Int) (p : Int × Int) : lkD (putT ts k p) j = if j = k then p else lkD ts j := by
  unfold lkD
  rw [lk_put]
  split <;> rfl
theorem EH.put {first : Int} {L : Nat} {s : Int} {acc : List Pl} {x : Int} {p : Int × Int} (h : EH first L s acc) (hs : s = 1 ∨ s = -1) (hx : first ≤ x ∧ x < first + (L : Nat)) (hp : Nm p) : EH first L s (putT (putT acc x p) (first + (L : Nat) - 1 - (x - first)) (sP s p)) := by
  refine ⟨put_nd (put_nd h.nd _ _) _ _, fun t ht => ?_, fun t ht => ?_, fun k hk => ?_⟩
  · rcases put_mem ht with rfl | ht
    · simp only; omega
    · rcases put_mem ht with rfl | ht
      · exact hx
      · exact h.key t ht
  · rcases put_mem ht with rfl | ht
    · exact sP_nm hs hp
    · rcases put_mem ht with rfl | ht
      · exact hp
      · exact h.nm t ht
  · rw [lkD_put, lkD_put, lkD_put, lkD_put]
    by_cases h1 : k = first + (L : Nat) - 1 - (x - first)
    · rw [if_neg (by omega), if_pos (by omega), if_pos h1, sP_sP hs]
    · by_cases h2 : k = x
      · rw [if_pos (by omega), if_neg h1, if_pos h2]
      · rw [if_neg (by omega), if_neg (by omega), if_neg h1, if_neg h2]
        exact h.sym k hk
end BS
set_option exponentiation.threshold 20000
namespace BS
open PySem PySem.Spec PyProof.Rows L2 DL
theorem Sh.non : Sh 1 0 5 .non := by
  refine ⟨.none, fun μ f hf => ?_, rfl, Nat.le_refl _, by decide⟩
  obtain ⟨f, rfl⟩ : ∃ g, f = g + 1 := ⟨f - 1, by omega⟩
  rfl
theorem Sh.all : Sh 1 0 20 (.str "all") := by
  refine ⟨.str "all", fun μ f hf => ?_, rfl, Nat.le_refl _, by decide +kernel⟩
  obtain ⟨f, rfl⟩ : ∃ g, f = g + 1 := ⟨f - 1, by omega⟩
  rfl
theorem for_lstw {fe : EF} {g : GF} {b : SF} {ρ : Sl} {μ : Sto} {Q : Out → Prop} (h : Wp (fe ρ μ) fun p => ∃ m ds, p.1 = .loc m ∧ p.2[m]? = some (.lst ds) ∧ Wp (loopF g b (.lst m) ds.length 0 ρ p.2) Q) : Wp (fFor (iLst fe) g b ρ μ) Q := by
  obtain ⟨⟨d, μ'⟩, e, m, ds, hd, hm, hl⟩ := h
  dsimp only at hd hm hl
  subst hd
  refine for_wp (iLst_of e hm) ?_
  have : itLen (.lst m) μ' = ds.length := by simp only [itLen, lst_loc hm, Option.getD_some]
  rw [this]
  exact hl
/-- one of the lots -/
structure Six (μ : Sto) (f : Nat) : Prop where
  ex : ∃ M a e r, Lt μ f 84 M a e r ∧ M < 2 ^ 100 ∧ -1000 ≤ a ∧ e ≤ 1000
theorem Six.gr {μ μ' : Sto} {f : Nat} (h : Six μ f) (g : Gr μ μ') : Six μ' f := let ⟨M, a, e, r, L, p⟩ := h.ex; ⟨M, a, e, r, L.gr g, p⟩
end BS
set_option exponentiation.threshold 20000
namespace BS
open PySem PySem.Spec PyProof.Rows L2 DL
end BS
set_option exponentiation.threshold 20000
namespace BS
open PySem PySem.Spec PyProof.Rows L2 DL
structure LB (μ : Sto) (f b v : Nat) (a e : Int) (r : Row) : Prop where
  ex : ∃ D M, Lt μ f D M a e r ∧ 0 < D ∧ D < 2 ^ b ∧ M < 2 ^ v
theorem LB.gr {μ μ' : Sto} {f b v : Nat} {a e : Int} {r : Row} (h : LB μ f b v a e r) (g : Gr μ μ') : LB μ' f b v a e r := let ⟨D, M, L, s⟩ := h.ex; ⟨D, M, L.gr g, s⟩
theorem LB.kp {μ μ' : Sto} {n f b v : Nat} {a e : Int} {r : Row} (h : LB μ f b v a e r) (k : Kp n μ μ') (hf : f ≠ n) : LB μ' f b v a e r := let ⟨D, M, L, s⟩ := h.ex; ⟨D, M, L.kp k hf, s⟩
theorem LB.mono {μ : Sto} {f b v b' v' : Nat} {a e a' e' : Int} {r : Row} (h : LB μ f b v a e r) (hb : b ≤ b') (hv : v ≤ v') (ha : a' ≤ a) (he : e ≤ e') : LB μ f b' v' a' e' r :=
  let ⟨D, M, L, s0, s1, s2⟩ := h.ex; ⟨D, M, L.span ha he, s0, Nat.lt_of_lt_of_le s1 (pw hb), Nat.lt_of_lt_of_le s2 (pw hv)⟩
theorem LB.can {μ : Sto} {f b v : Nat} {a e : Int} {r : Row} (h : LB μ f b v a e r) : Can r := let ⟨_, _, L, _⟩ := h.ex; L.can
theorem LB.lt {μ : Sto} {f b v : Nat} {a e : Int} {r : Row} (h : LB μ f b v a e r) : f < μ.length := let ⟨_, _, L, _⟩ := h.ex; L.lt
theorem LB.rw {μ : Sto} {f b v l s : Nat} {a e : Int} {r : Row} (h : LB μ f b v a e r) (h1 : e - a ≤ l) (h2 : -(s : Int) ≤ a) (h3 : e ≤ s) : Rw b v l s r := let ⟨_, _, L, s0, s1, s2⟩ := h.ex; L.rw s0 s1 s2 h1 h2 h3
theorem LB.nil {μ : Sto} {f : Nat} {a e : Int} (h : μ[f]? = some (.dic [])) (ae : a ≤ e) : LB μ f 1 1 a e (0, []) := ⟨1, 0, Lt.nil h ae, by decide, by decide, by decide⟩
theorem p1000 {x y : Nat} (h : x < 2 ^ y) (hy : y ≤ 1000) : x < 2 ^ 1000 := Nat.lt_of_lt_of_le h (pw hy)
end BS
set_option exponentiation.threshold 20000
namespace BS
open PySem PySem.Spec PyProof.Rows L2 DL
end BS
set_option exponentiation.threshold 20000
namespace BS
open PySem PySem.Spec PyProof.Rows L2 DL
theorem Sh.bool (b : Bool) : Sh 1 0 5 (.bl b) := by
  refine ⟨.bool b, fun μ f hf => ?_, ?_, ?_, ?_⟩
  · obtain ⟨f, rfl⟩ : ∃ g, f = g + 1 := ⟨f - 1, by omega⟩
    rfl
  · rfl
  · exact Nat.le_refl _
  · cases b <;> decide
/-- the two lots of the law, as they stand in the store -/
structure PB (μ : Sto) (n m : Nat) (P : Row × Row) : Prop where
  ex : ∃ f g a e, μ[m]? = some (.lst [.loc f, .loc g]) ∧ n < m ∧ n < f ∧ n < g ∧ LB μ f 46 357 a e P.1 ∧ LB μ g 39 300 (-30) 130 P.2 ∧ -704 ≤ a ∧ e ≤ 700 ∧ e - a ≤ 180
theorem PB.kp {μ μ' : Sto} {n m : Nat} {P : Row × Row} (h : PB μ n m P) (k : Kp n μ μ') : PB μ' n m P := let ⟨f, g, a, e, x1, x2, x3, x4, x5, x6, x7⟩ := h.ex; ⟨f, g, a, e, k.at_ _ _ (by omega) x1, x2, x3, x4, x5.kp k (by omega), x6.kp k (by omega), x7⟩
end BS
set_option exponentiation.threshold 20000
namespace BS
open PySem PySem.Spec PyProof.Rows L2 DL
theorem Rw.rd {b v l s : Nat} {r : Row} (h : Rw b v l s r) : ∃ D, 0 < D ∧ D < 2 ^ b ∧ Rd D v l s r := by
  obtain ⟨D, h1, h2, h3⟩ := h.den
  exact ⟨D, h1, h2, ⟨h.can, fun p hp => h3 p hp, fun p hp => h.val p hp, h.len, h.pos⟩⟩
end BS
set_option exponentiation.threshold 20000
namespace BS
open PySem PySem.Spec PyProof.Rows L2 DL
theorem ne_emp {l : FrL} (h : l ≠ []) : l.isEmpty = false := by cases l with | nil => exact absurd rfl h | cons x y => rfl
end BS
set_option exponentiation.threshold 20000
namespace BS
open PySem PySem.Spec PyProof.Rows L2 DL
end BS
set_option exponentiation.threshold 20000
namespace BS
open PySem PySem.Spec PyProof.Rows L2 DL
end BS
set_option exponentiation.threshold 20000
namespace BS
open PySem PySem.Spec PyProof.Rows L2 DL
end BS
set_option exponentiation.threshold 20000
namespace BS
open PySem PySem.Spec PyProof.Rows L2 DL
theorem lot_nil {μ : Sto} {f D M : Nat} {a e : Int} {ts : List Pl} {r : Row} (d : DD μ f D M a e ts r) (nz : NzT ts) : (kvD ts).isEmpty = r.2.isEmpty := by
  have e1 : (kvD ts).isEmpty = ts.isEmpty := by unfold kvD; cases ts <;> rfl
  rw [e1]
  by_cases n : r.2 = []
  · have cfz : ∀ t ∈ ts, False := fun t ht => by
      have z : cf r t.1 = 0 := by
        refine Classical.byContradiction fun h => ?_
        have := cf_in h
        rw [n] at this
        simp at this
        omega
      rw [d.cf, vl_of d.nd, lk_of d.nd ht] at z
      exact nz t ht ((qv_zero (d.fq t ht).fr.1).mp z)
    have : ts = [] := List.eq_nil_iff_forall_not_mem.mpr cfz
    rw [this, n]
    rfl
  · obtain ⟨⟨t1, h1, _⟩, _, _⟩ := lot_ends d nz n
    rw [ne_emp n]
    cases ts with
    | nil => cases h1
    | cons t us => rfl
end BS
set_option exponentiation.threshold 20000
namespace BS
open PySem PySem.Spec PyProof.Rows L2 DL
end BS
set_option exponentiation.threshold 20000
namespace BS
open PySem PySem.Spec PyProof.Rows L2 DL
abbrev Tb4 := (Row × Row) × (Row × Row)
structure Rw4 (b v l s : Nat) (T : Tb4) : Prop where
  r1 : Rw b v l s T.1.1
  r2 : Rw b v l s T.1.2
  r3 : Rw b v l s T.2.1
  r4 : Rw b v l s T.2.2
theorem Rw4.mono {b v l s b' v' l' s' : Nat} {T : Tb4} (t : Rw4 b v l s T) (h1 : b ≤ b') (h2 : v ≤ v') (h3 : l ≤ l') (h4 : s ≤ s') : Rw4 b' v' l' s' T := ⟨t.r1.mono h1 h2 h3 h4, t.r2.mono h1 h2 h3 h4, t.r3.mono h1 h2 h3 h4, t.r4.mono h1 h2 h3 h4⟩
theorem Rw4.can {b v l s : Nat} {T : Tb4} (t : Rw4 b v l s T) : CanT T := ⟨t.r1.can, t.r2.can, t.r3.can, t.r4.can⟩
end BS
set_option exponentiation.threshold 20000
namespace BS
open PySem PySem.Spec PyProof.Rows L2 DL
end BS
set_option exponentiation.threshold 20000
namespace BS
open PySem PySem.Spec PyProof.Rows L2 DL
end BS
set_option exponentiation.threshold 20000
namespace BS
open PySem PySem.Spec PyProof.Rows L2 DL
end BS
set_option exponentiation.threshold 20000
namespace BS
open PySem PySem.Spec PyProof.Rows L2 DL
theorem forrw {fa : AF} {g : GF} {b : SF} {ρ : Sl} {μ : Sto} {Q : Out → Prop} (h : Wp (fa ρ μ) fun p => ∃ j : Nat, p.1 = [.int (j : Int)] ∧ j ≤ 1000 ∧ Wp (loopF g b (.rng 0 j) j 0 ρ p.2) Q) : Wp (fFor (iRng1' fa) g b ρ μ) Q := by
  obtain ⟨⟨ds, μ'⟩, e, j, hd, hj, hl⟩ := h
  dsimp only at hd hl
  subst hd
  have hi : iRng1' fa ρ μ = some (.rng 0 j, μ') := by
    unfold iRng1'
    rw [e, Option.bind_some]
    simp only
    rw [if_pos ⟨by omega, by omega⟩]
    rfl
  exact for_wp hi hl
end BS
set_option exponentiation.threshold 20000
namespace BS
open PySem PySem.Spec PyProof.Rows L2 DL
theorem LL.low {ξ : Sto} {t k k' D M : Nat} {a e : Int} {P : Row × Row} (h : LL ξ t k D M a e P) (hk : k' ≤ k) : LL ξ t k' D M a e P := let ⟨f, g, h1, h2, h3, h4, h5, h6⟩ := h.ex; ⟨f, g, h1, by omega, by omega, by omega, h5, h6⟩
theorem LQ.low {ξ : Sto} {t k k' D M : Nat} {a e : Int} {T : Tb4} (h : LQ ξ t k D M a e T) (hk : k' ≤ k) : LQ ξ t k' D M a e T := let ⟨f, g, h1, h2, h3, h4⟩ := h.ex; ⟨f, g, h1, by omega, h3.low hk, h4.low hk⟩
end BS
set_option exponentiation.threshold 20000
namespace BS
open PySem PySem.Spec PyProof.Rows L2 DL
/-- one of the lots of the law -/
structure Fv (μ : Sto) (f : Nat) : Prop where
  ex : ∃ a e r, LB μ f 45 130 a e r ∧ -1000 ≤ a ∧ e ≤ 1000 ∧ e - a ≤ 890
theorem Fv.gr {μ μ' : Sto} {f : Nat} (h : Fv μ f) (g : Gr μ μ') : Fv μ' f := let ⟨a, e, r, L, p⟩ := h.ex; ⟨a, e, r, L.gr g, p⟩
theorem Fv.kp {μ μ' : Sto} {n f : Nat} (h : Fv μ f) (g : Kp n μ μ') (hn : f ≠ n) : Fv μ' f := let ⟨a, e, r, L, p⟩ := h.ex; ⟨a, e, r, L.kp g hn, p⟩
end BS
set_option exponentiation.threshold 20000
namespace BS
open PySem PySem.Spec PyProof.Rows L2 DL
def SZ (f : Int → Int) : List Int → Int → Int
  | [], _ => 0
  | z :: zs, s => z * f s + SZ f zs (s + 1)
end BS
set_option exponentiation.threshold 20000
namespace BS
open PySem PySem.Spec PyProof.Rows L2 DL
theorem total40_ok {μ : Sto} {m D M : Nat} {ps : List (Int × Int)} {Q : DL.D × Sto → Prop} (hm : μ[m]? = some (.lst (ps.map frD))) (hp : ∀ p ∈ ps, FinQ D M p) (h0 : 0 < D) (h1 : D < 2 ^ 1000) (hl : ps.length ≤ 40) (h2 : M * 40 < 2 ^ 1000) (q : ∀ p, FinQ D (M * ps.length) p → qv p = (ps.map qv).sum → Q (frD p, μ)) : Wp (F_law_total [.loc m] μ) Q := by
  have hM : M < 2 ^ 1000 := by omega
  refine def_wp rfl (sq_wp ?_)
  simp_arith [sizeLine_eq, Nat.reduceLeDiff]
  refine rest (sq_rest ?_)
  refine for_wp (it := .lst m) (μ' := μ) (iLst_of rfl hm) ?_
  have el : itLen (.lst m) μ = ps.length := by simp only [itLen, lst_loc hm, Option.map_some, Option.getD_some, List.length_map]
  rw [el]
  refine (loop_gen (n := ps.length) (x := fun i => frD (ps.getD i (0, 1))) (I := fun i ρ μ' => μ' = μ ∧ ∃ p c2, ρ = [some (.loc m), some (frD p), c2] ∧ FinQ D (M * i) p ∧ qv p = ((ps.take i).map qv).sum) (fun i ρ μ' h => ?_) ?_ ps.length 0 _ _ rfl ⟨rfl, (0, 1), _, rfl, FinQ.zero.mono (Nat.zero_le _), qv01⟩).mono ?_
  · rw [h.1]
    simp only [itAt, lst_loc hm, Option.map_some]
    by_cases hi : i < ps.length
    · rw [if_pos hi, List.getElem?_map, List.getElem?_eq_getElem hi, getD_in _ hi]
      rfl
    · rw [if_neg hi, List.getElem?_eq_none (by simpa using hi)]
  · rintro i _ _ hi ⟨rfl, p, c2, rfl, fp, qp⟩
    rw [getD_in _ hi]
    have ft := hp _ (List.getElem_mem hi)
    have st : ((ps.take (i + 1)).map qv).sum = ((ps.take i).map qv).sum + qv ps[i] := by
      rw [take_snoc hi, List.map_append, List.sum_append]
      show _ + (qv ps[i] + 0) = _
      grind
    generalize ps[i] = t at *
    have mi : M * i ≤ M * 40 := Nat.mul_le_mul_left _ (by omega)
    refine gNm_bind ?_
    simp_arith []
    refine lsum3_ok fp.fr ft.fr (fp.sm h0 h1 (by omega)) (ft.sm h0 h1 hM) ?_
    refine ⟨_, _, rfl, rfl, addP p t, _, rfl, ?_, ?_⟩
    · have := fp.add ft
      rw [show M * (i + 1) = M * i + M by rw [Nat.mul_add, Nat.mul_one]]
      exact this
    · rw [qv_add fp.fr.1 ft.fr.1, qp, st]
  · rintro _ ⟨ρ', μ', rfl, rfl, p, c2, rfl, fp, qp⟩
    rw [List.take_length] at qp
    refine rest (ret_wp ?_)
    simp_arith []
    exact q p fp qp
theorem sm_front (f : Nat → Rat) : ∀ n, sm f (n + 1) = f 0 + sm (fun i => f (i + 1)) n
  | 0 => by show (0 : Rat) + f 0 = f 0 + 0; grind
  | n + 1 => by
    rw [sm_succ, sm_front f n, sm_succ (fun i => f (i + 1)) n]
    grind
/-- the sum of a row's numbers, each times what its place says -/
def mo (r : Row) (g : Int → Rat) : Rat := sm (fun i => cf r (r.1 + (i : Nat)) * g (r.1 + (i : Nat))) r.2.length
def mom (r : Row) (j : Nat) : Rat := mo r fun k => ((k ^ j : Int) : Rat)
theorem cf_getD (r : Row) {i : Nat} (h : i < r.2.length) : cf r (r.1 + (i : Nat)) = qv (r.2.getD i (0, 1)) := by
  unfold cf atR
  rw [if_pos (by omega)]
  congr 2
  omega
theorem sz_sm (f : Int → Int) {B : Nat} : ∀ (fs : FrL) (s : Int), (∀ p ∈ fs, isFr p) → (∀ p ∈ fs, p.2.natAbs ∣ B) → ((SZ f (intsL B fs) s : Int) : Rat) = (B : Rat) * sm (fun i => qv (fs.getD i (0, 1)) * ((f (s + (i : Nat)) : Int) : Rat)) fs.length
  | [], s, _, _ => by show ((0 : Int) : Rat) = (B : Rat) * 0; rw [Rat.mul_zero]; rfl
  | p :: fs, s, hf, hd => by
    have fp := hf p (by simp)
    have dv := hd p (by simp)
    have ih := sz_sm f fs (s + 1) (fun q hq => hf q (List.mem_cons_of_mem _ hq)) (fun q hq => hd q (List.mem_cons_of_mem _ hq))
    have e1 : SZ f (intsL B (p :: fs)) s = p.1 * ((B : Int) / p.2) * f s + SZ f (intsL B fs) (s + 1) := rfl
    have ex : (B : Int) / p.2 * p.2 = (B : Int) := by
      have d : p.2 ∣ (B : Int) := by
        have := Int.natCast_dvd_natCast.mpr dv
        rwa [show ((p.2.natAbs : Nat) : Int) = p.2 by have := fp.1; omega] at this
      exact Int.ediv_mul_cancel d
    have e2 : ((p.1 * ((B : Int) / p.2) : Int) : Rat) = (B : Rat) * qv p := by
      have nz : (p.2 : Rat) ≠ 0 := cast_ne fp.1
      have : ((p.1 * ((B : Int) / p.2) : Int) : Rat) * (p.2 : Rat) = (p.1 : Rat) * (B : Rat) := by
        rw [← Rat.intCast_mul, Int.mul_assoc, ex, Rat.intCast_mul]
        rfl
      have q : qv p * (p.2 : Rat) = (p.1 : Rat) := by unfold qv; exact Rat.div_mul_cancel nz
      have h : (((p.1 * ((B : Int) / p.2) : Int) : Rat) - (B : Rat) * qv p) * (p.2 : Rat) = 0 := by grind
      rcases Rat.mul_eq_zero.mp h with h | h
      · grind
      · exact absurd h nz
    rw [e1, Rat.intCast_add, Rat.intCast_mul, e2, ih, List.length_cons, sm_front]
    have e3 : sm (fun i => qv ((p :: fs).getD (i + 1) (0, 1)) * ((f (s + ((i + 1 : Nat) : Int)) : Int) : Rat)) fs.length = sm (fun i => qv (fs.getD i (0, 1)) * ((f (s + 1 + (i : Nat)) : Int) : Rat)) fs.length := sm_congr _ fun i _ => by
      show qv (fs.getD i (0, 1)) * _ = _
      rw [show s + ((i + 1 : Nat) : Int) = s + 1 + (i : Nat) by omega]
    rw [e3]
    have e4 : (p :: fs).getD 0 (0, 1) = p := rfl
    rw [e4, show s + ((0 : Nat) : Int) = s by omega]
    grind
/-- the first moment that is not nought is the m-th -/
structure FlatAt (r : Row) (m : Nat) : Prop where
  z : ∀ j, j < m → mom r j = 0
  n : mom r m ≠ 0
theorem FlatAt.uniq {r : Row} {m k : Nat} (h : FlatAt r m) (g : FlatAt r k) : m = k := by
  by_cases a : m < k
  · exact absurd (g.z m a) h.n
  · by_cases b : k < m
    · exact absurd (h.z k b) g.n
    · omega
end BS
set_option exponentiation.threshold 20000
namespace BS
open PySem PySem.Spec PyProof.Rows L2 DL
end BS
set_option exponentiation.threshold 20000
namespace BS
open PySem PySem.Spec PyProof.Rows L2 DL
theorem sm_ind {c : Rat} {j : Nat} : ∀ n, j < n → sm (fun i => if i = j then c else 0) n = c
  | 0, h => by omega
  | n + 1, h => by
    rw [sm_succ]
    by_cases e : n = j
    · subst e
      rw [sm_zero n fun i hi => if_neg (by omega), if_pos rfl]
      grind
    · rw [sm_ind n (by omega), if_neg e]
      grind
theorem sw_gen (g : Int → Rat) {A : Int} {n : Nat} : ∀ ts : List Pl, (∀ t ∈ ts, A ≤ t.1 ∧ t.1 < A + n) → sm (fun i => vl ts (A + (i : Nat)) * g (A + (i : Nat))) n = (ts.map fun t => qv t.2 * g t.1).sum
  | [], _ => by
    rw [sm_zero n fun i _ => by show (0 : Rat) * _ = 0; rw [Rat.zero_mul]]
    rfl
  | t :: ts, h => by
    obtain ⟨h1, h2⟩ := h t (by simp)
    obtain ⟨j, hj⟩ := Int.eq_ofNat_of_zero_le (show 0 ≤ t.1 - A by omega)
    have ih := sw_gen g ts fun u hu => h u (List.mem_cons_of_mem _ hu)
    have e : sm (fun i => vl (t :: ts) (A + (i : Nat)) * g (A + (i : Nat))) n = sm (fun i => (if i = j then qv t.2 * g t.1 else 0) + vl ts (A + (i : Nat)) * g (A + (i : Nat))) n := sm_congr n fun i _ => by
      have ev : vl (t :: ts) (A + (i : Nat)) = (if t.1 = A + (i : Nat) then qv t.2 else 0) + vl ts (A + (i : Nat)) := rfl
      rw [ev]
      by_cases z : i = j
      · subst z
        rw [if_pos (by omega), if_pos rfl, show A + (i : Int) = t.1 by omega]
        grind
      · rw [if_neg (by omega), if_neg z]
        grind
    rw [e, sm_add, ih, sm_ind n (by omega)]
    rfl
theorem sw {μ : Sto} {n D M : Nat} {a e : Int} {ts : List Pl} {r : Row} (d : DD μ n D M a e ts r) (nz : NzT ts) (ne : r.2 ≠ []) (g : Int → Rat) : (ts.map fun t => qv t.2 * g t.1).sum = mo r g := by
  obtain ⟨_, _, hb⟩ := lot_ends d nz ne
  rw [← sw_gen g (A := r.1) (n := r.2.length) ts fun t ht => by have := hb t ht; omega]
  unfold mo
  exact sm_congr _ fun i _ => by rw [d.cf]
theorem int_fq {w : Int} {N : Nat} (h : w.natAbs ≤ N) : FinQ 1 N (w, 1) := by
  refine ⟨⟨by show (0 : Int) < 1; decide, by simp⟩, w, h, ?_⟩
  unfold qv
  show (w : Rat) / ((1 : Int) : Rat) * ((1 : Int) : Rat) = (w : Rat)
  exact Rat.div_mul_cancel (by decide)
end BS
set_option exponentiation.threshold 20000
namespace BS
open PySem PySem.Spec PyProof.Rows L2 DL
theorem pw64 (i : Nat) : M84 * 64 ^ (i + 1) = 64 * (M84 * 64 ^ i) := by rw [Nat.pow_succ, ← Nat.mul_assoc, Nat.mul_comm]
/-- one of the lots -/
structure Sx (μ : Sto) (f : Nat) : Prop where
  ex : ∃ a e r, LB μ f 50 120 a e r ∧ -900 ≤ a ∧ e ≤ 900 ∧ e - a ≤ 40
theorem Sx.gr {μ μ' : Sto} {f : Nat} (h : Sx μ f) (g : Gr μ μ') : Sx μ' f := let ⟨a, e, r, L, p⟩ := h.ex; ⟨a, e, r, L.gr g, p⟩
end BS
set_option exponentiation.threshold 20000
namespace BS
open PySem PySem.Spec PyProof.Rows L2 DL
end BS
set_option exponentiation.threshold 20000
namespace BS
open PySem PySem.Spec PyProof.Rows L2 DL
end BS
set_option exponentiation.threshold 20000
namespace BS
open PySem PySem.Spec PyProof.Rows L2 DL
end BS
set_option exponentiation.threshold 20000
namespace BS
open PySem PySem.Spec PyProof.Rows L2 DL
end BS
set_option exponentiation.threshold 20000
namespace BS
open PySem PySem.Spec PyProof.Rows L2 DL
def pwn (n : Int) (j : Nat) : Int → Int := fun k => (n - k) ^ j
/-- the row's numbers, each times a power of how far its place lies before n -/
def conv (r : Row) (n : Int) (j : Nat) : Rat := mo r fun k => (((n - k) ^ j : Int) : Rat)
end BS
set_option exponentiation.threshold 20000
namespace BS
open PySem PySem.Spec PyProof.Rows L2 DL
end BS
set_option exponentiation.threshold 20000
namespace BS
open PySem PySem.Spec PyProof.Rows L2 DL
theorem Sx.kp {μ μ' : Sto} {n f : Nat} (h : Sx μ f) (k : Kp n μ μ') (hf : f ≠ n) : Sx μ' f := let ⟨a, e, r, L, p⟩ := h.ex; ⟨a, e, r, L.kp k hf, p⟩
end BS
set_option exponentiation.threshold 20000
namespace BS
open PySem PySem.Spec PyProof.Rows L2 DL
open Classical in
/-- the fraction in lowest terms -/
noncomputable def rp (v : Rat) : Int × Int := if h : ∃ p, isFr p ∧ qv p = v then h.choose else (0, 1)
theorem rp_of {p : Int × Int} {v : Rat} (fp : isFr p) (q : qv p = v) : rp v = p := by
  have h : ∃ p, isFr p ∧ qv p = v := ⟨p, fp, q⟩
  unfold rp
  rw [dif_pos h]
  exact qv_inj h.choose_spec.1 fp (h.choose_spec.2.trans q.symm)
def hv (x : Int) (j : Nat) : Int := if x % 2 = 0 then (x / 2) ^ j else 0
def m2 : Nat → Rat
  | 0 => 1
  | t + 1 => -2 * m2 t
end BS
set_option exponentiation.threshold 20000
namespace BS
open PySem PySem.Spec PyProof.Rows L2 DL
theorem intg {zs : List Int} {i : Nat} (h : i < zs.length) : (zs.map D.int)[i]? = some (.int (zs.getD i 0)) := by
  rw [List.getElem?_map, List.getElem?_eq_getElem h, List.getD_eq_getElem?_getD, List.getElem?_eq_getElem h]
  rfl
/-- no nought at the top -/
structure TopZ (zs : List Int) (e : Nat) : Prop where
  le : e ≤ zs.length
  hi : ∀ k, e ≤ k → zs.getD k 0 = 0
  top : e ≠ 0 → zs.getD (e - 1) 0 ≠ 0
theorem spanI_ok {μ : Sto} {zs : List Int} {m : Nat} {Q : D × Sto → Prop} (h : μ[m]? = some (.lst (zs.map D.int))) (q : ∀ f e : Nat, TopZ zs e → Q (.tup [.int f, .int e], μ)) :
    Wp (F_span_without [.loc m, .int 0] μ) Q := by
  have lm := lst_loc h
  unfold F_span_without
  simp_arith [cLen, lm, List.length_map, fuelE]
  refine (loopW_gen (I := fun n ρ μ' => μ = μ' ∧ ρ = [some (.loc m), some (.int 0), some (.int 0), some (.int (n : Nat))] ∧ n ≤ zs.length ∧ ∀ k, n ≤ k → zs.getD k 0 = 0)
    (J := fun ρ μ' => μ = μ' ∧ ∃ e : Nat, ρ = [some (.loc m), some (.int 0), some (.int 0), some (.int (e : Nat))] ∧ TopZ zs e) ?_ zs.length _ _ _ ⟨rfl, rfl, Nat.le_refl _, fun k hk => by rw [List.getD_eq_getElem?_getD, List.getElem?_eq_none hk]; rfl⟩ (by omega)).mono ?_
  · rintro n _ _ ⟨rfl, rfl, hn, hz⟩
    simp_arith [opCmp]
    refine ⟨fun c0 => ?_, fun c0 => ?_⟩
    · obtain ⟨j, rfl⟩ : ∃ j, n = j + 1 := ⟨n - 1, by omega⟩
      have e1 : (((j + 1 : Nat) : Int) - 1) = ((j : Nat) : Int) := by omega
      simp_arith [opSub, e1, opIx, lm, atI_at, intg (show j < zs.length by omega), eq_int]
      refine ⟨fun z => ?_, fun z => ?_⟩
      · refine ⟨j, rfl, ?_⟩
        simp_arith [fAug, opSubI, e1]
        exact ⟨_, _, rfl, rfl, rfl, by omega, fun k hk => by
          by_cases hkj : k = j
          · rw [hkj]; exact z
          · exact hz k (by omega)⟩
      · exact ⟨j + 1, rfl, hn, hz, fun _ => z⟩
    · have n0 : n = 0 := by omega
      exact ⟨n, rfl, hn, hz, fun z => absurd n0 z⟩
  · rintro _ ⟨ρ', μ', rfl, rfl, e, rfl, T⟩
    have he := T.le
    simp_arith [fuelF]
    refine (loopW_gen (I := fun n ρ μ' => μ = μ' ∧ ∃ i : Nat, ρ = [some (.loc m), some (.int 0), some (.int (i : Nat)), some (.int (e : Nat))] ∧ i + n = e)
      (J := fun ρ μ' => μ = μ' ∧ ∃ i : Nat, ρ = [some (.loc m), some (.int 0), some (.int (i : Nat)), some (.int (e : Nat))]) ?_ e _ _ _ ⟨rfl, 0, rfl, by omega⟩ (by omega)).mono ?_
    · rintro n _ _ ⟨rfl, i, rfl, hi⟩
      simp_arith [opCmp]
      refine ⟨fun c0 => ?_, fun c0 => ?_⟩
      · have lt : i < zs.length := by omega
        simp_arith [opIx, lm, atI_at, intg lt, eq_int]
        refine ⟨fun z => ?_, fun z => ?_⟩
        · obtain ⟨k, rfl⟩ : ∃ k, n = k + 1 := ⟨n - 1, by omega⟩
          refine ⟨k, rfl, ?_⟩
          simp_arith [fAug, opAddI]
          exact ⟨_, _, rfl, rfl, i + 1, rfl, by omega⟩
        · exact ⟨i, rfl⟩
      · exact ⟨i, rfl⟩
    · rintro _ ⟨ρ', μ', rfl, rfl, i, rfl⟩
      simp_arith [sizeLine_eq, Nat.reduceLeDiff]
      exact q i e T
theorem TopZ.uniq {zs : List Int} {e e' : Nat} (a : TopZ zs e) (b : TopZ zs e') : e = e' := by
  rcases Nat.lt_trichotomy e e' with h | h | h
  · exact absurd (a.hi (e' - 1) (by omega)) (b.top (by omega))
  · exact h
  · exact absurd (b.hi (e - 1) (by omega)) (a.top (by omega))
/-- the numbers times a power of f - place -/
def tzL (zs : List Int) (f : Int) (t : Nat) : List Int := (List.range zs.length).map fun i => zs.getD i 0 * (f - (i : Nat)) ^ t
theorem tzL_len (zs : List Int) (f : Int) (t : Nat) : (tzL zs f t).length = zs.length := by unfold tzL; rw [List.length_map, List.length_range]
theorem tzL_get {zs : List Int} {f : Int} {t i : Nat} (h : i < zs.length) : (tzL zs f t).getD i 0 = zs.getD i 0 * (f - (i : Nat)) ^ t := by
  unfold tzL
  rw [List.getD_eq_getElem?_getD, List.getElem?_map, List.getElem?_range h]
  rfl
theorem tzL_0 (zs : List Int) (f : Int) : tzL zs f 0 = zs := by
  refine List.ext_getElem? fun k => ?_
  unfold tzL
  rw [List.getElem?_map]
  by_cases h : k < zs.length
  · rw [List.getElem?_range h, List.getElem?_eq_getElem h]
    show some (zs.getD k 0 * (f - (k : Nat)) ^ 0) = _
    rw [Int.pow_zero, Int.mul_one, List.getD_eq_getElem?_getD, List.getElem?_eq_getElem h]
    rfl
  · rw [List.getElem?_eq_none (by rw [List.length_range]; omega), List.getElem?_eq_none (by omega)]
    rfl
theorem pw11 {k : Int} (hk : k.natAbs < 2 ^ 11) : ∀ j : Nat, (k ^ j).natAbs < 2 ^ (11 * j + 1)
  | 0 => by rw [Int.pow_zero]; decide
  | j + 1 => by
    have ih := pw11 hk j
    rw [Int.pow_succ, Int.natAbs_mul]
    have := Nat.mul_lt_mul'' ih hk
    rw [← Nat.pow_add] at this
    exact Nat.lt_of_lt_of_le this (pw (by omega))
theorem momentof_ok {μ : Sto} {zs : List Int} {m t : Nat} {f : Int} {Q : D × Sto → Prop} (h : μ[m]? = some (.lst (zs.map D.int))) (bz : ∀ z ∈ zs, z.natAbs < 2 ^ 600) (hl : zs.length ≤ 60) (hf : f.natAbs ≤ 1900) (ht : t ≤ 8) (q : ∀ μ', Gr μ μ' → Q (.int (tzL zs f t).sum, μ')) : Wp (F_moment_of [.loc m, .int f, .int (t : Nat)] μ) Q := by
  have hfi : ∀ i, i < zs.length → (f - (i : Nat)).natAbs < 2 ^ 11 := fun i hi => by omega
  refine def_wp rfl (sq_wp ?_)
  simp_arith []
  refine sq_rest ?_
  have hi : iRng1' (fCons (fVar 2) fNil) [some (.loc m), some (.int f), some (.int (t : Nat)), some (.loc m), none, none, none] μ = some (.rng 0 t, μ) := rng1_of (r := t) rfl (by omega)
  refine forr_wp (fun i ρ' μ' => i ≤ t ∧ Gr μ μ' ∧ ∃ a c4, ρ' = [some (.loc m), some (.int f), some (.int (t : Nat)), some (.loc a), c4, none, none] ∧ μ'[a]? = some (.lst ((tzL zs f i).map D.int))) hi ⟨Nat.zero_le _, Gr.refl, m, none, rfl, by rw [tzL_0]; exact h⟩ ?_ ?_
  · rintro i ρ' μ' hi ⟨_, g, a, c4, rfl, ha⟩
    have ln := lst_loc ha
    have lt := tzL_len zs f i
    refine gNm_bind ?_
    simp_arith []
    refine fLcN_list (it := .enuL a) (n := zs.length) (x := fun k => .tup [.int (k : Nat), .int ((tzL zs f i).getD k 0)]) (p := fun _ => true) (e := fun k => .int (zs.getD k 0 * (f - (k : Nat)) ^ (i + 1))) (μ0 := μ') ?_ (fun k ν g' => by rw [← lt]; exact enu_at ha g') (by omega) (by simp only [itLenN, ln]; simp [lt]) (fun k hk ν gν => ?_) (fun l ν hν lν gν => ?_)
    · simp only [nEnL, fCons, fNil, fVar, List.getElem?_cons_succ, List.getElem?_cons_zero, Option.bind_some, ln, Option.isSome_some, if_true]
    · refine ⟨[some (.loc m), some (.int f), some (.int (t : Nat)), some (.loc a), some (.int (0 + (i : Nat))), some (.int (k : Nat)), some (.int ((tzL zs f i).getD k 0))], rfl, Wp.of rfl ⟨rfl, Gr.refl, fun _ => ?_⟩⟩
      rw [tzL_get hk]
      have b1 : (zs.getD k 0).natAbs < 2 ^ 600 := bz _ (by rw [List.getD_eq_getElem?_getD, List.getElem?_eq_getElem hk]; exact List.getElem_mem hk)
      have b2 := pw11 (hfi k hk) i
      have b3 : (zs.getD k 0 * (f - (k : Nat)) ^ i).natAbs < 2 ^ 1000 := by
        rw [Int.natAbs_mul]
        exact Nat.lt_of_lt_of_le (mulpw b1 b2) (pw (by omega))
      have mk : mulOk (zs.getD k 0 * (f - (k : Nat)) ^ i) (f - (k : Nat)) = true := mulOk_of (a := 1000) (b := 1000) b3 (Nat.lt_of_lt_of_le (hfi k hk) (pw (by decide))) (by decide) (by decide)
      simp_arith [opSub, opMulX, opMul, mk]
      rw [Int.pow_succ, Int.mul_assoc]
      exact ⟨rfl, Gr.refl⟩
    · have e : (((List.range zs.length).filter fun _ => true).map fun k => D.int (zs.getD k 0 * (f - (k : Nat)) ^ (i + 1))) = (tzL zs f (i + 1)).map D.int := by
        rw [List.filter_eq_self.mpr (by simp)]
        unfold tzL
        rw [List.map_map]
        rfl
      rw [e] at hν
      simp_arith []
      exact ⟨_, _, rfl, hi, g.trans gν, l, _, rfl, hν⟩
  · rintro ρ' μ' ⟨_, g, a, c4, rfl, ha⟩
    refine rest (ret_wp ?_)
    have cs : cSum [.loc a] μ' = some (.int (tzL zs f t).sum, μ') := by
      unfold cSum
      simp only [lst_loc ha, Option.bind_some, intsOf_ints, Option.map_some]
    simp_arith [cs]
    exact q μ' g
theorem tz_SZ (t : Nat) : ∀ (zs : List Int) (s : Int), (tzL zs (-s) t).sum = SZ (pwn 0 t) zs s
  | [], s => rfl
  | z :: zs, s => by
    have ih := tz_SZ t zs (s + 1)
    show _ = z * (0 - s) ^ t + SZ (pwn 0 t) zs (s + 1)
    rw [← ih]
    unfold tzL
    rw [List.length_cons, List.range_succ_eq_map, List.map_cons, List.sum_cons, List.map_map]
    have e1 : (z :: zs).getD 0 0 * (-s - ((0 : Nat) : Int)) ^ t = z * (0 - s) ^ t := by
      show z * _ = _
      congr 2
      omega
    rw [e1]
    congr 2
    refine List.map_congr_left fun i _ => ?_
    show zs.getD i 0 * (-s - ((i + 1 : Nat) : Int)) ^ t = zs.getD i 0 * (-(s + 1) - (i : Nat)) ^ t
    congr 2
    omega
end BS
set_option exponentiation.threshold 20000
namespace BS
open PySem PySem.Spec PyProof.Rows L2 DL
noncomputable def cofF (r : Row) (j : Nat) : FrL := (List.range (j + 1)).map fun p => rp (((PySem.W.mcComb (j : Nat) (p : Nat) : Int) : Rat) * conv r 0 (j - p))
theorem cofF_len (r : Row) (j : Nat) : (cofF r j).length = j + 1 := by unfold cofF; rw [List.length_map, List.length_range]
theorem cofF_get (r : Row) {j p : Nat} (h : p ≤ j) : (cofF r j).getD p (0, 1) = rp (((PySem.W.mcComb (j : Nat) (p : Nat) : Int) : Rat) * conv r 0 (j - p)) := by
  unfold cofF
  rw [List.getD_eq_getElem?_getD, List.getElem?_map, List.getElem?_range (by omega)]
  rfl
structure TopF (F : FrL) (e : Nat) : Prop where
  le : e ≤ F.length
  hi : ∀ k, e ≤ k → (F.getD k (0, 1)).1 = 0
  top : e ≠ 0 → (F.getD (e - 1) (0, 1)).1 ≠ 0
theorem TopF.uniq {F : FrL} {e e' : Nat} (a : TopF F e) (b : TopF F e') : e = e' := by
  rcases Nat.lt_trichotomy e e' with h | h | h
  · exact absurd (a.hi (e' - 1) (by omega)) (b.top (by omega))
  · exact h
  · exact absurd (b.hi (e - 1) (by omega)) (a.top (by omega))
theorem comb8 : ∀ j : Nat, j ≤ 8 → ∀ p : Nat, p ≤ j → (PySem.W.mcComb (j : Nat) (p : Nat)).natAbs < 256 := by decide +kernel
theorem nwb08 {μ : Sto} {n : Int} {Q : D × Sto → Prop} (hn : 0 ≤ n ∧ n ≤ 8) (q : Q (.non, μ)) : Wp (F_need_whole_between [.int n, .int 0, .int 8] μ) Q := by
  have d2 : decide ((0 : Int) ≤ n) = true := decide_eq_true hn.1
  have d9 : decide (n ≤ 8) = true := decide_eq_true hn.2
  unfold F_need_whole_between
  simp_arith []
  refine wholeI ?_
  simp_arith [fChain, opCmp, d2, d9]
  exact q
theorem red_zero {n m : Int} (h : 0 < m) : (redI n m).1 = 0 ↔ n = 0 := by
  have f := redI_fr (n := n) h
  have z := cast_ne h
  constructor
  · intro e
    have q := (qv_zero f.1).mpr e
    rw [qv_red h, Rat.div_def] at q
    rcases Rat.mul_eq_zero.mp q with g | g
    · exact Rat.intCast_eq_zero_iff.mp g
    · have := Rat.mul_inv_cancel _ z
      rw [g] at this
      grind
  · intro e
    subst e
    refine (qv_zero f.1).mp ?_
    rw [qv_red h, Rat.div_def]
    show (0 : Rat) * _ = 0
    grind
theorem onpower_ok {μ : Sto} {r : Row} {b v l s j : Nat} {Q : D × Sto → Prop} (h1 : μ[1]? = some (.tab "is_row")) (hr : Rw b v l s r) (hb : b + v ≤ 590) (hl : l ≤ 60) (hs : s ≤ 1800) (hj : j ≤ 8) (q : ∀ e μ', TopF (cofF r j) e → Gr μ μ' → Q (.tup (((cofF r j).take e).map frD), μ')) : Wp (F_on_power [rowD r, .int (j : Nat)] μ) Q := by
  have c := hr.can
  have len := hr.len
  have pos := hr.pos
  have i1 : ∀ ν : Sto, opIx (rowD r) (.int 1) ν = some (.tup (r.2.map frD), ν) := fun ν => rfl
  have i0 : ∀ ν : Sto, opIx (rowD r) (.int 0) ν = some (.int r.1, ν) := fun ν => rfl
  obtain ⟨B, dB, lB⟩ := hr.Den (by omega)
  obtain ⟨lp, ldvd⟩ := lcmL_pos dB
  have lcB : lcmL r.2 ≤ B := ldvd
  have lcs : lcmL r.2 < 2 ^ 1000 := Nat.lt_of_le_of_lt lcB dB.small
  have bz : ∀ z ∈ intsL (lcmL r.2) r.2, z.natAbs < 2 ^ 600 := fun z hz => by
    have a := ints_le (V := 2 ^ v) (b := lcmL r.2) (fs := r.2) c.fr lp (fun p hp => dvd_lcmL hp) hr.val z hz
    have : 2 ^ v * lcmL r.2 < 2 ^ v * 2 ^ b := Nat.mul_lt_mul_of_pos_left (Nat.lt_of_le_of_lt lcB lB) (Nat.two_pow_pos v)
    rw [← Nat.pow_add] at this
    exact Nat.lt_of_lt_of_le (Nat.lt_of_le_of_lt a this) (pw (by omega))
  have zl : (intsL (lcmL r.2) r.2).length = r.2.length := ints_len _ _
  have lnk : ∀ t : Nat, (((tzL (intsL (lcmL r.2) r.2) (-r.1) t).sum : Int) : Rat) = (lcmL r.2 : Rat) * conv r 0 t := fun t => by
    rw [tz_SZ, sz_sm (pwn 0 t) r.2 r.1 c.fr (fun p hp => dvd_lcmL hp)]
    unfold conv mo
    congr 1
    exact sm_congr _ fun i hi => by rw [cf_getD r hi]; rfl
  have sums : ∀ t : Nat, t ≤ 8 → (tzL (intsL (lcmL r.2) r.2) (-r.1) t).sum.natAbs < 2 ^ 1000 := fun t ht => by
    have a := sumI_le (M := 2 ^ 690) (tzL (intsL (lcmL r.2) r.2) (-r.1) t) (fun z hz => by
      obtain ⟨i, hi, rfl⟩ := List.mem_map.mp hz
      have hi := List.mem_range.mp hi
      rw [Int.natAbs_mul]
      have b1 : ((intsL (lcmL r.2) r.2).getD i 0).natAbs < 2 ^ 600 := bz _ (by rw [List.getD_eq_getElem?_getD, List.getElem?_eq_getElem hi]; exact List.getElem_mem hi)
      have b2 := pw11 (k := -r.1 - (i : Nat)) (by omega) t
      exact Nat.le_of_lt (Nat.lt_of_lt_of_le (mulpw b1 b2) (pw (by omega))))
    rw [tzL_len, zl] at a
    have e : (2 : Nat) ^ 1000 = 2 ^ 690 * 2 ^ 310 := by rw [← Nat.pow_add]
    have c60 : r.2.length * 2 ^ 690 ≤ 60 * 2 ^ 690 := Nat.mul_le_mul_right _ (by omega)
    have : 60 * 2 ^ 690 < 2 ^ 1000 := by rw [e, Nat.mul_comm]; exact Nat.mul_lt_mul_of_pos_left (by decide +kernel) (Nat.two_pow_pos 690)
    omega
  generalize hZ : intsL (lcmL r.2) r.2 = zs at bz zl lnk sums
  have lpi : (0 : Int) < ((lcmL r.2 : Nat) : Int) := by omega
  refine def_wp rfl (sq_wp ?_)
  simp_arith []
  refine needrow_ok h1 c ?_
  refine rest (sq_rest ?_)
  simp_arith []
  refine nwb08 (by omega) ?_
  refine rest (sq_rest ?_)
  simp_arith [i1]
  refine bottom_ok dB (by omega) fun kz μ1 hk lk g1 => ?_
  rw [hZ] at hk
  have j0 : ∀ ν : Sto, opIx (.tup [.loc kz, .int (lcmL r.2 : Nat)]) (.int 0) ν = some (.loc kz, ν) := fun ν => rfl
  simp_arith []
  refine rest (sq_rest ?_)
  have hO : (μ1 ++ [Ob.lst []])[μ1.length]? = some (.lst []) := by simp
  have gO : Gr μ1 (μ1 ++ [Ob.lst []]) := Gr.app
  simp_arith [sizeLine_eq, Nat.reduceLeDiff]
  have hk2 := gO.get hk
  generalize hT : μ1.length = T at hO
  generalize μ1 ++ [Ob.lst []] = μ2 at hO gO hk2 ⊢
  have nT : kz ≠ T := by
    have := (List.getElem?_eq_some_iff.mp hk).1
    omega
  refine rest (sq_rest ?_)
  have hi : iRng1' (fCons (fBin opAddX (fVar 1) (fC (.int 1))) fNil) [some (rowD r), some (.int (j : Nat)), some (.loc T), none, some (.loc kz), some (.int (lcmL r.2 : Nat)), none, none] μ2 = some (.rng 0 (j + 1), μ2) := rng1_of (r := j + 1) rfl (by omega)
  refine forr_wp (fun i ρ' μ' => i ≤ j + 1 ∧ Gr μ1 μ' ∧ ∃ c3 c6, ρ' = [some (rowD r), some (.int (j : Nat)), some (.loc T), c3, some (.loc kz), some (.int (lcmL r.2 : Nat)), c6, none] ∧ μ'[T]? = some (.lst (((List.range i).map fun p => PySem.W.mcComb (j : Nat) (p : Nat) * (tzL zs (-r.1) (j - p)).sum).map D.int))) hi ⟨Nat.zero_le _, gO, none, none, rfl, hO⟩ ?_ ?_
  · rintro i ρ' μ' hi ⟨_, g, c3, c6, rfl, hA⟩
    refine gNm_bind ?_
    refine sq_wp ?_
    have ei : ((j : Nat) : Int) - (0 + (i : Nat)) = ((j - i : Nat) : Int) := by omega
    simp_arith [i0, unNeg, opSub, ei]
    refine momentof_ok (g.get hk) bz (by omega) (by omega) (by omega) fun μ3 g3 => ?_
    have hA3 := g3.get hA
    have kd : kindD μ3 (.loc T) = some "list" := by simp only [kindD, hA3]
    refine rest ?_
    simp_arith []
    refine need kd ?_
    have cb : cComb [.int (j : Nat), .int (0 + (i : Nat))] μ3 = some (.int (PySem.W.mcComb (j : Nat) (i : Nat)), μ3) := by
      unfold cComb
      rw [show (0 : Int) + (i : Nat) = ((i : Nat) : Int) by omega]
      exact if_pos ⟨by omega, by omega, by omega⟩
    have mk : mulOk (PySem.W.mcComb (j : Nat) (i : Nat)) (tzL zs (-r.1) (j - i)).sum = true := mulOk_of (a := 1000) (b := 1000) (Nat.lt_of_lt_of_le (comb8 j hj i (by omega)) (Nat.le_trans (by decide : 256 ≤ 2 ^ 8) (pw (by decide)))) (sums _ (by omega)) (by decide) (by decide)
    have ap : ∀ d, mAppend (.loc T) [d] μ3 = some (.non, μ3.set T (.lst (((List.range i).map fun p => PySem.W.mcComb (j : Nat) (p : Nat) * (tzL zs (-r.1) (j - p)).sum).map D.int ++ [d]))) := fun d => by
      unfold mAppend
      simp only [hA3]
      rw [if_pos (by rw [sizeLine_eq, List.length_map, List.length_map, List.length_range]; omega)]
    simp_arith [cb, opMulX, opMul, mk, ap]
    refine ⟨_, _, rfl, hi, (g.trans g3).set (by omega), _, _, rfl, ?_⟩
    rw [List.getElem?_set_self (List.getElem?_eq_some_iff.mp hA3).1, List.range_succ, List.map_append, List.map_append]
    rfl
  · rintro ρ' μ' ⟨_, g, c3, c6, rfl, hA⟩
    refine rest (ret_wp ?_)
    generalize hW : ((List.range (j + 1)).map fun p => PySem.W.mcComb (j : Nat) (p : Nat) * (tzL zs (-r.1) (j - p)).sum) = ws at hA
    have wl : ws.length = j + 1 := by rw [← hW, List.length_map, List.length_range]
    have wg : ∀ p, p ≤ j → ws.getD p 0 = PySem.W.mcComb (j : Nat) (p : Nat) * (tzL zs (-r.1) (j - p)).sum := fun p hp => by
      rw [← hW, List.getD_eq_getElem?_getD, List.getElem?_map, List.getElem?_range (by omega)]
      rfl
    have fw : ∀ p, p ≤ j → (cofF r j).getD p (0, 1) = redI (ws.getD p 0) ((lcmL r.2 : Nat) : Int) := fun p hp => by
      rw [cofF_get r hp]
      refine rp_of (redI_fr lpi) ?_
      rw [qv_red lpi, wg p hp, Rat.intCast_mul, lnk]
      have z := cast_ne lpi
      have m := Rat.mul_inv_cancel _ z
      rw [Rat.div_def]
      have e : ((lcmL r.2 : Nat) : Rat) = (((lcmL r.2 : Nat) : Int) : Rat) := rfl
      rw [e]
      grind
    have T0 : ∀ e, TopZ ws e → TopF (cofF r j) e := fun e t => by
      have tl := t.le
      refine ⟨by rw [cofF_len]; omega, fun k hk => ?_, fun z => ?_⟩
      · by_cases h : k ≤ j
        · rw [fw k h]
          exact (red_zero lpi).mpr (t.hi k hk)
        · rw [List.getD_eq_getElem?_getD, List.getElem?_eq_none (by rw [cofF_len]; omega)]
          rfl
      · rw [fw (e - 1) (by omega)]
        exact fun h => t.top z ((red_zero lpi).mp h)
    simp_arith []
    have wt : Wp (F_without_top [.loc T] μ') fun p => ∃ k e, p.1 = .loc k ∧ TopZ ws e ∧ p.2[k]? = some (.lst ((ws.take e).map D.int)) ∧ Gr μ' p.2 := by
      unfold F_without_top
      simp_arith []
      refine spanI_ok hA fun f e t => ?_
      have i1' : ∀ ν : Sto, opIx (.tup [.int (f : Nat), .int (e : Nat)]) (.int 1) ν = some (.int (e : Nat), ν) := fun ν => rfl
      simp_arith [i1']
      have sl : slD (.loc T) none (some (e : Nat)) μ' = some (.loc μ'.length, μ' ++ [.lst ((ws.take e).map D.int)]) := by
        simp only [slD, lst_loc hA, Option.map_some, cut_to]
      refine Wp.of sl ?_
      exact ⟨_, e, rfl, t, by simp, Gr.app⟩
    obtain ⟨⟨_, μ3⟩, e3, k, e, rfl, t, hK, g3⟩ := wt
    dsimp only at hK g3
    have te := t.le
    have lk3 := lst_loc hK
    have ed : (fCB F_without_top (fCons (fVar 2) fNil)) [some (rowD r), some (.int (j : Nat)), some (.loc T), c3, some (.loc kz), some (.int (lcmL r.2 : Nat)), c6, none] μ' = some (.loc k, μ3) := by
      simp only [fCB, fCons, fVar, fNil, List.getElem?_cons_zero, List.getElem?_cons_succ, Option.bind_some, e3]
    have hit := iLst_of ed hK
    refine fLc_list (it := .lst k) (n := e) (x := fun i => .int (ws.getD i 0)) (p := fun _ => true) (e := fun i => frD ((cofF r j).getD i (0, 1))) (μ0 := μ3) hit (fun i ν g' => ?_) (by omega) (by simp only [itLen, lk3, Option.getD_some, List.length_map, List.length_take]; omega) (fun i hi ν gν => ?_) fun m ν hm lm gν => ?_
    · simp only [itAt, lst_loc (g'.get hK), Option.map_some]
      by_cases hi : i < e
      · rw [if_pos hi, List.map_take, List.getElem?_take_of_lt hi, intg (by omega)]
      · rw [if_neg hi, List.getElem?_eq_none (by rw [List.length_map, List.length_take]; omega)]
    · refine ⟨_, rfl, Wp.of rfl ⟨rfl, Gr.refl, fun _ => ?_⟩⟩
      show Wp (fCB F_reduced (fCons (fVar 7) (fCons (fVar 5) fNil)) [some (rowD r), some (.int (j : Nat)), some (.loc T), c3, some (.loc kz), some (.int (lcmL r.2 : Nat)), c6, some (.int (ws.getD i 0))] ν) _
      simp_arith []
      refine reduced_ok (a := 1000) lpi (by rw [Int.natAbs_natCast]; exact lcs) (by decide) ?_
      rw [fw i (by omega)]
      exact ⟨rfl, Gr.refl⟩
    · have e4 : (((List.range e).filter fun _ => true).map fun i => frD ((cofF r j).getD i (0, 1))) = ((cofF r j).take e).map frD := by
        rw [List.filter_eq_self.mpr (by simp)]
        refine List.ext_getElem? fun i => ?_
        rw [List.getElem?_map, List.getElem?_map]
        by_cases hi : i < e
        · rw [List.getElem?_range hi, List.getElem?_take_of_lt hi, List.getElem?_eq_getElem (show i < (cofF r j).length by rw [cofF_len]; omega), Option.map_some, Option.map_some, List.getD_eq_getElem?_getD, List.getElem?_eq_getElem (show i < (cofF r j).length by rw [cofF_len]; omega)]
          rfl
        · rw [List.getElem?_eq_none (by rw [List.length_range]; omega), List.getElem?_eq_none (by rw [List.length_take]; omega)]
          rfl
      rw [e4] at hm
      have ct : cTuple [.loc m] ν = some (.tup (((cofF r j).take e).map frD), ν) := by
        unfold cTuple
        simp only [lst_loc hm, Option.map_some]
      simp_arith [ct]
      exact q e ν (T0 e t) (g1.trans (((gO.trans (by exact Gr.refl)).trans Gr.refl).trans Gr.refl |> fun _ => (g.trans (g3.trans gν))))
end BS
set_option exponentiation.threshold 20000
namespace BS
open PySem PySem.Spec PyProof.Rows L2 DL
theorem power42_ok {μ : Sto} {k : Int} {j : Nat} {Q : D × Sto → Prop} (hk : k.natAbs < 2 ^ 11) (hj : j ≤ 30) (q : Q (.int (k ^ j), μ)) : Wp (F_law_power_2 [.int k, .int (j : Nat)] μ) Q := by
  refine def_wp rfl (sq_wp ?_)
  simp_arith []
  refine rest (sq_rest ?_)
  have hr : iRng1' (fCons (fVar 1) fNil) [some (.int k), some (.int (j : Nat)), some (.int 1), none] μ = some (.rng 0 j, μ) := rng1_of rfl (by omega)
  refine forr_wp (fun i ρ' μ' => ∃ c3, ρ' = [some (.int k), some (.int (j : Nat)), some (.int (k ^ i)), c3] ∧ μ' = μ ∧ i ≤ j) hr ⟨_, by rw [Int.pow_zero], rfl, Nat.zero_le _⟩ ?_ ?_
  · rintro i ρ' _ hi ⟨c3, rfl, rfl, _⟩
    refine gNm_bind ?_
    have m : mulOk (k ^ i) k = true := mulOk_big (Nat.lt_of_lt_of_le (pw11 hk i) (pw (show 11 * i + 1 ≤ 700 by omega))) hk (by decide) (by decide) (by decide)
    simp_arith [opMulX, opMul, m]
    exact ⟨_, _, rfl, _, by rw [Int.pow_succ], rfl, by omega⟩
  · rintro ρ' _ ⟨c3, rfl, rfl, _⟩
    refine rest (ret_wp ?_)
    simp_arith []
    exact q
theorem totk_ok {ρ : Sl} {μ μ1 : Sto} {n i D M j : Nat} {a e x : Int} {ts : List Pl} {r : Row} {fx fj : EF} {Q : DL.D × Sto → Prop} (d : DD μ n D M a e ts r) (nz : NzT ts) (hx : x.natAbs ≤ 1000) (ha : -900 ≤ a ∧ e ≤ 900 ∧ e - a ≤ 40) (h0 : 0 < D) (h1 : D < 2 ^ 60) (h2 : M < 2 ^ 150) (hj : j ≤ 8)
    (hρ : ρ[0]? = some (some (.loc n))) (dz : μ1[n]? = some (.dfz (kvD ts))) (r0 : ∀ k : Int, ((wipeD ρ [i]).set i (some (.int k)))[0]? = some (some (.loc n))) (ri : ∀ k : Int, ((wipeD ρ [i]).set i (some (.int k)))[i]? = some (some (.int k)))
    (ex : ∀ (k : Int) ν, fx ((wipeD ρ [i]).set i (some (.int k))) ν = some (.int x, ν)) (ej : ∀ (k : Int) ν, fj ((wipeD ρ [i]).set i (some (.int k))) ν = some (.int (j : Nat), ν))
    (q : ∀ p μ', FinQ D (M * 2 ^ 90 * 40) p → qv p = conv r x j → Gr μ1 μ' → Q (frD p, μ')) :
    Wp (fCB F_law_total (fCons (fLcN (nKey (fVar 0)) (gNm i) fYes (fCB F_law_product_2 (fCons (fBin opDix (fVar 0) (fVar i)) (fCons (fTup (fCons (fCB F_law_power_2 (fCons (fBin opSub fx (fVar i)) (fCons fj fNil))) (fCons (fC (.int 1)) fNil))) fNil))) [i]) fNil) ρ μ1) Q := by
  have ln := d.len
  have d1 : D < 2 ^ 1000 := Nat.lt_of_lt_of_le h1 (pw (by decide))
  have m1 : M < 2 ^ 1000 := Nat.lt_of_lt_of_le h2 (pw (by decide))
  have hb : ∀ t ∈ ts, (x - t.1).natAbs < 2 ^ 11 := fun t ht => by
    have b1 := d.kr.lo t ht
    have b2 := d.kr.hi t ht
    omega
  have wb : ∀ t ∈ ts, ((x - t.1) ^ j).natAbs < 2 ^ 90 := fun t ht => Nat.lt_of_lt_of_le (pw11 (hb t ht) j) (pw (show 11 * j + 1 ≤ 90 by omega))
  refine cb1 ?_
  refine keysW_list (P := fun _ => true) (G := fun t => frD (mulP t.2 ((x - t.1) ^ j, 1))) hρ dz (by omega) (fun t ht μ' g => ?_) fun m μ' hm hl' g => ?_
  · have gx := dix_ok (dicAt_dfz (g.get dz)) (lk_of d.nd ht)
    have fq := d.fq t ht
    have w := wb t ht
    refine Wp.of (a := (true, μ')) rfl ⟨rfl, Gr.refl, fun _ => ?_⟩
    have r0' := r0 t.1
    have ri' := ri t.1
    have ex' := ex t.1
    have ej' := ej t.1
    generalize (wipeD ρ [i]).set i (some (.int t.1)) = ρ1 at r0' ri' ex' ej'
    simp_arith [r0', ri', gx, ex', opSub, ej']
    refine power42_ok (hb t ht) (by omega) ?_
    simp_arith [sizeLine_eq, Nat.reduceLeDiff]
    exact lprod2_ok fq.fr (int_fq (Nat.le_refl _)).fr (fq.sm h0 d1 m1) ⟨Nat.lt_of_lt_of_le w (pw (by decide)), by show (1 : Int).natAbs < 2 ^ 1000; decide +kernel⟩ ⟨rfl, Gr.refl⟩
  · have ef : (ts.filter fun _ => true) = ts := List.filter_eq_self.mpr fun _ _ => rfl
    rw [ef] at hm
    have hm' : μ'[m]? = some (.lst ((ts.map fun t => mulP t.2 ((x - t.1) ^ j, 1)).map frD)) := by rw [List.map_map]; exact hm
    have M2 : M * 2 ^ 90 < 2 ^ 300 := Nat.lt_of_lt_of_le (Nat.mul_lt_mul_of_pos_right h2 (by decide)) (by rw [← Nat.pow_add]; exact pw (by decide))
    have M3 : M * 2 ^ 90 * 40 < 2 ^ 1000 := by
      have : M * 2 ^ 90 * 40 < 2 ^ 300 * 2 ^ 6 := Nat.lt_of_le_of_lt (Nat.mul_le_mul_left _ (by decide : 40 ≤ 2 ^ 6)) (Nat.mul_lt_mul_of_pos_right M2 (by decide))
      rw [← Nat.pow_add] at this
      exact Nat.lt_of_lt_of_le this (pw (by decide))
    refine total40_ok (D := D) (M := M * 2 ^ 90) hm' (fun p hp => ?_) h0 d1 (by rw [List.length_map]; omega) M3 fun p fp qp => ?_
    · obtain ⟨t, ht, rfl⟩ := List.mem_map.mp hp
      have := (d.fq t ht).mul (int_fq (Nat.le_of_lt (wb t ht)))
      rw [Nat.mul_one] at this
      exact this
    · have ll : (ts.map fun t => mulP t.2 ((x - t.1) ^ j, 1)).length ≤ 40 := by rw [List.length_map]; omega
      refine q p _ (fp.mono (Nat.mul_le_mul_left _ ll)) ?_ g
      have qs : qv p = (ts.map fun t => qv t.2 * (((x - t.1) ^ j : Int) : Rat)).sum := by
        rw [qp, List.map_map]
        congr 1
        refine List.map_congr_left fun t ht => ?_
        show qv (mulP t.2 ((x - t.1) ^ j, 1)) = _
        rw [qv_mul (d.fq t ht).fr.1 (show (0 : Int) < 1 by decide)]
        congr 1
        unfold qv
        show _ / ((1 : Int) : Rat) = _
        rw [Rat.div_def]
        have : ((1 : Int) : Rat)⁻¹ = 1 := by
          have := Rat.inv_mul_cancel (1 : Rat) (by decide)
          show (1 : Rat)⁻¹ = 1
          grind
        rw [this]
        grind
      rw [qs]
      by_cases ne : r.2 = []
      · have en := lot_nil d nz
        have et : ts = [] := by
          rw [ne] at en
          have : (kvD ts).isEmpty = ts.isEmpty := by unfold kvD; cases ts <;> rfl
          rw [this] at en
          simpa using en
        subst et
        unfold conv mo
        rw [ne]
        rfl
      · exact sw d nz ne fun k => (((x - k) ^ j : Int) : Rat)
end BS
set_option exponentiation.threshold 20000
namespace BS
open PySem PySem.Spec PyProof.Rows L2 DL
theorem made42_ok {μ : Sto} {n D M j : Nat} {a e x : Int} {r : Row} {Q : DL.D × Sto → Prop} (L : Lt μ n D M a e r) (hx : x.natAbs ≤ 1000) (ha : -900 ≤ a ∧ e ≤ 900 ∧ e - a ≤ 40) (h0 : 0 < D) (h1 : D < 2 ^ 60) (h2 : M < 2 ^ 150) (hj : j ≤ 8) (q : ∀ p μ', isFr p → qv p = conv r x j → Gr μ μ' → Q (frD p, μ')) : Wp (F_law_made [.loc n, .int x, .int (j : Nat)] μ) Q := by
  obtain ⟨ts, d, nz⟩ := L.ex
  refine def_wp rfl (lock_ret rfl d.at_ ?_)
  have dz := locked (kvs := kvD ts) d.at_
  have un : ∀ ν, Gr (μ.set n (.dfz (kvD ts))) ν → Gr μ (ν.set n (.dic (kvD ts))) := fun ν g => unlock_gr d.at_ g
  refine totk_ok (ρ := [some (.loc n), some (.int x), some (.int (j : Nat)), none]) (i := 3) (fx := fVar 1) (fj := fVar 2) d nz hx ha h0 h1 h2 hj rfl dz (fun k => rfl) (fun k => rfl) (fun k ν => rfl) (fun k ν => rfl) fun p μ' fp qp g => ?_
  exact ⟨g, q p _ fp.fr qp (un _ g)⟩
def choL : Nat → List Int
  | 0 => [1]
  | i + 1 => [1] ++ (List.range ((choL i).length - 1)).map (fun k => (choL i).getD k 0 + (choL i).getD (k + 1) 0) ++ [1]
theorem choL_s (i : Nat) : choL (i + 1) = [1] ++ (List.range ((choL i).length - 1)).map (fun k => (choL i).getD k 0 + (choL i).getD (k + 1) 0) ++ [1] := rfl
theorem choL_len : ∀ i, (choL i).length = i + 1
  | 0 => rfl
  | i + 1 => by
    rw [choL_s, List.length_append, List.length_append, List.length_map, List.length_range, choL_len i]
    simp
    omega
theorem ch_comb : ∀ j : Nat, j ≤ 8 → ∀ p : Nat, p ≤ j → (choL j).getD p 0 = PySem.W.mcComb (j : Nat) (p : Nat) := by decide +kernel
theorem choices_ok {μ : Sto} {j : Nat} {Q : DL.D × Sto → Prop} (hj : j ≤ 8) (q : ∀ m μ', μ'[m]? = some (.lst ((choL j).map D.int)) → μ.length ≤ m → Gr μ μ' → Q (.loc m, μ')) : Wp (F_law_choices [.int (j : Nat)] μ) Q := by
  refine def_wp rfl (sq_wp ?_)
  have h0 : (μ ++ [Ob.lst [.int 1]])[μ.length]? = some (.lst ((choL 0).map D.int)) := by simp [choL]
  have g0 : Gr μ (μ ++ [Ob.lst [.int 1]]) := Gr.app
  simp_arith [sizeLine_eq, Nat.reduceLeDiff]
  generalize hm0 : μ.length = m0 at h0
  generalize μ ++ [Ob.lst [D.int 1]] = μ1 at h0 g0 ⊢
  refine rest (sq_rest ?_)
  have hi : iRng1' (fCons (fVar 0) fNil) [some (.int (j : Nat)), some (.loc m0), none, none] μ1 = some (.rng 0 j, μ1) := rng1_of (r := j) rfl (by omega)
  refine forr_wp (fun i ρ' μ' => i ≤ j ∧ Gr μ μ' ∧ ∃ a c2, ρ' = [some (.int (j : Nat)), some (.loc a), c2, none] ∧ m0 ≤ a ∧ μ'[a]? = some (.lst ((choL i).map D.int))) hi ⟨Nat.zero_le _, g0, m0, none, rfl, Nat.le_refl _, h0⟩ ?_ ?_
  · rintro i ρ' μ' hi ⟨_, g, a, c2, rfl, la, ha⟩
    have cl := choL_len i
    refine gNm_bind ?_
    have hA : (μ' ++ [Ob.lst [.int 1]])[μ'.length]? = some (.lst [.int 1]) := by simp
    have gA : Gr μ' (μ' ++ [Ob.lst [.int 1]]) := Gr.app
    have ml : m0 ≤ μ'.length := by rw [← hm0]; exact g.lt
    simp_arith [sizeLine_eq, Nat.reduceLeDiff]
    generalize hT : μ'.length = T at hA
    generalize μ' ++ [Ob.lst [D.int 1]] = μ2 at hA gA ⊢
    have ha2 := gA.get ha
    have l2 := lst_loc ha2
    have hr2 : iRng1' (fCons (fBin opSub (fCB cLen (fCons (fVar 1) fNil)) (fC (.int 1))) fNil) [some (.int (j : Nat)), some (.loc a), some (.int (0 + (i : Nat))), none] μ2 = some (.rng 0 i, μ2) := by
      refine rng1_of ?_ (by omega)
      simp only [fCons, fCB, fC, fBin, fVar, fNil, List.getElem?_cons_zero, List.getElem?_cons_succ, Option.bind_some, cLen, l2, Option.map_some, List.length_map, opSub, id, cl]
      rw [show ((i + 1 : Nat) : Int) - 1 = ((i : Nat) : Int) by omega]
    refine fLc_rng (n := i) (e := fun k => .int ((choL i).getD k 0 + (choL i).getD (k + 1) 0)) hr2 (by omega) (fun k hk ν gν => ⟨_, rfl, ?_⟩) fun m ν hm lm gν => ?_
    · have l3 := lst_loc (gν.get ha2)
      have i0 : opIx (.loc a) (.int (k : Nat)) ν = some (.int ((choL i).getD k 0), ν) := by
        simp only [opIx, l3, Option.bind_some, atI_at, intg (show k < (choL i).length by omega), Option.map_some]
      have i1 : opIx (.loc a) (.int (((k : Nat) : Int) + 1)) ν = some (.int ((choL i).getD (k + 1) 0), ν) := by
        rw [show ((k : Nat) : Int) + 1 = ((k + 1 : Nat) : Int) by omega]
        simp only [opIx, l3, Option.bind_some, atI_at, intg (show k + 1 < (choL i).length by omega), Option.map_some]
      simp_arith [wipeD, i0, addX_int, i1]
      exact Gr.refl
    · have hA3 := gν.get hA
      simp_arith [addX_lst hA3 hm (by simp; omega)]
      have h5 : (ν ++ [Ob.lst (D.int 1 :: (List.range i).map fun k => D.int ((choL i).getD k 0 + (choL i).getD (k + 1) 0))])[ν.length]? = some (.lst (D.int 1 :: (List.range i).map fun k => D.int ((choL i).getD k 0 + (choL i).getD (k + 1) 0))) := by simp
      have g5 : Gr ν (ν ++ [Ob.lst (D.int 1 :: (List.range i).map fun k => D.int ((choL i).getD k 0 + (choL i).getD (k + 1) 0))]) := Gr.app
      have n5 := gν.lt
      have n4 := gA.lt
      have n3 : m0 ≤ ν.length := by omega
      generalize hT5 : ν.length = T5 at h5 n3
      generalize ν ++ [Ob.lst (D.int 1 :: (List.range i).map fun k => D.int ((choL i).getD k 0 + (choL i).getD (k + 1) 0))] = μ5 at h5 g5 ⊢
      have h6 : (μ5 ++ [Ob.lst [.int 1]])[μ5.length]? = some (.lst [.int 1]) := by simp
      have g6 : Gr μ5 (μ5 ++ [Ob.lst [.int 1]]) := Gr.app
      have h56 := g6.get h5
      generalize hT6 : μ5.length = T6 at h6
      have n6 : m0 ≤ T6 := by
        have := g5.lt
        omega
      have n7 := g6.lt
      generalize μ5 ++ [Ob.lst [D.int 1]] = μ6 at h6 g6 h56 n7 ⊢
      simp_arith [addX_lst h56 h6 (by simp; omega)]
      refine ⟨_, _, rfl, hi, g.trans (gA.trans (gν.trans (g5.trans (g6.trans Gr.app)))), μ6.length, _, rfl, by omega, ?_⟩
      have e : (choL (i + 1)).map D.int = [D.int 1] ++ ((List.range i).map fun k => D.int ((choL i).getD k 0 + (choL i).getD (k + 1) 0)) ++ [D.int 1] := by
        rw [choL_s, cl, List.map_append, List.map_append, List.map_map]
        rfl
      rw [e]
      simp
  · rintro ρ' μ' ⟨_, g, a, c2, rfl, la, ha⟩
    refine rest (ret_wp ?_)
    simp_arith []
    exact q a μ' ha (by omega) g
end BS
set_option exponentiation.threshold 20000
namespace BS
open PySem PySem.Spec PyProof.Rows L2 DL
theorem cv_0_0 : PySem.W.mcComb ((0 : Nat) : Int) ((0 : Nat) : Int) = 1 := by decide +kernel
theorem cv_1_0 : PySem.W.mcComb ((1 : Nat) : Int) ((0 : Nat) : Int) = 1 := by decide +kernel
theorem cv_1_1 : PySem.W.mcComb ((1 : Nat) : Int) ((1 : Nat) : Int) = 1 := by decide +kernel
theorem cv_2_0 : PySem.W.mcComb ((2 : Nat) : Int) ((0 : Nat) : Int) = 1 := by decide +kernel
theorem cv_2_1 : PySem.W.mcComb ((2 : Nat) : Int) ((1 : Nat) : Int) = 2 := by decide +kernel
theorem cv_2_2 : PySem.W.mcComb ((2 : Nat) : Int) ((2 : Nat) : Int) = 1 := by decide +kernel
theorem cv_3_0 : PySem.W.mcComb ((3 : Nat) : Int) ((0 : Nat) : Int) = 1 := by decide +kernel
theorem cv_3_1 : PySem.W.mcComb ((3 : Nat) : Int) ((1 : Nat) : Int) = 3 := by decide +kernel
theorem cv_3_2 : PySem.W.mcComb ((3 : Nat) : Int) ((2 : Nat) : Int) = 3 := by decide +kernel
theorem cv_3_3 : PySem.W.mcComb ((3 : Nat) : Int) ((3 : Nat) : Int) = 1 := by decide +kernel
theorem cv_4_0 : PySem.W.mcComb ((4 : Nat) : Int) ((0 : Nat) : Int) = 1 := by decide +kernel
theorem cv_4_1 : PySem.W.mcComb ((4 : Nat) : Int) ((1 : Nat) : Int) = 4 := by decide +kernel
theorem cv_4_2 : PySem.W.mcComb ((4 : Nat) : Int) ((2 : Nat) : Int) = 6 := by decide +kernel
theorem cv_4_3 : PySem.W.mcComb ((4 : Nat) : Int) ((3 : Nat) : Int) = 4 := by decide +kernel
theorem cv_4_4 : PySem.W.mcComb ((4 : Nat) : Int) ((4 : Nat) : Int) = 1 := by decide +kernel
theorem cv_5_0 : PySem.W.mcComb ((5 : Nat) : Int) ((0 : Nat) : Int) = 1 := by decide +kernel
theorem cv_5_1 : PySem.W.mcComb ((5 : Nat) : Int) ((1 : Nat) : Int) = 5 := by decide +kernel
theorem cv_5_2 : PySem.W.mcComb ((5 : Nat) : Int) ((2 : Nat) : Int) = 10 := by decide +kernel
theorem cv_5_3 : PySem.W.mcComb ((5 : Nat) : Int) ((3 : Nat) : Int) = 10 := by decide +kernel
theorem cv_5_4 : PySem.W.mcComb ((5 : Nat) : Int) ((4 : Nat) : Int) = 5 := by decide +kernel
theorem cv_5_5 : PySem.W.mcComb ((5 : Nat) : Int) ((5 : Nat) : Int) = 1 := by decide +kernel
theorem cv_6_0 : PySem.W.mcComb ((6 : Nat) : Int) ((0 : Nat) : Int) = 1 := by decide +kernel
theorem cv_6_1 : PySem.W.mcComb ((6 : Nat) : Int) ((1 : Nat) : Int) = 6 := by decide +kernel
theorem cv_6_2 : PySem.W.mcComb ((6 : Nat) : Int) ((2 : Nat) : Int) = 15 := by decide +kernel
theorem cv_6_3 : PySem.W.mcComb ((6 : Nat) : Int) ((3 : Nat) : Int) = 20 := by decide +kernel
theorem cv_6_4 : PySem.W.mcComb ((6 : Nat) : Int) ((4 : Nat) : Int) = 15 := by decide +kernel
theorem cv_6_5 : PySem.W.mcComb ((6 : Nat) : Int) ((5 : Nat) : Int) = 6 := by decide +kernel
theorem cv_6_6 : PySem.W.mcComb ((6 : Nat) : Int) ((6 : Nat) : Int) = 1 := by decide +kernel
theorem cv_7_0 : PySem.W.mcComb ((7 : Nat) : Int) ((0 : Nat) : Int) = 1 := by decide +kernel
theorem cv_7_1 : PySem.W.mcComb ((7 : Nat) : Int) ((1 : Nat) : Int) = 7 := by decide +kernel
theorem cv_7_2 : PySem.W.mcComb ((7 : Nat) : Int) ((2 : Nat) : Int) = 21 := by decide +kernel
theorem cv_7_3 : PySem.W.mcComb ((7 : Nat) : Int) ((3 : Nat) : Int) = 35 := by decide +kernel
theorem cv_7_4 : PySem.W.mcComb ((7 : Nat) : Int) ((4 : Nat) : Int) = 35 := by decide +kernel
theorem cv_7_5 : PySem.W.mcComb ((7 : Nat) : Int) ((5 : Nat) : Int) = 21 := by decide +kernel
theorem cv_7_6 : PySem.W.mcComb ((7 : Nat) : Int) ((6 : Nat) : Int) = 7 := by decide +kernel
theorem cv_7_7 : PySem.W.mcComb ((7 : Nat) : Int) ((7 : Nat) : Int) = 1 := by decide +kernel
theorem cv_8_0 : PySem.W.mcComb ((8 : Nat) : Int) ((0 : Nat) : Int) = 1 := by decide +kernel
theorem cv_8_1 : PySem.W.mcComb ((8 : Nat) : Int) ((1 : Nat) : Int) = 8 := by decide +kernel
theorem cv_8_2 : PySem.W.mcComb ((8 : Nat) : Int) ((2 : Nat) : Int) = 28 := by decide +kernel
theorem cv_8_3 : PySem.W.mcComb ((8 : Nat) : Int) ((3 : Nat) : Int) = 56 := by decide +kernel
theorem cv_8_4 : PySem.W.mcComb ((8 : Nat) : Int) ((4 : Nat) : Int) = 70 := by decide +kernel
theorem cv_8_5 : PySem.W.mcComb ((8 : Nat) : Int) ((5 : Nat) : Int) = 56 := by decide +kernel
theorem cv_8_6 : PySem.W.mcComb ((8 : Nat) : Int) ((6 : Nat) : Int) = 28 := by decide +kernel
theorem cv_8_7 : PySem.W.mcComb ((8 : Nat) : Int) ((7 : Nat) : Int) = 8 := by decide +kernel
theorem cv_8_8 : PySem.W.mcComb ((8 : Nat) : Int) ((8 : Nat) : Int) = 1 := by decide +kernel
theorem bin_0 (x y : Rat) : sm (fun p => ((PySem.W.mcComb ((0 : Nat) : Int) ((p : Nat) : Int) : Int) : Rat) * x ^ (0 - p) * y ^ p) (0 + 1) = (x + y) ^ 0 := by
  simp only [sm, cv_0_0, Nat.reduceSub, Nat.reduceAdd, Nat.sub_zero, Nat.sub_self]
  have e : ∀ n : Nat, ((((n : Nat) : Int)) : Rat) = ((n : Nat) : Rat) := fun n => rfl
  grind
theorem bin_1 (x y : Rat) : sm (fun p => ((PySem.W.mcComb ((1 : Nat) : Int) ((p : Nat) : Int) : Int) : Rat) * x ^ (1 - p) * y ^ p) (1 + 1) = (x + y) ^ 1 := by
  simp only [sm, cv_1_0, cv_1_1, Nat.reduceSub, Nat.reduceAdd, Nat.sub_zero, Nat.sub_self]
  have e : ∀ n : Nat, ((((n : Nat) : Int)) : Rat) = ((n : Nat) : Rat) := fun n => rfl
  grind
theorem bin_2 (x y : Rat) : sm (fun p => ((PySem.W.mcComb ((2 : Nat) : Int) ((p : Nat) : Int) : Int) : Rat) * x ^ (2 - p) * y ^ p) (2 + 1) = (x + y) ^ 2 := by
  simp only [sm, cv_2_0, cv_2_1, cv_2_2, Nat.reduceSub, Nat.reduceAdd, Nat.sub_zero, Nat.sub_self]
  have e : ∀ n : Nat, ((((n : Nat) : Int)) : Rat) = ((n : Nat) : Rat) := fun n => rfl
  grind
theorem bin_3 (x y : Rat) : sm (fun p => ((PySem.W.mcComb ((3 : Nat) : Int) ((p : Nat) : Int) : Int) : Rat) * x ^ (3 - p) * y ^ p) (3 + 1) = (x + y) ^ 3 := by
  simp only [sm, cv_3_0, cv_3_1, cv_3_2, cv_3_3, Nat.reduceSub, Nat.reduceAdd, Nat.sub_zero, Nat.sub_self]
  have e : ∀ n : Nat, ((((n : Nat) : Int)) : Rat) = ((n : Nat) : Rat) := fun n => rfl
  grind
theorem bin_4 (x y : Rat) : sm (fun p => ((PySem.W.mcComb ((4 : Nat) : Int) ((p : Nat) : Int) : Int) : Rat) * x ^ (4 - p) * y ^ p) (4 + 1) = (x + y) ^ 4 := by
  simp only [sm, cv_4_0, cv_4_1, cv_4_2, cv_4_3, cv_4_4, Nat.reduceSub, Nat.reduceAdd, Nat.sub_zero, Nat.sub_self]
  have e : ∀ n : Nat, ((((n : Nat) : Int)) : Rat) = ((n : Nat) : Rat) := fun n => rfl
  grind
theorem bin_5 (x y : Rat) : sm (fun p => ((PySem.W.mcComb ((5 : Nat) : Int) ((p : Nat) : Int) : Int) : Rat) * x ^ (5 - p) * y ^ p) (5 + 1) = (x + y) ^ 5 := by
  simp only [sm, cv_5_0, cv_5_1, cv_5_2, cv_5_3, cv_5_4, cv_5_5, Nat.reduceSub, Nat.reduceAdd, Nat.sub_zero, Nat.sub_self]
  have e : ∀ n : Nat, ((((n : Nat) : Int)) : Rat) = ((n : Nat) : Rat) := fun n => rfl
  grind
theorem bin_6 (x y : Rat) : sm (fun p => ((PySem.W.mcComb ((6 : Nat) : Int) ((p : Nat) : Int) : Int) : Rat) * x ^ (6 - p) * y ^ p) (6 + 1) = (x + y) ^ 6 := by
  simp only [sm, cv_6_0, cv_6_1, cv_6_2, cv_6_3, cv_6_4, cv_6_5, cv_6_6, Nat.reduceSub, Nat.reduceAdd, Nat.sub_zero, Nat.sub_self]
  have e : ∀ n : Nat, ((((n : Nat) : Int)) : Rat) = ((n : Nat) : Rat) := fun n => rfl
  grind
theorem bin_7 (x y : Rat) : sm (fun p => ((PySem.W.mcComb ((7 : Nat) : Int) ((p : Nat) : Int) : Int) : Rat) * x ^ (7 - p) * y ^ p) (7 + 1) = (x + y) ^ 7 := by
  simp only [sm, cv_7_0, cv_7_1, cv_7_2, cv_7_3, cv_7_4, cv_7_5, cv_7_6, cv_7_7, Nat.reduceSub, Nat.reduceAdd, Nat.sub_zero, Nat.sub_self]
  have e : ∀ n : Nat, ((((n : Nat) : Int)) : Rat) = ((n : Nat) : Rat) := fun n => rfl
  grind
theorem bin_8 (x y : Rat) : sm (fun p => ((PySem.W.mcComb ((8 : Nat) : Int) ((p : Nat) : Int) : Int) : Rat) * x ^ (8 - p) * y ^ p) (8 + 1) = (x + y) ^ 8 := by
  simp only [sm, cv_8_0, cv_8_1, cv_8_2, cv_8_3, cv_8_4, cv_8_5, cv_8_6, cv_8_7, cv_8_8, Nat.reduceSub, Nat.reduceAdd, Nat.sub_zero, Nat.sub_self]
  have e : ∀ n : Nat, ((((n : Nat) : Int)) : Rat) = ((n : Nat) : Rat) := fun n => rfl
  grind
end BS
set_option exponentiation.threshold 20000
namespace BS
open PySem PySem.Spec PyProof.Rows L2 DL
theorem binom8 (j : Nat) (hj : j ≤ 8) (x y : Rat) : sm (fun p => ((PySem.W.mcComb ((j : Nat) : Int) ((p : Nat) : Int) : Int) : Rat) * x ^ (j - p) * y ^ p) (j + 1) = (x + y) ^ j := by
  have : j = 0 ∨ j = 1 ∨ j = 2 ∨ j = 3 ∨ j = 4 ∨ j = 5 ∨ j = 6 ∨ j = 7 ∨ j = 8 := by omega
  rcases this with h | h | h | h | h | h | h | h | h <;> subst h
  · exact bin_0 x y
  · exact bin_1 x y
  · exact bin_2 x y
  · exact bin_3 x y
  · exact bin_4 x y
  · exact bin_5 x y
  · exact bin_6 x y
  · exact bin_7 x y
  · exact bin_8 x y
theorem smS (c : Rat) (f : Nat → Rat) : ∀ n, sm (fun i => c * f i) n = c * sm f n
  | 0 => by show (0 : Rat) = c * 0; grind
  | n + 1 => by rw [sm_succ, sm_succ, smS c f n]; grind
theorem smA (f g : Nat → Rat) : ∀ n, sm (fun i => f i + g i) n = sm f n + sm g n
  | 0 => by show (0 : Rat) = 0 + 0; grind
  | n + 1 => by rw [sm_succ, sm_succ, sm_succ, smA f g n]; grind
theorem smX (f : Nat → Nat → Rat) (m : Nat) : ∀ n, sm (fun p => sm (fun i => f p i) m) n = sm (fun i => sm (fun p => f p i) n) m
  | 0 => by
    show (0 : Rat) = sm (fun i => (0 : Rat)) m
    exact (sm_zero m fun _ _ => rfl).symm
  | n + 1 => by
    rw [sm_succ, smX f m n, ← smA]
    rfl
theorem castpow (k : Int) : ∀ t : Nat, ((k ^ t : Int) : Rat) = (k : Rat) ^ t
  | 0 => by rw [Int.pow_zero, Rat.pow_zero]; rfl
  | t + 1 => by rw [Int.pow_succ, Rat.intCast_mul, castpow k t, Rat.pow_succ]
theorem conv_binom (r : Row) (j : Nat) (hj : j ≤ 8) (n : Int) : sm (fun p => (((PySem.W.mcComb ((j : Nat) : Int) ((p : Nat) : Int) : Int) : Rat) * conv r 0 (j - p)) * (n : Rat) ^ p) (j + 1) = conv r n j := by
  have key : ∀ i : Nat, sm (fun p => ((PySem.W.mcComb ((j : Nat) : Int) ((p : Nat) : Int) : Int) : Rat) * (n : Rat) ^ p * (cf r (r.1 + (i : Nat)) * (((0 - (r.1 + (i : Nat))) ^ (j - p) : Int) : Rat))) (j + 1) = cf r (r.1 + (i : Nat)) * (((n - (r.1 + (i : Nat))) ^ j : Int) : Rat) := fun i => by
    have b := binom8 j hj (((0 - (r.1 + (i : Nat)) : Int)) : Rat) (n : Rat)
    have e : ((((0 - (r.1 + (i : Nat)) : Int)) : Rat) + (n : Rat)) = (((n - (r.1 + (i : Nat)) : Int)) : Rat) := by
      rw [← Rat.intCast_add]
      congr 1
      omega
    rw [e] at b
    rw [castpow, ← b, ← smS]
    refine sm_congr _ fun p _ => ?_
    rw [castpow]
    grind
  have e1 : (fun p => (((PySem.W.mcComb ((j : Nat) : Int) ((p : Nat) : Int) : Int) : Rat) * conv r 0 (j - p)) * (n : Rat) ^ p) = fun p => sm (fun i => ((PySem.W.mcComb ((j : Nat) : Int) ((p : Nat) : Int) : Int) : Rat) * (n : Rat) ^ p * (cf r (r.1 + (i : Nat)) * (((0 - (r.1 + (i : Nat))) ^ (j - p) : Int) : Rat))) r.2.length := by
    funext p
    rw [smS]
    show _ * sm (fun i => cf r (r.1 + (i : Nat)) * (((0 - (r.1 + (i : Nat))) ^ (j - p) : Int) : Rat)) r.2.length * _ = _
    grind
  rw [e1, smX]
  show _ = sm (fun i => cf r (r.1 + (i : Nat)) * (((n - (r.1 + (i : Nat))) ^ j : Int) : Rat)) r.2.length
  exact sm_congr _ fun i _ => key i
/-- all numbers told of a power have one bottom -/
def CofB (r : Row) (j D N : Nat) : Prop := ∀ p, p ≤ j → FinQ D N ((cofF r j).getD p (0, 1)) ∧ qv ((cofF r j).getD p (0, 1)) = ((PySem.W.mcComb ((j : Nat) : Int) ((p : Nat) : Int) : Int) : Rat) * conv r 0 (j - p)
theorem worth_ok {μ : Sto} {r : Row} {j D N e : Nat} {n : Int} {Q : DL.D × Sto → Prop} (C : CofB r j D N) (T : TopF (cofF r j) e) (hj : j ≤ 8) (hn : n.natAbs ≤ 1000) (h0 : 0 < D) (h1 : D < 2 ^ 60) (h2 : N < 2 ^ 300) (q : ∀ p μ', isFr p → qv p = conv r n j → Gr μ μ' → Q (frD p, μ')) : Wp (F_law_worth [.tup (((cofF r j).take e).map frD), .int n] μ) Q := by
  have te := T.le
  rw [cofF_len] at te
  have d1 : D < 2 ^ 1000 := Nat.lt_of_lt_of_le h1 (pw (by decide))
  have wb : ∀ k, k ≤ 8 → (n ^ k).natAbs < 2 ^ 90 := fun k hk => Nat.lt_of_lt_of_le (pw11 (show n.natAbs < 2 ^ 11 by omega) k) (pw (by omega))
  have tl : ((cofF r j).take e).length = e := by rw [List.length_take, cofF_len]; omega
  have tg : ∀ k, k < e → ((cofF r j).take e).getD k (0, 1) = (cofF r j).getD k (0, 1) := fun k hk => by
    rw [List.getD_eq_getElem?_getD, List.getElem?_take_of_lt hk, List.getD_eq_getElem?_getD]
  generalize hG : (cofF r j).take e = G at tl tg ⊢
  refine def_wp rfl (ret_wp ?_)
  refine cb1 ?_
  have hr : iRng1' (fCons (fCB cLen (fCons (fVar 0) fNil)) fNil) [some (.tup (G.map frD)), some (.int n), none] μ = some (.rng 0 e, μ) := by
    refine rng1_of ?_ (by omega)
    simp only [fCons, fCB, fVar, fNil, List.getElem?_cons_zero, Option.bind_some, cLen, List.length_map, tl, id]
  refine fLc_rng (n := e) (e := fun k => frD (mulP ((cofF r j).getD k (0, 1)) (n ^ k, 1))) hr (by omega) (fun k hk ν gν => ⟨_, rfl, ?_⟩) fun m μ' hm lm g => ?_
  · have gx : opIx (.tup (G.map frD)) (.int (k : Nat)) ν = some (frD ((cofF r j).getD k (0, 1)), ν) := by
      simp only [opIx, atI_at, fr_get (show k < G.length by omega), Option.map_some, tg k hk]
    have fq := (C k (by omega)).1
    simp_arith [wipeD, gx]
    refine power42_ok (by omega) (by omega) ?_
    simp_arith [sizeLine_eq, Nat.reduceLeDiff]
    exact lprod2_ok fq.fr (int_fq (Nat.le_refl _)).fr (fq.sm h0 d1 (Nat.lt_of_lt_of_le h2 (pw (by decide)))) ⟨Nat.lt_of_lt_of_le (wb k (by omega)) (pw (by decide)), by show (1 : Int).natAbs < 2 ^ 1000; decide +kernel⟩ ⟨rfl, Gr.refl⟩
  · have hm' : μ'[m]? = some (.lst (((List.range e).map fun k => mulP ((cofF r j).getD k (0, 1)) (n ^ k, 1)).map frD)) := by rw [List.map_map]; exact hm
    have M3 : N * 2 ^ 90 * 40 < 2 ^ 1000 := by
      have : N * 2 ^ 90 * 40 < 2 ^ 300 * 2 ^ 90 * 2 ^ 6 := Nat.lt_of_le_of_lt (Nat.mul_le_mul_left _ (by decide : 40 ≤ 2 ^ 6)) (Nat.mul_lt_mul_of_pos_right (Nat.mul_lt_mul_of_pos_right h2 (by decide)) (by decide))
      rw [← Nat.pow_add, ← Nat.pow_add] at this
      exact Nat.lt_of_lt_of_le this (pw (by decide))
    refine total40_ok (D := D) (M := N * 2 ^ 90) hm' (fun p hp => ?_) h0 d1 (by rw [List.length_map, List.length_range]; omega) M3 fun p fp qp => q p _ fp.fr ?_ g
    · obtain ⟨k, hk, rfl⟩ := List.mem_map.mp hp
      have hk := List.mem_range.mp hk
      have := (C k (by omega)).1.mul (int_fq (Nat.le_of_lt (wb k (by omega))))
      rw [Nat.mul_one] at this
      exact this
    · have val : ∀ k, k ≤ j → qv (mulP ((cofF r j).getD k (0, 1)) (n ^ k, 1)) = (((PySem.W.mcComb ((j : Nat) : Int) ((k : Nat) : Int) : Int) : Rat) * conv r 0 (j - k)) * (n : Rat) ^ k := fun k hk => by
        obtain ⟨fk, vk⟩ := C k hk
        have e1 : qv (n ^ k, 1) = (n : Rat) ^ k := by
          rw [← castpow]
          generalize n ^ k = z
          unfold qv
          grind
        rw [qv_mul fk.fr.1 (show (0 : Int) < 1 by decide), vk, e1]
      have part : ∀ m : Nat, m ≤ j + 1 → (((List.range m).map fun k => mulP ((cofF r j).getD k (0, 1)) (n ^ k, 1)).map qv).sum = sm (fun k => (((PySem.W.mcComb ((j : Nat) : Int) ((k : Nat) : Int) : Int) : Rat) * conv r 0 (j - k)) * (n : Rat) ^ k) m := fun m => by
        induction m with
        | zero => intro _; rfl
        | succ m ih =>
          intro hm
          have e2 : (([mulP ((cofF r j).getD m (0, 1)) (n ^ m, 1)] : List (Int × Int)).map qv).sum = qv (mulP ((cofF r j).getD m (0, 1)) (n ^ m, 1)) := by
            rw [List.map_cons, List.map_nil, List.sum_cons, List.sum_nil, Rat.add_zero]
          rw [List.range_succ, List.map_append, List.map_append, List.sum_append, ih (by omega), sm_succ, List.map_cons, List.map_nil, e2, val m (by omega)]
      rw [qp, part e (by omega), ← conv_binom r j hj n]
      -- above e all is nought
      have more : ∀ d : Nat, e + d ≤ j + 1 → sm (fun k => (((PySem.W.mcComb ((j : Nat) : Int) ((k : Nat) : Int) : Int) : Rat) * conv r 0 (j - k)) * (n : Rat) ^ k) (e + d) = sm (fun k => (((PySem.W.mcComb ((j : Nat) : Int) ((k : Nat) : Int) : Int) : Rat) * conv r 0 (j - k)) * (n : Rat) ^ k) e := fun d => by
        induction d with
        | zero => intro _; rfl
        | succ d ih =>
          intro hd
          have z := T.hi (e + d) (by omega)
          obtain ⟨fk, vk⟩ := C (e + d) (by omega)
          have v0 : qv ((cofF r j).getD (e + d) (0, 1)) = 0 := (qv_zero fk.fr.1).mpr z
          rw [v0] at vk
          rw [show e + (d + 1) = (e + d) + 1 by omega, sm_succ, ih (by omega), ← vk]
          grind
      have := more (j + 1 - e) (by omega)
      rw [show e + (j + 1 - e) = j + 1 by omega] at this
      exact this.symm
end BS
set_option exponentiation.threshold 20000
namespace BS
open PySem PySem.Spec PyProof.Rows L2 DL
abbrev polW : SF := (fWhile fuelN (fAnd (fB (fBin opNe (fVar 2) (fLst fNil))) (fB (fBin opEqM (fBin opIx (fBin opIx (fVar 2) (fUn unNeg (fC (.int 1)))) (fC (.int 0))) (fC (.int 0))))) (fDrop (fPopL (fVar 2))))
theorem polW_ok {μ : Sto} {F : FrL} {T : Nat} {A0 A1 A3 A4 A5 A6 : Option DL.D} (hT : μ[T]? = some (.lst (F.map frD))) : Wp (polW [A0, A1, some (.loc T), A3, A4, A5, A6] μ) fun o => ∃ e ν, o = .nx [A0, A1, some (.loc T), A3, A4, A5, A6] ν ∧ TopF F e ∧ ν[T]? = some (.lst ((F.take e).map frD)) ∧ ∀ μ0 : Sto, μ0.length ≤ T → Gr μ0 μ → Gr μ0 ν := by
  have fu : F.length < fuelN [A0, A1, some (.loc T), A3, A4, A5, A6] μ := by
    have e : lstAt μ T = some (F.map frD) := lst_loc hT
    have e3 : lenS μ (some (.loc T)) = F.length := by simp only [lenS, e, Option.getD_some, List.length_map]
    show F.length < lenS μ A0 + (lenS μ A1 + (lenS μ (some (.loc T)) + (lenS μ A3 + (lenS μ A4 + (lenS μ A5 + (lenS μ A6 + 0)))))) + 1
    omega
  unfold polW fWhile
  refine (loopW_gen (fun k ρ ν => ρ = [A0, A1, some (.loc T), A3, A4, A5, A6] ∧ k ≤ F.length ∧ (∀ i, k ≤ i → (F.getD i (0, 1)).1 = 0) ∧ ν[T]? = some (.lst ((F.take k).map frD)) ∧ ∀ μ0 : Sto, μ0.length ≤ T → Gr μ0 μ → Gr μ0 ν) (fun ρ ν => ρ = [A0, A1, some (.loc T), A3, A4, A5, A6] ∧ ∃ e, TopF F e ∧ ν[T]? = some (.lst ((F.take e).map frD)) ∧ ∀ μ0 : Sto, μ0.length ≤ T → Gr μ0 μ → Gr μ0 ν) ?_ F.length _ _ μ ⟨rfl, Nat.le_refl _, fun i hi => by rw [List.getD_eq_getElem?_getD, List.getElem?_eq_none hi]; rfl, by rw [List.take_of_length_le (Nat.le_refl _)]; exact hT, fun μ0 _ g => g⟩ fu).mono ?_
  · rintro k _ ν ⟨rfl, hk, hz, hl, hg⟩
    have hn : (ν ++ [Ob.lst []])[ν.length]? = some (.lst []) := by simp
    have gA : Gr ν (ν ++ [Ob.lst []]) := Gr.app
    have hl2 := gA.get hl
    have nn := nilNe hl2 hn
    have hg2 : ∀ μ0 : Sto, μ0.length ≤ T → Gr μ0 μ → Gr μ0 (ν ++ [Ob.lst []]) := fun μ0 a b => (hg μ0 a b).trans gA
    simp_arith [sizeLine_eq, Nat.reduceLeDiff, nn]
    generalize ν ++ [Ob.lst []] = ξ at hl2 hg2 ⊢
    have tl : (F.take k).length = k := by rw [List.length_take]; omega
    refine ⟨fun h => ?_, fun h => ?_⟩
    · have k0 : k ≠ 0 := fun z => by
        subst z
        simp at h
      have ne : (F.take k).map frD ≠ [] := fun z => by
        have := congrArg List.length z
        rw [List.length_map, tl] at this
        exact k0 this
      have fk := fr_get (fs := F.take k) (k := k - 1) (by omega)
      have gk : (F.take k).getD (k - 1) (0, 1) = F.getD (k - 1) (0, 1) := by rw [List.getD_eq_getElem?_getD, List.getElem?_take_of_lt (by omega), List.getD_eq_getElem?_getD]
      rw [gk] at fk
      have ix : opIx (.loc T) (.int (-1)) ξ = some (frD (F.getD (k - 1) (0, 1)), ξ) := by
        simp only [opIx, lst_loc hl2, Option.bind_some, atI_last ne, List.length_map, tl, fk, Option.map_some]
      simp_arith [unNeg, ix, fr_ix0, eq_int]
      refine ⟨fun z => ?_, fun z => ?_⟩
      · refine ⟨k - 1, by omega, ?_⟩
        have gl : ((F.take k).map frD)[((F.take k).map frD).length - 1]? = some (frD (F.getD (k - 1) (0, 1))) := by rw [List.length_map, tl]; exact fk
        have pp : (fPopL (fVar 2)) [A0, A1, some (.loc T), A3, A4, A5, A6] ξ = some (frD (F.getD (k - 1) (0, 1)), ξ.set T (.lst (((F.take k).map frD).dropLast))) := by
          unfold fPopL
          simp only [fVar, List.getElem?_cons_succ, List.getElem?_cons_zero, Option.bind_some, hl2, gl, Option.map_some]
        refine Wp.of pp ⟨_, _, rfl, rfl, by omega, fun i hi => ?_, ?_, fun μ0 a b => (hg2 μ0 a b).set a⟩
        · by_cases e : i = k - 1
          · rw [e]; exact z
          · exact hz i (by omega)
        · rw [List.getElem?_set_self (List.getElem?_eq_some_iff.mp hl2).1, ← List.map_dropLast, List.dropLast_eq_take, tl, List.take_take, Nat.min_eq_left (by omega)]
      · exact ⟨k, ⟨hk, hz, fun _ => z⟩, hl2, hg2⟩
    · have k0 : k = 0 := by
        have : ((F.take k).map frD) = [] := by simpa using h
        have := congrArg List.length this
        rw [List.length_map, tl] at this
        exact this
      exact ⟨k, ⟨hk, hz, fun z => absurd k0 z⟩, hl2, hg2⟩
  · rintro _ ⟨ρ', ν, rfl, rfl, e, t, hl, hg⟩
    exact ⟨e, ν, rfl, t, hl, hg⟩
theorem nEnL_of {f : AF} {ρ : Sl} {μ μ' : Sto} {m : Nat} {ds : List DL.D} (e : f ρ μ = some ([.loc m], μ')) (l : μ'[m]? = some (.lst ds)) : nEnL f ρ μ = some (.enuL m, μ') := by
  unfold nEnL
  rw [e]
  simp only [Option.bind_some, lst_loc l, Option.isSome_some, if_true]
theorem fcons1 {f : EF} {ρ : Sl} {μ μ' : Sto} {d : DL.D} (e : f ρ μ = some (d, μ')) : fCons f fNil ρ μ = some ([d], μ') := by
  simp only [fCons, fNil, e, Option.bind_some]
theorem fcb1 {F : GN} {f : EF} {ρ : Sl} {μ μ1 : Sto} {d : DL.D} (e : f ρ μ = some (d, μ1)) : fCB F (fCons f fNil) ρ μ = F [d] μ1 := by
  simp only [fCB, fCons, fNil, e, Option.bind_some]
theorem rp_all42 (v : Rat) : isFr (rp v) ∧ qv (rp v) = v := by
  have f : isFr (v.num, (v.den : Int)) := ⟨by show (0 : Int) < (v.den : Int); have := v.den_pos; omega, by show Nat.gcd v.num.natAbs ((v.den : Int)).natAbs = 1; rw [Int.natAbs_natCast]; exact v.reduced⟩
  have e : qv (v.num, (v.den : Int)) = v := by
    show (v.num : Rat) / ((v.den : Int) : Rat) = v
    rw [← Rat.divInt_eq_div, Rat.num_divInt_den]
  rw [rp_of f e]
  exact ⟨f, e⟩
theorem polyn_ok {μ : Sto} {n D M j : Nat} {a e : Int} {r : Row} {Q : DL.D × Sto → Prop} (L : Lt μ n D M a e r) (ha : -900 ≤ a ∧ e ≤ 900 ∧ e - a ≤ 40) (h0 : 0 < D) (h1 : D < 2 ^ 60) (h2 : M < 2 ^ 150) (hj : j ≤ 8) (q : ∀ e μ', TopF (cofF r j) e → CofB r j D (M * 2 ^ 90 * 40 * 256) → Gr μ μ' → Q (.tup (((cofF r j).take e).map frD), μ')) : Wp (F_law_polynomial [.loc n, .int (j : Nat)] μ) Q := by
  have d1 : D < 2 ^ 1000 := Nat.lt_of_lt_of_le h1 (pw (by decide))
  have M3 : M * 2 ^ 90 * 40 < 2 ^ 1000 := by
    have : M * 2 ^ 90 * 40 < 2 ^ 150 * 2 ^ 90 * 2 ^ 6 := Nat.lt_of_le_of_lt (Nat.mul_le_mul_left _ (by decide : 40 ≤ 2 ^ 6)) (Nat.mul_lt_mul_of_pos_right (Nat.mul_lt_mul_of_pos_right h2 (by decide)) (by decide))
    rw [← Nat.pow_add, ← Nat.pow_add] at this
    exact Nat.lt_of_lt_of_le this (pw (by decide))
  have hO : (μ ++ [Ob.lst []])[μ.length]? = some (.lst []) := by simp
  have gO : Gr μ (μ ++ [Ob.lst []]) := Gr.app
  refine def_wp rfl (sq_wp ?_)
  simp_arith [sizeLine_eq, Nat.reduceLeDiff]
  generalize hT : μ.length = T at hO
  generalize μ ++ [Ob.lst []] = μ1 at hO gO ⊢
  refine rest (sq_rest ?_)
  obtain ⟨⟨dm, μ2⟩, ec, m, rfl, hm, mT, g2⟩ : Wp (F_law_choices [.int (j : Nat)] μ1) fun p => ∃ m, p.1 = .loc m ∧ p.2[m]? = some (.lst ((choL j).map DL.D.int)) ∧ μ1.length ≤ m ∧ Gr μ1 p.2 := choices_ok hj fun m μ' hm lm g => ⟨m, rfl, hm, lm, g⟩
  dsimp only at hm g2
  have T1 := (List.getElem?_eq_some_iff.mp hO).1
  have cl := choL_len j
  have lm := lst_loc hm
  have hit : nEnL (fCons (fCB F_law_choices (fCons (fVar 1) fNil)) fNil) [some (.loc n), some (.int (j : Nat)), some (.loc T), none, none, none, none] μ1 = some (.enuL m, μ2) := by
    exact nEnL_of (fcons1 ((fcb1 (F := F_law_choices) (f := fVar 1) (d := .int (j : Nat)) (μ1 := μ1) rfl).trans ec)) hm
  have il : itLenN (.enuL m) μ2 = j + 1 := by simp only [itLenN, lm]; simp [cl]
  have g02 := gO.trans g2
  unfold fForN
  rw [hit, Option.bind_some]
  simp only [il]
  refine (loop_genN (n := j + 1) (x := fun p => .tup [.int (p : Nat), .int ((choL j).getD p 0)]) (I := fun i ρ ν => i ≤ j + 1 ∧ Gr μ ν ∧ ν[m]? = some (.lst ((choL j).map DL.D.int)) ∧ (∀ p, p < i → FinQ D (M * 2 ^ 90 * 40 * 256) ((cofF r j).getD p (0, 1)) ∧ qv ((cofF r j).getD p (0, 1)) = ((PySem.W.mcComb ((j : Nat) : Int) ((p : Nat) : Int) : Int) : Rat) * conv r 0 (j - p)) ∧ ∃ c3 c4 c5, ρ = [some (.loc n), some (.int (j : Nat)), some (.loc T), c3, c4, c5, none] ∧ ν[T]? = some (.lst ((List.range i).map fun p => frD ((cofF r j).getD p (0, 1))))) ?_ ?_ (j + 1) 0 _ _ rfl ⟨Nat.zero_le _, g02, hm, fun p hp => absurd hp (Nat.not_lt_zero p), none, none, none, rfl, g2.get hO⟩).mono ?_
  · rintro i ρ ν ⟨_, _, g, _⟩
    have := enu_at (i := i) g Gr.refl
    rw [cl] at this
    exact this
  · rintro i ρ ν hi ⟨_, g, gm, hF, c3, c4, c5, rfl, hA⟩
    have L' := L.gr g
    obtain ⟨ts, d, nz⟩ := L'.ex
    have dz := locked (kvs := kvD ts) d.at_
    have un : ∀ ξ, Gr (ν.set n (.dfz (kvD ts))) ξ → Gr ν (ξ.set n (.dic (kvD ts))) := fun ξ g => unlock_gr d.at_ g
    show Wp (((gTp 2 (gCn (gNm 3) (gCn (gNm 4) gNl))) (.tup [.int (i : Nat), .int ((choL j).getD i 0)]) [some (.loc n), some (.int (j : Nat)), some (.loc T), c3, c4, c5, none] ν).bind _) _
    have hb : (gTp 2 (gCn (gNm 3) (gCn (gNm 4) gNl))) (.tup [.int (i : Nat), .int ((choL j).getD i 0)]) [some (.loc n), some (.int (j : Nat)), some (.loc T), c3, c4, c5, none] ν = some ([some (.loc n), some (.int (j : Nat)), some (.loc T), some (.int (i : Nat)), some (.int ((choL j).getD i 0)), c5, none], ν) := rfl
    rw [hb, Option.bind_some]
    have ei : ((j : Nat) : Int) - ((i : Nat) : Int) = ((j - i : Nat) : Int) := by omega
    refine sq_wp (lock_st rfl d.at_ (asg_wp ?_))
    refine totk_ok (ρ := [some (.loc n), some (.int (j : Nat)), some (.loc T), some (.int (i : Nat)), some (.int ((choL j).getD i 0)), c5, none]) (i := 6) (fx := fC (.int 0)) (fj := fBin opSub (fVar 1) (fVar 3)) (x := 0) (j := j - i) d nz (by decide) ha h0 h1 h2 (by omega) rfl dz (fun k => rfl) (fun k => rfl) (fun k ξ => rfl) (fun k ξ => by
      simp only [wipeD, List.foldl, fBin, fVar, List.set_cons_succ, List.set_cons_zero, List.getElem?_cons_succ, List.getElem?_cons_zero, Option.bind_some, opSub, ei]) fun p ξ fp qp gξ => ?_
    refine Wp.of rfl ⟨_, _, rfl, gξ.get dz, ?_⟩
    have gu := un ξ gξ
    generalize ξ.set n (.dic (kvD ts)) = ζ at gu ⊢
    have hA3 := gu.get hA
    have kd : kindD ζ (.loc T) = some "list" := by simp only [kindD, hA3]
    have cb : (choL j).getD i 0 = PySem.W.mcComb ((j : Nat) : Int) ((i : Nat) : Int) := ch_comb j hj i (by omega)
    have c8 := comb8 j hj i (by omega)
    have fc : FinQ 1 256 ((choL j).getD i 0, 1) := int_fq (by rw [cb]; omega)
    have fm := fp.mul fc
    rw [Nat.mul_one] at fm
    have em : mulP p ((choL j).getD i 0, 1) = (cofF r j).getD i (0, 1) := by
      rw [cofF_get r (show i ≤ j by omega)]
      refine (rp_of fm.fr ?_).symm
      rw [qv_mul fp.fr.1 (show (0 : Int) < 1 by decide), qp, cb]
      have : ∀ z : Int, qv (z, 1) = (z : Rat) := fun z => by unfold qv; grind
      rw [this]
      grind
    have vm : qv ((cofF r j).getD i (0, 1)) = ((PySem.W.mcComb ((j : Nat) : Int) ((i : Nat) : Int) : Int) : Rat) * conv r 0 (j - i) := by
      rw [cofF_get r (show i ≤ j by omega)]
      exact (rp_all42 _).2
    rw [em] at fm
    refine rest ?_
    simp_arith []
    refine need kd ?_
    simp_arith [sizeLine_eq, Nat.reduceLeDiff]
    refine lprod2_ok fp.fr fc.fr (fp.sm h0 d1 M3) (fc.sm (by decide) (by decide +kernel) (by decide +kernel)) ?_
    rw [em]
    have ap : ∀ d, mAppend (.loc T) [d] ζ = some (.non, ζ.set T (.lst (((List.range i).map fun p => frD ((cofF r j).getD p (0, 1))) ++ [d]))) := fun d => by
      unfold mAppend
      simp only [hA3]
      rw [if_pos (by rw [sizeLine_eq, List.length_map, List.length_range]; omega)]
    simp_arith [ap]
    refine ⟨_, _, rfl, by omega, (g.trans gu).set (by omega), ?_, fun p hp => ?_, _, _, _, rfl, ?_⟩
    · rw [List.getElem?_set_ne (by omega)]
      exact gu.get gm
    · by_cases e : p = i
      · rw [e]; exact ⟨fm, vm⟩
      · exact hF p (by omega)
    · rw [List.getElem?_set_self (List.getElem?_eq_some_iff.mp hA3).1, List.range_succ, List.map_append]
      rfl
  · rintro _ ⟨ρ', ν, rfl, _, g, gm, hF, c3, c4, c5, rfl, hA⟩
    have eA : ((List.range (j + 1)).map fun p => frD ((cofF r j).getD p (0, 1))) = (cofF r j).map frD := by
      have := range_getD (0, 1) (cofF r j) frD
      rw [cofF_len, List.filter_eq_self.mpr (by simp)] at this
      exact this
    rw [eA] at hA
    refine rest (sq_rest ((polW_ok hA).mono ?_))
    rintro _ ⟨e, ξ, rfl, t, hE, hg⟩
    have gx := hg μ (by omega) g
    refine rest (ret_wp ?_)
    have ct : cTuple [.loc T] ξ = some (.tup (((cofF r j).take e).map frD), ξ) := by
      unfold cTuple
      simp only [lst_loc hE, Option.map_some]
    simp_arith [ct]
    exact q e ξ t (fun p hp => hF p (by omega)) gx
end BS
set_option exponentiation.threshold 20000
namespace BS
open PySem PySem.Spec PyProof.Rows L2 DL
abbrev turn28 : SF := (fSeq (fAsg (fCB F_law_polynomial (fCons (fVar 1) (fCons (fVar 3) fNil))) (gNm 6))
    (fSeq (fAsg (fCB F_on_power (fCons (fVar 4) (fCons (fVar 3) fNil))) (gNm 7))
    (fSeq (fIfS (fB (fBin opNe (fCB cReprN (fCons (fLst (fCons (fVar 7) (fCons (fCB F_on_power (fCons (fVar 4) (fCons (fVar 3) fNil))) fNil))) fNil)) (fCB cReprN (fCons (fLst (fCons (fVar 6) (fCons (fVar 6) fNil))) fNil)))) (fRet (fC (.bl false))) fSkip)
    (fIfS (fB (fBin opNe (fLc (iVal (fTup (fCons (fC (.int 0)) (fCons (fC (.int 1)) (fCons (fUn unNeg (fC (.int 1))) (fCons (fC (.int 2)) (fCons (fVar 5) fNil))))))) (gNm 8) (fB (fBin opNe (fCB F_law_worth (fCons (fVar 7) (fCons (fVar 8) fNil))) (fCB F_law_made (fCons (fVar 1) (fCons (fVar 8) (fCons (fVar 3) fNil)))))) (fVar 8) [8]) (fLst fNil))) (fRet (fC (.bl false))) fSkip))))
theorem turn28_ok {μ : Sto} {n f j : Nat} {a e far : Int} {r : Row} {A2 A6 A7 A8 : Option DL.D} (h1 : μ[1]? = some (.tab "is_row")) (L : LB μ f 7 90 a e r) (ha : -900 ≤ a ∧ e ≤ 900 ∧ e - a ≤ 40) (hf : far.natAbs ≤ 1000) (hj : j ≤ 8) : Wp (turn28 [some (.loc n), some (.loc f), A2, some (.int (j : Nat)), some (rowD r), some (.int far), A6, A7, A8] μ) fun o => ∃ A6 A7 ν, o = .nx [some (.loc n), some (.loc f), A2, some (.int (j : Nat)), some (rowD r), some (.int far), A6, A7, A8] ν ∧ Gr μ ν := by
  have rr := L.rw (l := 40) (s := 1000) (by omega) (by omega) (by omega)
  obtain ⟨D, M, L0, D0, D1, M0⟩ := L.ex
  have D6 : D < 2 ^ 60 := Nat.lt_of_lt_of_le D1 (pw (by decide))
  have M6 : M < 2 ^ 150 := Nat.lt_of_lt_of_le M0 (pw (by decide))
  have N6 : M * 2 ^ 90 * 40 * 256 < 2 ^ 300 := by
    have : M * 2 ^ 90 * 40 * 256 < 2 ^ 90 * 2 ^ 90 * 2 ^ 6 * 2 ^ 9 := Nat.lt_of_le_of_lt (Nat.mul_le_mul (Nat.mul_le_mul (Nat.le_of_lt (Nat.mul_lt_mul_of_pos_right M0 (by decide))) (by decide : 40 ≤ 2 ^ 6)) (by decide : 256 ≤ 2 ^ 8)) (Nat.mul_lt_mul_of_pos_left (by decide) (by decide))
    rw [← Nat.pow_add, ← Nat.pow_add, ← Nat.pow_add] at this
    exact Nat.lt_of_lt_of_le this (pw (by decide))
  refine sq_wp ?_
  simp_arith []
  refine polyn_ok L0 ha D0 D6 M6 hj fun e1 μ1 T1 C g1 => ?_
  have op : ∀ (ν : Sto) (R : DL.D × Sto → Prop), Gr μ ν → (∀ ν', Gr ν ν' → R (.tup (((cofF r j).take e1).map frD), ν')) → Wp (F_on_power [rowD r, .int (j : Nat)] ν) R := fun ν R gν kk =>
    onpower_ok (gν.get h1) rr (by decide) (by decide) (by decide) hj fun e2 ν' T2 g' => by rw [T2.uniq T1]; exact kk ν' g'
  have te := T1.le
  rw [cofF_len] at te
  have shT : Sh 116 4 100000 (.tup (((cofF r j).take e1).map frD)) := by
    have tl : (((cofF r j).take e1).map frD).length ≤ 9 := by rw [List.length_map, List.length_take, cofF_len]; omega
    refine (Sh.tup (f0 := 5) (dp := 1) (n := 700) (ds := ((cofF r j).take e1).map frD) fun d hd => ?_).mono (by omega) (by decide) ?_
    · obtain ⟨p, hp, rfl⟩ := List.mem_map.mp hd
      have hp2 := List.mem_of_mem_take hp
      obtain ⟨i, hi, rfl⟩ := List.mem_iff_getElem.mp hp2
      rw [cofF_len] at hi
      have c := (C i (by omega)).1
      rw [List.getD_eq_getElem?_getD, List.getElem?_eq_getElem (by rw [cofF_len]; exact hi)] at c
      exact sh_fr (c.sm D0 (Nat.lt_of_lt_of_le D6 (pw (by decide))) (Nat.lt_of_lt_of_le N6 (pw (by decide))))
    · have : (((cofF r j).take e1).map frD).length * (700 + 2) ≤ 9 * (700 + 2) := Nat.mul_le_mul_right _ tl
      omega
  obtain ⟨s1, hs1⟩ := repr_gen (n := 100000) (ds := [.tup (((cofF r j).take e1).map frD), .tup (((cofF r j).take e1).map frD)]) (fun d hd => by
    simp only [List.mem_cons, List.not_mem_nil, or_false] at hd
    rcases hd with z | z <;> subst z <;> exact shT) (by decide) (by simp)
  have wo : ∀ (ν : Sto) (x : Int) (R : DL.D × Sto → Prop), Gr μ ν → x.natAbs ≤ 1000 → (∀ p ν', isFr p → qv p = conv r x j → Gr ν ν' → R (frD p, ν')) → Wp (F_law_worth [.tup (((cofF r j).take e1).map frD), .int x] ν) R := fun ν x R _ hx kk => worth_ok C T1 hj hx D0 D6 N6 kk
  have mo_ : ∀ (ν : Sto) (x : Int) (R : DL.D × Sto → Prop), Gr μ ν → x.natAbs ≤ 1000 → (∀ p ν', isFr p → qv p = conv r x j → Gr ν ν' → R (frD p, ν')) → Wp (F_law_made [.loc f, .int x, .int (j : Nat)] ν) R := fun ν x R gν hx kk => made42_ok (L0.gr gν) hx ha D0 D6 M6 hj kk
  generalize hG : DL.D.tup (((cofF r j).take e1).map frD) = G at *
  simp_arith []
  refine rest (sq_rest ?_)
  simp_arith []
  refine op μ1 _ g1 fun μ2 g2 => ?_
  have g12 := g1.trans g2
  simp_arith []
  refine rest (sq_rest ?_)
  simp_arith []
  refine op μ2 _ g12 fun μ3 g3 => ?_
  have p5 : (μ3 ++ [Ob.lst [G, G]])[μ3.length]? = some (.lst [G, G]) := by simp
  have p6 : (μ3 ++ [Ob.lst [G, G]] ++ [Ob.lst [G, G]])[(μ3 ++ [Ob.lst [G, G]]).length]? = some (.lst [G, G]) := by simp
  simp_arith [sizeLine_eq, Nat.reduceLeDiff, hs1 _ _ p5, hs1 _ _ p6, ne_same, Bool.false_eq_true]
  have g4 : Gr μ (μ3 ++ [Ob.lst [G, G]] ++ [Ob.lst [G, G]]) := g12.trans (g3.trans ((Gr.app (more := [Ob.lst [G, G]])).trans (Gr.app (more := [Ob.lst [G, G]]))))
  generalize μ3 ++ [Ob.lst [G, G]] ++ [Ob.lst [G, G]] = μ4 at g4 ⊢
  have hi : iVal (fTup (fCons (fC (.int 0)) (fCons (fC (.int 1)) (fCons (fUn unNeg (fC (.int 1))) (fCons (fC (.int 2)) (fCons (fVar 5) fNil)))))) [some (.loc n), some (.loc f), A2, some (.int (j : Nat)), some (rowD r), some (.int far), some G, some G, A8] μ4 = some (.tup [.int 0, .int 1, .int (-1), .int 2, .int far], μ4) := by
    simp only [iVal, fTup, fCons, fC, fUn, unNeg, fVar, fNil, List.getElem?_cons_succ, List.getElem?_cons_zero, Option.bind_some, List.length_cons, List.length_nil, sizeLine_eq, Nat.reduceLeDiff, Nat.reduceAdd, if_true, Option.map_some]
  have hx : ∀ i, i < 5 → (([0, 1, -1, 2, far] : List Int).getD i 0).natAbs ≤ 1000 := fun i hi => by
    have : i = 0 ∨ i = 1 ∨ i = 2 ∨ i = 3 ∨ i = 4 := by omega
    rcases this with h | h | h | h | h <;> subst h
    · show (0 : Int).natAbs ≤ 1000; decide
    · show (1 : Int).natAbs ≤ 1000; decide
    · show (-1 : Int).natAbs ≤ 1000; decide
    · show (2 : Int).natAbs ≤ 1000; decide
    · exact hf
  have S : Wp ((fLc (iVal (fTup (fCons (fC (.int 0)) (fCons (fC (.int 1)) (fCons (fUn unNeg (fC (.int 1))) (fCons (fC (.int 2)) (fCons (fVar 5) fNil))))))) (gNm 8) (fB (fBin opNe (fCB F_law_worth (fCons (fVar 7) (fCons (fVar 8) fNil))) (fCB F_law_made (fCons (fVar 1) (fCons (fVar 8) (fCons (fVar 3) fNil)))))) (fVar 8) [8]) [some (.loc n), some (.loc f), A2, some (.int (j : Nat)), some (rowD r), some (.int far), some G, some G, A8] μ4) fun o => ∃ m, o.1 = .loc m ∧ o.2[m]? = some (.lst []) ∧ Gr μ4 o.2 := by
    refine fLc_list (it := .tup [.int 0, .int 1, .int (-1), .int 2, .int far]) (n := 5) (x := fun i => .int (([0, 1, -1, 2, far] : List Int).getD i 0)) (p := fun _ => false) (e := fun _ => .non) hi (fun i ν _ => ?_) (by decide) rfl (fun i hi ν g => ?_) fun m ν hm lm g => ⟨m, rfl, by rw [List.filter_eq_nil_iff.mpr (fun _ _ => by simp)] at hm; exact hm, g⟩
    · simp only [itAt]
      by_cases hi : i < 5
      · rw [if_pos hi]
        have : i = 0 ∨ i = 1 ∨ i = 2 ∨ i = 3 ∨ i = 4 := by omega
        rcases this with h | h | h | h | h <;> subst h <;> rfl
      · rw [if_neg hi]
        exact congrArg some (List.getElem?_eq_none (show 5 ≤ i by omega))
    · refine ⟨_, rfl, ?_⟩
      have hxi := hx i hi
      generalize ([0, 1, -1, 2, far] : List Int).getD i 0 = x at hxi ⊢
      have gν := g4.trans g
      simp_arith [wipeD]
      refine wo ν x _ gν hxi fun p ν1 fp qp gp => ?_
      simp_arith []
      refine mo_ ν1 x _ (gν.trans gp) hxi fun p2 ν2 fp2 qp2 gp2 => ?_
      have ep : p = p2 := qv_inj fp fp2 (qp.trans qp2.symm)
      have ne : opNe (frD p) (frD p2) ν2 = some (.bl false, ν2) := by
        have := ne_frs (μ := ν2) p p2
        rw [decide_eq_false (fun z => z ep)] at this
        exact this
      simp_arith [ne]
      exact gp.trans gp2
  refine rest ?_
  simp_arith []
  refine S.mono ?_
  rintro ⟨_, μa⟩ ⟨m, rfl, hm, ga⟩
  simp only at hm ga
  have hn : (μa ++ [Ob.lst []])[μa.length]? = some (.lst []) := by simp
  have nn := nilNe (Gr.app.get hm) hn
  simp_arith [sizeLine_eq, Nat.reduceLeDiff, nn, List.isEmpty_nil, Bool.not_true, Bool.false_eq_true]
  exact ⟨_, _, _, rfl, g4.trans (ga.trans Gr.app)⟩
abbrev tail28 : SF := (fSeq (fPar 4 5 (fCons (fCB F_law_line (fCons (fVar 1) fNil)) (fCons (fBin opSub (fCB F_law_take (fCons (fVar 0) (fCons (fC (.int 2000)) fNil))) (fC (.int 1000))) fNil)))
    (fSeq (fFor (iLst (fLst (fCons (fCB F_law_take (fCons (fVar 0) (fCons (fC (.int 4)) fNil))) (fCons (fBin opAddX (fC (.int 3)) (fCB F_law_take (fCons (fVar 0) (fCons (fC (.int 6)) fNil)))) fNil)))) (gNm 3) turn28)
    (fRet (fC (.bl true)))))
theorem tail28_ok {μ : Sto} {n f k : Nat} {a e : Int} {r : Row} {A2 : Option DL.D} (w : W μ n k) (hk : k ≤ 400000) (hn : 1 < n) (h1 : μ[1]? = some (.tab "is_row")) (L : LB μ f 7 90 a e r) (ha : -900 ≤ a ∧ e ≤ 900 ∧ e - a ≤ 40) (nf : f ≠ n) : Wp (tail28 [some (.loc n), some (.loc f), A2, none, none, none, none, none, none] μ) fun o => ∃ ν, o = .rt (.bl true) ν ∧ Kp n μ ν := by
  obtain ⟨D, M, L0, D0, D1, M0⟩ := L.ex
  refine sq_wp ?_
  simp_arith []
  refine line_ok L0 (by omega) fun μ1 g1 => ?_
  simp_arith []
  refine takec (w.gr g1) (by omega) (by decide) (by decide) fun x μ2 x0 x1 w2 k2 => ?_
  have k12 := (g1.kp (n := n)).trans k2
  simp_arith [opSub]
  refine rest (sq_rest ?_)
  refine for_lstw ?_
  simp_arith []
  refine takec w2 (by omega) (by decide) (by decide) fun y μ3 y0 y1 w3 k3 => ?_
  simp_arith []
  refine takec w3 (by omega) (by decide) (by decide) fun z μ4 z0 z1 w4 k4 => ?_
  simp_arith [addX_int, sizeLine_eq, Nat.reduceLeDiff]
  have k14 := k12.trans (k3.trans k4)
  have hL : (μ4 ++ [Ob.lst [.int y, .int (3 + z)]])[μ4.length]? = some (.lst [.int y, .int (3 + z)]) := by simp
  have gL : Gr μ4 (μ4 ++ [Ob.lst [.int y, .int (3 + z)]]) := Gr.app
  generalize hB : μ4 ++ [Ob.lst [DL.D.int y, .int (3 + z)]] = μB at hL gL ⊢
  have kB := k14.trans (gL.kp (n := n))
  have LB' := L.kp kB nf
  have tB := kB.tab h1 hn
  refine ⟨μ4.length, _, rfl, hL, ?_⟩
  refine (loop_gen (n := 2) (x := fun i => .int (([y, 3 + z] : List Int).getD i 0)) (I := fun i ρ ν => Gr μB ν ∧ ∃ c3 c6 c7, ρ = [some (.loc n), some (.loc f), A2, c3, some (rowD r), some (.int (x - 1000)), c6, c7, none]) ?_ ?_ 2 0 _ _ rfl ⟨Gr.refl, _, _, _, rfl⟩).mono ?_
  · rintro i ρ ν ⟨g', _⟩
    simp only [itAt, lst_loc (g'.get hL), Option.map_some]
    by_cases hi : i < 2
    · rw [if_pos hi]
      have : i = 0 ∨ i = 1 := by omega
      rcases this with h | h <;> subst h <;> rfl
    · rw [if_neg hi]
      exact congrArg some (List.getElem?_eq_none (show 2 ≤ i by omega))
  · rintro i ρ ν hi ⟨g', c3, c6, c7, rfl⟩
    obtain ⟨j, ej, hj⟩ : ∃ j : Nat, (([y, 3 + z] : List Int).getD i 0) = (j : Nat) ∧ j ≤ 8 := by
      have : i = 0 ∨ i = 1 := by omega
      rcases this with h | h <;> subst h
      · exact ⟨y.toNat, by show y = _; omega, by omega⟩
      · exact ⟨(3 + z).toNat, by show 3 + z = _; omega, by omega⟩
    rw [ej]
    refine gNm_bind ?_
    refine (turn28_ok (g'.get tB) (LB'.gr g') ha (by omega) hj).mono ?_
    rintro o ⟨A6, A7, ξ, rfl, gξ⟩
    exact ⟨_, _, rfl, g'.trans gξ, _, _, _, rfl⟩
  · rintro _ ⟨ρ', μC, rfl, gC, c3, c6, c7, rfl⟩
    refine rest (ret_wp ?_)
    simp_arith []
    exact ⟨_, rfl, kB.trans gC.kp⟩
theorem right28_ok {n : Nat} {μ : Sto} {Q : DL.D × Sto → Prop} (w : W μ n 0) (hn : 1 < n) (h1 : μ[1]? = some (.tab "is_row")) (q : ∀ μ', Kp n μ μ' → Q (.bl true, μ')) : Wp (F_law_right_28 [.loc n] μ) Q := by
  have nl := w.lt
  have big : ∀ i, i ≤ 8 → M84 * 64 ^ i < 2 ^ 90 := fun i hi => by
    have : 64 ^ i ≤ 64 ^ 8 := Nat.pow_le_pow_right (by decide) hi
    exact Nat.lt_of_le_of_lt (Nat.mul_le_mul_left _ this) (by decide +kernel)
  refine def_wp rfl (sq_wp ?_)
  simp_arith []
  refine draw_ok (most := 5) w (by omega) (by decide) (by decide) fun f μ1 r first L b1 b1' lf w1 k1 => ?_
  simp_arith []
  refine rest (sq_rest ?_)
  refine forrw ?_
  simp_arith []
  refine takec w1 (by omega) (by decide) (by decide) fun z μ2 z0 z1 w2 k2 => ?_
  obtain ⟨j, rfl⟩ := Int.eq_ofNat_of_zero_le z0
  have k12 := k1.trans k2
  simp_arith []
  refine ⟨j, rfl, by omega, ?_⟩
  have z2 := k1.len
  refine (loop_gen (n := j) (x := fun i => .int (0 + (i : Nat))) (I := fun i ρ μ' => ∃ f r c2, ρ = [some (.loc n), some (.loc f), c2, none, none, none, none, none, none] ∧ Lt μ' f 84 (M84 * 64 ^ i) first (first + 6 + (i : Nat)) r ∧ n < f ∧ i ≤ j ∧ Gr μ2 μ') (fun i ρ μ' _ => rfl) ?_ j 0 _ _ rfl ⟨f, r, _, rfl, (L.kp k2 (by omega)).span (Int.le_refl _) (by omega), by omega, Nat.zero_le _, Gr.refl⟩).mono ?_
  · rintro i ρ' μ3 hi ⟨f, r, c2, rfl, L, nf, _, g⟩
    have bi := big i (by omega)
    have bi2 := big (i + 1) (by omega)
    have z3 := g.lt
    refine gNm_bind ?_
    simp_arith []
    refine later_lot L (by omega) fun f2 μ4 L2 l2 g2 => ?_
    simp_arith []
    have e1 : M84 * 64 ^ i + 20 * (M84 * 64 ^ i * 2) ≤ M84 * 64 ^ (i + 1) := by rw [pw64]; omega
    refine less_ok (U := 20) ((L.gr g2).span (a' := first) (e' := first + 6 + (i : Nat) + 1) (Int.le_refl _) (by omega)) (L2.span (by omega) (by omega)) (by omega) (by decide) (by decide) (by decide +kernel) (p1000 bi (by decide)) (Nat.lt_of_le_of_lt e1 (p1000 bi2 (by decide))) fun f3 μ5 L3 l3 g3 => ?_
    have z4 := g2.lt
    refine ⟨_, _, rfl, f3, _, _, rfl, (L3.mono e1).span (Int.le_refl _) (by omega), by have := L.lt; omega, hi, g.trans (g2.trans g3)⟩
  rintro _ ⟨ρ', μ3, rfl, f, r, c2, rfl, L, nf, _, g⟩
  have k13 := k12.trans g.kp
  have w3 := w2.gr g
  have LL : LB μ3 f 7 90 first (first + 6 + (j : Nat)) r := ⟨_, _, L, by decide, by decide, big j (by omega)⟩
  refine rest (sq_rest ?_)
  simp_arith []
  refine takec w3 (by omega) (by decide) (by decide) fun y μ4 y0 y1 w4 k4 => ?_
  have k14 := k13.trans k4
  have z4 := k14.len
  simp_arith [eq_int]
  refine ⟨fun _ => ?_, fun _ => ?_⟩
  · have hD : (μ4 ++ [Ob.dic []])[μ4.length]? = some (.dic []) := by simp
    have gD : Gr μ4 (μ4 ++ [Ob.dic []]) := Gr.app
    have k15 := k14.trans (gD.kp (n := n))
    refine rest ((tail28_ok (w4.gr gD) (by omega) hn (k15.tab h1 hn) ((LB.nil (a := 0) (e := 0) hD (by decide)).mono (by decide) (by decide) (Int.le_refl _) (Int.le_refl _)) (by decide) (by omega)).mono ?_)
    rintro _ ⟨ν, rfl, kν⟩
    exact q ν (k15.trans kν)
  · refine rest ((tail28_ok w4 (by omega) hn (k14.tab h1 hn) (LL.kp k4 (by omega)) (by omega) (by omega)).mono ?_)
    rintro _ ⟨ν, rfl, kν⟩
    exact q ν (k14.trans kν)
theorem law28_ok {μ : Sto} {ns : List Int} (l0 : lstAt μ 0 = some (ns.map D.int)) (h1 : μ[1]? = some (.tab "is_row")) : Wp (F_law_28 [.loc 0] μ) fun p => p.1 = .bl true :=
  lawG_ok (F := F_law_right_28) (fun n μ w hn h => right28_ok w hn h fun μ' kp => ⟨rfl, kp⟩) l0 h1
end BS
namespace K42
open PySem PySem.Spec PyProof.Rows L2 DL
open BS
theorem ints_reps {K : PySem.W.Frag} {H : Hp} {α : List Addr} : ∀ ns : List Int, Reps K H α (ns.map D.int) (ns.map V.int)
  | [] => rfl
  | i :: r => ⟨_, _, rfl, rfl, ints_reps r⟩
theorem start {K : PySem.W.Frag} {H : Hp} {a : Addr} {ob : Obj} {ns : List Int} (hH : H a = some (.frz ob (.lst (ns.map V.int)))) (hT : H (tabA K "is_row") = some (.tbl #[])) (ne : tabA K "is_row" ≠ a) :
    spF K F_law_28 [.ref a] H (fun v _ => v = .bl true) E0 := by
  have S : RepS K H [a, tabA K "is_row"] [.frz (ns.map D.int), .tab "is_row"] := by
    refine ⟨by simp [Ne.symm ne], rfl, fun n b o e1 e2 => ?_⟩
    match n with
    | 0 =>
      cases e1
      cases e2
      exact ⟨ob, _, hH, ints_reps ns⟩
    | 1 =>
      cases e1
      cases e2
      exact ⟨rfl, #[], hT, by trivial⟩
    | n + 2 => cases e1
  obtain ⟨⟨d, μ'⟩, e, hd⟩ := law28_ok (μ := [.frz (ns.map D.int), .tab "is_row"]) (ns := ns) rfl rfl
  refine ⟨[a, tabA K "is_row"], _, [.loc 0], d, μ', S, ⟨_, _, rfl, ⟨a, rfl, rfl⟩, rfl⟩, e, fun H' α' v E' S' r => ?_⟩
  cases (show d = .bl true from hd)
  exact r
end K42
open PySem PySem.W PySem.Calls PyProof.Rows
theorem PySem.Challenge.cw_bandsplits_k42_whole_polynomials_of_powe_holds : PySem.Challenge.rw_bandsplits_k42_whole_polynomials_of_powe.Holds := by
  w_on; o_law
  refine HandSHeadRun.head_imp (r := K42.Rw) (q := view K42.Rw.prog [0, 45]) (H := K42.hk) (ob := K42.ob) (M := 8000) (loose := K42.loose) (d := HandSHeadRun.topDef K42.Rw.prog 45) (kwd := []) K42.ob_eq
    K42.run (by kernel_rfl) (by kernel_rfl) (by kernel_rfl) (by rfl) (by first | assumption | decide +kernel) (by decide +kernel) ⟨rfl, rfl, rfl, rfl, rfl, by decide +kernel⟩ ?hw ?hc
  case hw => w_witness2
  case hc =>
    refine QF.walkT (m := 0) (l := PySem.Challenge.rw_bandsplits_k42_whole_polynomials_of_powe) (n := 63) (k := 7) (x := "_law_script") rfl (by decide) (by kernel_rfl) ⟨rfl, by decide, by decide⟩ ?F
    intro w mg fa h K KX S G hmg0
    have hmg : mg ("law" : PySem.Str) = some (.ref fa) := by
      have e : (HandSHeadRun.topDef K42.Rw.prog 45).name = ("law" : PySem.Str) := by kernel_rfl
      rw [← e]
      exact hmg0
    obtain ⟨fd, F⟩ := S.d.def_ 34 (d := K42.hd34) rfl
    have ea : fa = He.fAd K ("law", none) := by
      have e := hmg.symm.trans (He.glo_ok KX G (He.SaysD.facts S.d (List.mem_append_left _ (List.mem_map.mpr ⟨"law", by simp [K42.hGlo], rfl⟩))))
      cases e
      rfl
    subst ea
    refine ⟨fd, DL.spF K BS.F_law_28, fun s v => L2.FunD.bindsA (ps := ["_law_script"]) F (fun _ _ _ _ _ _ us hl => match us, hl with | [_], _ => rfl) s [v] rfl, fun H a ob ns _ hH ht => ?_, fun base _ _ T => ?_⟩
    · obtain ⟨t1, t2⟩ := ht ("is_row", none) (by simp [K42.hTab])
      exact K42.start hH t1 t2
    · exact K42.law_fn (K42.ctx_of S KX G T) F
