import PyProof.Rows.All
import Wide.All
import OpenK.AllK
import Wide.FinOn
import HandS.ForMost
import HandS.IsInst
import HandS.Style
import HandS.DictComp
import HandS.SetKeys
import HandS.More
import PyProof.ReprRoads
import HandS.NoneIn
import HandS.Zip
import HandS.Gcd
import HandS.Deep
import HandS.TupLe
import HandS.Iter
import HandS.Flow
import PyProof.ReprLen
import PyProof.FitsInt
import PySem.Challenge.RW_movedyears_k44_alike_or_a_career_that_te
set_option Elab.async false
set_option linter.all false
set_option maxRecDepth 100000
namespace Dl
open PySem PySem.Spec PyProof.Rows L2

/-! ### a heap in two parts: G, what never changes again and only grows; os, what is owned and may be written -/
abbrev Ow := List (Addr × HO)
def isDk : HO → Bool
  | .dK _ => true
  | .dT _ => true
  | _ => false
def isFr : HO → Bool
  | .frz _ _ => true
  | _ => false
theorem fr_dk {o : HO} (h : isDk o = true) : isFr o = false := by
  cases o <;> first | rfl | cases h
def isTp : HO → Bool
  | .tup _ => true
  | _ => false
structure HH (G : Hp) (os : Ow) (H : Hp) : Prop where
  sub : ∀ a o, G a = some o → H a = some o ∨ (isDk o = true ∧ ∃ ob, H a = some (.frz ob o))
  own : ∀ p ∈ os, H p.1 = some p.2 ∧ (G p.1 = none ∨ ∃ ob u, p.2 = .frz ob u ∧ G p.1 = some u ∧ isDk u = true)
  nd : (os.map (·.1)).Nodup
  nt : ∀ p ∈ os, isTp p.2 = false
section
variable {G G' G1 G2 H H' : Hp} {os os' : Ow} {p a : Addr} {o o' : HO}
theorem same_upd (h : H p = none) : Same H (upd H p o) := fun b x e => by
  rw [upd_ne (ne_of_none e h)]
  exact e
theorem HH.init (H : Hp) : HH H [] H := ⟨fun _ _ h => .inl h, fun _ h => (nomatch h), List.nodup_nil, fun _ h => (nomatch h)⟩
theorem HH.free (h : HH G os H) (n : H p = none) : G p = none := by
  cases q : G p with
  | none => rfl
  | some o =>
    rcases h.sub p o q with e | ⟨_, _, e⟩
    · rw [n] at e; cases e
    · rw [n] at e; cases e
theorem HH.alloc (h : HH G os H) (n : H p = none) : HH (upd G p o) os (upd H p o) := by
  refine ⟨fun a x e => ?_, fun q hq => ?_, h.nd, h.nt⟩
  · by_cases ha : a = p
    · subst ha
      rw [upd_same] at e ⊢
      exact .inl e
    · rw [upd_ne ha] at e ⊢
      exact h.sub a x e
  · obtain ⟨e1, e2⟩ := h.own q hq
    have ne : q.1 ≠ p := ne_of_none e1 n
    rw [upd_ne ne, upd_ne ne]
    exact ⟨e1, e2⟩
theorem HH.sameG (h : HH G os H) (n : H p = none) : Same G (upd G p o) := same_upd (h.free n)
theorem HH.push (h : HH G os H) (n : H p = none) (nt : isTp o = false := by rfl) : HH G ((p, o) :: os) (upd H p o) := by
  refine ⟨fun a x e => ?_, fun q hq => ?_, ?_, fun q hq => by rcases List.mem_cons.mp hq with rfl | hq; exact nt; exact h.nt q hq⟩
  · have ne : a ≠ p := ne_of_none e (h.free n)
    rw [upd_ne ne]
    exact h.sub a x e
  · rcases List.mem_cons.mp hq with rfl | hq
    · exact ⟨upd_same, .inl (h.free n)⟩
    · obtain ⟨e1, e2⟩ := h.own q hq
      rw [upd_ne (ne_of_none e1 n)]
      exact ⟨e1, e2⟩
  · show (p :: os.map (·.1)).Nodup
    refine List.nodup_cons.mpr ⟨fun m => ?_, h.nd⟩
    obtain ⟨q, hq, e⟩ := List.mem_map.mp m
    have e1 := (h.own q hq).1
    rw [e, n] at e1
    cases e1
theorem HH.get (h : HH G ((p, o) :: os) H) : H p = some o := (h.own (p, o) (List.mem_cons_self ..)).1
theorem HH.gnone (h : HH G ((p, o) :: os) H) (nf : isDk o = true ∨ ∀ ob u, o ≠ .frz ob u) : G p = none := by
  rcases (h.own (p, o) (List.mem_cons_self ..)).2 with e | ⟨ob, u, e, _⟩
  · exact e
  · rcases nf with k | k
    · have e : o = .frz ob u := e
      rw [e] at k
      cases k
    · exact absurd e (k ob u)
theorem HH.put (h : HH G ((p, o) :: os) H) (nf : isDk o = true ∨ ∀ ob u, o ≠ .frz ob u) (nt : isTp o' = false := by rfl) : HH G ((p, o') :: os) (upd H p o') := by
  have gn := h.gnone nf
  have nd := h.nd
  have nd1 : (p :: os.map (·.1)).Nodup := nd
  have np := (List.nodup_cons.mp nd1).1
  refine ⟨fun a x e => ?_, fun q hq => ?_, nd, fun q hq => by rcases List.mem_cons.mp hq with rfl | hq; exact nt; exact h.nt q (List.mem_cons_of_mem _ hq)⟩
  · rw [upd_ne (ne_of_none e gn)]
    exact h.sub a x e
  · rcases List.mem_cons.mp hq with rfl | hq
    · exact ⟨upd_same, .inl gn⟩
    · obtain ⟨e1, e2⟩ := h.own q (List.mem_cons_of_mem _ hq)
      have ne : q.1 ≠ p := fun e => np (e ▸ List.mem_map.mpr ⟨q, hq, rfl⟩)
      rw [upd_ne ne]
      exact ⟨e1, e2⟩
/-- an owned thing is given over to what never changes -/
theorem HH.give (h : HH G ((p, o) :: os) H) (nf : isDk o = true ∨ ∀ ob u, o ≠ .frz ob u) : HH (upd G p o) os H := by
  have gn := h.gnone nf
  have nd1 : (p :: os.map (·.1)).Nodup := h.nd
  have np := (List.nodup_cons.mp nd1).1
  refine ⟨fun a x e => ?_, fun q hq => ?_, (List.nodup_cons.mp nd1).2, fun q hq => h.nt q (List.mem_cons_of_mem _ hq)⟩
  · by_cases ha : a = p
    · subst ha
      rw [upd_same] at e
      cases e
      exact .inl h.get
    · rw [upd_ne ha] at e
      exact h.sub a x e
  · obtain ⟨e1, e2⟩ := h.own q (List.mem_cons_of_mem _ hq)
    have ne : q.1 ≠ p := fun e => np (e ▸ List.mem_map.mpr ⟨q, hq, rfl⟩)
    rw [upd_ne ne]
    exact ⟨e1, e2⟩
theorem HH.drop (h : HH G ((p, o) :: os) H) : HH G os H :=
  ⟨h.sub, fun q hq => h.own q (List.mem_cons_of_mem _ hq), (List.nodup_cons.mp (show (p :: os.map (·.1)).Nodup from h.nd)).2, fun q hq => h.nt q (List.mem_cons_of_mem _ hq)⟩
theorem HH.perm (h : HH G os H) (pm : os.Perm os') : HH G os' H :=
  ⟨h.sub, fun q hq => h.own q (pm.mem_iff.mpr hq), (pm.map (·.1)).nodup_iff.mp h.nd, fun q hq => h.nt q (pm.mem_iff.mpr hq)⟩
theorem HH.swap {q : Addr} (h : HH G ((p, o) :: (q, o') :: os) H) : HH G ((q, o') :: (p, o) :: os) H := h.perm (List.Perm.swap _ _ _)
theorem HH.lst {xs : List V} (h : HH G os H) (e : G a = some (.lst xs)) : H a = some (.lst xs) := by
  rcases h.sub a _ e with q | ⟨k, _⟩
  · exact q
  · cases k
theorem HH.tup {xs : List V} (h : HH G os H) (e : G a = some (.tup xs)) : H a = some (.tup xs) := by
  rcases h.sub a _ e with q | ⟨k, _⟩
  · exact q
  · cases k
theorem HH.ins {C dx : Addr} {fs : List (Str × V)} (h : HH G os H) (e : G a = some (.ins C dx fs)) : H a = some (.ins C dx fs) := by
  rcases h.sub a _ e with q | ⟨k, _⟩
  · exact q
  · cases k
theorem HH.rd (h : HH G os H) (e : G a = some o) : Rd H a o := by
  rcases h.sub a _ e with q | ⟨k, ob, q⟩
  · exact .inl q
  · exact .inr ⟨ob, q⟩
/-- what is written in SqL stays to be read -/
theorem HH.sq {K : PySem.W.Frag} {xs : List V} (h : HH G os H) (e : SqL K G a xs) : SqL K H a xs := by
  rcases e with (e | ⟨ob, e⟩) | e
  · exact .inl (.inl (h.lst e))
  · rcases h.sub a _ e with q | ⟨k, _⟩
    · exact .inl (.inr ⟨ob, q⟩)
    · cases k
  · exact .inr e
theorem HH.sqt {K : PySem.W.Frag} {xs : List V} (h : HH G os H) (e : SqT K G a xs) : SqT K H a xs := by
  rcases e with (e | ⟨ob, e⟩) | e
  · exact .inl (.inl (h.tup e))
  · rcases h.sub a _ e with q | ⟨k, _⟩
    · exact .inl (.inr ⟨ob, q⟩)
    · cases k
  · exact .inr e
end

/-! ### values as data -/
class Rp (α : Type) where
  rep : Hp → V → α → Prop
  mono : ∀ {G G' : Hp} {v : V} {x : α}, Same G G' → rep G v x → rep G' v x
abbrev rep {α : Type} [Rp α] (G : Hp) (v : V) (x : α) : Prop := Rp.rep G v x
end Dl

set_option Elab.async false
set_option linter.all false
set_option maxRecDepth 100000
namespace Dl
open PySem PySem.Spec PyProof.Rows L2
/-! ### kinds of data -/
instance : Rp Int := ⟨fun _ v i => v = .int i, fun _ h => h⟩
instance : Rp Bool := ⟨fun _ v i => v = .bl i, fun _ h => h⟩
instance : Rp Str := ⟨fun _ v i => v = .str i, fun _ h => h⟩
instance : Rp Unit := ⟨fun _ v _ => v = .non, fun _ h => h⟩
theorem paired_mono {α : Type} [Rp α] {G G' : Hp} (s : Same G G') : ∀ {vs : List V} {xs : List α}, Paired (rep G) vs xs → Paired (rep G') vs xs
  | _, _, .nil => .nil
  | _, _, .cons r t => .cons (Rp.mono s r) (paired_mono s t)
instance {α : Type} [Rp α] : Rp (List α) := ⟨fun G v xs => ∃ a vs, v = .ref a ∧ G a = some (.lst vs) ∧ Paired (rep G) vs xs, fun s ⟨a, vs, e, h, r⟩ => ⟨a, vs, e, s _ _ h, paired_mono s r⟩⟩
instance {α β : Type} [Rp α] [Rp β] : Rp (α × β) := ⟨fun G v x => ∃ a v1 v2, v = .ref a ∧ G a = some (.tup [v1, v2]) ∧ rep G v1 x.1 ∧ rep G v2 x.2, fun s ⟨a, v1, v2, e, h, r1, r2⟩ => ⟨a, v1, v2, e, s _ _ h, Rp.mono s r1, Rp.mono s r2⟩⟩
structure T3 (α β γ : Type) where
  a : α
  b : β
  c : γ
  deriving DecidableEq
instance {α β γ : Type} [Rp α] [Rp β] [Rp γ] : Rp (T3 α β γ) := ⟨fun G v x => ∃ a v1 v2 v3, v = .ref a ∧ G a = some (.tup [v1, v2, v3]) ∧ rep G v1 x.a ∧ rep G v2 x.b ∧ rep G v3 x.c,
  fun s ⟨a, v1, v2, v3, e, h, r1, r2, r3⟩ => ⟨a, v1, v2, v3, e, s _ _ h, Rp.mono s r1, Rp.mono s r2, Rp.mono s r3⟩⟩
/-- a dict with texts as keys -/
structure DS (α : Type) where
  kvs : List (Str × α)
  deriving DecidableEq
def KsR {α : Type} [Rp α] (G : Hp) (p : Key × V) (q : Str × α) : Prop := p.1 = Sum.inr q.1 ∧ rep G p.2 q.2
theorem ks_mono {α : Type} [Rp α] {G G' : Hp} (s : Same G G') : ∀ {vs : List (Key × V)} {xs : List (Str × α)}, Paired (KsR G) vs xs → Paired (KsR G') vs xs
  | _, _, .nil => .nil
  | _, _, .cons r t => .cons ⟨r.1, Rp.mono s r.2⟩ (ks_mono s t)
instance {α : Type} [Rp α] : Rp (DS α) := ⟨fun G v x => ∃ a vs, v = .ref a ∧ G a = some (.dK vs) ∧ Paired (KsR G) vs x.kvs, fun s ⟨a, vs, e, h, r⟩ => ⟨a, vs, e, s _ _ h, ks_mono s r⟩⟩
def DS.get {α : Type} (d : DS α) (c : Str) : Option α := (d.kvs.find? fun p => decide (p.1 = c)).map (·.2)
theorem ks_get {α : Type} [Rp α] {G : Hp} (c : Str) : ∀ {vs : List (Key × V)} {xs : List (Str × α)}, Paired (KsR G) vs xs → (∃ v x, valV vs (Sum.inr c) = some v ∧ (DS.mk xs).get c = some x ∧ rep G v x) ∨ (valV vs (Sum.inr c) = none ∧ (DS.mk xs).get c = none)
  | _, _, .nil => .inr ⟨rfl, rfl⟩
  | _, _, .cons (a := p) (b := q) r t => by
    by_cases e : q.1 = c
    · refine .inl ⟨p.2, q.2, valV_pos (r.1.trans (by rw [e])), ?_, r.2⟩
      unfold DS.get
      simp [List.find?_cons, e]
    · have ne : ¬ p.1 = Sum.inr c := fun z => e (by rw [r.1] at z; exact Sum.inr.inj z)
      rw [valV_neg ne]
      have q2 : (DS.mk (q :: ‹List (Str × α)›)).get c = (DS.mk ‹List (Str × α)›).get c := by
        unfold DS.get
        simp [List.find?_cons, e]
      rcases ks_get c t with ⟨v, x, h1, h2, h3⟩ | ⟨h1, h2⟩
      · exact .inl ⟨v, x, h1, by rw [q2]; exact h2, h3⟩
      · exact .inr ⟨h1, by rw [q2]; exact h2⟩
theorem ks_any {α : Type} [Rp α] {G : Hp} (c : Str) {vs : List (Key × V)} {xs : List (Str × α)} (r : Paired (KsR G) vs xs) : (valV vs (Sum.inr c)).isSome = ((DS.mk xs).get c).isSome := by
  rcases ks_get c r with ⟨v, x, h1, h2, _⟩ | ⟨h1, h2⟩
  · rw [h1, h2]; rfl
  · rw [h1, h2]; rfl
/-! ### lists that stand side by side -/
theorem pr_len {α β : Type} {F : α → β → Prop} {l : List α} {m : List β} (r : Paired F l m) : l.length = m.length := Paired.length r
theorem pr_get {α β : Type} {F : α → β → Prop} : ∀ {l : List α} {m : List β} {i : Nat} {x : α}, Paired F l m → l[i]? = some x → ∃ y, m[i]? = some y ∧ F x y
  | _, _, _, _, .nil, e => by simp at e
  | _, _, 0, _, .cons r _, e => by simp at e; subst e; exact ⟨_, rfl, r⟩
  | _, _, i + 1, x, .cons _ t, e => by
    obtain ⟨u, h1, h2⟩ := pr_get (i := i) (x := x) t (by simpa using e)
    exact ⟨u, by simpa using h1, h2⟩
theorem pr_get2 {α β : Type} {F : α → β → Prop} : ∀ {l : List α} {m : List β} {i : Nat} {y : β}, Paired F l m → m[i]? = some y → ∃ x, l[i]? = some x ∧ F x y
  | _, _, _, _, .nil, e => by simp at e
  | _, _, 0, _, .cons r _, e => by simp at e; subst e; exact ⟨_, rfl, r⟩
  | _, _, i + 1, x, .cons _ t, e => by
    obtain ⟨u, h1, h2⟩ := pr_get2 (i := i) (y := x) t (by simpa using e)
    exact ⟨u, by simpa using h1, h2⟩
theorem pr_app {α β : Type} {F : α → β → Prop} : ∀ {l l2 : List α} {m m2 : List β}, Paired F l m → Paired F l2 m2 → Paired F (l ++ l2) (m ++ m2)
  | _, _, _, _, .nil, s => s
  | _, _, _, _, .cons r t, s => .cons r (pr_app t s)
theorem pr_snoc {α β : Type} {F : α → β → Prop} {l : List α} {m : List β} {x : α} {y : β} (r : Paired F l m) (h : F x y) : Paired F (l ++ [x]) (m ++ [y]) := pr_app r (.cons h .nil)
theorem pr_mp {α β : Type} {F F' : α → β → Prop} (f : ∀ x y, F x y → F' x y) : ∀ {l : List α} {m : List β}, Paired F l m → Paired F' l m
  | _, _, .nil => .nil
  | _, _, .cons r t => .cons (f _ _ r) (pr_mp f t)
theorem pr_ints {G : Hp} : ∀ {vs : List V} {xs : List Int}, Paired (rep G) vs xs → vs = xs.map V.int
  | _, _, .nil => rfl
  | _, _, .cons r t => by rw [List.map_cons, ← pr_ints t]; exact congrArg (· :: _) r
theorem ints_pr {G : Hp} : ∀ (xs : List Int), Paired (rep G) (xs.map V.int) xs
  | [] => .nil
  | _ :: r => .cons rfl (ints_pr r)
theorem pr_strs {G : Hp} : ∀ {vs : List V} {xs : List Str}, Paired (rep G) vs xs → vs = xs.map V.str
  | _, _, .nil => rfl
  | _, _, .cons r t => by rw [List.map_cons, ← pr_strs t]; exact congrArg (· :: _) r
theorem strs_pr {G : Hp} : ∀ (xs : List Str), Paired (rep G) (xs.map V.str) xs
  | [] => .nil
  | _ :: r => .cons rfl (strs_pr r)
theorem pr_bls {G : Hp} : ∀ {vs : List V} {xs : List Bool}, Paired (rep G) vs xs → vs = xs.map V.bl
  | _, _, .nil => rfl
  | _, _, .cons r t => by rw [List.map_cons, ← pr_bls t]; exact congrArg (· :: _) r

/-! ### promises -/
/-- a def that writes to nothing that was there: from the arguments (R) what it hands back (post) -/
def spP (R : Hp → List V → (Hp → V → Prop) → Prop) : Sp := fun vs H Q _ => ∃ G os post, HH G os H ∧ R G vs post ∧ ∀ G' H' v, Same G G' → HH G' os H' → post G' v → Q v H'
/-- a def that writes to what it owns -/
def spG (R : Hp → Ow → List V → (Hp → Ow → V → Prop) → Prop) : Sp := fun vs H Q _ => ∃ G ow fr post, HH G (ow ++ fr) H ∧ R G ow vs post ∧ ∀ G' H' ow' v, Same G G' → HH G' (ow' ++ fr) H' → post G' ow' v → Q v H'
theorem go_P {R : Hp → List V → (Hp → V → Prop) → Prop} {vs : List V} {H G : Hp} {os : Ow} {Q : VK} {E : XK} {post : Hp → V → Prop} (hh : HH G os H) (r : R G vs post)
    (k : ∀ G' H' v, Same G G' → HH G' os H' → post G' v → Q v H') : spP R vs H Q E := ⟨G, os, post, hh, r, k⟩
theorem go_G {R : Hp → Ow → List V → (Hp → Ow → V → Prop) → Prop} {vs : List V} {H G : Hp} {ow fr : Ow} {Q : VK} {E : XK} {post : Hp → Ow → V → Prop} (hh : HH G (ow ++ fr) H) (r : R G ow vs post)
    (k : ∀ G' H' ow' v, Same G G' → HH G' (ow' ++ fr) H' → post G' ow' v → Q v H') : spG R vs H Q E := ⟨G, ow, fr, post, hh, r, k⟩
/-! ### a def as its callers see it -/
structure DefAt (K : PySem.W.Frag) (mg : Str → Option Value) (x : Str) (st : Stmt) (ps : List Str) : Prop where
  ex : ∃ f fd, Fun K x x st f fd ∧ mg x = some (.ref f) ∧ Binds K fd ps []
structure Cal (P : Program) (w : World) (K : PySem.W.Frag) (mg : Str → Option Value) (base : Heap) (CX : CXT) (k : Nat) (x : Str) (ps : List Str) (sp : Sp) : Prop where
  ex : ∃ f fd, FnOk P w K mg base CX k f fd ps sp ∧ mg x = some (.ref f) ∧ PySem.W.keepIn K (.ref f) = true ∧ Binds K fd ps []
section
variable {P : Program} {w : World} {K : PySem.W.Frag} {mg : Str → Option Value} {base : Heap}
theorem DefAt.ok {x : Str} {st : Stmt} {N ps : List Str} {k : Nat} {sp : Sp} (D : DefAt K mg x st ps) (S : FnScope N ps (defScope st)) (len : ∀ vs H Q E, sp vs H Q E → vs.length = ps.length)
    (hbody : ∀ (X : Cx) (s : Shared) (H : Hp) (f : Addr) (A : Around) (outer : List Env) (cdv : Value) (vs : List V) (Q : VK) (E : XK), X = (cxOf CX0 P w K mg base N x (defScope st) f cdv A outer s H E).nox →
      Room k (A.deeper (envOfC x (defScope st) s.heap.objs.size f cdv)) → sp vs H Q E →
      ∃ t, PSs (cxOf CX0 P w K mg base N x (defScope st) f cdv A outer s H E).nox (defBody st) t ∧ t { nx := fun _ H' => Q .non H', rt := Q } (start N vs) H) : Cal P w K mg base CX0 (k + 1) x ps sp := by
  obtain ⟨f, fd, F, g, b⟩ := D.ex
  exact ⟨f, fd, F.ok S len fun cdv A outer s H vs Q E hr h => hbody _ s H f A outer cdv vs Q E rfl hr h, g, F.kp, b⟩
variable {X : Cx} {CX : CXT} {k : Nat} {ps : List Str} {sp : Sp} {E : XK} {x : Str} {p pos : Pos} {e : Expr} {es : List Expr} {t : TA}
theorem pe_callC (C : Cal X.prog X.w X.K X.mg X.base CX k x ps sp) (hr : Room k X.A) (hg : Gl X x) (hx : Passes CX X E) (ha : PA X (e :: es) t) (hdb : (x == ("__debug__" : Str)) = false := by decide)
    (he : starEach (e :: es) X.env = (false, eval e X.env) :: starEach es X.env := by rfl) (hpl : (backTo pos (starEach es X.env)).any (·.1) = false := by rfl) : PE X (.Call (.Name x p) (e :: es) [] pos) (tCall sp [] E t) := by
  obtain ⟨f, fd, F, g, kp, b⟩ := C.ex
  exact pe_call F hr hg g kp b .nil hx ha hdb he hpl
theorem pe_callC0 (C : Cal X.prog X.w X.K X.mg X.base CX k x ps sp) (hr : Room k X.A) (hg : Gl X x) (hx : Passes CX X E) (hdb : (x == ("__debug__" : Str)) = false := by decide) : PE X (.Call (.Name x p) [] [] pos) (tCall sp [] E tNil) := by
  obtain ⟨f, fd, F, g, kp, b⟩ := C.ex
  exact pe_call0 F hr hg g kp b .nil hx hdb
end
end Dl

set_option Elab.async false
set_option linter.all false
set_option maxRecDepth 100000
namespace Dl
open PySem PySem.Spec PyProof.Rows L2
theorem bt_len : bootBuiltins "len" = some (.builtin "len") := by decide +kernel
theorem bt_min : bootBuiltins "min" = some (.builtin "min") := by decide +kernel
theorem bt_max : bootBuiltins "max" = some (.builtin "max") := by decide +kernel
theorem bt_all : bootBuiltins "all" = some (.builtin "all") := by decide +kernel
theorem bt_any : bootBuiltins "any" = some (.builtin "any") := by decide +kernel
theorem bt_sum : bootBuiltins "sum" = some (.builtin "sum") := by decide +kernel
theorem bt_abs : bootBuiltins "abs" = some (.builtin "abs") := by decide +kernel
theorem bt_sorted : bootBuiltins "sorted" = some (.builtin "sorted") := by decide +kernel
theorem bt_isinstance : bootBuiltins "isinstance" = some (.builtin "isinstance") := by decide +kernel
theorem bt_int : bootBuiltins "int" = some (.type "int") := by decide +kernel
theorem bt_str : bootBuiltins "str" = some (.type "str") := by decide +kernel
theorem bt_bool : bootBuiltins "bool" = some (.type "bool") := by decide +kernel
theorem bt_list : bootBuiltins "list" = some (.type "list") := by decide +kernel
theorem bt_tuple : bootBuiltins "tuple" = some (.type "tuple") := by decide +kernel
theorem bt_dict : bootBuiltins "dict" = some (.type "dict") := by decide +kernel

/-! ### the steps of a reading -/
section
variable {σ : L2.St} {H G : Hp} {os : Ow} {Q : VK} {D : Ends} {K : PySem.W.Frag}
def DG (H : Hp) (x y : V) (Q : VK) : Prop := ∃ a v, x = .ref a ∧ DGet H a y (some v) ∧ Q v H
def DI (H : Hp) (x y : V) (Q : VK) : Prop := ∃ a o, x = .ref a ∧ DGet H a y o ∧ Q (.bl o.isSome) H
def DN (H : Hp) (x y : V) (Q : VK) : Prop := ∃ a o, x = .ref a ∧ DGet H a y o ∧ Q (.bl (!o.isSome)) H
def DP (H : Hp) (x y v : V) (R : Hp → Prop) : Prop := ∃ a H', x = .ref a ∧ DPut H a y v H' ∧ R H'
def TU (xs : List V) (H : Hp) (Q : VK) : Prop := xs.length ≤ sizeLine ∧ ∀ p, H p = none → Q (.ref p) (upd H p (.tup xs))
def LS (xs : List V) (H : Hp) (Q : VK) : Prop := xs.length ≤ sizeLine ∧ ∀ p, H p = none → Q (.ref p) (upd H p (.lst xs))
def NW (o : HO) (H : Hp) (Q : VK) : Prop := ∀ p, H p = none → Q (.ref p) (upd H p o)
def FO (J : It) (g : TG) (tb : TS) (D : Ends) (σ : L2.St) (H : Hp) : Prop := ∃ W : Nat → Nat → L2.St → Hp → Prop, (∃ m, W 0 m σ H) ∧ ∀ i m σ H, W i m σ H →
    (J.stop i H ∧ D.nx σ H) ∨ (J.go i H ∧ ∃ N : L2.St → Hp → Prop, (∀ σ' H', N σ' H' → ∃ m', m' < m ∧ W (i + 1) m' σ' H') ∧ ∀ x H', J.yld i H x H' → g x σ H' fun σ2 H2 => tb { D with nx := N, ct := N, bk := D.nx } σ2 H2)
theorem rep_int {i : Int} : rep G (.int i) i := rfl
theorem rep_str {i : Str} : rep G (.str i) i := rfl
theorem rep_bl {i : Bool} : rep G (.bl i) i := rfl
theorem rep_non : rep G .non () := rfl
theorem go_seq {t u : TS} (h : t { D with nx := u D } σ H) : tSeq t u D σ H := h
theorem go_next (h : D.nx σ H) : tNext D σ H := h
theorem go_asg {te : TE} {g : TG} (h : te σ H fun x H1 => g x σ H1 D.nx) : tAsg te g D σ H := h
theorem go_gname {i : Nat} {v : V} {R : L2.St → Hp → Prop} (h : R (σ.set i (some v)) H) : gName i v σ H R := h
theorem go_gnil {R : L2.St → Hp → Prop} (h : R σ H) : gNil [] σ H R := ⟨rfl, h⟩
theorem go_gcons {t : TG} {u : TGs} {v : V} {r : List V} {R : L2.St → Hp → Prop} (h : t v σ H fun σ' H' => u r σ' H' R) : gCons t u (v :: r) σ H R := ⟨v, r, rfl, h⟩
theorem go_gtup {n : Nat} {t : TGs} {a : Addr} {xs : List V} {R : L2.St → Hp → Prop} (hh : HH G os H) (e : G a = some (.tup xs)) (l : xs.length = n) (h : t xs σ H R) : gTup K n t (.ref a) σ H R := ⟨a, xs, rfl, SqT.of (hh.tup e), l, h⟩
theorem go_ret {te : TE} (h : te σ H D.rt) : tRet te D σ H := h
theorem go_retn (h : D.rt .non H) : tRetN D σ H := h
theorem go_drop {te : TE} (h : te σ H fun _ H1 => D.nx σ H1) : tDrop te D σ H := h
theorem go_ifs {c : TT} {t u : TS} (h : c σ H fun b H1 => if b = true then t D σ H1 else u D σ H1) : tIfS c t u D σ H := h
theorem go_var {i : Nat} {v : V} (e : σ[i]? = some (some v)) (h : Q v H) : tVar i σ H Q := ⟨v, e, h⟩
theorem go_c {v : V} (h : Q v H) : tC v σ H Q := h
theorem go_op {r : R2} {ta tb : TE} (h : ta σ H fun x H1 => tb σ H1 fun y H2 => r x y H2 Q) : tOp r ta tb σ H Q := h
theorem go_un {r : V → Hp → VK → Prop} {ta : TE} (h : ta σ H fun x H1 => r x H1 Q) : tUn r ta σ H Q := h
theorem go_test {t : TE} {R : Bool → Hp → Prop} (h : t σ H fun x H' => ∃ k, x = .bl k ∧ R k H') : tTest t σ H R := h
theorem go_tb {t : TE} {R : Bool → Hp → Prop} (h : t σ H fun x H' => ∃ k, x = .bl k ∧ R k H') : tB t σ H R := h
theorem go_bl {b : Bool} {R : Bool → Prop} (h : R b) : ∃ k, V.bl b = .bl k ∧ R k := ⟨b, rfl, h⟩
theorem go_rI0 {g : Int → Int → V} {i j : Int} (h : Q (g i j) H) : rI0 g (.int i) (.int j) H Q := ⟨i, j, rfl, rfl, h⟩
theorem go_rI {C : Int → Int → Prop} {g : Int → Int → V} {i j : Int} (c : C i j) (h : Q (g i j) H) : rI C g (.int i) (.int j) H Q := ⟨i, j, rfl, rfl, c, h⟩
theorem go_rU {g : Int → V} {i : Int} (h : Q (g i) H) : rU g (.int i) H Q := ⟨i, rfl, h⟩
theorem go_eqI {i j : Int} (h : Q (.bl (decide (i = j))) H) : rEq (.int i) (.int j) H Q := ⟨rfl, by rw [dec_int, Bool.beq_eq_decide_eq]; exact h⟩
theorem go_eqS {i j : Str} (h : Q (.bl (decide (i = j))) H) : rEq (.str i) (.str j) H Q := ⟨rfl, by rw [dec_str, Bool.beq_eq_decide_eq]; exact h⟩
theorem go_eqB {i j : Bool} (h : Q (.bl (decide (i = j))) H) : rEq (.bl i) (.bl j) H Q := ⟨rfl, by rw [dec_bl, Bool.beq_eq_decide_eq]; exact h⟩
theorem go_neI {i j : Int} (h : Q (.bl (!decide (i = j))) H) : rNe (.int i) (.int j) H Q := ⟨rfl, by rw [dec_int, Bool.beq_eq_decide_eq]; exact h⟩
theorem go_neS {i j : Str} (h : Q (.bl (!decide (i = j))) H) : rNe (.str i) (.str j) H Q := ⟨rfl, by rw [dec_str, Bool.beq_eq_decide_eq]; exact h⟩
theorem go_neB {i j : Bool} (h : Q (.bl (!decide (i = j))) H) : rNe (.bl i) (.bl j) H Q := ⟨rfl, by rw [dec_bl, Bool.beq_eq_decide_eq]; exact h⟩
theorem go_chain {r r' : R2} {ta tb tc : TE} (h : ta σ H fun x H1 => tb σ H1 fun y H2 => r x y H2 fun z H3 => ∃ k, z = .bl k ∧ if k = true then tc σ H3 fun u H4 => r' y u H4 Q else Q (.bl false) H3) : tChain r r' ta tb tc σ H Q := h
theorem go_and {t u : TT} {R : Bool → Hp → Prop} (h : t σ H fun c H1 => if c = true then u σ H1 R else R false H1) : tAnd t u σ H R := h
theorem go_or {t u : TT} {R : Bool → Hp → Prop} (h : t σ H fun c H1 => if c = true then R true H1 else u σ H1 R) : tOr t u σ H R := h
theorem go_not {t : TT} {R : Bool → Hp → Prop} (h : t σ H fun c H1 => R (!c) H1) : tNot t σ H R := h
theorem go_andv {ta tb : TE} (h : ta σ H fun x H1 => ∃ c, x = .bl c ∧ if c = true then tb σ H1 Q else Q (.bl false) H1) : tAndV ta tb σ H Q := h
theorem go_orv {ta tb : TE} (h : ta σ H fun x H1 => ∃ c, x = .bl c ∧ if c = true then Q (.bl true) H1 else tb σ H1 Q) : tOrV ta tb σ H Q := h
theorem go_notv {ta : TE} (h : ta σ H fun x H1 => ∃ c, x = .bl c ∧ Q (.bl (!c)) H1) : tNotV ta σ H Q := h
theorem go_if {t : TT} {ta tb : TE} (h : t σ H fun c H1 => if c = true then ta σ H1 Q else tb σ H1 Q) : tIf t ta tb σ H Q := h
theorem go_cons {ta : TE} {tr : TA} {R : List V → Hp → Prop} (h : ta σ H fun x H1 => tr σ H1 fun xs H2 => R (x :: xs) H2) : tCons ta tr σ H R := h
theorem go_nil {R : List V → Hp → Prop} (h : R [] H) : tNil σ H R := h
theorem go_call {sp : Sp} {E : XK} {t : TA} (h : t σ H fun vs H1 => sp vs H1 Q E) : tCall sp [] E t σ H Q := by
  unfold tCall
  simp only [List.append_nil]
  exact h
theorem go_tcb {r : List V → Hp → VK → Prop} {t : TA} (h : t σ H fun vs H1 => r vs H1 Q) : tCB r t σ H Q := h
theorem go_tbm {T : String} {r : V → List V → Hp → VK → Prop} {to : TE} {t : TA} (h : to σ H fun x H1 => tyV K T x H1 ∧ t σ H1 fun xs H2 => r x xs H2 Q) : tBM K T r to t σ H Q := h
theorem go_tbm0 {T : String} {r : V → List V → Hp → VK → Prop} {to : TE} (h : to σ H fun x H1 => tyV K T x H1 ∧ r x [] H1 Q) : tBM0 K T r to σ H Q := h
theorem go_ttup {t : TA} (h : t σ H fun xs H1 => TU xs H1 Q) : tTup t σ H Q := h
theorem go_tlst {t : TA} (h : t σ H fun xs H1 => LS xs H1 Q) : tLst t σ H Q := h
theorem go_dget {td ty : TE} (h : td σ H fun x H1 => ty σ H1 fun y H2 => DG H2 x y Q) : tDGet td ty σ H Q := h
theorem go_din {td ty : TE} (h : ty σ H fun y H1 => td σ H1 fun x H2 => DI H2 x y Q) : tDIn ty td σ H Q := h
theorem go_dnotin {td ty : TE} (h : ty σ H fun y H1 => td σ H1 fun x H2 => DN H2 x y Q) : tDNotIn ty td σ H Q := h
theorem go_dput {td ty tv : TE} (h : tv σ H fun v H1 => td σ H1 fun x H2 => ty σ H2 fun y H3 => DP H3 x y v fun H4 => D.nx σ H4) : sDPut td ty tv D σ H := h
theorem go_dnewk (h : NW (.dK []) H Q) : tDNewK σ H Q := h
theorem go_gsub {to ti : TE} {t : TSet} {v : V} {R : L2.St → Hp → Prop} (h : to σ H fun o H1 => ti σ H1 fun i H2 => t o i v H2 fun H3 => R σ H3) : gSub to ti t v σ H R := h
theorem go_aug {i : Nat} {te : TE} {ti : TIp} {x : V} (e : σ[i]? = some (some x)) (h : te σ H fun y H1 => ti x y H1 fun z H2 => D.nx (σ.set i (some z)) H2) : tAug i te ti D σ H := ⟨x, e, h⟩
theorem go_ip {f : Int → Int → Int} {i j : Int} (h : Q (.int (f i j)) H) : ipI f (.int i) (.int j) H Q := ⟨i, j, rfl, rfl, h⟩
theorem go_for {wi : TI} {g : TG} {tb : TS} (h : wi σ H fun J H1 => FO J g tb D σ H1) : tFor wi g tb D σ H := h
theorem go_rng1 {ta : TA} {R : It → Hp → Prop} (h : ta σ H fun vs H1 => ∃ j : Int, vs = [.int j] ∧ -(2 ^ 62) ≤ j ∧ j < 2 ^ 62 ∧ R (Itr 0 j.toNat) H1) : iRng1 ta σ H R := h
theorem go_rng2 {ta : TA} {R : It → Hp → Prop} (h : ta σ H fun vs H1 => ∃ i j : Int, vs = [.int i, .int j] ∧ (-(2 ^ 62) ≤ i ∧ i < 2 ^ 62 ∧ -(2 ^ 62) ≤ j ∧ j < 2 ^ 62) ∧ R (Itr i (j - i).toNat) H1) : iRng2 ta σ H R := h
theorem go_ilist {tl : TE} {R : It → Hp → Prop} (h : tl σ H fun x H1 => ∃ a, x = .ref a ∧ (∃ xs, SqL K H1 a xs) ∧ R (Itl K a) H1) : iList K tl σ H R := h
theorem go_iteD {p : Prop} [Decidable p] {A B : Prop} (h1 : p → A) (h2 : ¬ p → B) : if decide p = true then A else B := by
  by_cases h : p
  · rw [if_pos (decide_eq_true h)]; exact h1 h
  · rw [if_neg (fun z => h (of_decide_eq_true z))]; exact h2 h
theorem go_iteN {p : Prop} [Decidable p] {A B : Prop} (h1 : ¬ p → A) (h2 : p → B) : if (!decide p) = true then A else B := by
  by_cases h : p
  · rw [decide_eq_true h]; exact h2 h
  · rw [decide_eq_false h]; exact h1 h
theorem go_iteB {b : Bool} {A B : Prop} (h1 : b = true → A) (h2 : b = false → B) : if b = true then A else B := by
  cases b
  · exact h2 rfl
  · exact h1 rfl
theorem go_iteT {A B : Prop} (h : A) : if true = true then A else B := h
theorem go_iteF {A B : Prop} (h : B) : if false = true then A else B := h
/-! reading what stands in the heap -/
theorem go_ixL {a : Addr} {vs : List V} {i : Int} {v : V} (hh : HH G os H) (e : G a = some (.lst vs)) (x : atI vs i = some v) (h : Q v H) : rIxL K (.ref a) (.int i) H Q := ⟨a, vs, i, v, rfl, rfl, SqL.of (hh.lst e), x, h⟩
theorem go_ixLo {a : Addr} {vs : List V} {i : Int} {v : V} (hh : HH G ((a, .lst vs) :: os) H) (x : atI vs i = some v) (h : Q v H) : rIxL K (.ref a) (.int i) H Q := ⟨a, vs, i, v, rfl, rfl, SqL.of hh.get, x, h⟩
theorem go_ixT {a : Addr} {vs : List V} {i : Int} {v : V} (hh : HH G os H) (e : G a = some (.tup vs)) (x : atI vs i = some v) (h : Q v H) : rIxT K (.ref a) (.int i) H Q := ⟨a, vs, i, v, rfl, rfl, SqT.of (hh.tup e), x, h⟩
theorem ds_get {α : Type} [Rp α] {x : V} {d : DS α} {c : Str} (hh : HH G os H) (r : rep G x d) : ∃ a vs, x = .ref a ∧ Paired (KsR G) vs d.kvs ∧ DGet H a (.str c) (valV vs (Sum.inr c)) := by
  obtain ⟨a, vs, e, g, p⟩ := r
  exact ⟨a, vs, e, p, .inl ⟨vs, Sum.inr c, hh.rd g, rfl, rfl⟩⟩
theorem go_dsget {α : Type} [Rp α] {x : V} {d : DS α} {c : Str} {y : α} (hh : HH G os H) (r : rep G x d) (l : d.get c = some y) (h : ∀ v, rep G v y → Q v H) : DG H x (.str c) Q := by
  obtain ⟨a, vs, e, p, g⟩ := ds_get (c := c) hh r
  rcases ks_get c p with ⟨v, z, h1, h2, h3⟩ | ⟨h1, h2⟩
  · have l' : (DS.mk d.kvs).get c = some y := l
    rw [l'] at h2
    cases h2
    rw [h1] at g
    exact ⟨a, v, e, g, h v h3⟩
  · have l' : (DS.mk d.kvs).get c = some y := l
    rw [l'] at h2
    cases h2
theorem go_dsin {α : Type} [Rp α] {x : V} {d : DS α} {c : Str} (hh : HH G os H) (r : rep G x d) (h : Q (.bl (d.get c).isSome) H) : DI H x (.str c) Q := by
  obtain ⟨a, vs, e, p, g⟩ := ds_get (c := c) hh r
  refine ⟨a, _, e, g, ?_⟩
  rw [ks_any c p]
  exact h
/-! new things -/
theorem go_newS {o : HO} (hh : HH G os H) (h : ∀ p G' H', Same G G' → HH G' os H' → G' p = some o → Q (.ref p) H') : NW o H Q :=
  fun p n => h p _ _ (hh.sameG n) (hh.alloc n) upd_same
theorem go_newO {o : HO} (hh : HH G os H) (nt : isTp o = false) (h : ∀ p H', HH G ((p, o) :: os) H' → Q (.ref p) H') : NW o H Q :=
  fun p n => h p _ (hh.push n nt)
theorem small15 {n : Nat} (h : n ≤ 15) : n ≤ sizeLine := Nat.le_trans h (by decide)
theorem go_tup2 {α β : Type} [Rp α] [Rp β] {v1 v2 : V} {x : α} {y : β} (hh : HH G os H) (r1 : rep G v1 x) (r2 : rep G v2 y) (h : ∀ p G' H', Same G G' → HH G' os H' → rep G' (.ref p) (x, y) → Q (.ref p) H') :
    TU [v1, v2] H Q :=
  ⟨small15 (n := 2) (by decide), fun p n => h p _ _ (hh.sameG n) (hh.alloc n) ⟨p, v1, v2, rfl, upd_same, Rp.mono (hh.sameG n) r1, Rp.mono (hh.sameG n) r2⟩⟩
theorem go_tup3 {α β γ : Type} [Rp α] [Rp β] [Rp γ] {v1 v2 v3 : V} {x : α} {y : β} {z : γ} (hh : HH G os H) (r1 : rep G v1 x) (r2 : rep G v2 y) (r3 : rep G v3 z)
    (h : ∀ p G' H', Same G G' → HH G' os H' → rep G' (.ref p) (T3.mk x y z) → Q (.ref p) H') : TU [v1, v2, v3] H Q :=
  ⟨small15 (n := 3) (by decide), fun p n => h p _ _ (hh.sameG n) (hh.alloc n) ⟨p, v1, v2, v3, rfl, upd_same, Rp.mono (hh.sameG n) r1, Rp.mono (hh.sameG n) r2, Rp.mono (hh.sameG n) r3⟩⟩
theorem go_lstS {vs : List V} (hl : vs.length ≤ 15) (hh : HH G os H) (h : ∀ p G' H', Same G G' → HH G' os H' → G' p = some (.lst vs) → Q (.ref p) H') : LS vs H Q :=
  ⟨small15 hl, go_newS hh h⟩
theorem go_lstO {vs : List V} (hl : vs.length ≤ 15) (hh : HH G os H) (h : ∀ p H', HH G ((p, .lst vs) :: os) H' → Q (.ref p) H') : LS vs H Q :=
  ⟨small15 hl, go_newO hh rfl h⟩
/-- xs.append(y) of a list that is owned -/
theorem go_append {p : Addr} {xs : List V} {y : V} (hh : HH G ((p, .lst xs) :: os) H) (hl : xs.length < sizeLine) (h : ∀ H', HH G ((p, .lst (xs ++ [y])) :: os) H' → Q .non H') : rAppend (.ref p) [y] H Q :=
  ⟨p, xs, y, rfl, rfl, hh.get, hl, h _ (hh.put (.inr fun _ _ z => nomatch z))⟩
theorem ty_lstO {p : Addr} {xs : List V} (hh : HH G ((p, .lst xs) :: os) H) : tyV K "list" (.ref p) H := .inl ⟨rfl, _, SqL.of hh.get⟩
theorem ty_lst {p : Addr} {xs : List V} (hh : HH G os H) (e : G p = some (.lst xs)) : tyV K "list" (.ref p) H := .inl ⟨rfl, _, SqL.of (hh.lst e)⟩
/-! loops -/
/-- what holds ahead of each turn, said of what never changes and of what is owned -/
def Lp (G : Hp) (I : Nat → L2.St → Hp → Ow → Prop) (i : Nat) : L2.St → Hp → Prop := fun σ H => ∃ G' os', Same G G' ∧ HH G' os' H ∧ I i σ G' os'
theorem for_rngG {lo : Int} {n : Nat} {g : TG} {tb : TS} (I : Nat → L2.St → Hp → Ow → Prop) (hh : HH G os H) (h0 : I 0 σ G os)
    (hs : ∀ i σ G' os' H', i < n → Same G G' → HH G' os' H' → I i σ G' os' → g (.int (lo + i)) σ H' fun σ2 H2 => tb { D with nx := Lp G' I (i + 1), ct := Lp G' I (i + 1), bk := D.nx } σ2 H2)
    (hd : ∀ σ G' os' H', Same G G' → HH G' os' H' → I n σ G' os' → D.nx σ H') :
    FO (Itr lo n) g tb D σ H := by
  refine ⟨fun i m σ H => m = n - i ∧ i ≤ n ∧ Lp G I i σ H, ⟨n, by simp, Nat.zero_le _, G, os, Same.refl _, hh, h0⟩, ?_⟩
  rintro i m σ H ⟨rfl, hi, G', os', sm, hh', p⟩
  by_cases hlt : i < n
  · refine .inr ⟨hlt, Lp G' I (i + 1), fun σ' H' ⟨G2, os2, s2, h2, p'⟩ => ⟨n - (i + 1), by omega, rfl, hlt, G2, os2, sm.trans s2, h2, p'⟩, fun x H' y => ?_⟩
    obtain ⟨e, y⟩ := y
    subst e y
    exact hs i σ G' os' _ hlt sm hh' p
  · have e : i = n := by omega
    subst e
    exact .inl ⟨Nat.le_refl _, hd σ G' os' H sm hh' p⟩
/-- over a list that stands in SqL -/
theorem for_sqG {a : Addr} {xs : List V} {g : TG} {tb : TS} (I : Nat → L2.St → Hp → Ow → Prop) (hq : SqL K G a xs) (hh : HH G os H) (h0 : I 0 σ G os)
    (hs : ∀ i x σ G' os' H', xs[i]? = some x → Same G G' → HH G' os' H' → I i σ G' os' → g x σ H' fun σ2 H2 => tb { D with nx := Lp G' I (i + 1), ct := Lp G' I (i + 1), bk := D.nx } σ2 H2)
    (hd : ∀ σ G' os' H', Same G G' → HH G' os' H' → I xs.length σ G' os' → D.nx σ H') :
    FO (Itl K a) g tb D σ H := by
  refine ⟨fun i m σ H => m = xs.length - i ∧ i ≤ xs.length ∧ Lp G I i σ H, ⟨xs.length, by simp, Nat.zero_le _, G, os, Same.refl _, hh, h0⟩, ?_⟩
  rintro i m σ H ⟨rfl, hi, G', os', sm, hh', p⟩
  have q : SqL K H a xs := hh'.sq (sm.seq hq)
  by_cases hlt : i < xs.length
  · refine .inr ⟨⟨xs, xs[i], q, by simp [hlt]⟩, Lp G' I (i + 1), fun σ' H' ⟨G2, os2, s2, h2, p'⟩ => ⟨xs.length - (i + 1), by omega, rfl, hlt, G2, os2, sm.trans s2, h2, p'⟩, fun x H' y => ?_⟩
    obtain ⟨e, y⟩ := y
    subst e
    exact hs i x σ G' os' _ (y xs q) sm hh' p
  · have e : i = xs.length := by omega
    subst e
    exact .inl ⟨⟨xs, q, Nat.le_refl _⟩, hd σ G' os' H sm hh' p⟩
/-- over a list that is data -/
theorem for_repG {α : Type} [Rp α] {x : V} {xs : List α} {g : TG} {tb : TS} (I : Nat → L2.St → Hp → Ow → Prop) (r : rep G x xs) (hh : HH G os H) (h0 : I 0 σ G os)
    (hs : ∀ i v y σ G' os' H', xs[i]? = some y → rep G' v y → Same G G' → HH G' os' H' → I i σ G' os' → g v σ H' fun σ2 H2 => tb { D with nx := Lp G' I (i + 1), ct := Lp G' I (i + 1), bk := D.nx } σ2 H2)
    (hd : ∀ σ G' os' H', Same G G' → HH G' os' H' → I xs.length σ G' os' → D.nx σ H') :
    ∃ a, x = .ref a ∧ (∃ xs, SqL K H a xs) ∧ FO (Itl K a) g tb D σ H := by
  obtain ⟨a, vs, e, ga, p⟩ := r
  refine ⟨a, e, ⟨vs, SqL.of (hh.lst ga)⟩, ?_⟩
  refine for_sqG I (SqL.of ga) hh h0 (fun i x σ G' os' H' hx sm hh' q => ?_) (fun σ G' os' H' sm hh' q => ?_)
  · obtain ⟨y, hy, ry⟩ := pr_get p hx
    exact hs i x y σ G' os' H' hy (Rp.mono sm ry) sm hh' q
  · rw [pr_len p] at q
    exact hd σ G' os' H' sm hh' q
end
end Dl
namespace Dl
open PySem PySem.Spec PyProof.Rows L2
theorem go_start {n : List Str} {vs : List V} {σ : L2.St} {t : TS} {D : Ends} {H : Hp} (e : start n vs = σ) (h : t D σ H) : t D (start n vs) H := e ▸ h
theorem Same.get1 {G G' : Hp} {a : Addr} {o : HO} (s : Same G G') (h : G a = some o) : G' a = some o := s a o h
end Dl

set_option Elab.async false
set_option linter.all false
set_option maxRecDepth 100000
namespace Dl
open PySem PySem.Spec PyProof.Rows L2
section
variable {σ : L2.St} {H G : Hp} {os : Ow} {Q : VK} {D : Ends} {K : PySem.W.Frag}
/-! ### comprehensions over data -/
def LO (J : It) (g : TG) (tt : TT) (te : TE) (vs : List Nat) (σ : L2.St) (H1 : Hp) (Q : VK) : Prop := ∀ D, H1 D = none → ∃ W : Nat → Nat → Hp → Prop, (∃ m, W 0 m (upd H1 D (.lst []))) ∧ ∀ i m H, W i m H →
  (J.stop i H ∧ Q (.ref D) H) ∨ (J.go i H ∧ ∃ Nx : Hp → Prop, (∀ H', Nx H' → ∃ m', m' < m ∧ W (i + 1) m' H') ∧ ∀ x H', J.yld i H x H' → g x (wipe σ vs) H' fun σ2 H2 => wipe σ2 vs = wipe σ vs ∧ tt σ2 H2 fun b H3 =>
    if b = true then te σ2 H3 fun y H4 => ∃ acc, H4 D = some (.lst acc) ∧ acc.length < sizeLine ∧ Nx (upd H4 D (.lst (acc ++ [y]))) else Nx H3)
theorem go_lc {wi : TI} {g : TG} {tt : TT} {te : TE} {vs : List Nat} (h : wi σ H fun J H1 => LO J g tt te vs σ H1 Q) : tLc wi g tt te vs σ H Q := h
theorem go_yes {R : Bool → Hp → Prop} (h : R true H) : tYes σ H R := h
def LcN {β : Type} [Rp β] (G : Hp) (A : Addr) (os : Ow) (ys : List β) (H : Hp) : Prop := ∃ G' vs, Same G G' ∧ HH G' ((A, .lst vs) :: os) H ∧ Paired (rep G') vs ys
def LcE {β : Type} [Rp β] (G : Hp) (A : Addr) (os : Ow) (ys : List β) (w : V) (H : Hp) : Prop := ∃ acc, H A = some (.lst acc) ∧ acc.length < sizeLine ∧ LcN G A os ys (upd H A (.lst (acc ++ [w])))
theorem go_lce {β : Type} [Rp β] {G4 : Hp} {A : Addr} {vs : List V} {ys : List β} {z : β} {w : V} (hh : HH G4 ((A, .lst vs) :: os) H) (sm : Same G G4) (r : Paired (rep G4) vs ys) (rw : rep G4 w z) (hl : ys.length < sizeLine) : LcE G A os (ys ++ [z]) w H :=
  ⟨vs, hh.get, by rw [pr_len r]; exact hl, G4, vs ++ [w], sm, hh.put (.inr fun _ _ z => nomatch z), pr_snoc r rw⟩
theorem go_lcn {β : Type} [Rp β] {G4 : Hp} {A : Addr} {vs : List V} {ys : List β} (hh : HH G4 ((A, .lst vs) :: os) H) (sm : Same G G4) (r : Paired (rep G4) vs ys) : LcN G A os ys H := ⟨G4, vs, sm, hh, r⟩
theorem take_succ_flat {α β : Type} (sel : α → List β) : ∀ {xs : List α} {i : Nat} {y : α}, xs[i]? = some y → (xs.take (i + 1)).flatMap sel = (xs.take i).flatMap sel ++ sel y
  | [], _, _, h => by simp at h
  | x :: xs, 0, y, h => by
    have e : x = y := by simpa using h
    subst e
    simp
  | x :: xs, i + 1, y, h => by
    have h' : xs[i]? = some y := by simpa using h
    have ih := take_succ_flat sel h'
    simp only [List.take_succ_cons, List.flatMap_cons, ih, List.append_assoc]
/-- [e for x in xs if t], xs a list of data: each item brings sel of it -/
theorem lc_selO {α β : Type} [Rp α] [Rp β] (sel : α → List β) {g : TG} {tt : TT} {te : TE} {ws : List Nat} {x : V} {xs : List α} (r : rep G x xs) (hh : HH G os H)
    (hs : ∀ i v y G' vs ys H' A, xs[i]? = some y → rep G' v y → Same G G' → HH G' ((A, .lst vs) :: os) H' → Paired (rep G') vs ys → ys = (xs.take i).flatMap sel →
      g v (wipe σ ws) H' fun σ2 H2 => wipe σ2 ws = wipe σ ws ∧ tt σ2 H2 fun b H3 => if b = true then te σ2 H3 fun w H4 => LcE G' A os (ys ++ sel y) w H4 else LcN G' A os (ys ++ sel y) H3)
    (h : ∀ A G' vs H', Same G G' → HH G' ((A, .lst vs) :: os) H' → Paired (rep G') vs (xs.flatMap sel) → Q (.ref A) H') :
    ∃ a, x = .ref a ∧ (∃ xs, SqL K H a xs) ∧ LO (Itl K a) g tt te ws σ H Q := by
  obtain ⟨a, vs0, rfl, ga, p⟩ := r
  refine ⟨a, rfl, ⟨vs0, SqL.of (hh.lst ga)⟩, fun A nA => ?_⟩
  refine ⟨fun i m H => m = vs0.length - i ∧ i ≤ vs0.length ∧ LcN G A os ((xs.take i).flatMap sel) H, ⟨vs0.length, by simp, Nat.zero_le _, G, [], Same.refl _, hh.push nA, .nil⟩, ?_⟩
  rintro i m H' ⟨rfl, hi, G', vs, sm, hh', pr⟩
  have q : SqL K H' a vs0 := hh'.sq (sm.seq (SqL.of ga))
  by_cases hlt : i < vs0.length
  · have hlt2 : i < xs.length := by rw [← pr_len p]; exact hlt
    obtain ⟨y, hy⟩ : ∃ y, xs[i]? = some y := ⟨_, List.getElem?_eq_getElem hlt2⟩
    refine .inr ⟨⟨vs0, vs0[i], q, by simp [hlt]⟩, LcN G' A os ((xs.take i).flatMap sel ++ sel y), fun H2 ⟨G2, v2, s2, h2, p2⟩ => ⟨vs0.length - (i + 1), by omega, rfl, hlt, G2, v2, sm.trans s2, h2, by rw [take_succ_flat sel hy]; exact p2⟩, fun v H2 yy => ?_⟩
    obtain ⟨rfl, yy⟩ := yy
    obtain ⟨z, hz, rz⟩ := pr_get p (yy vs0 q)
    have e : y = z := Option.some.inj (hy.symm.trans hz)
    subst e
    exact hs i v y G' vs _ _ A hy (Rp.mono sm rz) sm hh' pr rfl
  · have e : i = vs0.length := by omega
    subst e
    rw [pr_len p, List.take_length] at pr
    exact .inl ⟨⟨vs0, q, Nat.le_refl _⟩, h A G' vs H' sm hh' pr⟩
/-- .. its list given over to what never changes -/
theorem lc_selS {α β : Type} [Rp α] [Rp β] (sel : α → List β) {g : TG} {tt : TT} {te : TE} {ws : List Nat} {x : V} {xs : List α} (r : rep G x xs) (hh : HH G os H)
    (hs : ∀ i v y G' vs ys H' A, xs[i]? = some y → rep G' v y → Same G G' → HH G' ((A, .lst vs) :: os) H' → Paired (rep G') vs ys → ys = (xs.take i).flatMap sel →
      g v (wipe σ ws) H' fun σ2 H2 => wipe σ2 ws = wipe σ ws ∧ tt σ2 H2 fun b H3 => if b = true then te σ2 H3 fun w H4 => LcE G' A os (ys ++ sel y) w H4 else LcN G' A os (ys ++ sel y) H3)
    (h : ∀ A G' H', Same G G' → HH G' os H' → rep G' (.ref A) (xs.flatMap sel) → Q (.ref A) H') :
    ∃ a, x = .ref a ∧ (∃ xs, SqL K H a xs) ∧ LO (Itl K a) g tt te ws σ H Q :=
  lc_selO sel r hh hs fun A G' vs H' sm hh' p => by
    have gn := hh'.gnone (.inr fun _ _ z => nomatch z)
    have sg : Same G' (upd G' A (.lst vs)) := same_upd gn
    exact h A _ H' (sm.trans sg) (hh'.give (.inr fun _ _ z => nomatch z)) ⟨A, vs, rfl, upd_same, paired_mono sg p⟩
theorem flatMap_one {α β : Type} (f : α → β) : ∀ xs : List α, xs.flatMap (fun x => [f x]) = xs.map f
  | [] => rfl
  | x :: xs => by rw [List.flatMap_cons, flatMap_one f xs]; rfl
/-- [e for x in xs] -/
theorem lc_mapS {α β : Type} [Rp α] [Rp β] (f : α → β) {g : TG} {te : TE} {ws : List Nat} {x : V} {xs : List α} (r : rep G x xs) (hh : HH G os H)
    (hs : ∀ (i : Nat) v y G' vs ys H' A, xs[i]? = some y → rep G' v y → Same G G' → HH G' ((A, .lst vs) :: os) H' → Paired (rep G') vs ys → ys.length < xs.length →
      g v (wipe σ ws) H' fun σ2 H2 => wipe σ2 ws = wipe σ ws ∧ tYes σ2 H2 fun b H3 => if b = true then te σ2 H3 fun w H4 => LcE G' A os (ys ++ [f y]) w H4 else LcN G' A os (ys ++ [f y]) H3)
    (h : ∀ A G' H', Same G G' → HH G' os H' → rep G' (.ref A) (xs.map f) → Q (.ref A) H') :
    ∃ a, x = .ref a ∧ (∃ xs, SqL K H a xs) ∧ LO (Itl K a) g tYes te ws σ H Q := by
  refine lc_selS (fun y => [f y]) r hh (fun i v y G' vs ys H' A hy ry sm hh' pr e => hs i v y G' vs ys H' A hy ry sm hh' pr ?_) (fun A G' H' sm hh' q => h A G' H' sm hh' (by rw [← flatMap_one]; exact q))
  rw [e, flatMap_one, List.length_map, List.length_take]
  have := (List.getElem?_eq_some_iff.mp hy).1
  omega
end
end Dl
namespace Dl
open PySem PySem.Spec PyProof.Rows L2
theorem small15k {n : Nat} (h : n ≤ 15000) : n < sizeLine := Nat.lt_of_le_of_lt h (by decide)
end Dl

set_option Elab.async false
set_option linter.all false
set_option maxRecDepth 100000
namespace Dl
open PySem PySem.Spec PyProof.Rows L2
section
variable {X : Cx} {σ : L2.St} {H G : Hp} {os : Ow} {Q : VK} {D : Ends} {K : PySem.W.Frag}
/-! ### built-ins, by names -/
def rLen (K : PySem.W.Frag) : List V → Hp → VK → Prop := fun xs H Q => ∃ p ys, xs = [.ref p] ∧ (SqL K H p ys ∨ SqT K H p ys) ∧ Q (.int ys.length) H
theorem cl_len : CallR X (.builtin "len") (rLen X.K) := call_len_seq
def rLenS : List V → Hp → VK → Prop := fun xs H Q => ∃ z, xs = [.str z] ∧ z.length ≤ sizeLine ∧ Q (.int z.length) H
theorem cl_lenS : CallR X (.builtin "len") rLenS := call_len_str
def rLenD : List V → Hp → VK → Prop := fun xs H Q => ∃ a kvs, xs = [V.ref a] ∧ H a = some (.dK kvs) ∧ Q (.int kvs.length) H
theorem cl_lenD : CallR X (.builtin "len") rLenD := call_lenD
def rMin2 : List V → Hp → VK → Prop := fun xs H Q => ∃ i j, xs = [.int i, .int j] ∧ Q (.int (min i j)) H
def rMax2 : List V → Hp → VK → Prop := fun xs H Q => ∃ i j, xs = [.int i, .int j] ∧ Q (.int (max i j)) H
theorem CallR.imp {f : Value} {r r' : List V → Hp → VK → Prop} (h : CallR X f r) (i : ∀ xs H Q, r' xs H Q → r xs H Q) : CallR X f r' := fun pins s σ H xs us Q I rr hq => h pins s σ H xs us Q I rr (i _ _ _ hq)
theorem cl_min2 (hc : X.calm = true) : CallR X (.builtin "min") rMin2 := CallR.imp (call_min2 hc) fun xs H Q ⟨i, j, e, q⟩ => ⟨i, j, e, by
  have : (if j < i then j else i) = min i j := by omega
  rw [this]; exact q⟩
theorem cl_max2 (hc : X.calm = true) : CallR X (.builtin "max") rMax2 := CallR.imp (call_max2 hc) fun xs H Q ⟨i, j, e, q⟩ => ⟨i, j, e, by
  have : (if j > i then j else i) = max i j := by omega
  rw [this]; exact q⟩
def rInt1 : List V → Hp → VK → Prop := fun xs H Q => ∃ i, xs = [.int i] ∧ Q (.int i) H
theorem cl_int : CallR X (.type "int") rInt1 := CallR.imp call_int1 fun _ _ _ h => .inl h
def rIntB : List V → Hp → VK → Prop := fun xs H Q => ∃ k, xs = [.bl k] ∧ Q (.int (if k then 1 else 0)) H
theorem cl_intB : CallR X (.type "int") rIntB := CallR.imp call_int1 fun _ _ _ h => .inr h
def rStrI : List V → Hp → VK → Prop := fun xs H Q => ∃ i : Int, xs = [.int i] ∧ i.natAbs.log2 < 1920 ∧ Q (.str (toString i)) H
theorem cl_str : CallR X (.type "str") rStrI := call_str_int
def rAbs : List V → Hp → VK → Prop := fun xs H Q => ∃ i, xs = [.int i] ∧ Q (.int (if i < 0 then -i else i)) H
theorem cl_abs : CallR X (.builtin "abs") rAbs := call_abs
def rListOf (K : PySem.W.Frag) : List V → Hp → VK → Prop := fun xs H Q => ∃ p ys, xs = [.ref p] ∧ (SqL K H p ys ∨ SqT K H p ys) ∧ NW (.lst ys) H Q
theorem cl_list : CallR X (.type "list") (rListOf X.K) := call_list_of
theorem go_len {p : Addr} {ys : List V} (s : SqL K H p ys) (h : Q (.int ys.length) H) : rLen K [.ref p] H Q := ⟨p, ys, rfl, .inl s, h⟩
theorem go_lenO {p : Addr} {ys : List V} (hh : HH G ((p, .lst ys) :: os) H) (h : Q (.int ys.length) H) : rLen K [.ref p] H Q := go_len (SqL.of hh.get) h
theorem go_lenR {α : Type} [Rp α] {v : V} {xs : List α} (hh : HH G os H) (r : rep G v xs) (h : Q (.int xs.length) H) : rLen K [v] H Q := by
  obtain ⟨a, vs, rfl, g, p⟩ := r
  refine go_len (SqL.of (hh.lst g)) ?_
  rw [pr_len p]
  exact h
theorem go_min2 {i j : Int} (h : Q (.int (min i j)) H) : rMin2 [.int i, .int j] H Q := ⟨i, j, rfl, h⟩
theorem go_max2 {i j : Int} (h : Q (.int (max i j)) H) : rMax2 [.int i, .int j] H Q := ⟨i, j, rfl, h⟩
theorem go_int1 {i : Int} (h : Q (.int i) H) : rInt1 [.int i] H Q := ⟨i, rfl, h⟩
theorem go_intB {k : Bool} (h : Q (.int (if k then 1 else 0)) H) : rIntB [.bl k] H Q := ⟨k, rfl, h⟩
theorem go_ixR {α : Type} [Rp α] {v : V} {xs : List α} {i : Int} {j : Nat} {y : α} (hh : HH G os H) (r : rep G v xs) (e : i = (j : Int)) (hy : xs[j]? = some y) (h : ∀ u, rep G u y → Q u H) : rIxL K v (.int i) H Q := by
  obtain ⟨a, vs, rfl, g, p⟩ := r
  obtain ⟨u, hu, ru⟩ := pr_get2 p hy
  subst e
  exact ⟨a, vs, (j : Int), u, rfl, rfl, SqL.of (hh.lst g), atI_nat hu, h u ru⟩
theorem go_set {p : Addr} {xs : List V} {k : Int} {j : Nat} {v : V} {R : Hp → Prop} (hh : HH G ((p, .lst xs) :: os) H) (e : ixN xs.length k = some j) (h : ∀ H', HH G ((p, .lst (xs.set j v)) :: os) H' → R H') : rSetL (.ref p) (.int k) v H R :=
  ⟨p, xs, k, j, rfl, rfl, hh.get, e, h _ (hh.put (.inr fun _ _ z => nomatch z))⟩
/-- isinstance of a bool -/
theorem go_isbool {b : Bool} (h : Q (.bl true) H) : rIsi K [.bl b, .ty "bool"] H Q := ⟨.bl b, .ty "bool", .type "bool", .type "bool", true, rfl, .ty _, .base (.bl _), kit_ty (by decide +kernel), h⟩
theorem go_isbl {a b : Bool} (h : Q (.bl (decide (a = b))) H) : rIsB (.bl a) (.bl b) H Q := ⟨a, b, rfl, rfl, h⟩
/-- a dict written out -/
theorem go_disp {trs : List (TE × TE)} (h : ∀ p H', H p = none → H' = upd H p (.dK []) → tPairs trs σ H' fun ps H2 => H2 p = some (.dK []) ∧ ∃ kvs : List (Key × V), ps = kvs.map (fun kv => (kV kv.1, kv.2)) ∧ kvs.length ≤ 15 ∧ Q (.ref p) (upd H2 p (.dK (mergeK [] kvs)))) : tDisp trs σ H Q :=
  fun p n => h p _ n rfl
/-- signs of a written text -/
theorem go_ixS {z : Str} {i : Int} {j : Nat} {c : Nat} (l : z.length ≤ sizeLine) (e : i = (j : Int)) (hc : z.cps.toList[j]? = some c) (h : Q (.str ⟨#[c]⟩) H) : rIxS (.str z) (.int i) H Q := by
  subst e
  exact ⟨z, _, c, rfl, rfl, l, atI_nat hc, h⟩

/-! ### the box of draws: its list of numbers, and how many are drawn -/
def Bx (G : Hp) (y : HO) : Prop := ∃ (dg : V) (ns : List Int) (at_ : Int), y = .lst [dg, .int at_] ∧ rep G dg ns ∧ 0 ≤ at_
theorem Bx.mono {G G' : Hp} {y : HO} (s : Same G G') (h : Bx G y) : Bx G' y := by
  obtain ⟨dg, ns, a, e, r, n⟩ := h
  exact ⟨dg, ns, a, e, Rp.mono s r, n⟩
inductive R_draw : Hp → Ow → List V → (Hp → Ow → V → Prop) → Prop
  | mk {G : Hp} {b : Addr} {y : HO} {m : Int} : Bx G y → 0 < m → R_draw G [(b, y)] [.ref b, .int m] fun G' ow' v => ∃ y' k, ow' = [(b, y')] ∧ Bx G' y' ∧ v = .int k ∧ 0 ≤ k ∧ k < m
abbrev sp_law_draw : Sp := spG R_draw
theorem go_draw {b : Addr} {y : HO} {m : Int} {E : XK} (hh : HH G ((b, y) :: os) H) (hb : Bx G y) (hm : 0 < m) (h : ∀ G' H' y' k, Same G G' → HH G' ((b, y') :: os) H' → Bx G' y' → 0 ≤ k → k < m → Q (.int k) H') : spG R_draw [.ref b, .int m] H Q E :=
  go_G (ow := [(b, y)]) hh (.mk hb hm) fun G' H' ow' v sm hh' ⟨y', k, e, hb', ev, k0, k1⟩ => by
    subst e ev
    exact h G' H' y' k sm hh' hb' k0 k1
end
end Dl
namespace Dl
open PySem PySem.Spec PyProof.Rows L2
section
variable {R : It → Hp → Prop} {H : Hp}
def RG1 (vs : List V) (H : Hp) (R : It → Hp → Prop) : Prop := ∃ j : Int, vs = [.int j] ∧ -(2 ^ 62) ≤ j ∧ j < 2 ^ 62 ∧ R (Itr 0 j.toNat) H
def RG2 (vs : List V) (H : Hp) (R : It → Hp → Prop) : Prop := ∃ i j : Int, vs = [.int i, .int j] ∧ (-(2 ^ 62) ≤ i ∧ i < 2 ^ 62 ∧ -(2 ^ 62) ≤ j ∧ j < 2 ^ 62) ∧ R (Itr i (j - i).toNat) H
theorem go_rg1 {ta : TA} {σ : L2.St} (h : ta σ H fun vs H1 => RG1 vs H1 R) : iRng1 ta σ H R := h
theorem go_rg2 {ta : TA} {σ : L2.St} (h : ta σ H fun vs H1 => RG2 vs H1 R) : iRng2 ta σ H R := h
theorem go_rgk {j : Int} (h1 : -1000000000 ≤ j) (h2 : j ≤ 1000000000) (h : R (Itr 0 j.toNat) H) : RG1 [.int j] H R := ⟨j, rfl, by omega, by omega, h⟩
theorem go_rgk2 {i j : Int} (h1 : -1000000000 ≤ i) (h2 : i ≤ 1000000000) (h3 : -1000000000 ≤ j) (h4 : j ≤ 1000000000) (h : R (Itr i (j - i).toNat) H) : RG2 [.int i, .int j] H R := ⟨i, j, rfl, ⟨by omega, by omega, by omega, by omega⟩, h⟩
end
end Dl
namespace Dl
open PySem PySem.Spec PyProof.Rows L2
section
variable {t u : TS} {D : Ends} {σ : L2.St} {H : Hp}
theorem go_seqU (h : ∀ U : L2.St → Hp → Prop, u D = U → t { D with nx := U } σ H) : tSeq t u D σ H := h _ rfl
theorem go_seqA {te : TE} {g : TG} (h : tAsg te g { D with nx := u D } σ H) : tSeq (tAsg te g) u D σ H := h
theorem go_seqD {te : TE} (h : tDrop te { D with nx := u D } σ H) : tSeq (tDrop te) u D σ H := h
theorem go_seqF {wi : TI} {g : TG} {tb : TS} (h : tFor wi g tb { D with nx := u D } σ H) : tSeq (tFor wi g tb) u D σ H := h
theorem go_seqP {td ty tv : TE} (h : sDPut td ty tv { D with nx := u D } σ H) : tSeq (sDPut td ty tv) u D σ H := h
theorem go_seqG {i : Nat} {te : TE} {ti : TIp} (h : tAug i te ti { D with nx := u D } σ H) : tSeq (tAug i te ti) u D σ H := h
end
end Dl

set_option Elab.async false
set_option linter.all false
set_option maxRecDepth 100000
namespace Dl
open PySem PySem.Spec PyProof.Rows L2
section
variable {X : Cx} {σ : L2.St} {H G : Hp} {os : Ow} {Q : VK} {D : Ends} {K : PySem.W.Frag}
def DE (p : Addr) (ps : List (V × V)) (Q : VK) (H2 : Hp) : Prop := H2 p = some (.dK []) ∧ ∃ kvs : List (Key × V), ps = kvs.map (fun kv => (kV kv.1, kv.2)) ∧ kvs.length ≤ 15 ∧ Q (.ref p) (upd H2 p (.dK (mergeK [] kvs)))
theorem go_dispO {trs : List (TE × TE)} (hh : HH G os H) (h : ∀ p H1, HH G ((p, .dK []) :: os) H1 → tPairs trs σ H1 fun ps H2 => DE p ps Q H2) : tDisp trs σ H Q := fun p n => h p _ (hh.push n)
theorem go_de {p : Addr} {ps : List (V × V)} {H2 : Hp} (kvs : List (Key × V)) (hh : HH G ((p, .dK []) :: os) H2) (e : ps = kvs.map (fun kv => (kV kv.1, kv.2))) (l : kvs.length ≤ 15)
    (h : ∀ G' H', Same G G' → HH G' os H' → G' p = some (.dK (mergeK [] kvs)) → Q (.ref p) H') : DE p ps Q H2 := by
  refine ⟨hh.get, kvs, e, l, ?_⟩
  have h1 := hh.put (o' := .dK (mergeK [] kvs)) (.inl rfl)
  exact h _ _ (same_upd (h1.gnone (.inl rfl))) (h1.give (.inl rfl)) upd_same
theorem go_ppc {tk tv : TE} {r : List (TE × TE)} {R : List (V × V) → Hp → Prop} (h : tk σ H fun x H1 => tv σ H1 fun y H2 => tPairs r σ H2 fun ps H3 => R ((x, y) :: ps) H3) : tPairs ((tk, tv) :: r) σ H R := h
theorem go_ppn {R : List (V × V) → Hp → Prop} (h : R [] H) : tPairs [] σ H R := h
theorem go_iteNT {A B : Prop} (h : B) : if (!true) = true then A else B := h
theorem go_iteNF {A B : Prop} (h : A) : if (!false) = true then A else B := h
theorem HH.rot {o1 o2 o3 : HO} {a b c : Addr} (h : HH G ((a, o1) :: (b, o2) :: (c, o3) :: os) H) : HH G ((c, o3) :: (a, o1) :: (b, o2) :: os) H := by
  refine h.perm ?_
  exact (List.Perm.cons _ (List.Perm.swap _ _ _)).trans (List.Perm.swap _ _ _)
theorem HH.give1 {p : Addr} {xs : List V} (h : HH G ((p, .lst xs) :: os) H) : ∃ G', Same G G' ∧ HH G' os H ∧ G' p = some (.lst xs) :=
  ⟨_, same_upd (h.gnone (.inr fun _ _ z => nomatch z)), h.give (.inr fun _ _ z => nomatch z), upd_same⟩
theorem HH.giveR {α : Type} [Rp α] {p : Addr} {vs : List V} {xs : List α} (h : HH G ((p, .lst vs) :: os) H) (r : Paired (rep G) vs xs) : ∃ G', Same G G' ∧ HH G' os H ∧ rep G' (.ref p) xs := by
  obtain ⟨G', s, h', e⟩ := h.give1
  exact ⟨G', s, h', p, vs, rfl, e, paired_mono s r⟩
theorem HH.giveD {p : Addr} {o : HO} (h : HH G ((p, o) :: os) H) (d : isDk o = true) : ∃ G', Same G G' ∧ HH G' os H ∧ G' p = some o :=
  ⟨_, same_upd (h.gnone (.inl d)), h.give (.inl d), upd_same⟩
end
end Dl
namespace Dl
open PySem PySem.Spec PyProof.Rows L2
theorem mergeK_app : ∀ (more acc : List (Key × V)), ((acc ++ more).map (·.1)).Nodup → mergeK acc more = acc ++ more
  | [], acc, _ => by rw [List.append_nil]; rfl
  | kv :: r, acc, h => by
    have h0 : valV acc kv.1 = none := by
      cases q : valV acc kv.1 with
      | none => rfl
      | some v =>
        have m := valV_in q
        rw [List.map_append, List.map_cons] at h
        have d := (List.nodup_append.mp h).2.2 _ m kv.1 (List.mem_cons_self ..)
        exact absurd rfl d
    show mergeK (putK acc kv.1 kv.2) r = _
    rw [putK_new kv.2 h0, mergeK_app r _ (by rw [List.append_assoc]; exact h), List.append_assoc]
    rfl
theorem mergeK_nd {kvs : List (Key × V)} (h : (kvs.map (·.1)).Nodup) : mergeK [] kvs = kvs := mergeK_app kvs [] h
end Dl

set_option Elab.async false
set_option linter.all false
set_option maxRecDepth 100000
namespace Sl
open PySem PySem.Spec PyProof.Rows L2 Dl

/-! ### kinds of data, told one by one -/
structure Ty (α : Type) where
  rep : Hp → V → α → Prop
  mono : ∀ {G G' : Hp} {v : V} {x : α}, Same G G' → rep G v x → rep G' v x
/-- what a value may be: frozen data, or a thing with cells of its own -/
structure Sh where
  p : Hp → Ow → V → Prop
  mono : ∀ {G G' : Hp} {o : Ow} {v : V}, Same G G' → p G o v → p G' o v
  nf : ∀ {G : Hp} {o : Ow} {v : V}, p G o v → ∀ c ∈ o, isFr c.2 = false
def fz {α : Type} (τ : Ty α) (x : α) : Sh := ⟨fun G o v => o = [] ∧ τ.rep G v x, fun s h => ⟨h.1, τ.mono s h.2⟩, fun h c hc => by rw [h.1] at hc; cases hc⟩
/-- the slots: none of what is not looked at any more -/
abbrev Ct := List (Option Sh)
def StA : Ct → L2.St → Hp → Ow → Prop
  | [], σ, _, os => σ = [] ∧ os = []
  | none :: Γ, x :: σ, G, os => StA Γ σ G os
  | some s :: Γ, x :: σ, G, os => ∃ v o1 o2, x = some v ∧ os = o1 ++ o2 ∧ s.p G o1 v ∧ StA Γ σ G o2
  | _ :: _, [], _, _ => False
theorem StA.mono {G G' : Hp} (sm : Same G G') : ∀ {Γ : Ct} {σ : L2.St} {os : Ow}, StA Γ σ G os → StA Γ σ G' os
  | [], _, _, h => h
  | none :: Γ, _ :: σ, _, h => StA.mono (Γ := Γ) sm h
  | some s :: Γ, _ :: σ, _, ⟨v, o1, o2, e1, e2, h1, h2⟩ => ⟨v, o1, o2, e1, e2, s.mono sm h1, StA.mono sm h2⟩
theorem StA.nf {G : Hp} : ∀ {Γ : Ct} {σ : L2.St} {os : Ow}, StA Γ σ G os → ∀ c ∈ os, isFr c.2 = false
  | [], _, _, h, c, hc => by rw [h.2] at hc; cases hc
  | none :: Γ, _ :: σ, _, h, c, hc => StA.nf (Γ := Γ) h c hc
  | some s :: Γ, _ :: σ, _, ⟨v, o1, o2, e1, e2, h1, h2⟩, c, hc => by
    subst e2
    rcases List.mem_append.mp hc with hc | hc
    · exact s.nf h1 c hc
    · exact StA.nf h2 c hc
/-- values side by side -/
def Shs : List Sh → Hp → Ow → List V → Prop
  | [], _, o, vs => vs = [] ∧ o = []
  | s :: ss, G, o, vs => ∃ v vr o1 o2, vs = v :: vr ∧ o = o1 ++ o2 ∧ s.p G o1 v ∧ Shs ss G o2 vr
theorem Shs.mono {G G' : Hp} (sm : Same G G') : ∀ {ss : List Sh} {o : Ow} {vs : List V}, Shs ss G o vs → Shs ss G' o vs
  | [], _, _, h => h
  | s :: ss, _, _, ⟨v, vr, o1, o2, e1, e2, h1, h2⟩ => ⟨v, vr, o1, o2, e1, e2, s.mono sm h1, Shs.mono sm h2⟩
theorem Shs.nf : ∀ {ss : List Sh} {G : Hp} {o : Ow} {vs : List V}, Shs ss G o vs → ∀ c ∈ o, isFr c.2 = false
  | [], _, _, _, h, c, hc => by rw [h.2] at hc; cases hc
  | s :: ss, _, _, _, ⟨v, vr, o1, o2, e1, e2, h1, h2⟩, c, hc => by
    subst e2
    rcases List.mem_append.mp hc with hc | hc
    · exact s.nf h1 c hc
    · exact Shs.nf h2 c hc
theorem Shs.len : ∀ {ss : List Sh} {G : Hp} {o : Ow} {vs : List V}, Shs ss G o vs → vs.length = ss.length
  | [], _, _, _, ⟨e, _⟩ => by rw [e]; rfl
  | s :: ss, _, _, _, ⟨v, vr, o1, o2, e1, e2, h1, h2⟩ => by rw [e1, List.length_cons, List.length_cons, Shs.len h2]
/-- a slot is taken out: its value, its cells, and how anything is put back -/
theorem StA.take {G : Hp} {s : Sh} : ∀ {Γ : Ct} {σ : L2.St} {os : Ow} {i : Nat}, StA Γ σ G os → Γ[i]? = some (some s) →
    ∃ v o rest, σ[i]? = some (some v) ∧ s.p G o v ∧ os.Perm (o ++ rest) ∧ StA (Γ.set i none) σ G rest ∧
      ∀ G' s' o', Same G G' → s'.p G' o' v → ∃ os', os'.Perm (o' ++ rest) ∧ StA (Γ.set i (some s')) σ G' os'
  | some s1 :: Γ, _ :: σ, _, 0, ⟨v, o1, o2, e1, e2, h1, h2⟩, hi => by
    simp only [List.getElem?_cons_zero, Option.some.injEq] at hi
    subst hi e1 e2
    exact ⟨v, o1, o2, rfl, h1, .refl _, h2, fun G' s' o' sm h' => ⟨o' ++ o2, .refl _, v, o', o2, rfl, rfl, h', StA.mono sm h2⟩⟩
  | some s1 :: Γ, _ :: σ, _, i + 1, ⟨v, o1, o2, e1, e2, h1, h2⟩, hi => by
    simp only [List.getElem?_cons_succ] at hi
    obtain ⟨w, o, rest, a1, a2, a3, a4, a5⟩ := StA.take (i := i) h2 hi
    subst e1 e2
    refine ⟨w, o, o1 ++ rest, by simpa using a1, a2, ?_, ⟨v, o1, rest, rfl, rfl, h1, a4⟩, fun G' s' o' sm h' => ?_⟩
    · exact (List.Perm.append_left o1 a3).trans (by rw [← List.append_assoc, ← List.append_assoc]; exact List.Perm.append_right rest List.perm_append_comm)
    · obtain ⟨os', p', q'⟩ := a5 G' s' o' sm h'
      refine ⟨o1 ++ os', ?_, v, o1, os', rfl, rfl, s1.mono sm h1, q'⟩
      exact (List.Perm.append_left o1 p').trans (by rw [← List.append_assoc, ← List.append_assoc]; exact List.Perm.append_right rest List.perm_append_comm)
  | none :: Γ, _ :: σ, _, 0, _, hi => by simp at hi
  | none :: Γ, x :: σ, _, i + 1, h2, hi => by
    simp only [List.getElem?_cons_succ] at hi
    obtain ⟨w, o, rest, a1, a2, a3, a4, a5⟩ := StA.take (Γ := Γ) (i := i) h2 hi
    exact ⟨w, o, rest, by simpa using a1, a2, a3, a4, fun G' s' o' sm h' => a5 G' s' o' sm h'⟩
/-- a name is set; what it held is left alone -/
theorem StA.set {G : Hp} {s : Sh} {v : V} {o : Ow} (h' : s.p G o v) : ∀ {Γ : Ct} {σ : L2.St} {os : Ow} {i : Nat}, StA Γ σ G os → i < Γ.length →
    ∃ dead os', (o ++ os).Perm (dead ++ os') ∧ StA (Γ.set i (some s)) (σ.set i (some v)) G os'
  | none :: Γ, _ :: σ, os, 0, h2, _ => ⟨[], o ++ os, .refl _, v, o, os, rfl, rfl, h', h2⟩
  | some s1 :: Γ, _ :: σ, _, 0, ⟨v1, o1, o2, e1, e2, h1, h2⟩, _ => ⟨o1, o ++ o2, by rw [e2, ← List.append_assoc, ← List.append_assoc]; exact List.Perm.append_right o2 List.perm_append_comm, v, o, o2, rfl, rfl, h', h2⟩
  | none :: Γ, _ :: σ, _, i + 1, h2, hi => by
    obtain ⟨dead, os', p', q'⟩ := StA.set (Γ := Γ) (i := i) h' h2 (by simpa using hi)
    exact ⟨dead, os', p', q'⟩
  | some s1 :: Γ, _ :: σ, _, i + 1, ⟨v1, o1, o2, e1, e2, h1, h2⟩, hi => by
    obtain ⟨dead, os', p', q'⟩ := StA.set (i := i) h' h2 (by simpa using hi)
    subst e1 e2
    refine ⟨dead, o1 ++ os', ?_, v1, o1, os', rfl, rfl, h1, q'⟩
    exact (show (o ++ (o1 ++ o2)).Perm (o1 ++ (o ++ o2)) by rw [← List.append_assoc, ← List.append_assoc]; exact List.Perm.append_right o2 List.perm_append_comm).trans ((List.Perm.append_left o1 p').trans (by rw [← List.append_assoc, ← List.append_assoc]; exact List.Perm.append_right os' List.perm_append_comm))
/-- slots that are not looked at any more -/
def mask : List Bool → Ct → Ct
  | true :: fl, s :: Γ => s :: mask fl Γ
  | false :: fl, _ :: Γ => none :: mask fl Γ
  | _, _ => []
theorem StA.mask {G : Hp} : ∀ {fl : List Bool} {Γ : Ct} {σ : L2.St} {os : Ow}, StA Γ σ G os → fl.length = Γ.length → ∃ dead os', os.Perm (dead ++ os') ∧ StA (mask fl Γ) σ G os'
  | [], [], _, os, h, _ => ⟨[], os, .refl _, h⟩
  | true :: fl, none :: Γ, _ :: σ, _, h2, l => StA.mask (Γ := Γ) h2 (by simpa using l)
  | true :: fl, some s1 :: Γ, _ :: σ, _, ⟨v1, o1, o2, e1, e2, h1, h2⟩, l => by
    obtain ⟨dead, os', pm, h'⟩ := StA.mask (fl := fl) h2 (by simpa using l)
    subst e1 e2
    refine ⟨dead, o1 ++ os', ?_, v1, o1, os', rfl, rfl, h1, h'⟩
    exact (List.Perm.append_left o1 pm).trans (by rw [← List.append_assoc, ← List.append_assoc]; exact List.Perm.append_right os' List.perm_append_comm)
  | false :: fl, none :: Γ, _ :: σ, _, h2, l => StA.mask (Γ := Γ) h2 (by simpa using l)
  | false :: fl, some s1 :: Γ, _ :: σ, _, ⟨v1, o1, o2, e1, e2, h1, h2⟩, l => by
    obtain ⟨dead, os', pm, h'⟩ := StA.mask (fl := fl) h2 (by simpa using l)
    subst e1 e2
    exact ⟨o1 ++ dead, os', by rw [List.append_assoc]; exact List.Perm.append_left o1 pm, h'⟩
  | [], _ :: _, _, _, _, l => by simp at l
  | _ :: _, [], _, _, _, l => by simp at l
theorem HH.drops {G H : Hp} : ∀ {d os : Ow}, HH G (d ++ os) H → HH G os H
  | [], _, h => h
  | _ :: d, _, h => HH.drops (d := d) (HH.drop h)

theorem HH.masked {G H : Hp} {Γ : Ct} {σ : L2.St} {os F : Ow} {fl : List Bool} (hh : HH G (os ++ F) H) (st : StA Γ σ G os) (l : fl.length = Γ.length) : ∃ os', HH G (os' ++ F) H ∧ StA (mask fl Γ) σ G os' := by
  obtain ⟨dead, os', pm, h⟩ := st.mask l
  exact ⟨os', HH.drops (d := dead) (hh.perm (by rw [← List.append_assoc]; exact List.Perm.append_right F pm)), h⟩
/-! ### the readings of a walk with slots -/
/-- what stands behind: none: all as before; some Γ': such slots -/
def Aft (m : Option Ct) (σ : L2.St) (G' : Hp) (os os' : Ow) : Prop :=
  match m with
  | none => os' = os
  | some Γ' => StA Γ' σ G' os'
abbrev out (Γ : Ct) (m : Option Ct) : Ct := match m with
  | none => Γ
  | some Γ' => Γ'
abbrev cmb (m1 m2 : Option Ct) : Option Ct := match m2 with
  | none => m1
  | some Γ2 => some Γ2
section
variable {Γ : Ct} {m m1 m2 : Option Ct} {σ : L2.St} {G G' G1 G2 : Hp} {os os' os1 os2 : Ow}
theorem Aft.st (st : StA Γ σ G os) (sm : Same G G') (a : Aft m σ G' os os') : StA (out Γ m) σ G' os' := by
  cases m with
  | none =>
    have e : os' = os := a
    subst e
    exact st.mono sm
  | some Γ' => exact a
theorem Aft.mono (sm : Same G' G2) (a : Aft m σ G' os os') : Aft m σ G2 os os' := by
  cases m with
  | none => exact a
  | some Γ' => exact StA.mono sm a
theorem Aft.trans (sm : Same G1 G2) (a : Aft m1 σ G1 os os1) (b : Aft m2 σ G2 os1 os2) : Aft (cmb m1 m2) σ G2 os os2 := by
  cases m2 with
  | none =>
    have e : os2 = os1 := b
    subst e
    exact Aft.mono sm a
  | some Γ' => exact b
end
def tT (Γ : Ct) (m : Option Ct) (s : Sh) : TE := fun σ H Q => ∃ G os F, HH G (os ++ F) H ∧ StA Γ σ G os ∧
  ∀ v G' o os' H', Same G G' → HH G' (o ++ (os' ++ F)) H' → Aft m σ G' os os' → s.p G' o v → Q v H'
def tB (Γ : Ct) (m : Option Ct) (b : Bool) : TT := fun σ H Q => ∃ G os F, HH G (os ++ F) H ∧ StA Γ σ G os ∧
  ∀ G' os' H', Same G G' → HH G' (os' ++ F) H' → Aft m σ G' os os' → Q b H'
/-- a thing is looked at where it stands -/
def tP (Γ : Ct) (s : Sh) : TE := fun σ H Q => ∃ G os F, HH G (os ++ F) H ∧ StA Γ σ G os ∧ ∀ v o rest, os.Perm (o ++ rest) → s.p G o v → Q v H
/-- an argument: what it is, or a slot that is lent -/
inductive As where
  | val (s : Sh)
  | lend (i : Nat)
def As.p : As → L2.St → Hp → Ow → V → Prop
  | .val s, _, G, o, v => s.p G o v
  | .lend i, σ, _, o, v => o = [] ∧ σ[i]? = some (some v)
theorem As.mono {G G' : Hp} {σ : L2.St} {o : Ow} {v : V} (sm : Same G G') : ∀ {a : As}, a.p σ G o v → a.p σ G' o v
  | .val s, h => s.mono sm h
  | .lend _, h => h
def AsP : List As → L2.St → Hp → Ow → List V → Prop
  | [], _, _, o, vs => vs = [] ∧ o = []
  | a :: as, σ, G, o, vs => ∃ v vr o1 o2, vs = v :: vr ∧ o = o1 ++ o2 ∧ a.p σ G o1 v ∧ AsP as σ G o2 vr
theorem AsP.mono {G G' : Hp} {σ : L2.St} (sm : Same G G') : ∀ {as : List As} {o : Ow} {vs : List V}, AsP as σ G o vs → AsP as σ G' o vs
  | [], _, _, h => h
  | a :: as, _, _, ⟨v, vr, o1, o2, e1, e2, h1, h2⟩ => ⟨v, vr, o1, o2, e1, e2, a.mono sm h1, AsP.mono sm h2⟩
def tA (Γ : Ct) (m : Option Ct) (as : List As) : TA := fun σ H Q => ∃ G os F, HH G (os ++ F) H ∧ StA Γ σ G os ∧
  ∀ vs G' o os' H', Same G G' → HH G' (o ++ (os' ++ F)) H' → Aft m σ G' os os' → AsP as σ G' o vs → Q vs H'
abbrev EJ (X : Cx) (e : Expr) (Γ : Ct) (m : Option Ct) (s : Sh) : Prop := PE X e (tT Γ m s)
abbrev TJ (X : Cx) (e : Expr) (Γ : Ct) (m : Option Ct) (b : Bool) : Prop := PT X e (tB Γ m b)
abbrev PJ (X : Cx) (e : Expr) (Γ : Ct) (s : Sh) : Prop := PE X e (tP Γ s)
abbrev AJ (X : Cx) (es : List Expr) (Γ : Ct) (m : Option Ct) (as : List As) : Prop := PA X es (tA Γ m as)
theorem pe_to {X : Cx} {e : Expr} {t t' : TE} (h : PE X e t) (w : ∀ σ H Q, t' σ H Q → t σ H Q) : PE X e t' := ⟨fun pins s σ H Q I q => h.run pins s σ H Q I (w σ H Q q)⟩
theorem pt_to {X : Cx} {e : Expr} {t t' : TT} (h : PT X e t) (w : ∀ σ H Q, t' σ H Q → t σ H Q) : PT X e t' := ⟨fun pins s σ H Q I q => h.run pins s σ H Q I (w σ H Q q)⟩
theorem pw_to {X : Cx} {e : Expr} {t t' : TT} (h : PW X e t) (w : ∀ σ H Q, t' σ H Q → t σ H Q) : PW X e t' := ⟨fun wh pins s σ H Q I q => h.run wh pins s σ H Q I (w σ H Q q)⟩
theorem pa_to {X : Cx} {e : List Expr} {t t' : TA} (h : PA X e t) (w : ∀ σ H Q, t' σ H Q → t σ H Q) : PA X e t' := ⟨fun po pins s σ H Q I q => h.run po pins s σ H Q I (w σ H Q q)⟩
theorem pss_to {X : Cx} {e : List Stmt} {t t' : TS} (h : PSs X e t) (w : ∀ D σ H, t' D σ H → t D σ H) : PSs X e t' := ⟨fun pins s σ H D I q => h.run pins s σ H D I (w D σ H q)⟩
section
variable {X : Cx} {Γ : Ct} {m m1 m2 : Option Ct} {α β γ : Type} {τ τ1 : Ty α} {τ2 : Ty β} {s s1 s2 : Sh} {pos : Pos} {σ : L2.St} {H : Hp} {Q : VK}
/-- one value that is data -/
theorem tT.one {x : α} {R : V → Hp → Prop} (h : ∃ G os F, HH G (os ++ F) H ∧ StA Γ σ G os ∧ ∀ v G' os' H', Same G G' → HH G' (os' ++ F) H' → Aft m σ G' os os' → τ.rep G' v x → R v H') : tT Γ m (fz τ x) σ H R := by
  obtain ⟨G, os, F, hh, st, k⟩ := h
  exact ⟨G, os, F, hh, st, fun v G' o os' H' sm h' st' ⟨e, r⟩ => k v G' os' H' sm (by subst e; exact h') st' r⟩
/-- two values that are data -/
theorem tT.two {x : α} {y : β} {R : V → V → Hp → Prop} (h : ∃ G os F, HH G (os ++ F) H ∧ StA Γ σ G os ∧ ∀ v w G' os' H', Same G G' → HH G' (os' ++ F) H' → Aft (cmb m1 m2) σ G' os os' → τ1.rep G' v x → τ2.rep G' w y → R v w H') :
    tT Γ m1 (fz τ1 x) σ H fun v H1 => tT (out Γ m1) m2 (fz τ2 y) σ H1 fun w H2 => R v w H2 := by
  obtain ⟨G, os, F, hh, st, k⟩ := h
  refine tT.one ⟨G, os, F, hh, st, fun v G' os' H' sm h' st' r => ?_⟩
  exact tT.one ⟨G', os', F, h', st'.st st sm, fun w G2 os2 H2 sm2 h2 st2 r2 => k v w G2 os2 H2 (sm.trans sm2) h2 (st'.trans sm2 st2) (τ1.mono sm2 r) r2⟩
/-- a value that is looked at where it stands, and one that changes nothing -/
theorem tP.two {y : β} {R : V → V → Hp → Prop} (h : ∃ G os F, HH G (os ++ F) H ∧ StA Γ σ G os ∧ ∀ v w G' H' o rest, Same G G' → os.Perm (o ++ rest) → HH G' (os ++ F) H' → s.p G' o v → τ2.rep G' w y → R v w H') :
    tP Γ s σ H fun v H1 => tT Γ none (fz τ2 y) σ H1 fun w H2 => R v w H2 := by
  obtain ⟨G, os, F, hh, st, k⟩ := h
  refine ⟨G, os, F, hh, st, fun v o rest pm hs => ?_⟩
  exact tT.one ⟨G, os, F, hh, st, fun w G2 os2 H2 sm2 h2 (st2 : os2 = os) r2 => by subst st2; exact k v w G2 H2 o rest sm2 pm h2 (s.mono sm2 hs) r2⟩
/-! names, constants -/
theorem ej_var {i : Nat} {x : Str} {d : α} (hN : X.N[i]? = some x) (hv : Vis X.env.scope x) (hi : Γ[i]? = some (some (fz τ d))) (hd : (x == ("__debug__" : Str)) = false := by decide) (hcd : (x == ("__classdict__" : Str)) = false := by decide) : EJ X (.Name x pos) Γ none (fz τ d) := by
  refine pe_to (pe_var (i := i) hN hv hd hcd) fun σ H Q ⟨G, os, F, hh, st, k⟩ => ?_
  obtain ⟨v, o, rest, a1, a2, a3, a4, a5⟩ := st.take hi
  exact ⟨v, a1, k v G [] os H (Same.refl _) hh rfl ⟨rfl, a2.2⟩⟩
/-- the name's thing is handed over -/
theorem ej_mov {i : Nat} {x : Str} (hN : X.N[i]? = some x) (hv : Vis X.env.scope x) (hi : Γ[i]? = some (some s)) (hd : (x == ("__debug__" : Str)) = false := by decide) (hcd : (x == ("__classdict__" : Str)) = false := by decide) : EJ X (.Name x pos) Γ (some (Γ.set i none)) s := by
  refine pe_to (pe_var (i := i) hN hv hd hcd) fun σ H Q ⟨G, os, F, hh, st, k⟩ => ?_
  obtain ⟨v, o, rest, a1, a2, a3, a4, a5⟩ := st.take hi
  exact ⟨v, a1, k v G o rest H (Same.refl _) (hh.perm (by rw [← List.append_assoc]; exact List.Perm.append_right F a3)) a4 a2⟩
theorem pj_var {i : Nat} {x : Str} (hN : X.N[i]? = some x) (hv : Vis X.env.scope x) (hi : Γ[i]? = some (some s)) (hd : (x == ("__debug__" : Str)) = false := by decide) (hcd : (x == ("__classdict__" : Str)) = false := by decide) : PJ X (.Name x pos) Γ s := by
  refine pe_to (pe_var (i := i) hN hv hd hcd) fun σ H Q ⟨G, os, F, hh, st, k⟩ => ?_
  obtain ⟨v, o, rest, a1, a2, a3, a4, a5⟩ := st.take hi
  exact ⟨v, a1, k v o rest a3 a2⟩
end
end Sl

set_option Elab.async false
set_option linter.all false
set_option maxRecDepth 100000
namespace Sl
open PySem PySem.Spec PyProof.Rows L2 Dl
/-! ### kinds of data -/
def tInt : Ty Int := ⟨fun _ v i => v = .int i, fun _ h => h⟩
def tBool : Ty Bool := ⟨fun _ v i => v = .bl i, fun _ h => h⟩
def tStr : Ty Str := ⟨fun _ v i => v = .str i, fun _ h => h⟩
def tNon : Ty Unit := ⟨fun _ v _ => v = .non, fun _ h => h⟩
theorem pair_mono {α : Type} {τ : Ty α} {G G' : Hp} (s : Same G G') : ∀ {vs : List V} {xs : List α}, Paired (τ.rep G) vs xs → Paired (τ.rep G') vs xs
  | _, _, .nil => .nil
  | _, _, .cons r t => .cons (τ.mono s r) (pair_mono s t)
def tOpt {α : Type} (τ : Ty α) : Ty (Option α) := ⟨fun G v x => (x = none ∧ v = .non) ∨ ∃ y, x = some y ∧ v ≠ .non ∧ τ.rep G v y, fun s h => h.elim .inl fun ⟨y, e, n, r⟩ => .inr ⟨y, e, n, τ.mono s r⟩⟩
def tSum {α β : Type} (τ1 : Ty α) (τ2 : Ty β) : Ty (α ⊕ β) := ⟨fun G v x => (∃ y, x = .inl y ∧ τ1.rep G v y) ∨ ∃ y, x = .inr y ∧ τ2.rep G v y, fun s h => h.elim (fun ⟨y, e, r⟩ => .inl ⟨y, e, τ1.mono s r⟩) fun ⟨y, e, r⟩ => .inr ⟨y, e, τ2.mono s r⟩⟩
def tList {α : Type} (τ : Ty α) : Ty (List α) := ⟨fun G v xs => ∃ a vs, v = .ref a ∧ G a = some (.lst vs) ∧ Paired (τ.rep G) vs xs, fun s ⟨a, vs, e, h, r⟩ => ⟨a, vs, e, s _ _ h, pair_mono s r⟩⟩
def tTup {α : Type} (τ : Ty α) : Ty (List α) := ⟨fun G v xs => ∃ a vs, v = .ref a ∧ G a = some (.tup vs) ∧ Paired (τ.rep G) vs xs, fun s ⟨a, vs, e, h, r⟩ => ⟨a, vs, e, s _ _ h, pair_mono s r⟩⟩
/-- things of unlike kinds side by side -/
inductive Rec : List Type → Type 1
  | nil : Rec []
def tP1 {α : Type} (τ : Ty α) : Ty α := ⟨fun G v x => ∃ a u, v = .ref a ∧ G a = some (.tup [u]) ∧ τ.rep G u x, fun s ⟨a, u, e, h, r⟩ => ⟨a, u, e, s _ _ h, τ.mono s r⟩⟩
def tP2 {α β : Type} (τ1 : Ty α) (τ2 : Ty β) : Ty (α × β) := ⟨fun G v x => ∃ a v1 v2, v = .ref a ∧ G a = some (.tup [v1, v2]) ∧ τ1.rep G v1 x.1 ∧ τ2.rep G v2 x.2,
  fun s ⟨a, v1, v2, e, h, r1, r2⟩ => ⟨a, v1, v2, e, s _ _ h, τ1.mono s r1, τ2.mono s r2⟩⟩
def tP3 {α β γ : Type} (τ1 : Ty α) (τ2 : Ty β) (τ3 : Ty γ) : Ty (α × β × γ) := ⟨fun G v x => ∃ a v1 v2 v3, v = .ref a ∧ G a = some (.tup [v1, v2, v3]) ∧ τ1.rep G v1 x.1 ∧ τ2.rep G v2 x.2.1 ∧ τ3.rep G v3 x.2.2,
  fun s ⟨a, v1, v2, v3, e, h, r1, r2, r3⟩ => ⟨a, v1, v2, v3, e, s _ _ h, τ1.mono s r1, τ2.mono s r2, τ3.mono s r3⟩⟩
def tL2 {α β : Type} (τ1 : Ty α) (τ2 : Ty β) : Ty (α × β) := ⟨fun G v x => ∃ a v1 v2, v = .ref a ∧ G a = some (.lst [v1, v2]) ∧ τ1.rep G v1 x.1 ∧ τ2.rep G v2 x.2,
  fun s ⟨a, v1, v2, e, h, r1, r2⟩ => ⟨a, v1, v2, e, s _ _ h, τ1.mono s r1, τ2.mono s r2⟩⟩
def tL3 {α β γ : Type} (τ1 : Ty α) (τ2 : Ty β) (τ3 : Ty γ) : Ty (α × β × γ) := ⟨fun G v x => ∃ a v1 v2 v3, v = .ref a ∧ G a = some (.lst [v1, v2, v3]) ∧ τ1.rep G v1 x.1 ∧ τ2.rep G v2 x.2.1 ∧ τ3.rep G v3 x.2.2,
  fun s ⟨a, v1, v2, v3, e, h, r1, r2, r3⟩ => ⟨a, v1, v2, v3, e, s _ _ h, τ1.mono s r1, τ2.mono s r2, τ3.mono s r3⟩⟩
def tL4 {α β γ δ : Type} (τ1 : Ty α) (τ2 : Ty β) (τ3 : Ty γ) (τ4 : Ty δ) : Ty (α × β × γ × δ) := ⟨fun G v x => ∃ a v1 v2 v3 v4, v = .ref a ∧ G a = some (.lst [v1, v2, v3, v4]) ∧ τ1.rep G v1 x.1 ∧ τ2.rep G v2 x.2.1 ∧ τ3.rep G v3 x.2.2.1 ∧ τ4.rep G v4 x.2.2.2,
  fun s ⟨a, v1, v2, v3, v4, e, h, r1, r2, r3, r4⟩ => ⟨a, v1, v2, v3, v4, e, s _ _ h, τ1.mono s r1, τ2.mono s r2, τ3.mono s r3, τ4.mono s r4⟩⟩
/-- kinds of keys -/
structure Kd (κ : Type) where
  KT : Type
  dec : DecidableEq KT
  ho : List (KT × V) → HO
  enc : κ → KT
  isk : Hp → V → KT → Prop
  inj : ∀ a b, enc a = enc b → a = b
  isd : ∀ l, isDk (ho l) = true
  ntp : ∀ l, isTp (ho l) = false
  isdd : ∀ {H : Hp} {a : Addr} {l : List (KT × V)}, Rd H a (ho l) → IsD H a
  dget : ∀ {H : Hp} {a : Addr} {kvs : List (KT × V)} {w : V} {kt : KT}, Rd H a (ho kvs) → isk H w kt → DGet H a w (valV kvs kt)
  dput : ∀ {H : Hp} {a : Addr} {kvs : List (KT × V)} {w v : V} {kt : KT}, H a = some (ho kvs) → isk H w kt → kvs.length < sizeLine → DPut H a w v (upd H a (ho (putK kvs kt v)))
instance {κ : Type} (kd : Kd κ) : DecidableEq kd.KT := kd.dec
/-- keys that are ints or texts -/
structure Fk (κ : Type) where
  enc : κ → Key
  inj : ∀ a b, enc a = enc b → a = b
@[reducible] def kF {κ : Type} (f : Fk κ) : Kd κ := ⟨Key, inferInstance, .dK, f.enc, fun _ w k => w = kV k, f.inj, fun _ => rfl, fun _ => rfl, fun g => .inl ⟨_, g⟩, fun g e => .inl ⟨_, _, g, e, rfl⟩, fun g e l => .inl ⟨_, _, g, e, l, rfl⟩⟩
/-- keys that are tuples of such -/
@[reducible] def kTs {κ : Type} (enc : κ → List Key) (inj : ∀ a b, enc a = enc b → a = b) : Kd κ := ⟨List Key, inferInstance, .dT, enc, fun H w k => ∃ b, w = .ref b ∧ H b = some (.tup (k.map kV)), inj, fun _ => rfl, fun _ => rfl, fun g => .inr ⟨_, g⟩, fun g ⟨b, e, t⟩ => .inr ⟨_, _, b, g, e, t, rfl⟩, fun g ⟨b, e, t⟩ l => .inr ⟨_, _, b, g, e, t, l, rfl⟩⟩
def fStr : Fk Str := ⟨Sum.inr, fun _ _ h => Sum.inr.inj h⟩
def fInt : Fk Int := ⟨Sum.inl, fun _ _ h => Sum.inl.inj h⟩
def fSum : Fk (Int ⊕ Str) := ⟨id, fun _ _ h => h⟩
@[reducible] def kStr : Kd Str := kF fStr
@[reducible] def kInt : Kd Int := kF fInt
@[reducible] def kP2 {α β : Type} (f : Fk α) (g : Fk β) : Kd (α × β) := kTs (fun p => [f.enc p.1, g.enc p.2]) fun a b h => by
  simp only [List.cons.injEq, and_true] at h
  exact Prod.ext (f.inj _ _ h.1) (g.inj _ _ h.2)
@[reducible] def kTu {α : Type} (f : Fk α) : Kd (List α) := kTs (fun xs => xs.map f.enc) fun a b h => by
  induction a generalizing b with
  | nil => cases b with
    | nil => rfl
    | cons y ys => cases h
  | cons x xs ih => cases b with
    | nil => cases h
    | cons y ys =>
      simp only [List.map_cons, List.cons.injEq] at h
      rw [f.inj _ _ h.1, ih ys h.2]
def KR {κ α : Type} (kd : Kd κ) (τ : Ty α) (G : Hp) (p : kd.KT × V) (q : κ × α) : Prop := p.1 = kd.enc q.1 ∧ τ.rep G p.2 q.2
theorem kr_mono {κ α : Type} {kd : Kd κ} {τ : Ty α} {G G' : Hp} (s : Same G G') : ∀ {vs : List (kd.KT × V)} {xs : List (κ × α)}, Paired (KR kd τ G) vs xs → Paired (KR kd τ G') vs xs
  | _, _, .nil => .nil
  | _, _, .cons r t => .cons ⟨r.1, τ.mono s r.2⟩ (kr_mono s t)
def tDic {κ α : Type} (kd : Kd κ) (τ : Ty α) : Ty (List (κ × α)) := ⟨fun G v x => ∃ a vs, v = .ref a ∧ G a = some (kd.ho vs) ∧ Paired (KR kd τ G) vs x ∧ (x.map Prod.fst).Nodup, fun s ⟨a, vs, e, h, r, n⟩ => ⟨a, vs, e, s _ _ h, kr_mono s r, n⟩⟩
/-! tables -/
section
variable {κ α β : Type} [DecidableEq κ]
def aget (d : List (κ × α)) (k : κ) : Option α := (d.find? fun p => decide (p.1 = k)).map (·.2)
def ahas (d : List (κ × α)) (k : κ) : Bool := d.any fun p => decide (p.1 = k)
def aput (d : List (κ × α)) (k : κ) (v : α) : List (κ × α) := if ahas d k = true then d.map (fun p => if p.1 = k then (p.1, v) else p) else d ++ [(k, v)]
def adel (d : List (κ × α)) (k : κ) : List (κ × α) := d.filter fun p => decide (p.1 ≠ k)
theorem aget_nil {k : κ} : aget ([] : List (κ × α)) k = none := rfl
theorem aget_pos {p : κ × α} {r : List (κ × α)} {k : κ} (e : p.1 = k) : aget (p :: r) k = some p.2 := by simp [aget, List.find?_cons, e]
theorem aget_neg {p : κ × α} {r : List (κ × α)} {k : κ} (e : ¬ p.1 = k) : aget (p :: r) k = aget r k := by simp [aget, List.find?_cons, e]
theorem ahas_get (d : List (κ × α)) (k : κ) : ahas d k = (aget d k).isSome := by
  induction d with
  | nil => rfl
  | cons p r ih =>
    by_cases e : p.1 = k
    · rw [aget_pos e]
      simp [ahas, e]
    · rw [aget_neg e, ← ih]
      simp [ahas, e]
theorem kr_get {kd : Kd κ} {τ : Ty α} {G : Hp} (k : κ) : ∀ {vs : List (kd.KT × V)} {xs : List (κ × α)}, Paired (KR kd τ G) vs xs → (∃ v x, valV vs (kd.enc k) = some v ∧ aget xs k = some x ∧ τ.rep G v x) ∨ (valV vs (kd.enc k) = none ∧ aget xs k = none)
  | _, _, .nil => .inr ⟨rfl, rfl⟩
  | _, _, .cons (a := p) (b := q) r t => by
    by_cases e : q.1 = k
    · exact .inl ⟨p.2, q.2, valV_pos (r.1.trans (by rw [e])), aget_pos e, r.2⟩
    · have ne : ¬ p.1 = kd.enc k := fun z => e (kd.inj _ _ (r.1.symm.trans z))
      rw [valV_neg ne, aget_neg e]
      exact kr_get k t
theorem kr_any {kd : Kd κ} {τ : Ty α} {G : Hp} (k : κ) {vs : List (kd.KT × V)} {xs : List (κ × α)} (r : Paired (KR kd τ G) vs xs) : (valV vs (kd.enc k)).isSome = (aget xs k).isSome := by
  rcases kr_get k r with ⟨v, x, h1, h2, _⟩ | ⟨h1, h2⟩
  · rw [h1, h2]; rfl
  · rw [h1, h2]; rfl
theorem kr_map {kd : Kd κ} {τ : Ty α} {G : Hp} (k : κ) {v : V} {x : α} (rv : τ.rep G v x) : ∀ {vs : List (kd.KT × V)} {xs : List (κ × α)}, Paired (KR kd τ G) vs xs →
    Paired (KR kd τ G) (vs.map fun kv => if kv.1 = kd.enc k then (kv.1, v) else kv) (xs.map fun p => if p.1 = k then (p.1, x) else p)
  | _, _, .nil => .nil
  | _, _, .cons (a := p) (b := q) r t => by
    rw [List.map_cons, List.map_cons]
    by_cases e : q.1 = k
    · rw [if_pos e, if_pos (r.1.trans (by rw [e]))]
      exact .cons ⟨r.1, rv⟩ (kr_map k rv t)
    · rw [if_neg e, if_neg (fun z => e (kd.inj _ _ (r.1.symm.trans z)))]
      exact .cons r (kr_map k rv t)
theorem kr_put {kd : Kd κ} {τ : Ty α} {G : Hp} (k : κ) {v : V} {x : α} {vs : List (kd.KT × V)} {xs : List (κ × α)} (rv : τ.rep G v x) (r : Paired (KR kd τ G) vs xs) : Paired (KR kd τ G) (putK vs (kd.enc k) v) (aput xs k x) := by
  unfold putK aput
  rw [valV_any, kr_any k r, ahas_get]
  by_cases h : (aget xs k).isSome = true
  · rw [if_pos h, if_pos h]
    exact kr_map k rv r
  · rw [if_neg h, if_neg h]
    exact pr_snoc r ⟨rfl, rv⟩
theorem kr_del {kd : Kd κ} {τ : Ty α} {G : Hp} (k : κ) : ∀ {vs : List (kd.KT × V)} {xs : List (κ × α)}, Paired (KR kd τ G) vs xs → Paired (KR kd τ G) (dropK vs (kd.enc k)) (adel xs k)
  | _, _, .nil => .nil
  | _, _, .cons (a := p) (b := q) r t => by
    have ih := kr_del k t
    unfold dropK adel at ih ⊢
    by_cases e : q.1 = k
    · have e2 : p.1 = kd.enc k := r.1.trans (by rw [e])
      rw [List.filter_cons_of_neg (by simp [e2]), List.filter_cons_of_neg (by simp [e])]
      exact ih
    · have e2 : ¬ p.1 = kd.enc k := fun z => e (kd.inj _ _ (r.1.symm.trans z))
      rw [List.filter_cons_of_pos (by simp [e2]), List.filter_cons_of_pos (by simp [e])]
      exact .cons r ih
theorem aput_keys (d : List (κ × α)) (k : κ) (v : α) (h : ahas d k = true) : (aput d k v).map Prod.fst = d.map Prod.fst := by
  unfold aput
  rw [if_pos h, List.map_map]
  refine List.map_congr_left fun p _ => ?_
  by_cases e : p.1 = k
  · simp [e]
  · simp [e]
theorem aput_nd {d : List (κ × α)} {k : κ} {v : α} (n : (d.map Prod.fst).Nodup) : ((aput d k v).map Prod.fst).Nodup := by
  by_cases h : ahas d k = true
  · rw [aput_keys d k v h]
    exact n
  · unfold aput
    rw [if_neg h, List.map_append]
    refine List.nodup_append.mpr ⟨n, by simp, fun a ha b hb e => ?_⟩
    simp at hb
    subst hb e
    refine h ?_
    obtain ⟨p, hp, e⟩ := List.mem_map.mp ha
    exact List.any_eq_true.mpr ⟨p, hp, by simp [e]⟩
theorem adel_nd {d : List (κ × α)} {k : κ} (n : (d.map Prod.fst).Nodup) : ((adel d k).map Prod.fst).Nodup := n.sublist ((List.filter_sublist).map _)
theorem aput_len {d : List (κ × α)} {k : κ} {v : α} : (aput d k v).length ≤ d.length + 1 := by
  unfold aput
  split
  · rw [List.length_map]; omega
  · rw [List.length_append]; simp
end
/-- what is small enough for a list -/
def Sm (n : Nat) : Prop := n ≤ 15000
instance (n : Nat) : Decidable (Sm n) := inferInstanceAs (Decidable (n ≤ 15000))
theorem Sm.lt {n : Nat} (h : Sm n) : n < sizeLine := small15k h
theorem Sm.le {n : Nat} (h : Sm n) : n ≤ sizeLine := Nat.le_of_lt (small15k h)
/-! ### things that are owned -/
/-- a list of things that may be owned -/
def oLst (ss : List Sh) : Sh := ⟨fun G o v => ∃ a vs os', v = .ref a ∧ o = (a, .lst vs) :: os' ∧ Shs ss G os' vs, fun s ⟨a, vs, os', e1, e2, h⟩ => ⟨a, vs, os', e1, e2, h.mono s⟩, fun ⟨a, vs, os', e1, e2, h⟩ c hc => by
  subst e2
  rcases List.mem_cons.mp hc with rfl | hc
  · rfl
  · exact h.nf c hc⟩
/-- a list of data -/
def oL {α : Type} (τ : Ty α) (xs : List α) : Sh := ⟨fun G o v => ∃ a vs, v = .ref a ∧ o = [(a, .lst vs)] ∧ Paired (τ.rep G) vs xs, fun s ⟨a, vs, e1, e2, h⟩ => ⟨a, vs, e1, e2, pair_mono s h⟩, fun ⟨a, vs, e1, e2, h⟩ c hc => by
  rw [e2] at hc
  rw [List.mem_singleton.mp hc]
  rfl⟩
/-- a dict of data -/
def oD {κ α : Type} (kd : Kd κ) (τ : Ty α) (x : List (κ × α)) : Sh := ⟨fun G o v => ∃ a vs, v = .ref a ∧ o = [(a, kd.ho vs)] ∧ Paired (KR kd τ G) vs x ∧ (x.map Prod.fst).Nodup, fun s ⟨a, vs, e1, e2, h, n⟩ => ⟨a, vs, e1, e2, kr_mono s h, n⟩, fun ⟨a, vs, e1, e2, h, n⟩ c hc => by
  rw [e2] at hc
  rw [List.mem_singleton.mp hc]
  exact fr_dk (kd.isd _)⟩
/-- what may become data for good -/
def Fz (s s' : Sh) : Prop := ∀ (G H : Hp) (o F : Ow) (v : V), s.p G o v → HH G (o ++ F) H → ∃ G', Same G G' ∧ HH G' F H ∧ s'.p G' [] v
section
variable {α β γ δ : Type} {τ : Ty α} {τ1 : Ty α} {τ2 : Ty β} {τ3 : Ty γ} {τ4 : Ty δ}
theorem fz_fz {x : α} : Fz (fz τ x) (fz τ x) := fun G H o F v ⟨e, r⟩ hh => ⟨G, Same.refl _, by subst e; exact hh, rfl, r⟩
theorem fz_oL {xs : List α} : Fz (oL τ xs) (fz (tList τ) xs) := fun G H o F v ⟨a, vs, e1, e2, r⟩ hh => by
  subst e1 e2
  obtain ⟨G', s, h', e⟩ := hh.give1
  exact ⟨G', s, h', rfl, a, vs, rfl, e, pair_mono s r⟩
theorem fz_oD {κ : Type} {kd : Kd κ} {x : List (κ × α)} : Fz (oD kd τ x) (fz (tDic kd τ) x) := fun G H o F v ⟨a, vs, e1, e2, r, n⟩ hh => by
  subst e1 e2
  obtain ⟨G', s, h', e⟩ := hh.giveD (kd.isd _)
  exact ⟨G', s, h', rfl, a, vs, rfl, e, kr_mono s r, n⟩
/-- several become data -/
def Fzs : List Sh → List Sh → Prop
  | [], [] => True
  | s :: ss, t :: ts => Fz s t ∧ Fzs ss ts
  | _, _ => False
theorem Fzs.run : ∀ {ss ts : List Sh} {G H : Hp} {o F : Ow} {vs : List V}, Fzs ss ts → Shs ss G o vs → HH G (o ++ F) H → ∃ G', Same G G' ∧ HH G' F H ∧ Shs ts G' [] vs
  | [], [], G, H, o, F, vs, _, ⟨e1, e2⟩, hh => ⟨G, Same.refl _, by subst e2; exact hh, e1, rfl⟩
  | s :: ss, t :: ts, G, H, o, F, vs, ⟨f1, f2⟩, ⟨v, vr, o1, o2, e1, e2, h1, h2⟩, hh => by
    subst e1 e2
    obtain ⟨G1, s1, hh1, r1⟩ := f1 G H o1 (o2 ++ F) v h1 (by rw [List.append_assoc] at hh; exact hh)
    obtain ⟨G2, s2, hh2, r2⟩ := Fzs.run f2 (h2.mono s1) hh1
    exact ⟨G2, s1.trans s2, hh2, v, vr, [], [], rfl, rfl, t.mono s2 r1, r2⟩
  | [], _ :: _, _, _, _, _, _, h, _, _ => h.elim
  | _ :: _, [], _, _, _, _, _, h, _, _ => h.elim
theorem fz_lst {ss : List Sh} {t : Sh} {ts : List Sh} (f : Fzs ss ts) (k : ∀ G a vs, G a = some (.lst vs) → Shs ts G [] vs → t.p G [] (.ref a)) : Fz (oLst ss) t := fun G H o F v ⟨a, vs, os', e1, e2, hs⟩ hh => by
  subst e1 e2
  have hh2 : HH G (os' ++ ((a, HO.lst vs) :: F)) H := hh.perm (by rw [List.cons_append]; exact List.perm_middle.symm)
  obtain ⟨G1, s1, hh1, r1⟩ := f.run hs hh2
  obtain ⟨G2, s2, hh2, e⟩ := hh1.give1
  exact ⟨G2, s1.trans s2, hh2, k G2 a vs e (r1.mono s2)⟩
theorem Shs.f2 {x : α} {y : β} {G : Hp} {vs : List V} (h : Shs [fz τ1 x, fz τ2 y] G [] vs) : ∃ v1 v2, vs = [v1, v2] ∧ τ1.rep G v1 x ∧ τ2.rep G v2 y := by
  obtain ⟨v1, r1, o1, o1', e1, _, ⟨_, h1⟩, v2, r2, o2, o2', e2, _, ⟨_, h2⟩, e3, _⟩ := h
  subst e1 e2 e3
  exact ⟨v1, v2, rfl, h1, h2⟩
theorem Shs.f3 {x : α} {y : β} {z : γ} {G : Hp} {vs : List V} (h : Shs [fz τ1 x, fz τ2 y, fz τ3 z] G [] vs) : ∃ v1 v2 v3, vs = [v1, v2, v3] ∧ τ1.rep G v1 x ∧ τ2.rep G v2 y ∧ τ3.rep G v3 z := by
  obtain ⟨v1, r1, o1, o1', e1, _, ⟨_, h1⟩, v2, r2, o2, o2', e2, _, ⟨_, h2⟩, v3, r3, o3, o3', e3, _, ⟨_, h3⟩, e4, _⟩ := h
  subst e1 e2 e3 e4
  exact ⟨v1, v2, v3, rfl, h1, h2, h3⟩
theorem Shs.f4 {x : α} {y : β} {z : γ} {w : δ} {G : Hp} {vs : List V} (h : Shs [fz τ1 x, fz τ2 y, fz τ3 z, fz τ4 w] G [] vs) : ∃ v1 v2 v3 v4, vs = [v1, v2, v3, v4] ∧ τ1.rep G v1 x ∧ τ2.rep G v2 y ∧ τ3.rep G v3 z ∧ τ4.rep G v4 w := by
  obtain ⟨v1, r1, o1, o1', e1, _, ⟨_, h1⟩, v2, r2, o2, o2', e2, _, ⟨_, h2⟩, v3, r3, o3, o3', e3, _, ⟨_, h3⟩, v4, r4, o4, o4', e4, _, ⟨_, h4⟩, e5, _⟩ := h
  subst e1 e2 e3 e4 e5
  exact ⟨v1, v2, v3, v4, rfl, h1, h2, h3, h4⟩
theorem fz_l2 {x : α} {y : β} : Fz (oLst [fz τ1 x, fz τ2 y]) (fz (tL2 τ1 τ2) (x, y)) := fz_lst (ts := [fz τ1 x, fz τ2 y]) ⟨fz_fz, fz_fz, trivial⟩ fun G a vs e h => by
  obtain ⟨v1, v2, rfl, r1, r2⟩ := h.f2
  exact ⟨rfl, a, v1, v2, rfl, e, r1, r2⟩
theorem fz_l3 {x : α} {y : β} {z : γ} : Fz (oLst [fz τ1 x, fz τ2 y, fz τ3 z]) (fz (tL3 τ1 τ2 τ3) (x, y, z)) := fz_lst (ts := [fz τ1 x, fz τ2 y, fz τ3 z]) ⟨fz_fz, fz_fz, fz_fz, trivial⟩ fun G a vs e h => by
  obtain ⟨v1, v2, v3, rfl, r1, r2, r3⟩ := h.f3
  exact ⟨rfl, a, v1, v2, v3, rfl, e, r1, r2, r3⟩
theorem fz_l4 {x : α} {y : β} {z : γ} {w : δ} : Fz (oLst [fz τ1 x, fz τ2 y, fz τ3 z, fz τ4 w]) (fz (tL4 τ1 τ2 τ3 τ4) (x, y, z, w)) := fz_lst (ts := [fz τ1 x, fz τ2 y, fz τ3 z, fz τ4 w]) ⟨fz_fz, fz_fz, fz_fz, fz_fz, trivial⟩ fun G a vs e h => by
  obtain ⟨v1, v2, v3, v4, rfl, r1, r2, r3, r4⟩ := h.f4
  exact ⟨rfl, a, v1, v2, v3, v4, rfl, e, r1, r2, r3, r4⟩
/-- a written list of things of one kind -/
theorem fz_lm {xs : List α} : Fz (oLst (xs.map (fz τ))) (fz (tList τ) xs) := by
  refine fz_lst (ts := xs.map (fz τ)) ?_ fun G a vs e h => ⟨rfl, a, vs, rfl, e, ?_⟩
  · induction xs with
    | nil => trivial
    | cons x xs ih => exact ⟨fz_fz, ih⟩
  · clear e
    induction xs generalizing vs with
    | nil => rw [h.1]; exact .nil
    | cons x xs ih =>
      obtain ⟨v1, r1, o1, o1', e1, e2, ⟨_, h1⟩, h2⟩ := h
      have e3 : o1' = [] := by
        cases o1 with
        | nil => exact e2.symm
        | cons _ _ => cases e2
      subst e1 e3
      exact .cons h1 (ih r1 h2)
end
end Sl

set_option Elab.async false
set_option linter.all false
set_option maxRecDepth 100000
namespace Sl
open PySem PySem.Spec PyProof.Rows L2 Dl
/-! ### what is asked of values -/
/-- s1 is there to be looked at -/
def At (G H : Hp) (os o : Ow) : Prop := HH G os H ∧ ∃ rest, os.Perm (o ++ rest)
def Out (s : Sh) (G : Hp) (os : Ow) (Q : VK) : Prop := ∀ u G' o H', Same G G' → HH G' (o ++ os) H' → s.p G' o u → Q u H'
def V1 (s1 : Sh) (s : Sh) (r : V → Hp → VK → Prop) : Prop := ∀ v G H os o Q, At G H os o → s1.p G o v → Out s G os Q → r v H Q
def V2 {β : Type} (s1 : Sh) (τ : Ty β) (y : β) (s : Sh) (r : R2) : Prop := ∀ v w G H os o Q, At G H os o → s1.p G o v → τ.rep G w y → Out s G os Q → r v w H Q
theorem Out.now {s : Sh} {G H : Hp} {os : Ow} {Q : VK} {u : V} (k : Out s G os Q) (hh : HH G os H) (h : s.p G [] u) : Q u H := k u G [] H (Same.refl _) hh h
theorem Out.fz {α : Type} {τ : Ty α} {x : α} {G H : Hp} {os : Ow} {Q : VK} {u : V} (k : Out (fz τ x) G os Q) (hh : HH G os H) (h : τ.rep G u x) : Q u H := k.now hh ⟨rfl, h⟩
theorem Out.app {s : Sh} {G : Hp} {os F : Ow} {Q : VK} (h : ∀ v G' o os' H', Same G G' → HH G' (o ++ (os' ++ F)) H' → os' = os → s.p G' o v → Q v H') : Out s G (os ++ F) Q := fun u G' o H' sm hh p => h u G' o os H' sm hh rfl p
section
variable {X : Cx} {Γ : Ct} {m m1 m2 m3 : Option Ct} {α β γ κ : Type} {τ τ1 : Ty α} {τ2 : Ty β} {τ3 : Ty γ} {s s1 s2 s3 : Sh} {pos p1 p2 : Pos} {σ : L2.St} {H : Hp} {Q : VK} {a b c e : Expr} {es : List Expr} {r r' : R2}
/-! constants -/
theorem ej_c {v : V} {x : α} (h : PE X e (tC v)) (r : ∀ G, τ.rep G v x) : EJ X e Γ none (fz τ x) := pe_to h fun σ H Q ⟨G, os, F, hh, st, k⟩ => k v G [] os H (Same.refl _) hh rfl ⟨rfl, r G⟩
theorem ej_int {i : Int} {j} : EJ X (.Constant (.int i) j pos) Γ none (fz tInt i) := ej_c pe_int fun _ => rfl
theorem ej_bl {i : Bool} {j} : EJ X (.Constant (.bool i) j pos) Γ none (fz tBool i) := ej_c pe_bl fun _ => rfl
theorem ej_str {i : Str} {j} : EJ X (.Constant (.str i) j pos) Γ none (fz tStr i) := ej_c pe_str fun _ => rfl
theorem ej_non {j} : EJ X (.Constant .none j pos) Γ none (fz tNon ()) := ej_c pe_non fun _ => rfl
/-! two operands -/
theorem run2 {y : β} (sp : V2 (fz τ1 x) τ2 y s r) {x : α} : True := trivial
theorem tOp_V2 {x : α} {y : β} (sp : V2 (fz τ1 x) τ2 y s r) (h : tT Γ (cmb m1 m2) s σ H Q) : tOp r (tT Γ m1 (fz τ1 x)) (tT (out Γ m1) m2 (fz τ2 y)) σ H Q := by
  obtain ⟨G, os, F, hh, st, k⟩ := h
  refine go_op (tT.two ⟨G, os, F, hh, st, fun v w G' os' H' sm h' af rv rw => ?_⟩)
  exact sp v w G' H' (os' ++ F) [] Q ⟨h', _, .refl _⟩ ⟨rfl, rv⟩ rw fun u G2 o H2 s2 h2 p2 => k u G2 o os' H2 (sm.trans s2) h2 (af.mono s2) p2
theorem tOp_P2 {y : β} (sp : V2 s1 τ2 y s r) (h : tT Γ none s σ H Q) : tOp r (tP Γ s1) (tT Γ none (fz τ2 y)) σ H Q := by
  obtain ⟨G, os, F, hh, st, k⟩ := h
  refine go_op (tP.two ⟨G, os, F, hh, st, fun v w G' H' o rest sm pm h' rv rw => ?_⟩)
  exact sp v w G' H' (os ++ F) o Q ⟨h', rest ++ F, by rw [← List.append_assoc]; exact List.Perm.append_right F pm⟩ rv rw fun u G2 o H2 s2 h2 p2 => k u G2 o os H2 (sm.trans s2) h2 rfl p2
theorem ej_op {op : Operator} {x : α} {y : β} (ho : OpR X (binaryOp op) r) (sp : V2 (fz τ1 x) τ2 y s r) (ha : EJ X a Γ m1 (fz τ1 x)) (hb : EJ X b (out Γ m1) m2 (fz τ2 y)) : EJ X (.BinOp a op b pos) Γ (cmb m1 m2) s :=
  pe_to (pe_op ho ha hb) fun σ H Q h => tOp_V2 sp h
theorem ej_cmp {op : CmpOp} {x : α} {y : β} (ho : OpR X (compareOp op) r) (sp : V2 (fz τ1 x) τ2 y s r) (ha : EJ X a Γ m1 (fz τ1 x)) (hb : EJ X b (out Γ m1) m2 (fz τ2 y)) (hm : behindInMarks op b = false) : EJ X (.Compare a [op] [b] pos) Γ (cmb m1 m2) s :=
  pe_to (pe_cmpR ho ha hb hm) fun σ H Q h => tOp_V2 sp h
theorem ej_ix {x : α} {y : β} (ho : IxR X r) (sp : V2 (fz τ1 x) τ2 y s r) (ha : EJ X a Γ m1 (fz τ1 x)) (hb : EJ X b (out Γ m1) m2 (fz τ2 y)) (hs : PlainIx b) : EJ X (.Subscript a b pos) Γ (cmb m1 m2) s :=
  pe_to (pe_ix ho ha hb hs) fun σ H Q h => tOp_V2 sp h
theorem ej_ixP {y : β} (ho : IxR X r) (sp : V2 s1 τ2 y s r) (ha : PJ X a Γ s1) (hb : EJ X b Γ none (fz τ2 y)) (hs : PlainIx b) : EJ X (.Subscript a b pos) Γ none s :=
  pe_to (pe_ix ho ha hb hs) fun σ H Q h => tOp_P2 sp h
theorem v2_i0 {g : Int → Int → V} {f : Int → Int → γ} {i j : Int} (e : ∀ G, τ3.rep G (g i j) (f i j)) : V2 (fz tInt i) tInt j (fz τ3 (f i j)) (rI0 g) := by
  rintro v w G H os o Q ⟨hh, _⟩ ⟨_, r1⟩ r2 k
  have r1 : v = .int i := r1
  have r2 : w = .int j := r2
  subst r1 r2
  exact go_rI0 (k.fz hh (e G))
theorem v2_i {C : Int → Int → Prop} {g : Int → Int → V} {f : Int → Int → γ} {i j : Int} (c : C i j) (e : ∀ G, τ3.rep G (g i j) (f i j)) : V2 (fz tInt i) tInt j (fz τ3 (f i j)) (rI C g) := by
  rintro v w G H os o Q ⟨hh, _⟩ ⟨_, r1⟩ r2 k
  have r1 : v = .int i := r1
  have r2 : w = .int j := r2
  subst r1 r2
  exact go_rI c (k.fz hh (e G))
section
variable {i j : Int} (ha : EJ X a Γ m1 (fz tInt i)) (hb : EJ X b (out Γ m1) m2 (fz tInt j))
include ha hb
theorem ej_add : EJ X (.BinOp a .Add b pos) Γ (cmb m1 m2) (fz tInt (i + j)) := ej_op op_add (v2_i0 (f := fun i j => i + j) fun _ => rfl) ha hb
theorem ej_sub : EJ X (.BinOp a .Sub b pos) Γ (cmb m1 m2) (fz tInt (i - j)) := ej_op op_sub (v2_i0 (f := fun i j => i - j) fun _ => rfl) ha hb
theorem ej_mul (c : CMul i j) : EJ X (.BinOp a .Mult b pos) Γ (cmb m1 m2) (fz tInt (i * j)) := ej_op op_mul (v2_i (f := fun i j => i * j) c fun _ => rfl) ha hb
theorem ej_mod (c : j ≠ 0) : EJ X (.BinOp a .Mod b pos) Γ (cmb m1 m2) (fz tInt (i.fmod j)) := ej_op op_modN (v2_i (f := fun i j => i.fmod j) c fun _ => rfl) ha hb
theorem ej_div (c : CDivN i j) : EJ X (.BinOp a .FloorDiv b pos) Γ (cmb m1 m2) (fz tInt (i.fdiv j)) := ej_op op_fdivN (v2_i (f := fun i j => i.fdiv j) c fun _ => rfl) ha hb
theorem ej_pow (c : CPow i j) : EJ X (.BinOp a .Pow b pos) Γ (cmb m1 m2) (fz tInt (i ^ j.toNat)) := ej_op op_pow (v2_i (f := fun i j => i ^ j.toNat) c fun _ => rfl) ha hb
theorem ej_lt : EJ X (.Compare a [.Lt] [b] pos) Γ (cmb m1 m2) (fz tBool (decide (i < j))) := ej_cmp op_lt (v2_i0 (f := fun i j => decide (i < j)) fun _ => rfl) ha hb (nomark _)
theorem ej_le : EJ X (.Compare a [.LtE] [b] pos) Γ (cmb m1 m2) (fz tBool (decide (i ≤ j))) := ej_cmp op_le (v2_i0 (f := fun i j => decide (i ≤ j)) fun _ => rfl) ha hb (nomark _)
theorem ej_gt : EJ X (.Compare a [.Gt] [b] pos) Γ (cmb m1 m2) (fz tBool (decide (j < i))) := ej_cmp op_gt (v2_i0 (f := fun i j => decide (j < i)) fun _ => rfl) ha hb (nomark _)
theorem ej_ge : EJ X (.Compare a [.GtE] [b] pos) Γ (cmb m1 m2) (fz tBool (decide (j ≤ i))) := ej_cmp op_ge (v2_i0 (f := fun i j => decide (j ≤ i)) fun _ => rfl) ha hb (nomark _)
end
/-! == of ints, texts, bools -/
class Scl {α : Type} (τ : Ty α) where
  enc : α → V
  inj : ∀ x y, enc x = enc y → x = y
  is : ∀ G v x, τ.rep G v x → v = enc x
  sc : ∀ x y, scal (enc x) (enc y) = true
instance : Scl tInt := ⟨V.int, fun _ _ h => V.int.inj h, fun _ _ _ h => h, fun _ _ => rfl⟩
instance : Scl tStr := ⟨V.str, fun _ _ h => V.str.inj h, fun _ _ _ h => h, fun _ _ => rfl⟩
instance : Scl tBool := ⟨V.bl, fun _ _ h => V.bl.inj h, fun _ _ _ h => h, fun _ _ => rfl⟩
theorem v2_eq [Scl τ] [DecidableEq α] {x y : α} : V2 (fz τ x) τ y (fz tBool (decide (x = y))) rEq := by
  rintro v w G H os o Q ⟨hh, _⟩ ⟨_, r1⟩ r2 k
  have r1 := Scl.is _ _ _ r1
  have r2 := Scl.is _ _ _ r2
  subst r1 r2
  refine ⟨Scl.sc x y, ?_⟩
  have e : decide (Scl.enc τ x = Scl.enc τ y) = decide (x = y) := by
    by_cases h : x = y
    · subst h; rw [decide_eq_true rfl, decide_eq_true rfl]
    · rw [decide_eq_false h, decide_eq_false (fun z => h (Scl.inj _ _ z))]
  rw [e]
  exact k.fz hh rfl
theorem v2_ne [Scl τ] [DecidableEq α] {x y : α} : V2 (fz τ x) τ y (fz tBool (!decide (x = y))) rNe := by
  rintro v w G H os o Q ⟨hh, _⟩ ⟨_, r1⟩ r2 k
  have r1 := Scl.is _ _ _ r1
  have r2 := Scl.is _ _ _ r2
  subst r1 r2
  refine ⟨Scl.sc x y, ?_⟩
  have e : decide (Scl.enc τ x = Scl.enc τ y) = decide (x = y) := by
    by_cases h : x = y
    · subst h; rw [decide_eq_true rfl, decide_eq_true rfl]
    · rw [decide_eq_false h, decide_eq_false (fun z => h (Scl.inj _ _ z))]
  rw [e]
  exact k.fz hh rfl
theorem ej_eq [Scl τ] [DecidableEq α] {x y : α} (ha : EJ X a Γ m1 (fz τ x)) (hb : EJ X b (out Γ m1) m2 (fz τ y)) : EJ X (.Compare a [.Eq] [b] pos) Γ (cmb m1 m2) (fz tBool (decide (x = y))) := ej_cmp op_eq v2_eq ha hb (nomark _)
theorem ej_ne [Scl τ] [DecidableEq α] {x y : α} (ha : EJ X a Γ m1 (fz τ x)) (hb : EJ X b (out Γ m1) m2 (fz τ y)) : EJ X (.Compare a [.NotEq] [b] pos) Γ (cmb m1 m2) (fz tBool (!decide (x = y))) := ej_cmp op_ne v2_ne ha hb (nomark _)
/-! tests -/
theorem tj_val {t : Bool} (h : EJ X e Γ m (fz tBool t)) (he : ∀ whole, isTrue e X.env whole = (do let v ← whole; standAt e.pos; holding [v] (truthy v)) := by intro _; rfl) : TJ X e Γ m t :=
  pt_to (pt_val h he) fun σ H Q ⟨G, os, F, hh, st, k⟩ => go_tb (tT.one ⟨G, os, F, hh, st, fun v G' os' H' sm h' af (r : v = .bl t) => ⟨t, r, k G' os' H' sm h' af⟩⟩)
theorem tj_not {t : Bool} (h : TJ X a Γ m t) : TJ X (.UnaryOp .Not a pos) Γ m (!t) := pt_to (pt_not h) fun σ H Q h => go_not h
abbrev WJ (X : Cx) (e : Expr) (Γ : Ct) (m : Option Ct) (b : Bool) : Prop := PW X e (tB Γ m b)
theorem tj_w {t : Bool} (h : WJ X e Γ m t) : TJ X e Γ m t := h.pt
/-- a and b: what is known of the outcome t by the outcome of a -/
theorem wj_and {ta t : Bool} (ha : TJ X a Γ none ta) (hb : ta = true → WJ X (.BoolOp .And (b :: es) pos) Γ none t) (hf : ta = false → t = false) : WJ X (.BoolOp .And (a :: b :: es) pos) Γ none t := by
  cases ta with
  | true => exact pw_to (pw_and ha (hb rfl)) fun σ H Q ⟨G, os, F, hh, st, k⟩ => go_and ⟨G, os, F, hh, st, fun G' os' H' sm h' af => by
      have af : os' = os := af
      subst af
      exact ⟨G', os', F, h', st.mono sm, fun G2 os2 H2 s2 h2 af2 => k G2 os2 H2 (sm.trans s2) h2 af2⟩⟩
  | false =>
    have e := hf rfl
    subst e
    refine ⟨fun wh pins s σ H Q I h => ?_⟩
    refine isTrue_and (thn (ha.run pins s σ H (fun c H1 => c = false ∧ Q false H1) I ?_) fun c s1 ⟨H1, I1, e, q1⟩ => ?_)
    · obtain ⟨G, os, F, hh, st, k⟩ := h
      exact ⟨G, os, F, hh, st, fun G' os' H' sm h' af => ⟨rfl, k G' os' H' sm h' af⟩⟩
    · subst e
      exact ⟨H1, I1, q1⟩
theorem wj_and1 {t : Bool} (ha : TJ X a Γ m t) : WJ X (.BoolOp .And [a] pos) Γ m t := pw_and1 ha
theorem wj_or {ta t : Bool} (ha : TJ X a Γ none ta) (hb : ta = false → WJ X (.BoolOp .Or (b :: es) pos) Γ none t) (hf : ta = true → t = true) : WJ X (.BoolOp .Or (a :: b :: es) pos) Γ none t := by
  cases ta with
  | false => exact pw_to (pw_or ha (hb rfl)) fun σ H Q ⟨G, os, F, hh, st, k⟩ => go_or ⟨G, os, F, hh, st, fun G' os' H' sm h' af => by
      have af : os' = os := af
      subst af
      exact ⟨G', os', F, h', st.mono sm, fun G2 os2 H2 s2 h2 af2 => k G2 os2 H2 (sm.trans s2) h2 af2⟩⟩
  | true =>
    have e := hf rfl
    subst e
    refine ⟨fun wh pins s σ H Q I h => ?_⟩
    refine isTrue_or (thn (ha.run pins s σ H (fun c H1 => c = true ∧ Q true H1) I ?_) fun c s1 ⟨H1, I1, e, q1⟩ => ?_)
    · obtain ⟨G, os, F, hh, st, k⟩ := h
      exact ⟨G, os, F, hh, st, fun G' os' H' sm h' af => ⟨rfl, k G' os' H' sm h' af⟩⟩
    · subst e
      exact ⟨H1, I1, q1⟩
theorem wj_or1 {t : Bool} (ha : TJ X a Γ m t) : WJ X (.BoolOp .Or [a] pos) Γ m t := pw_or1 ha
end
end Sl

set_option Elab.async false
set_option linter.all false
set_option maxRecDepth 100000
namespace Sl
open PySem PySem.Spec PyProof.Rows L2 Dl
/-! ### one of many readings -/
section
variable {X : Cx} {ι : Type}
theorem pe_ex {e : Expr} {T : TE → Prop} (h : ∀ t, T t → PE X e t) : PE X e (fun σ H Q => ∃ t, T t ∧ t σ H Q) := ⟨fun pins s σ H Q I ⟨t, ht, q⟩ => (h t ht).run pins s σ H Q I q⟩
theorem pts_ex {e : List Expr} {T : TT → Prop} (h : ∀ t, T t → PTs X e t) : PTs X e (fun σ H Q => ∃ t, T t ∧ t σ H Q) := ⟨fun pins s σ H Q I ⟨t, ht, q⟩ => (h t ht).run pins s σ H Q I q⟩
theorem pt_ex {e : Expr} {T : TT → Prop} (h : ∀ t, T t → PT X e t) : PT X e (fun σ H Q => ∃ t, T t ∧ t σ H Q) := ⟨fun pins s σ H Q I ⟨t, ht, q⟩ => (h t ht).run pins s σ H Q I q⟩
theorem pg_ex {e : Expr} {T : TG → Prop} (h : ∀ t, T t → PG X e t) : PG X e (fun v σ H Q => ∃ t, T t ∧ t v σ H Q) := ⟨fun pins s σ H v u Q I r ⟨t, ht, q⟩ => (h t ht).run pins s σ H v u Q I r q⟩
theorem pss_ex {e : List Stmt} {T : TS → Prop} (h : ∀ t, T t → PSs X e t) : PSs X e (fun D σ H => ∃ t, T t ∧ t D σ H) := ⟨fun pins s σ H D I ⟨t, ht, q⟩ => (h t ht).run pins s σ H D I q⟩
theorem pg_to {e : Expr} {t t' : TG} (h : PG X e t) (w : ∀ v σ H Q, t' v σ H Q → t v σ H Q) : PG X e t' := ⟨fun pins s σ H v u Q I r q => h.run pins s σ H v u Q I r (w v σ H Q q)⟩
theorem pgs_to {e : List Expr} {t t' : TGs} (h : PGs X e t) (w : ∀ v σ H Q, t' v σ H Q → t v σ H Q) : PGs X e t' := ⟨fun pins s σ H v u Q I r q => h.run pins s σ H v u Q I r (w v σ H Q q)⟩
theorem pi_to {tg e : Expr} {t t' : TI} (h : PI X tg e t) (w : ∀ σ H Q, t' σ H Q → t σ H Q) : PI X tg e t' := ⟨fun pins s σ H Q I q => h.run pins s σ H Q I (w σ H Q q)⟩
end
/-! ### targets -/
theorem wipe_get : ∀ {vs : List Nat} {σ σ' : L2.St} {j : Nat}, wipe σ' vs = wipe σ vs → j ∉ vs → σ'[j]? = σ[j]?
  | [], σ, σ', _, e, _ => by
    have e : σ' = σ := e
    rw [e]
  | v :: vs, σ, σ', j, e, hj => by
    have hv : v ≠ j := fun z => hj (by simp [z])
    have key : ∀ s : L2.St, (wipe s (v :: vs))[j]? = (wipe s vs)[j]? := fun s => by
      show ((wipe s vs).set v none)[j]? = _
      rw [List.getElem?_set_ne hv]
    have k2 : ∀ (vs : List Nat) (s : L2.St), j ∉ vs → (wipe s vs)[j]? = s[j]? := by
      intro vs
      induction vs with
      | nil => intro s _; rfl
      | cons w ws ih =>
        intro s hn
        show ((wipe s ws).set w none)[j]? = _
        rw [List.getElem?_set_ne (fun z => hn (by simp [z])), ih s (fun z => hn (by simp [z]))]
    have hj2 : j ∉ vs := fun z => hj (by simp [z])
    rw [← k2 vs σ' hj2, ← k2 vs σ hj2, ← key σ', ← key σ, e]
theorem wipe_app : ∀ (us vs : List Nat) (σ : L2.St), wipe σ (us ++ vs) = wipe (wipe σ vs) us
  | [], _, _ => rfl
  | u :: us, vs, σ => by show (wipe σ (us ++ vs)).set u none = _; rw [wipe_app us vs]; rfl
theorem wipe_set : ∀ (vs : List Nat) (σ : L2.St) (i : Nat), wipe (σ.set i none) vs = (wipe σ vs).set i none
  | [], _, _ => rfl
  | v :: vs, σ, i => by
    show (wipe (σ.set i none) vs).set v none = ((wipe σ vs).set v none).set i none
    rw [wipe_set vs]
    by_cases e : i = v
    · subst e; rfl
    · exact List.set_comm _ _ e
theorem wipe_comm : ∀ (us vs : List Nat) (σ : L2.St), wipe (wipe σ us) vs = wipe (wipe σ vs) us
  | [], _, _ => rfl
  | u :: us, vs, σ => by
    show wipe ((wipe σ us).set u none) vs = (wipe (wipe σ vs) us).set u none
    rw [wipe_set, wipe_comm us vs]
/-- a target's names vs are set -/
def tG (vs : List Nat) (Γ Γ' : Ct) (s : Sh) : TG := fun v σ H R => ∃ G o os F, HH G (o ++ (os ++ F)) H ∧ StA Γ σ G os ∧ s.p G o v ∧ ∀ σ' os', wipe σ' vs = wipe σ vs → HH G (os' ++ F) H → StA Γ' σ' G os' → R σ' H
def tGs (vs : List Nat) (Γ Γ' : Ct) (ss : List Sh) : TGs := fun us σ H R => ∃ G os F, HH G (os ++ F) H ∧ StA Γ σ G os ∧ Shs ss G [] us ∧ ∀ σ' os', wipe σ' vs = wipe σ vs → HH G (os' ++ F) H → StA Γ' σ' G os' → R σ' H
abbrev GJ (X : Cx) (e : Expr) (vs : List Nat) (Γ Γ' : Ct) (s : Sh) : Prop := PG X e (tG vs Γ Γ' s)
abbrev GsJ (X : Cx) (e : List Expr) (vs : List Nat) (Γ Γ' : Ct) (ss : List Sh) : Prop := PGs X e (tGs vs Γ Γ' ss)
theorem app_nil2 {α : Type} {a b : List α} (h : [] = a ++ b) : a = [] ∧ b = [] := by
  cases a with
  | nil => exact ⟨rfl, h.symm⟩
  | cons _ _ => cases h
theorem StA.len : ∀ {Γ : Ct} {σ : L2.St} {G : Hp} {os : Ow}, StA Γ σ G os → σ.length = Γ.length
  | [], _, _, _, h => by rw [h.1]; rfl
  | none :: Γ, _ :: σ, _, _, h => by simp [StA.len (Γ := Γ) h]
  | some s :: Γ, _ :: σ, _, _, ⟨_, _, _, _, _, _, h⟩ => by simp [StA.len h]
section
variable {X : Cx} {Γ Γ' Γ1 Γ2 : Ct} {m m1 m2 : Option Ct} {α β γ δ κ : Type} {τ τ1 : Ty α} {τ2 : Ty β} {τ3 : Ty γ} {s s1 s2 : Sh} {pos p : Pos} {a b e : Expr} {es : List Expr} {us vs : List Nat}
theorem gj_name {i : Nat} {x : Str} (hN : X.N.Nodup) (hi : X.N[i]? = some x) (hx : Loc X.env.scope x) (hl : (decide (i < Γ.length)) = true := by rfl) (hf : X.fn x = true ∨ X.env.scope.names.lookup x = some .local := by first | exact .inl rfl | exact .inr rfl | assumption) : GJ X (.Name x p) [i] Γ (Γ.set i (some s)) s :=
  pg_to (pg_name hN hi hx hf) fun v σ H R ⟨G, o, os, F, hh, st, ps, k⟩ => go_gname (by
    obtain ⟨dead, os', pm, st'⟩ := st.set ps (of_decide_eq_true hl)
    refine k _ os' ?_ (HH.drops (d := dead) (hh.perm ?_)) st'
    · show (σ.set i (some v)).set i none = σ.set i none
      rw [List.set_set]
    · rw [← List.append_assoc, ← List.append_assoc]
      exact List.Perm.append_right F pm)
theorem gs_nil : GsJ X [] [] Γ Γ [] := pgs_to pgs_nil fun v σ H R ⟨G, os, F, hh, st, ⟨e, _⟩, k⟩ => by
  subst e
  exact go_gnil (k σ os rfl hh st)
theorem gs_cons {ss : List Sh} (h1 : GJ X e us Γ Γ1 s) (h2 : GsJ X es vs Γ1 Γ2 ss) (hs : (assignEach (e :: es) X.env).map (·.2) = assign e X.env :: (assignEach es X.env).map (·.2) := by rfl) : GsJ X (e :: es) (us ++ vs) Γ Γ2 (s :: ss) :=
  pgs_to (pgs_cons h1 h2 hs) fun xs σ H R ⟨G, os, F, hh, st, ⟨v, vr, o1, o2, e1, e2, p1, p2⟩, k⟩ => by
    obtain ⟨e3, e4⟩ := app_nil2 e2
    subst e1 e3 e4
    refine go_gcons ⟨G, [], os, F, hh, st, p1, fun σ1 os1 w1 hh1 st1 => ⟨G, os1, F, hh1, st1, p2, fun σ2 os2 w2 hh2 st2 => k σ2 os2 ?_ hh2 st2⟩⟩
    rw [wipe_app, wipe_app, w2, wipe_comm, w1, wipe_comm]
theorem gj_tup {k n : Nat} {ss : List Sh} (hc : X.calm = true) (h : GsJ X es vs Γ Γ' ss) (hx : ∀ (G H : Hp) (os o : Ow) (v : V), HH G os H → s.p G o v → o = [] ∧ ∃ a xs, v = .ref a ∧ SqT X.K H a xs ∧ xs.length = n ∧ Shs ss G [] xs)
    (hn : (assignEach es X.env).length = n := by rfl) (hst : (assignEach es X.env).findIdx? (·.1) = none := by rfl) : GJ X (.Tuple es k pos) vs Γ Γ' s :=
  pg_to (pg_tup hc h hn hst) fun v σ H R ⟨G, o, os, F, hh, st, ps, k⟩ => by
    obtain ⟨eo, a, xs, ev, hq, hl, hp⟩ := hx G H _ o v hh ps
    subst eo ev
    exact ⟨a, xs, rfl, hq, hl, G, os, F, hh, st, hp, k⟩
theorem Shs.mk2 {x : α} {y : β} {G : Hp} {v1 v2 : V} (r1 : τ1.rep G v1 x) (r2 : τ2.rep G v2 y) : Shs [fz τ1 x, fz τ2 y] G [] [v1, v2] := ⟨v1, [v2], [], [], rfl, rfl, ⟨rfl, r1⟩, v2, [], [], [], rfl, rfl, ⟨rfl, r2⟩, rfl, rfl⟩
theorem Shs.mk3 {x : α} {y : β} {z : γ} {G : Hp} {v1 v2 v3 : V} (r1 : τ1.rep G v1 x) (r2 : τ2.rep G v2 y) (r3 : τ3.rep G v3 z) : Shs [fz τ1 x, fz τ2 y, fz τ3 z] G [] [v1, v2, v3] := ⟨v1, [v2, v3], [], [], rfl, rfl, ⟨rfl, r1⟩, v2, [v3], [], [], rfl, rfl, ⟨rfl, r2⟩, v3, [], [], [], rfl, rfl, ⟨rfl, r3⟩, rfl, rfl⟩
theorem gj_p2 {k : Nat} {x : α × β} (hc : X.calm = true) (h : GsJ X [a, b] vs Γ Γ' [fz τ1 x.1, fz τ2 x.2]) (hst : (assignEach [a, b] X.env).findIdx? (·.1) = none := by rfl) (hn : (assignEach [a, b] X.env).length = 2 := by rfl) : GJ X (.Tuple [a, b] k pos) vs Γ Γ' (fz (tP2 τ1 τ2) x) :=
  gj_tup hc h (fun G H os o v hh ⟨e, c, v1, v2, ev, g, r1, r2⟩ => ⟨e, c, [v1, v2], ev, SqT.of (hh.tup g), rfl, Shs.mk2 r1 r2⟩) hn hst
theorem gj_p3 {c : Expr} {k : Nat} {x : α × β × γ} (hc : X.calm = true) (h : GsJ X [a, b, c] vs Γ Γ' [fz τ1 x.1, fz τ2 x.2.1, fz τ3 x.2.2]) (hst : (assignEach [a, b, c] X.env).findIdx? (·.1) = none := by rfl) (hn : (assignEach [a, b, c] X.env).length = 3 := by rfl) : GJ X (.Tuple [a, b, c] k pos) vs Γ Γ' (fz (tP3 τ1 τ2 τ3) x) :=
  gj_tup hc h (fun G H os o v hh ⟨e, c, v1, v2, v3, ev, g, r1, r2, r3⟩ => ⟨e, c, [v1, v2, v3], ev, SqT.of (hh.tup g), rfl, Shs.mk3 r1 r2 r3⟩) hn hst
end
/-! ### what is walked -/
/-- J gives the items one by one, while what never changes stands -/
def Wk {β : Type} (J : It) (G : Hp) (items : List β) (sh : β → Sh) : Prop := ∀ G' os H', Same G G' → HH G' os H' → J.stop items.length H' ∧ ∀ i y, items[i]? = some y → J.go i H' ∧ ∀ x H3, J.yld i H' x H3 → ∃ G3, Same G' G3 ∧ HH G3 os H3 ∧ (sh y).p G3 [] x
/-- .. while what stands in F stands there -/
def WkF {β : Type} (F : Ow) (J : It) (G : Hp) (items : List β) (sh : β → Sh) : Prop := ∀ G' os H', Same G G' → HH G' os H' → (∀ c ∈ F, c ∈ os) → J.stop items.length H' ∧ ∀ i y, items[i]? = some y → J.go i H' ∧ ∀ x H3, J.yld i H' x H3 → ∃ G3, Same G' G3 ∧ HH G3 os H3 ∧ (sh y).p G3 [] x
theorem Wk.toF {β : Type} {J : It} {G : Hp} {items : List β} {sh : β → Sh} {F : Ow} (w : Wk J G items sh) : WkF F J G items sh := fun G' os H' s h _ => w G' os H' s h
theorem WkF.mono {β : Type} {J : It} {G G1 : Hp} {items : List β} {sh : β → Sh} {F : Ow} (sm : Same G G1) (w : WkF F J G items sh) : WkF F J G1 items sh := fun G' os H' s h hc => w G' os H' (sm.trans s) h hc
theorem in_fr {x : Addr × HO} {a F : Ow} : ∀ c ∈ F, c ∈ x :: (a ++ F) := fun c hc => List.mem_cons_of_mem _ (List.mem_append_right _ hc)
theorem in_fr2 {x : Addr × HO} {a b F : Ow} : ∀ c ∈ F, c ∈ x :: (a ++ (b ++ F)) := fun c hc => List.mem_cons_of_mem _ (List.mem_append_right _ (List.mem_append_right _ hc))
theorem Wk.mono {β : Type} {J : It} {G G1 : Hp} {items : List β} {sh : β → Sh} (sm : Same G G1) (w : Wk J G items sh) : Wk J G1 items sh := fun G' os H' s h => w G' os H' (sm.trans s) h
def tI {β : Type} (Γ : Ct) (m : Option Ct) (items : List β) (sh : β → Sh) : TI := fun σ H R => ∃ G os F, HH G (os ++ F) H ∧ StA Γ σ G os ∧ ∀ J G' os' H', Same G G' → HH G' (os' ++ F) H' → Aft m σ G' os os' → Wk J G' items sh → R J H'
abbrev IJ {β : Type} (X : Cx) (tg e : Expr) (Γ : Ct) (m : Option Ct) (items : List β) (sh : β → Sh) : Prop := PI X tg e (tI Γ m items sh)
/-- lo, lo + 1, .. -/
def rng (lo : Int) : Nat → List Int
  | 0 => []
  | n + 1 => lo :: rng (lo + 1) n
theorem rng_get : ∀ {n : Nat} {lo : Int} {i : Nat} {y : Int}, (rng lo n)[i]? = some y → i < n ∧ y = lo + i
  | 0, _, _, _, h => by simp [rng] at h
  | n + 1, lo, 0, y, h => by simp [rng] at h; exact ⟨by omega, by omega⟩
  | n + 1, lo, i + 1, y, h => by
    have := rng_get (n := n) (lo := lo + 1) (i := i) (y := y) (by simpa [rng] using h)
    exact ⟨by omega, by omega⟩
theorem rng_len : ∀ (n : Nat) (lo : Int), (rng lo n).length = n
  | 0, _ => rfl
  | n + 1, lo => by rw [rng, List.length_cons, rng_len n]
def range1 (j : Int) : List Int := rng 0 j.toNat
def range2 (i j : Int) : List Int := rng i (j - i).toNat
theorem wk_rng {G : Hp} {lo : Int} {n : Nat} : Wk (Itr lo n) G (rng lo n) (fz tInt) := fun G' os H' s h => by
  rw [rng_len]
  refine ⟨Nat.le_refl n, fun i y hy => ?_⟩
  obtain ⟨h1, h2⟩ := rng_get hy
  exact ⟨h1, fun x H3 ⟨e1, e2⟩ => ⟨G', Same.refl _, by subst e1; exact h, rfl, by subst h2; exact e2⟩⟩
theorem wk_lst {α : Type} {τ : Ty α} {K : PySem.W.Frag} {G : Hp} {a : Addr} {vs : List V} {xs : List α} (e : G a = some (.lst vs)) (r : Paired (τ.rep G) vs xs) : Wk (Itl K a) G xs (fz τ) := fun G' os H' s h => by
  have e' : H' a = some (.lst vs) := h.lst (s _ _ e)
  refine ⟨⟨vs, SqL.of e', Nat.le_of_eq (pr_len r)⟩, fun i y hy => ?_⟩
  obtain ⟨v, hv, rv⟩ := pr_get2 r hy
  exact ⟨⟨vs, v, SqL.of e', hv⟩, fun x H3 ⟨e1, e2⟩ => ⟨G', Same.refl _, by subst e1; exact h, rfl, by
    have := e2 vs (SqL.of e')
    rw [hv] at this
    cases this
    exact τ.mono s rv⟩⟩
section
variable {X : Cx} {Γ Γ' Γ1 Γ2 : Ct} {m m1 m2 : Option Ct} {α β γ δ κ : Type} {τ τ1 : Ty α} {τ2 : Ty β} {τ3 : Ty γ} {s s1 s2 : Sh} {pos p : Pos} {a b e tg : Expr} {es : List Expr} {us vs : List Nat}
theorem ij_lst {xs : List α} (h : EJ X e Γ m (fz (tList τ) xs)) : IJ X tg e Γ m xs (fz τ) := pi_to (pi_list h) fun σ H R ⟨G, os, F, hh, st, k⟩ => go_ilist (tT.one ⟨G, os, F, hh, st, fun v G' os' H' sm h' af ⟨a, vs, e, g, r⟩ =>
  ⟨a, e, ⟨vs, SqL.of (h'.lst g)⟩, k _ G' os' H' sm h' af (wk_lst g r)⟩⟩)
theorem ij_rg1 {j : Int} (hg : Gl X "range") (hm : X.mg "range" = none) (h : AJ X [e] Γ m [.val (fz tInt j)]) (hj : -1000000000 ≤ j ∧ j ≤ 1000000000) (hs : starEach [e] X.env = [(false, eval e X.env)] := by rfl) : IJ X tg (.Call (.Name "range" p) [e] [] pos) Γ m (range1 j) (fz tInt) :=
  pi_to (pi_range1 hg hm h hs) fun σ H R ⟨G, os, F, hh, st, k⟩ => go_rg1 ⟨G, os, F, hh, st, fun ws G' o os' H' sm h' af ⟨v, vr, o1, o2, e1, e2, ⟨e3, r⟩, e4, e5⟩ => by
    subst e1 e3 e4 e5 e2
    have r : v = .int j := r
    subst r
    exact go_rgk hj.1 hj.2 (k _ G' os' H' sm h' af wk_rng)⟩
end
end Sl

set_option Elab.async false
set_option linter.all false
set_option maxRecDepth 100000
namespace Sl
open PySem PySem.Spec PyProof.Rows L2 Dl
/-! ### statements -/
abbrev Pn := List (Nat × V)
def PinA (P : Pn) (σ : L2.St) : Prop := ∀ p ∈ P, σ[p.1]? = some (some p.2)
structure Po where
  nx : L2.St → Hp → Ow → Prop
  rt : V → Hp → Ow → Prop
  ct : L2.St → Hp → Ow → Prop
def tS (P : Pn) (Γ : Ct) (R : Po) : TS := fun D σ H => ∃ G os F, HH G (os ++ F) H ∧ StA Γ σ G os ∧ PinA P σ ∧
  (∀ σ' G' os' H', Same G G' → HH G' (os' ++ F) H' → PinA P σ' → R.nx σ' G' os' → D.nx σ' H') ∧
  (∀ v G' o H', Same G G' → HH G' (o ++ F) H' → R.rt v G' o → D.rt v H') ∧
  (∀ σ' G' os' H', Same G G' → HH G' (os' ++ F) H' → PinA P σ' → R.ct σ' G' os' → D.ct σ' H')
abbrev SJ (X : Cx) (P : Pn) (st : List Stmt) (Γ : Ct) (R : Po) : Prop := PSs X st (tS P Γ R)
abbrev Po.to (R : Po) (Γm : Ct) : Po := { R with nx := fun σ G os => StA Γm σ G os }
abbrev Po.cut (R : Po) : Po := { R with nx := fun _ _ _ => False }
/-- how a block ends -/
inductive Oc (ρ S : Type) where
  | ret (r : ρ)
  | nx (s : S)
def retOf {ρ S : Type} : Oc ρ S → Option ρ
  | .ret r => some r
  | .nx _ => none
theorem retOf_eq {ρ S : Type} {o : Oc ρ S} {r : ρ} (h : retOf o = some r) : o = .ret r := by
  cases o with
  | ret x => cases h; rfl
  | nx x => cases h
/-- the lent parameters and the answer -/
def rtO (rs : Sh) (ls : List Sh) (P : Pn) : V → Hp → Ow → Prop := fun v G o => ∃ o1 o2, o = o1 ++ o2 ∧ rs.p G o1 v ∧ Shs ls G o2 (P.map Prod.snd)
/-- a def: rs out is the answer, ls out the lent parameters -/
def PoF {ρ : Type} (rs : ρ → Sh) (ls : ρ → List Sh) (P : Pn) (y : ρ) : Po where
  nx := fun σ G os => ∃ dead o, os.Perm (dead ++ o) ∧ rtO (rs y) (ls y) P .non G o
  rt := rtO (rs y) (ls y) P
  ct := fun _ _ _ => False
/-- a block within a def -/
def PoO {ρ S : Type} (rs : ρ → Sh) (ls : ρ → List Sh) (P : Pn) (Γs : S → Ct) (o : Oc ρ S) : Po where
  nx := fun σ G os => ∃ s, o = .nx s ∧ StA (Γs s) σ G os
  rt := fun v G ow => ∃ r, retOf o = some r ∧ rtO (rs r) (ls r) P v G ow
  ct := fun _ _ _ => False
section
variable {X : Cx} {P : Pn} {Γ Γ' Γ1 Γ2 Γm : Ct} {m m1 m2 : Option Ct} {α β γ δ κ ρ S : Type} {τ τ1 : Ty α} {τ2 : Ty β} {τ3 : Ty γ} {s s1 s2 : Sh} {pos p : Pos} {a b e tg : Expr} {es : List Expr} {us vs : List Nat} {st : Stmt} {rest thn els body : List Stmt} {R R' : Po} {rs : ρ → Sh} {ls : ρ → List Sh} {y : ρ}
theorem PinA.wipe {σ σ' : L2.St} {vs : List Nat} (h : PinA P σ) (w : L2.wipe σ' vs = L2.wipe σ vs) (d : (P.all fun p => decide (p.1 ∉ vs)) = true) : PinA P σ' := fun p hp => by
  rw [wipe_get w (of_decide_eq_true (List.all_eq_true.mp d p hp))]
  exact h p hp
theorem perm_mid (o os F : Ow) : (o ++ (os ++ F)).Perm (os ++ (o ++ F)) := by
  rw [← List.append_assoc, ← List.append_assoc]
  exact List.Perm.append_right F List.perm_append_comm
/-- the end of a block -/
theorem sj_nil (h : ∀ σ G os, StA Γ σ G os → PinA P σ → R.nx σ G os) : SJ X P [] Γ R := pss_to pss_nil fun D σ H ⟨G, os, F, hh, st, pn, k1, k2, k3⟩ => k1 σ G os H (Same.refl _) hh pn (h σ G os st pn)
theorem sj_end {Γs : S → Ct} {x : S} {fl : List Bool} (hl : fl.length = Γ.length) (e : mask fl Γ = Γs x) : SJ X P [] Γ (PoO rs ls P Γs (.nx x)) := pss_to pss_nil fun D σ H ⟨G, os, F, hh, st, pn, k1, k2, k3⟩ => by
  obtain ⟨os', h', st'⟩ := HH.masked hh st hl
  rw [e] at st'
  exact k1 σ G os' H (Same.refl _) h' pn ⟨x, rfl, st'⟩
/-- the end of a branch that comes together with others at Γm -/
theorem sj_join {fl : List Bool} (hl : fl.length = Γ.length) (e : mask fl Γ = Γm) (hR : ∀ σ G os, StA Γm σ G os → R.nx σ G os) : SJ X P [] Γ R := pss_to pss_nil fun D σ H ⟨G, os, F, hh, st, pn, k1, k2, k3⟩ => by
  obtain ⟨os', h', st'⟩ := HH.masked hh st hl
  rw [e] at st'
  exact k1 σ G os' H (Same.refl _) h' pn (hR _ _ _ st')
/-- slots that are not looked at any more -/
theorem sj_mask {fl : List Bool} (hl : fl.length = Γ.length) (e : mask fl Γ = Γm) (hr : SJ X P rest Γm R) : SJ X P rest Γ R := pss_to hr fun D σ H ⟨G, os, F, hh, st, pn, k1, k2, k3⟩ => by
  obtain ⟨os', h', st'⟩ := HH.masked hh st hl
  rw [e] at st'
  exact ⟨G, os', F, h', st', pn, k1, k2, k3⟩
/-- target = value -/
theorem sj_asg {vs : List Nat} (he : EJ X e Γ m s) (hg : GJ X tg vs (out Γ m) Γ2 s) (hr : SJ X P rest Γ2 R) (d : (P.all fun p => decide (p.1 ∉ vs)) = true := by rfl)
    (hs : swapsWithSole [tg] e pos.line X.env = pure false := by rfl) (hw : swappedStores [tg] e X.env = pure none := by rfl) (h1 : (assignEach [tg] X.env).map (·.2) = [assign tg X.env] := by rfl) : SJ X P (.Assign [tg] e pos :: rest) Γ R :=
  pss_to (pss_cons (ps_asg he hg hs hw h1) hr) fun D σ H ⟨G, os, F, hh, st, pn, k1, k2, k3⟩ => go_seq (go_asg ⟨G, os, F, hh, st, fun v G' o os' H' sm h' af ps =>
    ⟨G', o, os', F, h', af.st st sm, ps, fun σ' os2 w h2 st2 => ⟨G', os2, F, h2, st2, pn.wipe w d, fun σ3 G3 os3 H3 sm3 => k1 σ3 G3 os3 H3 (sm.trans sm3), fun v G3 o H3 sm3 => k2 v G3 o H3 (sm.trans sm3), fun σ3 G3 os3 H3 sm3 => k3 σ3 G3 os3 H3 (sm.trans sm3)⟩⟩⟩)
/-- name = value (the form of one name) -/
theorem sj_set {i : Nat} {x : Str} {pos' : Pos} (hN : X.N.Nodup) (hi : X.N[i]? = some x) (hx : Loc X.env.scope x) (he : EJ X e Γ m s) (hr : SJ X P rest ((out Γ m).set i (some s)) R) (d : (P.all fun p => decide (p.1 ∉ [i])) = true := by rfl) (hl : (decide (i < (out Γ m).length)) = true := by rfl)
    (hs : swapsWith e (some (.Name x pos')) pos.line X.env = pure false := by rfl) (hf : X.fn x = true ∨ X.env.scope.names.lookup x = some .local := by first | exact .inl rfl | exact .inr rfl | assumption) : SJ X P (.Assign [.Name x pos'] e pos :: rest) Γ R :=
  pss_to (pss_cons (ps_set hN hi hx he hs hf) hr) fun D σ H ⟨G, os, F, hh, st, pn, k1, k2, k3⟩ => go_seq (go_asg ⟨G, os, F, hh, st, fun v G' o os' H' sm h' af ps => go_gname (by
    obtain ⟨dead, os2, pm, st2⟩ := (af.st st sm).set ps (of_decide_eq_true hl)
    refine ⟨G', os2, F, HH.drops (d := dead) (h'.perm ?_), st2, PinA.wipe pn (vs := [i]) ?_ d, fun σ3 G3 os3 H3 sm3 => k1 σ3 G3 os3 H3 (sm.trans sm3), fun v G3 o H3 sm3 => k2 v G3 o H3 (sm.trans sm3), fun σ3 G3 os3 H3 sm3 => k3 σ3 G3 os3 H3 (sm.trans sm3)⟩
    · rw [← List.append_assoc, ← List.append_assoc]
      exact List.Perm.append_right F pm
    · show (σ.set i (some v)).set i none = σ.set i none
      rw [List.set_set])⟩)
/-- name = [..] -/
theorem sj_setLc {i : Nat} {x : Str} {pos' : Pos} (h : PS X (.Assign [.Name x pos'] e pos) (tAsg (tT Γ m s) (gName i)))
    (hr : SJ X P rest ((out Γ m).set i (some s)) R) (d : (P.all fun p => decide (p.1 ∉ [i])) = true := by rfl) (hl : (decide (i < (out Γ m).length)) = true := by rfl) : SJ X P (.Assign [.Name x pos'] e pos :: rest) Γ R :=
  pss_to (pss_cons h hr) fun D σ H ⟨G, os, F, hh, st, pn, k1, k2, k3⟩ => go_seq (go_asg ⟨G, os, F, hh, st, fun v G' o os' H' sm h' af ps => go_gname (by
    obtain ⟨dead, os2, pm, st2⟩ := (af.st st sm).set ps (of_decide_eq_true hl)
    refine ⟨G', os2, F, HH.drops (d := dead) (h'.perm ?_), st2, PinA.wipe pn (vs := [i]) ?_ d, fun σ3 G3 os3 H3 sm3 => k1 σ3 G3 os3 H3 (sm.trans sm3), fun v G3 o H3 sm3 => k2 v G3 o H3 (sm.trans sm3), fun σ3 G3 os3 H3 sm3 => k3 σ3 G3 os3 H3 (sm.trans sm3)⟩
    · rw [← List.append_assoc, ← List.append_assoc]
      exact List.Perm.append_right F pm
    · show (σ.set i (some v)).set i none = σ.set i none
      rw [List.set_set])⟩)
/-- an expression alone -/
theorem sj_expr (he : EJ X e Γ m s) (hr : SJ X P rest (out Γ m) R) (hs : swapsWith e none pos.line X.env = pure false := by rfl) : SJ X P (.Expr e pos :: rest) Γ R :=
  pss_to (pss_cons (ps_expr he hs) hr) fun D σ H ⟨G, os, F, hh, st, pn, k1, k2, k3⟩ => go_seq (go_drop ⟨G, os, F, hh, st, fun v G' o os' H' sm h' af ps =>
    ⟨G', os', F, HH.drops (d := o) h', af.st st sm, pn, fun σ3 G3 os3 H3 sm3 => k1 σ3 G3 os3 H3 (sm.trans sm3), fun v G3 o H3 sm3 => k2 v G3 o H3 (sm.trans sm3), fun σ3 G3 os3 H3 sm3 => k3 σ3 G3 os3 H3 (sm.trans sm3)⟩⟩)
/-- a slot's thing becomes data for good -/
theorem sj_fz {i : Nat} (hi : Γ[i]? = some (some s1)) (f : Fz s1 s2) (hr : SJ X P rest (Γ.set i (some s2)) R) : SJ X P rest Γ R :=
  pss_to hr fun D σ H ⟨G, os, F, hh, st, pn, k1, k2, k3⟩ => by
    obtain ⟨v, o, ro, a1, a2, a3, a4, a5⟩ := st.take hi
    obtain ⟨G', sm, h', ps⟩ := f G H o (ro ++ F) v a2 (hh.perm (by rw [← List.append_assoc]; exact List.Perm.append_right F a3))
    obtain ⟨os', p', st'⟩ := a5 G' s2 [] sm ps
    exact ⟨G', os', F, h'.perm (List.Perm.append_right F p'.symm), st', pn, fun σ3 G3 os3 H3 sm3 => k1 σ3 G3 os3 H3 (sm.trans sm3), fun v G3 o H3 sm3 => k2 v G3 o H3 (sm.trans sm3), fun σ3 G3 os3 H3 sm3 => k3 σ3 G3 os3 H3 (sm.trans sm3)⟩
theorem ej_fz (he : EJ X e Γ m s1) (f : Fz s1 s2) : EJ X e Γ m s2 := pe_to he fun σ H Q ⟨G, os, F, hh, st, k⟩ => ⟨G, os, F, hh, st, fun v G' o os' H' sm h' af ps => by
  obtain ⟨G2, sm2, h2, p2⟩ := f G' H' o (os' ++ F) v ps h'
  exact k v G2 [] os' H' (sm.trans sm2) h2 (af.mono sm2) p2⟩
/-- what the lent parameters hold -/
def lentAt : Pn → Ct → List (Option (Option Sh))
  | [], _ => []
  | p :: P, Γ => Γ[p.1]? :: lentAt P Γ
/-- the lent parameters' cells taken out -/
theorem StA.lent : ∀ {P : Pn} {Γ : Ct} {σ : L2.St} {G : Hp} {os : Ow} {ss : List Sh}, StA Γ σ G os → PinA P σ → (P.map Prod.fst).Nodup → lentAt P Γ = ss.map (fun s => some (some s)) → ∃ o dead, os.Perm (o ++ dead) ∧ Shs ss G o (P.map Prod.snd)
  | [], _, _, _, os, [], _, _, _, _ => ⟨[], os, .refl _, rfl, rfl⟩
  | p :: P, Γ, σ, G, os, s :: ss, st, pn, nd, h => by
    obtain ⟨h1, h2⟩ := List.cons.inj h
    obtain ⟨v, o, ro, a1, a2, a3, a4, a5⟩ := st.take h1
    have nd2 := List.nodup_cons.mp nd
    have hP : lentAt P (Γ.set p.1 none) = ss.map (fun s => some (some s)) := by
      rw [← h2]
      have : ∀ Q : Pn, p.1 ∉ Q.map Prod.fst → lentAt Q (Γ.set p.1 none) = lentAt Q Γ := by
        intro Q
        induction Q with
        | nil => intro _; rfl
        | cons q Q ih =>
          intro hq
          show (Γ.set p.1 none)[q.1]? :: lentAt Q _ = Γ[q.1]? :: lentAt Q Γ
          rw [ih (fun z => hq (List.mem_cons_of_mem _ z)), List.getElem?_set_ne (fun z => hq (by simp [z]))]
      exact this P nd2.1
    obtain ⟨o2, dead, b1, b2⟩ := StA.lent a4 (fun q hq => pn q (List.mem_cons_of_mem _ hq)) nd2.2 hP
    have e : v = p.2 := by
      have := pn p (List.mem_cons_self ..)
      rw [a1] at this
      exact Option.some.inj (Option.some.inj this)
    subst e
    exact ⟨o ++ o2, dead, a3.trans (by rw [List.append_assoc]; exact List.Perm.append_left o b1), p.2, P.map Prod.snd, o, o2, rfl, rfl, a2, b2⟩
  | [], _, _, _, _, _ :: _, _, _, _, h => by cases h
  | _ :: _, _, _, _, _, [], _, _, _, h => by cases h
/-- return e -/
theorem sj_retG (he : EJ X e Γ m s) (hrt : ∀ v G o, rtO s (ls y) P v G o → R.rt v G o) (hl : lentAt P (out Γ m) = (ls y).map (fun s => some (some s))) (nd : (P.map Prod.fst).Nodup := by decide) : SJ X P (.Return (some e) pos :: rest) Γ R :=
  pss_to (pss_cons (ps_ret he) pss_never) fun D σ H ⟨G, os, F, hh, st, pn, k1, k2, k3⟩ => go_seq (go_ret ⟨G, os, F, hh, st, fun v G' o os' H' sm h' af ps => by
    obtain ⟨o2, dead, b1, b2⟩ := StA.lent (af.st st sm) pn nd hl
    refine k2 v G' (o ++ o2) H' sm (HH.drops (d := dead) (h'.perm ?_)) (hrt _ _ _ ⟨o, o2, rfl, ps, b2⟩)
    refine (List.Perm.append_left o (List.Perm.append_right F (b1.trans List.perm_append_comm))).trans ?_
    rw [List.append_assoc dead, List.append_assoc o o2]
    exact perm_mid o dead (o2 ++ F)⟩)
theorem sj_ret (he : EJ X e Γ m s) (hs : rs y = s) (hl : lentAt P (out Γ m) = (ls y).map (fun s => some (some s))) (nd : (P.map Prod.fst).Nodup := by decide) (hR : R.rt = rtO (rs y) (ls y) P := by rfl) : SJ X P (.Return (some e) pos :: rest) Γ R :=
  sj_retG (ls := ls) (y := y) he (fun v G o h => by rw [hR]; subst hs; exact h) hl nd
theorem sj_retO (he : EJ X e Γ m s) (hs : rs y = s) (hl : lentAt P (out Γ m) = (ls y).map (fun s => some (some s))) (nd : (P.map Prod.fst).Nodup := by decide) (hR : R.rt = fun v G ow => ∃ r, some y = some r ∧ rtO (rs r) (ls r) P v G ow := by rfl) : SJ X P (.Return (some e) pos :: rest) Γ R :=
  sj_retG (ls := ls) (y := y) he (fun v G o h => by rw [hR]; subst hs; exact ⟨y, rfl, h⟩) hl nd
/-- the end of a def's body -/
theorem sj_fin (hs : ∀ G, (rs y).p G [] .non) (hl : lentAt P Γ = (ls y).map (fun s => some (some s))) (nd : (P.map Prod.fst).Nodup := by decide) : SJ X P [] Γ (PoF rs ls P y) :=
  sj_nil fun σ G os st pn => by
    obtain ⟨o2, dead, b1, b2⟩ := StA.lent st pn nd hl
    exact ⟨dead, o2, b1.trans List.perm_append_comm, [], o2, rfl, hs G, b2⟩
/-- if: both ways end or come together at Γm -/
theorem sj_if {t : Bool} {c : Expr} (hc : TJ X c Γ m t) (h1 : t = true → SJ X P thn (out Γ m) (R.to Γm)) (h2 : t = false → SJ X P els (out Γ m) (R.to Γm)) (hr : SJ X P rest Γm R) : SJ X P (.If c thn els pos :: rest) Γ R := by
  have key : ∀ {D : Ends} {G : Hp} {os F : Ow} {σ : L2.St} {H : Hp}, StA (out Γ m) σ G os → HH G (os ++ F) H → PinA P σ →
      (∀ σ' G' os' H', Same G G' → HH G' (os' ++ F) H' → PinA P σ' → R.nx σ' G' os' → D.nx σ' H') →
      (∀ v G' o H', Same G G' → HH G' (o ++ F) H' → R.rt v G' o → D.rt v H') →
      (∀ σ' G' os' H', Same G G' → HH G' (os' ++ F) H' → PinA P σ' → R.ct σ' G' os' → D.ct σ' H') →
      tS P (out Γ m) (R.to Γm) { D with nx := tS P Γm R D } σ H := fun {D G os F σ H} st hh pn k1 k2 k3 =>
    ⟨G, os, F, hh, st, pn, fun σ' G' os' H' sm h' pn' st' => ⟨G', os', F, h', st', pn', fun σ3 G3 os3 H3 sm3 => k1 σ3 G3 os3 H3 (sm.trans sm3), fun v G3 o H3 sm3 => k2 v G3 o H3 (sm.trans sm3), fun σ3 G3 os3 H3 sm3 => k3 σ3 G3 os3 H3 (sm.trans sm3)⟩, k2, k3⟩
  cases t with
  | true =>
    refine pss_to (pss_cons (ps_if hc (h1 rfl) pss_never) hr) fun D σ H ⟨G, os, F, hh, st, pn, k1, k2, k3⟩ => go_seq (go_ifs ⟨G, os, F, hh, st, fun G' os' H' sm h' af => ?_⟩)
    exact key (af.st st sm) h' pn (fun σ3 G3 os3 H3 sm3 => k1 σ3 G3 os3 H3 (sm.trans sm3)) (fun v G3 o H3 sm3 => k2 v G3 o H3 (sm.trans sm3)) fun σ3 G3 os3 H3 sm3 => k3 σ3 G3 os3 H3 (sm.trans sm3)
  | false =>
    refine pss_to (pss_cons (ps_if hc pss_never (h2 rfl)) hr) fun D σ H ⟨G, os, F, hh, st, pn, k1, k2, k3⟩ => go_seq (go_ifs ⟨G, os, F, hh, st, fun G' os' H' sm h' af => ?_⟩)
    exact key (af.st st sm) h' pn (fun σ3 G3 os3 H3 sm3 => k1 σ3 G3 os3 H3 (sm.trans sm3)) (fun v G3 o H3 sm3 => k2 v G3 o H3 (sm.trans sm3)) fun σ3 G3 os3 H3 sm3 => k3 σ3 G3 os3 H3 (sm.trans sm3)
/-- if whose taken way leaves; else goes on -/
theorem sj_ifT {t : Bool} {c : Expr} (hc : TJ X c Γ m t) (h1 : t = true → SJ X P thn (out Γ m) R.cut) (h2 : t = false → SJ X P rest (out Γ m) R) : SJ X P (.If c thn [] pos :: rest) Γ R := by
  cases t with
  | true =>
    refine pss_to (pss_cons (ps_if hc (h1 rfl) pss_never) pss_never) fun D σ H ⟨G, os, F, hh, st, pn, k1, k2, k3⟩ => go_seq (go_ifs ⟨G, os, F, hh, st, fun G' os' H' sm h' af => ?_⟩)
    exact ⟨G', os', F, h', af.st st sm, pn, fun σ3 G3 os3 H3 _ _ _ z => z.elim, fun v G3 o H3 sm3 => k2 v G3 o H3 (sm.trans sm3), fun σ3 G3 os3 H3 sm3 => k3 σ3 G3 os3 H3 (sm.trans sm3)⟩
  | false =>
    refine pss_to (pss_cons (ps_if hc pss_never pss_nil) (h2 rfl)) fun D σ H ⟨G, os, F, hh, st, pn, k1, k2, k3⟩ => go_seq (go_ifs ⟨G, os, F, hh, st, fun G' os' H' sm h' af => ?_⟩)
    exact go_next ⟨G', os', F, h', af.st st sm, pn, fun σ3 G3 os3 H3 sm3 => k1 σ3 G3 os3 H3 (sm.trans sm3), fun v G3 o H3 sm3 => k2 v G3 o H3 (sm.trans sm3), fun σ3 G3 os3 H3 sm3 => k3 σ3 G3 os3 H3 (sm.trans sm3)⟩
end
end Sl

set_option Elab.async false
set_option linter.all false
set_option maxRecDepth 100000
namespace Sl
open PySem PySem.Spec PyProof.Rows L2 Dl
/-! ### loops as functions -/
section
variable {ρ S β : Type}
def foldX (f : S → β → Option (Oc ρ S)) (s : S) : List β → Option (Oc ρ S)
  | [] => some (.nx s)
  | y :: ys => (f s y).bind fun o => match o with
    | .ret r => some (.ret r)
    | .nx s' => foldX f s' ys
def foldO (f : S → β → Option S) (s : S) : List β → Option S
  | [] => some s
  | y :: ys => (f s y).bind fun s' => foldO f s' ys
theorem foldO_X (f : S → β → Option S) : ∀ {ys : List β} {s s1 : S}, foldO f s ys = some s1 → foldX (ρ := ρ) (fun s y => (f s y).bind fun s' => some (.nx s')) s ys = some (.nx s1)
  | [], s, s1, h => by cases h; rfl
  | y :: ys, s, s1, h => by
    obtain ⟨s', h1, h2⟩ := Option.bind_eq_some_iff.mp (show (f s y).bind (fun s' => foldO f s' ys) = some s1 from h)
    show ((f s y).bind fun s' => some (Oc.nx s')).bind _ = _
    rw [h1]
    exact foldO_X f h2
/-- while: the test may change the state, too -/
inductive WhileTo (c : S → Option (Bool × S)) (b : S → Option (Oc ρ S)) : S → Oc ρ S → Nat → Prop
  | done {s s1 : S} : c s = some (false, s1) → WhileTo c b s (.nx s1) 0
  | ret {s s1 : S} {r : ρ} : c s = some (true, s1) → b s1 = some (.ret r) → WhileTo c b s (.ret r) 0
  | turn {s s1 s2 : S} {o : Oc ρ S} {n : Nat} : c s = some (true, s1) → b s1 = some (.nx s2) → WhileTo c b s2 o n → WhileTo c b s o (n + 1)
open Classical in
noncomputable def whileX (c : S → Option (Bool × S)) (b : S → Option (Oc ρ S)) (s : S) : Option (Oc ρ S) := if h : ∃ o n, WhileTo c b s o n then some h.choose else none
theorem whileX_to {c : S → Option (Bool × S)} {b : S → Option (Oc ρ S)} {s : S} {o : Oc ρ S} (h : whileX c b s = some o) : ∃ n, WhileTo c b s o n := by
  unfold whileX at h
  split at h
  · rename_i hx
    cases h
    exact hx.choose_spec
  · cases h
theorem WhileTo.uniq {c : S → Option (Bool × S)} {b : S → Option (Oc ρ S)} {s : S} {o : Oc ρ S} {n : Nat} (h : WhileTo c b s o n) : ∀ {o' : Oc ρ S} {n' : Nat}, WhileTo c b s o' n' → o' = o := by
  induction h with
  | done h1 => intro o' n' h'; cases h' with
    | done k1 => rw [h1] at k1; cases k1; rfl
    | ret k1 _ => rw [h1] at k1; cases k1
    | turn k1 _ _ => rw [h1] at k1; cases k1
  | ret h1 h2 => intro o' n' h'; cases h' with
    | done k1 => rw [h1] at k1; cases k1
    | ret k1 k2 => rw [h1] at k1; cases k1; rw [h2] at k2; cases k2; rfl
    | turn k1 k2 _ => rw [h1] at k1; cases k1; rw [h2] at k2; cases k2
  | turn h1 h2 h3 ih => intro o' n' h'; cases h' with
    | done k1 => rw [h1] at k1; cases k1
    | ret k1 k2 => rw [h1] at k1; cases k1; rw [h2] at k2; cases k2
    | turn k1 k2 k3 => rw [h1] at k1; cases k1; rw [h2] at k2; cases k2; exact ih k3
theorem whileX_of {c : S → Option (Bool × S)} {b : S → Option (Oc ρ S)} {s : S} {o : Oc ρ S} {n : Nat} (h : WhileTo c b s o n) : whileX c b s = some o := by
  unfold whileX
  have hx : ∃ o n, WhileTo c b s o n := ⟨o, n, h⟩
  rw [dif_pos hx]
  obtain ⟨n', h'⟩ := hx.choose_spec
  exact congrArg some (h.uniq h')
end
section
variable {X : Cx} {P : Pn} {Γ Γ' Γ1 Γ2 Γm : Ct} {m m1 m2 : Option Ct} {α β γ δ κ ρ S : Type} {τ τ1 : Ty α} {τ2 : Ty β} {τ3 : Ty γ} {s s1 s2 : Sh} {pos p : Pos} {a b e tg : Expr} {es : List Expr} {us vs : List Nat} {st : Stmt} {rest thn els body : List Stmt} {R R' : Po} {rs : ρ → Sh} {ls : ρ → List Sh} {y : ρ}
theorem drop_get {α : Type} {xs : List α} {i : Nat} (h : i < xs.length) : ∃ y, xs[i]? = some y ∧ xs.drop i = y :: xs.drop (i + 1) := ⟨xs[i], by simp [h], (List.drop_eq_getElem_cons h)⟩
/-- for -/
theorem sj_forX {items : List β} {sh : β → Sh} {f : S → β → Option (Oc ρ S)} {s0 : S} {o : Oc ρ S} {Γs : S → Ct} {Γy : S → β → Ct} {fl : List Bool} (h : foldX f s0 items = some o) (hi : IJ X tg e Γ m items sh) (hl : fl.length = (out Γ m).length) (h0 : mask fl (out Γ m) = Γs s0)
    (hg : ∀ s y, GJ X tg vs (Γs s) (Γy s y) (sh y)) (hb : ∀ s y o', y ∈ items → f s y = some o' → SJ X P body (Γy s y) (PoO rs ls P Γs o'))
    (hn : ∀ s1, o = .nx s1 → SJ X P rest (Γs s1) R) (hr : ∀ r, o = .ret r → ∀ v G ow, rtO (rs r) (ls r) P v G ow → R.rt v G ow) (hp : PassesOwn (model X.prog X.w) X.A X.env X.xe) (hc : X.calm = true) (d : (P.all fun p => decide (p.1 ∉ vs)) = true := by rfl)
    (hs : ∀ x, foldedSetIterable e X.env x = pure x := by intro _; rfl) : SJ X P (.For tg e body [] pos :: rest) Γ R := by
  have hg' : PG X tg (fun v σ H Q => ∃ t, (∃ s y, t = tG vs (Γs s) (Γy s y) (sh y)) ∧ t v σ H Q) := pg_ex fun t ⟨s, y, e⟩ => by subst e; exact hg s y
  have hb' : PSs X body (fun D σ H => ∃ t, (∃ s y o', y ∈ items ∧ f s y = some o' ∧ t = tS P (Γy s y) (PoO rs ls P Γs o')) ∧ t D σ H) := pss_ex fun t ⟨s, y, o', hm, hf, e⟩ => by subst e; exact hb s y o' hm hf
  have hrest : PSs X rest (fun D σ H => ∃ t, (∃ s1, o = .nx s1 ∧ t = tS P (Γs s1) R) ∧ t D σ H) := pss_ex fun t ⟨s1, e1, e⟩ => by subst e; exact hn s1 e1
  refine pss_to (pss_cons (ps_for hp hc hi hg' hb' hs) hrest) fun D σ H ⟨G, os, F, hh, st, pn, k1, k2, k3⟩ => go_seq (go_for ⟨G, os, F, hh, st, fun J G1 os1 H1 sm1 h1 af wk => ?_⟩)
  obtain ⟨os1, h1, st1⟩ := HH.masked h1 (af.st st sm1) hl
  rw [h0] at st1
  refine ⟨fun i mm σ H => mm = items.length - i ∧ i ≤ items.length ∧ ∃ s G' os', Same G1 G' ∧ HH G' (os' ++ F) H ∧ StA (Γs s) σ G' os' ∧ PinA P σ ∧ foldX f s (items.drop i) = some o, ⟨_, rfl, Nat.zero_le _, s0, G1, os1, Same.refl _, h1, st1, pn, h⟩, ?_⟩
  rintro i mm σ2 H2 ⟨rfl, hle, s2, G2, os2, sm2, h2, st2, pn2, hf⟩
  obtain ⟨ws, wi⟩ := wk G2 _ H2 sm2 h2
  by_cases hlt : i < items.length
  · obtain ⟨y, hy, hd⟩ := drop_get hlt
    rw [hd] at hf
    obtain ⟨o', ho', hf'⟩ := Option.bind_eq_some_iff.mp (show (f s2 y).bind _ = some o from hf)
    obtain ⟨go, yl⟩ := wi i y hy
    refine .inr ⟨go, fun σ' H' => ∃ s' G' os', Same G1 G' ∧ HH G' (os' ++ F) H' ∧ StA (Γs s') σ' G' os' ∧ PinA P σ' ∧ foldX f s' (items.drop (i + 1)) = some o, fun σ' H' ⟨s', G', os', a1, a2, a3, a4, a5⟩ => ⟨items.length - (i + 1), by omega, rfl, hlt, s', G', os', a1, a2, a3, a4, a5⟩, fun x H3 y3 => ?_⟩
    obtain ⟨G3, sm3, h3, py⟩ := yl x H3 y3
    refine ⟨_, ⟨s2, y, rfl⟩, G3, [], os2, F, h3, st2.mono sm3, py, fun σ4 os4 w4 h4 st4 => ?_⟩
    have pn4 : PinA P σ4 := pn2.wipe w4 d
    have nxt : ∀ σ' G' os' H', Same G3 G' → HH G' (os' ++ F) H' → PinA P σ' → (PoO rs ls P Γs o').nx σ' G' os' → ∃ s' G' os', Same G1 G' ∧ HH G' (os' ++ F) H' ∧ StA (Γs s') σ' G' os' ∧ PinA P σ' ∧ foldX f s' (items.drop (i + 1)) = some o := fun σ' G' os' H' sm' h' pn' ⟨s', e', st'⟩ => by
      subst e'
      exact ⟨s', G', os', (sm2.trans sm3).trans sm', h', st', pn', hf'⟩
    refine ⟨_, ⟨s2, y, o', List.mem_of_getElem? hy, ho', rfl⟩, G3, os4, F, h4, st4, pn4, nxt, fun v G' ow H' sm' h' ⟨r, e', q⟩ => ?_, fun _ _ _ _ _ _ _ h => h.elim⟩
    have e' := retOf_eq e'
    subst e'
    have eo : o = .ret r := (Option.some.inj hf').symm
    exact k2 v G' ow H' (sm1.trans ((sm2.trans sm3).trans sm')) h' (hr r eo v G' ow q)
  · have e : i = items.length := by omega
    subst e
    rw [List.drop_length] at hf
    have eo : o = .nx s2 := (Option.some.inj hf).symm
    have smA := sm1.trans sm2
    exact .inl ⟨ws, _, ⟨s2, eo, rfl⟩, G2, os2, F, h2, st2, pn2, fun σ3 G3 os3 H3 sm3 => k1 σ3 G3 os3 H3 (smA.trans sm3), fun v G3 o H3 sm3 => k2 v G3 o H3 (smA.trans sm3), fun σ3 G3 os3 H3 sm3 => k3 σ3 G3 os3 H3 (smA.trans sm3)⟩
/-- for, without a way out -/
theorem sj_for {items : List β} {sh : β → Sh} {f : S → β → Option S} {s0 s1 : S} {Γs : S → Ct} {Γy : S → β → Ct} {fl : List Bool} (rs : ρ → Sh) (ls : ρ → List Sh) (h : foldO f s0 items = some s1) (hi : IJ X tg e Γ m items sh) (hl : fl.length = (out Γ m).length) (h0 : mask fl (out Γ m) = Γs s0)
    (hg : ∀ s y, GJ X tg vs (Γs s) (Γy s y) (sh y)) (hb : ∀ s y s', y ∈ items → f s y = some s' → SJ X P body (Γy s y) (PoO rs ls P Γs (.nx s')))
    (hn : SJ X P rest (Γs s1) R) (hp : PassesOwn (model X.prog X.w) X.A X.env X.xe) (hc : X.calm = true) (d : (P.all fun p => decide (p.1 ∉ vs)) = true := by rfl)
    (hs : ∀ x, foldedSetIterable e X.env x = pure x := by intro _; rfl) : SJ X P (.For tg e body [] pos :: rest) Γ R :=
  sj_forX (rs := rs) (ls := ls) (foldO_X (ρ := ρ) f h) hi hl h0 hg (fun s y o' hm hf => by
    obtain ⟨s', h1, h2⟩ := Option.bind_eq_some_iff.mp hf
    cases h2
    exact hb s y s' hm h1) (fun s e => by cases e; exact hn) (fun r e => by cases e) hp hc d hs
/-- while -/
theorem sj_whileX {c : Expr} {fc : S → Option (Bool × S)} {f : S → Option (Oc ρ S)} {s0 : S} {o : Oc ρ S} {Γs : S → Ct} {mt : S → S → Option Ct} {fl : List Bool} (h : whileX fc f s0 = some o) (hl : fl.length = Γ.length) (h0 : mask fl Γ = Γs s0)
    (ht : ∀ s t s', fc s = some (t, s') → TJ X c (Γs s) (mt s s') t) (hm : ∀ s s', out (Γs s) (mt s s') = Γs s') (hb : ∀ s o', f s = some o' → SJ X P body (Γs s) (PoO rs ls P Γs o'))
    (hn : ∀ s1, o = .nx s1 → SJ X P rest (Γs s1) R) (hr : ∀ r, o = .ret r → ∀ v G ow, rtO (rs r) (ls r) P v G ow → R.rt v G ow) (hp : PassesOwn (model X.prog X.w) X.A X.env X.xe) : SJ X P (.While c body [] pos :: rest) Γ R := by
  obtain ⟨n0, hw⟩ := whileX_to h
  have ht' : PT X c (fun σ H Q => ∃ t, (∃ s b s', fc s = some (b, s') ∧ t = tB (Γs s) (mt s s') b) ∧ t σ H Q) := pt_ex fun t ⟨s, b, s', hf, e⟩ => by subst e; exact ht s b s' hf
  have hb' : PSs X body (fun D σ H => ∃ t, (∃ s o', f s = some o' ∧ t = tS P (Γs s) (PoO rs ls P Γs o')) ∧ t D σ H) := pss_ex fun t ⟨s, o', hf, e⟩ => by subst e; exact hb s o' hf
  have hrest : PSs X rest (fun D σ H => ∃ t, (∃ s1, o = .nx s1 ∧ t = tS P (Γs s1) R) ∧ t D σ H) := pss_ex fun t ⟨s1, e1, e⟩ => by subst e; exact hn s1 e1
  refine pss_to (pss_cons (ps_while hp ht' hb') hrest) fun D σ H ⟨G, os, F, hh, st, pn, k1, k2, k3⟩ => go_seq ?_
  obtain ⟨os1, hh, st1⟩ := HH.masked hh st hl
  rw [h0] at st1
  refine ⟨fun n σ H => ∃ s G' os', Same G G' ∧ HH G' (os' ++ F) H ∧ StA (Γs s) σ G' os' ∧ PinA P σ ∧ WhileTo fc f s o n, ⟨n0, s0, G, os1, Same.refl _, hh, st1, pn, hw⟩, ?_⟩
  rintro n σ2 H2 ⟨s2, G2, os2, sm2, h2, st2, pn2, hw2⟩
  cases hw2 with
  | @done _ s3 c1 =>
    refine ⟨_, ⟨s2, false, s3, c1, rfl⟩, G2, os2, F, h2, st2, fun G3 os3 H3 sm3 h3 af => ?_⟩
    have st3 := af.st st2 sm3
    rw [hm] at st3
    exact ⟨_, ⟨s3, rfl, rfl⟩, G3, os3, F, h3, st3, pn2, fun σ4 G4 os4 H4 sm4 => k1 σ4 G4 os4 H4 ((sm2.trans sm3).trans sm4), fun v G4 o H4 sm4 => k2 v G4 o H4 ((sm2.trans sm3).trans sm4), fun σ4 G4 os4 H4 sm4 => k3 σ4 G4 os4 H4 ((sm2.trans sm3).trans sm4)⟩
  | @ret _ s3 r c1 b1 =>
    refine ⟨_, ⟨s2, true, s3, c1, rfl⟩, G2, os2, F, h2, st2, fun G3 os3 H3 sm3 h3 af => ?_⟩
    have st3 := af.st st2 sm3
    rw [hm] at st3
    refine ⟨fun _ _ => False, fun _ _ z => z.elim, _, ⟨s3, _, b1, rfl⟩, G3, os3, F, h3, st3, pn2, fun σ4 G4 os4 H4 sm4 h4 pn4 ⟨s', e', _⟩ => ?_, fun v G4 o H4 sm4 h4 ⟨r', e', q⟩ => ?_, fun _ _ _ _ _ _ _ h => h.elim⟩
    · cases e'
    · cases e'
      exact k2 v G4 o H4 ((sm2.trans sm3).trans sm4) h4 (hr r rfl v G4 o q)
  | @turn _ s3 s4 _ n' c1 b1 w1 =>
    refine ⟨_, ⟨s2, true, s3, c1, rfl⟩, G2, os2, F, h2, st2, fun G3 os3 H3 sm3 h3 af => ?_⟩
    have st3 := af.st st2 sm3
    rw [hm] at st3
    have nxt : ∀ σ' G' os' H', Same G3 G' → HH G' (os' ++ F) H' → PinA P σ' → (PoO rs ls P Γs (.nx s4)).nx σ' G' os' → ∃ s G' os', Same G G' ∧ HH G' (os' ++ F) H' ∧ StA (Γs s) σ' G' os' ∧ PinA P σ' ∧ WhileTo fc f s o n' := fun σ' G' os' H' sm' h' pn' ⟨s', e', st'⟩ => by
      cases e'
      exact ⟨s4, G', os', (sm2.trans sm3).trans sm', h', st', pn', w1⟩
    refine ⟨fun σ' H' => ∃ s G' os', Same G G' ∧ HH G' (os' ++ F) H' ∧ StA (Γs s) σ' G' os' ∧ PinA P σ' ∧ WhileTo fc f s o n', fun σ' H' q => ⟨n', by omega, q⟩, _, ⟨s3, _, b1, rfl⟩, G3, os3, F, h3, st3, pn2, nxt, fun v G4 o H4 sm4 h4 ⟨r', e', q⟩ => ?_, fun _ _ _ _ _ _ _ h => h.elim⟩
    cases e'
end
end Sl

set_option Elab.async false
set_option linter.all false
set_option maxRecDepth 100000
namespace Sl
open PySem PySem.Spec PyProof.Rows L2 Dl
/-! ### comprehensions as functions -/
section
variable {S β γ κ : Type}
def foldC (f : S → β → Option (Option γ × S)) (s : S) : List β → Option (List γ × S)
  | [] => some ([], s)
  | y :: ys => (f s y).bind fun p => (foldC f p.2 ys).bind fun q => some (p.1.toList ++ q.1, q.2)
/-- without a state -/
def mapC (f : β → Option (Option γ)) : List β → Option (List γ)
  | [] => some []
  | y :: ys => (f y).bind fun p => (mapC f ys).bind fun q => some (p.toList ++ q)
/-- a dict -/
def dicC [DecidableEq κ] (f : β → Option (κ × γ)) : List (κ × γ) → List β → Option (List (κ × γ))
  | d, [] => some d
  | d, y :: ys => (f y).bind fun p => dicC f (aput d p.1 p.2) ys
def dicS [DecidableEq κ] (f : S → β → Option ((κ × γ) × S)) (s : S) : List (κ × γ) → List β → Option (List (κ × γ) × S)
  | d, [] => some (d, s)
  | d, y :: ys => (f s y).bind fun p => dicS f p.2 (aput d p.1.1 p.1.2) ys
end
abbrev TsJ (X : Cx) (e : List Expr) (Γ : Ct) (m : Option Ct) (b : Bool) : Prop := PTs X e (tB Γ m b)
def nones : List Nat → Ct → Ct
  | [], Γ => Γ
  | v :: vs, Γ => (nones vs Γ).set v none
/-- nothing is owned there -/
def ZeroAt (Γ : Ct) (v : Nat) : Prop := ∀ s, Γ[v]? = some (some s) → ∀ G o w, s.p G o w → o = []
theorem z_none {Γ : Ct} {v : Nat} (h : Γ[v]? = some none) : ZeroAt Γ v := fun s e => by rw [h] at e; cases e
theorem z_fz {Γ : Ct} {v : Nat} {α : Type} {τ : Ty α} {x : α} (h : Γ[v]? = some (some (fz τ x))) : ZeroAt Γ v := fun s e => by
  rw [h] at e
  cases e
  exact fun _ _ _ h => h.1
theorem StA.none1 {G : Hp} {x : Option V} : ∀ {Γ : Ct} {σ : L2.St} {os : Ow} {i : Nat}, StA Γ σ G os → ZeroAt Γ i → StA (Γ.set i none) (σ.set i x) G os
  | [], σ, os, i, h, _ => by
    obtain ⟨e1, e2⟩ := h
    subst e1 e2
    cases i <;> exact ⟨rfl, rfl⟩
  | none :: Γ, _ :: σ, _, 0, h, _ => h
  | some s :: Γ, _ :: σ, _, 0, ⟨v, o1, o2, _, e, p, h⟩, z => by
    have := z s rfl _ _ _ p
    subst this e
    exact h
  | none :: Γ, _ :: σ, _, i + 1, h, z => StA.none1 (Γ := Γ) (i := i) h fun s e => z s (by simpa using e)
  | some s :: Γ, _ :: σ, _, i + 1, ⟨v, o1, o2, e1, e, p, h⟩, z => ⟨v, o1, o2, e1, e, p, StA.none1 (i := i) h fun s e => z s (by simpa using e)⟩
theorem StA.set0 {G : Hp} {s : Sh} {v : V} (hp : s.p G [] v) : ∀ {Γ : Ct} {σ : L2.St} {os : Ow} {i : Nat}, StA Γ σ G os → ZeroAt Γ i → i < Γ.length → StA (Γ.set i (some s)) (σ.set i (some v)) G os
  | [], σ, os, i, h, _, l => absurd l (Nat.not_lt_zero i)
  | none :: Γ, _ :: σ, os, 0, h, _, _ => ⟨v, [], os, rfl, rfl, hp, h⟩
  | some s1 :: Γ, _ :: σ, _, 0, ⟨v1, o1, o2, _, e, p, h⟩, z, _ => ⟨v, [], o2, rfl, by
    have := z s1 rfl _ _ _ p
    rw [e, this], hp, h⟩
  | none :: Γ, _ :: σ, _, i + 1, h, z, l => StA.set0 (Γ := Γ) (i := i) hp h (fun s e => z s (by simpa using e)) (by simpa using l)
  | some s1 :: Γ, _ :: σ, _, i + 1, ⟨v1, o1, o2, e1, e, p, h⟩, z, l => ⟨v1, o1, o2, e1, e, p, StA.set0 (i := i) hp h (fun s e => z s (by simpa using e)) (by simpa using l)⟩
def Zs : List Nat → Ct → Prop
  | [], _ => True
  | v :: vs, Γ => ZeroAt (nones vs Γ) v ∧ Zs vs Γ
theorem StA.wipes {G : Hp} {Γ : Ct} {σ : L2.St} {os : Ow} (h : StA Γ σ G os) : ∀ vs : List Nat, Zs vs Γ → StA (nones vs Γ) (wipe σ vs) G os
  | [], _ => h
  | v :: vs, z => StA.none1 (StA.wipes h vs z.2) z.1
/-- a slot that is not looked at may hold anything -/
theorem StA.none2 {G : Hp} {x : Option V} : ∀ {Γ : Ct} {σ : L2.St} {os : Ow} {i : Nat}, StA Γ (σ.set i x) G os → (Γ[i]? = some none ∨ Γ.length ≤ i) → StA Γ σ G os
  | [], σ, os, i, h, _ => by
    obtain ⟨e1, e2⟩ := h
    have e : σ = [] := by
      have := congrArg List.length e1
      rw [List.length_set] at this
      exact List.eq_nil_of_length_eq_zero this
    exact ⟨e, e2⟩
  | none :: Γ, _ :: σ, _, 0, h, _ => h
  | some s :: Γ, _ :: σ, _, 0, _, hi => by rcases hi with hi | hi <;> simp at hi
  | none :: Γ, _ :: σ, _, i + 1, h, hi => StA.none2 (Γ := Γ) (i := i) h (by simpa using hi)
  | some s :: Γ, _ :: σ, _, i + 1, ⟨v, o1, o2, e1, e, p, h⟩, hi => ⟨v, o1, o2, e1, e, p, StA.none2 (i := i) h (by simpa using hi)⟩
  | none :: Γ, [], _, i, h, _ => by cases i <;> exact h.elim
  | some s :: Γ, [], _, i, h, _ => by cases i <;> exact h.elim
theorem StA.unwipe {G : Hp} {Γ : Ct} : ∀ {vs : List Nat} {σ : L2.St} {os : Ow}, StA Γ (wipe σ vs) G os → (∀ v ∈ vs, Γ[v]? = some none ∨ Γ.length ≤ v) → StA Γ σ G os
  | [], _, _, h, _ => h
  | v :: vs, σ, os, h, hv => StA.unwipe (vs := vs) (StA.none2 (i := v) h (hv v (List.mem_cons_self ..))) fun w hw => hv w (List.mem_cons_of_mem _ hw)
theorem wipe_idem (vs : List Nat) (σ : L2.St) : wipe (wipe σ vs) vs = wipe σ vs := by
  have set2 : ∀ (us : List Nat) (σ : L2.St) (i : Nat), i ∈ us → (wipe σ us).set i none = wipe σ us := by
    intro us
    induction us with
    | nil => intro σ i h; cases h
    | cons u us ih =>
      intro σ i h
      show ((wipe σ us).set u none).set i none = (wipe σ us).set u none
      by_cases e : i = u
      · subst e; rw [List.set_set]
      · rw [List.set_comm _ _ (fun z => e z.symm), ih σ i ((List.mem_cons.mp h).resolve_left e)]
  have : ∀ us : List Nat, (∀ u ∈ us, u ∈ vs) → wipe (wipe σ vs) us = wipe σ vs := by
    intro us
    induction us with
    | nil => intro _; rfl
    | cons u us ih =>
      intro h
      show (wipe (wipe σ vs) us).set u none = _
      rw [ih fun w hw => h w (List.mem_cons_of_mem _ hw), set2 vs σ u (h u (List.mem_cons_self ..))]
  exact this vs fun _ h => h
/-- a target of data, whose slots own nothing -/
def tG0 (vs : List Nat) (Γ Γ' : Ct) (s : Sh) : TG := fun v σ H R => ∃ G os F, HH G (os ++ F) H ∧ StA Γ σ G os ∧ s.p G [] v ∧ ∀ σ', wipe σ' vs = wipe σ vs → StA Γ' σ' G os → R σ' H
def tGs0 (vs : List Nat) (Γ Γ' : Ct) (ss : List Sh) : TGs := fun us σ H R => ∃ G os F, HH G (os ++ F) H ∧ StA Γ σ G os ∧ Shs ss G [] us ∧ ∀ σ', wipe σ' vs = wipe σ vs → StA Γ' σ' G os → R σ' H
abbrev GJ0 (X : Cx) (e : Expr) (vs : List Nat) (Γ Γ' : Ct) (s : Sh) : Prop := PG X e (tG0 vs Γ Γ' s)
abbrev GsJ0 (X : Cx) (e : List Expr) (vs : List Nat) (Γ Γ' : Ct) (ss : List Sh) : Prop := PGs X e (tGs0 vs Γ Γ' ss)
section
variable {X : Cx} {P : Pn} {Γ Γ' Γ1 Γ2 Γm Γn : Ct} {m m0 m1 m2 : Option Ct} {α β γ δ κ ρ S : Type} {τ τ1 : Ty α} {τ2 : Ty β} {τ3 : Ty γ} {s s1 s2 : Sh} {pos p : Pos} {a b e elt tg iter kx : Expr} {es ifs : List Expr} {us vs : List Nat}
theorem gj0_name {i : Nat} {x : Str} (hN : X.N.Nodup) (hi : X.N[i]? = some x) (hx : Loc X.env.scope x) (z : ZeroAt Γ i) (hl : (decide (i < Γ.length)) = true := by rfl) (hf : X.fn x = true ∨ X.env.scope.names.lookup x = some .local := by first | exact .inl rfl | exact .inr rfl | assumption) : GJ0 X (.Name x p) [i] Γ (Γ.set i (some s)) s :=
  pg_to (pg_name hN hi hx hf) fun v σ H R ⟨G, os, F, hh, st, ps, k⟩ => go_gname (k _ (by
    show (σ.set i (some v)).set i none = σ.set i none
    rw [List.set_set]) (st.set0 ps z (of_decide_eq_true hl)))
theorem gs0_nil : GsJ0 X [] [] Γ Γ [] := pgs_to pgs_nil fun v σ H R ⟨G, os, F, hh, st, ⟨e, _⟩, k⟩ => by
  subst e
  exact go_gnil (k σ rfl st)
theorem gs0_cons {ss : List Sh} (h1 : GJ0 X e us Γ Γ1 s) (h2 : GsJ0 X es vs Γ1 Γ2 ss) (hs : (assignEach (e :: es) X.env).map (·.2) = assign e X.env :: (assignEach es X.env).map (·.2) := by rfl) : GsJ0 X (e :: es) (us ++ vs) Γ Γ2 (s :: ss) :=
  pgs_to (pgs_cons h1 h2 hs) fun xs σ H R ⟨G, os, F, hh, st, ⟨v, vr, o1, o2, e1, e2, p1, p2⟩, k⟩ => by
    obtain ⟨e3, e4⟩ := app_nil2 e2
    subst e1 e3 e4
    refine go_gcons ⟨G, os, F, hh, st, p1, fun σ1 w1 st1 => ⟨G, os, F, hh, st1, p2, fun σ2 w2 st2 => k σ2 ?_ st2⟩⟩
    rw [wipe_app, wipe_app, w2, wipe_comm, w1, wipe_comm]
theorem gj0_tup {k n : Nat} {ss : List Sh} (hc : X.calm = true) (h : GsJ0 X es vs Γ Γ' ss) (hx : ∀ (G H : Hp) (os o : Ow) (v : V), HH G os H → s.p G o v → o = [] ∧ ∃ a xs, v = .ref a ∧ SqT X.K H a xs ∧ xs.length = n ∧ Shs ss G [] xs)
    (hn : (assignEach es X.env).length = n := by rfl) (hst : (assignEach es X.env).findIdx? (·.1) = none := by rfl) : GJ0 X (.Tuple es k pos) vs Γ Γ' s :=
  pg_to (pg_tup hc h hn hst) fun v σ H R ⟨G, os, F, hh, st, ps, k⟩ => by
    obtain ⟨eo, a, xs, ev, hq, hl, hp⟩ := hx G H _ [] v hh ps
    subst ev
    exact ⟨a, xs, rfl, hq, hl, G, os, F, hh, st, hp, k⟩
theorem gj0_p2 {k : Nat} {x : α × β} (hc : X.calm = true) (h : GsJ0 X [a, b] vs Γ Γ' [fz τ1 x.1, fz τ2 x.2]) (hst : (assignEach [a, b] X.env).findIdx? (·.1) = none := by rfl) (hn : (assignEach [a, b] X.env).length = 2 := by rfl) : GJ0 X (.Tuple [a, b] k pos) vs Γ Γ' (fz (tP2 τ1 τ2) x) :=
  gj0_tup hc h (fun G H os o v hh ⟨e, c, v1, v2, ev, g, r1, r2⟩ => ⟨e, c, [v1, v2], ev, SqT.of (hh.tup g), rfl, Shs.mk2 r1 r2⟩) hn hst
theorem gj0_p3 {c : Expr} {k : Nat} {x : α × β × γ} (hc : X.calm = true) (h : GsJ0 X [a, b, c] vs Γ Γ' [fz τ1 x.1, fz τ2 x.2.1, fz τ3 x.2.2]) (hst : (assignEach [a, b, c] X.env).findIdx? (·.1) = none := by rfl) (hn : (assignEach [a, b, c] X.env).length = 3 := by rfl) : GJ0 X (.Tuple [a, b, c] k pos) vs Γ Γ' (fz (tP3 τ1 τ2 τ3) x) :=
  gj0_tup hc h (fun G H os o v hh ⟨e, c, v1, v2, v3, ev, g, r1, r2, r3⟩ => ⟨e, c, [v1, v2, v3], ev, SqT.of (hh.tup g), rfl, Shs.mk3 r1 r2 r3⟩) hn hst
theorem ts_nil : TsJ X [] Γ none true := ⟨fun pins s σ H Q I ⟨G, os, F, hh, st, k⟩ => pts_nil.run pins s σ H Q I (go_yes (k G os H (Same.refl _) hh rfl))⟩
theorem ts_one {c : Expr} {b : Bool} (h : TJ X c Γ m b) : TsJ X [c] Γ m b := pts_one h
/-- a comprehension, as a value and as what a name is set to -/
def LcJ (X : Cx) (e : Expr) (Γ : Ct) (m : Option Ct) (s : Sh) : Prop := EJ X e Γ m s ∧ ∀ {i : Nat} {y : Str} {py spos : Pos}, X.N[i]? = some y → X.env.scope.names.lookup y = some .local → swapsWith e (some (.Name y py)) spos.line X.env = pure true → PS X (.Assign [.Name y py] e spos) (tAsg (tT Γ m s) (gName i))
theorem ps_to {X : Cx} {e : Stmt} {t t' : TS} (h : PS X e t) (w : ∀ D σ H, t' D σ H → t D σ H) : PS X e t' := ⟨fun pins s σ H D I q => h.run pins s σ H D I (w D σ H q)⟩
abbrev Bk (X : Cx) (s : Shared) (H : Hp) (scope : Scope) (C : Addr) (cl : List (Str × Addr)) (fp : List Addr) : Cx := X.blk s H scope (compEnvC scope cl C X.env) fp
theorem perm_in (x : Addr × HO) (os F : Ow) : (x :: (os ++ F)).Perm (os ++ (x :: F)) := List.perm_middle.symm
/-- the turns of a comprehension that changes nothing -/
theorem lcP_run {items : List β} {sh : β → Sh} {f : β → Option (Option γ)} {zs : List γ} {Γy : β → Ct} {σ : L2.St} {Q : VK} {G1 : Hp} {os1 F : Ow} {H1 : Hp} {J : It} (vs : List Nat) (h : mapC f items = some zs) (hsm : Sm items.length) (hz : Zs vs Γ1)
    (st0 : StA Γ1 σ G1 os1) (h1 : HH G1 (os1 ++ F) H1) (wk : WkF F J G1 items sh) (k : ∀ v G' o H', Same G1 G' → HH G' (o ++ (os1 ++ F)) H' → (oL τ3 zs).p G' o v → Q v H') :
    ∀ A, H1 A = none → ∃ W : Nat → Nat → Hp → Prop, (∃ m, W 0 m (upd H1 A (.lst []))) ∧ ∀ i m H, W i m H →
      (J.stop i H ∧ Q (.ref A) H) ∨ (J.go i H ∧ ∃ Nx : Hp → Prop, (∀ H', Nx H' → ∃ m', m' < m ∧ W (i + 1) m' H') ∧ ∀ x H', J.yld i H x H' → (∃ t, (∃ y, t = tG0 vs (nones vs Γ1) (Γy y) (sh y)) ∧ t x (wipe σ vs) H' fun σ2 H2 => wipe σ2 vs = wipe σ vs ∧
        ∃ t, (∃ y oz, y ∈ items ∧ f y = some oz ∧ t = tB (Γy y) none oz.isSome) ∧ t σ2 H2 fun b H3 => if b = true then (∃ t, (∃ y z, y ∈ items ∧ f y = some (some z) ∧ t = tT (Γy y) none (fz τ3 z)) ∧ t σ2 H3 fun y H4 => ∃ acc, H4 A = some (.lst acc) ∧ acc.length < sizeLine ∧ Nx (upd H4 A (.lst (acc ++ [y])))) else Nx H3)) := by
  intro A nA
  have st1 := st0.wipes vs hz
  refine ⟨fun i mm H => mm = items.length - i ∧ i ≤ items.length ∧ ∃ ws acc zr G', Same G1 G' ∧ HH G' ((A, .lst ws) :: (os1 ++ F)) H ∧ Paired (τ3.rep G') ws acc ∧ acc.length ≤ i ∧ mapC f (items.drop i) = some zr ∧ zs = acc ++ zr, ⟨_, rfl, Nat.zero_le _, [], [], zs, G1, Same.refl _, h1.push nA, .nil, Nat.le_refl _, h, rfl⟩, ?_⟩
  rintro i mm H2 ⟨rfl, hle, ws, acc, zr, G2, sm2, h2, pr, hal, hf, ez⟩
  obtain ⟨wst, wi⟩ := wk G2 _ H2 sm2 h2 in_fr
  by_cases hlt : i < items.length
  · obtain ⟨y, hy, hd⟩ := drop_get hlt
    rw [hd] at hf
    obtain ⟨oz, ho, hf⟩ := Option.bind_eq_some_iff.mp (show (f y).bind _ = some zr from hf)
    obtain ⟨zr', hf1, hf2⟩ := Option.bind_eq_some_iff.mp hf
    have ezr : zr = oz.toList ++ zr' := (Option.some.inj hf2).symm
    subst ezr
    obtain ⟨go, yl⟩ := wi i y hy
    have hm := List.mem_of_getElem? hy
    refine .inr ⟨go, fun H => ∃ ws acc zr G', Same G1 G' ∧ HH G' ((A, .lst ws) :: (os1 ++ F)) H ∧ Paired (τ3.rep G') ws acc ∧ acc.length ≤ i + 1 ∧ mapC f (items.drop (i + 1)) = some zr ∧ zs = acc ++ zr, fun H' q => ⟨items.length - (i + 1), by omega, rfl, hlt, q⟩, fun x H3 y3 => ?_⟩
    obtain ⟨G3, sm3, h3, py⟩ := yl x H3 y3
    refine ⟨_, ⟨y, rfl⟩, G3, os1, (A, .lst ws) :: F, h3.perm (perm_in _ _ _), st1.mono (sm2.trans sm3), py, fun σ4 w4 st4 => ⟨by rw [w4, wipe_idem], ?_⟩⟩
    refine ⟨_, ⟨y, oz, hm, ho, rfl⟩, G3, os1, (A, .lst ws) :: F, h3.perm (perm_in _ _ _), st4, fun G5 os5 H5 sm5 h5 (e5 : os5 = os1) => ?_⟩
    subst e5
    cases oz with
    | none =>
      refine ⟨ws, acc, zr', G5, (sm2.trans sm3).trans sm5, h5.perm (perm_in _ _ _).symm, pair_mono (sm3.trans sm5) pr, by omega, hf1, ?_⟩
      rw [ez]; rfl
    | some z =>
      refine ⟨_, ⟨y, z, hm, ho, rfl⟩, G5, os5, (A, .lst ws) :: F, h5, st4.mono sm5, fun v G6 o6 os6 H6 sm6 h6 (e6 : os6 = os5) ⟨eo, rv⟩ => ?_⟩
      subst e6 eo
      have h6' : HH G6 ((A, .lst ws) :: (os6 ++ F)) H6 := h6.perm (perm_in _ _ _).symm
      have e7 : ws.length = acc.length := pr_len pr
      refine ⟨ws, h6'.get, Sm.lt (Nat.le_trans (by omega) hsm), ws ++ [v], acc ++ [z], zr', G6, ((sm2.trans sm3).trans sm5).trans sm6, h6'.put (.inr fun _ _ z => nomatch z), pr_snoc (pair_mono ((sm3.trans sm5).trans sm6) pr) rv, ?_, hf1, ?_⟩
      · rw [List.length_append]; simp; omega
      · rw [ez, List.append_assoc]; rfl
  · have e : i = items.length := by omega
    subst e
    rw [List.drop_length] at hf
    have ezr : zr = [] := (Option.some.inj hf).symm
    subst ezr
    rw [List.append_nil] at ez
    subst ez
    exact .inl ⟨wst, k (.ref A) G2 [(A, .lst ws)] H2 sm2 h2 ⟨A, ws, rfl, rfl, pr⟩⟩
section
variable {scope : Scope} {own : List (Str × Nat)} {items : List β} {sh : β → Sh} {f : β → Option (Option γ)} {zs : List γ} {Γy : β → Ct}
    (hg : ∀ (s : Shared) (H : Hp) (C : Addr) (cl : List (Str × Addr)) (fp : List Addr) y, GJ0 (Bk X s H scope C cl fp) tg (own.map (·.2)) (nones (own.map (·.2)) (out Γ m0)) (Γy y) (sh y))
    (ht : ∀ (s : Shared) (H : Hp) (C : Addr) (cl : List (Str × Addr)) (fp : List Addr) y oz, y ∈ items → f y = some oz → TsJ (Bk X s H scope C cl fp) ifs (Γy y) none oz.isSome)
    (he : ∀ (s : Shared) (H : Hp) (C : Addr) (cl : List (Str × Addr)) (fp : List Addr) y z, y ∈ items → f y = some (some z) → EJ (Bk X s H scope C cl fp) elt (Γy y) none (fz τ3 z))
include hg ht he
theorem lcP_g (s : Shared) (H : Hp) (C : Addr) (cl : List (Str × Addr)) (fp : List Addr) : PG (Bk X s H scope C cl fp) tg (fun v σ H Q => ∃ t, (∃ y, t = tG0 (own.map (·.2)) (nones (own.map (·.2)) (out Γ m0)) (Γy y) (sh y)) ∧ t v σ H Q) := pg_ex fun t ⟨y, e⟩ => by subst e; exact hg s H C cl fp y
theorem lcP_t (s : Shared) (H : Hp) (C : Addr) (cl : List (Str × Addr)) (fp : List Addr) : PTs (Bk X s H scope C cl fp) ifs (fun σ H Q => ∃ t, (∃ y oz, y ∈ items ∧ f y = some oz ∧ t = tB (Γy y) none oz.isSome) ∧ t σ H Q) := pts_ex fun t ⟨y, oz, hm, hf, e⟩ => by subst e; exact ht s H C cl fp y oz hm hf
theorem lcP_e (s : Shared) (H : Hp) (C : Addr) (cl : List (Str × Addr)) (fp : List Addr) : PE (Bk X s H scope C cl fp) elt (fun σ H Q => ∃ t, (∃ y z, y ∈ items ∧ f y = some (some z) ∧ t = tT (Γy y) none (fz τ3 z)) ∧ t σ H Q) := pe_ex fun t ⟨y, z, hm, hf, e⟩ => by subst e; exact he s H C cl fp y z hm hf
/-- [e for x in xs if c], that changes nothing -/
theorem lcP_imp (h : mapC f items = some zs) (hsm : Sm items.length) (hc : X.calm = true) (hN : X.N.Nodup) (hi : IJ X tg iter Γ m0 items sh) (ok : BlkOk X.N X.env.scope scope own) (hz : Zs (own.map (·.2)) (out Γ m0))
    (hs : ∀ x, foldedSetIterable iter X.env x = pure x := by intro _; rfl) {σ : L2.St} {H : Hp} {Q : VK} (q : tT Γ m0 (oL τ3 zs) σ H Q) : tLc (tI Γ m0 items sh) (fun v σ H Q => ∃ t, (∃ y, t = tG0 (own.map (·.2)) (nones (own.map (·.2)) (out Γ m0)) (Γy y) (sh y)) ∧ t v σ H Q) (fun σ H Q => ∃ t, (∃ y oz, y ∈ items ∧ f y = some oz ∧ t = tB (Γy y) none oz.isSome) ∧ t σ H Q) (fun σ H Q => ∃ t, (∃ y z, y ∈ items ∧ f y = some (some z) ∧ t = tT (Γy y) none (fz τ3 z)) ∧ t σ H Q) (own.map (·.2)) σ H Q := by
  obtain ⟨G, os, F, hh, st, k⟩ := q
  exact go_lc ⟨G, os, F, hh, st, fun J G1 os1 H1 sm1 h1 af wk =>
    lcP_run (own.map fun x : Str × Nat => x.2) h hsm hz (af.st st sm1) h1 wk.toF fun v G' o H' sm h' p => k v G' o os1 H' (sm1.trans sm) h' (af.mono sm) p⟩
theorem lcP (h : mapC f items = some zs) (hsm : Sm items.length) (hc : X.calm = true) (hN : X.N.Nodup) (hi : IJ X tg iter Γ m0 items sh) (ok : BlkOk X.N X.env.scope scope own) (hz : Zs (own.map (·.2)) (out Γ m0))
    (hs : ∀ x, foldedSetIterable iter X.env x = pure x := by intro _; rfl) : LcJ X (.ListComp elt [⟨tg, iter, ifs, 0⟩] scope pos) Γ m0 (oL τ3 zs) :=
  ⟨pe_to (pe_lc hc hN hi ok (lcP_g hg ht he) (lcP_t hg ht he) (lcP_e hg ht he) hs) fun σ H Q q => lcP_imp hg ht he h hsm hc hN hi ok hz hs q,
   fun hy hyl hsw => ps_to (ps_setLc hc hN hy hyl hsw hi ok (lcP_g hg ht he) (lcP_t hg ht he) (lcP_e hg ht he) hs) fun D σ H q => lcP_imp hg ht he h hsm hc hN hi ok hz hs q⟩
end
/-- the turns of a comprehension with a state -/
theorem lcS_run {items : List β} {sh : β → Sh} {f : S → β → Option (Option γ × S)} {s0 s1 : S} {zs : List γ} {Γs : S → Ct} {Γy : S → β → Ct} {me : S → β → S → Option Ct} {fl : List Bool} {σ : L2.St} {Q : VK} {G1 : Hp} {os1 F : Ow} {H1 : Hp} {J : It} (vs : List Nat) (h : foldC f s0 items = some (zs, s1)) (hsm : Sm items.length)
    (hz : ∀ s, ∀ v ∈ vs, (Γs s)[v]? = some none ∨ (Γs s).length ≤ v) (st0 : StA (Γs s0) (wipe σ vs) G1 os1) (h1 : HH G1 (os1 ++ F) H1) (wk : WkF F J G1 items sh)
    (hl : ∀ s y s', fl.length = (out (Γy s y) (me s y s')).length) (hm : ∀ s y s', mask fl (out (Γy s y) (me s y s')) = Γs s') (hl0 : ∀ s y, fl.length = (Γy s y).length) (hm0 : ∀ s y, mask fl (Γy s y) = Γs s) (hk : ∀ s y s', f s y = some (none, s') → s' = s)
    (k : ∀ v G' o os' H', Same G1 G' → HH G' (o ++ (os' ++ F)) H' → StA (Γs s1) σ G' os' → (oL τ3 zs).p G' o v → Q v H') :
    ∀ A, H1 A = none → ∃ W : Nat → Nat → Hp → Prop, (∃ m, W 0 m (upd H1 A (.lst []))) ∧ ∀ i m H, W i m H →
      (J.stop i H ∧ Q (.ref A) H) ∨ (J.go i H ∧ ∃ Nx : Hp → Prop, (∀ H', Nx H' → ∃ m', m' < m ∧ W (i + 1) m' H') ∧ ∀ x H', J.yld i H x H' → (∃ t, (∃ s y, t = tG0 vs (Γs s) (Γy s y) (sh y)) ∧ t x (wipe σ vs) H' fun σ2 H2 => wipe σ2 vs = wipe σ vs ∧
        ∃ t, (∃ s y oz s', y ∈ items ∧ f s y = some (oz, s') ∧ t = tB (Γy s y) none oz.isSome) ∧ t σ2 H2 fun b H3 => if b = true then (∃ t, (∃ s y z s', y ∈ items ∧ f s y = some (some z, s') ∧ t = tT (Γy s y) (me s y s') (fz τ3 z)) ∧ t σ2 H3 fun y H4 => ∃ acc, H4 A = some (.lst acc) ∧ acc.length < sizeLine ∧ Nx (upd H4 A (.lst (acc ++ [y])))) else Nx H3)) := by
  intro A nA
  refine ⟨fun i mm H => mm = items.length - i ∧ i ≤ items.length ∧ ∃ s ws acc zr G' os', Same G1 G' ∧ HH G' ((A, .lst ws) :: (os' ++ F)) H ∧ StA (Γs s) (wipe σ vs) G' os' ∧ Paired (τ3.rep G') ws acc ∧ acc.length ≤ i ∧ foldC f s (items.drop i) = some (zr, s1) ∧ zs = acc ++ zr, ⟨_, rfl, Nat.zero_le _, s0, [], [], zs, G1, os1, Same.refl _, h1.push nA, st0, .nil, Nat.le_refl _, h, rfl⟩, ?_⟩
  rintro i mm H2 ⟨rfl, hle, s2, ws, acc, zr, G2, os2, sm2, h2, st2, pr, hal, hf, ez⟩
  obtain ⟨wst, wi⟩ := wk G2 _ H2 sm2 h2 in_fr
  by_cases hlt : i < items.length
  · obtain ⟨y, hy, hd⟩ := drop_get hlt
    rw [hd] at hf
    obtain ⟨⟨oz, s3⟩, ho, hf⟩ := Option.bind_eq_some_iff.mp (show (f s2 y).bind _ = some (zr, s1) from hf)
    obtain ⟨⟨zr', s4⟩, hf1, hf2⟩ := Option.bind_eq_some_iff.mp hf
    have e1 := Option.some.inj hf2
    have ezr : zr = oz.toList ++ zr' := (congrArg Prod.fst e1).symm
    have es : s4 = s1 := congrArg Prod.snd e1
    subst ezr es
    obtain ⟨go, yl⟩ := wi i y hy
    have hmem := List.mem_of_getElem? hy
    refine .inr ⟨go, fun H => ∃ s ws acc zr G' os', Same G1 G' ∧ HH G' ((A, .lst ws) :: (os' ++ F)) H ∧ StA (Γs s) (wipe σ vs) G' os' ∧ Paired (τ3.rep G') ws acc ∧ acc.length ≤ i + 1 ∧ foldC f s (items.drop (i + 1)) = some (zr, s4) ∧ zs = acc ++ zr, fun H' q => ⟨items.length - (i + 1), by omega, rfl, hlt, q⟩, fun x H3 y3 => ?_⟩
    obtain ⟨G3, sm3, h3, py⟩ := yl x H3 y3
    refine ⟨_, ⟨s2, y, rfl⟩, G3, os2, (A, .lst ws) :: F, h3.perm (perm_in _ _ _), st2.mono sm3, py, fun σ4 w4 st4 => ⟨by rw [w4, wipe_idem], ?_⟩⟩
    have w4' : wipe σ4 vs = wipe σ vs := by rw [w4, wipe_idem]
    refine ⟨_, ⟨s2, y, oz, s3, hmem, ho, rfl⟩, G3, os2, (A, .lst ws) :: F, h3.perm (perm_in _ _ _), st4, fun G5 os5 H5 sm5 h5 (e5 : os5 = os2) => ?_⟩
    subst e5
    -- back to the slots ahead of the turn
    have back : ∀ {Γ' : Ct} {G' : Hp} {os' F' : Ow} {H' : Hp} {s' : S}, StA Γ' σ4 G' os' → HH G' (os' ++ F') H' → fl.length = Γ'.length → mask fl Γ' = Γs s' → ∃ os6, HH G' (os6 ++ F') H' ∧ StA (Γs s') (wipe σ vs) G' os6 := fun {Γ' G' os' F' H' s'} st hh l e => by
      obtain ⟨os6, h6, st6⟩ := HH.masked hh st l
      rw [e] at st6
      refine ⟨os6, h6, ?_⟩
      rw [← w4']
      have := StA.wipes st6 vs
      have key : ∀ (us : List Nat), (∀ u ∈ us, (Γs s')[u]? = some none ∨ (Γs s').length ≤ u) → nones us (Γs s') = Γs s' ∧ Zs us (Γs s') := by
        intro us
        induction us with
        | nil => intro _; exact ⟨rfl, trivial⟩
        | cons u us ih =>
          intro hu
          obtain ⟨a, b⟩ := ih fun w hw => hu w (List.mem_cons_of_mem _ hw)
          have hu1 := hu u (List.mem_cons_self ..)
          constructor
          · show (nones us (Γs s')).set u none = _
            rw [a]
            rcases hu1 with q | q
            · obtain ⟨hlt, e⟩ := List.getElem?_eq_some_iff.mp q
              rw [← e]
              exact List.set_getElem_self hlt
            · exact List.set_eq_of_length_le q
          · refine ⟨?_, b⟩
            rw [a]
            intro s e
            rcases hu1 with q | q
            · rw [q] at e; cases e
            · rw [List.getElem?_eq_none q] at e; cases e
      obtain ⟨ka, kb⟩ := key vs (hz s')
      have r := this kb
      rw [ka] at r
      exact r
    cases oz with
    | none =>
      have e3 := hk _ _ _ ho
      subst e3
      obtain ⟨os6, h6, st6⟩ := back (st4.mono sm5) h5 (hl0 _ _) (hm0 _ _)
      refine ⟨s3, ws, acc, zr', G5, os6, (sm2.trans sm3).trans sm5, h6.perm (perm_in _ _ _).symm, st6, pair_mono (sm3.trans sm5) pr, by omega, hf1, ?_⟩
      rw [ez]; rfl
    | some z =>
      refine ⟨_, ⟨s2, y, z, s3, hmem, ho, rfl⟩, G5, os5, (A, .lst ws) :: F, h5, st4.mono sm5, fun v G6 o6 os6 H6 sm6 h6 af6 ⟨eo, rv⟩ => ?_⟩
      subst eo
      obtain ⟨os7, h7, st7⟩ := back (af6.st (st4.mono sm5) sm6) h6 (hl _ _ _) (hm _ _ _)
      have h7' : HH G6 ((A, .lst ws) :: (os7 ++ F)) H6 := h7.perm (perm_in _ _ _).symm
      have e7 : ws.length = acc.length := pr_len pr
      refine ⟨ws, h7'.get, Sm.lt (Nat.le_trans (by omega) hsm), s3, ws ++ [v], acc ++ [z], zr', G6, os7, ((sm2.trans sm3).trans sm5).trans sm6, h7'.put (.inr fun _ _ z => nomatch z), st7, pr_snoc (pair_mono ((sm3.trans sm5).trans sm6) pr) rv, ?_, hf1, ?_⟩
      · rw [List.length_append]; simp; omega
      · rw [ez, List.append_assoc]; rfl
  · have e : i = items.length := by omega
    subst e
    rw [List.drop_length] at hf
    have e1 := Option.some.inj hf
    have ezr : zr = [] := (congrArg Prod.fst e1).symm
    have es : s2 = s1 := congrArg Prod.snd e1
    subst ezr es
    rw [List.append_nil] at ez
    subst ez
    exact .inl ⟨wst, k (.ref A) G2 [(A, .lst ws)] os2 H2 sm2 h2 (st2.unwipe fun v hv => hz s2 v hv) ⟨A, ws, rfl, rfl, pr⟩⟩
section
variable {scope : Scope} {own : List (Str × Nat)} {items : List β} {sh : β → Sh} {f : S → β → Option (Option γ × S)} {s0 s1 : S} {zs : List γ} {Γs : S → Ct} {Γy : S → β → Ct} {me : S → β → S → Option Ct} {fl fl0 : List Bool}
/-- [e for x in xs if c], with a state -/
theorem lcS (hg : ∀ (s : Shared) (H : Hp) (C : Addr) (cl : List (Str × Addr)) (fp : List Addr) w y, GJ0 (Bk X s H scope C cl fp) tg (own.map (·.2)) (Γs w) (Γy w y) (sh y))
    (ht : ∀ (s : Shared) (H : Hp) (C : Addr) (cl : List (Str × Addr)) (fp : List Addr) w y oz w', y ∈ items → f w y = some (oz, w') → TsJ (Bk X s H scope C cl fp) ifs (Γy w y) none oz.isSome)
    (he : ∀ (s : Shared) (H : Hp) (C : Addr) (cl : List (Str × Addr)) (fp : List Addr) w y z w', y ∈ items → f w y = some (some z, w') → EJ (Bk X s H scope C cl fp) elt (Γy w y) (me w y w') (fz τ3 z))
    (h : foldC f s0 items = some (zs, s1)) (hsm : Sm items.length) (hc : X.calm = true) (hN : X.N.Nodup) (hi : IJ X tg iter Γ m0 items sh) (ok : BlkOk X.N X.env.scope scope own)
    (hl1 : fl0.length = (out Γ m0).length) (hm1 : mask fl0 (out Γ m0) = Γs s0) (hz : ∀ s, ∀ v ∈ own.map (fun x : Str × Nat => x.2), (Γs s)[v]? = some none ∨ (Γs s).length ≤ v)
    (hl : ∀ s y s', fl.length = (out (Γy s y) (me s y s')).length) (hm : ∀ s y s', mask fl (out (Γy s y) (me s y s')) = Γs s') (hl0 : ∀ s y, fl.length = (Γy s y).length) (hm0 : ∀ s y, mask fl (Γy s y) = Γs s) (hk : ∀ s y s', f s y = some (none, s') → s' = s)
    (hs : ∀ x, foldedSetIterable iter X.env x = pure x := by intro _; rfl) : LcJ X (.ListComp elt [⟨tg, iter, ifs, 0⟩] scope pos) Γ (some (Γs s1)) (oL τ3 zs) := by
  have run : ∀ σ H Q, tT Γ (some (Γs s1)) (oL τ3 zs) σ H Q → tLc (tI Γ m0 items sh) (fun v σ H Q => ∃ t, (∃ s y, t = tG0 (own.map (·.2)) (Γs s) (Γy s y) (sh y)) ∧ t v σ H Q) (fun σ H Q => ∃ t, (∃ s y oz s', y ∈ items ∧ f s y = some (oz, s') ∧ t = tB (Γy s y) none oz.isSome) ∧ t σ H Q) (fun σ H Q => ∃ t, (∃ s y z s', y ∈ items ∧ f s y = some (some z, s') ∧ t = tT (Γy s y) (me s y s') (fz τ3 z)) ∧ t σ H Q) (own.map (·.2)) σ H Q := fun σ H Q ⟨G, os, F, hh, st, k⟩ => go_lc ⟨G, os, F, hh, st, fun J G1 os1 H1 sm1 h1 af wk => by
      obtain ⟨os2, h2, st2⟩ := HH.masked h1 (af.st st sm1) hl1
      rw [hm1] at st2
      have st3 : StA (Γs s0) (wipe σ (own.map fun x : Str × Nat => x.2)) G1 os2 := by
        have key : ∀ (us : List Nat), (∀ u ∈ us, (Γs s0)[u]? = some none ∨ (Γs s0).length ≤ u) → nones us (Γs s0) = Γs s0 ∧ Zs us (Γs s0) := by
          intro us
          induction us with
          | nil => intro _; exact ⟨rfl, trivial⟩
          | cons u us ih =>
            intro hu
            obtain ⟨a, b⟩ := ih fun w hw => hu w (List.mem_cons_of_mem _ hw)
            have hu1 := hu u (List.mem_cons_self ..)
            constructor
            · show (nones us (Γs s0)).set u none = _
              rw [a]
              rcases hu1 with q | q
              · obtain ⟨hlt, e⟩ := List.getElem?_eq_some_iff.mp q
                rw [← e]
                exact List.set_getElem_self hlt
              · exact List.set_eq_of_length_le q
            · refine ⟨?_, b⟩
              rw [a]
              intro s e
              rcases hu1 with q | q
              · rw [q] at e; cases e
              · rw [List.getElem?_eq_none q] at e; cases e
        obtain ⟨ka, kb⟩ := key (own.map fun x : Str × Nat => x.2) (hz s0)
        have r := StA.wipes st2 _ kb
        rw [ka] at r
        exact r
      exact lcS_run (own.map fun x : Str × Nat => x.2) h hsm hz st3 h2 wk.toF hl hm hl0 hm0 hk fun v G' o os' H' sm h' st' p => k v G' o os' H' (sm1.trans sm) h' st' p⟩
  exact ⟨pe_to (pe_lc hc hN hi ok (g := fun v σ H Q => ∃ t, (∃ s y, t = tG0 (own.map (·.2)) (Γs s) (Γy s y) (sh y)) ∧ t v σ H Q) (tt := fun σ H Q => ∃ t, (∃ s y oz s', y ∈ items ∧ f s y = some (oz, s') ∧ t = tB (Γy s y) none oz.isSome) ∧ t σ H Q) (te := fun σ H Q => ∃ t, (∃ s y z s', y ∈ items ∧ f s y = some (some z, s') ∧ t = tT (Γy s y) (me s y s') (fz τ3 z)) ∧ t σ H Q)
    (fun s H C cl fp => pg_ex fun t ⟨s', y, e⟩ => by subst e; exact hg s H C cl fp s' y)
    (fun s H C cl fp => pts_ex fun t ⟨s', y, oz, s'', hm, hf, e⟩ => by subst e; exact ht s H C cl fp s' y oz s'' hm hf)
    (fun s H C cl fp => pe_ex fun t ⟨s', y, z, s'', hm, hf, e⟩ => by subst e; exact he s H C cl fp s' y z s'' hm hf) hs) run,
    fun hy hyl hsw => ps_to (ps_setLc hc hN hy hyl hsw hi ok (g := fun v σ H Q => ∃ t, (∃ s y, t = tG0 (own.map (·.2)) (Γs s) (Γy s y) (sh y)) ∧ t v σ H Q) (tt := fun σ H Q => ∃ t, (∃ s y oz s', y ∈ items ∧ f s y = some (oz, s') ∧ t = tB (Γy s y) none oz.isSome) ∧ t σ H Q) (te := fun σ H Q => ∃ t, (∃ s y z s', y ∈ items ∧ f s y = some (some z, s') ∧ t = tT (Γy s y) (me s y s') (fz τ3 z)) ∧ t σ H Q)
    (fun s H C cl fp => pg_ex fun t ⟨s', y, e⟩ => by subst e; exact hg s H C cl fp s' y)
    (fun s H C cl fp => pts_ex fun t ⟨s', y, oz, s'', hm, hf, e⟩ => by subst e; exact ht s H C cl fp s' y oz s'' hm hf)
    (fun s H C cl fp => pe_ex fun t ⟨s', y, z, s'', hm, hf, e⟩ => by subst e; exact he s H C cl fp s' y z s'' hm hf) hs) fun D σ H q => run _ _ _ q⟩
end
end
end Sl

set_option Elab.async false
set_option linter.all false
set_option maxRecDepth 100000
namespace Sl
open PySem PySem.Spec PyProof.Rows L2 Dl
/-! ### promises of calls that know that no display is under way -/
structure RoomG (k : Nat) (A : Around) : Prop where
  room : Room k A
  gd : A.guards = some []
theorem RoomG.mono {j k : Nat} {A : Around} (r : RoomG k A) (h : j ≤ k) : RoomG j A := ⟨r.room.mono h, r.gd⟩
theorem RoomG.units {k : Nat} {A : Around} (r : RoomG k A) : A.units + 64 < cLine := r.room.units
theorem RoomG.deeper {k : Nat} {A : Around} (r : RoomG (k + 1) A) (env : Env) : RoomG k (A.deeper env) := ⟨r.room.deeper env, r.gd⟩
theorem RoomG.make {k : Nat} {A : Around} (r : RoomG (k + 1) A) (C : Addr) (us : List Value) (kw : List (Str × Value)) : RoomG k (A.under (.builtin "type.__call__" ⟨.ref C :: us, kw⟩)) :=
  ⟨r.room.make C us kw, by
    have := r.gd
    first
      | exact this
      | simpa [Around.under, Code.guards, Code.isGuard, pushGuards] using this⟩
section
variable {P : Program} {w : World} {K : PySem.W.Frag} {mg : Str → Option Value} {base : Heap}
structure FnG (P : Program) (w : World) (K : PySem.W.Frag) (mg : Str → Option Value) (base : Heap) (CX : CXT) (k : Nat)
    (f : Addr) (fd : FuncData) (ps : List Str) (sp : Sp) : Prop where
  len : ∀ vs H Q E, sp vs H Q E → vs.length = ps.length
  go : ∀ (A : Around) (out : List Env) (s : Shared) (H : Hp) (args : Args) (us : List Value) (vs : List V) (Q : VK) (E : XK),
    RoomG k A → Env0 P w K mg base A out s H → BindsTo s fd args (ps.zip us) → Vals vs us → sp vs H Q E →
      codeAny (model P w) A (.call (.ref f) args) (CR CX out P w H s Q E) s
theorem FnG.mono {CX : CXT} {j k : Nat} {f : Addr} {fd : FuncData} {ps : List Str} {sp : Sp} (F : FnG P w K mg base CX j f fd ps sp) (h : j ≤ k) : FnG P w K mg base CX k f fd ps sp :=
  ⟨F.len, fun A out s H args us vs Q E r => F.go A out s H args us vs Q E (r.mono h)⟩
structure CalG (P : Program) (w : World) (K : PySem.W.Frag) (mg : Str → Option Value) (base : Heap) (CX : CXT) (k : Nat) (x : Str) (ps : List Str) (sp : Sp) : Prop where
  ex : ∃ f fd, FnG P w K mg base CX k f fd ps sp ∧ mg x = some (.ref f) ∧ PySem.W.keepIn K (.ref f) = true ∧ Binds K fd ps []
end
section
variable {X : Cx} {CX : CXT} {k : Nat} {f C : Addr} {fd : FuncData} {ps : List Str} {sp : Sp} {E : XK} {x m : Str} {p pos apos : Pos} {e o : Expr} {es : List Expr} {ta : TE} {t : TA}
theorem sp_nil {vs : List V} {H : Hp} {Q : VK} (h : sp (vs ++ []) H Q E) : sp vs H Q E := by
  have e := List.append_nil vs
  rw [e] at h
  exact h
theorem sp_nil1 {v : V} {vs : List V} {H : Hp} {Q : VK} (h : sp (v :: (vs ++ [])) H Q E) : sp (v :: vs) H Q E := by
  have e := List.append_nil vs
  rw [e] at h
  exact h
theorem runG {pins : List (Addr × Obj)} {σ : L2.St} {H : Hp} {s : Shared} {Q : VK} {us : List Value} {vs : List V} (F : FnG X.prog X.w X.K X.mg X.base CX k f fd ps sp) (hr : RoomG k X.A)
    (hb : Binds X.K fd ps []) (hx : Passes CX X E) (I : Inv X pins σ H s) (r : Vals vs us) (h : sp vs H Q E) : wpAny (model X.prog X.w) X.A (call (.ref f) us) (EP X pins σ Q) X.xe s := by
  have hl : us.length = ps.length := r.length ▸ F.len _ _ _ _ h
  have hbind := hb s us I.kIn (by rw [List.append_nil]; exact hl)
  rw [List.append_nil] at hbind
  refine wpAny_call (codeAny_mono (F.go X.A X.stack s H ⟨us, []⟩ us vs Q E hr I.env0 hbind r h) fun z t hq => ?_)
  match z, hq with
  | .ok (.ret u), hq => exact I.after hq
  | .ok .next, hq => exact hq.elim
  | .ok .brk, hq => exact hq.elim
  | .ok .cont, hq => exact hq.elim
  | .error d, hq => exact hx pins σ H s d t I hq
theorem pe_callCG (c : CalG X.prog X.w X.K X.mg X.base CX k x ps sp) (hr : RoomG k X.A) (hg : Gl X x) (hx : Passes CX X E) (ha : PA X (e :: es) t) (hdb : (x == ("__debug__" : Str)) = false := by decide)
    (he : starEach (e :: es) X.env = (false, eval e X.env) :: starEach es X.env := by rfl) (hpl : (backTo pos (starEach es X.env)).any (·.1) = false := by rfl) : PE X (.Call (.Name x p) (e :: es) [] pos) (tCall sp [] E t) := by
  obtain ⟨f, fd, F, g, kp, b⟩ := c.ex
  constructor
  intro pins s σ H Q I h
  exact wpAny_Call_Name_kw (ld_glob I hg g (PySem.W.callWith_K (h₀ := X.base) I.ok.mod.kin kp (thn (ha.run pos pins s σ H _ I h) fun us s1 ⟨vs, H1, I1, r, q⟩ =>
    ⟨I1.kIn, runG F hr b hx I1 r (sp_nil q)⟩) he hpl) hdb)
theorem pe_methG {pl : Sem Bool} (ho : PE X o ta) (c : Cls X.K C) (hm : Meth X.K C m f) (F : FnG X.prog X.w X.K X.mg X.base CX k f fd ps sp) (hr : RoomG k X.A) (hb : Binds X.K fd ps []) (hx : Passes CX X E) (ha : PA X (e :: es) t)
    (hst : starEach (e :: es) X.env = (false, eval e X.env) :: starEach es X.env) (hpl : (backTo pos (starEach es X.env)).any (·.1) = false)
    (ht : eval (.Call (.Attribute o m apos) (e :: es) [] pos) X.env = (do
      let v ← eval o X.env
      standAt apos.atName
      let (g, first) ← holding [v] (getMethod v m pl)
      callWith pos g first (backTo pos (starEach (e :: es) X.env)) (backToKw pos (keywordEach [] X.env)))) :
    PE X (.Call (.Attribute o m apos) (e :: es) [] pos) (tMeth C m sp [] E ta t) := by
  constructor
  intro pins s σ H Q I h
  refine PySem.W.methodCall_KW (pl := pl) (thn (ho.run pins s σ H _ I h) fun u s1 ⟨v, H1, I1, rv, a, dx, fs, ev, ea, l, q⟩ => ?_) ht
  subst ev
  cases (show u = Value.ref a from rv)
  exact getmeth_ok I1 ea c hm l (PySem.W.callWith_K (first := [.ref a]) (h₀ := X.base) I.ok.mod.kin hm.kp (thn (ha.run pos pins s1 σ H1 _ I1 q) fun us s2 ⟨vs, H2, I2, r, q2⟩ =>
    ⟨I2.kIn, runG (us := .ref a :: us) (vs := .ref a :: vs) F hr hb hx I2 (.cons rfl r) (sp_nil1 q2)⟩) hst hpl)
theorem pe_methG0 {pl : Sem Bool} (ho : PE X o ta) (c : Cls X.K C) (hm : Meth X.K C m f) (F : FnG X.prog X.w X.K X.mg X.base CX k f fd ps sp) (hr : RoomG k X.A) (hb : Binds X.K fd ps []) (hx : Passes CX X E)
    (ht : eval (.Call (.Attribute o m apos) [] [] pos) X.env = (do
      let v ← eval o X.env
      standAt apos.atName
      let (g, first) ← holding [v] (getMethod v m pl)
      callWith pos g first (backTo pos (starEach [] X.env)) (backToKw pos (keywordEach [] X.env)))) :
    PE X (.Call (.Attribute o m apos) [] [] pos) (tMeth C m sp [] E ta tNil) := by
  constructor
  intro pins s σ H Q I h
  refine PySem.W.methodCall_KW (pl := pl) (thn (ho.run pins s σ H _ I h) fun u s1 ⟨v, H1, I1, rv, a, dx, fs, ev, ea, l, q⟩ => ?_) ht
  subst ev
  cases (show u = Value.ref a from rv)
  exact getmeth_ok I1 ea c hm l (PySem.W.callWith_K0 (first := [.ref a]) I1.kIn hm.kp (runG (us := [.ref a]) (vs := [.ref a]) F hr hb hx I1 (.cons rfl .nil) q))
theorem pe_makeG (M : Mk X.K C f) (F : FnG X.prog X.w X.K X.mg X.base CX k f fd ps sp) (hr : RoomG (k + 1) X.A) (hg : Gl X x) (hm : X.mg x = some (.ref C)) (hb : Binds X.K fd ps []) (hx : Passes CX X E)
    (ha : PA X (e :: es) t) (hdb : (x == ("__debug__" : Str)) = false) (he : starEach (e :: es) X.env = (false, eval e X.env) :: starEach es X.env) (hpl : (backTo pos (starEach es X.env)).any (·.1) = false) :
    PE X (.Call (.Name x p) (e :: es) [] pos) (tMake C sp [] E t) := by
  constructor
  intro pins s0 σ H0 Q I0 h0
  refine wpAny_Call_Name_kw (ld_glob I0 hg hm (PySem.W.callWith_K (h₀ := X.base) I0.ok.mod.kin M.kp (thn (ha.run pos pins s0 σ H0 _ I0 h0) fun us s ⟨vs, H, I, r, q⟩ => ⟨I.kIn, ?_⟩) he hpl) hdb)
  have new := sp_nil1 (q (s.heap.objs.size + 1) s.heap.objs.size (I.hok.fresh (Nat.le_succ _)) (I.hok.fresh (Nat.le_refl _)) (Nat.ne_of_lt (Nat.lt_succ_self _)))
  have I2 := Inv.made (C := C) I
  have r2 : Vals (V.ref (s.heap.objs.size + 1) :: vs) (Value.ref (s.heap.objs.size + 1) :: us) := .cons rfl r
  have hl : (Value.ref (s.heap.objs.size + 1) :: us).length = ps.length := r2.length ▸ F.len _ _ _ _ new
  have hbind := hb _ (Value.ref (s.heap.objs.size + 1) :: us) I2.kIn (by rw [List.append_nil]; exact hl)
  rw [List.append_nil] at hbind
  refine wpAny_call (make_map (f := f) I.kIn M.makes M.init (beq_iff_eq.mp M.fn) (codeAny_mono (F.go _ X.stack _ _ ⟨Value.ref (s.heap.objs.size + 1) :: us, []⟩ _ _ _ E (hr.make C us []) (I2.env0.make C us []) hbind r2 new) fun z t hq => ?_))
  match z, hq with
  | .ok (.ret u), hq =>
    obtain ⟨v, H', I3, rv, ev, q3⟩ := I2.after hq
    subst ev
    exact ⟨rv, ⟨V.ref (s.heap.objs.size + 1), H', I3, rfl, q3⟩⟩
  | .ok .next, hq => exact hq.elim
  | .ok .brk, hq => exact hq.elim
  | .ok .cont, hq => exact hq.elim
  | .error d, hq => exact hx pins σ _ _ d t I2 hq
end
section
variable {P : Program} {w : World} {K : PySem.W.Frag} {mg : Str → Option Value} {base : Heap}
/-- a def, by its body -/
theorem Fun.okG {x q : Str} {st : Stmt} {f : Addr} {fd : FuncData} {N ps : List Str} {k : Nat} {sp : Sp} (D : Fun K x q st f fd) (S : FnScope N ps (defScope st)) (len : ∀ vs H Q E, sp vs H Q E → vs.length = ps.length)
    (body : ∀ (cdv : Value) (A : Around) (outer : List Env) (s : Shared) (H : Hp) (vs : List V) (Q : VK) (E : XK), RoomG k (A.deeper (envOfC q (defScope st) s.heap.objs.size f cdv)) → sp vs H Q E →
      ∃ t, PSs (cxOf CX0 P w K mg base N q (defScope st) f cdv A outer s H E).nox (defBody st) t ∧ t { nx := fun _ H' => Q .non H', rt := Q } (start N vs) H) : FnG P w K mg base CX0 (k + 1) f fd ps sp := by
  obtain ⟨oc, od, kV, doc, pm, an, cdv, ct, osl, rfl, lk, hcd⟩ := D.ex
  refine ⟨len, fun A outer s H args us vs Q E hr e0 hb r hsp => ?_⟩
  have inK : K.In s.heap := e0.mod.kin.keeps fun b o z => (e0.bs b o z).1
  have lim : s.heap.NoLimit := e0.mod.nolimit.keeps fun b o z => (e0.bs b o z).1
  refine codeAny_call_function hr.room.depth (inK _ _ lk) rfl S.co S.gen rfl (PySem.W.codeRec_of inK hcd) (hb _ _ _ _ (wpAny_newFunctionEnv_cells S.kind (fun ⟨n, v⟩ hy => ?_) fun env he s1 y => ?_))
  · rcases S.par n (List.of_mem_zip hy).1 with z | z
    · exact .inl z
    · exact .inr ⟨z, PySem.W.cellsFrom_some _ _ _ (.inl z)⟩
  subst he
  obtain ⟨t, ht, hq⟩ := body cdv A outer s H vs Q E (hr.deeper _) hsp
  refine ⟨lim.keeps y.toInCall.keep, codeAny_func (wpAny_mono (ht.nox.run [] s1 (start N vs) H _ (inv_start S hr.room.hd e0 (len _ _ _ _ hsp) r y) hq) (fun fl s' hs => ?_) fun _ _ z => z)⟩
  match fl, hs with
  | .ret u, ⟨v, σ', H', J, rv, z⟩ => exact ⟨v, H', J.os, J.bare, J.base, J.hok, rv, z⟩
  | .next, ⟨σ', H', J, z⟩ => exact ⟨.non, H', J.os, J.bare, J.base, J.hok, rfl, z⟩
  | .brk, ⟨_, _, _, z⟩ => exact z.elim
  | .cont, ⟨_, _, _, z⟩ => exact z.elim
end
end Sl

set_option Elab.async false
set_option linter.all false
set_option maxRecDepth 100000
namespace Sl
open PySem PySem.Spec PyProof.Rows L2 Dl
section
variable {P : Program} {w : World} {K : PySem.W.Frag} {mg mb : Str → Option Value} {CX : CXT} {k : Nat} {fa a : Addr} {fd : FuncData} {x : Str} {sp : Sp} {s1 : Shared} {vs : List Value} {ns : List Int}
/-- the script's object as it lies -/
abbrev scrObj (vs : List Value) : Obj := { cls := .type "list", data := .seq vs.toArray }
/-- the law runs from an abstract heap that tracks the script at most -/
theorem law_fromG (inK : K.In s1.heap) (hns : s1.heap.Ns mainGlobals mg) (hb : s1.heap.Ns builtinsNs mb) (hbb : ∀ x : Str, x ≠ "__name__" → mb x = bootBuiltins x) (hlim : s1.heap.NoLimit) (hg : s1.gens = #[])
    (obj : s1.heap.get? a = some (scrObj vs)) (hr : RoomG k callerA) (F : ∀ base : Heap, K.In base → base.Ns mainGlobals mg → FnG P w K mg base CX k fa fd [x] sp) (bind : ∀ (s : Shared) (u : Value), BindsTo s fd ⟨[u], []⟩ [(x, u)])
    (noX : ∀ H e s', CX [] H s1 (fun _ _ _ => False) e s' → False) {H : Hp} (hO : Only H) (hS : sp [.ref a] H (fun v _ => v = .bl true) fun _ _ _ => False) (hok : HOk P w H s1.heap) (hA : ∀ b, H b ≠ none → b = a) (hK : H a ≠ none → K.lookup a = none) :
    codeAny (model P w) callerA (.call (.ref fa) ⟨[.ref a], []⟩) (fun r s' => r = .ok (.ret (.bool true)) ∧ OldK s1.heap s'.heap ∧ s'.os = s1.os ∧ AllBare s'.gens) s1 := by
  have away : ∀ {b : Addr}, b ≠ a → H b = none := fun {b} nb => by
    rcases hh : H b with _ | u
    · rfl
    · exact absurd (hA b (by rw [hh]; exact fun z => nomatch z)) nb
  have nsB : ∀ {b : Addr} {m : Str → Option Value}, s1.heap.Ns b m → (hidT s1.heap H).Ns b m := fun {b m} ⟨o, es, ep, e, d, r⟩ => ⟨o, es, ep, hidT_get e (away fun z => by
    subst z
    rw [obj] at e
    cases e
    cases (show Data.seq vs.toArray _ = Data.dict es ep from d)), d, r⟩
  have inB : K.In (hidT s1.heap H) := fun b o e => hidT_get (inK b o e) (by
    by_cases nb : b = a
    · subst nb
      rcases hh : H b with _ | u
      · rfl
      · rw [hK (by rw [hh]; exact fun z => nomatch z)] at e
        cases e
    · exact away nb)
  have ground : Mod K mg (hidT s1.heap H) := ⟨inB, nsB hns, ⟨mb, nsB hb, hbb⟩, hlim.elim fun mc h => ⟨mc, nsB h.1, h.2⟩⟩
  have e0 : Env0 P w K mg (hidT s1.heap H) callerA [] s1 H :=
    { frames := rfl, mod := ground, bs := fun b o e => of_hidT e, bsz := Nat.le_of_eq (hidT_size _ _), funs := trivial, frf := fun b z => (nomatch z), hok := hok, bare := .of_eq hg }
  refine codeAny_mono ((F _ inB (nsB hns)).go callerA [] s1 H ⟨[.ref a], []⟩ [.ref a] [.ref a] _ _ hr e0 (bind s1 (.ref a)) (.cons rfl .nil) hS) fun r s' h => ?_
  match r, h with
  | .error e, h => exact (noX H e s' h).elim
  | .ok .next, h => exact h.elim
  | .ok .brk, h => exact h.elim
  | .ok .cont, h => exact h.elim
  | .ok (.ret u), ⟨v, H', os, bare, un, ok2, r2, q⟩ =>
    cases (show v = V.bl true from q)
    cases (show u = Value.bool true from r2)
    refine ⟨rfl, OldK.of_keep fun b o e => ?_, os, bare⟩
    rcases hh : H b with _ | u
    · exact un.keep b o e hh (fun z => nomatch z) (by simp)
    · rcases hO b with z | ⟨ob, xs, z⟩
      · rw [hh] at z
        cases z
      · have l1 := (hok b _ z).1
        have l2 := (ok2 b _ (un.frzs b ob _ z)).1
        rw [e] at l1
        cases l1
        exact l2
theorem law_callG (inK : K.In s1.heap) (hns : s1.heap.Ns mainGlobals mg) (hb : s1.heap.Ns builtinsNs mb) (hbb : ∀ x : Str, x ≠ "__name__" → mb x = bootBuiltins x) (hlim : s1.heap.NoLimit) (hg : s1.gens = #[])
    (obj : s1.heap.get? a = some (scrObj vs)) (hi : IntsAre vs ns) (hl : ns.length ≤ sizeLine) (hr : RoomG k callerA) (F : ∀ base : Heap, K.In base → base.Ns mainGlobals mg → FnG P w K mg base CX k fa fd [x] sp)
    (bind : ∀ (s : Shared) (u : Value), BindsTo s fd ⟨[u], []⟩ [(x, u)]) (hsp : ∀ H : Hp, Only H → SqL K H a (ns.map V.int) → sp [.ref a] H (fun v _ => v = .bl true) fun _ _ _ => False) (noX : ∀ H e s', CX [] H s1 (fun _ _ _ => False) e s' → False) :
    codeAny (model P w) callerA (.call (.ref fa) ⟨[.ref a], []⟩) (fun r s' => r = .ok (.ret (.bool true)) ∧ OldK s1.heap s'.heap ∧ s'.os = s1.os ∧ AllBare s'.gens) s1 := by
  have rv := vals_ints hi
  rcases hk : K.lookup a with _ | o
  · let H : Hp := fun b => if b = a then some (.frz (scrObj vs) (.lst (ns.map V.int))) else none
    have Ha : H a = some (.frz (scrObj vs) (.lst (ns.map V.int))) := if_pos rfl
    have Hn : ∀ {b : Addr}, b ≠ a → H b = none := fun nb => if_neg nb
    have hO : Only H := fun b => by
      by_cases nb : b = a
      · exact .inr ⟨_, _, by rw [nb]; exact Ha⟩
      · exact .inl (Hn nb)
    refine law_fromG inK hns hb hbb hlim hg obj hr F bind noX hO (hsp H hO (.inl (.inr ⟨_, Ha⟩))) (fun b u z => ?_) (fun b z => ?_) fun _ => hk
    · by_cases nb : b = a
      · subst nb
        rw [Ha] at z
        cases z
        exact ⟨obj, (by rw [List.length_map]; exact hl), vs, _, rv, obj⟩
      · rw [Hn nb] at z
        cases z
    · by_cases nb : b = a
      · exact nb
      · exact absurd (Hn nb) z
  · have e := inK a o hk
    rw [obj] at e
    cases e
    refine law_fromG inK hns hb hbb hlim hg obj hr F bind noX (H := fun _ => none) (fun _ => .inl rfl) (hsp _ (fun _ => .inl rfl) (.inr ⟨_, vs.toArray, _, hk, rfl, rfl, rfl, ?_, ?_⟩)) (fun b u z => nomatch z) (fun b z => absurd rfl z) fun z => absurd rfl z
    · rw [List.size_toArray, hi.length]
      exact hl
    · simpa using rv
end
theorem walk_ofG {l : PySem.W.OpenLaw} {n k : Nat} {q : Program} {loose : List Str} {XP : (Str → Option Value) → Heap → Prop} {YP : World → Heap → Prop} {d : DefRec} {K : Params → PySem.W.Frag} {sp : World → Sp} {x : Str}
    (hn : l.most = some n) (hn2 : n ≤ sizeLine) (hdf : d.params.defaults = []) (hr : Room k callerA) (hY : ∀ (w : World) (h : Heap), YP w h → (K w.params).In h)
    (F : ∀ (w : World) (mg : Str → Option Value) (fa : Addr) (h : Heap), (K w.params).In h → h.Ns mainGlobals mg → mg d.name = some (.ref fa) → ∃ fd : FuncData, (∀ (s : Shared) (u : Value), BindsTo s fd ⟨[u], []⟩ [(x, u)]) ∧
      ∀ base : Heap, (K w.params).In base → base.Ns mainGlobals mg → FnG l.prog w (K w.params) mg base CX0 k fa fd [x] (sp w))
    (hsp : ∀ (w : World) (H : Hp) (a : Addr) (ns : List Int), ns.length ≤ n → Only H → SqL (K w.params) H a (ns.map V.int) → sp w [.ref a] H (fun v _ => v = .bl true) fun _ _ _ => False) :
    PySem.W.WalkO q loose XP YP l.row.toRowW d [] (fun f vs => PySem.call f vs) :=
  Att.attach_call hn hdf fun w s₀ s1 mg mb fa o pm cd doc a vs ns G Y ho hd hcd hmg obj hin len hg => by
    have inK := hY w _ Y
    obtain ⟨fd, hb, hF⟩ := F w mg fa _ inK G.T.g hmg
    exact law_callG inK G.T.g G.T.b G.T.builtins G.T.nolimit hg obj hin (Nat.le_trans len hn2) ⟨hr, rfl⟩ hF hb (fun H hO hS => hsp w H a ns len hO hS) fun H e s' z => z
end Sl

set_option Elab.async false
set_option linter.all false
set_option maxRecDepth 100000
namespace Sl
open PySem PySem.Spec PyProof.Rows L2 Dl
/-! ### arguments -/
def VA (ss : List Sh) (s : Sh) (r : List V → Hp → VK → Prop) : Prop := ∀ vs G H os o Q, At G H os o → Shs ss G o vs → Out s G os Q → r vs H Q
/-- what a def says: the shapes of its arguments, of its answer, and of the lent ones behind it -/
abbrev Phi := List Sh → Sh → List (Nat × Sh) → Prop
def Lent : List (Nat × Sh) → List V → Hp → Ow → Prop
  | [], _, _, o => o = []
  | p :: L, vs, G, o => ∃ v o1 o2, vs[p.1]? = some v ∧ o = o1 ++ o2 ∧ p.2.p G o1 v ∧ Lent L vs G o2
def spS (n : Nat) (Φ : Phi) : Sp := fun vs H Q _ => ∃ G ow F ss r L, vs.length = n ∧ HH G (ow ++ F) H ∧ Shs ss G ow vs ∧ Φ ss r L ∧ ∀ v G' o ow' H', Same G G' → HH G' (o ++ (ow' ++ F)) H' → r.p G' o v → Lent L vs G' ow' → Q v H'
/-- what the arguments are, and the slots without the lent ones -/
def lshp : List As → Ct → Option (List Sh × Ct)
  | [], Γ => some ([], Γ)
  | .val s :: as, Γ => (lshp as Γ).map fun p => (s :: p.1, p.2)
  | .lend i :: as, Γ => match Γ[i]? with
    | some (some s) => (lshp as (Γ.set i none)).map fun p => (s :: p.1, p.2)
    | _ => none
def lback (as : List As) : List (Nat × Sh) → Ct → Ct
  | [], Γ => Γ
  | p :: L, Γ => match as[p.1]? with
    | some (.lend i) => lback as L (Γ.set i (some p.2))
    | _ => lback as L Γ
theorem lshp_run : ∀ {as : List As} {Γ Γ0 : Ct} {ss : List Sh} {σ : L2.St} {G : Hp} {o os : Ow} {vs : List V}, lshp as Γ = some (ss, Γ0) → AsP as σ G o vs → StA Γ σ G os → ∃ ow rest, (o ++ os).Perm (ow ++ rest) ∧ Shs ss G ow vs ∧ StA Γ0 σ G rest
  | [], Γ, Γ0, ss, σ, G, o, os, vs, h, ⟨e1, e2⟩, st => by
    cases h
    subst e1 e2
    exact ⟨[], os, .refl _, ⟨rfl, rfl⟩, st⟩
  | .val s :: as, Γ, Γ0, ss, σ, G, o, os, vs, h, ⟨v, vr, o1, o2, e1, e2, p1, p2⟩, st => by
    obtain ⟨⟨ss', Γ'⟩, h1, h2⟩ := Option.map_eq_some_iff.mp (show (lshp as Γ).map _ = some (ss, Γ0) from h)
    cases h2
    subst e1 e2
    obtain ⟨ow, rest, pm, q1, q2⟩ := lshp_run h1 p2 st
    exact ⟨o1 ++ ow, rest, by rw [List.append_assoc, List.append_assoc]; exact List.Perm.append_left o1 pm, ⟨v, vr, o1, ow, rfl, rfl, p1, q1⟩, q2⟩
  | .lend i :: as, Γ, Γ0, ss, σ, G, o, os, vs, h, ⟨v, vr, o1, o2, e1, e2, ⟨p0, p1⟩, p2⟩, st => by
    have h : (match Γ[i]? with
      | some (some s) => (lshp as (Γ.set i none)).map fun p => (s :: p.1, p.2)
      | _ => none) = some (ss, Γ0) := h
    split at h
    · rename_i s hi
      obtain ⟨⟨ss', Γ'⟩, h1, h2⟩ := Option.map_eq_some_iff.mp h
      cases h2
      subst e1 e2 p0
      obtain ⟨w, ow, ro, a1, a2, a3, a4, a5⟩ := st.take hi
      rw [p1] at a1
      cases a1
      obtain ⟨ow2, rest, pm, q1, q2⟩ := lshp_run h1 p2 a4
      refine ⟨ow ++ ow2, rest, ?_, ⟨v, vr, ow, ow2, rfl, rfl, a2, q1⟩, q2⟩
      exact (List.Perm.append_left o2 a3).trans ((perm_mid o2 ow ro).trans (by rw [List.append_assoc]; exact List.Perm.append_left ow pm))
    · cases h
theorem set_same {σ : L2.St} {i : Nat} {v : V} (h : σ[i]? = some (some v)) : σ.set i (some v) = σ := by
  obtain ⟨hl, e⟩ := List.getElem?_eq_some_iff.mp h
  rw [← e]
  exact List.set_getElem_self hl
theorem AsP.lent : ∀ {as : List As} {σ : L2.St} {G : Hp} {o : Ow} {vs : List V} {j i : Nat} {v : V}, AsP as σ G o vs → as[j]? = some (.lend i) → vs[j]? = some v → σ[i]? = some (some v)
  | [], _, _, _, _, _, _, _, _, h, _ => by simp at h
  | a :: as, _, _, _, _, 0, _, _, ⟨v, vr, o1, o2, e1, e2, p1, p2⟩, h, hv => by
    simp only [List.getElem?_cons_zero, Option.some.injEq] at h
    subst h e1
    simp only [List.getElem?_cons_zero, Option.some.injEq] at hv
    subst hv
    exact p1.2
  | a :: as, _, _, _, _, j + 1, _, _, ⟨v, vr, o1, o2, e1, e2, p1, p2⟩, h, hv => by
    subst e1
    exact AsP.lent (j := j) p2 (by simpa using h) (by simpa using hv)
theorem lback_run {as : List As} {σ : L2.St} {G0 : Hp} {o0 : Ow} {vs : List V} (ap : AsP as σ G0 o0 vs) {G : Hp} : ∀ {L : List (Nat × Sh)} {Γ : Ct} {ow rest : Ow}, Lent L vs G ow → StA Γ σ G rest → ∃ dead os', (ow ++ rest).Perm (dead ++ os') ∧ StA (lback as L Γ) σ G os'
  | [], Γ, ow, rest, e, st => ⟨[], rest, (by rw [show ow = [] from e]), st⟩
  | p :: L, Γ, ow, rest, ⟨v, o1, o2, e1, e2, p1, p2⟩, st => by
    subst e2
    have key : ∀ (Γ' : Ct) (dead0 os0 : Ow), (o1 ++ rest).Perm (dead0 ++ os0) → StA Γ' σ G os0 → ∃ dead os', (o1 ++ o2 ++ rest).Perm (dead ++ os') ∧ StA (lback as L Γ') σ G os' := fun Γ' dead0 os0 pm st' => by
      obtain ⟨d, os', pm2, q⟩ := lback_run ap (L := L) p2 st'
      refine ⟨dead0 ++ d, os', ?_, q⟩
      rw [List.append_assoc]
      exact (perm_mid o1 o2 rest).trans ((List.Perm.append_left o2 pm).trans ((perm_mid o2 dead0 os0).trans (by rw [List.append_assoc]; exact List.Perm.append_left dead0 pm2)))
    show ∃ dead os', _ ∧ StA (match as[p.1]? with
      | some (.lend i) => lback as L (Γ.set i (some p.2))
      | _ => lback as L Γ) σ G os'
    split
    · rename_i i hi
      have hs := AsP.lent ap hi e1
      have hlen : i < Γ.length := by
        rw [← st.len]
        exact (List.getElem?_eq_some_iff.mp hs).1
      obtain ⟨d, os2, pm, st2⟩ := st.set p1 hlen
      rw [set_same hs] at st2
      exact key _ d os2 pm st2
    · exact key Γ o1 rest (.refl _) st
section
variable {X : Cx} {P : Pn} {Γ Γ0 Γ' Γ1 Γ2 Γm Γn : Ct} {m m0 m1 m2 : Option Ct} {α β γ δ κ ρ S : Type} {τ τ1 : Ty α} {τ2 : Ty β} {τ3 : Ty γ} {s s1 s2 r : Sh} {pos p apos : Pos} {a b e o : Expr} {es : List Expr} {us vs : List Nat} {as : List As} {ss : List Sh} {x : Str} {CX : CXT} {k : Nat} {ps : List Str} {E : XK} {rv : List V → Hp → VK → Prop} {Φ : Phi} {L : List (Nat × Sh)}
theorem aj_nil : AJ X [] Γ none [] := pa_to pa_nil fun σ H Q ⟨G, os, F, hh, st, k⟩ => go_nil (k [] G [] os H (Same.refl _) hh rfl ⟨rfl, rfl⟩)
theorem aj_cons (he : EJ X e Γ m s) (ha : AJ X es (out Γ m) m2 as) (hs : starEach (e :: es) X.env = (false, eval e X.env) :: starEach es X.env := by rfl) : AJ X (e :: es) Γ (cmb m m2) (.val s :: as) :=
  pa_to (pa_cons he ha hs) fun σ H Q ⟨G, os, F, hh, st, k⟩ => go_cons ⟨G, os, F, hh, st, fun v G1 o1 os1 H1 sm1 h1 af1 p1 => ⟨G1, os1, o1 ++ F, h1.perm (perm_mid _ _ _), af1.st st sm1, fun vs G2 o2 os2 H2 sm2 h2 af2 p2 =>
    k (v :: vs) G2 (o1 ++ o2) os2 H2 (sm1.trans sm2) (h2.perm (by
      rw [List.append_assoc]
      exact (List.Perm.append_left o2 (perm_mid os2 o1 F)).trans (perm_mid o2 o1 (os2 ++ F)))) (af1.trans sm2 af2) ⟨v, vs, o1, o2, rfl, rfl, s.mono sm2 p1, p2⟩⟩⟩
theorem aj_lend {i : Nat} (hN : X.N[i]? = some x) (hv : Vis X.env.scope x) (hi : Γ[i]? = some (some s)) (ha : AJ X es Γ m2 as) (hd : (x == ("__debug__" : Str)) = false := by decide) (hcd : (x == ("__classdict__" : Str)) = false := by decide)
    (hs : starEach (.Name x p :: es) X.env = (false, eval (.Name x p) X.env) :: starEach es X.env := by rfl) : AJ X (.Name x p :: es) Γ m2 (.lend i :: as) :=
  pa_to (pa_cons (pe_var (i := i) hN hv hd hcd) ha hs) fun σ H Q ⟨G, os, F, hh, st, k⟩ => by
    obtain ⟨v, o, rest, a1, a2, a3, a4, a5⟩ := st.take hi
    exact go_cons ⟨v, a1, G, os, F, hh, st, fun vs G2 o2 os2 H2 sm2 h2 af2 p2 => k (v :: vs) G2 o2 os2 H2 sm2 h2 af2 ⟨v, vs, [], o2, rfl, rfl, ⟨rfl, a1⟩, p2⟩⟩
/-! calls of defs -/
theorem call_core {σ : L2.St} {H : Hp} {Q : VK} {vs : List V} {G : Hp} {o os F : Ow} {n : Nat} (hl : lshp as Γ = some (ss, Γ0)) (hΦ : Φ ss r L) (hn : ss.length = n) (hh : HH G (o ++ (os ++ F)) H) (st : StA Γ σ G os) (ap : AsP as σ G o vs)
    (k : ∀ v G' o' os' H', Same G G' → HH G' (o' ++ (os' ++ F)) H' → StA (lback as L Γ0) σ G' os' → r.p G' o' v → Q v H') : spS n Φ vs H Q E := by
  obtain ⟨ow, rest, pm, q1, q2⟩ := lshp_run hl ap st
  refine ⟨G, ow, rest ++ F, ss, r, L, by rw [q1.len, hn], hh.perm ?_, q1, hΦ, fun v G' o' ow' H' sm h' pr lt => ?_⟩
  · rw [← List.append_assoc, ← List.append_assoc]
    exact List.Perm.append_right F pm
  · obtain ⟨dead, os', pm2, st'⟩ := lback_run ap lt (q2.mono sm)
    refine k v G' o' os' H' sm (HH.drops (d := dead) (h'.perm ?_)) st' pr
    refine (List.Perm.append_left o' (?_ : (ow' ++ (rest ++ F)).Perm (dead ++ (os' ++ F)))).trans (perm_mid o' dead (os' ++ F))
    rw [← List.append_assoc, ← List.append_assoc]
    exact List.Perm.append_right F pm2
theorem ej_call {n : Nat} (C : CalG X.prog X.w X.K X.mg X.base CX k x ps (spS n Φ)) (hr : RoomG k X.A) (hg : Gl X x) (hx : Passes CX X E) (ha : AJ X (e :: es) Γ m as) (hl : lshp as (out Γ m) = some (ss, Γ0)) (hΦ : Φ ss r L) (hn : ss.length = n := by rfl) (hdb : (x == ("__debug__" : Str)) = false := by decide)
    (he : starEach (e :: es) X.env = (false, eval e X.env) :: starEach es X.env := by rfl) (hpl : (backTo pos (starEach es X.env)).any (·.1) = false := by rfl) : EJ X (.Call (.Name x p) (e :: es) [] pos) Γ (some (lback as L Γ0)) r :=
  pe_to (pe_callCG C hr hg hx ha hdb he hpl) fun σ H Q ⟨G, os, F, hh, st, k⟩ => go_call ⟨G, os, F, hh, st, fun vs G1 o1 os1 H1 sm1 h1 af1 ap1 =>
    call_core hl hΦ hn h1 (af1.st st sm1) ap1 fun v G' o' os' H' sm h' st' pr => k v G' o' os' H' (sm1.trans sm) h' st' pr⟩
/-- .. whose arguments are data, that changes nothing -/
theorem lshp_vals : ∀ {ss : List Sh} {Γ : Ct}, lshp (ss.map As.val) Γ = some (ss, Γ)
  | [], _ => rfl
  | s :: ss, Γ => by
    show (lshp (ss.map As.val) Γ).map _ = _
    rw [lshp_vals]
    rfl
theorem asp_vals {σ : L2.St} : ∀ {ss : List Sh} {G : Hp} {o : Ow} {vs : List V}, AsP (ss.map As.val) σ G o vs → Shs ss G o vs
  | [], _, _, _, h => h
  | s :: ss, _, _, _, ⟨v, vr, o1, o2, e1, e2, p1, p2⟩ => ⟨v, vr, o1, o2, e1, e2, p1, asp_vals p2⟩
theorem ej_callP {n : Nat} (C : CalG X.prog X.w X.K X.mg X.base CX k x ps (spS n Φ)) (hr : RoomG k X.A) (hg : Gl X x) (hx : Passes CX X E) (ha : AJ X (e :: es) Γ m (ss.map As.val)) (hΦ : Φ ss r []) (hn : ss.length = n := by rfl) (hdb : (x == ("__debug__" : Str)) = false := by decide)
    (he : starEach (e :: es) X.env = (false, eval e X.env) :: starEach es X.env := by rfl) (hpl : (backTo pos (starEach es X.env)).any (·.1) = false := by rfl) : EJ X (.Call (.Name x p) (e :: es) [] pos) Γ m r :=
  pe_to (pe_callCG C hr hg hx ha hdb he hpl) fun σ H Q ⟨G, os, F, hh, st, k⟩ => go_call ⟨G, os, F, hh, st, fun vs G1 o1 os1 H1 sm1 h1 af1 ap1 =>
    ⟨G1, o1, os1 ++ F, ss, r, [], by rw [(asp_vals ap1).len, hn], h1, asp_vals ap1, hΦ, fun v G' o' ow' H' sm h' pr (lt : ow' = []) => k v G' o' os1 H' (sm1.trans sm) (by subst lt; exact h') (af1.mono sm) pr⟩⟩
/-! calls of built-ins -/
theorem ej_b {id : String} (cr : CallR X (.builtin id) rv) (sp : VA ss s rv) (hg : Gl X x) (hm : X.mg x = none) (hv : bootBuiltins x = some (.builtin id)) (ha : AJ X (e :: es) Γ m (ss.map As.val)) (hn : x ≠ "__name__" := by decide) (hdb : (x == ("__debug__" : Str)) = false := by decide)
    (he : starEach (e :: es) X.env = (false, eval e X.env) :: starEach es X.env := by rfl) (hpl : (backTo pos (starEach es X.env)).any (·.1) = false := by rfl) : EJ X (.Call (.Name x p) (e :: es) [] pos) Γ m s :=
  pe_to (pe_callB cr hg hm hv ha hn hdb he hpl) fun σ H Q ⟨G, os, F, hh, st, k⟩ => go_tcb ⟨G, os, F, hh, st, fun vs G1 o1 os1 H1 sm1 h1 af1 ap1 =>
    sp vs G1 H1 (o1 ++ (os1 ++ F)) o1 Q ⟨h1, _, .refl _⟩ (asp_vals ap1) fun u G2 o2 H2 sm2 h2 p2 => k u G2 o2 os1 H2 (sm1.trans sm2) (HH.drops (d := o1) (h2.perm (perm_mid o2 o1 _))) (af1.mono sm2) p2⟩
theorem ej_ty {id : String} (cr : CallR X (.type id) rv) (sp : VA ss s rv) (hg : Gl X x) (hm : X.mg x = none) (hv : bootBuiltins x = some (.type id)) (ha : AJ X (e :: es) Γ m (ss.map As.val)) (hn : x ≠ "__name__" := by decide) (hdb : (x == ("__debug__" : Str)) = false := by decide)
    (he : starEach (e :: es) X.env = (false, eval e X.env) :: starEach es X.env := by rfl) (hpl : (backTo pos (starEach es X.env)).any (·.1) = false := by rfl) : EJ X (.Call (.Name x p) (e :: es) [] pos) Γ m s :=
  pe_to (pe_callTy cr hg hm hv ha hn hdb he hpl) fun σ H Q ⟨G, os, F, hh, st, k⟩ => go_tcb ⟨G, os, F, hh, st, fun vs G1 o1 os1 H1 sm1 h1 af1 ap1 =>
    sp vs G1 H1 (o1 ++ (os1 ++ F)) o1 Q ⟨h1, _, .refl _⟩ (asp_vals ap1) fun u G2 o2 H2 sm2 h2 p2 => k u G2 o2 os1 H2 (sm1.trans sm2) (HH.drops (d := o1) (h2.perm (perm_mid o2 o1 _))) (af1.mono sm2) p2⟩
/-- of one thing that stays where it stands -/
theorem pj_args (h : PJ X a Γ s1) (hs : starEach [a] X.env = (false, eval a X.env) :: starEach [] X.env := by rfl) : PA X [a] (fun σ H Q => ∃ G os F, HH G (os ++ F) H ∧ StA Γ σ G os ∧ ∀ v o rest, os.Perm (o ++ rest) → s1.p G o v → Q [v] H) :=
  pa_to (pa_cons h pa_nil hs) fun σ H Q ⟨G, os, F, hh, st, k⟩ => go_cons ⟨G, os, F, hh, st, fun v o rest pm ps => go_nil (k v o rest pm ps)⟩
theorem ej_bP {id : String} (cr : CallR X (.builtin id) rv) (sp : VA [s1] s rv) (hg : Gl X x) (hm : X.mg x = none) (hv : bootBuiltins x = some (.builtin id)) (ha : PJ X a Γ s1) (hn : x ≠ "__name__" := by decide) (hdb : (x == ("__debug__" : Str)) = false := by decide)
    (he : starEach [a] X.env = (false, eval a X.env) :: starEach [] X.env := by rfl) (hpl : (backTo pos (starEach [] X.env)).any (·.1) = false := by rfl) : EJ X (.Call (.Name x p) [a] [] pos) Γ none s :=
  pe_to (pe_callB cr hg hm hv (pj_args ha he) hn hdb he hpl) fun σ H Q ⟨G, os, F, hh, st, k⟩ => go_tcb ⟨G, os, F, hh, st, fun v o rest pm ps =>
    sp [v] G H (os ++ F) o Q ⟨hh, rest ++ F, by rw [← List.append_assoc]; exact List.Perm.append_right F pm⟩ ⟨v, [], o, [], rfl, by rw [List.append_nil], ps, rfl, rfl⟩ fun u G2 o2 H2 sm2 h2 p2 => k u G2 o2 os H2 sm2 h2 rfl p2⟩
theorem ej_tyP {id : String} (cr : CallR X (.type id) rv) (sp : VA [s1] s rv) (hg : Gl X x) (hm : X.mg x = none) (hv : bootBuiltins x = some (.type id)) (ha : PJ X a Γ s1) (hn : x ≠ "__name__" := by decide) (hdb : (x == ("__debug__" : Str)) = false := by decide)
    (he : starEach [a] X.env = (false, eval a X.env) :: starEach [] X.env := by rfl) (hpl : (backTo pos (starEach [] X.env)).any (·.1) = false := by rfl) : EJ X (.Call (.Name x p) [a] [] pos) Γ none s :=
  pe_to (pe_callTy cr hg hm hv (pj_args ha he) hn hdb he hpl) fun σ H Q ⟨G, os, F, hh, st, k⟩ => go_tcb ⟨G, os, F, hh, st, fun v o rest pm ps =>
    sp [v] G H (os ++ F) o Q ⟨hh, rest ++ F, by rw [← List.append_assoc]; exact List.Perm.append_right F pm⟩ ⟨v, [], o, [], rfl, by rw [List.append_nil], ps, rfl, rfl⟩ fun u G2 o2 H2 sm2 h2 p2 => k u G2 o2 os H2 sm2 h2 rfl p2⟩
/-! written lists and tuples -/
theorem ej_lst (ha : AJ X es Γ m (ss.map As.val)) (hl : (decide (ss.length ≤ 40)) = true := by rfl) : EJ X (.List es pos) Γ m (oLst ss) :=
  pe_to (pe_lst ha) fun σ H Q ⟨G, os, F, hh, st, k⟩ => go_tlst ⟨G, os, F, hh, st, fun vs G1 o1 os1 H1 sm1 h1 af1 ap1 => ⟨Nat.le_trans (by rw [(asp_vals ap1).len]; exact of_decide_eq_true hl) (by decide), fun q nq =>
    k (.ref q) G1 ((q, .lst vs) :: o1) os1 _ sm1 (h1.push nq) af1 ⟨q, vs, o1, rfl, rfl, asp_vals ap1⟩⟩⟩
theorem ej_tup {k' : Nat} {ss' : List Sh} (ha : AJ X es Γ m (ss.map As.val)) (f : Fzs ss ss') (t : ∀ G q vs, G q = some (.tup vs) → Shs ss' G [] vs → s.p G [] (.ref q)) (hl : (decide (ss.length ≤ 40)) = true := by rfl) : EJ X (.Tuple es k' pos) Γ m s :=
  pe_to (pe_tup ha) fun σ H Q ⟨G, os, F, hh, st, k⟩ => go_ttup ⟨G, os, F, hh, st, fun vs G1 o1 os1 H1 sm1 h1 af1 ap1 => ⟨Nat.le_trans (by rw [(asp_vals ap1).len]; exact of_decide_eq_true hl) (by decide), fun q nq => by
    obtain ⟨G2, s2, h2, p2⟩ := f.run (asp_vals ap1) h1
    have g3 : Same G2 (upd G2 q (.tup vs)) := h2.sameG nq
    exact k (.ref q) (upd G2 q (.tup vs)) [] os1 _ ((sm1.trans s2).trans g3) (h2.alloc nq) ((af1.mono s2).mono g3) (t _ q vs upd_same (p2.mono g3))⟩⟩
theorem ej_tup2 {k' : Nat} {x : α} {y : β} (ha : AJ X es Γ m [.val (fz τ1 x), .val (fz τ2 y)]) : EJ X (.Tuple es k' pos) Γ m (fz (tP2 τ1 τ2) (x, y)) :=
  ej_tup (ss := [fz τ1 x, fz τ2 y]) (ss' := [fz τ1 x, fz τ2 y]) ha ⟨fz_fz, fz_fz, trivial⟩ fun G q vs e h => by
    obtain ⟨v1, v2, rfl, r1, r2⟩ := h.f2
    exact ⟨rfl, q, v1, v2, rfl, e, r1, r2⟩
theorem ej_tup3 {k' : Nat} {x : α} {y : β} {z : γ} (ha : AJ X es Γ m [.val (fz τ1 x), .val (fz τ2 y), .val (fz τ3 z)]) : EJ X (.Tuple es k' pos) Γ m (fz (tP3 τ1 τ2 τ3) (x, y, z)) :=
  ej_tup (ss := [fz τ1 x, fz τ2 y, fz τ3 z]) (ss' := [fz τ1 x, fz τ2 y, fz τ3 z]) ha ⟨fz_fz, fz_fz, fz_fz, trivial⟩ fun G q vs e h => by
    obtain ⟨v1, v2, v3, rfl, r1, r2, r3⟩ := h.f3
    exact ⟨rfl, q, v1, v2, v3, rfl, e, r1, r2, r3⟩
theorem ej_dnewT {κ : Type} [DecidableEq κ] {enc : κ → List Key} {inj : ∀ a b, enc a = enc b → a = b} : EJ X (.Dict [] [] pos) Γ none (oD (kTs enc inj) τ []) :=
  pe_to pe_dnewT fun σ H Q ⟨G, os, F, hh, st, k⟩ => fun q nq => k (.ref q) G [(q, .dT [])] os _ (Same.refl _) (hh.push nq) rfl ⟨q, [], rfl, rfl, .nil, List.nodup_nil⟩
theorem ej_dnew {κ : Type} [DecidableEq κ] {kd : Fk κ} : EJ X (.Dict [] [] pos) Γ none (oD (kF kd) τ []) :=
  pe_to pe_dnewK fun σ H Q ⟨G, os, F, hh, st, k⟩ => fun q nq => k (.ref q) G [(q, .dK [])] os _ (Same.refl _) (hh.push nq) rfl ⟨q, [], rfl, rfl, .nil, List.nodup_nil⟩
end
end Sl

set_option Elab.async false
set_option linter.all false
set_option maxRecDepth 100000
namespace Sl
open PySem PySem.Spec PyProof.Rows L2 Dl
/-! ### what may be read as a list, a dict -/
/-- a list of xs is to be read at v -/
def RdL {α : Type} (s : Sh) (τ : Ty α) (xs : List α) : Prop := ∀ G H os o v, At G H os o → s.p G o v → ∃ a vs, v = .ref a ∧ H a = some (.lst vs) ∧ Paired (τ.rep G) vs xs
def RdD {κ α : Type} (s : Sh) (kd : Kd κ) (τ : Ty α) (x : List (κ × α)) : Prop := ∀ G H os o v, At G H os o → s.p G o v → ∃ a vs, v = .ref a ∧ Rd H a (kd.ho vs) ∧ Paired (KR kd τ G) vs x ∧ (x.map Prod.fst).Nodup
/-- things of unlike kinds in a list -/
def RdO (s : Sh) (ss : List Sh) : Prop := ∀ G H os o v, At G H os o → s.p G o v → ∃ a vs o', v = .ref a ∧ H a = some (.lst vs) ∧ Shs ss G o' vs
theorem At.own {G H : Hp} {os : Ow} {a : Addr} {u : HO} {o' : Ow} (h : At G H os ((a, u) :: o')) : H a = some u := by
  obtain ⟨hh, rest, pm⟩ := h
  exact (hh.own (a, u) (pm.symm.subset (List.mem_append_left _ (List.mem_cons_self ..)))).1
section
variable {X : Cx} {P : Pn} {Γ Γ0 Γ' Γ1 Γ2 Γm Γn : Ct} {m m0 m1 m2 : Option Ct} {α β γ δ κ ρ S : Type} {τ τ1 : Ty α} {τ2 : Ty β} {τ3 : Ty γ} {τ4 : Ty δ} {s s1 s2 r : Sh} {pos p apos : Pos} {a b e o : Expr} {es : List Expr} {us vs : List Nat} {as : List As} {ss : List Sh} {x : Str} {kd : Kd κ} {K : PySem.W.Frag} {xs : List α}
theorem rd_fz : RdL (fz (tList τ) xs) τ xs := fun G H os o v ⟨hh, _⟩ ⟨_, a, vs, e, g, r⟩ => ⟨a, vs, e, hh.lst g, r⟩
theorem rd_oL : RdL (oL τ xs) τ xs := fun G H os o v h ⟨a, vs, e, eo, r⟩ => ⟨a, vs, e, by subst eo; exact h.own, r⟩
theorem rdd_fz {x : List (κ × α)} : RdD (fz (tDic kd τ) x) kd τ x := fun G H os o v ⟨hh, _⟩ ⟨_, a, vs, e, g, r, n⟩ => ⟨a, vs, e, hh.rd g, r, n⟩
theorem rdd_oD {x : List (κ × α)} : RdD (oD kd τ x) kd τ x := fun G H os o v h ⟨a, vs, e, eo, r, n⟩ => ⟨a, vs, e, .inl (by subst eo; exact h.own), r, n⟩
theorem rdo_o : RdO (oLst ss) ss := fun G H os o v h ⟨a, vs, o', e, eo, r⟩ => ⟨a, vs, o', e, by subst eo; exact h.own, r⟩
theorem rdo_2 {x : α × β} : RdO (fz (tL2 τ1 τ2) x) [fz τ1 x.1, fz τ2 x.2] := fun G H os o v ⟨hh, _⟩ ⟨_, a, v1, v2, e, g, r1, r2⟩ => ⟨a, _, [], e, hh.lst g, Shs.mk2 r1 r2⟩
theorem rdo_3 {x : α × β × γ} : RdO (fz (tL3 τ1 τ2 τ3) x) [fz τ1 x.1, fz τ2 x.2.1, fz τ3 x.2.2] := fun G H os o v ⟨hh, _⟩ ⟨_, a, v1, v2, v3, e, g, r1, r2, r3⟩ => ⟨a, _, [], e, hh.lst g, Shs.mk3 r1 r2 r3⟩
theorem Shs.mk4 {x : α} {y : β} {z : γ} {w : δ} {G : Hp} {v1 v2 v3 v4 : V} (r1 : τ1.rep G v1 x) (r2 : τ2.rep G v2 y) (r3 : τ3.rep G v3 z) (r4 : τ4.rep G v4 w) : Shs [fz τ1 x, fz τ2 y, fz τ3 z, fz τ4 w] G [] [v1, v2, v3, v4] :=
  ⟨v1, [v2, v3, v4], [], [], rfl, rfl, ⟨rfl, r1⟩, v2, [v3, v4], [], [], rfl, rfl, ⟨rfl, r2⟩, v3, [v4], [], [], rfl, rfl, ⟨rfl, r3⟩, v4, [], [], [], rfl, rfl, ⟨rfl, r4⟩, rfl, rfl⟩
theorem rdo_4 {x : α × β × γ × δ} : RdO (fz (tL4 τ1 τ2 τ3 τ4) x) [fz τ1 x.1, fz τ2 x.2.1, fz τ3 x.2.2.1, fz τ4 x.2.2.2] := fun G H os o v ⟨hh, _⟩ ⟨_, a, v1, v2, v3, v4, e, g, r1, r2, r3, r4⟩ => ⟨a, _, [], e, hh.lst g, Shs.mk4 r1 r2 r3 r4⟩
/-! subscripts -/
theorem v2_ixL {i : Int} {y : α} (h : RdL s τ xs) (hi : atI xs i = some y) : V2 s tInt i (fz τ y) (rIxL K) := by
  rintro v w G H os o Q at_ hs r2 k
  obtain ⟨a, vs, e, g, pr⟩ := h G H os o v at_ hs
  have r2 : w = .int i := r2
  subst e r2
  unfold atI at hi
  obtain ⟨j, hj, hy⟩ := Option.bind_eq_some_iff.mp hi
  obtain ⟨u, hu, ru⟩ := pr_get2 pr hy
  refine ⟨a, vs, i, u, rfl, rfl, SqL.of g, ?_, k.fz at_.1 ru⟩
  unfold atI
  rw [pr_len pr, hj]
  exact hu
theorem Shs.at : ∀ {ss : List Sh} {G : Hp} {o : Ow} {vs : List V} {j : Nat} {s : Sh}, Shs ss G o vs → ss[j]? = some s → ∃ v o', vs[j]? = some v ∧ s.p G o' v
  | [], _, _, _, _, _, _, h => by simp at h
  | s :: ss, _, _, _, 0, _, ⟨v, vr, o1, o2, e1, e2, h1, h2⟩, h => by
    simp only [List.getElem?_cons_zero, Option.some.injEq] at h
    subst h e1
    exact ⟨v, o1, rfl, h1⟩
  | s :: ss, _, _, _, j + 1, _, ⟨v, vr, o1, o2, e1, e2, h1, h2⟩, h => by
    subst e1
    obtain ⟨u, o', hu, hs⟩ := Shs.at (j := j) h2 (by simpa using h)
    exact ⟨u, o', by simpa using hu, hs⟩
theorem v2_ixO {i : Int} {j : Nat} {y : α} (h : RdO s ss) (hj : ixN ss.length i = some j) (hy : ss[j]? = some (fz τ y)) : V2 s tInt i (fz τ y) (rIxL K) := by
  rintro v w G H os o Q at_ hs r2 k
  obtain ⟨a, vs, o', e, g, sh⟩ := h G H os o v at_ hs
  have r2 : w = .int i := r2
  subst e r2
  obtain ⟨u, o2, hu, _, ru⟩ := sh.at hy
  refine ⟨a, vs, i, u, rfl, rfl, SqL.of g, ?_, k.fz at_.1 ru⟩
  unfold atI
  rw [sh.len, hj]
  exact hu
/-- tuples -/
def RdT (s : Sh) (ss : List Sh) : Prop := ∀ G H os o v, At G H os o → s.p G o v → ∃ a vs, v = .ref a ∧ H a = some (.tup vs) ∧ Shs ss G [] vs
theorem rdt_2 {x : α × β} : RdT (fz (tP2 τ1 τ2) x) [fz τ1 x.1, fz τ2 x.2] := fun G H os o v ⟨hh, _⟩ ⟨_, a, v1, v2, e, g, r1, r2⟩ => ⟨a, _, e, hh.tup g, Shs.mk2 r1 r2⟩
theorem rdt_3 {x : α × β × γ} : RdT (fz (tP3 τ1 τ2 τ3) x) [fz τ1 x.1, fz τ2 x.2.1, fz τ3 x.2.2] := fun G H os o v ⟨hh, _⟩ ⟨_, a, v1, v2, v3, e, g, r1, r2, r3⟩ => ⟨a, _, e, hh.tup g, Shs.mk3 r1 r2 r3⟩
theorem v2_ixT {i : Int} {j : Nat} {y : α} (h : RdT s ss) (hj : ixN ss.length i = some j) (hy : ss[j]? = some (fz τ y)) : V2 s tInt i (fz τ y) (rIxT K) := by
  rintro v w G H os o Q at_ hs r2 k
  obtain ⟨a, vs, e, g, sh⟩ := h G H os o v at_ hs
  have r2 : w = .int i := r2
  subst e r2
  obtain ⟨u, o2, hu, _, ru⟩ := sh.at hy
  refine ⟨a, vs, i, u, rfl, rfl, SqT.of g, ?_, k.fz at_.1 ru⟩
  unfold atI
  rw [sh.len, hj]
  exact hu
/-- a sign of a text -/
theorem v2_ixS {i : Int} {z : Str} {c : Nat} (l : z.length ≤ sizeLine) (h : atI z.cps.toList i = some c) : V2 (fz tStr z) tInt i (fz tStr ⟨#[c]⟩) rIxS := by
  rintro v w G H os o Q at_ ⟨_, r1⟩ r2 k
  have r1 : v = .str z := r1
  have r2 : w = .int i := r2
  subst r1 r2
  exact ⟨z, i, c, rfl, rfl, l, h, k.fz at_.1 rfl⟩
/-! dicts -/
/-- what a key is as a value -/
class KeyTy {κ : Type} (kd : outParam (Kd κ)) (τ : Ty κ) : Prop where
  is : ∀ {G H os v k}, HH G os H → τ.rep G v k → kd.isk H v (kd.enc k)
class FkTy {κ : Type} (f : outParam (Fk κ)) (τ : Ty κ) : Prop where
  is : ∀ G v k, τ.rep G v k → v = kV (f.enc k)
instance : FkTy fStr tStr := ⟨fun _ _ _ h => h⟩
instance : FkTy fInt tInt := ⟨fun _ _ _ h => h⟩
instance : FkTy fSum (tSum tInt tStr) := ⟨fun _ _ k h => by
  rcases h with ⟨y, e, r⟩ | ⟨y, e, r⟩
  · subst e; exact r
  · subst e; exact r⟩
instance {κ : Type} {f : Fk κ} {τ : Ty κ} [FkTy f τ] : KeyTy (kF f) τ := ⟨fun _ r => FkTy.is _ _ _ r⟩
instance {α β : Type} {f : Fk α} {g : Fk β} {τ1 : Ty α} {τ2 : Ty β} [FkTy f τ1] [FkTy g τ2] : KeyTy (kP2 f g) (tP2 τ1 τ2) := ⟨fun hh ⟨a, v1, v2, e, g0, r1, r2⟩ => ⟨a, e, by
  have := hh.tup g0
  rw [FkTy.is _ _ _ r1, FkTy.is _ _ _ r2] at this
  exact this⟩⟩
theorem pr_keys {α : Type} {f : Fk α} {τ : Ty α} [FkTy f τ] {G : Hp} : ∀ {vs : List V} {xs : List α}, Paired (τ.rep G) vs xs → vs = (xs.map f.enc).map kV
  | _, _, .nil => rfl
  | _, _, .cons r t => by
    rw [List.map_cons, List.map_cons, ← pr_keys t]
    exact congrArg (· :: _) (FkTy.is _ _ _ r)
instance {α : Type} {f : Fk α} {τ : Ty α} [FkTy f τ] : KeyTy (kTu f) (tTup τ) := ⟨fun hh ⟨a, vs, e, g0, r⟩ => ⟨a, e, by
  have := hh.tup g0
  rw [pr_keys r] at this
  exact this⟩⟩
theorem rdd_get [DecidableEq κ] {d : List (κ × α)} (h : RdD s kd τ d) {k : κ} {G H : Hp} {os ow : Ow} {v w : V} (at_ : At G H os ow) (hs : s.p G ow v) (hk : kd.isk H w (kd.enc k)) : ∃ a, v = .ref a ∧ ((∃ u y, DGet H a w (some u) ∧ aget d k = some y ∧ τ.rep G u y) ∨ (DGet H a w none ∧ aget d k = none)) := by
  obtain ⟨a, vs, e, g, pr, nd⟩ := h G H os ow v at_ hs
  refine ⟨a, e, ?_⟩
  have dg : DGet H a w (valV vs (kd.enc k)) := kd.dget g hk
  rcases kr_get k pr with ⟨u, y, h1, h2, h3⟩ | ⟨h1, h2⟩
  · rw [h1] at dg
    exact .inl ⟨u, y, dg, h2, h3⟩
  · rw [h1] at dg
    exact .inr ⟨dg, h2⟩
section
variable [DecidableEq κ] {d : List (κ × α)} {k : κ} {y : α} {τk : Ty κ} [KeyTy kd τk]
theorem dget_core {G H : Hp} {os ow : Ow} {v w : V} {Q : VK} (h : RdD s kd τ d) (hy : aget d k = some y) (at_ : At G H os ow) (hs : s.p G ow v) (rw_ : τk.rep G w k) (kk : Out (fz τ y) G os Q) : DG H v w Q := by
  obtain ⟨a, e, c⟩ := rdd_get h (k := k) at_ hs (KeyTy.is at_.1 rw_)
  rcases c with ⟨u, y', dg, h1, h2⟩ | ⟨_, h1⟩
  · rw [hy] at h1
    cases h1
    exact ⟨a, u, e, dg, kk.fz at_.1 h2⟩
  · rw [hy] at h1
    cases h1
theorem ej_dget (hu : X.A.units + 1 < cLine) (h : RdD (fz (tDic kd τ) d) kd τ d) (hy : aget d k = some y) (ho : EJ X o Γ m1 (fz (tDic kd τ) d)) (hi : EJ X e (out Γ m1) m2 (fz τk k)) (hs : NoSl e) : EJ X (.Subscript o e pos) Γ (cmb m1 m2) (fz τ y) :=
  pe_to (pe_dget hu ho hi hs) fun σ H Q ⟨G, os, F, hh, st, kk⟩ => go_dget (tT.two ⟨G, os, F, hh, st, fun v w G' os' H' sm h' af rv rw_ => dget_core (ow := []) rdd_fz hy ⟨h', _, .refl _⟩ ⟨rfl, rv⟩ rw_ fun u G2 o2 H2 s2 h2 p2 => kk u G2 o2 os' H2 (sm.trans s2) h2 (af.mono s2) p2⟩)
theorem ej_dgetP (hu : X.A.units + 1 < cLine) (h : RdD s kd τ d) (hy : aget d k = some y) (ho : PJ X o Γ s) (hi : EJ X e Γ none (fz τk k)) (hs : NoSl e) : EJ X (.Subscript o e pos) Γ none (fz τ y) :=
  pe_to (pe_dget hu ho hi hs) fun σ H Q ⟨G, os, F, hh, st, kk⟩ => go_dget (tP.two ⟨G, os, F, hh, st, fun v w G' H' o2 rest sm pm h' rv rw_ => dget_core h hy ⟨h', rest ++ F, by rw [← List.append_assoc]; exact List.Perm.append_right F pm⟩ rv rw_ fun u G2 o2 H2 s2 h2 p2 => kk u G2 o2 os H2 (sm.trans s2) h2 rfl p2⟩)
theorem din_core {G H : Hp} {os ow : Ow} {v w : V} {Q : VK} (h : RdD s kd τ d) (at_ : At G H os ow) (hs : s.p G ow v) (rw_ : τk.rep G w k) (kk : Out (fz tBool (ahas d k)) G os Q) : DI H v w Q := by
  obtain ⟨a, e, c⟩ := rdd_get h (k := k) at_ hs (KeyTy.is at_.1 rw_)
  rw [ahas_get] at kk
  rcases c with ⟨u, y', dg, h1, h2⟩ | ⟨dg, h1⟩
  · rw [h1] at kk
    exact ⟨a, _, e, dg, kk.fz at_.1 rfl⟩
  · rw [h1] at kk
    exact ⟨a, _, e, dg, kk.fz at_.1 rfl⟩
theorem dnin_core {G H : Hp} {os ow : Ow} {v w : V} {Q : VK} (h : RdD s kd τ d) (at_ : At G H os ow) (hs : s.p G ow v) (rw_ : τk.rep G w k) (kk : Out (fz tBool (!ahas d k)) G os Q) : DN H v w Q := by
  obtain ⟨a, e, c⟩ := rdd_get h (k := k) at_ hs (KeyTy.is at_.1 rw_)
  rw [ahas_get] at kk
  rcases c with ⟨u, y', dg, h1, h2⟩ | ⟨dg, h1⟩
  · rw [h1] at kk
    exact ⟨a, _, e, dg, kk.fz at_.1 rfl⟩
  · rw [h1] at kk
    exact ⟨a, _, e, dg, kk.fz at_.1 rfl⟩
/-- k in d: first the key, then the dict -/
theorem key_then {k' : β} {R : V → V → Hp → Prop} {σ : L2.St} {H : Hp} (h : ∃ G os F, HH G (os ++ F) H ∧ StA Γ σ G os ∧ ∀ w v G' H' o rest, Same G G' → os.Perm (o ++ rest) → HH G' (os ++ F) H' → s.p G' o v → τ2.rep G' w k' → R w v H') :
    tT Γ none (fz τ2 k') σ H fun w H1 => tP Γ s σ H1 fun v H2 => R w v H2 := by
  obtain ⟨G, os, F, hh, st, kk⟩ := h
  refine tT.one ⟨G, os, F, hh, st, fun w G' os' H' sm h' (af : os' = os) rw_ => ?_⟩
  subst af
  exact ⟨G', os', F, h', st.mono sm, fun v o rest pm hs => kk w v G' H' o rest sm pm h' hs rw_⟩
theorem ej_din (hu : X.A.units + 1 < cLine) (hi : EJ X e Γ m1 (fz τk k)) (ho : EJ X o (out Γ m1) m2 (fz (tDic kd τ) d)) (hm : behindInMarks .In o = false := by rfl) : EJ X (.Compare e [.In] [o] pos) Γ (cmb m1 m2) (fz tBool (ahas d k)) :=
  pe_to (pe_cmp (pc_din hu hi ho) hm) fun σ H Q ⟨G, os, F, hh, st, kk⟩ => go_din (tT.two ⟨G, os, F, hh, st, fun w v G' os' H' sm h' af rw_ rv => din_core (ow := []) rdd_fz ⟨h', _, .refl _⟩ ⟨rfl, rv⟩ rw_ fun u G2 o2 H2 s2 h2 p2 => kk u G2 o2 os' H2 (sm.trans s2) h2 (af.mono s2) p2⟩)
theorem ej_dnin (hu : X.A.units + 1 < cLine) (hi : EJ X e Γ m1 (fz τk k)) (ho : EJ X o (out Γ m1) m2 (fz (tDic kd τ) d)) (hm : behindInMarks .NotIn o = false := by rfl) : EJ X (.Compare e [.NotIn] [o] pos) Γ (cmb m1 m2) (fz tBool (!ahas d k)) :=
  pe_to (pe_cmp (pc_dnotin hu hi ho) hm) fun σ H Q ⟨G, os, F, hh, st, kk⟩ => go_dnotin (tT.two ⟨G, os, F, hh, st, fun w v G' os' H' sm h' af rw_ rv => dnin_core (ow := []) rdd_fz ⟨h', _, .refl _⟩ ⟨rfl, rv⟩ rw_ fun u G2 o2 H2 s2 h2 p2 => kk u G2 o2 os' H2 (sm.trans s2) h2 (af.mono s2) p2⟩)
theorem ej_dinP (hu : X.A.units + 1 < cLine) (h : RdD s kd τ d) (hi : EJ X e Γ none (fz τk k)) (ho : PJ X o Γ s) (hm : behindInMarks .In o = false := by rfl) : EJ X (.Compare e [.In] [o] pos) Γ none (fz tBool (ahas d k)) :=
  pe_to (pe_cmp (pc_din hu hi ho) hm) fun σ H Q ⟨G, os, F, hh, st, kk⟩ => go_din (key_then ⟨G, os, F, hh, st, fun w v G' H' o2 rest sm pm h' rv rw_ => din_core h ⟨h', rest ++ F, by rw [← List.append_assoc]; exact List.Perm.append_right F pm⟩ rv rw_ fun u G2 o2 H2 s2 h2 p2 => kk u G2 o2 os H2 (sm.trans s2) h2 rfl p2⟩)
theorem ej_dninP (hu : X.A.units + 1 < cLine) (h : RdD s kd τ d) (hi : EJ X e Γ none (fz τk k)) (ho : PJ X o Γ s) (hm : behindInMarks .NotIn o = false := by rfl) : EJ X (.Compare e [.NotIn] [o] pos) Γ none (fz tBool (!ahas d k)) :=
  pe_to (pe_cmp (pc_dnotin hu hi ho) hm) fun σ H Q ⟨G, os, F, hh, st, kk⟩ => go_dnotin (key_then ⟨G, os, F, hh, st, fun w v G' H' o2 rest sm pm h' rv rw_ => dnin_core h ⟨h', rest ++ F, by rw [← List.append_assoc]; exact List.Perm.append_right F pm⟩ rv rw_ fun u G2 o2 H2 s2 h2 p2 => kk u G2 o2 os H2 (sm.trans s2) h2 rfl p2⟩)
end
/-! len and the like -/
theorem va_one {rv : List V → Hp → VK → Prop} (h : ∀ v G H os o Q, At G H os o → s1.p G o v → Out s G os Q → rv [v] H Q) : VA [s1] s rv := fun vs G H os o Q at_ ⟨v, vr, o1, o2, e1, e2, p1, e3, e4⟩ k => by
  subst e1 e2 e3 e4
  rw [List.append_nil] at at_
  exact h v G H os o1 Q at_ p1 k
theorem va_len (h : RdL s τ xs) : VA [s] (fz tInt (xs.length : Int)) (Dl.rLen K) := va_one fun v G H os o Q at_ hs k => by
  obtain ⟨a, vs, e, g, pr⟩ := h G H os o v at_ hs
  subst e
  refine go_len (SqL.of g) ?_
  rw [pr_len pr]
  exact k.fz at_.1 rfl
theorem va_lenO (h : RdO s ss) : VA [s] (fz tInt (ss.length : Int)) (Dl.rLen K) := va_one fun v G H os o Q at_ hs k => by
  obtain ⟨a, vs, o', e, g, sh⟩ := h G H os o v at_ hs
  subst e
  refine go_len (SqL.of g) ?_
  rw [sh.len]
  exact k.fz at_.1 rfl
theorem va_int {i : Int} : VA [fz tInt i] (fz tInt i) rInt1 := va_one fun v G H os o Q at_ ⟨_, (r : v = .int i)⟩ k => by
  subst r
  exact go_int1 (k.fz at_.1 rfl)
theorem va_intB {i : Bool} : VA [fz tBool i] (fz tInt (if i then 1 else 0)) rIntB := va_one fun v G H os o Q at_ ⟨_, (r : v = .bl i)⟩ k => by
  subst r
  exact go_intB (k.fz at_.1 rfl)
theorem va_two {rv : List V → Hp → VK → Prop} {x : α} {y : β} (h : ∀ v w G H os Q, HH G os H → τ1.rep G v x → τ2.rep G w y → Out s G os Q → rv [v, w] H Q) : VA [fz τ1 x, fz τ2 y] s rv := fun vs G H os o Q at_ ⟨v, vr, o1, o2, e1, e2, ⟨_, p1⟩, w, wr, o3, o4, e3, e4, ⟨_, p2⟩, e5, e6⟩ k => by
  subst e1 e3 e5
  exact h v w G H os Q at_.1 p1 p2 k
theorem va_min {i j : Int} : VA [fz tInt i, fz tInt j] (fz tInt (min i j)) rMin2 := va_two fun v w G H os Q hh (r1 : v = .int i) (r2 : w = .int j) k => by
  subst r1 r2
  exact go_min2 (k.fz hh rfl)
theorem va_max {i j : Int} : VA [fz tInt i, fz tInt j] (fz tInt (max i j)) rMax2 := va_two fun v w G H os Q hh (r1 : v = .int i) (r2 : w = .int j) k => by
  subst r1 r2
  exact go_max2 (k.fz hh rfl)
theorem pr_ints' {G : Hp} : ∀ {vs : List V} {xs : List Int}, Paired (tInt.rep G) vs xs → vs = xs.map V.int
  | _, _, .nil => rfl
  | _, _, .cons (r : _ = V.int _) t => by rw [List.map_cons, ← pr_ints' t, r]
theorem pr_bls' {G : Hp} : ∀ {vs : List V} {xs : List Bool}, Paired (tBool.rep G) vs xs → vs = xs.map V.bl
  | _, _, .nil => rfl
  | _, _, .cons (r : _ = V.bl _) t => by rw [List.map_cons, ← pr_bls' t, r]
theorem va_sum {ns : List Int} (h : RdL s tInt ns) : VA [s] (fz tInt ns.sum) (rSum K) := va_one fun v G H os o Q at_ hs k => by
  obtain ⟨a, vs, e, g, pr⟩ := h G H os o v at_ hs
  subst e
  rw [pr_ints' pr] at g
  exact ⟨a, ns, rfl, SqL.of g, k.fz at_.1 rfl⟩
theorem va_all {bs : List Bool} (h : RdL s tBool bs) : VA [s] (fz tBool (bs.all id)) (rAll K) := va_one fun v G H os o Q at_ hs k => by
  obtain ⟨a, vs, e, g, pr⟩ := h G H os o v at_ hs
  subst e
  rw [pr_bls' pr] at g
  exact ⟨a, bs, rfl, SqL.of g, k.fz at_.1 rfl⟩
theorem va_listL (h : RdL s τ xs) : VA [s] (oL τ xs) (rListOf K) := va_one fun v G H os o Q at_ hs k => by
  obtain ⟨a, vs, e, g, pr⟩ := h G H os o v at_ hs
  subst e
  exact ⟨a, vs, rfl, .inl (SqL.of g), fun q nq => k _ G [(q, .lst vs)] _ (Same.refl _) (at_.1.push nq) ⟨q, vs, rfl, rfl, pr⟩⟩
def rDictD : List V → Hp → VK → Prop := fun xs H Q => ∃ (a : Addr) (kvs : List (Key × V)), xs = [.ref a] ∧ Rd H a (.dK kvs) ∧ ∀ p, H p = none → Q (.ref p) (upd H p (.dK kvs))
theorem cl_dict : CallR X (.type "dict") rDictD := call_dictD
theorem va_dict {kd : Fk κ} {d : List (κ × α)} (h : RdD s (kF kd) τ d) : VA [s] (oD (kF kd) τ d) rDictD := va_one fun v G H os o Q at_ hs k => by
  obtain ⟨a, vs, e, g, pr, nd⟩ := h G H os o v at_ hs
  subst e
  exact ⟨a, vs, rfl, g, fun q nq => k _ G [(q, .dK vs)] _ (Same.refl _) (at_.1.push nq) ⟨q, vs, rfl, rfl, pr, nd⟩⟩
def rListD : List V → Hp → VK → Prop := fun xs H Q => ∃ (a : Addr) (kvs : List (Key × V)), xs = [.ref a] ∧ Rd H a (.dK kvs) ∧ ∀ p, H p = none → Q (.ref p) (upd H p (.lst (kvs.map fun kv => kV kv.1)))
theorem cl_listD (hc : X.calm = true) : CallR X (.type "list") rListD := call_listD hc
theorem kr_keys {kd : Fk κ} {τk : Ty κ} (kt : ∀ G k, τk.rep G (kV (kd.enc k)) k) {G : Hp} : ∀ {vs : List (Key × V)} {d : List (κ × α)}, Paired (KR (kF kd) τ G) vs d → Paired (τk.rep G) (vs.map fun kv => kV kv.1) (d.map Prod.fst)
  | _, _, .nil => .nil
  | _, _, .cons (a := p) (b := q) r t => .cons (by show τk.rep G (kV p.1) q.1; rw [r.1]; exact kt G _) (kr_keys kt t)
theorem va_listD {kd : Fk κ} {τk : Ty κ} {d : List (κ × α)} (h : RdD s (kF kd) τ d) (kt : ∀ G k, τk.rep G (kV (kd.enc k)) k) : VA [s] (oL τk (d.map Prod.fst)) rListD := va_one fun v G H os o Q at_ hs k => by
  obtain ⟨a, vs, e, g, pr, nd⟩ := h G H os o v at_ hs
  subst e
  exact ⟨a, vs, rfl, g, fun q nq => k _ G [(q, _)] _ (Same.refl _) (at_.1.push nq) ⟨q, _, rfl, rfl, kr_keys kt pr⟩⟩
end
end Sl

set_option Elab.async false
set_option linter.all false
set_option maxRecDepth 100000
namespace Sl
open PySem PySem.Spec PyProof.Rows L2 Dl
section
variable {X : Cx} {P : Pn} {Γ Γ0 Γ' Γ1 Γ2 Γm Γn : Ct} {m m0 m1 m2 : Option Ct} {α β γ δ κ ρ S : Type} {τ τ1 : Ty α} {τ2 : Ty β} {τ3 : Ty γ} {τ4 : Ty δ} {s s1 s2 r : Sh} {pos p apos nm : Pos} {a b c e o : Expr} {es : List Expr} {us vs : List Nat} {as : List As} {ss : List Sh} {x f : Str} {kd : Kd κ} {K : PySem.W.Frag} {xs : List α} {i : Nat} {rest : List Stmt} {R : Po}
/-! ### what changes a thing -/
theorem put_own {G H : Hp} {σ : L2.St} {os F ro : Ow} {ad : Addr} {ob : HO} (ob' : HO) {v : V} (s' : Sh) (hh : HH G (os ++ F) H) (pm : os.Perm ([(ad, ob)] ++ ro)) (nf : isDk ob = true ∨ ∀ q u, ob ≠ .frz q u)
    (back : ∀ G' s' o', Same G G' → s'.p G' o' v → ∃ os', os'.Perm (o' ++ ro) ∧ StA (Γ.set i (some s')) σ G' os') (nt : isTp ob' = false) (hs' : s'.p G [(ad, ob')] v) : ∃ os', HH G (os' ++ F) (upd H ad ob') ∧ StA (Γ.set i (some s')) σ G os' := by
  obtain ⟨os', p', q'⟩ := back G s' [(ad, ob')] (Same.refl _) hs'
  have h1 : HH G ((ad, ob) :: (ro ++ F)) H := hh.perm (List.Perm.append_right F pm)
  exact ⟨os', (h1.put (o' := ob') nf nt).perm (List.Perm.append_right F p'.symm), q'⟩
theorem nf_lst {vs : List V} : isDk (.lst vs) = true ∨ ∀ q u, HO.lst vs ≠ .frz q u := .inr fun _ _ z => nomatch z
theorem nf_dk {κ : Type} {kd : Kd κ} {vs : List (kd.KT × V)} : isDk (kd.ho vs) = true ∨ ∀ q u, kd.ho vs ≠ .frz q u := .inl (kd.isd _)
/-- what a name's slot holds -/
theorem StA.at {G : Hp} {σ : L2.St} {os : Ow} (st : StA Γ σ G os) (hi : Γ[i]? = some (some s)) : ∃ v o rest, σ[i]? = some (some v) ∧ s.p G o v ∧ os.Perm (o ++ rest) := by
  obtain ⟨v, o, ro, a1, a2, a3, _⟩ := st.take hi
  exact ⟨v, o, ro, a1, a2, a3⟩
theorem at_of {G H : Hp} {os o ro F : Ow} (hh : HH G (os ++ F) H) (pm : os.Perm (o ++ ro)) : At G H (os ++ F) o := ⟨hh, ro ++ F, by rw [← List.append_assoc]; exact List.Perm.append_right F pm⟩
/-- x.append(e) -/
theorem ej_app {y : α} (hN : X.N[i]? = some x) (hv : Vis X.env.scope x) (hi : Γ[i]? = some (some (oL τ xs))) (ha : AJ X [e] Γ m [.val (fz τ y)]) (hi2 : (out Γ m)[i]? = some (some (oL τ xs))) (hz : Sm xs.length) (hd : (x == ("__debug__" : Str)) = false := by decide) (hcd : (x == ("__classdict__" : Str)) = false := by decide)
    (hbase : attributeBase (.Name x nm) "append" X.env (eval (.Name x nm) X.env) = eval (.Name x nm) X.env := by rfl)
    (hfew : ((backTo pos (starEach [e] X.env)).all (fun x => !x.1) && (backToKw pos (keywordEach [] X.env)).all (fun x => x.1.isSome) && decide ([e].length + ([] : List Keyword).length + (if ([] : List Keyword).isEmpty then 0 else 1) < 30)) = true := by rfl)
    (hline : (apos.endLine == pos.line) = true := by rfl) (hs : starEach [e] X.env = (false, eval e X.env) :: starEach [] X.env := by rfl) (hplain : (backTo pos (starEach [] X.env)).any (·.1) = false := by rfl) :
    EJ X (.Call (.Attribute (.Name x nm) "append" apos) [e] [] pos) Γ (some ((out Γ m).set i (some (oL τ (xs ++ [y]))))) (fz tNon ()) :=
  pe_to (pe_bm PySem.F.plainAttrs_list PySem.F.slot_list_append PySem.F.type_list_append mt_append (pe_var (i := i) hN hv hd hcd) ha hbase hfew hline hs hplain) fun σ H Q ⟨G, os, F, hh, st, k⟩ => by
    obtain ⟨v, o, ro, a1, a2, a3⟩ := st.at hi
    refine go_tbm ⟨v, a1, ?_, ⟨G, os, F, hh, st, fun ws G1 o1 os1 H1 sm1 h1 af1 ⟨w, wr, o2, o3, e1, e2, ⟨e3, rw_⟩, e4, e5⟩ => ?_⟩⟩
    · obtain ⟨ad, vs, e0, eo, _⟩ := a2
      subst e0 eo
      exact .inl ⟨rfl, vs, SqL.of (at_of hh a3).own⟩
    · subst e1 e4 e2 e3 e5
      have st1 := af1.st st sm1
      obtain ⟨v2, o4, ro4, b1, ⟨ad, vs, e0, eo, pr⟩, b3, _, back⟩ := st1.take hi2
      rw [a1] at b1
      cases b1
      have hz' : vs.length < sizeLine := Sm.lt (by rw [pr_len pr]; exact hz)
      subst e0 eo
      have h1' : HH G1 (os1 ++ F) H1 := h1
      obtain ⟨os', h', st'⟩ := put_own (.lst (vs ++ [w])) (oL τ (xs ++ [y])) h1' b3 nf_lst back rfl ⟨ad, _, rfl, rfl, pr_snoc pr rw_⟩
      exact ⟨ad, vs, w, rfl, rfl, (at_of h1' b3).own, hz', k .non G1 [] os' _ sm1 h' st' ⟨rfl, rfl⟩⟩
/-- the j-th of values side by side is another one -/
theorem Shs.set {G : Hp} {s' : Sh} {w : V} (h' : s'.p G [] w) : ∀ {ss : List Sh} {o : Ow} {vs : List V} {j : Nat}, Shs ss G o vs → j < ss.length → (∀ sj, ss[j]? = some sj → ∀ G o v, sj.p G o v → o = []) → Shs (ss.set j s') G o (vs.set j w)
  | s :: ss, o, _, 0, ⟨v, vr, o1, o2, e1, e2, h1, h2⟩, _, z => by
    have := z s rfl _ _ _ h1
    subst this e1
    exact ⟨w, vr, [], o, rfl, rfl, h', by rw [show o = o2 from e2]; exact h2⟩
  | s :: ss, o, _, j + 1, ⟨v, vr, o1, o2, e1, e2, h1, h2⟩, l, z => by
    subst e1 e2
    exact ⟨v, vr.set j w, o1, o2, rfl, rfl, h1, Shs.set (j := j) h' h2 (by simpa using l) fun sj q => z sj (by simpa using q)⟩
  | [], _, _, _, _, l, _ => by simp at l
theorem go_setl {p : Addr} {vs : List V} {k : Int} {j : Nat} {v : V} {H : Hp} {R : Hp → Prop} (g : H p = some (.lst vs)) (e : ixN vs.length k = some j) (h : R (upd H p (.lst (vs.set j v)))) : rSetL (.ref p) (.int k) v H R := ⟨p, vs, k, j, rfl, rfl, g, e, h⟩
/-- x[k] = e of a list of unlike things -/
theorem sj_setO {j : Nat} {k : Int} {idx : Expr} {y : α} {tp : Pos} (hN : X.N[i]? = some x) (hv : Vis X.env.scope x) (he : EJ X e Γ m (fz τ y)) (hi : (out Γ m)[i]? = some (some (oLst ss))) (hx : EJ X idx (out Γ m) none (fz tInt k)) (hj : ixN ss.length k = some j) (hz : ∀ sj, ss[j]? = some sj → ∀ G o v, sj.p G o v → o = [])
    (hr : SJ X P rest ((out Γ m).set i (some (oLst (ss.set j (fz τ y))))) R) (hd : (x == ("__debug__" : Str)) = false := by decide) (hcd : (x == ("__classdict__" : Str)) = false := by decide)
    (hs : swapsWithSole [.Subscript (.Name x nm) idx tp] e pos.line X.env = pure false := by rfl) (hw : swappedStores [.Subscript (.Name x nm) idx tp] e X.env = pure none := by rfl) (h1 : (assignEach [.Subscript (.Name x nm) idx tp] X.env).map (·.2) = [assign (.Subscript (.Name x nm) idx tp) X.env] := by rfl)
    (hsub : ∀ v, assign (.Subscript (.Name x nm) idx tp) X.env v = (do
      let ov ← holding [v] (eval (.Name x nm) X.env)
      let iv ← holding [v, ov] (eval idx X.env)
      standAt tp
      holding [v, ov, iv] (setItem ov iv v)
      release [v, ov, iv] []) := by intro _; rfl) :
    SJ X P (.Assign [.Subscript (.Name x nm) idx tp] e pos :: rest) Γ R :=
  pss_to (pss_cons (ps_asg he (pg_sub (pe_var (i := i) hN hv hd hcd) hx set_list hsub) hs hw h1) hr) fun D σ H ⟨G, os, F, hh, st, pn, k1, k2, k3⟩ => go_seq (go_asg ⟨G, os, F, hh, st, fun w G1 o1 os1 H1 sm1 hh1 af1 ⟨eo, rw_⟩ => by
    subst eo
    have hh1 : HH G1 (os1 ++ F) H1 := hh1
    have st1 := af1.st st sm1
    obtain ⟨v2, o4, ro4, b1, b2, b3⟩ := st1.at hi
    refine go_gsub ⟨v2, b1, G1, os1, F, hh1, st1, fun iv G2 o2 os2 H2 sm2 hh2 (af2 : os2 = os1) ⟨e2, (ri : iv = .int k)⟩ => ?_⟩
    subst af2 e2 ri
    have st2 := st1.mono sm2
    obtain ⟨v3, o5, ro5, c1, ⟨ad, vs, o6, e0, eo, sh⟩, c3, _, back⟩ := st2.take hi
    rw [b1] at c1
    cases c1
    subst e0 eo
    have hh2 : HH G2 (os2 ++ F) H2 := hh2
    have hjl : j < ss.length := by
      unfold ixN at hj
      split at hj
      · split at hj
        · cases hj; omega
        · cases hj
      · split at hj
        · cases hj; omega
        · cases hj
    obtain ⟨os', p', q'⟩ := back G2 (oLst (ss.set j (fz τ y))) ((ad, .lst (vs.set j w)) :: o6) (Same.refl _) ⟨ad, vs.set j w, o6, rfl, rfl, Shs.set (s' := fz τ y) ⟨rfl, τ.mono sm2 rw_⟩ sh hjl hz⟩
    have h3 : HH G2 ((ad, .lst vs) :: (o6 ++ ro5 ++ F)) H2 := hh2.perm (List.Perm.append_right F c3)
    have h4 := (h3.put (o' := .lst (vs.set j w)) nf_lst).perm (os' := os' ++ F) (List.Perm.append_right F p'.symm)
    refine go_setl (at_of hh2 c3).own (by rw [sh.len]; exact hj) ⟨G2, os', F, h4, q', pn, fun σ3 G3 os3 H3 sm3 => k1 σ3 G3 os3 H3 ((sm1.trans sm2).trans sm3), fun v G3 o H3 sm3 => k2 v G3 o H3 ((sm1.trans sm2).trans sm3), fun σ3 G3 os3 H3 sm3 => k3 σ3 G3 os3 H3 ((sm1.trans sm2).trans sm3)⟩⟩)
/-- x[k] = e of a dict -/
theorem sj_dput [DecidableEq κ] {τk : Ty κ} [KeyTy kd τk] {d : List (κ × α)} {k : κ} {idx : Expr} {y : α} {tp : Pos} (hu : X.A.units + 1 < cLine) (hN : X.N[i]? = some x) (hv : Vis X.env.scope x) (he : EJ X e Γ m (fz τ y)) (hi : (out Γ m)[i]? = some (some (oD kd τ d))) (hx : EJ X idx (out Γ m) none (fz τk k)) (hz : Sm d.length)
    (hr : SJ X P rest ((out Γ m).set i (some (oD kd τ (aput d k y)))) R) (hd : (x == ("__debug__" : Str)) = false := by decide) (hcd : (x == ("__classdict__" : Str)) = false := by decide)
    (hs : swapsWith e (some (.Subscript (.Name x nm) idx tp)) pos.line X.env = pure false := by rfl) :
    SJ X P (.Assign [.Subscript (.Name x nm) idx tp] e pos :: rest) Γ R :=
  pss_to (pss_cons (ps_dput hu (pe_var (i := i) hN hv hd hcd) hx he hs) hr) fun D σ H ⟨G, os, F, hh, st, pn, k1, k2, k3⟩ => go_seq (go_dput ⟨G, os, F, hh, st, fun w G1 o1 os1 H1 sm1 hh1 af1 ⟨eo, rw_⟩ => by
    subst eo
    have hh1 : HH G1 (os1 ++ F) H1 := hh1
    have st1 := af1.st st sm1
    obtain ⟨v2, o4, ro4, b1, b2, b3⟩ := st1.at hi
    refine ⟨v2, b1, G1, os1, F, hh1, st1, fun iv G2 o2 os2 H2 sm2 hh2 (af2 : os2 = os1) ⟨e2, ri⟩ => ?_⟩
    subst af2 e2
    have st2 := st1.mono sm2
    obtain ⟨v3, o5, ro5, c1, ⟨ad, vs, e0, eo, pr, nd⟩, c3, _, back⟩ := st2.take hi
    rw [b1] at c1
    cases c1
    subst e0 eo
    have hh2 : HH G2 (os2 ++ F) H2 := hh2
    obtain ⟨os', h', st'⟩ := put_own (kd.ho (putK vs (kd.enc k) w)) (oD kd τ (aput d k y)) hh2 c3 nf_dk back (kd.ntp _) ⟨ad, _, rfl, rfl, kr_put k (τ.mono sm2 rw_) pr, aput_nd nd⟩
    exact ⟨ad, _, rfl, kd.dput (at_of hh2 c3).own (KeyTy.is hh2 ri) (Sm.lt (by rw [pr_len pr]; exact hz)), G2, os', F, h', st', pn, fun σ3 G3 os3 H3 sm3 => k1 σ3 G3 os3 H3 ((sm1.trans sm2).trans sm3), fun v G3 o H3 sm3 => k2 v G3 o H3 ((sm1.trans sm2).trans sm3), fun σ3 G3 os3 H3 sm3 => k3 σ3 G3 os3 H3 ((sm1.trans sm2).trans sm3)⟩⟩)
end
end Sl

set_option Elab.async false
set_option linter.all false
set_option maxRecDepth 100000
namespace Sl
open PySem PySem.Spec PyProof.Rows L2 Dl
/-! ### instances -/
/-- an instance that is data: its fields' names, what they are -/
def tOb {α : Type} (C : Addr) (ns : List Str) (sh : α → List Sh) : Ty α := ⟨fun G v x => ∃ a dx vs, v = .ref a ∧ G a = some (.ins C dx (ns.zip vs)) ∧ vs.length = ns.length ∧ Shs (sh x) G [] vs, fun s ⟨a, dx, vs, e, g, l, h⟩ => ⟨a, dx, vs, e, s _ _ g, l, h.mono s⟩⟩
/-- one that is owned -/
def oIns (C : Addr) (ns : List Str) (ss : List Sh) : Sh := ⟨fun G o v => ∃ a dx vs os', v = .ref a ∧ o = (a, .ins C dx (ns.zip vs)) :: os' ∧ vs.length = ns.length ∧ Shs ss G os' vs, fun s ⟨a, dx, vs, os', e1, e2, l, h⟩ => ⟨a, dx, vs, os', e1, e2, l, h.mono s⟩, fun ⟨a, dx, vs, os', e1, e2, l, h⟩ c hc => by
  subst e2
  rcases List.mem_cons.mp hc with rfl | hc
  · rfl
  · exact h.nf c hc⟩
/-- the place of a name -/
def ixOf (f : Str) : List Str → Option Nat
  | [] => none
  | g :: r => if g = f then some 0 else (ixOf f r).map (· + 1)
theorem zip_lookup {f : Str} : ∀ {ns : List Str} {vs : List V} {j : Nat}, ixOf f ns = some j → vs.length = ns.length → (ns.zip vs).lookup f = vs[j]?
  | [], _, _, h, _ => by cases h
  | g :: r, v :: vs, j, h, l => by
    unfold ixOf at h
    by_cases e : g = f
    · subst e
      rw [if_pos rfl] at h
      cases h
      simp
    · rw [if_neg e] at h
      obtain ⟨j', h1, h2⟩ := Option.map_eq_some_iff.mp h
      subst h2
      have : (f == g) = false := by simpa using fun z => e z.symm
      simp only [List.zip_cons_cons, List.lookup_cons, this]
      rw [zip_lookup h1 (by simpa using l)]
      simp
  | _ :: _, [], _, _, l => by simp at l
theorem zip_lookup_none {f : Str} : ∀ {ns : List Str} {vs : List V}, ixOf f ns = none → (ns.zip vs).lookup f = none
  | [], _, _ => rfl
  | g :: r, [], _ => rfl
  | g :: r, v :: vs, h => by
    unfold ixOf at h
    by_cases e : g = f
    · subst e
      rw [if_pos rfl] at h
      cases h
    · rw [if_neg e] at h
      have h1 : ixOf f r = none := by
        cases q : ixOf f r with
        | none => rfl
        | some j => rw [q] at h; cases h
      have : (f == g) = false := by simpa using fun z => e z.symm
      simp only [List.zip_cons_cons, List.lookup_cons, this]
      exact zip_lookup_none h1
theorem zip_put_new {f : Str} {w : V} : ∀ {ns : List Str} {vs : List V}, ixOf f ns = none → vs.length = ns.length → putF f w (ns.zip vs) = (ns ++ [f]).zip (vs ++ [w])
  | [], [], _, _ => rfl
  | g :: r, v :: vs, h, l => by
    unfold ixOf at h
    by_cases e : g = f
    · subst e
      rw [if_pos rfl] at h
      cases h
    · rw [if_neg e] at h
      have h1 : ixOf f r = none := by
        cases q : ixOf f r with
        | none => rfl
        | some j => rw [q] at h; cases h
      show (if g = f then (g, w) :: r.zip vs else (g, v) :: putF f w (r.zip vs)) = _
      rw [if_neg e, zip_put_new h1 (by simpa using l)]
      rfl
  | [], _ :: _, _, l => by simp at l
  | _ :: _, [], _, l => by simp at l
theorem zip_put_old {f : Str} {w : V} : ∀ {ns : List Str} {vs : List V} {j : Nat}, ixOf f ns = some j → vs.length = ns.length → putF f w (ns.zip vs) = ns.zip (vs.set j w)
  | [], _, _, h, _ => by cases h
  | g :: r, v :: vs, j, h, l => by
    unfold ixOf at h
    by_cases e : g = f
    · subst e
      rw [if_pos rfl] at h
      cases h
      show (if g = g then _ else _) = _
      rw [if_pos rfl]
      rfl
    · rw [if_neg e] at h
      obtain ⟨j', h1, h2⟩ := Option.map_eq_some_iff.mp h
      subst h2
      show (if g = f then (g, w) :: r.zip vs else (g, v) :: putF f w (r.zip vs)) = _
      rw [if_neg e, zip_put_old h1 (by simpa using l)]
      rfl
  | _ :: _, [], _, _, l => by simp at l
/-- what may be read as an instance -/
def RdI (s : Sh) (C : Addr) (ns : List Str) (ss : List Sh) : Prop := ∀ G H os o v, At G H os o → s.p G o v → ∃ a dx vs o', v = .ref a ∧ H a = some (.ins C dx (ns.zip vs)) ∧ vs.length = ns.length ∧ Shs ss G o' vs
section
variable {X : Cx} {P : Pn} {Γ Γ0 Γ' Γ1 Γ2 Γm Γn : Ct} {m m0 m1 m2 : Option Ct} {α β γ δ κ ρ S : Type} {τ τ1 : Ty α} {τ2 : Ty β} {τ3 : Ty γ} {τ4 : Ty δ} {s s1 s2 r : Sh} {pos p apos nm : Pos} {a b c e o : Expr} {es : List Expr} {us vs : List Nat} {as : List As} {ss : List Sh} {x f : Str} {kd : Kd κ} {K : PySem.W.Frag} {xs : List α} {i j : Nat} {rest : List Stmt} {R : Po} {C : Addr} {ns : List Str} {CX : CXT} {k : Nat} {ps : List Str} {E : XK} {Φ : Phi} {L : List (Nat × Sh)}
theorem rdi_o : RdI (oIns C ns ss) C ns ss := fun G H os o v h ⟨a, dx, vs, o', e, eo, l, r⟩ => ⟨a, dx, vs, o', e, by subst eo; exact h.own, l, r⟩
theorem rdi_f {sh : β → List Sh} {y : β} : RdI (fz (tOb C ns sh) y) C ns (sh y) := fun G H os o v ⟨hh, _⟩ ⟨_, a, dx, vs, e, g, l, r⟩ => ⟨a, dx, vs, [], e, hh.ins g, l, r⟩
theorem fld_core {y : α} {G H : Hp} {os ow : Ow} {v : V} {Q : VK} (h : RdI s C ns ss) (hc : Cls K C) (hn : NoAttr K C f) (hj : ixOf f ns = some j) (hy : ss[j]? = some (fz τ y)) (at_ : At G H os ow) (hs : s.p G ow v) (k : Out (fz τ y) G os Q) :
    ∃ a C dx fs u, v = .ref a ∧ H a = some (.ins C dx fs) ∧ Cls K C ∧ NoAttr K C f ∧ fs.lookup f = some u ∧ Q u H := by
  obtain ⟨a, dx, vs, o', e, g, l, sh⟩ := h G H os ow v at_ hs
  obtain ⟨u, o2, hu, _, ru⟩ := sh.at hy
  exact ⟨a, C, dx, _, u, e, g, hc, hn, by rw [zip_lookup hj l]; exact hu, k.fz at_.1 ru⟩
/-- o.f -/
theorem ej_fld {sh : β → List Sh} {d : β} {y : α} (ho : EJ X o Γ m (fz (tOb C ns sh) d)) (hc : Cls X.K C) (hn : NoAttr X.K C f) (hj : ixOf f ns = some j) (hy : (sh d)[j]? = some (fz τ y)) (hb : attributeBase o f X.env (eval o X.env) = eval o X.env := by rfl) : EJ X (.Attribute o f pos) Γ m (fz τ y) :=
  pe_to (pe_fld ho hb) fun σ H Q ⟨G, os, F, hh, st, k⟩ => tT.one ⟨G, os, F, hh, st, fun v G' os' H' sm h' af rv => fld_core (ow := []) rdi_f hc hn hj hy ⟨h', _, .refl _⟩ ⟨rfl, rv⟩ fun u G2 o2 H2 s2 h2 p2 => k u G2 o2 os' H2 (sm.trans s2) h2 (af.mono s2) p2⟩
theorem ej_fldP {y : α} (ho : PJ X o Γ s) (h : RdI s C ns ss) (hc : Cls X.K C) (hn : NoAttr X.K C f) (hj : ixOf f ns = some j) (hy : ss[j]? = some (fz τ y)) (hb : attributeBase o f X.env (eval o X.env) = eval o X.env := by rfl) : EJ X (.Attribute o f pos) Γ none (fz τ y) :=
  pe_to (pe_fld ho hb) fun σ H Q ⟨G, os, F, hh, st, k⟩ => ⟨G, os, F, hh, st, fun v o rest pm hs => fld_core h hc hn hj hy ⟨hh, rest ++ F, by rw [← List.append_assoc]; exact List.Perm.append_right F pm⟩ hs fun u G2 o2 H2 s2 h2 p2 => k u G2 o2 os H2 s2 h2 rfl p2⟩
/-- x.f = e: a new field, an old one -/
theorem sj_fldnew (hN : X.N[i]? = some x) (hv : Vis X.env.scope x) (he : EJ X e Γ m s) (hi : (out Γ m)[i]? = some (some (oIns C ns ss))) (hc : Cls X.K C) (hn : NoAttr X.K C f) (hf : ixOf f ns = none) (hlen : (decide (ns.length < 1000)) = true)
    (hr : SJ X P rest ((out Γ m).set i (some (oIns C (ns ++ [f]) (ss ++ [s])))) R) (hd : (x == ("__debug__" : Str)) = false := by decide) (hcd : (x == ("__classdict__" : Str)) = false := by decide) (hs : swapsWith e (some (.Attribute (.Name x nm) f p)) pos.line X.env = pure false := by rfl) :
    SJ X P (.Assign [.Attribute (.Name x nm) f p] e pos :: rest) Γ R :=
  pss_to (pss_cons (ps_fld (pe_var (i := i) hN hv hd hcd) he hs) hr) fun D σ H ⟨G, os, F, hh, st, pn, k1, k2, k3⟩ => go_seq ⟨G, os, F, hh, st, fun w G1 o1 os1 H1 sm1 hh1 af1 pw => by
    have st1 := af1.st st sm1
    obtain ⟨v2, o4, ro4, b1, ⟨ad, dx, vs, o6, e0, eo, l, sh⟩, b3, _, back⟩ := st1.take hi
    subst e0 eo
    have hh1' : HH G1 ((ad, .ins C dx (ns.zip vs)) :: (o6 ++ ro4 ++ (o1 ++ F))) H1 := hh1.perm ((perm_mid o1 os1 F).trans (List.Perm.append_right (o1 ++ F) b3))
    have hput := hh1'.put (o' := .ins C dx ((ns ++ [f]).zip (vs ++ [w]))) (.inr fun _ _ z => nomatch z)
    have snoc : ∀ {ss : List Sh} {oo : Ow} {vs : List V}, Shs ss G1 oo vs → Shs (ss ++ [s]) G1 (oo ++ o1) (vs ++ [w]) := by
      intro ss
      induction ss with
      | nil => intro oo vs ⟨q1, q2⟩; subst q1 q2; exact ⟨w, [], o1, [], rfl, by rw [List.append_nil]; rfl, pw, rfl, rfl⟩
      | cons t ts ih => intro oo vs ⟨v, vr, q1, q2, q3, q4, q5, q6⟩; subst q3 q4; exact ⟨v, vr ++ [w], q1, q2 ++ o1, rfl, by rw [List.append_assoc], q5, ih q6⟩
    obtain ⟨os', p', q'⟩ := back G1 (oIns C (ns ++ [f]) (ss ++ [s])) ((ad, .ins C dx ((ns ++ [f]).zip (vs ++ [w]))) :: (o6 ++ o1)) (Same.refl _) ⟨ad, dx, vs ++ [w], o6 ++ o1, rfl, rfl, by simp [l], snoc sh⟩
    refine ⟨.ref ad, b1, ad, C, dx, ns.zip vs, rfl, hh1'.get, hc, hn, ?_, G1, os', F, ?_, q', pn, fun σ3 G3 os3 H3 sm3 => k1 σ3 G3 os3 H3 (sm1.trans sm3), fun v G3 o H3 sm3 => k2 v G3 o H3 (sm1.trans sm3), fun σ3 G3 os3 H3 sm3 => k3 σ3 G3 os3 H3 (sm1.trans sm3)⟩
    · rw [List.length_zip, l, Nat.min_self]
      exact of_decide_eq_true hlen
    · rw [zip_put_new hf l]
      refine hput.perm ?_
      refine List.Perm.trans ?_ (List.Perm.append_right F p'.symm)
      refine (List.Perm.cons _ ?_)
      show (o6 ++ ro4 ++ (o1 ++ F)).Perm (o6 ++ o1 ++ ro4 ++ F)
      rw [List.append_assoc, List.append_assoc, List.append_assoc]
      exact List.Perm.append_left o6 (perm_mid ro4 o1 F)⟩
/-- C(..): a new instance -/
theorem ej_make {n : Nat} {fi : Addr} {fd : FuncData} (M : Mk X.K C fi) (Fn : FnG X.prog X.w X.K X.mg X.base CX k fi fd ps (spS n Φ)) (hb : Binds X.K fd ps []) (hr : RoomG (k + 1) X.A) (hg : Gl X x) (hm : X.mg x = some (.ref C)) (hx : Passes CX X E) (ha : AJ X (e :: es) Γ m (ss.map As.val))
    (hΦ : Φ (oIns C [] [] :: ss) (fz tNon ()) [(0, s)]) (hn : ss.length + 1 = n := by rfl) (hdb : (x == ("__debug__" : Str)) = false := by decide) (he : starEach (e :: es) X.env = (false, eval e X.env) :: starEach es X.env := by rfl) (hpl : (backTo pos (starEach es X.env)).any (·.1) = false := by rfl) :
    EJ X (.Call (.Name x p) (e :: es) [] pos) Γ m s :=
  pe_to (pe_makeG M Fn hr hg hm hb hx ha hdb he hpl) fun σ H Q ⟨G, os, F, hh, st, k⟩ => ⟨G, os, F, hh, st, fun vs G1 o1 os1 H1 sm1 h1 af1 ap1 => fun z dx nz ndx ne => by
    have g1 := h1.sameG (o := .own z) ndx
    have h2 := h1.alloc (o := .own z) ndx
    have nz2 : upd H1 dx (.own z) z = none := by rw [upd_ne (fun q => ne q.symm)]; exact nz
    have h3 := h2.push (o := .ins C dx []) nz2
    have sh := (asp_vals ap1).mono g1
    refine ⟨_, (z, .ins C dx []) :: o1, os1 ++ F, oIns C [] [] :: ss, _, _, by simp [sh.len, ← hn], h3, ⟨.ref z, vs, [(z, .ins C dx [])], o1, by simp, rfl, ⟨z, dx, [], [], rfl, rfl, rfl, rfl, rfl⟩, sh⟩, hΦ, fun v G' o' ow' H' sm h' ⟨eo, (rv : v = .non)⟩ lt => ⟨rv, ?_⟩⟩
    subst eo
    obtain ⟨v', q1, q2, e1, e2, p2, (e3 : q2 = [])⟩ := lt
    have e1 : some (V.ref z) = some v' := e1
    cases e1
    subst e2 e3
    exact k (.ref z) G' q1 os1 H' ((sm1.trans g1).trans sm) (h'.perm (by rw [List.append_nil]; exact .refl _)) ((af1.mono g1).mono sm) p2⟩
/-- x.m(..) of an instance that is data -/
theorem ej_methF {n : Nat} {fi : Addr} {fd : FuncData} {sh : β → List Sh} {d : β} {pl : Sem Bool} (ho : EJ X o Γ m1 (fz (tOb C ns sh) d)) (hc : Cls X.K C) (hm : Meth X.K C f fi) (Fn : FnG X.prog X.w X.K X.mg X.base CX k fi fd ps (spS n Φ)) (hr : RoomG k X.A) (hb : Binds X.K fd ps []) (hx : Passes CX X E) (hf : ixOf f ns = none)
    (ha : AJ X (e :: es) (out Γ m1) m2 (ss.map As.val)) (hΦ : Φ (fz (tOb C ns sh) d :: ss) r []) (hn : ss.length + 1 = n := by rfl) (hst : starEach (e :: es) X.env = (false, eval e X.env) :: starEach es X.env := by rfl) (hpl : (backTo pos (starEach es X.env)).any (·.1) = false := by rfl)
    (ht : eval (.Call (.Attribute o f apos) (e :: es) [] pos) X.env = (do
      let ov ← eval o X.env
      standAt apos.atName
      let (f, first) ← holding [ov] (getMethod ov f pl)
      callWith pos f first (backTo pos (starEach (e :: es) X.env)) (backToKw pos (keywordEach [] X.env))) := by rfl) : EJ X (.Call (.Attribute o f apos) (e :: es) [] pos) Γ (cmb m1 m2) r :=
  pe_to (pe_methG (pl := pl) ho hc hm Fn hr hb hx ha hst hpl ht) fun σ H Q ⟨G, os, F, hh, st, k⟩ => tT.one ⟨G, os, F, hh, st, fun v G1 os1 H1 sm1 h1 af1 rv => by
    obtain ⟨a, dx, vs, e0, g, l, sh'⟩ := id rv
    subst e0
    refine ⟨a, dx, _, rfl, h1.ins g, zip_lookup_none hf, G1, os1, F, h1, af1.st st sm1, fun ws G2 o2 os2 H2 sm2 h2 af2 ap2 => ?_⟩
    refine ⟨G2, o2, os2 ++ F, fz (tOb C ns sh) d :: ss, _, _, by simp [(asp_vals ap2).len, ← hn], h2, ⟨.ref a, ws, [], o2, by simp, rfl, ⟨rfl, (tOb C ns sh).mono sm2 rv⟩, asp_vals ap2⟩, hΦ, fun v G' o' ow' H' sm h' pr (lt : ow' = []) => ?_⟩
    subst lt
    exact k v G' o' os2 H' ((sm1.trans sm2).trans sm) h' ((af1.trans sm2 af2).mono sm) pr⟩
theorem ej_methF0 {n : Nat} {fi : Addr} {fd : FuncData} {sh : β → List Sh} {d : β} {pl : Sem Bool} (ho : EJ X o Γ m1 (fz (tOb C ns sh) d)) (hc : Cls X.K C) (hm : Meth X.K C f fi) (Fn : FnG X.prog X.w X.K X.mg X.base CX k fi fd ps (spS n Φ)) (hr : RoomG k X.A) (hb : Binds X.K fd ps []) (hx : Passes CX X E) (hf : ixOf f ns = none)
    (hΦ : Φ [fz (tOb C ns sh) d] r []) (hn : 1 = n := by rfl)
    (ht : eval (.Call (.Attribute o f apos) [] [] pos) X.env = (do
      let ov ← eval o X.env
      standAt apos.atName
      let (f, first) ← holding [ov] (getMethod ov f pl)
      callWith pos f first (backTo pos (starEach [] X.env)) (backToKw pos (keywordEach [] X.env))) := by rfl) : EJ X (.Call (.Attribute o f apos) [] [] pos) Γ m1 r :=
  pe_to (pe_methG0 (pl := pl) ho hc hm Fn hr hb hx ht) fun σ H Q ⟨G, os, F, hh, st, k⟩ => tT.one ⟨G, os, F, hh, st, fun v G1 os1 H1 sm1 h1 af1 rv => by
    obtain ⟨a, dx, vs, e0, g, l, sh'⟩ := id rv
    subst e0
    refine ⟨a, dx, _, rfl, h1.ins g, zip_lookup_none hf, ?_⟩
    refine ⟨G1, [], os1 ++ F, [fz (tOb C ns sh) d], _, _, by simp [← hn], h1, ⟨.ref a, [], [], [], rfl, rfl, ⟨rfl, rv⟩, rfl, rfl⟩, hΦ, fun v G' o' ow' H' sm h' pr (lt : ow' = []) => ?_⟩
    subst lt
    exact k v G' o' os1 H' (sm1.trans sm) h' (af1.mono sm) pr⟩
theorem fz_ins {sh : β → List Sh} {y : β} (f : Fzs ss (sh y)) : Fz (oIns C ns ss) (fz (tOb C ns sh) y) := fun G H o F v ⟨a, dx, vs, os', e1, e2, l, hs⟩ hh => by
  subst e1 e2
  have hh2 : HH G (os' ++ ((a, HO.ins C dx (ns.zip vs)) :: F)) H := hh.perm (by rw [List.cons_append]; exact List.perm_middle.symm)
  obtain ⟨G1, s1, hh1, r1⟩ := f.run hs hh2
  have gn := hh1.gnone (.inr fun _ _ z => nomatch z)
  exact ⟨_, s1.trans (same_upd gn), hh1.give (.inr fun _ _ z => nomatch z), rfl, a, dx, vs, rfl, upd_same, l, r1.mono (same_upd gn)⟩
/-! ### values that hang on a test -/
theorem ej_ifx {t : Bool} {c : Expr} (hc : TJ X c Γ none t) (ha : t = true → EJ X a Γ m s) (hb : t = false → EJ X b Γ m s) : EJ X (.IfExp c a b pos) Γ m s := by
  cases t with
  | true =>
    refine ⟨fun pins s0 σ H Q I h => ?_⟩
    refine wpAny_IfExp (thn (hc.run pins s0 σ H (fun c H1 => c = true ∧ tT Γ m s σ H1 Q) I ?_) fun d s9 ⟨H1, I1, e1, q1⟩ => ?_)
    · obtain ⟨G, os, F, hh, st, k⟩ := h
      exact ⟨G, os, F, hh, st, fun G' os' H' sm h' (af : os' = os) => ⟨rfl, G', os', F, h', by subst af; exact st.mono sm, fun v G2 o2 os2 H2 s2 h2 a2 p2 => k v G2 o2 os2 H2 (sm.trans s2) h2 (by subst af; exact a2) p2⟩⟩
    · subst e1
      exact (ha rfl).run pins s9 σ H1 Q I1 q1
  | false =>
    refine ⟨fun pins s0 σ H Q I h => ?_⟩
    refine wpAny_IfExp (thn (hc.run pins s0 σ H (fun c H1 => c = false ∧ tT Γ m s σ H1 Q) I ?_) fun d s9 ⟨H1, I1, e1, q1⟩ => ?_)
    · obtain ⟨G, os, F, hh, st, k⟩ := h
      exact ⟨G, os, F, hh, st, fun G' os' H' sm h' (af : os' = os) => ⟨rfl, G', os', F, h', by subst af; exact st.mono sm, fun v G2 o2 os2 H2 s2 h2 a2 p2 => k v G2 o2 os2 H2 (sm.trans s2) h2 (by subst af; exact a2) p2⟩⟩
    · subst e1
      exact (hb rfl).run pins s9 σ H1 Q I1 q1
theorem ej_and {ta t : Bool} (ha : EJ X a Γ none (fz tBool ta)) (hb : ta = true → EJ X (.BoolOp .And (b :: es) pos) Γ none (fz tBool t)) (hf : ta = false → t = false) : EJ X (.BoolOp .And (a :: b :: es) pos) Γ none (fz tBool t) := by
  cases ta with
  | true => exact pe_to (pe_and ha (hb rfl)) fun σ H Q ⟨G, os, F, hh, st, k⟩ => go_andv (tT.one ⟨G, os, F, hh, st, fun v G' os' H' sm h' (af : os' = os) (rv : v = .bl true) => ⟨true, rv, G', os', F, h', by subst af; exact st.mono sm, fun v G2 o2 os2 H2 s2 h2 a2 p2 => k v G2 o2 os2 H2 (sm.trans s2) h2 (by subst af; exact a2) p2⟩⟩)
  | false =>
    have e := hf rfl
    subst e
    refine ⟨fun pins s σ H Q I h => ?_⟩
    refine BoolOp_and (thn (ha.run pins s σ H (fun v H1 => v = .bl false ∧ Q (.bl false) H1) I ?_) fun v s1 ⟨x, H1, I1, r1, e1, q1⟩ => ?_)
    · obtain ⟨G, os, F, hh, st, k⟩ := h
      exact ⟨G, os, F, hh, st, fun v G' o' os' H' sm h' af ⟨eo, (rv : v = .bl false)⟩ => ⟨rv, k _ G' [] os' H' sm (by subst eo; exact h') af ⟨rfl, rfl⟩⟩⟩
    · subst e1
      cases r1
      refine wpAny_truthy_bool ?_
      exact ⟨.bl false, H1, I1, rfl, q1⟩
theorem ej_or {ta t : Bool} (ha : EJ X a Γ none (fz tBool ta)) (hb : ta = false → EJ X (.BoolOp .Or (b :: es) pos) Γ none (fz tBool t)) (hf : ta = true → t = true) : EJ X (.BoolOp .Or (a :: b :: es) pos) Γ none (fz tBool t) := by
  cases ta with
  | false => exact pe_to (pe_or ha (hb rfl)) fun σ H Q ⟨G, os, F, hh, st, k⟩ => go_orv (tT.one ⟨G, os, F, hh, st, fun v G' os' H' sm h' (af : os' = os) (rv : v = .bl false) => ⟨false, rv, G', os', F, h', by subst af; exact st.mono sm, fun v G2 o2 os2 H2 s2 h2 a2 p2 => k v G2 o2 os2 H2 (sm.trans s2) h2 (by subst af; exact a2) p2⟩⟩)
  | true =>
    have e := hf rfl
    subst e
    refine ⟨fun pins s σ H Q I h => ?_⟩
    refine BoolOp_or (thn (ha.run pins s σ H (fun v H1 => v = .bl true ∧ Q (.bl true) H1) I ?_) fun v s1 ⟨x, H1, I1, r1, e1, q1⟩ => ?_)
    · obtain ⟨G, os, F, hh, st, k⟩ := h
      exact ⟨G, os, F, hh, st, fun v G' o' os' H' sm h' af ⟨eo, (rv : v = .bl true)⟩ => ⟨rv, k _ G' [] os' H' sm (by subst eo; exact h') af ⟨rfl, rfl⟩⟩⟩
    · subst e1
      cases r1
      refine wpAny_truthy_bool ?_
      exact ⟨.bl true, H1, I1, rfl, q1⟩
end
end Sl

set_option Elab.async false
set_option linter.all false
set_option maxRecDepth 100000
namespace Sl
open PySem PySem.Spec PyProof.Rows L2 Dl
section
variable {X : Cx} {P : Pn} {Γ Γ' Γ1 Γ2 Γm Γn : Ct} {m m0 m1 m2 : Option Ct} {α β γ δ κ ρ S : Type} {τ τ1 : Ty α} {τ2 : Ty β} {τ3 : Ty γ} {s s1 s2 : Sh} {pos p : Pos} {a b e elt tg iter kx vx : Expr} {es ifs : List Expr} {us vs : List Nat} {kd : Kd κ} {τk : Ty κ} {rest : List Stmt} {R : Po} {x y : Str} {i : Nat} {xs : List α}
/-! ### {k: v for x in xs} that changes nothing -/
theorem dcP_run [DecidableEq κ] {kd : Fk κ} [FkTy kd τk] {items : List β} {sh : β → Sh} {f : β → Option (κ × γ)} {d : List (κ × γ)} {Γy : β → Ct} {σ : L2.St} {Q : VK} {G1 : Hp} {os1 F : Ow} {H1 : Hp} {J : It} (vs : List Nat) (h : dicC f [] items = some d) (hsm : Sm items.length) (hz : Zs vs Γ1)
    (st0 : StA Γ1 σ G1 os1) (h1 : HH G1 (os1 ++ F) H1) (wk : WkF F J G1 items sh) (k : ∀ v G' o H', Same G1 G' → HH G' (o ++ (os1 ++ F)) H' → (oD (kF kd) τ3 d).p G' o v → Q v H') :
    ∀ A, H1 A = none → ∃ W : Nat → Nat → Hp → Prop, (∃ m, W 0 m (upd H1 A (.dK []))) ∧ ∀ i m H, W i m H →
      (J.stop i H ∧ Q (.ref A) H) ∨ (J.go i H ∧ ∃ Nx : Hp → Prop, (∀ H', Nx H' → ∃ m', m' < m ∧ W (i + 1) m' H') ∧ ∀ x H', J.yld i H x H' → (∃ t, (∃ y, t = tG0 vs (nones vs Γ1) (Γy y) (sh y)) ∧ t x (wipe σ vs) H' fun σ2 H2 => wipe σ2 vs = wipe σ vs ∧
        tYes σ2 H2 fun b H3 => if b = true then (∃ t, (∃ y k z, y ∈ items ∧ f y = some (k, z) ∧ t = tT (Γy y) none (fz τk k)) ∧ t σ2 H3 fun ky H4 => (∃ t, (∃ y k z, y ∈ items ∧ f y = some (k, z) ∧ t = tT (Γy y) none (fz τ3 z)) ∧ t σ2 H4 fun zv H5 => ∃ kvs k, ky = kV k ∧ H5 A = some (.dK kvs) ∧ kvs.length < sizeLine ∧ Nx (upd H5 A (.dK (putK kvs k zv))))) else Nx H3)) := by
  intro A nA
  have st1 := st0.wipes vs hz
  refine ⟨fun i mm H => mm = items.length - i ∧ i ≤ items.length ∧ ∃ ws acc G', Same G1 G' ∧ HH G' ((A, .dK ws) :: (os1 ++ F)) H ∧ Paired (KR (kF kd) τ3 G') ws acc ∧ (acc.map Prod.fst).Nodup ∧ acc.length ≤ i ∧ dicC f acc (items.drop i) = some d, ⟨_, rfl, Nat.zero_le _, [], [], G1, Same.refl _, h1.push nA, .nil, List.nodup_nil, Nat.le_refl _, h⟩, ?_⟩
  rintro i mm H2 ⟨rfl, hle, ws, acc, G2, sm2, h2, pr, nd, hal, hf⟩
  obtain ⟨wst, wi⟩ := wk G2 _ H2 sm2 h2 in_fr
  by_cases hlt : i < items.length
  · obtain ⟨y, hy, hd⟩ := drop_get hlt
    rw [hd] at hf
    obtain ⟨⟨ky, z⟩, ho, hf1⟩ := Option.bind_eq_some_iff.mp (show (f y).bind _ = some d from hf)
    obtain ⟨go, yl⟩ := wi i y hy
    have hm := List.mem_of_getElem? hy
    refine .inr ⟨go, fun H => ∃ ws acc G', Same G1 G' ∧ HH G' ((A, .dK ws) :: (os1 ++ F)) H ∧ Paired (KR (kF kd) τ3 G') ws acc ∧ (acc.map Prod.fst).Nodup ∧ acc.length ≤ i + 1 ∧ dicC f acc (items.drop (i + 1)) = some d, fun H' q => ⟨items.length - (i + 1), by omega, rfl, hlt, q⟩, fun x H3 y3 => ?_⟩
    obtain ⟨G3, sm3, h3, py⟩ := yl x H3 y3
    refine ⟨_, ⟨y, rfl⟩, G3, os1, (A, .dK ws) :: F, h3.perm (perm_in _ _ _), st1.mono (sm2.trans sm3), py, fun σ4 w4 st4 => ⟨by rw [w4, wipe_idem], go_yes ?_⟩⟩
    refine go_iteT ⟨_, ⟨y, ky, z, hm, ho, rfl⟩, G3, os1, (A, .dK ws) :: F, h3.perm (perm_in _ _ _), st4, fun v G5 o5 os5 H5 sm5 h5 (e5 : os5 = os1) ⟨eo, rk⟩ => ?_⟩
    subst e5 eo
    have ek := FkTy.is G5 v ky rk
    subst ek
    refine ⟨_, ⟨y, ky, z, hm, ho, rfl⟩, G5, os5, (A, .dK ws) :: F, h5, st4.mono sm5, fun v G6 o6 os6 H6 sm6 h6 (e6 : os6 = os5) ⟨eo, rv⟩ => ?_⟩
    subst e6 eo
    have h6' : HH G6 ((A, .dK ws) :: (os6 ++ F)) H6 := h6.perm (perm_in _ _ _).symm
    have e7 : ws.length = acc.length := pr_len pr
    refine ⟨ws, kd.enc ky, rfl, h6'.get, Sm.lt (Nat.le_trans (by omega) hsm), putK ws (kd.enc ky) v, aput acc ky z, G6, ((sm2.trans sm3).trans sm5).trans sm6, h6'.put (.inl rfl), kr_put (kd := kF kd) ky rv (kr_mono ((sm3.trans sm5).trans sm6) pr), aput_nd nd, ?_, hf1⟩
    have := aput_len (d := acc) (k := ky) (v := z)
    omega
  · have e : i = items.length := by omega
    subst e
    rw [List.drop_length] at hf
    have ezr : acc = d := Option.some.inj hf
    subst ezr
    exact .inl ⟨wst, k (.ref A) G2 [(A, .dK ws)] H2 sm2 h2 ⟨A, ws, rfl, rfl, pr, nd⟩⟩
theorem ej_dcP [DecidableEq κ] {kd : Fk κ} [FkTy kd τk] {scope : Scope} {own : List (Str × Nat)} {items : List β} {sh : β → Sh} {f : β → Option (κ × γ)} {d : List (κ × γ)} {Γy : β → Ct}
    (hg : ∀ (s : Shared) (H : Hp) (C : Addr) (cl : List (Str × Addr)) (fp : List Addr) y, GJ0 (Bk X s H scope C cl fp) tg (own.map (·.2)) (nones (own.map (·.2)) (out Γ m0)) (Γy y) (sh y))
    (hk : ∀ (s : Shared) (H : Hp) (C : Addr) (cl : List (Str × Addr)) (fp : List Addr) y k z, y ∈ items → f y = some (k, z) → EJ (Bk X s H scope C cl fp) kx (Γy y) none (fz τk k))
    (he : ∀ (s : Shared) (H : Hp) (C : Addr) (cl : List (Str × Addr)) (fp : List Addr) y k z, y ∈ items → f y = some (k, z) → EJ (Bk X s H scope C cl fp) vx (Γy y) none (fz τ3 z))
    (h : dicC f [] items = some d) (hsm : Sm items.length) (hc : X.calm = true) (hN : X.N.Nodup) (hi : IJ X tg iter Γ m0 items sh) (ok : BlkOk X.N X.env.scope scope own) (hz : Zs (own.map (·.2)) (out Γ m0))
    (hs : ∀ x, foldedSetIterable iter X.env x = pure x := by intro _; rfl) : EJ X (.DictComp kx vx [⟨tg, iter, [], 0⟩] scope pos) Γ m0 (oD (kF kd) τ3 d) :=
  pe_to (pe_dc hc hN hi ok (g := fun v σ H Q => ∃ t, (∃ y, t = tG0 (own.map (·.2)) (nones (own.map (·.2)) (out Γ m0)) (Γy y) (sh y)) ∧ t v σ H Q) (tt := tYes) (tk := fun σ H Q => ∃ t, (∃ y k z, y ∈ items ∧ f y = some (k, z) ∧ t = tT (Γy y) none (fz τk k)) ∧ t σ H Q) (tv := fun σ H Q => ∃ t, (∃ y k z, y ∈ items ∧ f y = some (k, z) ∧ t = tT (Γy y) none (fz τ3 z)) ∧ t σ H Q)
    (fun s H C cl fp => pg_ex fun t ⟨y, e⟩ => by subst e; exact hg s H C cl fp y) (fun _ _ _ _ _ => pts_nil)
    (fun s H C cl fp => pe_ex fun t ⟨y, k, z, hm, hf, e⟩ => by subst e; exact hk s H C cl fp y k z hm hf)
    (fun s H C cl fp => pe_ex fun t ⟨y, k, z, hm, hf, e⟩ => by subst e; exact he s H C cl fp y k z hm hf) hs) fun σ H Q ⟨G, os, F, hh, st, k⟩ => ⟨G, os, F, hh, st, fun J G1 os1 H1 sm1 h1 af wk =>
    dcP_run (own.map fun x : Str × Nat => x.2) h hsm hz (af.st st sm1) h1 wk.toF fun v G' o H' sm h' p => k v G' o os1 H' (sm1.trans sm) h' (af.mono sm) p⟩
/-! ### a def's promise by its body -/
theorem StA.nones : ∀ (n : Nat) (G : Hp), StA (List.replicate n none) (List.replicate n none) G []
  | 0, _ => ⟨rfl, rfl⟩
  | n + 1, G => StA.nones n G
theorem StA.start {G : Hp} {n : Nat} : ∀ {ss : List Sh} {o : Ow} {vs : List V}, Shs ss G o vs → StA (ss.map some ++ List.replicate n none) (vs.map some ++ List.replicate n none) G o
  | [], _, _, ⟨e1, e2⟩ => by subst e1 e2; exact StA.nones n G
  | s :: ss, _, _, ⟨v, vr, o1, o2, e1, e2, h1, h2⟩ => by subst e1; exact ⟨v, o1, o2, rfl, e2, h1, StA.start h2⟩
theorem lent_of : ∀ {L : List (Nat × Sh)} {P : Pn} {vs : List V} {G : Hp} {o : Ow}, P.map Prod.fst = L.map Prod.fst → (∀ p ∈ P, vs[p.1]? = some p.2) → Shs (L.map Prod.snd) G o (P.map Prod.snd) → Lent L vs G o
  | [], [], _, _, _, _, _, h => h.2
  | l :: L, p :: P, vs, G, o, e, hP, ⟨v, vr, o1, o2, e1, e2, h1, h2⟩ => by
    obtain ⟨a1, a2⟩ := List.cons.inj e
    obtain ⟨b1, b2⟩ := List.cons.inj e1
    refine ⟨v, o1, o2, ?_, e2, h1, lent_of a2 (fun q hq => hP q (List.mem_cons_of_mem _ hq)) (by rw [b2]; exact h2)⟩
    rw [← a1, ← b1]
    exact hP p (List.mem_cons_self ..)
  | [], _ :: _, _, _, _, e, _, _ => by cases e
  | _ :: _, [], _, _, _, e, _, _ => by cases e
end
end Sl

set_option Elab.async false
set_option linter.all false
set_option maxRecDepth 100000
namespace Sl
open PySem PySem.Spec PyProof.Rows L2 Dl
/-! ### == of data, as it is -/
class EqD {α : Type} [DecidableEq α] (τ : Ty α) (n : outParam Nat) : Prop where
  fn : ∀ {G : Hp} {v : V} {x y : α}, τ.rep G v x → τ.rep G v y → x = y
  at_ : ∀ {X : Cx} {pins : List (Addr × Obj)} {σ : L2.St} {H G : Hp} {st : Shared} {os : Ow} {A : Around} {v w : V} {x y : α} {u t : Value}, Inv X pins σ H st → HH G os H → A.units + n < cLine → τ.rep G v x → τ.rep G w y → RelV v u → RelV w t → SeqAt.EqAt A st u t (decide (x = y))
theorem scl_at {α : Type} [DecidableEq α] {τ : Ty α} [Scl τ] {A : Around} {st : Shared} {G : Hp} {v w : V} {x y : α} {u t : Value} (r1 : τ.rep G v x) (r2 : τ.rep G w y) (h1 : RelV v u) (h2 : RelV w t) (h : ∀ a b : V, scal a b = true → RelV a u → RelV b t → SeqAt.EqAt A st u t (decide (a = b))) : SeqAt.EqAt A st u t (decide (x = y)) := by
  have e1 := Scl.is _ _ _ r1
  have e2 := Scl.is _ _ _ r2
  subst e1 e2
  have e : decide (Scl.enc τ x = Scl.enc τ y) = decide (x = y) := by
    by_cases h : x = y
    · subst h; rw [decide_eq_true rfl, decide_eq_true rfl]
    · rw [decide_eq_false h, decide_eq_false (fun z => h (Scl.inj _ _ z))]
  rw [← e]
  exact h _ _ (Scl.sc x y) h1 h2
instance : EqD tInt 0 := ⟨fun {_ _ _ _} (h1 : _ = _) (h2 : _ = _) => V.int.inj (h1.symm.trans h2), fun {X pins σ H G st os A v w x y u t} I hh hA (r1 : v = .int x) (r2 : w = .int y) h1 h2 => by
  subst r1 r2
  obtain ⟨k1, rfl⟩ := h1
  obtain ⟨k2, rfl⟩ := h2
  have := (MeetsSeq.EqGives.int x y k1 k2).at A st
  have e : (x == y) = decide (x = y) := by rw [Bool.beq_eq_decide_eq]
  rw [← e]
  exact this⟩
instance : EqD tStr 0 := ⟨fun {_ _ _ _} (h1 : _ = _) (h2 : _ = _) => V.str.inj (h1.symm.trans h2), fun {X pins σ H G st os A v w x y u t} I hh hA (r1 : v = .str x) (r2 : w = .str y) h1 h2 => by
  subst r1 r2
  obtain ⟨k1, rfl⟩ := h1
  obtain ⟨k2, rfl⟩ := h2
  intro prog w E Q hq
  exact wpAny_eqBool_str hq⟩
theorem all_rng {α : Type} [DecidableEq α] : ∀ {xs ys : List α}, xs.length = ys.length → ((List.range xs.length).all fun j => match xs[j]?, ys[j]? with
    | some x, some y => decide (x = y)
    | _, _ => true) = decide (xs = ys) := by
  intro xs ys hl
  rw [Bool.eq_iff_iff, decide_eq_true_iff, List.all_eq_true]
  constructor
  · intro h
    apply List.ext_getElem hl
    intro j h1 h2
    have := h j (List.mem_range.mpr h1)
    rw [List.getElem?_eq_getElem h1, List.getElem?_eq_getElem h2] at this
    exact of_decide_eq_true this
  · rintro rfl j hj
    rw [List.getElem?_eq_getElem (List.mem_range.mp hj)]
    exact decide_eq_true rfl
section
variable {α : Type} [DecidableEq α] {τ : Ty α} {n : Nat} [EqD τ n] {X : Cx} {pins : List (Addr × Obj)} {σ : L2.St} {H G : Hp} {st : Shared} {os : Ow} {A : Around}
theorem items_at (I : Inv X pins σ H st) (hh : HH G os H) (hA : A.units + n < cLine) {vs ws : List V} {xs ys : List α} {us ts : List Value} (p1 : Paired (τ.rep G) vs xs) (p2 : Paired (τ.rep G) ws ys) (r1 : Vals vs us) (r2 : Vals ws ts) :
    ∀ j (h1 : j < us.toArray.size) (h2 : j < ts.toArray.size), SeqAt.EqAt A st us.toArray[j] ts.toArray[j] (match xs[j]?, ys[j]? with
      | some x, some y => decide (x = y)
      | _, _ => true) := fun j h1 h2 => by
  have l1 : j < us.length := by simpa using h1
  have l2 : j < ts.length := by simpa using h2
  have k1 : j < vs.length := by rw [r1.length]; exact l1
  have k2 : j < ws.length := by rw [r2.length]; exact l2
  obtain ⟨x, hx, rx⟩ := pr_get p1 (List.getElem?_eq_getElem k1)
  obtain ⟨y, hy, ry⟩ := pr_get p2 (List.getElem?_eq_getElem k2)
  obtain ⟨u, hu, ru⟩ := r1.get (List.getElem?_eq_getElem k1)
  obtain ⟨t, ht, rt⟩ := r2.get (List.getElem?_eq_getElem k2)
  rw [hx, hy]
  have eu : us.toArray[j] = u := by
    have := hu
    rw [List.getElem?_eq_getElem l1] at this
    simpa using Option.some.inj this
  have et : ts.toArray[j] = t := by
    have := ht
    rw [List.getElem?_eq_getElem l2] at this
    simpa using Option.some.inj this
  rw [eu, et]
  exact EqD.at_ I hh hA rx ry ru rt
theorem rc_list (I : Inv X pins σ H st) (hh : HH G os H) (hA : A.units + n + 1 < cLine) {a b : Addr} {vs ws : List V} {xs ys : List α} (ga : H a = some (.lst vs)) (gb : H b = some (.lst ws)) (p1 : Paired (τ.rep G) vs xs) (p2 : Paired (τ.rep G) ws ys) :
    SeqAt.RcAt A st (.ref a) (.ref b) (decide (xs = ys)) ∧ SeqAt.RcNeAt A st (.ref a) (.ref b) (!decide (xs = ys)) := by
  obtain ⟨us, r1, q1, _⟩ := I.list (SqL.of ga)
  obtain ⟨ts, r2, q2, _⟩ := I.list (SqL.of gb)
  have l1 : us.toArray.size = xs.length := by rw [List.size_toArray, ← r1.length, pr_len p1]
  have l2 : ts.toArray.size = ys.length := by rw [List.size_toArray, ← r2.length, pr_len p2]
  have hi := items_at (A := A.in1) I hh (show A.units + 1 + n < cLine by omega) p1 p2 r1 r2
  by_cases hl : us.toArray.size = ts.toArray.size
  · have e := all_rng (xs := xs) (ys := ys) (by omega)
    rw [← e, ← l1]
    exact ⟨SeqAt.RcAt.lists q1.isList q2.isList hl (by omega) hi, SeqAt.RcNeAt.lists q1.isList q2.isList hl (by omega) hi⟩
  · have e : decide (xs = ys) = false := decide_eq_false (fun z => hl (by rw [l1, l2, z]))
    rw [e]
    exact ⟨SeqAt.RcAt.lists_lengths q1.isList q2.isList (by simpa using hl) (by omega), SeqAt.RcNeAt.lists_lengths q1.isList q2.isList (by simpa using hl) (by omega)⟩
theorem pr_fn {α : Type} [DecidableEq α] {τ : Ty α} {n : Nat} [EqD τ n] {G : Hp} : ∀ {vs : List V} {xs ys : List α}, Paired (τ.rep G) vs xs → Paired (τ.rep G) vs ys → xs = ys
  | _, _, _, .nil, .nil => rfl
  | _, _, _, .cons r1 t1, .cons r2 t2 => by rw [EqD.fn r1 r2, pr_fn t1 t2]
instance : EqD (tList τ) (n + 1) := ⟨fun {G v x y} ⟨a, vs, e1, g1, p1⟩ ⟨b, ws, e2, g2, p2⟩ => by
    rw [e1] at e2
    cases e2
    rw [g1] at g2
    cases g2
    exact pr_fn p1 p2, fun {X pins σ H G st os A v w x y u t} I hh hA ⟨a, vs, e1, g1, p1⟩ ⟨b, ws, e2, g2, p2⟩ h1 h2 => by
    subst e1 e2
    cases (show u = Value.ref a from h1)
    cases (show t = Value.ref b from h2)
    by_cases e : a = b
    · subst e
      rw [g1] at g2
      cases g2
      rw [decide_eq_true (pr_fn p1 p2)]
      exact SeqAt.EqAt.same _
    · exact SeqAt.EqAt.of_refs e (rc_list I hh (by omega) (hh.lst g1) (hh.lst g2) p1 p2).1⟩
end
section
variable {X : Cx} {Γ : Ct} {m m1 m2 : Option Ct} {α β κ : Type} {τ : Ty α} {τ2 : Ty β} {s s1 : Sh} {pos : Pos} {a b : Expr} {n : Nat}
/-- == of two lists -/
def rEqT (ne : Bool) (τ : Ty α) [DecidableEq α] : R2 := fun v w H Q => ∃ G os a b vs ws xs ys, v = .ref a ∧ w = .ref b ∧ HH G os H ∧ H a = some (.lst vs) ∧ H b = some (.lst ws) ∧ Paired (τ.rep G) vs xs ∧ Paired (τ.rep G) ws ys ∧ Q (.bl (if ne then !decide (xs = ys) else decide (xs = ys))) H
theorem op_eqT [DecidableEq α] [EqD τ n] (hu : X.A.units + n + 1 < cLine) : OpR X (compareOp .Eq) (rEqT false τ) := by
  intro pins s σ H x y v u Q I rx ry h
  obtain ⟨G, os, a, b, vs, ws, xs, ys, rfl, rfl, hh, ga, gb, p1, p2, q⟩ := h
  cases (show v = Value.ref a from rx)
  cases (show u = Value.ref b from ry)
  exact (rc_list I hh (by omega) ga gb p1 p2).1 X.prog X.w _ _ ⟨.bl _, H, I, rfl, q⟩
theorem op_neT [DecidableEq α] [EqD τ n] (hu : X.A.units + n + 1 < cLine) : OpR X (compareOp .NotEq) (rEqT true τ) := by
  intro pins s σ H x y v u Q I rx ry h
  obtain ⟨G, os, a, b, vs, ws, xs, ys, rfl, rfl, hh, ga, gb, p1, p2, q⟩ := h
  cases (show v = Value.ref a from rx)
  cases (show u = Value.ref b from ry)
  exact (rc_list I hh (by omega) ga gb p1 p2).2 X.prog X.w _ _ ⟨.bl _, H, I, rfl, q⟩
theorem v2_eqT [DecidableEq α] {ne : Bool} {xs ys : List α} (h : RdL s τ xs) : V2 s (tList τ) ys (fz tBool (if ne then !decide (xs = ys) else decide (xs = ys))) (rEqT ne τ) := by
  rintro v w G H os o Q at_ hs ⟨b, ws, e2, g2, p2⟩ k
  obtain ⟨a, vs, e1, g1, p1⟩ := h G H os o v at_ hs
  exact ⟨G, os, a, b, vs, ws, xs, ys, e1, e2, at_.1, g1, at_.1.lst g2, p1, p2, k.fz at_.1 rfl⟩
theorem ej_eqL [DecidableEq α] [EqD τ n] {xs ys : List α} (hu : X.A.units + n + 1 < cLine) (ha : EJ X a Γ m1 (fz (tList τ) xs)) (hb : EJ X b (out Γ m1) m2 (fz (tList τ) ys)) : EJ X (.Compare a [.Eq] [b] pos) Γ (cmb m1 m2) (fz tBool (decide (xs = ys))) := ej_cmp (op_eqT hu) (v2_eqT (ne := false) rd_fz) ha hb (nomark _)
theorem ej_neL [DecidableEq α] [EqD τ n] {xs ys : List α} (hu : X.A.units + n + 1 < cLine) (ha : EJ X a Γ m1 (fz (tList τ) xs)) (hb : EJ X b (out Γ m1) m2 (fz (tList τ) ys)) : EJ X (.Compare a [.NotEq] [b] pos) Γ (cmb m1 m2) (fz tBool (!decide (xs = ys))) := ej_cmp (op_neT hu) (v2_eqT (ne := true) rd_fz) ha hb (nomark _)
/-! == of dicts of scalars that are the same -/
def rEqDR (ne : Bool) : R2 := fun x y H Q => ∃ a b ks ls, x = .ref a ∧ y = .ref b ∧ Rd H a (.dK ks) ∧ Rd H b (.dK ls) ∧ ks.length = ls.length ∧ (∀ p ∈ ks, valV ls p.1 = some p.2 ∧ flatB p.2 = true) ∧ Q (.bl (!ne)) H
theorem op_eqDR (hu : X.A.units < cLine) : OpR X (compareOp .Eq) (rEqDR false) := by
  intro pins s σ H x y v u Q I rx ry h
  obtain ⟨a, b, ks, ls, rfl, rfl, ea, eb, hlen, hp, q⟩ := h
  obtain rfl : v = Value.ref a := rx
  obtain rfl : u = Value.ref b := ry
  obtain ⟨_, ya, va, ra, da⟩ := dk_rd I.hok ea
  obtain ⟨_, yb, vb, rb, db⟩ := dk_rd I.hok eb
  have hl : va.length = vb.length := by rw [← ra.length, ← rb.length]; exact hlen
  exact PySem.W.keq_eq (knd := mixKind X.prog X.w) (r := true) ya yb da db hu (fun _ => hits_all rb ra hp) (fin_bl I q (by simp [hl]))
theorem op_neDR (hu : X.A.units < cLine) : OpR X (compareOp .NotEq) (rEqDR true) := by
  intro pins s σ H x y v u Q I rx ry h
  obtain ⟨a, b, ks, ls, rfl, rfl, ea, eb, hlen, hp, q⟩ := h
  obtain rfl : v = Value.ref a := rx
  obtain rfl : u = Value.ref b := ry
  obtain ⟨_, ya, va, ra, da⟩ := dk_rd I.hok ea
  obtain ⟨_, yb, vb, rb, db⟩ := dk_rd I.hok eb
  have hl : va.length = vb.length := by rw [← ra.length, ← rb.length]; exact hlen
  exact PySem.W.keq_ne (knd := mixKind X.prog X.w) (r := true) ya yb da db hu (fun _ => hits_all rb ra hp) (fin_bl I q (by simp [hl]))
theorem kr_val [Scl τ] {kd : Kd κ} {G : Hp} : ∀ {vs ws : List (kd.KT × V)} {x : List (κ × α)}, Paired (KR kd τ G) vs x → Paired (KR kd τ G) ws x → vs = ws
  | _, _, _, .nil, .nil => rfl
  | _, _, _, .cons (a := p) r1 t1, .cons (a := q) r2 t2 => by
    rw [kr_val t1 t2]
    have e1 : p.1 = q.1 := r1.1.trans r2.1.symm
    have e2 : p.2 = q.2 := (Scl.is _ _ _ r1.2).trans (Scl.is _ _ _ r2.2).symm
    rw [show p = q from Prod.ext e1 e2]
theorem v2_eqD [DecidableEq κ] [Scl τ] {ne : Bool} {fk : Fk κ} {x : List (κ × α)} (hf : ∀ y, flatB (Scl.enc τ y) = true) (h : RdD s (kF fk) τ x) : V2 s (tDic (kF fk) τ) x (fz tBool (!ne)) (rEqDR ne) := by
  rintro v w G H os o Q at_ hs ⟨b, ws, e2, g2, p2, n2⟩ k
  obtain ⟨a, vs, e1, g1, p1, n1⟩ := h G H os o v at_ hs
  have e := kr_val p1 p2
  subst e
  refine ⟨a, b, vs, vs, e1, e2, g1, at_.1.rd g2, rfl, fun p hp => ?_, k.fz at_.1 rfl⟩
  have key : ∀ {vs : List (Key × V)} {x : List (κ × α)}, Paired (KR (kF fk) τ G) vs x → (x.map Prod.fst).Nodup → ∀ p ∈ vs, valV vs p.1 = some p.2 ∧ flatB p.2 = true := by
    intro vs x pr
    induction pr with
    | nil => intro _ p hp; cases hp
    | @cons q y vs x r t ih =>
      intro nd p hp
      rw [List.map_cons] at nd
      have nd2 := List.nodup_cons.mp nd
      rcases List.mem_cons.mp hp with rfl | hp
      · refine ⟨valV_pos rfl, ?_⟩
        rw [Scl.is _ _ _ r.2]
        exact hf _
      · obtain ⟨h1, h2⟩ := ih nd2.2 p hp
        refine ⟨?_, h2⟩
        rw [valV_neg]
        · exact h1
        · intro z
          have m : ∀ {vs : List (Key × V)} {x : List (κ × α)}, Paired (KR (kF fk) τ G) vs x → ∀ p ∈ vs, ∃ y ∈ x, p.1 = fk.enc y.1 := by
            intro vs x pr
            induction pr with
            | nil => intro p hp; cases hp
            | cons r _ ih =>
              intro p hp
              rcases List.mem_cons.mp hp with rfl | hp
              · exact ⟨_, List.mem_cons_self .., r.1⟩
              · obtain ⟨y, hy, e⟩ := ih p hp
                exact ⟨y, List.mem_cons_of_mem _ hy, e⟩
          obtain ⟨y', hy', e'⟩ := m t p hp
          have : y.1 = y'.1 := fk.inj _ _ (r.1.symm.trans (z.trans e'))
          exact nd2.1 (by rw [this]; exact List.mem_map_of_mem hy')
  exact key p1 n1 p hp
theorem ej_eqD [DecidableEq κ] [Scl τ] {kd : Fk κ} {x : List (κ × α)} (hu : X.A.units < cLine) (ha : EJ X a Γ m1 (fz (tDic (kF kd) τ) x)) (hb : EJ X b (out Γ m1) m2 (fz (tDic (kF kd) τ) x)) (hf : ∀ y, flatB (Scl.enc τ y) = true := by intro _; rfl) : EJ X (.Compare a [.Eq] [b] pos) Γ (cmb m1 m2) (fz tBool true) := ej_cmp (op_eqDR hu) (v2_eqD (ne := false) hf rdd_fz) ha hb (nomark _)
theorem ej_neD [DecidableEq κ] [Scl τ] {kd : Fk κ} {x : List (κ × α)} (hu : X.A.units < cLine) (ha : EJ X a Γ m1 (fz (tDic (kF kd) τ) x)) (hb : EJ X b (out Γ m1) m2 (fz (tDic (kF kd) τ) x)) (hf : ∀ y, flatB (Scl.enc τ y) = true := by intro _; rfl) : EJ X (.Compare a [.NotEq] [b] pos) Γ (cmb m1 m2) (fz tBool false) := ej_cmp (op_neDR hu) (v2_eqD (ne := true) hf rdd_fz) ha hb (nomark _)
/-! isinstance of a built-in class -/
theorem isi_core {t : String} {C : String} {bo : Bool} {K : PySem.W.Frag} (ty : ∀ G H os o v, At G H os o → s1.p G o v → TyX K H v (.type t)) (hk : PySem.W.kitOne K (.type t) (.type C) = some bo) : VA [s1, ⟨fun _ o v => o = [] ∧ v = .ty C, fun _ h => h, fun h c hc => by rw [h.1] at hc; cases hc⟩] (fz tBool bo) (rIsi K) := fun vs G H os o Q at_ ⟨v, vr, o1, o2, e1, e2, p1, w, wr, o3, o4, e3, e4, ⟨e5, e6⟩, e7, e8⟩ k => by
  subst e1 e3 e7 e5 e6 e8
  have e9 : o2 = [] := e4
  subst e9 e2
  rw [List.append_nil] at at_
  exact ⟨v, .ty C, .type t, .type C, bo, rfl, .ty C, ty G H os o1 v at_ p1, hk, k.fz at_.1 rfl⟩
end
end Sl

set_option Elab.async false
set_option linter.all false
set_option maxRecDepth 100000
namespace Sl
open PySem PySem.Spec PyProof.Rows L2 Dl
theorem bnd {α β : Type} {o : Option α} {f : α → Option β} {b : β} (h : o.bind f = some b) : ∃ a, o = some a ∧ f a = some b := Option.bind_eq_some_iff.mp h
theorem ifT {α : Type} {t : Bool} {a b c : α} (ht : t = true) (h : (if t = true then a else b) = c) : a = c := by rw [if_pos ht] at h; exact h
theorem ifF {α : Type} {t : Bool} {a b c : α} (ht : t = false) (h : (if t = true then a else b) = c) : b = c := by rw [if_neg (by rw [ht]; decide)] at h; exact h
/-- only if p -/
def grd {α : Type} (p : Prop) [Decidable p] (a : α) : Option α := if p then some a else none
theorem grd_iff {α : Type} {p : Prop} [Decidable p] {a b : α} (h : grd p a = some b) : p ∧ a = b := by
  unfold grd at h
  split at h
  · exact ⟨by assumption, Option.some.inj h⟩
  · cases h
section
variable {Pg : Program} {w : World} {K : PySem.W.Frag} {mg : Str → Option Value} {base : Heap}
/-- a method as its callers see it; a class that is made -/
structure Met (P : Program) (w : World) (K : PySem.W.Frag) (mg : Str → Option Value) (base : Heap) (k : Nat) (C : Addr) (m : Str) (ps : List Str) (sp : Sp) : Prop where
  ex : ∃ fi fd, Meth K C m fi ∧ FnG P w K mg base CX0 k fi fd ps sp ∧ Binds K fd ps []
structure Mkr (P : Program) (w : World) (K : PySem.W.Frag) (mg : Str → Option Value) (base : Heap) (k : Nat) (C : Addr) (x : Str) (ps : List Str) (sp : Sp) : Prop where
  ex : ∃ fi fd, Mk K C fi ∧ FnG P w K mg base CX0 k fi fd ps sp ∧ Binds K fd ps [] ∧ mg x = some (.ref C)
theorem Fun.okS {x q : Str} {st : Stmt} {f0 : Addr} {fd : FuncData} {N ps : List Str} {k n : Nat} {Φ : Phi} (D : Fun K x q st f0 fd) (S : FnScope N ps (defScope st)) (hn : n = ps.length) (hN : n ≤ N.length)
    (hbody : ∀ (X : Cx) (s : Shared) (H : Hp) (A : Around) (outer : List Env) (cdv : Value) (E : XK) (ss : List Sh) (r : Sh) (L : List (Nat × Sh)) (vs : List V),
      RoomG k (A.deeper (envOfC q (defScope st) s.heap.objs.size f0 cdv)) → vs.length = n → Φ ss r L →
      ∃ (ρ : Type) (rs : ρ → Sh) (ls : ρ → List Sh) (y : ρ) (P : Pn), rs y = r ∧ ls y = L.map Prod.snd ∧ (∀ p ∈ P, vs[p.1]? = some p.2) ∧ (P.map Prod.fst) = L.map Prod.fst ∧
        SJ (cxOf CX0 Pg w K mg base N q (defScope st) f0 cdv A outer s H E).nox P (defBody st) (ss.map some ++ List.replicate (N.length - n) none) (PoF rs ls P y)) : FnG Pg w K mg base CX0 (k + 1) f0 fd ps (spS n Φ) := by
  refine Fun.okG D S (fun vs H Q E h => ?_) fun cdv A outer s H vs Q E hr h => ?_
  · obtain ⟨_, _, _, _, _, _, e, _⟩ := h
    rw [e, hn]
  · obtain ⟨G, ow, F, ss, r, L, e, hh, hs, hΦ, k⟩ := h
    obtain ⟨ρ, rs, ls, y, P, er, el, hP, hPL, hb⟩ := hbody (cxOf CX0 Pg w K mg base N q (defScope st) f0 cdv A outer s H E).nox s H A outer cdv E ss r L vs hr e hΦ
    have fin : ∀ (v : V) (G' : Hp) (o1 o2 : Ow) (H' : Hp), Same G G' → HH G' (o1 ++ o2 ++ F) H' → (rs y).p G' o1 v → Shs (ls y) G' o2 (P.map Prod.snd) → Q v H' := fun v G' o1 o2 H' sm h' p1 p2 => by
      rw [el] at p2
      rw [er] at p1
      exact k v G' o1 o2 H' sm (by rw [← List.append_assoc]; exact h') p1 (lent_of hPL hP p2)
    refine ⟨_, hb, G, ow, F, hh, ?_, fun p hp => ?_, fun σ' G' os' H' sm h' pn ⟨dead, o, pm, o1, o2, eo, p1, p2⟩ => ?_, fun v G' o H' sm h' ⟨o1, o2, eo, p1, p2⟩ => ?_, fun _ _ _ _ _ _ _ z => z.elim⟩
    · have := StA.start (n := N.length - n) hs
      unfold L2.start
      rw [e]
      exact this
    · have h1 := hP p hp
      unfold L2.start
      have hl : p.1 < vs.length := (List.getElem?_eq_some_iff.mp h1).1
      rw [List.getElem?_append_left (by simpa using hl), List.getElem?_map, h1]
      rfl
    · subst eo
      exact fin .non G' o1 o2 H' sm (HH.drops (d := dead) (h'.perm (by rw [← List.append_assoc]; exact List.Perm.append_right F pm))) p1 p2
    · subst eo
      exact fin v G' o1 o2 H' sm h' p1 p2
theorem DefAt.cal {x : Str} {st : Stmt} {ps : List Str} {k : Nat} {sp : Sp} (D : DefAt K mg x st ps) (h : ∀ f0 fd, Fun K x x st f0 fd → FnG Pg w K mg base CX0 k f0 fd ps sp) : CalG Pg w K mg base CX0 k x ps sp := by
  obtain ⟨f, fd, F, g, b⟩ := D.ex
  exact ⟨f, fd, h f fd F, g, F.kp, b⟩
end
section
variable {X : Cx} {P : Pn} {Γ Γ0 Γ' Γ1 Γ2 Γm Γn : Ct} {m m0 m1 m2 : Option Ct} {α β γ δ κ ρ S : Type} {τ τ1 : Ty α} {τ2 : Ty β} {τ3 : Ty γ} {s s1 s2 r : Sh} {pos p apos nm : Pos} {a b c e o tg : Expr} {es : List Expr} {us vs : List Nat} {as : List As} {ss : List Sh} {x f : Str} {kd : Kd κ} {i j : Nat} {rest thn els : List Stmt} {R : Po} {C : Addr} {ns : List Str} {k : Nat} {ps : List Str} {E : XK} {Φ : Phi} {L : List (Nat × Sh)} {rs : ρ → Sh} {ls : ρ → List Sh} {n : Nat}
/-- if whose two ways leave -/
theorem sj_ifB {t : Bool} {c : Expr} (hc : TJ X c Γ m t) (h1 : t = true → SJ X P thn (out Γ m) R.cut) (h2 : t = false → SJ X P els (out Γ m) R.cut) : SJ X P (.If c thn els pos :: rest) Γ R := by
  cases t with
  | true =>
    refine pss_to (pss_cons (ps_if hc (h1 rfl) pss_never) pss_never) fun D σ H ⟨G, os, F, hh, st, pn, k1, k2, k3⟩ => go_seq (go_ifs ⟨G, os, F, hh, st, fun G' os' H' sm h' af => ?_⟩)
    exact ⟨G', os', F, h', af.st st sm, pn, fun σ3 G3 os3 H3 _ _ _ z => z.elim, fun v G3 o H3 sm3 => k2 v G3 o H3 (sm.trans sm3), fun σ3 G3 os3 H3 sm3 => k3 σ3 G3 os3 H3 (sm.trans sm3)⟩
  | false =>
    refine pss_to (pss_cons (ps_if hc pss_never (h2 rfl)) pss_never) fun D σ H ⟨G, os, F, hh, st, pn, k1, k2, k3⟩ => go_seq (go_ifs ⟨G, os, F, hh, st, fun G' os' H' sm h' af => ?_⟩)
    exact ⟨G', os', F, h', af.st st sm, pn, fun σ3 G3 os3 H3 _ _ _ z => z.elim, fun v G3 o H3 sm3 => k2 v G3 o H3 (sm.trans sm3), fun σ3 G3 os3 H3 sm3 => k3 σ3 G3 os3 H3 (sm.trans sm3)⟩
/-- if whose ways may leave or come together -/
theorem sj_ifX {t : Bool} {c : Expr} {o : Oc ρ S} {Γs : S → Ct} (hc : TJ X c Γ m t) (h1 : t = true → SJ X P thn (out Γ m) (PoO rs ls P Γs o)) (h2 : t = false → SJ X P els (out Γ m) (PoO rs ls P Γs o))
    (hn : ∀ s, o = .nx s → SJ X P rest (Γs s) R) (hr : ∀ r, o = .ret r → ∀ v G ow, rtO (rs r) (ls r) P v G ow → R.rt v G ow) (hct : ∀ σ G os, (PoO rs ls P Γs o).ct σ G os → R.ct σ G os) : SJ X P (.If c thn els pos :: rest) Γ R := by
  have hrest : PSs X rest (fun D σ H => ∃ t, (∃ s1, o = .nx s1 ∧ t = tS P (Γs s1) R) ∧ t D σ H) := pss_ex fun t ⟨s1, e1, e⟩ => by subst e; exact hn s1 e1
  have key : ∀ {D : Ends} {G : Hp} {os F : Ow} {σ : L2.St} {H : Hp}, StA (out Γ m) σ G os → HH G (os ++ F) H → PinA P σ →
      (∀ σ' G' os' H', Same G G' → HH G' (os' ++ F) H' → PinA P σ' → R.nx σ' G' os' → D.nx σ' H') →
      (∀ v G' o H', Same G G' → HH G' (o ++ F) H' → R.rt v G' o → D.rt v H') →
      (∀ σ' G' os' H', Same G G' → HH G' (os' ++ F) H' → PinA P σ' → R.ct σ' G' os' → D.ct σ' H') →
      tS P (out Γ m) (PoO rs ls P Γs o) { D with nx := fun σ H => ∃ t, (∃ s1, o = .nx s1 ∧ t = tS P (Γs s1) R) ∧ t D σ H } σ H := fun {D G os F σ H} st hh pn k1 k2 k3 =>
    ⟨G, os, F, hh, st, pn, fun σ' G' os' H' sm h' pn' ⟨s1, e1, st'⟩ => ⟨_, ⟨s1, e1, rfl⟩, G', os', F, h', st', pn', fun σ3 G3 os3 H3 sm3 => k1 σ3 G3 os3 H3 (sm.trans sm3), fun v G3 o H3 sm3 => k2 v G3 o H3 (sm.trans sm3), fun σ3 G3 os3 H3 sm3 => k3 σ3 G3 os3 H3 (sm.trans sm3)⟩,
      fun v G' ow H' sm h' ⟨r, e1, q⟩ => k2 v G' ow H' sm h' (hr r (retOf_eq e1) v G' ow q), fun σ' G' os' H' sm h' pn' q => k3 σ' G' os' H' sm h' pn' (hct σ' G' os' q)⟩
  cases t with
  | true =>
    refine pss_to (pss_cons (ps_if hc (h1 rfl) pss_never) hrest) fun D σ H ⟨G, os, F, hh, st, pn, k1, k2, k3⟩ => go_seq (go_ifs ⟨G, os, F, hh, st, fun G' os' H' sm h' af => ?_⟩)
    exact key (af.st st sm) h' pn (fun σ3 G3 os3 H3 sm3 => k1 σ3 G3 os3 H3 (sm.trans sm3)) (fun v G3 o H3 sm3 => k2 v G3 o H3 (sm.trans sm3)) fun σ3 G3 os3 H3 sm3 => k3 σ3 G3 os3 H3 (sm.trans sm3)
  | false =>
    refine pss_to (pss_cons (ps_if hc pss_never (h2 rfl)) hrest) fun D σ H ⟨G, os, F, hh, st, pn, k1, k2, k3⟩ => go_seq (go_ifs ⟨G, os, F, hh, st, fun G' os' H' sm h' af => ?_⟩)
    exact key (af.st st sm) h' pn (fun σ3 G3 os3 H3 sm3 => k1 σ3 G3 os3 H3 (sm.trans sm3)) (fun v G3 o H3 sm3 => k2 v G3 o H3 (sm.trans sm3)) fun σ3 G3 os3 H3 sm3 => k3 σ3 G3 os3 H3 (sm.trans sm3)
/-! and, or of tests that change nothing and may always be asked -/
theorem wj_andP {ta tb : Bool} (ha : TJ X a Γ none ta) (hb : WJ X (.BoolOp .And (b :: es) pos) Γ none tb) : WJ X (.BoolOp .And (a :: b :: es) pos) Γ none (ta && tb) := wj_and ha (fun e => by subst e; exact hb) fun e => by subst e; rfl
theorem wj_orP {ta tb : Bool} (ha : TJ X a Γ none ta) (hb : WJ X (.BoolOp .Or (b :: es) pos) Γ none tb) : WJ X (.BoolOp .Or (a :: b :: es) pos) Γ none (ta || tb) := wj_or ha (fun e => by subst e; exact hb) fun e => by subst e; rfl
theorem ej_andP {ta tb : Bool} (ha : EJ X a Γ none (fz tBool ta)) (hb : EJ X (.BoolOp .And (b :: es) pos) Γ none (fz tBool tb)) : EJ X (.BoolOp .And (a :: b :: es) pos) Γ none (fz tBool (ta && tb)) := ej_and ha (fun e => by subst e; exact hb) fun e => by subst e; rfl
theorem ej_orP {ta tb : Bool} (ha : EJ X a Γ none (fz tBool ta)) (hb : EJ X (.BoolOp .Or (b :: es) pos) Γ none (fz tBool tb)) : EJ X (.BoolOp .Or (a :: b :: es) pos) Γ none (fz tBool (ta || tb)) := ej_or ha (fun e => by subst e; exact hb) fun e => by subst e; rfl
theorem ej_one {op : BoolOp} (h : EJ X a Γ m s) : EJ X (.BoolOp op [a] pos) Γ m s := pe_one h
theorem ej_not {t : Bool} (h : EJ X a Γ m (fz tBool t)) : EJ X (.UnaryOp .Not a pos) Γ m (fz tBool (!t)) := pe_to (pe_not h) fun σ H Q ⟨G, os, F, hh, st, k⟩ => go_notv (tT.one ⟨G, os, F, hh, st, fun v G' os' H' sm h' af (r : v = .bl t) => ⟨t, r, k (.bl (!t)) G' [] os' H' sm h' af ⟨rfl, rfl⟩⟩⟩)
theorem ej_neg {i : Int} (h : EJ X a Γ m (fz tInt i)) : EJ X (.UnaryOp .USub a pos) Γ m (fz tInt (-i)) := pe_to (pe_un un_neg h) fun σ H Q ⟨G, os, F, hh, st, k⟩ => go_un (tT.one ⟨G, os, F, hh, st, fun v G' os' H' sm h' af (r : v = .int i) => by subst r; exact go_rU (k _ G' [] os' H' sm h' af ⟨rfl, rfl⟩)⟩)
/-! one of two kinds -/
theorem ej_inl {x : α} (h : EJ X e Γ m (fz τ1 x)) : EJ X e Γ m (fz (tSum τ1 τ2) (.inl x)) := pe_to h fun σ H Q ⟨G, os, F, hh, st, k⟩ => ⟨G, os, F, hh, st, fun v G' o os' H' sm h' af ⟨eo, r⟩ => k v G' o os' H' sm h' af ⟨eo, .inl ⟨x, rfl, r⟩⟩⟩
theorem ej_inr {x : β} (h : EJ X e Γ m (fz τ2 x)) : EJ X e Γ m (fz (tSum τ1 τ2) (.inr x)) := pe_to h fun σ H Q ⟨G, os, F, hh, st, k⟩ => ⟨G, os, F, hh, st, fun v G' o os' H' sm h' af ⟨eo, r⟩ => k v G' o os' H' sm h' af ⟨eo, .inr ⟨x, rfl, r⟩⟩⟩
theorem ej_getl {y : α ⊕ β} {x : α} (h : EJ X e Γ m (fz (tSum τ1 τ2) y)) (e1 : y = .inl x) : EJ X e Γ m (fz τ1 x) := pe_to h fun σ H Q ⟨G, os, F, hh, st, k⟩ => ⟨G, os, F, hh, st, fun v G' o os' H' sm h' af ⟨eo, r⟩ => k v G' o os' H' sm h' af ⟨eo, by
  rcases r with ⟨z, ez, r⟩ | ⟨z, ez, r⟩
  · rw [e1] at ez; cases ez; exact r
  · rw [e1] at ez; cases ez⟩⟩
def asL {α β : Type} : α ⊕ β → Option α
  | .inl x => some x
  | .inr _ => none
theorem asL_iff {α β : Type} {y : α ⊕ β} {x : α} (h : asL y = some x) : y = .inl x := by
  cases y with
  | inl z => cases h; rfl
  | inr z => cases h
/-- an int or a text, beside a text -/
theorem v2_eqS {y : Int ⊕ Str} {z : Str} : V2 (fz (tSum tInt tStr) y) tStr z (fz tBool (decide (y = .inr z))) rEq := by
  rintro v w G H os o Q ⟨hh, _⟩ ⟨_, r1⟩ (r2 : w = .str z) k
  subst r2
  rcases r1 with ⟨i, rfl, (rfl : v = .int i)⟩ | ⟨t, rfl, (rfl : v = .str t)⟩
  · refine ⟨rfl, ?_⟩
    rw [decide_eq_false (by intro q; cases q)]
    rw [decide_eq_false (by intro q; cases q)] at k
    exact k.fz hh rfl
  · refine ⟨rfl, ?_⟩
    have e : decide (V.str t = V.str z) = decide ((.inr t : Int ⊕ Str) = .inr z) := by
      by_cases h : t = z
      · subst h; rw [decide_eq_true rfl, decide_eq_true rfl]
      · rw [decide_eq_false (fun q => h (V.str.inj q)), decide_eq_false (fun q => h (Sum.inr.inj q))]
    rw [e]
    exact k.fz hh rfl
theorem ej_eqS {y : Int ⊕ Str} {z : Str} (ha : EJ X a Γ m1 (fz (tSum tInt tStr) y)) (hb : EJ X b (out Γ m1) m2 (fz tStr z)) : EJ X (.Compare a [.Eq] [b] pos) Γ (cmb m1 m2) (fz tBool (decide (y = .inr z))) := ej_cmp op_eq v2_eqS ha hb (nomark _)
/-! calls by the bundles -/
theorem ej_mk (M : Mkr X.prog X.w X.K X.mg X.base k C x ps (spS n Φ)) (hr : RoomG (k + 1) X.A) (hg : Gl X x) (hx : Passes CX0 X E) (ha : AJ X (e :: es) Γ m (ss.map As.val))
    (hΦ : Φ (oIns C [] [] :: ss) (fz tNon ()) [(0, s)]) (hn : ss.length + 1 = n := by rfl) (hdb : (x == ("__debug__" : Str)) = false := by decide) (he : starEach (e :: es) X.env = (false, eval e X.env) :: starEach es X.env := by rfl) (hpl : (backTo pos (starEach es X.env)).any (·.1) = false := by rfl) :
    EJ X (.Call (.Name x p) (e :: es) [] pos) Γ m s := by
  obtain ⟨fi, fd, M, Fn, hb, hm⟩ := M.ex
  exact ej_make M Fn hb hr hg hm hx ha hΦ hn hdb he hpl
theorem ej_mtF {sh : β → List Sh} {d : β} {pl : Sem Bool} (M : Met X.prog X.w X.K X.mg X.base k C f ps (spS n Φ)) (ho : EJ X o Γ m1 (fz (tOb C ns sh) d)) (hc : Cls X.K C) (hr : RoomG k X.A) (hx : Passes CX0 X E) (hf : ixOf f ns = none)
    (ha : AJ X (e :: es) (out Γ m1) m2 (ss.map As.val)) (hΦ : Φ (fz (tOb C ns sh) d :: ss) r []) (hn : ss.length + 1 = n := by rfl) (hst : starEach (e :: es) X.env = (false, eval e X.env) :: starEach es X.env := by rfl) (hpl : (backTo pos (starEach es X.env)).any (·.1) = false := by rfl)
    (ht : eval (.Call (.Attribute o f apos) (e :: es) [] pos) X.env = (do
      let ov ← eval o X.env
      standAt apos.atName
      let (f, first) ← holding [ov] (getMethod ov f pl)
      callWith pos f first (backTo pos (starEach (e :: es) X.env)) (backToKw pos (keywordEach [] X.env))) := by rfl) : EJ X (.Call (.Attribute o f apos) (e :: es) [] pos) Γ (cmb m1 m2) r := by
  obtain ⟨fi, fd, hm, Fn, hb⟩ := M.ex
  exact ej_methF (pl := pl) ho hc hm Fn hr hb hx hf ha hΦ hn hst hpl ht
theorem ej_mtF0 {sh : β → List Sh} {d : β} {pl : Sem Bool} (M : Met X.prog X.w X.K X.mg X.base k C f ps (spS n Φ)) (ho : EJ X o Γ m1 (fz (tOb C ns sh) d)) (hc : Cls X.K C) (hr : RoomG k X.A) (hx : Passes CX0 X E) (hf : ixOf f ns = none)
    (hΦ : Φ [fz (tOb C ns sh) d] r []) (hn : 1 = n := by rfl)
    (ht : eval (.Call (.Attribute o f apos) [] [] pos) X.env = (do
      let ov ← eval o X.env
      standAt apos.atName
      let (f, first) ← holding [ov] (getMethod ov f pl)
      callWith pos f first (backTo pos (starEach [] X.env)) (backToKw pos (keywordEach [] X.env))) := by rfl) : EJ X (.Call (.Attribute o f apos) [] [] pos) Γ m1 r := by
  obtain ⟨fi, fd, hm, Fn, hb⟩ := M.ex
  exact ej_methF0 (pl := pl) ho hc hm Fn hr hb hx hf hΦ hn ht
/-! the script -/
def tScr (K : PySem.W.Frag) : Ty (List Int) := ⟨fun G v ns => ∃ a, v = .ref a ∧ SqL K G a (ns.map V.int), fun s ⟨a, e, h⟩ => ⟨a, e, s.seq h⟩⟩
theorem v2_ixScr {K : PySem.W.Frag} {ns : List Int} {i y : Int} (hi : atI ns i = some y) : V2 (fz (tScr K) ns) tInt i (fz tInt y) (rIxL K) := by
  rintro v w G H os o Q at_ ⟨_, a, e, h⟩ (r2 : w = .int i) k
  subst e r2
  refine ⟨a, _, i, .int y, rfl, rfl, at_.1.sq h, ?_, k.fz at_.1 rfl⟩
  unfold atI at hi ⊢
  rw [List.length_map]
  obtain ⟨j, hj, hy⟩ := Option.bind_eq_some_iff.mp hi
  rw [hj]
  show (ns.map V.int)[j]? = _
  rw [List.getElem?_map, hy]
  rfl
theorem va_lenScr {K : PySem.W.Frag} {ns : List Int} : VA [fz (tScr K) ns] (fz tInt (ns.length : Int)) (Dl.rLen K) := va_one fun v G H os o Q at_ ⟨_, a, e, h⟩ k => by
  subst e
  refine go_len (at_.1.sq h) ?_
  rw [List.length_map]
  exact k.fz at_.1 rfl
theorem ij_rg2 {i j : Int} (hg : Gl X "range") (hm : X.mg "range" = none) (h : AJ X [a, b] Γ m [.val (fz tInt i), .val (fz tInt j)]) (hi : -1000000000 ≤ i ∧ i ≤ 1000000000 ∧ -1000000000 ≤ j ∧ j ≤ 1000000000) (hs : starEach [a, b] X.env = [(false, eval a X.env), (false, eval b X.env)] := by rfl) (hs2 : starEach [b] X.env = [(false, eval b X.env)] := by rfl) :
    IJ X tg (.Call (.Name "range" p) [a, b] [] pos) Γ m (range2 i j) (fz tInt) :=
  pi_to (pi_range2 hg hm h hs hs2) fun σ H R ⟨G, os, F, hh, st, k⟩ => go_rg2 ⟨G, os, F, hh, st, fun ws G' o os' H' sm h' af ⟨v, vr, o1, o2, e1, e2, ⟨e3, (r : v = .int i)⟩, w, wr, o3, o4, e4, e5, ⟨e6, (r2 : w = .int j)⟩, e7, e8⟩ => by
    subst e1 e3 e4 e6 e7 e8 r r2 e5 e2
    exact go_rgk2 hi.1 hi.2.1 hi.2.2.1 hi.2.2.2 (k _ G' os' H' sm h' af wk_rng)⟩
end
end Sl

set_option Elab.async false
set_option linter.all false
set_option maxRecDepth 100000
namespace Sl
open PySem PySem.Spec PyProof.Rows L2 Dl
theorem hu1 {A : Around} {k n : Nat} (hr : RoomG k A) (hn : n ≤ 60 := by decide) : A.units + n + 1 < cLine := by
  have := hr.units
  omega
theorem hg_of {A : Around} {k : Nat} (hr : RoomG k A) : A.guards = some [] := hr.gd
theorem hu0 {A : Around} {k : Nat} (hr : RoomG k A) : A.units < cLine := by
  have := hr.units
  omega
section
variable {X : Cx} {Γ : Ct} {m : Option Ct} {α β κ : Type} {τ : Ty α} {τ2 : Ty β} {s s1 : Sh} {pos p q : Pos} {a b e : Expr} {n : Nat} {es : List Expr} {x y : Str} {kd : Kd κ} {K : PySem.W.Frag}
theorem ej_is {x y : α} (h : x = y) (t : EJ X e Γ m (fz τ x)) : EJ X e Γ m (fz τ y) := by subst h; exact t
theorem ej_m {m' : Option Ct} (h : EJ X e Γ m s) (q : m = m') : EJ X e Γ m' s := by subst q; exact h
theorem lcj_e (h : LcJ X e Γ m s) : EJ X e Γ m s := h.1
theorem lcj_s (h : LcJ X e Γ m s) {i : Nat} {y : Str} {py spos : Pos} (h1 : X.N[i]? = some y) (h2 : X.env.scope.names.lookup y = some .local) (h3 : swapsWith e (some (.Name y py)) spos.line X.env = pure true) : PS X (.Assign [.Name y py] e spos) (tAsg (tT Γ m s) (gName i)) := h.2 h1 h2 h3
/-- a comparison as a test -/
theorem isTrue_cmp (l op r pos env whole) : isTrue (.Compare l [op] [r] pos) env whole = (eval (.Compare l [op] [r] pos) env >>= fun c => holding [c] (truthy c)) := by
  rw [isTrue_Compare1, eval_Compare1]
  simp only [bind_assoc]
theorem tj_cmp {op : CmpOp} {t : Bool} (h : EJ X (.Compare a [op] [b] pos) Γ m (fz tBool t)) : TJ X (.Compare a [op] [b] pos) Γ m t := by
  refine ⟨fun pins s σ H Q I ⟨G, os, F, hh, st, k⟩ => ?_⟩
  rw [isTrue_cmp]
  refine wpAny_bind (thn (h.run pins s σ H (fun x H1 => x = .bl t ∧ Q t H1) I ⟨G, os, F, hh, st, fun v G' o os' H' sm h' af ⟨eo, (r : v = .bl t)⟩ => ⟨r, k G' os' H' sm (by subst eo; exact h') af⟩⟩) fun v s1 ⟨x, H1, I1, r1, e, q⟩ => ?_)
  subst e
  cases r1
  exact wpAny_holding (wpAny_truthy_bool ⟨H1, I1, q⟩)
theorem ts_of {t bo : Bool} {c : Expr} (h : TJ X c Γ m t) (e1 : t = bo) : TsJ X [c] Γ m bo := by subst e1; exact ts_one h
/-- a written list as an owned list of data -/
theorem ol_of {xs : List α} : ∀ {G : Hp} {vs : List V}, Shs (xs.map (fz τ)) G [] vs → Paired (τ.rep G) vs xs := by
  induction xs with
  | nil => intro G vs h; rw [h.1]; exact .nil
  | cons x xs ih =>
    intro G vs ⟨v1, r1, o1, o1', e1, e2, ⟨_, h1⟩, h2⟩
    obtain ⟨e3, e4⟩ := app_nil2 e2
    subst e1 e4
    exact .cons h1 (ih h2)
theorem shs_nil {xs : List α} : ∀ {G : Hp} {o : Ow} {vs : List V}, Shs (xs.map (fz τ)) G o vs → o = [] := by
  induction xs with
  | nil => intro G o vs h; exact h.2
  | cons x xs ih =>
    intro G o vs ⟨v1, r1, o1, o1', e1, e2, ⟨e3, _⟩, h2⟩
    rw [e2, e3, ih h2]
    rfl
theorem ej_oL {xs : List α} (h : EJ X e Γ m (oLst (xs.map (fz τ)))) : EJ X e Γ m (oL τ xs) := pe_to h fun σ H Q ⟨G, os, F, hh, st, k⟩ => ⟨G, os, F, hh, st, fun v G' o os' H' sm h' af ⟨a, vs, o', e1, e2, sh⟩ => k v G' o os' H' sm h' af (by
  have := shs_nil sh
  subst this
  exact ⟨a, vs, e1, e2, ol_of sh⟩)⟩
def tyS (C : String) : Sh := ⟨fun _ o v => o = [] ∧ v = .ty C, fun _ h => h, fun h c hc => by rw [h.1] at hc; cases hc⟩
theorem ej_tyname {C : String} (hg : Gl X y) (hm : X.mg y = none) (hv : bootBuiltins y = some (.type C)) (hn : y ≠ "__name__" := by decide) (hd : (y == ("__debug__" : Str)) = false := by decide) : EJ X (.Name y q) Γ none (tyS C) :=
  pe_to (pe_bltn (v := .ty C) hg hm hv rfl hn hd) fun σ H Q ⟨G, os, F, hh, st, k⟩ => k _ G [] os H (Same.refl _) hh rfl ⟨rfl, rfl⟩
/-- what type a value has -/
def IsT (s : Sh) (t : String) : Prop := ∀ (K : PySem.W.Frag) G H os o v, At G H os o → s.p G o v → TyX K H v (.type t)
theorem isi_int {i : Int} : IsT (fz tInt i) "int" := fun K G H os o v _ ⟨_, (r : v = .int i)⟩ => by subst r; exact .base (.int i)
theorem isi_bool {i : Bool} : IsT (fz tBool i) "bool" := fun K G H os o v _ ⟨_, (r : v = .bl i)⟩ => by subst r; exact .base (.bl i)
theorem isi_str {i : Str} : IsT (fz tStr i) "str" := fun K G H os o v _ ⟨_, (r : v = .str i)⟩ => by subst r; exact .base (.str i)
theorem isi_list {xs : List α} : IsT (fz (tList τ) xs) "list" := fun K G H os o v at_ ⟨_, a, vs, e, g, _⟩ => by subst e; exact .base (.lst (at_.1.lst g))
theorem isi_dict {kd : Fk κ} {x : List (κ × α)} : IsT (fz (tDic (kF kd) τ) x) "dict" := fun K G H os o v at_ ⟨_, a, vs, e, g, _⟩ => by
  subst e
  rcases at_.1.rd g with h | ⟨ob, h⟩
  · exact .base (.dK h)
  · exact .fDict h
theorem isi_tuple {x : α × β} : IsT (fz (tP2 τ τ2) x) "tuple" := fun K G H os o v at_ ⟨_, a, v1, v2, e, g, _⟩ => by subst e; exact .base (.tup (at_.1.tup g))
theorem ej_isi {t C : String} {bo : Bool} (ty : IsT s1 t) (hg : Gl X x) (hm : X.mg x = none) (hv : bootBuiltins x = some (.builtin "isinstance")) (hg2 : Gl X y) (hm2 : X.mg y = none) (hv2 : bootBuiltins y = some (.type C)) (ha : EJ X a Γ m s1) (hk : PySem.W.kitOne X.K (.type t) (.type C) = some bo := by exact kit_ty (by decide +kernel))
    (hn : x ≠ "__name__" := by decide) (hdb : (x == ("__debug__" : Str)) = false := by decide) (hn2 : y ≠ "__name__" := by decide) (hdb2 : (y == ("__debug__" : Str)) = false := by decide)
    (he : starEach [a, .Name y q] X.env = (false, eval a X.env) :: starEach [.Name y q] X.env := by rfl) (he2 : starEach [.Name y q] X.env = (false, eval (.Name y q) X.env) :: starEach [] X.env := by rfl) (hpl : (backTo pos (starEach [.Name y q] X.env)).any (·.1) = false := by rfl) :
    EJ X (.Call (.Name x p) [a, .Name y q] [] pos) Γ m (fz tBool bo) :=
  ej_b (ss := [s1, tyS C]) call_isi (isi_core (fun G H os o v at_ h => ty X.K G H os o v at_ h) hk) hg hm hv (aj_cons ha (aj_cons (ej_tyname hg2 hm2 hv2 hn2 hdb2) aj_nil he2) he) hn hdb he hpl
end
end Sl

set_option Elab.async false
set_option linter.all false
set_option maxRecDepth 100000
namespace Sl
open PySem PySem.Spec PyProof.Rows L2 Dl
/-! ### repr of data -/
class Sho {α : Type} (τ : Ty α) (n : outParam Nat) where
  dat : α → PyData
  dep : ∀ x, (dat x).depth ≤ n
  noD : ∀ x, (dat x).hasDict = false
  rd : ∀ {X : Cx} {pins : List (Addr × Obj)} {σ : L2.St} {H G : Hp} {st : Shared} {os : Ow} {v : V} {x : α} {u : Value}, Inv X pins σ H st → HH G os H → τ.rep G v x → RelV v u → ∃ as, Reads st.heap u (dat x) as
instance : Sho tInt 0 := ⟨PyData.int, fun _ => Nat.le_refl _, fun _ => by simp only [PyData.hasDict], fun {X pins σ H G st os v x u} I hh (r : v = .int x) h => by
  subst r
  obtain ⟨k, rfl⟩ := h
  exact ⟨_, .int x k⟩⟩
instance : Sho tStr 0 := ⟨PyData.str, fun _ => Nat.le_refl _, fun _ => by simp only [PyData.hasDict], fun {X pins σ H G st os v x u} I hh (r : v = .str x) h => by
  subst r
  obtain ⟨k, rfl⟩ := h
  exact ⟨_, .str x k⟩⟩
instance : Sho tBool 0 := ⟨PyData.bool, fun _ => Nat.le_refl _, fun _ => by simp only [PyData.hasDict], fun {X pins σ H G st os v x u} I hh (r : v = .bl x) h => by
  subst r
  cases (show u = Value.bool x from h)
  exact ⟨_, .bool x⟩⟩
instance : Sho tNon 0 := ⟨fun _ => PyData.none, fun _ => Nat.le_refl _, fun _ => by simp only [PyData.hasDict], fun {X pins σ H G st os v x u} I hh (r : v = .non) h => by
  subst r
  cases (show u = Value.none from h)
  exact ⟨_, .none⟩⟩
section
variable {α β γ : Type} {τ : Ty α} {τ1 : Ty α} {τ2 : Ty β} {τ3 : Ty γ} {n n1 n2 n3 : Nat} {X : Cx} {pins : List (Addr × Obj)} {σ : L2.St} {H G : Hp} {st : Shared} {os : Ow}
theorem sho_all [S : Sho τ n] (I : Inv X pins σ H st) (hh : HH G os H) {vs : List V} {xs : List α} (p : Paired (τ.rep G) vs xs) : ∀ {us : List Value}, Vals vs us → ∃ as, ReadsAll st.heap us (xs.map S.dat) as := by
  induction p with
  | nil =>
    intro us r
    cases r
    exact ⟨_, .nil⟩
  | cons r1 _ ih =>
    intro us r
    cases r with
    | cons q1 q2 =>
      obtain ⟨as, h1⟩ := S.rd I hh r1 q1
      obtain ⟨bs, h2⟩ := ih q2
      exact ⟨_, .cons h1 h2⟩
theorem depAll [S : Sho τ n] : ∀ xs : List α, PyData.depthAll (xs.map S.dat) ≤ n
  | [] => by simp [PyData.depthAll]
  | x :: xs => by
    show PyData.depthAll (S.dat x :: xs.map S.dat) ≤ n
    rw [PyData.depthAll]
    exact Nat.max_le.mpr ⟨S.dep x, depAll xs⟩
theorem noDAll [S : Sho τ n] : ∀ xs : List α, PyData.hasDictAll (xs.map S.dat) = false
  | [] => by simp [PyData.hasDictAll]
  | x :: xs => by
    show PyData.hasDictAll (S.dat x :: xs.map S.dat) = false
    rw [PyData.hasDictAll, S.noD x, noDAll xs]
    rfl
instance shoL [S : Sho τ n] : Sho (tList τ) (n + 1) := ⟨fun xs => .list (xs.map S.dat), fun xs => by
    rw [PyData.depth]
    exact Nat.succ_le_succ (depAll xs), fun xs => by
    rw [PyData.hasDict]
    exact noDAll xs, fun {X pins σ H G st os v x u} I hh ⟨a, vs, e, g, p⟩ h => by
    subst e
    cases (show u = Value.ref a from h)
    obtain ⟨us, r, q, _⟩ := I.list (SqL.of (hh.lst g))
    obtain ⟨as, ra⟩ := sho_all I hh p r
    obtain ⟨o, h1, h2, m, h3⟩ := q.isList
    exact ⟨_, .list h1 h2 h3 (by simpa using ra)⟩⟩
instance sho2 [S1 : Sho τ1 n1] [S2 : Sho τ2 n2] : Sho (tP2 τ1 τ2) (max n1 n2 + 1) := ⟨fun x => .tuple [S1.dat x.1, S2.dat x.2], fun x => by
    rw [PyData.depth, PyData.depthAll, PyData.depthAll, PyData.depthAll]
    have := S1.dep x.1
    have := S2.dep x.2
    omega, fun x => by
    rw [PyData.hasDict, PyData.hasDictAll, PyData.hasDictAll, PyData.hasDictAll, S1.noD, S2.noD]
    rfl, fun {X pins σ H G st os v x u} I hh ⟨a, v1, v2, e, g, r1, r2⟩ h => by
    subst e
    cases (show u = Value.ref a from h)
    obtain ⟨us, r, q, _⟩ := I.tuple (SqT.of (hh.tup g))
    cases r with
    | cons q1 r => cases r with
      | cons q2 r =>
        cases r
        obtain ⟨as, ra⟩ := S1.rd I hh r1 q1
        obtain ⟨bs, rb⟩ := S2.rd I hh r2 q2
        obtain ⟨o, h1, h2, m, h3⟩ := q
        exact ⟨_, .tuple h1 h2 h3 (.cons ra (.cons rb .nil))⟩⟩
/-- repr of anything that is data -/
theorem repr_at {A : Around} {Q : Value → Shared → Prop} {E : Value → Shared → Prop} {P : Program} {w : World} {u : Value} {d : PyData} {as : List Addr} (hg : A.guards = some []) (hu : A.units + (d.depth + 1) < cLine) (r : Reads st.heap u d as) (hs : d.showable = true) (hd : d.hasDict = false) (hz : d.shown.length ≤ sizeLine)
    (hQ : ∀ h' t tk, (∀ b o, st.heap.get? b = some o → h'.get? b = some o) → Q (.str d.shown t) { st with heap := h', toks := tk }) : wpAny (model P w) A (call (.builtin "repr") [u]) Q E st := by
  have same : ∀ (b : Addr) (o : Obj), st.heap.get? b = some o → st.heap.get? b = some o := fun _ _ e => e
  cases r with
  | none => exact PySem.P.repr_of_none (by have := hQ st.heap st.toks (st.toks + 1) same; rw [PyData.shown] at this; exact this)
  | bool b => exact PySem.P.repr_of_bool (by have := hQ st.heap st.toks (st.toks + 1) same; rw [PyData.shown] at this; exact this)
  | int i t => exact PySem.P.repr_of_int (by rw [PyData.showable] at hs; exact of_decide_eq_true hs) (by have := hQ st.heap st.toks (st.toks + 1) same; rw [PyData.shown] at this; exact this)
  | str x t => exact PySem.P.repr_of_str (by have := hQ st.heap st.toks (st.toks + 1) same; rw [PyData.shown] at this; exact this) (by rw [PyData.shown] at hz; exact hz)
  | list h1 h2 h3 h4 => exact repr_of_reads' (.list h1 h2 h3 h4) hs (PyData.noDict_hsm hd) hg hu same (fun h' u tk k => hQ h' u tk k) hz
  | tuple h1 h2 h3 h4 => exact repr_of_reads' (.tuple h1 h2 h3 h4) hs (PyData.noDict_hsm hd) hg hu same (fun h' u tk k => hQ h' u tk k) hz
  | dict h1 h2 h3 h4 h5 => rw [PyData.hasDict] at hd; cases hd
/-- it can be shown -/
def Shw (d : PyData) : Prop := d.showable = true ∧ d.shown.length ≤ sizeLine
instance (d : PyData) : Decidable (Shw d) := inferInstanceAs (Decidable (_ ∧ _))
def rRepr (τ : Ty α) [S : Sho τ n] : List V → Hp → VK → Prop := fun xs H Q => ∃ G os v x, xs = [v] ∧ HH G os H ∧ τ.rep G v x ∧ Shw (S.dat x) ∧ Q (.str (S.dat x).shown) H
theorem call_repr [S : Sho τ n] (hg : X.A.guards = some []) (hu : X.A.units + n + 1 < cLine) : CallR X (.builtin "repr") (rRepr τ) := by
  intro pins s σ H xs us Q I r h
  obtain ⟨G, os, v, x, rfl, hh, rv, ⟨h1, h2⟩, q⟩ := h
  obtain ⟨u, rfl, ru⟩ := vals1 r
  obtain ⟨as, rd⟩ := S.rd I hh rv ru
  exact repr_at hg (by have := S.dep x; omega) rd h1 (S.noD x) h2 fun h' t tk k => ⟨.str _, H, I.kept k, ⟨_, rfl⟩, q⟩
end
end Sl

set_option Elab.async false
set_option linter.all false
set_option maxRecDepth 100000
namespace Sl
open PySem PySem.Spec PyProof.Rows L2 Dl
section
variable {α β γ δ : Type} {τ τ1 : Ty α} {τ2 : Ty β} {τ3 : Ty γ} {τ4 : Ty δ} {n n1 n2 n3 n4 : Nat}
instance shoO [S : Sho τ n] : Sho (tOpt τ) n := ⟨fun x => match x with
    | none => .none
    | some y => S.dat y, fun x => by cases x with
    | none => exact Nat.zero_le _
    | some y => exact S.dep y, fun x => by cases x with
    | none => simp only [PyData.hasDict]
    | some y => exact S.noD y, fun {X pins σ H G st os v x u} I hh r h => by
    rcases r with ⟨rfl, rfl⟩ | ⟨y, rfl, _, r⟩
    · cases (show u = Value.none from h)
      exact ⟨_, .none⟩
    · exact S.rd I hh r h⟩
instance shoS [S1 : Sho τ1 n1] [S2 : Sho τ2 n2] : Sho (tSum τ1 τ2) (max n1 n2) := ⟨fun x => match x with
    | .inl y => S1.dat y
    | .inr y => S2.dat y, fun x => by cases x with
    | inl y => exact Nat.le_trans (S1.dep y) (Nat.le_max_left _ _)
    | inr y => exact Nat.le_trans (S2.dep y) (Nat.le_max_right _ _), fun x => by cases x with
    | inl y => exact S1.noD y
    | inr y => exact S2.noD y, fun {X pins σ H G st os v x u} I hh r h => by
    rcases r with ⟨y, rfl, r⟩ | ⟨y, rfl, r⟩
    · exact S1.rd I hh r h
    · exact S2.rd I hh r h⟩
instance shoT [S : Sho τ n] : Sho (tTup τ) (n + 1) := ⟨fun xs => .tuple (xs.map S.dat), fun xs => by
    rw [PyData.depth]
    exact Nat.succ_le_succ (depAll xs), fun xs => by
    rw [PyData.hasDict]
    exact noDAll xs, fun {X pins σ H G st os v x u} I hh ⟨a, vs, e, g, p⟩ h => by
    subst e
    cases (show u = Value.ref a from h)
    obtain ⟨us, r, q, _⟩ := I.tuple (SqT.of (hh.tup g))
    obtain ⟨as, ra⟩ := sho_all I hh p r
    obtain ⟨o, h1, h2, m, h3⟩ := q
    exact ⟨_, .tuple h1 h2 h3 (by simpa using ra)⟩⟩
instance sho3 [S1 : Sho τ1 n1] [S2 : Sho τ2 n2] [S3 : Sho τ3 n3] : Sho (tP3 τ1 τ2 τ3) (max n1 (max n2 n3) + 1) := ⟨fun x => .tuple [S1.dat x.1, S2.dat x.2.1, S3.dat x.2.2], fun x => by
    rw [PyData.depth, PyData.depthAll, PyData.depthAll, PyData.depthAll, PyData.depthAll]
    have := S1.dep x.1
    have := S2.dep x.2.1
    have := S3.dep x.2.2
    omega, fun x => by
    rw [PyData.hasDict, PyData.hasDictAll, PyData.hasDictAll, PyData.hasDictAll, PyData.hasDictAll, S1.noD, S2.noD, S3.noD]
    rfl, fun {X pins σ H G st os v x u} I hh ⟨a, v1, v2, v3, e, g, r1, r2, r3⟩ h => by
    subst e
    cases (show u = Value.ref a from h)
    obtain ⟨us, r, q, _⟩ := I.tuple (SqT.of (hh.tup g))
    cases r with
    | cons q1 r => cases r with
      | cons q2 r => cases r with
        | cons q3 r =>
          cases r
          obtain ⟨as, ra⟩ := S1.rd I hh r1 q1
          obtain ⟨bs, rb⟩ := S2.rd I hh r2 q2
          obtain ⟨cs, rc⟩ := S3.rd I hh r3 q3
          obtain ⟨o, h1, h2, m, h3⟩ := q
          exact ⟨_, .tuple h1 h2 h3 (.cons ra (.cons rb (.cons rc .nil)))⟩⟩
instance shoL2 [S1 : Sho τ1 n1] [S2 : Sho τ2 n2] : Sho (tL2 τ1 τ2) (max n1 n2 + 1) := ⟨fun x => .list [S1.dat x.1, S2.dat x.2], fun x => by
    rw [PyData.depth, PyData.depthAll, PyData.depthAll, PyData.depthAll]
    have := S1.dep x.1
    have := S2.dep x.2
    omega, fun x => by
    rw [PyData.hasDict, PyData.hasDictAll, PyData.hasDictAll, PyData.hasDictAll, S1.noD, S2.noD]
    rfl, fun {X pins σ H G st os v x u} I hh ⟨a, v1, v2, e, g, r1, r2⟩ h => by
    subst e
    cases (show u = Value.ref a from h)
    obtain ⟨us, r, q, _⟩ := I.list (SqL.of (hh.lst g))
    cases r with
    | cons q1 r => cases r with
      | cons q2 r =>
        cases r
        obtain ⟨as, ra⟩ := S1.rd I hh r1 q1
        obtain ⟨bs, rb⟩ := S2.rd I hh r2 q2
        obtain ⟨o, h1, h2, m, h3⟩ := q.isList
        exact ⟨_, .list h1 h2 h3 (.cons ra (.cons rb .nil))⟩⟩
/-- what x is, as it is shown -/
def dat (τ : Ty α) [S : Sho τ n] (x : α) : PyData := S.dat x
/-- two things are shown alike -/
def alike (d e : PyData) : Bool := decide (d.shown = e.shown)
theorem alike_same {d : PyData} : alike d d = true := decide_eq_true rfl
end
theorem bt_repr : bootBuiltins "repr" = some (.builtin "repr") := by decide +kernel
section
variable {X : Cx} {Γ : Ct} {m : Option Ct} {α β : Type} {τ : Ty α} {τ2 : Ty β} {n n1 n2 : Nat} {s : Sh} {pos p : Pos} {e : Expr}
theorem va_repr [S : Sho τ n] {x : α} (h : Shw (S.dat x)) : VA [fz τ x] (fz tStr (S.dat x).shown) (rRepr τ) := va_one fun v G H os o Q at_ ⟨_, r⟩ k => ⟨G, os, v, x, rfl, at_.1, r, h, k.fz at_.1 rfl⟩
theorem aj_one (he : EJ X e Γ m s) (h1 : starEach [e] X.env = (false, eval e X.env) :: starEach [] X.env := by rfl) : AJ X [e] Γ m [.val s] := by
  have h := aj_cons he aj_nil h1
  have q : cmb m none = m := by cases m <;> rfl
  rw [q] at h
  exact h
theorem ej_repr [S : Sho τ n] {x : α} (hg : X.A.guards = some []) (hu : X.A.units + n + 1 < cLine) (hm : X.mg "repr" = none) (hl : Gl X "repr") (hs : Shw (S.dat x)) (he : EJ X e Γ m (fz τ x)) (h1 : starEach [e] X.env = (false, eval e X.env) :: starEach [] X.env := by rfl) (h2 : (backTo pos (starEach [] X.env)).any (·.1) = false := by rfl) :
    EJ X (.Call (.Name "repr" p) [e] [] pos) Γ m (fz tStr (S.dat x).shown) :=
  ej_b (ss := [_]) (call_repr hg hu) (va_repr hs) hl hm bt_repr (aj_one he h1) (by decide) (by decide) h1 h2
/-- what a def that compares by repr promises -/
def Psame : Phi := fun ss r L => ∃ (α β : Type) (τ : Ty α) (τ2 : Ty β) (n1 n2 : Nat) (S1 : Sho τ n1) (S2 : Sho τ2 n2) (x : α) (y : β), n1 ≤ 20 ∧ n2 ≤ 20 ∧ Shw (dat τ x) ∧ Shw (dat τ2 y) ∧ ss = [fz τ x, fz τ2 y] ∧ r = fz tBool (alike (dat τ x) (dat τ2 y)) ∧ L = []
end
end Sl

set_option Elab.async false
set_option linter.all false
set_option maxRecDepth 100000
namespace Sl
open PySem PySem.Spec PyProof.Rows L2 Dl
/-! ### a place that can be written: what stands there is s; with s' there the names hold u s' -/
def FP (u : Sh → Ct) (s : Sh) (σ : L2.St) (G : Hp) (os : Ow) (v : V) : Prop :=
  ∃ o rest, os.Perm (o ++ rest) ∧ s.p G o v ∧ ∀ G' s' o', Same G G' → s'.p G' o' v → ∃ os', os'.Perm (o' ++ rest) ∧ StA (u s') σ G' os'
theorem FP.mono {u : Sh → Ct} {s : Sh} {σ : L2.St} {G G1 : Hp} {os : Ow} {v : V} (f : FP u s σ G os v) (sm : Same G G1) : FP u s σ G1 os v :=
  let ⟨o, rest, pm, hs, back⟩ := f
  ⟨o, rest, pm, s.mono sm hs, fun G' s' o' sm' => back G' s' o' (sm.trans sm')⟩
def tF (Γ : Ct) (s : Sh) (u : Sh → Ct) : TE := fun σ H Q => ∃ G os F, HH G (os ++ F) H ∧ StA Γ σ G os ∧ ∀ v G' H', Same G G' → HH G' (os ++ F) H' → FP u s σ G' os v → Q v H'
abbrev FJ (X : Cx) (e : Expr) (Γ : Ct) (s : Sh) (u : Sh → Ct) : Prop := PE X e (tF Γ s u)
/-- one of things side by side, that may be another one -/
theorem Shs.take {G : Hp} : ∀ {ss : List Sh} {o : Ow} {vs : List V} {j : Nat} {sj : Sh}, Shs ss G o vs → ss[j]? = some sj →
    ∃ v oj ro, vs[j]? = some v ∧ sj.p G oj v ∧ o.Perm (oj ++ ro) ∧ ∀ G' s' o', Same G G' → s'.p G' o' v → ∃ o2, o2.Perm (o' ++ ro) ∧ Shs (ss.set j s') G' o2 vs
  | s :: ss, _, _, 0, sj, ⟨v, vr, o1, o2, e1, e2, h1, h2⟩, hj => by
    simp only [List.getElem?_cons_zero, Option.some.injEq] at hj
    subst hj e1 e2
    exact ⟨v, o1, o2, rfl, h1, .refl _, fun G' s' o' sm h' => ⟨o' ++ o2, .refl _, v, vr, o', o2, rfl, rfl, h', h2.mono sm⟩⟩
  | s :: ss, _, _, j + 1, sj, ⟨v, vr, o1, o2, e1, e2, h1, h2⟩, hj => by
    subst e1 e2
    obtain ⟨v', oj, ro, q1, q2, q3, back⟩ := Shs.take (j := j) h2 (by simpa using hj)
    refine ⟨v', oj, o1 ++ ro, by simpa using q1, q2, (List.Perm.append_left o1 q3).trans (perm_mid o1 oj ro), fun G' s' o' sm h' => ?_⟩
    obtain ⟨o3, p3, r3⟩ := back G' s' o' sm h'
    exact ⟨o1 ++ o3, (List.Perm.append_left o1 p3).trans (perm_mid o1 o' ro), v, vr, o1, o3, rfl, rfl, s.mono sm h1, r3⟩
section
variable {X : Cx} {P : Pn} {Γ : Ct} {m : Option Ct} {α β κ : Type} {τ τ1 : Ty α} {τ2 : Ty β} {s s1 : Sh} {pos p apos nm : Pos} {a b e o idx : Expr} {ss : List Sh} {x f : Str} {kd : Kd κ} {C : Addr} {ns : List Str} {xs : List α} {i j : Nat} {rest : List Stmt} {R : Po} {u : Sh → Ct}
theorem fj_var (hN : X.N[i]? = some x) (hv : Vis X.env.scope x) (hi : Γ[i]? = some (some s)) (hd : (x == ("__debug__" : Str)) = false := by decide) (hcd : (x == ("__classdict__" : Str)) = false := by decide) : FJ X (.Name x pos) Γ s (fun s' => Γ.set i (some s')) := by
  refine pe_to (pe_var (i := i) hN hv hd hcd) fun σ H Q ⟨G, os, F, hh, st, k⟩ => ?_
  obtain ⟨v, o, rest, a1, a2, a3, a4, a5⟩ := st.take hi
  exact ⟨v, a1, k v G H (Same.refl _) hh ⟨o, rest, a3, a2, a5⟩⟩
/-- o.f -/
theorem fj_fld {sj : Sh} (ho : FJ X o Γ (oIns C ns ss) u) (hc : Cls X.K C) (hn : NoAttr X.K C f) (hj : ixOf f ns = some j) (hy : ss[j]? = some sj) (hb : attributeBase o f X.env (eval o X.env) = eval o X.env := by rfl) :
    FJ X (.Attribute o f pos) Γ sj (fun s' => u (oIns C ns (ss.set j s'))) :=
  pe_to (pe_fld ho hb) fun σ H Q ⟨G, os, F, hh, st, k⟩ => ⟨G, os, F, hh, st, fun v G1 H1 sm1 hh ⟨ow, rest, pm, ⟨ad, dx, vs, o6, e0, eo, l, sh⟩, back⟩ => by
    subst e0 eo
    obtain ⟨w, oj, ro, q1, q2, q3, bk⟩ := sh.take hy
    refine ⟨ad, C, dx, _, w, rfl, (at_of hh pm).own, hc, hn, by rw [zip_lookup hj l]; exact q1, k w G1 H1 sm1 hh ⟨oj, (ad, .ins C dx (ns.zip vs)) :: (ro ++ rest), ?_, q2, fun G' s' o' sm h' => ?_⟩⟩
    · refine pm.trans ?_
      rw [List.cons_append]
      refine (List.Perm.cons _ (List.Perm.append_right rest q3)).trans ?_
      rw [List.append_assoc]
      exact List.perm_middle.symm
    · obtain ⟨o3, p3, r3⟩ := bk G' s' o' sm h'
      obtain ⟨os', p4, st4⟩ := back G' (oIns C ns (ss.set j s')) ((ad, .ins C dx (ns.zip vs)) :: o3) sm ⟨ad, dx, vs, o3, rfl, rfl, l, r3⟩
      refine ⟨os', p4.trans ?_, st4⟩
      rw [List.cons_append]
      refine (List.Perm.cons _ (List.Perm.append_right rest p3)).trans ?_
      rw [List.append_assoc]
      exact List.perm_middle.symm⟩
/-- o[k] of a list of things that may be owned -/
theorem fj_ix {sj : Sh} {k : Int} (ho : FJ X o Γ (oLst ss) u) (hi : EJ X idx Γ none (fz tInt k)) (hj : ixN ss.length k = some j) (hy : ss[j]? = some sj) (hs : PlainIx idx) :
    FJ X (.Subscript o idx pos) Γ sj (fun s' => u (oLst (ss.set j s'))) :=
  pe_to (pe_ix ix_list ho hi hs) fun σ H Q ⟨G, os, F, hh, st, k'⟩ => go_op ⟨G, os, F, hh, st, fun v G1 H1 sm1 h1 ⟨ow, rest, pm, ⟨ad, vs, o6, e0, eo, sh⟩, back⟩ => tT.one ⟨G1, os, F, h1, st.mono sm1, fun w G' os' H' sm h' (e' : os' = os) (r : w = .int k) => by
    subst e' e0 eo r
    obtain ⟨y, oj, ro, q1, q2, q3, bk⟩ := (sh.mono sm).take hy
    have hl := sh.len
    have hix : atI vs k = some y := by
      unfold atI
      rw [hl, hj]
      exact q1
    refine ⟨ad, vs, k, y, rfl, rfl, SqL.of (at_of h' pm).own, hix, k' y G' H' (sm1.trans sm) h' ⟨oj, (ad, .lst vs) :: (ro ++ rest), ?_, q2, fun G2 s' o' sm2 h2 => ?_⟩⟩
    · refine pm.trans ?_
      rw [List.cons_append]
      refine (List.Perm.cons _ (List.Perm.append_right rest q3)).trans ?_
      rw [List.append_assoc]
      exact List.perm_middle.symm
    · obtain ⟨o3, p3, r3⟩ := bk G2 s' o' sm2 h2
      obtain ⟨os4, p4, st4⟩ := back G2 (oLst (ss.set j s')) ((ad, .lst vs) :: o3) (sm.trans sm2) ⟨ad, vs, o3, rfl, rfl, r3⟩
      refine ⟨os4, p4.trans ?_, st4⟩
      rw [List.cons_append]
      refine (List.Perm.cons _ (List.Perm.append_right rest p3)).trans ?_
      rw [List.append_assoc]
      exact List.perm_middle.symm⟩⟩
/-- o.append(e), e data that changes nothing -/
theorem ej_appF {y : α} (ho : FJ X o Γ (oL τ xs) u) (ha : AJ X [e] Γ none [.val (fz τ y)]) (hz : Sm xs.length)
    (hbase : attributeBase o "append" X.env (eval o X.env) = eval o X.env := by rfl)
    (hfew : ((backTo pos (starEach [e] X.env)).all (fun x => !x.1) && (backToKw pos (keywordEach [] X.env)).all (fun x => x.1.isSome) && decide ([e].length + ([] : List Keyword).length + (if ([] : List Keyword).isEmpty then 0 else 1) < 30)) = true := by rfl)
    (hline : (apos.endLine == pos.line) = true := by rfl) (hs : starEach [e] X.env = (false, eval e X.env) :: starEach [] X.env := by rfl) (hplain : (backTo pos (starEach [] X.env)).any (·.1) = false := by rfl) :
    EJ X (.Call (.Attribute o "append" apos) [e] [] pos) Γ (some (u (oL τ (xs ++ [y])))) (fz tNon ()) :=
  pe_to (pe_bm PySem.F.plainAttrs_list PySem.F.slot_list_append PySem.F.type_list_append mt_append ho ha hbase hfew hline hs hplain) fun σ H Q ⟨G, os, F, hh, st, k⟩ => by
    refine go_tbm ⟨G, os, F, hh, st, fun v G1 H1 sm1 h1 ⟨ow, rest, pm, ⟨ad, vs, e0, eo, pr⟩, back⟩ => ⟨?_, ⟨G1, os, F, h1, st.mono sm1, fun ws G2 o1 os1 H2 sm2 h2 (af2 : os1 = os) ⟨w, wr, o2, o3, e1, e2, ⟨e3, rw_⟩, e4, e5⟩ => ?_⟩⟩⟩
    · subst e0 eo
      exact .inl ⟨rfl, vs, SqL.of (at_of h1 pm).own⟩
    · subst e1 e4 e2 e3 e5 af2 e0 eo
      have hz' : vs.length < sizeLine := Sm.lt (by rw [pr_len pr]; exact hz)
      have h2' : HH G2 (os1 ++ F) H2 := h2
      have hput : HH G2 ((ad, .lst (vs ++ [w])) :: (rest ++ F)) (upd H2 ad (.lst (vs ++ [w]))) := (h2'.perm (List.Perm.append_right F pm)).put nf_lst
      obtain ⟨os4, p4, st4⟩ := back G2 (oL τ (xs ++ [y])) [(ad, .lst (vs ++ [w]))] sm2 ⟨ad, _, rfl, rfl, pr_snoc (pair_mono sm2 pr) rw_⟩
      exact ⟨ad, vs, w, rfl, rfl, (at_of h2' pm).own, hz', k .non G2 [] os4 _ (sm1.trans sm2) (hput.perm (List.Perm.append_right F p4.symm)) st4 ⟨rfl, rfl⟩⟩
end
end Sl

set_option Elab.async false
set_option linter.all false
set_option maxRecDepth 100000
namespace Sl
open PySem PySem.Spec PyProof.Rows L2 Dl
theorem pr_app' {α β : Type} {F : α → β → Prop} : ∀ {l l2 : List α} {m m2 : List β}, Paired F l m → Paired F l2 m2 → Paired F (l ++ l2) (m ++ m2)
  | _, _, _, _, .nil, h => h
  | _, _, _, _, .cons r t, h => .cons r (pr_app' t h)
/-- the least, the greatest -/
def minL : List Int → Int
  | [] => 0
  | x :: xs => xs.foldl min x
def maxL : List Int → Int
  | [] => 0
  | x :: xs => xs.foldl max x
theorem foldl_min_le : ∀ {xs : List Int} {x : Int}, xs.foldl min x ≤ x ∧ ∀ y ∈ xs, xs.foldl min x ≤ y
  | [], x => ⟨Int.le_refl _, fun _ h => nomatch h⟩
  | z :: zs, x => by
    obtain ⟨h1, h2⟩ := foldl_min_le (xs := zs) (x := min x z)
    rw [List.foldl_cons]
    refine ⟨by omega, fun y hy => ?_⟩
    rcases List.mem_cons.mp hy with e | hy
    · subst e
      omega
    · exact h2 y hy
theorem foldl_min_mem : ∀ {xs : List Int} {x : Int}, xs.foldl min x = x ∨ xs.foldl min x ∈ xs
  | [], x => .inl rfl
  | z :: zs, x => by
    rw [List.foldl_cons]
    rcases foldl_min_mem (xs := zs) (x := min x z) with h | h
    · rw [h]
      rcases Int.le_total x z with q | q
      · exact .inl (Int.min_eq_left q)
      · exact .inr (by rw [Int.min_eq_right q]; exact List.mem_cons_self ..)
    · exact .inr (List.mem_cons_of_mem _ h)
theorem foldl_max_le : ∀ {xs : List Int} {x : Int}, x ≤ xs.foldl max x ∧ ∀ y ∈ xs, y ≤ xs.foldl max x
  | [], x => ⟨Int.le_refl _, fun _ h => nomatch h⟩
  | z :: zs, x => by
    obtain ⟨h1, h2⟩ := foldl_max_le (xs := zs) (x := max x z)
    rw [List.foldl_cons]
    refine ⟨by omega, fun y hy => ?_⟩
    rcases List.mem_cons.mp hy with e | hy
    · subst e
      omega
    · exact h2 y hy
theorem foldl_max_mem : ∀ {xs : List Int} {x : Int}, xs.foldl max x = x ∨ xs.foldl max x ∈ xs
  | [], x => .inl rfl
  | z :: zs, x => by
    rw [List.foldl_cons]
    rcases foldl_max_mem (xs := zs) (x := max x z) with h | h
    · rw [h]
      rcases Int.le_total z x with q | q
      · exact .inl (Int.max_eq_left q)
      · exact .inr (by rw [Int.max_eq_right q]; exact List.mem_cons_self ..)
    · exact .inr (List.mem_cons_of_mem _ h)
theorem minL_mem {xs : List Int} (h : xs ≠ []) : minL xs ∈ xs ∧ ∀ y ∈ xs, minL xs ≤ y := by
  cases xs with
  | nil => exact absurd rfl h
  | cons x xs =>
    obtain ⟨h1, h2⟩ := foldl_min_le (xs := xs) (x := x)
    refine ⟨?_, fun y hy => ?_⟩
    · rcases foldl_min_mem (xs := xs) (x := x) with q | q
      · show xs.foldl min x ∈ _
        rw [q]
        exact List.mem_cons_self ..
      · exact List.mem_cons_of_mem _ q
    · rcases List.mem_cons.mp hy with e | hy
      · subst e
        exact h1
      · exact h2 y hy
theorem maxL_mem {xs : List Int} (h : xs ≠ []) : maxL xs ∈ xs ∧ ∀ y ∈ xs, y ≤ maxL xs := by
  cases xs with
  | nil => exact absurd rfl h
  | cons x xs =>
    obtain ⟨h1, h2⟩ := foldl_max_le (xs := xs) (x := x)
    refine ⟨?_, fun y hy => ?_⟩
    · rcases foldl_max_mem (xs := xs) (x := x) with q | q
      · show xs.foldl max x ∈ _
        rw [q]
        exact List.mem_cons_self ..
      · exact List.mem_cons_of_mem _ q
    · rcases List.mem_cons.mp hy with e | hy
      · subst e
        exact h1
      · exact h2 y hy
/-- a dict of pairs -/
def ofPairs {κ α : Type} [DecidableEq κ] (xs : List (κ × α)) : List (κ × α) := xs.foldl (fun d p => aput d p.1 p.2) []
section
variable {X : Cx} {Γ Γ' Γ1 Γ2 : Ct} {m m1 m2 : Option Ct} {α β γ δ κ : Type} {τ τ1 : Ty α} {τ2 : Ty β} {τ3 : Ty γ} {τ4 : Ty δ} {s s1 s2 : Sh} {pos p : Pos} {a b c e tg : Expr} {es : List Expr} {us vs : List Nat} {kd : Kd κ} {K : PySem.W.Frag} {xs : List α}
/-- list + list -/
theorem v2_cat {ys : List α} (hz : Sm (xs.length + ys.length)) : V2 (fz (tList τ) xs) (tList τ) ys (oL τ (xs ++ ys)) rCat := by
  rintro v w G H os o Q at_ ⟨_, a, vs, e1, g1, p1⟩ ⟨b, ws, e2, g2, p2⟩ k
  exact ⟨a, b, vs, ws, e1, e2, at_.1.lst g1, at_.1.lst g2, (by rw [pr_len p1, pr_len p2]; exact Sm.le hz), fun q nq => k (.ref q) G [(q, .lst (vs ++ ws))] _ (Same.refl _) (at_.1.push nq) ⟨q, _, rfl, rfl, pr_app' p1 p2⟩⟩
theorem ej_cat {ys : List α} (ha : EJ X a Γ m1 (fz (tList τ) xs)) (hb : EJ X b (out Γ m1) m2 (fz (tList τ) ys)) (hz : Sm (xs.length + ys.length)) : EJ X (.BinOp a .Add b pos) Γ (cmb m1 m2) (oL τ (xs ++ ys)) := ej_op op_cat (v2_cat hz) ha hb
theorem va_minL {ns : List Int} (h : RdL s tInt ns) (hn : ns ≠ []) : VA [s] (fz tInt (minL ns)) (rMin K) := va_one fun v G H os o Q at_ hs k => by
  obtain ⟨a, vs, e, g, pr⟩ := h G H os o v at_ hs
  subst e
  rw [pr_ints' pr] at g
  refine ⟨a, ns, rfl, SqL.of g, List.length_pos_iff.mpr hn, fun m h1 h2 => ?_⟩
  obtain ⟨q1, q2⟩ := minL_mem hn
  have e : m = minL ns := Int.le_antisymm (h2 _ q1) (q2 _ h1)
  subst e
  exact k.fz at_.1 rfl
theorem va_maxL {ns : List Int} (h : RdL s tInt ns) (hn : ns ≠ []) : VA [s] (fz tInt (maxL ns)) (rMax K) := va_one fun v G H os o Q at_ hs k => by
  obtain ⟨a, vs, e, g, pr⟩ := h G H os o v at_ hs
  subst e
  rw [pr_ints' pr] at g
  refine ⟨a, ns, rfl, SqL.of g, List.length_pos_iff.mpr hn, fun m h1 h2 => ?_⟩
  obtain ⟨q1, q2⟩ := maxL_mem hn
  have e : m = maxL ns := Int.le_antisymm (q2 _ h1) (h2 _ q1)
  subst e
  exact k.fz at_.1 rfl
/-- dict([(k, v), ..]) -/
def rDictP (K : PySem.W.Frag) : List V → Hp → VK → Prop := fun xs H Q => ∃ (a : Addr) (ps : List Addr) (kvs : List (Key × V)), xs = [.ref a] ∧ SqL K H a (ps.map V.ref) ∧ Paired (fun p kv => SqT K H p [kV kv.1, kv.2]) ps kvs ∧ ∀ p, H p = none → Q (.ref p) (upd H p (.dK (mergeK [] kvs)))
theorem cl_dictP (hc : X.calm = true) : CallR X (.type "dict") (rDictP X.K) := call_dictP hc
theorem kr_pairs {kd : Fk κ} {τk : Ty κ} [FkTy kd τk] {G H : Hp} {os : Ow} (hh : HH G os H) : ∀ {vs : List V} {xs : List (κ × α)}, Paired ((tP2 τk τ).rep G) vs xs → ∃ (ps : List Addr) (kvs : List (Key × V)), vs = ps.map V.ref ∧ Paired (fun p kv => SqT K H p [kV kv.1, kv.2]) ps kvs ∧ Paired (KR (kF kd) τ G) kvs xs
  | _, _, .nil => ⟨[], [], rfl, .nil, .nil⟩
  | _, _, .cons (b := x) ⟨a, v1, v2, e, g, r1, r2⟩ t => by
    obtain ⟨ps, kvs, e2, h1, h2⟩ := kr_pairs hh t
    have e1 := FkTy.is G v1 x.1 r1
    subst e e1 e2
    exact ⟨a :: ps, (kd.enc x.1, v2) :: kvs, rfl, .cons (SqT.of (hh.tup g)) h1, .cons ⟨rfl, r2⟩ h2⟩
theorem kr_merge [DecidableEq κ] {kd : Fk κ} {G : Hp} {kvs : List (Key × V)} {xs : List (κ × α)} (t : Paired (KR (kF kd) τ G) kvs xs) : ∀ {acc : List (Key × V)} {d : List (κ × α)}, Paired (KR (kF kd) τ G) acc d → (d.map Prod.fst).Nodup →
    Paired (KR (kF kd) τ G) (mergeK acc kvs) (xs.foldl (fun d p => aput d p.1 p.2) d) ∧ ((xs.foldl (fun d p => aput d p.1 p.2) d).map Prod.fst).Nodup := by
  induction t with
  | nil => exact fun h n => ⟨h, n⟩
  | @cons q x l l2 r t ih =>
    intro acc d h n
    have h1 := kr_put (kd := kF kd) x.1 r.2 h
    rw [← r.1] at h1
    exact ih h1 (aput_nd n)
theorem va_dictP [DecidableEq κ] {kd : Fk κ} {τk : Ty κ} [FkTy kd τk] {xs : List (κ × α)} (h : RdL s (tP2 τk τ) xs) : VA [s] (oD (kF kd) τ (ofPairs xs)) (rDictP K) := va_one fun v G H os o Q at_ hs k => by
  obtain ⟨a, vs, e, g, pr⟩ := h G H os o v at_ hs
  obtain ⟨ps, kvs, e2, h1, h2⟩ := kr_pairs (K := K) (kd := kd) at_.1 pr
  subst e e2
  obtain ⟨q1, q2⟩ := kr_merge (d := []) h2 .nil List.nodup_nil
  exact ⟨a, ps, kvs, rfl, SqL.of g, h1, fun q nq => k (.ref q) G [(q, .dK (mergeK [] kvs))] _ (Same.refl _) (at_.1.push nq) ⟨q, _, rfl, rfl, q1, q2⟩⟩
/-! zip, enumerate -/
theorem wk_zip {G : Hp} {ys : List β} {p q : Addr} {vs ws : List V} (e1 : G p = some (.lst vs)) (r1 : Paired (τ1.rep G) vs xs) (e2 : G q = some (.lst ws)) (r2 : Paired (τ2.rep G) ws ys) : Wk (Itz K p q) G (xs.zip ys) (fz (tP2 τ1 τ2)) := fun G' os H' s h => by
  have a1 : H' p = some (.lst vs) := h.lst (s _ _ e1)
  have a2 : H' q = some (.lst ws) := h.lst (s _ _ e2)
  refine ⟨⟨vs, ws, SqL.of a1, SqL.of a2, ?_⟩, fun i y hy => ?_⟩
  · rw [List.length_zip, pr_len r1, pr_len r2]
    omega
  · obtain ⟨z1, z2⟩ : xs[i]? = some y.1 ∧ ys[i]? = some y.2 := by
      have := List.getElem?_zip_eq_some.mp hy
      exact this
    obtain ⟨v, hv, rv⟩ := pr_get2 r1 z1
    obtain ⟨w, hw, rw_⟩ := pr_get2 r2 z2
    refine ⟨⟨vs, ws, v, w, SqL.of a1, SqL.of a2, hv, hw⟩, fun x H3 ⟨T, u1, u2, e3, nT, e4, f1, f2⟩ => ?_⟩
    have g1 := f1 vs (SqL.of a1)
    have g2 := f2 ws (SqL.of a2)
    rw [hv] at g1
    rw [hw] at g2
    cases g1
    cases g2
    subst e3 e4
    have gs := h.sameG (o := .tup [v, w]) nT
    exact ⟨_, gs, h.alloc nT, rfl, T, v, w, rfl, upd_same, τ1.mono (s.trans gs) rv, τ2.mono (s.trans gs) rw_⟩
theorem wk_enum {G : Hp} {p : Addr} {vs : List V} (e1 : G p = some (.lst vs)) (r1 : Paired (τ.rep G) vs xs) : Wk (Ite K p) G ((rng 0 xs.length).zip xs) (fz (tP2 tInt τ)) := fun G' os H' s h => by
  have a1 : H' p = some (.lst vs) := h.lst (s _ _ e1)
  refine ⟨⟨vs, SqL.of a1, ?_⟩, fun i y hy => ?_⟩
  · rw [List.length_zip, pr_len r1, rng_len]
    omega
  · obtain ⟨z0, z1⟩ : (rng 0 xs.length)[i]? = some y.1 ∧ xs[i]? = some y.2 := List.getElem?_zip_eq_some.mp hy
    obtain ⟨v, hv, rv⟩ := pr_get2 r1 z1
    refine ⟨⟨vs, v, SqL.of a1, hv⟩, fun x H3 ⟨T, u1, e3, nT, e4, f1⟩ => ?_⟩
    have g1 := f1 vs (SqL.of a1)
    rw [hv] at g1
    cases g1
    have ei : y.1 = (i : Nat) := by
      have := (rng_get z0).2
      omega
    subst e3 e4
    have gs := h.sameG (o := .tup [.int (i : Nat), v]) nT
    exact ⟨_, gs, h.alloc nT, rfl, T, .int (i : Nat), v, rfl, upd_same, (show V.int _ = V.int _ by rw [ei]), τ.mono (s.trans gs) rv⟩
theorem ij_zip {ys : List β} {elts : List Expr} {kk : Nat} {tpos : Pos} (hg : Gl X "zip") (hm : X.mg "zip" = none) (ha : AJ X [a, b] Γ m [.val (fz (tList τ1) xs), .val (fz (tList τ2) ys)])
    (hs : starEach [a, b] X.env = (false, eval a X.env) :: starEach [b] X.env := by rfl) (hpl : (backTo pos (starEach [b] X.env)).any (·.1) = false := by rfl) : IJ X (.Tuple elts kk tpos) (.Call (.Name "zip" p) [a, b] [] pos) Γ m (xs.zip ys) (fz (tP2 τ1 τ2)) :=
  pi_to (pi_zip hg hm ha hs hpl) fun σ H R ⟨G, os, F, hh, st, k⟩ => ⟨G, os, F, hh, st, fun vs G1 o1 os1 H1 sm1 h1 af1 ap => by
    obtain ⟨v, vr, oa, ob, e1, e2, ⟨e3, c, cs, e9, g1, r1⟩, w, wr, oc, od, e4, e5, ⟨e6, d, ds, e10, g2, r2⟩, e7, e8⟩ := asp_vals (ss := [fz (tList τ1) xs, fz (tList τ2) ys]) ap
    subst e3 e6 e8
    subst e5
    subst e2 e7
    subst e4
    subst e1 e9 e10
    exact ⟨c, d, cs, ds, rfl, SqL.of (h1.lst g1), SqL.of (h1.lst g2), k _ G1 os1 H1 sm1 h1 af1 (wk_zip g1 r1 g2 r2)⟩⟩
theorem ij_enum {elts : List Expr} {kk : Nat} {tpos : Pos} (hg : Gl X "enumerate") (hm : X.mg "enumerate" = none) (ha : AJ X [a] Γ m [.val (fz (tList τ) xs)])
    (hs : starEach [a] X.env = [(false, eval a X.env)] := by rfl) : IJ X (.Tuple elts kk tpos) (.Call (.Name "enumerate" p) [a] [] pos) Γ m ((rng 0 xs.length).zip xs) (fz (tP2 tInt τ)) :=
  pi_to (pi_enum hg hm ha hs) fun σ H R ⟨G, os, F, hh, st, k⟩ => ⟨G, os, F, hh, st, fun vs G1 o1 os1 H1 sm1 h1 af1 ap => by
    obtain ⟨v, vr, oa, ob, e1, e2, ⟨e3, c, cs, e9, g1, r1⟩, e7, e8⟩ := asp_vals (ss := [fz (tList τ) xs]) ap
    subst e3 e8
    subst e2 e7
    subst e1 e9
    exact ⟨c, cs, rfl, SqL.of (h1.lst g1), k _ G1 os1 H1 sm1 h1 af1 (wk_enum g1 r1)⟩⟩
/-! (a, b) = a list of two -/
theorem gj_unl {k n : Nat} {ss : List Sh} (hc : X.calm = true) (h : GsJ X es vs Γ Γ' ss) (hx : ∀ (G H : Hp) (os o : Ow) (v : V), HH G os H → s.p G o v → o = [] ∧ ∃ a xs, v = .ref a ∧ SqL X.K H a xs ∧ xs.length = n ∧ Shs ss G [] xs)
    (hn : (assignEach es X.env).length = n := by rfl) (hst : (assignEach es X.env).findIdx? (·.1) = none := by rfl) : GJ X (.Tuple es k pos) vs Γ Γ' s :=
  pg_to (pg_unl hc h hn hst) fun v σ H R ⟨G, o, os, F, hh, st, ps, k⟩ => by
    obtain ⟨eo, a, xs, ev, hq, hl, hp⟩ := hx G H _ o v hh ps
    subst eo ev
    exact ⟨a, xs, rfl, hq, hl, G, os, F, hh, st, hp, k⟩
theorem gj_l2 {k : Nat} {x : α × β} (hc : X.calm = true) (h : GsJ X [a, b] vs Γ Γ' [fz τ1 x.1, fz τ2 x.2]) (hst : (assignEach [a, b] X.env).findIdx? (·.1) = none := by rfl) (hn : (assignEach [a, b] X.env).length = 2 := by rfl) : GJ X (.Tuple [a, b] k pos) vs Γ Γ' (fz (tL2 τ1 τ2) x) :=
  gj_unl hc h (fun G H os o v hh ⟨e, c, v1, v2, ev, g, r1, r2⟩ => ⟨e, c, [v1, v2], ev, SqL.of (hh.lst g), rfl, Shs.mk2 r1 r2⟩) hn hst
theorem gj_l3 {k : Nat} {x : α × β × γ} (hc : X.calm = true) (h : GsJ X [a, b, c] vs Γ Γ' [fz τ1 x.1, fz τ2 x.2.1, fz τ3 x.2.2]) (hst : (assignEach [a, b, c] X.env).findIdx? (·.1) = none := by rfl) (hn : (assignEach [a, b, c] X.env).length = 3 := by rfl) : GJ X (.Tuple [a, b, c] k pos) vs Γ Γ' (fz (tL3 τ1 τ2 τ3) x) :=
  gj_unl hc h (fun G H os o v hh ⟨e, c, v1, v2, v3, ev, g, r1, r2, r3⟩ => ⟨e, c, [v1, v2, v3], ev, SqL.of (hh.lst g), rfl, Shs.mk3 r1 r2 r3⟩) hn hst
end
end Sl

set_option Elab.async false
set_option linter.all false
set_option maxRecDepth 100000
namespace Sl
open PySem PySem.Spec PyProof.Rows L2 Dl
/-! ### lists of owned things -/
theorem Shs.snoc {G : Hp} {s : Sh} {o1 : Ow} {w : V} (pw : s.p G o1 w) : ∀ {ss : List Sh} {oo : Ow} {vs : List V}, Shs ss G oo vs → Shs (ss ++ [s]) G (oo ++ o1) (vs ++ [w])
  | [], _, _, ⟨q1, q2⟩ => by
    subst q1 q2
    exact ⟨w, [], o1, [], rfl, by rw [List.append_nil]; rfl, pw, rfl, rfl⟩
  | t :: ts, _, _, ⟨v, vr, q1, q2, q3, q4, q5, q6⟩ => by
    subst q3 q4
    exact ⟨v, vr ++ [w], q1, q2 ++ o1, rfl, by rw [List.append_assoc], q5, Shs.snoc pw q6⟩
section
variable {X : Cx} {P : Pn} {Γ Γ' Γ1 Γ2 Γm Γn : Ct} {m m0 m1 m2 : Option Ct} {α β γ δ κ ρ S : Type} {τ τ1 : Ty α} {τ2 : Ty β} {τ3 : Ty γ} {s s1 s2 : Sh} {pos p : Pos} {a b e elt tg iter kx : Expr} {es ifs : List Expr} {us vs : List Nat} {she : γ → Sh}
theorem lcO_run {items : List β} {sh : β → Sh} {f : β → Option (Option γ)} {zs : List γ} {Γy : β → Ct} {σ : L2.St} {Q : VK} {G1 : Hp} {os1 F : Ow} {H1 : Hp} {J : It} (vs : List Nat) (h : mapC f items = some zs) (hsm : Sm items.length) (hz : Zs vs Γ1)
    (st0 : StA Γ1 σ G1 os1) (h1 : HH G1 (os1 ++ F) H1) (wk : WkF F J G1 items sh) (k : ∀ v G' o H', Same G1 G' → HH G' (o ++ (os1 ++ F)) H' → (oLst (zs.map she)).p G' o v → Q v H') :
    ∀ A, H1 A = none → ∃ W : Nat → Nat → Hp → Prop, (∃ m, W 0 m (upd H1 A (.lst []))) ∧ ∀ i m H, W i m H →
      (J.stop i H ∧ Q (.ref A) H) ∨ (J.go i H ∧ ∃ Nx : Hp → Prop, (∀ H', Nx H' → ∃ m', m' < m ∧ W (i + 1) m' H') ∧ ∀ x H', J.yld i H x H' → (∃ t, (∃ y, t = tG0 vs (nones vs Γ1) (Γy y) (sh y)) ∧ t x (wipe σ vs) H' fun σ2 H2 => wipe σ2 vs = wipe σ vs ∧
        ∃ t, (∃ y oz, y ∈ items ∧ f y = some oz ∧ t = tB (Γy y) none oz.isSome) ∧ t σ2 H2 fun b H3 => if b = true then (∃ t, (∃ y z, y ∈ items ∧ f y = some (some z) ∧ t = tT (Γy y) none (she z)) ∧ t σ2 H3 fun y H4 => ∃ acc, H4 A = some (.lst acc) ∧ acc.length < sizeLine ∧ Nx (upd H4 A (.lst (acc ++ [y])))) else Nx H3)) := by
  intro A nA
  have st1 := st0.wipes vs hz
  have nil0 : Shs (([] : List γ).map she) G1 [] [] := ⟨rfl, rfl⟩
  refine ⟨fun i mm H => mm = items.length - i ∧ i ≤ items.length ∧ ∃ ws acc zr G' oa, Same G1 G' ∧ HH G' ((A, .lst ws) :: (oa ++ (os1 ++ F))) H ∧ Shs (acc.map she) G' oa ws ∧ acc.length ≤ i ∧ mapC f (items.drop i) = some zr ∧ zs = acc ++ zr, ⟨_, rfl, Nat.zero_le _, [], [], zs, G1, [], Same.refl _, h1.push nA, nil0, Nat.le_refl _, h, rfl⟩, ?_⟩
  rintro i mm H2 ⟨rfl, hle, ws, acc, zr, G2, oa, sm2, h2, pr, hal, hf, ez⟩
  obtain ⟨wst, wi⟩ := wk G2 _ H2 sm2 h2 in_fr2
  have pin : ∀ (r : Ow), ((A, HO.lst ws) :: (oa ++ (os1 ++ r))).Perm (os1 ++ ((A, HO.lst ws) :: (oa ++ r))) := fun r => perm_mid ((A, HO.lst ws) :: oa) os1 r
  by_cases hlt : i < items.length
  · obtain ⟨y, hy, hd⟩ := drop_get hlt
    rw [hd] at hf
    obtain ⟨oz, ho, hf⟩ := Option.bind_eq_some_iff.mp (show (f y).bind _ = some zr from hf)
    obtain ⟨zr', hf1, hf2⟩ := Option.bind_eq_some_iff.mp hf
    have ezr : zr = oz.toList ++ zr' := (Option.some.inj hf2).symm
    subst ezr
    obtain ⟨go, yl⟩ := wi i y hy
    have hm := List.mem_of_getElem? hy
    refine .inr ⟨go, fun H => ∃ ws acc zr G' oa, Same G1 G' ∧ HH G' ((A, .lst ws) :: (oa ++ (os1 ++ F))) H ∧ Shs (acc.map she) G' oa ws ∧ acc.length ≤ i + 1 ∧ mapC f (items.drop (i + 1)) = some zr ∧ zs = acc ++ zr, fun H' q => ⟨items.length - (i + 1), by omega, rfl, hlt, q⟩, fun x H3 y3 => ?_⟩
    obtain ⟨G3, sm3, h3, py⟩ := yl x H3 y3
    refine ⟨_, ⟨y, rfl⟩, G3, os1, (A, .lst ws) :: (oa ++ F), h3.perm (pin F), st1.mono (sm2.trans sm3), py, fun σ4 w4 st4 => ⟨by rw [w4, wipe_idem], ?_⟩⟩
    refine ⟨_, ⟨y, oz, hm, ho, rfl⟩, G3, os1, (A, .lst ws) :: (oa ++ F), h3.perm (pin F), st4, fun G5 os5 H5 sm5 h5 (e5 : os5 = os1) => ?_⟩
    subst e5
    cases oz with
    | none =>
      refine ⟨ws, acc, zr', G5, oa, (sm2.trans sm3).trans sm5, h5.perm (pin F).symm, pr.mono (sm3.trans sm5), by omega, hf1, ?_⟩
      rw [ez]; rfl
    | some z =>
      refine ⟨_, ⟨y, z, hm, ho, rfl⟩, G5, os5, (A, .lst ws) :: (oa ++ F), h5, st4.mono sm5, fun v G6 o6 os6 H6 sm6 h6 (e6 : os6 = os5) rv => ?_⟩
      subst e6
      have h6' : HH G6 ((A, .lst ws) :: ((oa ++ o6) ++ (os6 ++ F))) H6 := h6.perm (by
        refine (List.Perm.append_left o6 (pin F).symm).trans ?_
        refine (perm_mid o6 ((A, HO.lst ws) :: oa) (os6 ++ F)).trans ?_
        rw [List.cons_append, List.append_assoc])
      have e7 : ws.length = acc.length := by rw [pr.len, List.length_map]
      refine ⟨ws, h6'.get, Sm.lt (Nat.le_trans (by omega) hsm), ws ++ [v], acc ++ [z], zr', G6, oa ++ o6, ((sm2.trans sm3).trans sm5).trans sm6, h6'.put (.inr fun _ _ z => nomatch z), ?_, ?_, hf1, ?_⟩
      · rw [List.map_append]
        exact Shs.snoc rv (pr.mono ((sm3.trans sm5).trans sm6))
      · rw [List.length_append]; simp; omega
      · rw [ez, List.append_assoc]; rfl
  · have e : i = items.length := by omega
    subst e
    rw [List.drop_length] at hf
    have ezr : zr = [] := (Option.some.inj hf).symm
    subst ezr
    rw [List.append_nil] at ez
    subst ez
    exact .inl ⟨wst, k (.ref A) G2 ((A, .lst ws) :: oa) H2 sm2 h2 ⟨A, ws, oa, rfl, rfl, pr⟩⟩
section
variable {scope : Scope} {own : List (Str × Nat)} {items : List β} {sh : β → Sh} {f : β → Option (Option γ)} {zs : List γ} {Γy : β → Ct}
    (hg : ∀ (s : Shared) (H : Hp) (C : Addr) (cl : List (Str × Addr)) (fp : List Addr) y, GJ0 (Bk X s H scope C cl fp) tg (own.map (·.2)) (nones (own.map (·.2)) (out Γ m0)) (Γy y) (sh y))
    (ht : ∀ (s : Shared) (H : Hp) (C : Addr) (cl : List (Str × Addr)) (fp : List Addr) y oz, y ∈ items → f y = some oz → TsJ (Bk X s H scope C cl fp) ifs (Γy y) none oz.isSome)
    (he : ∀ (s : Shared) (H : Hp) (C : Addr) (cl : List (Str × Addr)) (fp : List Addr) y z, y ∈ items → f y = some (some z) → EJ (Bk X s H scope C cl fp) elt (Γy y) none (she z))
include hg ht he
theorem lcO_e (s : Shared) (H : Hp) (C : Addr) (cl : List (Str × Addr)) (fp : List Addr) : PE (Bk X s H scope C cl fp) elt (fun σ H Q => ∃ t, (∃ y z, y ∈ items ∧ f y = some (some z) ∧ t = tT (Γy y) none (she z)) ∧ t σ H Q) := pe_ex fun t ⟨y, z, hm, hf, e⟩ => by subst e; exact he s H C cl fp y z hm hf
theorem lcO_t (s : Shared) (H : Hp) (C : Addr) (cl : List (Str × Addr)) (fp : List Addr) : PTs (Bk X s H scope C cl fp) ifs (fun σ H Q => ∃ t, (∃ y oz, y ∈ items ∧ f y = some oz ∧ t = tB (Γy y) none oz.isSome) ∧ t σ H Q) := pts_ex fun t ⟨y, oz, hm, hf, e⟩ => by subst e; exact ht s H C cl fp y oz hm hf
theorem lcO_g (s : Shared) (H : Hp) (C : Addr) (cl : List (Str × Addr)) (fp : List Addr) : PG (Bk X s H scope C cl fp) tg (fun v σ H Q => ∃ t, (∃ y, t = tG0 (own.map (·.2)) (nones (own.map (·.2)) (out Γ m0)) (Γy y) (sh y)) ∧ t v σ H Q) := pg_ex fun t ⟨y, e⟩ => by subst e; exact hg s H C cl fp y
theorem lcO_imp (h : mapC f items = some zs) (hsm : Sm items.length) (hz : Zs (own.map (·.2)) (out Γ m0)) {σ : L2.St} {H : Hp} {Q : VK} (q : tT Γ m0 (oLst (zs.map she)) σ H Q) :
    tLc (tI Γ m0 items sh) (fun v σ H Q => ∃ t, (∃ y, t = tG0 (own.map (·.2)) (nones (own.map (·.2)) (out Γ m0)) (Γy y) (sh y)) ∧ t v σ H Q) (fun σ H Q => ∃ t, (∃ y oz, y ∈ items ∧ f y = some oz ∧ t = tB (Γy y) none oz.isSome) ∧ t σ H Q) (fun σ H Q => ∃ t, (∃ y z, y ∈ items ∧ f y = some (some z) ∧ t = tT (Γy y) none (she z)) ∧ t σ H Q) (own.map (·.2)) σ H Q := by
  obtain ⟨G, os, F, hh, st, k⟩ := q
  exact go_lc ⟨G, os, F, hh, st, fun J G1 os1 H1 sm1 h1 af wk =>
    lcO_run (own.map fun x : Str × Nat => x.2) h hsm hz (af.st st sm1) h1 wk.toF fun v G' o H' sm h' p => k v G' o os1 H' (sm1.trans sm) h' (af.mono sm) p⟩
theorem lcO (h : mapC f items = some zs) (hsm : Sm items.length) (hc : X.calm = true) (hN : X.N.Nodup) (hi : IJ X tg iter Γ m0 items sh) (ok : BlkOk X.N X.env.scope scope own) (hz : Zs (own.map (·.2)) (out Γ m0))
    (hs : ∀ x, foldedSetIterable iter X.env x = pure x := by intro _; rfl) : LcJ X (.ListComp elt [⟨tg, iter, ifs, 0⟩] scope pos) Γ m0 (oLst (zs.map she)) :=
  ⟨pe_to (pe_lc hc hN hi ok (lcO_g hg ht he) (lcO_t hg ht he) (lcO_e hg ht he) hs) fun σ H Q q => lcO_imp hg ht he h hsm hz q,
   fun hy hyl hsw => ps_to (ps_setLc hc hN hy hyl hsw hi ok (lcO_g hg ht he) (lcO_t hg ht he) (lcO_e hg ht he) hs) fun D σ H q => lcO_imp hg ht he h hsm hz q⟩
end
end
end Sl

set_option Elab.async false
set_option linter.all false
set_option maxRecDepth 100000
namespace Sl
open PySem PySem.Spec PyProof.Rows L2 Dl
/-! ### places: what is read there, what is put there -/
def ixO {α : Type} (xs : List α) (k : Int) : Nat := (ixN xs.length k).getD 0
def setI {α : Type} (xs : List α) (k : Int) (y : α) : List α := xs.set (ixO xs k) y
theorem pr_set {α β : Type} {F : α → β → Prop} {w : α} {y : β} : ∀ {vs : List α} {xs : List β}, Paired F vs xs → F w y → ∀ j, Paired F (vs.set j w) (xs.set j y)
  | _, _, .nil, _, _ => .nil
  | _, _, .cons _ t, h, 0 => .cons h t
  | _, _, .cons r t, h, j + 1 => .cons r (pr_set t h j)
theorem atI_ix {α : Type} {xs : List α} {k : Int} {d : α} (h : L2.atI xs k = some d) : ixN xs.length k = some (ixO xs k) ∧ xs[ixO xs k]? = some d := by
  unfold L2.atI at h
  obtain ⟨j, h1, h2⟩ := Option.bind_eq_some_iff.mp h
  have e : ixO xs k = j := by unfold ixO; rw [h1]; rfl
  rw [e]
  exact ⟨h1, h2⟩
section
variable {X : Cx} {P : Pn} {Γ : Ct} {m : Option Ct} {α β κ : Type} {τ τ1 : Ty α} {τ2 : Ty β} {s s1 : Sh} {pos p apos nm : Pos} {a b e o idx kx : Expr} {ss : List Sh} {x f : Str} {kd : Kd κ} {C : Addr} {ns : List Str} {xs : List α} {i j : Nat} {rest : List Stmt} {R : Po} {u : Sh → Ct}
theorem fj_ixM {f : α → Sh} {k : Int} {d : α} (ho : FJ X o Γ (oLst (xs.map f)) u) (hi : EJ X idx Γ none (fz tInt k)) (h : L2.atI xs k = some d) (hs : PlainIx idx) :
    FJ X (.Subscript o idx pos) Γ (f d) (fun s' => u (oLst ((xs.map f).set (ixO xs k) s'))) :=
  fj_ix ho hi (by rw [List.length_map]; exact (atI_ix h).1) (by rw [List.getElem?_map, (atI_ix h).2]; rfl) hs
theorem map_setI {f : α → Sh} {k : Int} {y : α} : (xs.map f).set (ixO xs k) (f y) = (setI xs k y).map f := (List.map_set).symm
theorem tOp_F2 {r : R2} {y : β} {σ : L2.St} {H : Hp} {Q : VK} (sp : V2 s1 τ2 y s r) (h : tT Γ none s σ H Q) : tOp r (tF Γ s1 u) (tT Γ none (fz τ2 y)) σ H Q := by
  obtain ⟨G, os, F, hh, st, k⟩ := h
  exact go_op ⟨G, os, F, hh, st, fun v G1 H1 sm1 h1 ⟨ow, rest, pm, hs, _⟩ => tT.one ⟨G1, os, F, h1, st.mono sm1, fun w G2 os2 H2 sm2 h2 (e : os2 = os) rw => by
    subst e
    exact sp v w G2 H2 (os2 ++ F) ow Q (at_of h2 pm) (s1.mono sm2 hs) rw fun u' G3 o3 H3 s3 h3 p3 => k u' G3 o3 os2 H3 ((sm1.trans sm2).trans s3) h3 rfl p3⟩⟩
theorem ej_ixF {r : R2} {y : β} (ho : IxR X r) (sp : V2 s1 τ2 y s r) (ha : FJ X a Γ s1 u) (hb : EJ X b Γ none (fz τ2 y)) (hs : PlainIx b) : EJ X (.Subscript a b pos) Γ none s :=
  pe_to (pe_ix ho ha hb hs) fun σ H Q h => tOp_F2 sp h
/-- o.f, data, of an owned instance -/
theorem ej_fldF {y : α} (ho : FJ X o Γ s u) (h : RdI s C ns ss) (hc : Cls X.K C) (hn : NoAttr X.K C f) (hj : ixOf f ns = some j) (hy : ss[j]? = some (fz τ y)) (hb : attributeBase o f X.env (eval o X.env) = eval o X.env := by rfl) : EJ X (.Attribute o f pos) Γ none (fz τ y) :=
  pe_to (pe_fld ho hb) fun σ H Q ⟨G, os, F, hh, st, k⟩ => ⟨G, os, F, hh, st, fun v G1 H1 sm1 h1 ⟨ow, rest, pm, hs, _⟩ => fld_core h hc hn hj hy (at_of h1 pm) hs fun u G2 o2 H2 s2 h2 p2 => k u G2 o2 os H2 (sm1.trans s2) h2 rfl p2⟩
theorem ej_dgetF [DecidableEq κ] {τk : Ty κ} [KeyTy kd τk] {d : List (κ × α)} {k : κ} {y : α} (hu : X.A.units + 1 < cLine) (h : RdD s kd τ d) (hy : aget d k = some y) (ho : FJ X o Γ s u) (hi : EJ X e Γ none (fz τk k)) (hs : NoSl e) : EJ X (.Subscript o e pos) Γ none (fz τ y) :=
  pe_to (pe_dget hu ho hi hs) fun σ H Q ⟨G, os, F, hh, st, kk⟩ => go_dget ⟨G, os, F, hh, st, fun v G1 H1 sm1 h1 ⟨ow, rest, pm, hs', _⟩ => tT.one ⟨G1, os, F, h1, st.mono sm1, fun w G2 os2 H2 sm2 h2 (e : os2 = os) rw_ => by
    subst e
    exact dget_core h hy (at_of h2 pm) (s.mono sm2 hs') rw_ fun u' G3 o3 H3 s3 h3 p3 => kk u' G3 o3 os2 H3 ((sm1.trans sm2).trans s3) h3 rfl p3⟩⟩
/-- o[k] = e of a list of data -/
theorem sj_setLF {k : Int} {y d : α} {tp : Pos} (he : EJ X e Γ m (fz τ y)) (ho : FJ X o (out Γ m) (oL τ xs) u) (hx : EJ X idx (out Γ m) none (fz tInt k)) (hd : L2.atI xs k = some d) (hr : SJ X P rest (u (oL τ (setI xs k y))) R)
    (hs : swapsWithSole [.Subscript o idx tp] e pos.line X.env = pure false := by rfl) (hw : swappedStores [.Subscript o idx tp] e X.env = pure none := by rfl) (h1 : (assignEach [.Subscript o idx tp] X.env).map (·.2) = [assign (.Subscript o idx tp) X.env] := by rfl)
    (hsub : ∀ v, assign (.Subscript o idx tp) X.env v = (do
      let ov ← holding [v] (eval o X.env)
      let iv ← holding [v, ov] (eval idx X.env)
      standAt tp
      holding [v, ov, iv] (setItem ov iv v)
      release [v, ov, iv] []) := by intro _; rfl) :
    SJ X P (.Assign [.Subscript o idx tp] e pos :: rest) Γ R :=
  pss_to (pss_cons (ps_asg he (pg_sub ho hx set_list hsub) hs hw h1) hr) fun D σ H ⟨G, os, F, hh, st, pn, k1, k2, k3⟩ => go_seq (go_asg ⟨G, os, F, hh, st, fun w G1 o1 os1 H1 sm1 hh1 af1 ⟨eo, rw_⟩ => by
    subst eo
    have hh1 : HH G1 (os1 ++ F) H1 := hh1
    refine go_gsub ⟨G1, os1, F, hh1, af1.st st sm1, fun v G2 H2 sm2 hh2 ⟨ow, ro, pm, ⟨ad, vs, e0, eo, pr⟩, back⟩ => ?_⟩
    refine ⟨G2, os1, F, hh2, (af1.st st sm1).mono sm2, fun iv G3 o3 os3 H3 sm3 hh3 (af3 : os3 = os1) ⟨e3, (ri : iv = .int k)⟩ => ?_⟩
    subst af3 e3 ri e0 eo
    have hh3 : HH G3 (os3 ++ F) H3 := hh3
    obtain ⟨hj, hy⟩ := atI_ix hd
    have pr2 : Paired (τ.rep G3) (vs.set (ixO xs k) w) (setI xs k y) := pr_set (pair_mono sm3 pr) (τ.mono (sm2.trans sm3) rw_) _
    obtain ⟨os', p', q'⟩ := back G3 (oL τ (setI xs k y)) [(ad, .lst (vs.set (ixO xs k) w))] sm3 ⟨ad, _, rfl, rfl, pr2⟩
    have h4 : HH G3 ((ad, .lst vs) :: (ro ++ F)) H3 := hh3.perm (List.Perm.append_right F pm)
    have h5 := (h4.put (o' := .lst (vs.set (ixO xs k) w)) nf_lst).perm (os' := os' ++ F) (List.Perm.append_right F p'.symm)
    exact go_setl (at_of hh3 pm).own (by rw [pr_len pr]; exact hj) ⟨G3, os', F, h5, q', pn, fun σ4 G4 os4 H4 sm4 => k1 σ4 G4 os4 H4 (((sm1.trans sm2).trans sm3).trans sm4), fun v G4 o4 H4 sm4 => k2 v G4 o4 H4 (((sm1.trans sm2).trans sm3).trans sm4), fun σ4 G4 os4 H4 sm4 => k3 σ4 G4 os4 H4 (((sm1.trans sm2).trans sm3).trans sm4)⟩⟩)
/-- o[k] = e of a dict -/
theorem sj_dputF [DecidableEq κ] {τk : Ty κ} [KeyTy kd τk] {d : List (κ × α)} {k : κ} {y : α} {tp : Pos} (hu : X.A.units + 1 < cLine) (he : EJ X e Γ m (fz τ y)) (ho : FJ X o (out Γ m) (oD kd τ d) u) (hx : EJ X idx (out Γ m) none (fz τk k)) (hz : Sm d.length)
    (hr : SJ X P rest (u (oD kd τ (aput d k y))) R) (hs : swapsWith e (some (.Subscript o idx tp)) pos.line X.env = pure false := by rfl) :
    SJ X P (.Assign [.Subscript o idx tp] e pos :: rest) Γ R :=
  pss_to (pss_cons (ps_dput hu ho hx he hs) hr) fun D σ H ⟨G, os, F, hh, st, pn, k1, k2, k3⟩ => go_seq (go_dput ⟨G, os, F, hh, st, fun w G1 o1 os1 H1 sm1 hh1 af1 ⟨eo, rw_⟩ => by
    subst eo
    have hh1 : HH G1 (os1 ++ F) H1 := hh1
    refine ⟨G1, os1, F, hh1, af1.st st sm1, fun v G2 H2 sm2 hh2 ⟨ow, ro, pm, ⟨ad, vs, e0, eo, pr, nd⟩, back⟩ => ?_⟩
    refine ⟨G2, os1, F, hh2, (af1.st st sm1).mono sm2, fun iv G3 o3 os3 H3 sm3 hh3 (af3 : os3 = os1) ⟨e3, ri⟩ => ?_⟩
    subst af3 e3 e0 eo
    have hh3 : HH G3 (os3 ++ F) H3 := hh3
    obtain ⟨os', p', q'⟩ := back G3 (oD kd τ (aput d k y)) [(ad, kd.ho (putK vs (kd.enc k) w))] sm3 ⟨ad, _, rfl, rfl, kr_put k (τ.mono (sm2.trans sm3) rw_) (kr_mono sm3 pr), aput_nd nd⟩
    have h4 : HH G3 ((ad, kd.ho vs) :: (ro ++ F)) H3 := hh3.perm (List.Perm.append_right F pm)
    have h5 := (h4.put (o' := kd.ho (putK vs (kd.enc k) w)) nf_dk (kd.ntp _)).perm (os' := os' ++ F) (List.Perm.append_right F p'.symm)
    exact ⟨ad, _, rfl, kd.dput (at_of hh3 pm).own (KeyTy.is hh3 ri) (Sm.lt (by rw [pr_len pr]; exact hz)), G3, os', F, h5, q', pn, fun σ4 G4 os4 H4 sm4 => k1 σ4 G4 os4 H4 (((sm1.trans sm2).trans sm3).trans sm4), fun v G4 o4 H4 sm4 => k2 v G4 o4 H4 (((sm1.trans sm2).trans sm3).trans sm4), fun σ4 G4 os4 H4 sm4 => k3 σ4 G4 os4 H4 (((sm1.trans sm2).trans sm3).trans sm4)⟩⟩)
/-- x[n][k] = e of a list of dicts -/
theorem sj_dputM [DecidableEq κ] {τk : Ty κ} [KeyTy kd τk] {dx : List (List (κ × α))} {d : List (κ × α)} {n : Int} {k : κ} {y : α} {tp q : Pos} (hu : X.A.units + 1 < cLine) (he : EJ X e Γ m (fz τ y)) (ho : FJ X o (out Γ m) (oLst (dx.map (oD kd τ))) u) (hn : EJ X kx (out Γ m) none (fz tInt n)) (hd : L2.atI dx n = some d) (hx : EJ X idx (out Γ m) none (fz τk k)) (hz : Sm d.length) (hp : PlainIx kx)
    (hr : SJ X P rest (u (oLst ((setI dx n (aput d k y)).map (oD kd τ)))) R) (hs : swapsWith e (some (.Subscript (.Subscript o kx q) idx tp)) pos.line X.env = pure false := by rfl) :
    SJ X P (.Assign [.Subscript (.Subscript o kx q) idx tp] e pos :: rest) Γ R :=
  sj_dputF hu he (fj_ixM ho hn hd hp) hx hz (by rw [map_setI]; exact hr) hs
end
end Sl

set_option Elab.async false
set_option linter.all false
set_option maxRecDepth 100000
namespace Sl
open PySem PySem.Spec PyProof.Rows L2 Dl
instance (i j : Int) : Decidable (CMul i j) := inferInstanceAs (Decidable ((_ ∧ _) ∨ (_ ∧ _)))
theorem fzs_map {α β : Type} {f : α → Sh} {τ : Ty β} {g : α → β} (h : ∀ x, Fz (f x) (fz τ (g x))) : ∀ xs : List α, Fzs (xs.map f) ((xs.map g).map (fz τ))
  | [] => trivial
  | x :: xs => ⟨h x, fzs_map h xs⟩
/-- an owned list of owned dicts becomes data -/
theorem fz_oM {α κ : Type} {τ : Ty α} {kd : Kd κ} {xs : List (List (κ × α))} : Fz (oLst (xs.map (oD kd τ))) (fz (tList (tDic kd τ)) xs) := by
  have h := fzs_map (f := oD kd τ) (τ := tDic kd τ) (g := id) (fun x => fz_oD) xs
  rw [List.map_id] at h
  exact fz_lst h fun G a vs e h => ⟨rfl, a, vs, rfl, e, ol_of h⟩
theorem va_len2 {α β : Type} {τ1 : Ty α} {τ2 : Ty β} {K : PySem.W.Frag} {x : α × β} : VA [fz (tP2 τ1 τ2) x] (fz tInt (2 : Int)) (Dl.rLen K) := va_one fun v G H os o Q at_ ⟨_, a, v1, v2, e, g, r1, r2⟩ k => by
  subst e
  exact ⟨a, [v1, v2], rfl, .inr (SqT.of (at_.1.tup g)), k.fz at_.1 rfl⟩
theorem va_len3 {α β γ : Type} {τ1 : Ty α} {τ2 : Ty β} {τ3 : Ty γ} {K : PySem.W.Frag} {x : α × β × γ} : VA [fz (tP3 τ1 τ2 τ3) x] (fz tInt (3 : Int)) (Dl.rLen K) := va_one fun v G H os o Q at_ ⟨_, a, v1, v2, v3, e, g, r1, r2, r3⟩ k => by
  subst e
  exact ⟨a, [v1, v2, v3], rfl, .inr (SqT.of (at_.1.tup g)), k.fz at_.1 rfl⟩
theorem va_lenT {α : Type} {τ : Ty α} {K : PySem.W.Frag} {xs : List α} : VA [fz (tTup τ) xs] (fz tInt (xs.length : Int)) (Dl.rLen K) := va_one fun v G H os o Q at_ ⟨_, a, vs, e, g, r⟩ k => by
  subst e
  refine ⟨a, vs, rfl, .inr (SqT.of (at_.1.tup g)), ?_⟩
  rw [pr_len r]
  exact k.fz at_.1 rfl
/-- a promise about nothing -/
theorem fnG_never {P : Program} {w : World} {K : PySem.W.Frag} {mg : Str → Option Value} {base : Heap} {k n : Nat} {f : Addr} {fd : FuncData} {ps : List Str} {Φ : Phi} (hn : n = ps.length) (h : ∀ ss r L, ¬ Φ ss r L) : FnG P w K mg base CX0 k f fd ps (spS n Φ) :=
  ⟨fun vs H Q E ⟨_, _, _, _, _, _, e, _⟩ => by rw [e, hn], fun A out s H args us vs Q E _ _ _ _ ⟨_, _, _, _, _, _, _, _, _, hΦ, _⟩ => absurd hΦ (h _ _ _)⟩
end Sl

set_option Elab.async false
set_option linter.all false
set_option maxRecDepth 100000
namespace Sl
open PySem PySem.Spec PyProof.Rows L2 Dl
section
variable {X : Cx} {Γ : Ct} {m : Option Ct} {α β : Type} {τ : Ty α} {s : Sh} {pos p : Pos} {e c : Expr} {es : List Expr} {x : Str} {K : PySem.W.Frag} {xs : List α}
/-- a test that changes nothing, as one that leaves the names as they are -/
theorem tj_keep {t : Bool} (h : TJ X c Γ none t) : TJ X c Γ (some Γ) t := pt_to h fun σ H Q ⟨G, os, F, hh, st, k⟩ => ⟨G, os, F, hh, st, fun G' os' H' sm h' (e : os' = os) => k G' os' H' sm h' (by subst e; exact st.mono sm)⟩
theorem tj_m {t : Bool} {m' : Option Ct} (h : TJ X c Γ m t) (e : m = m') : TJ X c Γ m' t := e ▸ h
theorem va_abs {i : Int} : VA [fz tInt i] (fz tInt (if i < 0 then -i else i)) (fun xs H Q => ∃ i, xs = [.int i] ∧ Q (.int (if i < 0 then -i else i)) H) := va_one fun v G H os o Q at_ ⟨_, (r : v = .int i)⟩ k => by
  subst r
  exact ⟨i, rfl, k.fz at_.1 rfl⟩
theorem va_gcd {i j : Int} : VA [fz tInt i, fz tInt j] (fz tInt ((Nat.gcd i.natAbs j.natAbs : Nat) : Int)) rGcd := va_two fun v w G H os Q hh (r1 : v = .int i) (r2 : w = .int j) k => by
  subst r1 r2
  exact ⟨i, j, rfl, k.fz hh rfl⟩
/-- f(..), f a module's name for a built-in function -/
theorem ej_bf {ss : List Sh} {id : String} {rv : List V → Hp → VK → Prop} (cr : CallR X (.builtin id) rv) (sp : VA ss s rv) (hg : Gl X x) (hm : X.mg x = some (.builtin id)) (ha : AJ X (e :: es) Γ m (ss.map As.val)) (hdb : (x == ("__debug__" : Str)) = false := by decide)
    (he : starEach (e :: es) X.env = (false, eval e X.env) :: starEach es X.env := by rfl) (hpl : (backTo pos (starEach es X.env)).any (·.1) = false := by rfl) : EJ X (.Call (.Name x p) (e :: es) [] pos) Γ m s :=
  pe_to (pe_callBfun cr hg hm ha hdb he hpl) fun σ H Q ⟨G, os, F, hh, st, k⟩ => go_tcb ⟨G, os, F, hh, st, fun vs G1 o1 os1 H1 sm1 h1 af1 ap1 =>
    sp vs G1 H1 (o1 ++ (os1 ++ F)) o1 Q ⟨h1, _, .refl _⟩ (asp_vals ap1) fun u G2 o2 H2 sm2 h2 p2 => k u G2 o2 os1 H2 (sm1.trans sm2) (HH.drops (d := o1) (h2.perm (perm_mid o2 o1 _))) (af1.mono sm2) p2⟩
end
/-- (a, b) = a list that has two -/
def two {α : Type} : List α → Option (α × α)
  | [a, b] => some (a, b)
  | _ => none
theorem two_iff {α : Type} {xs : List α} {p : α × α} (h : two xs = some p) : xs = [p.1, p.2] := by
  match xs, h with
  | [a, b], h =>
    cases h
    rfl
theorem gj_ld2 {X : Cx} {Γ Γ' : Ct} {α : Type} {τ : Ty α} {pos : Pos} {a b : Expr} {vs : List Nat} {k : Nat} {xs : List α} {x : α × α} (hc : X.calm = true) (e : xs = [x.1, x.2]) (h : GsJ X [a, b] vs Γ Γ' [fz τ x.1, fz τ x.2]) (hst : (assignEach [a, b] X.env).findIdx? (·.1) = none := by rfl) (hn : (assignEach [a, b] X.env).length = 2 := by rfl) : GJ X (.Tuple [a, b] k pos) vs Γ Γ' (fz (tList τ) xs) :=
  gj_unl hc h (fun G H os o v hh ⟨eo, c, ws, ev, g, pr⟩ => by
    subst e
    cases pr with
    | cons r1 t => cases t with
      | cons r2 t =>
        cases t
        exact ⟨eo, c, _, ev, SqL.of (hh.lst g), rfl, Shs.mk2 r1 r2⟩) hn hst
instance (i j : Int) : Decidable (CDivN i j) := inferInstanceAs (Decidable (_ ∧ _))
/-- while: by what holds ahead of each turn and what grows less -/
theorem sat_whileX {S ρ : Type} {c : S → Option (Bool × S)} {f : S → Option (Oc ρ S)} (I : S → Prop) (μ : S → Nat) (D : Oc ρ S → Prop)
    (hs : ∀ s, I s → ∃ t, c s = some (t, s) ∧ (t = false → D (.nx s)) ∧ (t = true → ∃ o, f s = some o ∧ match o with
      | .nx s' => I s' ∧ μ s' < μ s
      | .ret r => D (.ret r))) : ∀ {s0 : S}, I s0 → ∃ o, whileX c f s0 = some o ∧ D o := by
  have key : ∀ (n : Nat) (s : S), μ s < n → I s → ∃ o k, WhileTo c f s o k ∧ D o := by
    intro n
    induction n with
    | zero => exact fun s h => absurd h (Nat.not_lt_zero _)
    | succ n ih =>
      intro s hn hI
      obtain ⟨t, e, h1, h2⟩ := hs s hI
      cases t with
      | false => exact ⟨_, 0, .done e, h1 rfl⟩
      | true =>
        obtain ⟨o, eo, ho⟩ := h2 rfl
        cases o with
        | ret r => exact ⟨_, 0, .ret e eo, ho⟩
        | nx s' =>
          obtain ⟨o', k, w, d⟩ := ih s' (by omega) ho.1
          exact ⟨o', k + 1, .turn e eo w, d⟩
  intro s0 h0
  obtain ⟨o, k, w, d⟩ := key (μ s0 + 1) s0 (Nat.lt_succ_self _) h0
  exact ⟨o, whileX_of w, d⟩
end Sl

set_option Elab.async false
set_option linter.all false
set_option maxRecDepth 100000
namespace Sl
open PySem PySem.Spec PyProof.Rows L2 Dl
/-- a, b = e, f -/
theorem sj_par {X : Cx} {P : Pn} {Γ : Ct} {m : Option Ct} {α β : Type} {τ1 : Ty α} {τ2 : Ty β} {i j : Nat} {x y : Str} {a b : Expr} {px py pt pos : Pos} {kt k2 : Nat} {pt2 : Pos} {rest : List Stmt} {R : Po} {u : α} {z : β} (hc : X.calm = true) (hN : X.N.Nodup) (hi : X.N[i]? = some x) (hj : X.N[j]? = some y)
    (hx : X.env.scope.names.lookup x = some .local) (hy : X.env.scope.names.lookup y = some .local) (ha : AJ X [a, b] Γ m [.val (fz τ1 u), .val (fz τ2 z)]) (hr : SJ X P rest (((out Γ m).set i (some (fz τ1 u))).set j (some (fz τ2 z))) R)
    (hij : i ≠ j := by decide) (d : (P.all fun p => decide (p.1 ∉ [i, j])) = true := by rfl) (hli : (decide (i < (out Γ m).length)) = true := by rfl) (hlj : (decide (j < (out Γ m).length)) = true := by rfl)
    (hw : swappedStores [.Tuple [.Name x px, .Name y py] kt pt] (.Tuple [a, b] k2 pt2) X.env = pure (some [x, y]) := by rfl) (hs : swapsWithSole [.Tuple [.Name x px, .Name y py] kt pt] (.Tuple [a, b] k2 pt2) pos.line X.env = pure false := by rfl) :
    SJ X P (.Assign [.Tuple [.Name x px, .Name y py] kt pt] (.Tuple [a, b] k2 pt2) pos :: rest) Γ R :=
  pss_to (pss_cons (ps_par hc hN hi hj hij hx hy ha hw hs) hr) fun D σ H ⟨G, os, F, hh, st, pn, k1, k2, k3⟩ => go_seq ⟨G, os, F, hh, st, fun vs G1 o1 os1 H1 sm1 h1 af1 ap => by
    obtain ⟨v, vr, oa, ob, e1, e2, ⟨e3, r1⟩, w, wr, oc, od, e4, e5, ⟨e6, r2⟩, e7, e8⟩ := asp_vals (ss := [fz τ1 u, fz τ2 z]) ap
    subst e3 e6 e8
    subst e5
    subst e2 e7
    subst e4
    subst e1
    have h1' : HH G1 (os1 ++ F) H1 := h1
    obtain ⟨d1, os2, pm1, st2⟩ := (af1.st st sm1).set (s := fz τ1 u) (v := v) (o := []) ⟨rfl, r1⟩ (of_decide_eq_true hli)
    obtain ⟨d2, os3, pm2, st3⟩ := st2.set (s := fz τ2 z) (v := w) (o := []) ⟨rfl, r2⟩ (i := j) (by rw [List.length_set]; exact of_decide_eq_true hlj)
    have h2 : HH G1 (os2 ++ F) H1 := HH.drops (d := d1) (h1'.perm (by
      rw [← List.append_assoc]
      exact List.Perm.append_right F pm1))
    have h3 : HH G1 (os3 ++ F) H1 := HH.drops (d := d2) (h2.perm (by
      rw [← List.append_assoc]
      exact List.Perm.append_right F pm2))
    refine ⟨v, w, rfl, G1, os3, F, h3, st3, PinA.wipe pn (vs := [i, j]) ?_ d, fun σ3 G3 os4 H3 sm3 => k1 σ3 G3 os4 H3 (sm1.trans sm3), fun v G3 o H3 sm3 => k2 v G3 o H3 (sm1.trans sm3), fun σ3 G3 os4 H3 sm3 => k3 σ3 G3 os4 H3 (sm1.trans sm3)⟩
    show (((σ.set i (some v)).set j (some w)).set j none).set i none = (σ.set j none).set i none
    rw [List.set_set, List.set_comm _ _ hij, List.set_set]⟩
end Sl

set_option Elab.async false
set_option linter.all false
set_option maxRecDepth 100000
namespace Sl
open PySem PySem.Spec PyProof.Rows L2 Dl
/-! ### == and in, of data without dicts -/
class Edt {α : Type} (τ : Ty α) (n : outParam Nat) where
  ed : α → PyData
  dp : ∀ {K : PySem.W.Frag} {G H : Hp} {os : Ow} {v : V} {x : α}, HH G os H → τ.rep G v x → Dp K H v (ed x)
  dep : ∀ x, (ed x).depth ≤ n
  eqv : ∀ x y, (ed x).eqv (ed y) = true ↔ x = y
instance : Edt tInt 0 := ⟨PyData.int, fun _ (r : _ = V.int _) => by subst r; exact .int _, fun _ => Nat.le_refl _, fun x y => by simp [PyData.eqv]⟩
instance : Edt tStr 0 := ⟨PyData.str, fun _ (r : _ = V.str _) => by subst r; exact .str _, fun _ => Nat.le_refl _, fun x y => by simp [PyData.eqv]⟩
instance : Edt tBool 0 := ⟨PyData.bool, fun _ (r : _ = V.bl _) => by subst r; exact .bl _, fun _ => Nat.le_refl _, fun x y => by simp [PyData.eqv]⟩
instance : Edt tNon 0 := ⟨fun _ => PyData.none, fun _ (r : _ = V.non) => by subst r; exact .non, fun _ => Nat.le_refl _, fun x y => by simp [PyData.eqv]⟩
section
variable {α β γ δ : Type} {τ τ1 : Ty α} {τ2 : Ty β} {τ3 : Ty γ} {τ4 : Ty δ} {n n1 n2 n3 n4 : Nat} {K : PySem.W.Frag} {G H : Hp} {os : Ow}
theorem edt_all [S : Edt τ n] (hh : HH G os H) {vs : List V} {xs : List α} (p : Paired (τ.rep G) vs xs) : DpAll K H vs (xs.map S.ed) := by
  induction p with
  | nil => exact .nil
  | cons r _ ih => exact .cons (S.dp hh r) ih
theorem edt_dep [S : Edt τ n] : ∀ xs : List α, PyData.depthAll (xs.map S.ed) ≤ n
  | [] => by simp [PyData.depthAll]
  | x :: xs => by
    show PyData.depthAll (S.ed x :: xs.map S.ed) ≤ n
    rw [PyData.depthAll]
    exact Nat.max_le.mpr ⟨S.dep x, edt_dep xs⟩
theorem edt_eq [S : Edt τ n] : ∀ xs ys : List α, PyData.eqvAll (xs.map S.ed) (ys.map S.ed) = true ↔ xs = ys
  | [], [] => by simp [PyData.eqvAll]
  | [], y :: ys => by simp [PyData.eqvAll]
  | x :: xs, [] => by simp [PyData.eqvAll]
  | x :: xs, y :: ys => by
    show PyData.eqvAll (S.ed x :: xs.map S.ed) (S.ed y :: ys.map S.ed) = true ↔ _
    rw [PyData.eqvAll, Bool.and_eq_true, S.eqv, edt_eq xs ys, List.cons.injEq]
instance edtL [S : Edt τ n] : Edt (tList τ) (n + 1) := ⟨fun xs => .list (xs.map S.ed), fun hh ⟨a, vs, e, g, p⟩ => by
    subst e
    exact .lst (SqL.of (hh.lst g)) (edt_all hh p), fun xs => by
    rw [PyData.depth]
    exact Nat.succ_le_succ (edt_dep xs), fun x y => by
    rw [PyData.eqv]
    exact edt_eq x y⟩
instance edtT [S : Edt τ n] : Edt (tTup τ) (n + 1) := ⟨fun xs => .tuple (xs.map S.ed), fun hh ⟨a, vs, e, g, p⟩ => by
    subst e
    exact .tup (SqT.of (hh.tup g)) (edt_all hh p), fun xs => by
    rw [PyData.depth]
    exact Nat.succ_le_succ (edt_dep xs), fun x y => by
    rw [PyData.eqv]
    exact edt_eq x y⟩
instance edt1 [S1 : Edt τ1 n1] : Edt (tP1 τ1) (n1 + 1) := ⟨fun x => .tuple [S1.ed x], fun hh ⟨a, v1, e, g, r1⟩ => by
    subst e
    exact .tup (SqT.of (hh.tup g)) (.cons (S1.dp hh r1) .nil), fun x => by
    rw [PyData.depth, PyData.depthAll, PyData.depthAll]
    have := S1.dep x
    omega, fun x y => by
    rw [PyData.eqv, PyData.eqvAll, PyData.eqvAll, Bool.and_true, S1.eqv]⟩
instance edt2 [S1 : Edt τ1 n1] [S2 : Edt τ2 n2] : Edt (tP2 τ1 τ2) (max n1 n2 + 1) := ⟨fun x => .tuple [S1.ed x.1, S2.ed x.2], fun hh ⟨a, v1, v2, e, g, r1, r2⟩ => by
    subst e
    exact .tup (SqT.of (hh.tup g)) (.cons (S1.dp hh r1) (.cons (S2.dp hh r2) .nil)), fun x => by
    rw [PyData.depth, PyData.depthAll, PyData.depthAll, PyData.depthAll]
    have := S1.dep x.1
    have := S2.dep x.2
    omega, fun x y => by
    rw [PyData.eqv, PyData.eqvAll, PyData.eqvAll, PyData.eqvAll, Bool.and_true, Bool.and_eq_true, S1.eqv, S2.eqv, Prod.ext_iff]⟩
instance edt3 [S1 : Edt τ1 n1] [S2 : Edt τ2 n2] [S3 : Edt τ3 n3] : Edt (tP3 τ1 τ2 τ3) (max n1 (max n2 n3) + 1) := ⟨fun x => .tuple [S1.ed x.1, S2.ed x.2.1, S3.ed x.2.2], fun hh ⟨a, v1, v2, v3, e, g, r1, r2, r3⟩ => by
    subst e
    exact .tup (SqT.of (hh.tup g)) (.cons (S1.dp hh r1) (.cons (S2.dp hh r2) (.cons (S3.dp hh r3) .nil))), fun x => by
    rw [PyData.depth, PyData.depthAll, PyData.depthAll, PyData.depthAll, PyData.depthAll]
    have := S1.dep x.1
    have := S2.dep x.2.1
    have := S3.dep x.2.2
    omega, fun x y => by
    rw [PyData.eqv, PyData.eqvAll, PyData.eqvAll, PyData.eqvAll, PyData.eqvAll, Bool.and_true, Bool.and_eq_true, Bool.and_eq_true, S1.eqv, S2.eqv, S3.eqv, Prod.ext_iff, Prod.ext_iff]⟩
/-- none is none of these -/
class Nnn {α : Type} (τ : Ty α) (n : outParam Nat) [S : Edt τ n] : Prop where
  no : ∀ x, (S.ed x).eqv .none = false ∧ PyData.eqv .none (S.ed x) = false
instance : Nnn tInt 0 := ⟨fun x => by show (PyData.int x).eqv _ = _ ∧ PyData.eqv _ (PyData.int x) = _; simp [PyData.eqv]⟩
instance : Nnn tStr 0 := ⟨fun x => by show (PyData.str x).eqv _ = _ ∧ PyData.eqv _ (PyData.str x) = _; simp [PyData.eqv]⟩
instance : Nnn tBool 0 := ⟨fun x => by show (PyData.bool x).eqv _ = _ ∧ PyData.eqv _ (PyData.bool x) = _; simp [PyData.eqv]⟩
instance [S : Edt τ n] : Nnn (tList τ) (n + 1) := ⟨fun x => by show (PyData.list _).eqv _ = _ ∧ PyData.eqv _ (PyData.list _) = _; simp [PyData.eqv]⟩
instance edtO [S : Edt τ n] [Nnn τ n] : Edt (tOpt τ) n := ⟨fun x => match x with
    | none => .none
    | some y => S.ed y, fun hh r => by
    rcases r with ⟨rfl, rfl⟩ | ⟨y, rfl, _, r⟩
    · exact .non
    · exact S.dp hh r, fun x => by cases x with
    | none => exact Nat.zero_le _
    | some y => exact S.dep y, fun x y => by cases x with
    | none => cases y with
      | none => simp [PyData.eqv]
      | some y =>
        show PyData.eqv .none (S.ed y) = true ↔ _
        rw [(Nnn.no y).2]
        simp
    | some x => cases y with
      | none =>
        show PyData.eqv (S.ed x) .none = true ↔ _
        rw [(Nnn.no x).1]
        simp
      | some y =>
        show PyData.eqv (S.ed x) (S.ed y) = true ↔ _
        rw [S.eqv]
        simp⟩
instance edtS : Edt (tSum tInt tStr) 0 := ⟨fun x => match x with
    | .inl i => .int i
    | .inr z => .str z, fun hh r => by
    rcases r with ⟨y, rfl, r⟩ | ⟨y, rfl, r⟩
    · have r : _ = V.int y := r
      subst r
      exact .int _
    · have r : _ = V.str y := r
      subst r
      exact .str _, fun x => by cases x <;> exact Nat.le_refl _, fun x y => by
    cases x <;> cases y <;> simp [PyData.eqv]⟩
def edat {α : Type} {n : Nat} (τ : Ty α) [S : Edt τ n] (x : α) : PyData := S.ed x
def Lay (d : PyData) : Prop := d.canLay0 = true
instance (d : PyData) : Decidable (Lay d) := inferInstanceAs (Decidable (_ = true))
/-- data that holds no text -/
class EdtF {α : Type} (τ : Ty α) (n : outParam Nat) [S : Edt τ n] : Prop where
  lay : ∀ x, Lay (edat τ x)
instance : EdtF tInt 0 := ⟨fun x => by show PyData.canLay0 (.int x) = true; simp [PyData.canLay0]⟩
instance : EdtF tBool 0 := ⟨fun x => by show PyData.canLay0 (.bool x) = true; simp [PyData.canLay0]⟩
instance : EdtF tNon 0 := ⟨fun x => by show PyData.canLay0 .none = true; simp [PyData.canLay0]⟩
theorem lay_all [S : Edt τ n] : ∀ {xs : List α}, (∀ x ∈ xs, Lay (edat τ x)) → PyData.canLayAll0 (xs.map S.ed) = true
  | [], _ => by simp [PyData.canLayAll0]
  | x :: xs, h => by
    show PyData.canLayAll0 (S.ed x :: xs.map S.ed) = true
    rw [PyData.canLayAll0, lay_all fun y hy => h y (List.mem_cons_of_mem _ hy), Bool.and_true]
    exact h x (List.mem_cons_self ..)
theorem lay_list [S : Edt τ n] {xs : List α} (h : ∀ x ∈ xs, Lay (edat τ x)) : Lay (edat (tList τ) xs) := by
  show PyData.canLay0 (.list (xs.map S.ed)) = true
  rw [PyData.canLay0]
  exact lay_all h
instance [S : Edt τ n] [EdtF τ n] : EdtF (tList τ) (n + 1) := ⟨fun xs => lay_list fun x _ => EdtF.lay x⟩
instance [S : Edt τ n] [EdtF τ n] : EdtF (tTup τ) (n + 1) := ⟨fun xs => by
  show PyData.canLay0 (.tuple (xs.map S.ed)) = true
  rw [PyData.canLay0]
  exact lay_all fun x _ => EdtF.lay x⟩
instance [S1 : Edt τ1 n1] [EdtF τ1 n1] : EdtF (tP1 τ1) (n1 + 1) := ⟨fun x => by
  show PyData.canLay0 (.tuple [S1.ed x]) = true
  rw [PyData.canLay0, PyData.canLayAll0, PyData.canLayAll0, Bool.and_true]
  exact EdtF.lay (τ := τ1) _⟩
theorem lay_p2 [S1 : Edt τ1 n1] [S2 : Edt τ2 n2] {x : α × β} (h1 : Lay (edat τ1 x.1)) (h2 : Lay (edat τ2 x.2)) : Lay (edat (tP2 τ1 τ2) x) := by
  show PyData.canLay0 (.tuple [S1.ed x.1, S2.ed x.2]) = true
  rw [PyData.canLay0, PyData.canLayAll0, PyData.canLayAll0, PyData.canLayAll0, Bool.and_true, Bool.and_eq_true]
  exact ⟨h1, h2⟩
instance [S1 : Edt τ1 n1] [S2 : Edt τ2 n2] [EdtF τ1 n1] [EdtF τ2 n2] : EdtF (tP2 τ1 τ2) (max n1 n2 + 1) := ⟨fun x => lay_p2 (EdtF.lay _) (EdtF.lay _)⟩
theorem lay_p3 [S1 : Edt τ1 n1] [S2 : Edt τ2 n2] [S3 : Edt τ3 n3] {x : α × β × γ} (h1 : Lay (edat τ1 x.1)) (h2 : Lay (edat τ2 x.2.1)) (h3 : Lay (edat τ3 x.2.2)) : Lay (edat (tP3 τ1 τ2 τ3) x) := by
  show PyData.canLay0 (.tuple [S1.ed x.1, S2.ed x.2.1, S3.ed x.2.2]) = true
  rw [PyData.canLay0, PyData.canLayAll0, PyData.canLayAll0, PyData.canLayAll0, PyData.canLayAll0, Bool.and_true, Bool.and_eq_true, Bool.and_eq_true]
  exact ⟨h1, h2, h3⟩
instance [S1 : Edt τ1 n1] [S2 : Edt τ2 n2] [S3 : Edt τ3 n3] [EdtF τ1 n1] [EdtF τ2 n2] [EdtF τ3 n3] : EdtF (tP3 τ1 τ2 τ3) (max n1 (max n2 n3) + 1) := ⟨fun x => lay_p3 (EdtF.lay _) (EdtF.lay _) (EdtF.lay _)⟩
instance [S : Edt τ n] [Nnn τ n] [EdtF τ n] : EdtF (tOpt τ) n := ⟨fun x => by cases x with
  | none => show PyData.canLay0 .none = true; simp [PyData.canLay0]
  | some y => exact EdtF.lay (τ := τ) y⟩
theorem edt_shaped [S : Edt τ n] (hn : n ≤ 60) {x : α} (l : Lay (edat τ x)) : SeqAt.shaped (S.ed x) = true := by
  unfold SeqAt.shaped
  rw [show (S.ed x).canLay0 = true from l, Bool.true_and]
  have := S.dep x
  exact decide_eq_true (by omega)
theorem edt_dec [S : Edt τ n] [DecidableEq α] (x y : α) : (S.ed x).eqv (S.ed y) = decide (x = y) := by
  rw [Bool.eq_iff_iff, S.eqv, decide_eq_true_iff]
theorem v2_eqQ [S : Edt τ n] [DecidableEq α] {x y : α} (lx : Lay (edat τ x)) (ly : Lay (edat τ y)) (hn : n ≤ 60) : V2 (fz τ x) τ y (fz tBool (decide (x = y))) (rEqD K) := fun v w G H os o Q at_ ⟨_, r1⟩ r2 k =>
  ⟨S.ed x, S.ed y, S.dp at_.1 r1, S.dp at_.1 r2, edt_shaped hn lx, edt_shaped hn ly, by rw [edt_dec]; exact k.fz at_.1 rfl⟩
theorem v2_neQ [S : Edt τ n] [DecidableEq α] {x y : α} (lx : Lay (edat τ x)) (ly : Lay (edat τ y)) (hn : n ≤ 60) : V2 (fz τ x) τ y (fz tBool (!decide (x = y))) (rNeD K) := fun v w G H os o Q at_ ⟨_, r1⟩ r2 k =>
  ⟨S.ed x, S.ed y, S.dp at_.1 r1, S.dp at_.1 r2, edt_shaped hn lx, edt_shaped hn ly, by rw [edt_dec]; exact k.fz at_.1 rfl⟩
theorem edt_any [S : Edt τ n] [DecidableEq α] (x : α) : ∀ xs : List α, (xs.map S.ed).any (fun z => z.eqv (S.ed x)) = decide (x ∈ xs)
  | [] => by simp
  | y :: ys => by
    rw [List.map_cons, List.any_cons, edt_any x ys, edt_dec]
    by_cases h : y = x
    · subst h; simp
    · simp [h, Ne.symm h]
theorem v2_inQ [S : Edt τ n] [DecidableEq α] {x : α} {xs : List α} (lx : Lay (edat τ x)) (ly : Lay (edat (tList τ) xs)) (hn : n ≤ 59) : V2 (fz τ x) (tList τ) xs (fz tBool (decide (x ∈ xs))) (rInD K) := fun v w G H os o Q at_ ⟨_, r1⟩ r2 k =>
  ⟨S.ed x, xs.map S.ed, S.dp at_.1 r1, (edtL (S := S)).dp at_.1 r2, edt_shaped (Nat.le_succ_of_le hn) lx, edt_shaped (S := edtL (S := S)) (Nat.succ_le_succ hn) ly, by rw [edt_any]; exact k.fz at_.1 rfl⟩
theorem v2_ninQ [S : Edt τ n] [DecidableEq α] {x : α} {xs : List α} (lx : Lay (edat τ x)) (ly : Lay (edat (tList τ) xs)) (hn : n ≤ 59) : V2 (fz τ x) (tList τ) xs (fz tBool (!decide (x ∈ xs))) (rNotInD K) := fun v w G H os o Q at_ ⟨_, r1⟩ r2 k =>
  ⟨S.ed x, xs.map S.ed, S.dp at_.1 r1, (edtL (S := S)).dp at_.1 r2, edt_shaped (Nat.le_succ_of_le hn) lx, edt_shaped (S := edtL (S := S)) (Nat.succ_le_succ hn) ly, by rw [edt_any]; exact k.fz at_.1 rfl⟩
end
section
variable {X : Cx} {Γ : Ct} {m1 m2 : Option Ct} {α : Type} {τ : Ty α} {n k : Nat} {pos : Pos} {a b : Expr}
theorem hr65 {A : Around} {k : Nat} (hr : RoomG k A) : A.units + 65 < cLine := by
  have := hr.room.un
  omega
theorem ej_eqQ [Edt τ n] [DecidableEq α] {x y : α} (hr : RoomG k X.A) (lx : Lay (edat τ x)) (ly : Lay (edat τ y)) (ha : EJ X a Γ m1 (fz τ x)) (hb : EJ X b (out Γ m1) m2 (fz τ y)) (hn : n ≤ 60 := by decide) : EJ X (.Compare a [.Eq] [b] pos) Γ (cmb m1 m2) (fz tBool (decide (x = y))) := ej_cmp (op_eqD hr.units) (v2_eqQ lx ly hn) ha hb (nomark _)
theorem ej_neQ [Edt τ n] [DecidableEq α] {x y : α} (hr : RoomG k X.A) (lx : Lay (edat τ x)) (ly : Lay (edat τ y)) (ha : EJ X a Γ m1 (fz τ x)) (hb : EJ X b (out Γ m1) m2 (fz τ y)) (hn : n ≤ 60 := by decide) : EJ X (.Compare a [.NotEq] [b] pos) Γ (cmb m1 m2) (fz tBool (!decide (x = y))) := ej_cmp (op_neD hr.units) (v2_neQ lx ly hn) ha hb (nomark _)
theorem ej_inQ [Edt τ n] [DecidableEq α] {x : α} {xs : List α} (hr : RoomG k X.A) (lx : Lay (edat τ x)) (ly : Lay (edat (tList τ) xs)) (ha : EJ X a Γ m1 (fz τ x)) (hb : EJ X b (out Γ m1) m2 (fz (tList τ) xs)) (hn : n ≤ 59 := by decide) (hm : behindInMarks .In b = false := by rfl) : EJ X (.Compare a [.In] [b] pos) Γ (cmb m1 m2) (fz tBool (decide (x ∈ xs))) := ej_cmp (op_inD (hr65 hr)) (v2_inQ lx ly hn) ha hb hm
theorem ej_ninQ [Edt τ n] [DecidableEq α] {x : α} {xs : List α} (hr : RoomG k X.A) (lx : Lay (edat τ x)) (ly : Lay (edat (tList τ) xs)) (ha : EJ X a Γ m1 (fz τ x)) (hb : EJ X b (out Γ m1) m2 (fz (tList τ) xs)) (hn : n ≤ 59 := by decide) (hm : behindInMarks .NotIn b = false := by rfl) : EJ X (.Compare a [.NotIn] [b] pos) Γ (cmb m1 m2) (fz tBool (!decide (x ∈ xs))) := ej_cmp (op_notInD (hr65 hr)) (v2_ninQ lx ly hn) ha hb hm
end
end Sl

set_option Elab.async false
set_option linter.all false
set_option maxRecDepth 100000
namespace Sl
open PySem PySem.Spec PyProof.Rows L2 Dl
/-! ### slices, chains, x += e, is None -/
def cutL {α : Type} (xs : List α) (lo hi : Option Int) : List α := (xs.drop (HT.sIx xs.length 0 lo)).take (HT.sIx xs.length xs.length hi - HT.sIx xs.length 0 lo)
theorem pr_drop {α β : Type} {F : α → β → Prop} : ∀ {n : Nat} {vs : List α} {xs : List β}, Paired F vs xs → Paired F (vs.drop n) (xs.drop n)
  | 0, _, _, h => h
  | _ + 1, _, _, .nil => .nil
  | n + 1, _, _, .cons _ t => pr_drop (n := n) t
theorem pr_take {α β : Type} {F : α → β → Prop} : ∀ {n : Nat} {vs : List α} {xs : List β}, Paired F vs xs → Paired F (vs.take n) (xs.take n)
  | 0, _, _, _ => by rw [List.take_zero, List.take_zero]; exact .nil
  | _ + 1, _, _, .nil => .nil
  | n + 1, _, _, .cons r t => .cons r (pr_take (n := n) t)
theorem pr_cut {α β : Type} {F : α → β → Prop} {vs : List α} {xs : List β} {lo hi : Option Int} (h : Paired F vs xs) : Paired F ((vs.drop (HT.sIx vs.length 0 lo)).take (HT.sIx vs.length vs.length hi - HT.sIx vs.length 0 lo)) (cutL xs lo hi) := by
  unfold cutL
  rw [pr_len h]
  exact pr_take (pr_drop h)
theorem pr_rev {α β : Type} {F : α → β → Prop} {vs : List α} {xs : List β} (h : Paired F vs xs) : Paired F vs.reverse xs.reverse := by
  induction h with
  | nil => exact .nil
  | cons r _ ih =>
    rw [List.reverse_cons, List.reverse_cons]
    exact pr_app ih (.cons r .nil)
def tSO (Γ : Ct) (o : Option Int) : TO := fun σ H Q => ∃ G os F, HH G (os ++ F) H ∧ StA Γ σ G os ∧ ∀ G' H', Same G G' → HH G' (os ++ F) H' → Q o H'
abbrev OJ (X : Cx) (e : Option Expr) (Γ : Ct) (o : Option Int) : Prop := PO X e (tSO Γ o)
theorem po_to {X : Cx} {e : Option Expr} {t t' : TO} (h : PO X e t) (w : ∀ σ H Q, t' σ H Q → t σ H Q) : PO X e t' := ⟨fun pins s σ H Q I q => h.run pins s σ H Q I (w σ H Q q)⟩
section
variable {X : Cx} {P : Pn} {Γ : Ct} {m m1 : Option Ct} {α β γ : Type} {τ τ1 : Ty α} {τ2 : Ty β} {τ3 : Ty γ} {s : Sh} {pos p1 p2 p3 p : Pos} {a b c e : Expr} {lo hi : Option Expr} {xs : List α} {l u : Option Int} {R : Po} {rest : List Stmt} {i : Nat} {x : Str}
theorem oj_none : OJ X none Γ none := po_to po_none fun σ H Q ⟨G, os, F, hh, st, k⟩ => k G H (Same.refl _) hh
theorem oj_some {i : Int} (h : EJ X e Γ none (fz tInt i)) : OJ X (some e) Γ (some i) := po_to (po_some h) fun σ H Q ⟨G, os, F, hh, st, k⟩ =>
  tT.one ⟨G, os, F, hh, st, fun v G' os' H' sm h' (e : os' = os) (r : v = .int i) => ⟨i, r, k G' H' sm (by subst e; exact h')⟩⟩
theorem ej_slice (he : EJ X e Γ m (fz (tList τ) xs)) (hl : OJ X lo (out Γ m) l) (hh : OJ X hi (out Γ m) u) : EJ X (.Subscript e (.Slice lo hi none p2) pos) Γ m (oL τ (cutL xs l u)) :=
  pe_to (pe_slice sl_list he hl hh) fun σ H Q ⟨G, os, F, hh, st, k⟩ => by
    refine tT.one ⟨G, os, F, hh, st, fun v G1 os1 H1 sm1 h1 af r1 => ?_⟩
    have st1 := af.st st sm1
    refine ⟨G1, os1, F, h1, st1, fun G2 H2 sm2 h2 => ⟨G2, os1, F, h2, st1.mono sm2, fun G3 H3 sm3 h3 => ?_⟩⟩
    obtain ⟨ad, vs, e0, g, pr⟩ := (tList τ).mono (sm2.trans sm3) r1
    refine ⟨ad, vs, e0, SqL.of (h3.lst g), fun q nq => k (.ref q) G3 [(q, _)] os1 _ ((sm1.trans sm2).trans sm3) (h3.push nq) (af.mono (sm2.trans sm3)) ⟨q, _, rfl, rfl, pr_cut pr⟩⟩
theorem ej_rev (he : EJ X e Γ m (fz (tList τ) xs)) {kk : Nat} : EJ X (.Subscript e (.Slice none none (some (.UnaryOp .USub (.Constant (.int 1) kk p1) p2)) p3) pos) Γ m (oL τ xs.reverse) :=
  pe_to (pe_revL he) fun σ H Q ⟨G, os, F, hh, st, k⟩ => by
    refine tT.one ⟨G, os, F, hh, st, fun v G1 os1 H1 sm1 h1 af ⟨ad, vs, e0, g, pr⟩ => ?_⟩
    exact ⟨ad, vs, e0, SqL.of (h1.lst g), fun q nq => k (.ref q) G1 [(q, _)] os1 _ sm1 (h1.push nq) af ⟨q, _, rfl, rfl, pr_rev pr⟩⟩
/-- a op b op' c -/
theorem ej_chain {r r' : R2} {op op' : CmpOp} {x : α} {y : β} {z : γ} {t t' : Bool} (ho : OpR X (compareOp op) r) (ho' : OpR X (compareOp op') r') (s1 : V2 (fz τ1 x) τ2 y (fz tBool t) r) (s2 : V2 (fz τ2 y) τ3 z (fz tBool t') r')
    (ha : EJ X a Γ none (fz τ1 x)) (hb : EJ X b Γ none (fz τ2 y)) (hc : EJ X c Γ none (fz τ3 z)) (hl : lastMarks [op, op'] [b, c] = false := by rfl) : EJ X (.Compare a [op, op'] [b, c] pos) Γ none (fz tBool (t && t')) :=
  pe_to (pe_chain ho ho' ha hb hc hl) fun σ H Q ⟨G, os, F, hh, st, k⟩ => by
    refine tT.one ⟨G, os, F, hh, st, fun v G1 os1 H1 sm1 h1 (e1 : os1 = os) r1 => ?_⟩
    subst e1
    refine tT.one ⟨G1, os1, F, h1, st.mono sm1, fun w G2 os2 H2 sm2 h2 (e2 : os2 = os1) r2 => ?_⟩
    subst e2
    refine s1 v w G2 H2 (os2 ++ F) [] _ ⟨h2, _, .refl _⟩ ⟨rfl, τ1.mono sm2 r1⟩ r2 fun u G3 o3 H3 sm3 h3 ⟨e3, (ru : u = .bl t)⟩ => ?_
    subst e3 ru
    refine ⟨t, rfl, ?_⟩
    cases t with
    | false => exact k (.bl false) G3 [] os2 H3 ((sm1.trans sm2).trans sm3) h3 rfl ⟨rfl, rfl⟩
    | true =>
      refine tT.one ⟨G3, os2, F, h3, (st.mono sm1).mono (sm2.trans sm3), fun w2 G4 os4 H4 sm4 h4 (e4 : os4 = os2) r4 => ?_⟩
      subst e4
      exact s2 w w2 G4 H4 (os4 ++ F) [] _ ⟨h4, _, .refl _⟩ ⟨rfl, τ2.mono (sm3.trans sm4) r2⟩ r4 fun u G5 o5 H5 sm5 h5 ⟨e5, ru⟩ => by
        subst e5
        exact k u G5 [] os4 H5 ((((sm1.trans sm2).trans sm3).trans sm4).trans sm5) h5 rfl ⟨rfl, ru⟩
theorem v2_lt {i j : Int} : V2 (fz tInt i) tInt j (fz tBool (decide (i < j))) (rI0 fun i j => .bl (decide (i < j))) := v2_i0 (f := fun i j => decide (i < j)) fun _ => rfl
theorem v2_le {i j : Int} : V2 (fz tInt i) tInt j (fz tBool (decide (i ≤ j))) (rI0 fun i j => .bl (decide (i ≤ j))) := v2_i0 (f := fun i j => decide (i ≤ j)) fun _ => rfl
/-- is None -/
theorem ej_isN {x : Option α} (ha : EJ X a Γ m (fz (tOpt τ) x)) {kk : Nat} : EJ X (.Compare a [.Is] [.Constant .none kk p1] pos) Γ m (fz tBool x.isNone) := by
  have h := ej_cmp (pos := pos) (b := .Constant .none kk p1) (τ1 := tOpt τ) (τ2 := tNon) (s := fz tBool x.isNone) (x := x) (y := ()) op_isN (fun v w G H os o Q at_ ⟨_, r1⟩ (r2 : w = .non) k => ⟨r2, by
    rcases r1 with ⟨e1, e2⟩ | ⟨y, e1, n, _⟩
    · subst e1 e2
      exact k.fz at_.1 rfl
    · subst e1
      rw [decide_eq_false n]
      exact k.fz at_.1 rfl⟩) ha ej_non (nomark _)
  have q : cmb m none = m := by cases m <;> rfl
  rw [q] at h
  exact h
theorem ej_notN {x : Option α} (ha : EJ X a Γ m (fz (tOpt τ) x)) {kk : Nat} : EJ X (.Compare a [.IsNot] [.Constant .none kk p1] pos) Γ m (fz tBool x.isSome) := by
  have h := ej_cmp (pos := pos) (b := .Constant .none kk p1) (τ1 := tOpt τ) (τ2 := tNon) (s := fz tBool x.isSome) (x := x) (y := ()) op_notN (fun v w G H os o Q at_ ⟨_, r1⟩ (r2 : w = .non) k => ⟨r2, by
    rcases r1 with ⟨e1, e2⟩ | ⟨y, e1, n, _⟩
    · subst e1 e2
      exact k.fz at_.1 rfl
    · subst e1
      rw [decide_eq_false n]
      exact k.fz at_.1 rfl⟩) ha ej_non (nomark _)
  have q : cmb m none = m := by cases m <;> rfl
  rw [q] at h
  exact h
/-- b is True, b is False -/
theorem v2_isB {x y : Bool} : V2 (fz tBool x) tBool y (fz tBool (decide (x = y))) rIsB := fun v w G H os o Q at_ ⟨_, (r1 : v = .bl x)⟩ (r2 : w = .bl y) k => ⟨x, y, r1, r2, k.fz at_.1 rfl⟩
theorem v2_notB {x y : Bool} : V2 (fz tBool x) tBool y (fz tBool (!decide (x = y))) rNotB := fun v w G H os o Q at_ ⟨_, (r1 : v = .bl x)⟩ (r2 : w = .bl y) k => ⟨x, y, r1, r2, k.fz at_.1 rfl⟩
theorem ej_isB {x y : Bool} (ha : EJ X a Γ m (fz tBool x)) (hb : EJ X b (out Γ m) m1 (fz tBool y)) : EJ X (.Compare a [.Is] [b] pos) Γ (cmb m m1) (fz tBool (decide (x = y))) := ej_cmp op_isBl v2_isB ha hb (nomark _)
theorem ej_notB {x y : Bool} (ha : EJ X a Γ m (fz tBool x)) (hb : EJ X b (out Γ m) m1 (fz tBool y)) : EJ X (.Compare a [.IsNot] [b] pos) Γ (cmb m m1) (fz tBool (!decide (x = y))) := ej_cmp op_notBl v2_notB ha hb (nomark _)
/-! ### None or more -/
theorem ej_none (h : EJ X e Γ m (fz tNon ())) : EJ X e Γ m (fz (tOpt τ) none) := pe_to h fun σ H Q ⟨G, os, F, hh, st, k⟩ => ⟨G, os, F, hh, st, fun v G' o os' H' sm h' af ⟨eo, r⟩ => k v G' o os' H' sm h' af ⟨eo, .inl ⟨rfl, r⟩⟩⟩
/-- what is never None -/
class Som {α : Type} (τ : Ty α) : Prop where
  no : ∀ G x, ¬ τ.rep G .non x
instance : Som tInt := ⟨fun _ _ h => by cases h⟩
instance : Som tStr := ⟨fun _ _ h => by cases h⟩
instance : Som tBool := ⟨fun _ _ h => by cases h⟩
instance : Som (tList τ) := ⟨fun _ _ ⟨_, _, h, _⟩ => by cases h⟩
instance : Som (tTup τ) := ⟨fun _ _ ⟨_, _, h, _⟩ => by cases h⟩
instance {κ : Type} {kd : Kd κ} : Som (tDic kd τ) := ⟨fun _ _ ⟨_, _, h, _⟩ => by cases h⟩
instance : Som (tP1 τ) := ⟨fun _ _ ⟨_, _, h, _⟩ => by cases h⟩
instance : Som (tP2 τ1 τ2) := ⟨fun _ _ ⟨_, _, _, h, _⟩ => by cases h⟩
instance : Som (tP3 τ1 τ2 τ3) := ⟨fun _ _ ⟨_, _, _, _, h, _⟩ => by cases h⟩
instance : Som (tL2 τ1 τ2) := ⟨fun _ _ ⟨_, _, _, h, _⟩ => by cases h⟩
instance {C : Addr} {ns : List Str} {sh : α → List Sh} : Som (tOb C ns sh) := ⟨fun _ _ ⟨_, _, _, h, _⟩ => by cases h⟩
instance [Som τ1] [Som τ2] : Som (tSum τ1 τ2) := ⟨fun G _ h => by
  rcases h with ⟨y, _, r⟩ | ⟨y, _, r⟩
  · exact Som.no G y r
  · exact Som.no G y r⟩
theorem ej_some [Som τ] {x : α} (h : EJ X e Γ m (fz τ x)) : EJ X e Γ m (fz (tOpt τ) (some x)) := pe_to h fun σ H Q ⟨G, os, F, hh, st, k⟩ => ⟨G, os, F, hh, st, fun v G' o os' H' sm h' af ⟨eo, r⟩ => k v G' o os' H' sm h' af ⟨eo, .inr ⟨x, rfl, fun z => by subst z; exact Som.no _ _ r, r⟩⟩⟩
/-- it is there -/
theorem ej_getS {x : Option α} {y : α} (h : EJ X e Γ m (fz (tOpt τ) x)) (e1 : x = some y) : EJ X e Γ m (fz τ y) := pe_to h fun σ H Q ⟨G, os, F, hh, st, k⟩ => ⟨G, os, F, hh, st, fun v G' o os' H' sm h' af ⟨eo, r⟩ => k v G' o os' H' sm h' af ⟨eo, by
  subst e1
  rcases r with ⟨h, _⟩ | ⟨z, h, _, r⟩
  · cases h
  · cases h
    exact r⟩⟩
/-- it is the second kind -/
def asR {α β : Type} : α ⊕ β → Option β
  | .inr x => some x
  | .inl _ => none
theorem asR_iff {y : α ⊕ β} {x : β} (h : asR y = some x) : y = .inr x := by
  cases y with
  | inl _ => cases h
  | inr z => rw [Option.some.inj h]
theorem ej_getr {y : α ⊕ β} {x : β} (h : EJ X e Γ m (fz (tSum τ1 τ2) y)) (e1 : y = .inr x) : EJ X e Γ m (fz τ2 x) := pe_to h fun σ H Q ⟨G, os, F, hh, st, k⟩ => ⟨G, os, F, hh, st, fun v G' o os' H' sm h' af ⟨eo, r⟩ => k v G' o os' H' sm h' af ⟨eo, by
  subst e1
  rcases r with ⟨z, h, _⟩ | ⟨z, h, r⟩
  · cases h
  · cases h
    exact r⟩⟩
/-! x += e -/
theorem sj_aug {op : Operator} {f : Int → Int → Int} {i0 j : Int} (hN : X.N.Nodup) (hi : X.N[i]? = some x) (hx : L2.Loc X.env.scope x) (ho : PIp X op (ipI f)) (hg : Γ[i]? = some (some (fz tInt i0))) (he : EJ X e Γ none (fz tInt j)) (hr : SJ X P rest (Γ.set i (some (fz tInt (f i0 j)))) R) (d : (P.all fun p => decide (p.1 ∉ [i])) = true := by rfl) (hl : (decide (i < Γ.length)) = true := by rfl)
    (hf : X.fn x = true ∨ X.env.scope.names.lookup x = some .local := by first | exact .inl rfl | exact .inr rfl | assumption) : SJ X P (.AugAssign (.Name x p) op e pos :: rest) Γ R :=
  pss_to (pss_cons (ps_aug hN hi hx he ho hf) hr) fun D σ H ⟨G, os, F, hh, st, pn, k1, k2, k3⟩ => go_seq (by
    obtain ⟨v, o, ro, a1, ⟨eo, (r : v = .int i0)⟩, a3, a4, a5⟩ := st.take hg
    subst eo r
    refine ⟨_, a1, tT.one ⟨G, os, F, hh, st, fun w G1 os1 H1 sm1 h1 (e1 : os1 = os) (r1 : w = .int j) => ?_⟩⟩
    subst e1 r1
    have st1 := st.mono sm1
    obtain ⟨dead, os', pm, st'⟩ := st1.set (s := fz tInt (f i0 j)) (v := .int (f i0 j)) (o := []) ⟨rfl, rfl⟩ (of_decide_eq_true hl)
    refine ⟨i0, j, rfl, rfl, ⟨G1, os', F, HH.drops (d := dead) (h1.perm ?_), st', ?_, fun σ3 G3 os3 H3 sm3 => k1 σ3 G3 os3 H3 (sm1.trans sm3), fun v G3 o H3 sm3 => k2 v G3 o H3 (sm1.trans sm3), fun σ3 G3 os3 H3 sm3 => k3 σ3 G3 os3 H3 (sm1.trans sm3)⟩⟩
    · rw [← List.append_assoc]
      exact List.Perm.append_right F pm
    · exact pn.wipe (vs := [i]) (by simp [wipe]) d)
end
end Sl

set_option Elab.async false
set_option linter.all false
set_option maxRecDepth 100000
namespace Sl
open PySem PySem.Spec PyProof.Rows L2 Dl
/-! ### dicts that are walked stand locked meanwhile -/
section
variable {G H : Hp} {os F : Ow} {d : Addr} {u : HO} {od : Obj}
theorem HH.lock (hh : HH G os H) (g : G d = some u) (k : isDk u = true) (hd : H d = some u) : HH G ((d, .frz od u) :: os) (upd H d (.frz od u)) := by
  have nd : ∀ p ∈ os, p.1 ≠ d := fun p hp e => by
    obtain ⟨e1, e2⟩ := hh.own p hp
    rcases e2 with e2 | ⟨ob, u2, e2, _, _⟩
    · rw [e, g] at e2
      cases e2
    · rw [e, hd, e2] at e1
      cases e1
      cases k
  refine ⟨fun a o e => ?_, fun q hq => ?_, List.nodup_cons.mpr ⟨fun hm => ?_, hh.nd⟩, fun q hq => ?_⟩
  · by_cases ha : a = d
    · subst ha
      rw [g] at e
      cases e
      exact .inr ⟨k, od, upd_same⟩
    · rw [upd_ne ha]
      exact hh.sub a o e
  · rcases List.mem_cons.mp hq with rfl | hq
    · exact ⟨upd_same, .inr ⟨od, u, rfl, g, k⟩⟩
    · rw [upd_ne (nd q hq)]
      exact hh.own q hq
  · obtain ⟨q, hq, e⟩ := List.mem_map.mp hm
    exact nd q hq e
  · rcases List.mem_cons.mp hq with rfl | hq
    · rfl
    · exact hh.nt q hq
theorem HH.unlock (hh : HH G ((d, .frz od u) :: os) H) (g : G d = some u) (k : isDk u = true) : HH G os (upd H d u) := by
  have nd1 : (d :: os.map (·.1)).Nodup := hh.nd
  have np := (List.nodup_cons.mp nd1).1
  refine ⟨fun a o e => ?_, fun q hq => ?_, (List.nodup_cons.mp nd1).2, fun q hq => hh.nt q (List.mem_cons_of_mem _ hq)⟩
  · by_cases ha : a = d
    · subst ha
      rw [g] at e
      cases e
      exact .inl upd_same
    · rw [upd_ne ha]
      exact hh.sub a o e
  · have ne : q.1 ≠ d := fun e => np (e ▸ List.mem_map.mpr ⟨q, hq, rfl⟩)
    rw [upd_ne ne]
    exact hh.own q (List.mem_cons_of_mem _ hq)
theorem HH.lockF (hh : HH G (os ++ F) H) (nf : ∀ c ∈ os, isFr c.2 = false) (g : G d = some u) (k : isDk u = true) :
    (H d = some u ∧ ∀ od, HH G (os ++ ((d, .frz od u) :: F)) (upd H d (.frz od u))) ∨ ∃ od F', H d = some (.frz od u) ∧ (d, .frz od u) ∈ F' ∧ HH G (os ++ F') H ∧ ∀ G' os' H', HH G' (os' ++ F') H' → HH G' (os' ++ F) H' := by
  rcases hh.sub d u g with hd | ⟨_, od, hd⟩
  · exact .inl ⟨hd, fun od => (HH.lock hh g k hd).perm List.perm_middle.symm⟩
  · refine .inr ⟨od, ?_⟩
    by_cases hm : d ∈ (os ++ F).map (·.1)
    · obtain ⟨p, hp, e⟩ := List.mem_map.mp hm
      have e1 := (hh.own p hp).1
      rw [e, hd] at e1
      have e2 : p = (d, .frz od u) := Prod.ext e (Option.some.inj e1).symm
      rcases List.mem_append.mp hp with hp | hp
      · have := nf p hp
        rw [e2] at this
        cases this
      · exact ⟨F, hd, e2 ▸ hp, hh, fun _ _ _ h => h⟩
    · refine ⟨(d, .frz od u) :: F, hd, List.mem_cons_self .., ?_, fun G' os' H' h => HH.drop (h.perm List.perm_middle)⟩
      refine HH.perm (os := (d, .frz od u) :: (os ++ F)) ⟨hh.sub, fun q hq => ?_, List.nodup_cons.mpr ⟨hm, hh.nd⟩, fun q hq => ?_⟩ List.perm_middle.symm
      · rcases List.mem_cons.mp hq with rfl | hq
        · exact ⟨hd, .inr ⟨od, u, rfl, g, k⟩⟩
        · exact hh.own q hq
      · rcases List.mem_cons.mp hq with rfl | hq
        · rfl
        · exact hh.nt q hq
theorem mut_dk {u : HO} (k : isDk u = true) : Mut (some u) := by
  cases u <;> first | trivial | cases k
end
/-! ### where a thing stands -/
def tD (Γ : Ct) (W : L2.St → Hp → Ow → V → Prop) : TE := fun σ H Q => ∃ G os F v, HH G (os ++ F) H ∧ StA Γ σ G os ∧ W σ G os v ∧ ∀ G' H', Same G G' → HH G' (os ++ F) H' → Q v H'
structure DJ (X : Cx) (e : Expr) (Γ : Ct) (s : Sh) : Prop where
  ex : ∃ W : L2.St → Hp → Ow → V → Prop, PE X e (tD Γ W) ∧ ∀ σ G os, StA Γ σ G os → ∃ v o rest, W σ G os v ∧ s.p G o v ∧ os.Perm (o ++ rest)
section
variable {X : Cx} {P : Pn} {Γ : Ct} {α β γ κ : Type} {τ : Ty α} {τ2 : Ty β} {s : Sh} {pos p : Pos} {o e idx : Expr} {i j : Nat} {x f : Str} {C : Addr} {ns : List Str} {ss : List Sh} {xs : List α}
theorem dj_var (hN : X.N[i]? = some x) (hv : Vis X.env.scope x) (hi : Γ[i]? = some (some s)) (hd : (x == ("__debug__" : Str)) = false := by decide) (hcd : (x == ("__classdict__" : Str)) = false := by decide) : DJ X (.Name x pos) Γ s :=
  ⟨fun σ _ _ v => σ[i]? = some (some v), pe_to (pe_var (i := i) hN hv hd hcd) fun σ H Q ⟨G, os, F, v, hh, st, hw, q⟩ => ⟨v, hw, q G H (Same.refl _) hh⟩, fun σ G os st => by
    obtain ⟨v, o, rest, a1, a2, a3, _, _⟩ := st.take hi
    exact ⟨v, o, rest, a1, a2, a3⟩⟩
theorem dj_fldF {sh : α → List Sh} {d : α} {y : β} (h : DJ X o Γ (fz (tOb C ns sh) d)) (hc : Cls X.K C) (hn : NoAttr X.K C f) (hj : ixOf f ns = some j) (hy : (sh d)[j]? = some (fz τ2 y)) (hb : attributeBase o f X.env (eval o X.env) = eval o X.env := by rfl) : DJ X (.Attribute o f pos) Γ (fz τ2 y) := by
  obtain ⟨W, pe, wx⟩ := h.ex
  refine ⟨fun σ G os w => ∃ v a dx vs, W σ G os v ∧ v = .ref a ∧ G a = some (.ins C dx (ns.zip vs)) ∧ vs.length = ns.length ∧ vs[j]? = some w, pe_to (pe_fld pe hb) fun σ H Q ⟨G, os, F, w, hh, st, ⟨v, a, dx, vs, hw, ev, g, l, hv⟩, q⟩ => ⟨G, os, F, v, hh, st, hw, fun G1 H1 sm1 h1 => ⟨a, C, dx, _, w, ev, h1.ins (sm1 _ _ g), hc, hn, by rw [zip_lookup hj l]; exact hv, q G1 H1 sm1 h1⟩⟩, fun σ G os st => ?_⟩
  obtain ⟨v, o', rest, hw, ⟨_, a, dx, vs, ev, g, l, sh'⟩, _⟩ := wx σ G os st
  obtain ⟨w, oj, ro, q1, q2, q3, _⟩ := sh'.take hy
  exact ⟨w, [], os, ⟨v, a, dx, vs, hw, ev, g, l, q1⟩, ⟨rfl, q2.2⟩, .refl _⟩
theorem dj_fldO {sj : Sh} (h : DJ X o Γ (oIns C ns ss)) (hc : Cls X.K C) (hn : NoAttr X.K C f) (hj : ixOf f ns = some j) (hy : ss[j]? = some sj) (hb : attributeBase o f X.env (eval o X.env) = eval o X.env := by rfl) : DJ X (.Attribute o f pos) Γ sj := by
  obtain ⟨W, pe, wx⟩ := h.ex
  refine ⟨fun σ G os w => ∃ v a dx vs, W σ G os v ∧ v = .ref a ∧ (a, .ins C dx (ns.zip vs)) ∈ os ∧ vs.length = ns.length ∧ vs[j]? = some w, pe_to (pe_fld pe hb) fun σ H Q ⟨G, os, F, w, hh, st, ⟨v, a, dx, vs, hw, ev, g, l, hv⟩, q⟩ => ⟨G, os, F, v, hh, st, hw, fun G1 H1 sm1 h1 => ⟨a, C, dx, _, w, ev, (h1.own (a, _) (List.mem_append_left _ g)).1, hc, hn, by rw [zip_lookup hj l]; exact hv, q G1 H1 sm1 h1⟩⟩, fun σ G os st => ?_⟩
  obtain ⟨v, o', rest, hw, ⟨a, dx, vs, o6, ev, eo, l, sh'⟩, pm⟩ := wx σ G os st
  obtain ⟨w, oj, ro, q1, q2, q3, _⟩ := sh'.take hy
  subst eo
  refine ⟨w, oj, (a, .ins C dx (ns.zip vs)) :: (ro ++ rest), ⟨v, a, dx, vs, hw, ev, pm.symm.subset (List.mem_append_left _ (List.mem_cons_self ..)), l, q1⟩, q2, pm.trans ?_⟩
  rw [List.cons_append]
  refine (List.Perm.cons _ (List.Perm.append_right rest q3)).trans ?_
  rw [List.append_assoc]
  exact List.perm_middle.symm
theorem pr_atI {G : Hp} {vs : List V} {k : Int} {y : α} (pr : Paired (τ.rep G) vs xs) (hk : L2.atI xs k = some y) : ∃ w, L2.atI vs k = some w ∧ τ.rep G w y := by
  unfold L2.atI at hk ⊢
  rw [pr_len pr]
  cases e : ixN xs.length k with
  | none => rw [e] at hk; cases hk
  | some n =>
    rw [e] at hk
    exact pr_get2 pr hk
theorem dj_ixF {k : Int} {y : α} (h : DJ X o Γ (fz (tList τ) xs)) (hi : EJ X idx Γ none (fz tInt k)) (hk : L2.atI xs k = some y) (hs : PlainIx idx) : DJ X (.Subscript o idx pos) Γ (fz τ y) := by
  obtain ⟨W, pe, wx⟩ := h.ex
  refine ⟨fun σ G os w => ∃ v a vs, W σ G os v ∧ v = .ref a ∧ G a = some (.lst vs) ∧ L2.atI vs k = some w, pe_to (pe_ix ix_list pe hi hs) fun σ H Q ⟨G, os, F, w, hh, st, ⟨v, a, vs, hw, ev, g, hv⟩, q⟩ => ⟨G, os, F, v, hh, st, hw, fun G1 H1 sm1 h1 => tT.one ⟨G1, os, F, h1, st.mono sm1, fun u G2 os2 H2 sm2 h2 (e2 : os2 = os) (ru : u = .int k) => ?_⟩⟩, fun σ G os st => ?_⟩
  · subst e2 ru
    exact ⟨a, vs, k, w, ev, rfl, SqL.of (h2.lst (sm2 _ _ (sm1 _ _ g))), hv, q G2 H2 (sm1.trans sm2) h2⟩
  · obtain ⟨v, o', rest, hw, ⟨_, a, vs, ev, g, pr⟩, _⟩ := wx σ G os st
    obtain ⟨w, hw2, r⟩ := pr_atI pr hk
    exact ⟨w, [], os, ⟨v, a, vs, hw, ev, g, hw2⟩, ⟨rfl, r⟩, .refl _⟩
theorem dj_ixO {k : Int} {y : α} (h : DJ X o Γ (oL τ xs)) (hi : EJ X idx Γ none (fz tInt k)) (hk : L2.atI xs k = some y) (hs : PlainIx idx) : DJ X (.Subscript o idx pos) Γ (fz τ y) := by
  obtain ⟨W, pe, wx⟩ := h.ex
  refine ⟨fun σ G os w => ∃ v a vs, W σ G os v ∧ v = .ref a ∧ (a, .lst vs) ∈ os ∧ L2.atI vs k = some w, pe_to (pe_ix ix_list pe hi hs) fun σ H Q ⟨G, os, F, w, hh, st, ⟨v, a, vs, hw, ev, g, hv⟩, q⟩ => ⟨G, os, F, v, hh, st, hw, fun G1 H1 sm1 h1 => tT.one ⟨G1, os, F, h1, st.mono sm1, fun u G2 os2 H2 sm2 h2 (e2 : os2 = os) (ru : u = .int k) => ?_⟩⟩, fun σ G os st => ?_⟩
  · subst e2 ru
    exact ⟨a, vs, k, w, ev, rfl, SqL.of (h2.own (a, _) (List.mem_append_left _ g)).1, hv, q G2 H2 (sm1.trans sm2) h2⟩
  · obtain ⟨v, o', rest, hw, ⟨a, vs, ev, eo, pr⟩, pm⟩ := wx σ G os st
    obtain ⟨w, hw2, r⟩ := pr_atI pr hk
    subst eo
    exact ⟨w, [], os, ⟨v, a, vs, hw, ev, pm.symm.subset (List.mem_append_left _ (List.mem_cons_self ..)), hw2⟩, ⟨rfl, r⟩, .refl _⟩
end
theorem tD_mono {Γ : Ct} {W : L2.St → Hp → Ow → V → Prop} {σ : L2.St} {H : Hp} {Q Q' : VK} (h : tD Γ W σ H Q) (w : ∀ v H', Q v H' → Q' v H') : tD Γ W σ H Q' := by
  obtain ⟨G, os, F, v, hh, st, hw, q⟩ := h
  exact ⟨G, os, F, v, hh, st, hw, fun G' H' sm h' => w v H' (q G' H' sm h')⟩
/-! ### a dict that is walked -/
def iD {κ : Type} (kd : Kd κ) (J : Addr → Obj → List (kd.KT × V) → It) (td : TE) : TI := fun σ H R => td σ H fun x H1 => ∃ d o kvs, x = V.ref d ∧ H1 d = some (.frz o (kd.ho kvs)) ∧ R (J d o kvs) H1
/-- e walks a dict -/
structure KJ {β : Type} (X : Cx) (tg e : Expr) (Γ : Ct) (items : List β) (sh : β → Sh) : Prop where
  ex : ∃ (κ α : Type) (kd : Kd κ) (τ : Ty α) (x : List (κ × α)) (e0 : Expr) (J : Addr → Obj → List (kd.KT × V) → It), DJ X e0 Γ (fz (tDic kd τ) x) ∧ (∀ W, PE X e0 (tD Γ W) → PI X tg e (iD kd J (tD Γ W))) ∧
    ∀ G kvs d o, Paired (KR kd τ G) kvs x → ∀ F, (d, HO.frz o (kd.ho kvs)) ∈ F → WkF F (J d o kvs) G items sh
theorem ps_lockO {X : Cx} {st : Stmt} {t : TS} (h : PS X st t) : PS X st (fun D σ H => t D σ H ∨ tLock t D σ H) := ⟨fun pins s σ H D I q => q.elim (fun q => h.run pins s σ H D I q) fun q => (ps_lock h).run pins s σ H D I q⟩
theorem pe_lockO {X : Cx} {e : Expr} {t : TE} (h : PE X e t) : PE X e (fun σ H Q => t σ H Q ∨ tLockE t σ H Q) := ⟨fun pins s σ H Q I q => q.elim (fun q => h.run pins s σ H Q I q) fun q => (pe_lock h).run pins s σ H Q I q⟩
section
variable {X : Cx} {P : Pn} {Γ Γ1 : Ct} {m : Option Ct} {α β γ κ ρ S : Type} {τ τ3 : Ty α} {τ2 : Ty β} {s : Sh} {pos p : Pos} {a e tg iter elt : Expr} {us vs : List Nat} {rest body : List Stmt} {R : Po} {rs : ρ → Sh} {ls : ρ → List Sh}
theorem for_core {items : List β} {sh : β → Sh} {f : S → β → Option (Oc ρ S)} {s0 : S} {o : Oc ρ S} {Γs : S → Ct} {Γy : S → β → Ct} {F os1 : Ow} {G1 H1 : Hp} {J : It} {σ : L2.St} {D : Ends} (h : foldX f s0 items = some o) (wk : WkF F J G1 items sh) (h1 : HH G1 (os1 ++ F) H1) (st1 : StA (Γs s0) σ G1 os1) (pn : PinA P σ) (d : (P.all fun p => decide (p.1 ∉ vs)) = true)
    (kn : ∀ s1 σ' G' os' H', o = .nx s1 → Same G1 G' → HH G' (os' ++ F) H' → StA (Γs s1) σ' G' os' → PinA P σ' → D.nx σ' H')
    (kr : ∀ r v G' ow H', o = .ret r → Same G1 G' → HH G' (ow ++ F) H' → rtO (rs r) (ls r) P v G' ow → D.rt v H') :
    FO J (fun v σ H Q => ∃ t, (∃ s y, t = tG vs (Γs s) (Γy s y) (sh y)) ∧ t v σ H Q) (fun D σ H => ∃ t, (∃ s y o', y ∈ items ∧ f s y = some o' ∧ t = tS P (Γy s y) (PoO rs ls P Γs o')) ∧ t D σ H) D σ H1 := by
  refine ⟨fun i mm σ H => mm = items.length - i ∧ i ≤ items.length ∧ ∃ s G' os', Same G1 G' ∧ HH G' (os' ++ F) H ∧ StA (Γs s) σ G' os' ∧ PinA P σ ∧ foldX f s (items.drop i) = some o, ⟨_, rfl, Nat.zero_le _, s0, G1, os1, Same.refl _, h1, st1, pn, h⟩, ?_⟩
  rintro i mm σ2 H2 ⟨rfl, hle, s2, G2, os2, sm2, h2, st2, pn2, hf⟩
  obtain ⟨ws, wi⟩ := wk G2 _ H2 sm2 h2 fun c hc => List.mem_append_right _ hc
  by_cases hlt : i < items.length
  · obtain ⟨y, hy, hd⟩ := drop_get hlt
    rw [hd] at hf
    obtain ⟨o', ho', hf'⟩ := Option.bind_eq_some_iff.mp (show (f s2 y).bind _ = some o from hf)
    obtain ⟨go, yl⟩ := wi i y hy
    refine .inr ⟨go, fun σ' H' => ∃ s' G' os', Same G1 G' ∧ HH G' (os' ++ F) H' ∧ StA (Γs s') σ' G' os' ∧ PinA P σ' ∧ foldX f s' (items.drop (i + 1)) = some o, fun σ' H' ⟨s', G', os', a1, a2, a3, a4, a5⟩ => ⟨items.length - (i + 1), by omega, rfl, hlt, s', G', os', a1, a2, a3, a4, a5⟩, fun x H3 y3 => ?_⟩
    obtain ⟨G3, sm3, h3, py⟩ := yl x H3 y3
    refine ⟨_, ⟨s2, y, rfl⟩, G3, [], os2, F, h3, st2.mono sm3, py, fun σ4 os4 w4 h4 st4 => ?_⟩
    have pn4 : PinA P σ4 := pn2.wipe w4 d
    have nxt : ∀ σ' G' os' H', Same G3 G' → HH G' (os' ++ F) H' → PinA P σ' → (PoO rs ls P Γs o').nx σ' G' os' → ∃ s' G' os', Same G1 G' ∧ HH G' (os' ++ F) H' ∧ StA (Γs s') σ' G' os' ∧ PinA P σ' ∧ foldX f s' (items.drop (i + 1)) = some o := fun σ' G' os' H' sm' h' pn' ⟨s', e', st'⟩ => by
      subst e'
      exact ⟨s', G', os', (sm2.trans sm3).trans sm', h', st', pn', hf'⟩
    refine ⟨_, ⟨s2, y, o', List.mem_of_getElem? hy, ho', rfl⟩, G3, os4, F, h4, st4, pn4, nxt, fun v G' ow H' sm' h' ⟨r, e', q⟩ => ?_, fun _ _ _ _ _ _ _ h => h.elim⟩
    have e' := retOf_eq e'
    subst e'
    exact kr r v G' ow H' (Option.some.inj hf').symm ((sm2.trans sm3).trans sm') h' q
  · have e : i = items.length := by omega
    subst e
    rw [List.drop_length] at hf
    exact .inl ⟨ws, kn s2 σ2 G2 os2 H2 (Option.some.inj hf).symm sm2 h2 st2 pn2⟩
/-- for x in a dict -/
theorem sj_forXD {items : List β} {sh : β → Sh} {f : S → β → Option (Oc ρ S)} {s0 : S} {o : Oc ρ S} {Γs : S → Ct} {Γy : S → β → Ct} {fl : List Bool} (h : foldX f s0 items = some o) (hi : KJ X tg e Γ items sh) (hl : fl.length = Γ.length) (h0 : mask fl Γ = Γs s0)
    (hg : ∀ s y, GJ X tg vs (Γs s) (Γy s y) (sh y)) (hb : ∀ s y o', y ∈ items → f s y = some o' → SJ X P body (Γy s y) (PoO rs ls P Γs o'))
    (hn : ∀ s1, o = .nx s1 → SJ X P rest (Γs s1) R) (hr : ∀ r, o = .ret r → ∀ v G ow, rtO (rs r) (ls r) P v G ow → R.rt v G ow) (hp : PassesOwn (model X.prog X.w) X.A X.env X.xe) (hc : X.calm = true) (d : (P.all fun p => decide (p.1 ∉ vs)) = true := by rfl)
    (hs : ∀ x, foldedSetIterable e X.env x = pure x := by intro _; rfl) : SJ X P (.For tg e body [] pos :: rest) Γ R := by
  obtain ⟨κ, α, kd, τ, x, e0, J, dj, pi, wk⟩ := hi.ex
  obtain ⟨W, pe, wx⟩ := dj.ex
  have hg' : PG X tg (fun v σ H Q => ∃ t, (∃ s y, t = tG vs (Γs s) (Γy s y) (sh y)) ∧ t v σ H Q) := pg_ex fun t ⟨s, y, e⟩ => by subst e; exact hg s y
  have hb' : PSs X body (fun D σ H => ∃ t, (∃ s y o', y ∈ items ∧ f s y = some o' ∧ t = tS P (Γy s y) (PoO rs ls P Γs o')) ∧ t D σ H) := pss_ex fun t ⟨s, y, o', hm, hf, e⟩ => by subst e; exact hb s y o' hm hf
  have hrest : PSs X rest (fun D σ H => ∃ t, (∃ s1, o = .nx s1 ∧ t = tS P (Γs s1) R) ∧ t D σ H) := pss_ex fun t ⟨s1, e1, e⟩ => by subst e; exact hn s1 e1
  refine pss_to (pss_cons (ps_lockO (ps_for hp hc (pi W pe) hg' hb' hs)) hrest) fun D σ H ⟨G, os, F, hh, st, pn, k1, k2, k3⟩ => go_seq ?_
  obtain ⟨v, o', ro, hw, ⟨eo, dd, kvs, ev, g, pr, nd⟩, pm⟩ := wx σ G os st
  rcases HH.lockF hh st.nf g (kd.isd _) with ⟨hd, hl2⟩ | ⟨od, F', hd, hm, hh', back⟩
  · refine .inr ⟨dd, kd.ho kvs, hd, mut_dk (kd.isd _), fun od => go_for ⟨G, os, _, v, hl2 od, st, hw, fun G1 H1 sm1 h1 => ?_⟩⟩
    have hf1 : H1 dd = some (.frz od (kd.ho kvs)) := (h1.own (dd, _) (List.mem_append_right _ (List.mem_cons_self ..))).1
    obtain ⟨os1, h1, st1⟩ := HH.masked h1 (st.mono sm1) hl
    rw [h0] at st1
    refine ⟨dd, od, kvs, ev, hf1, for_core h ((wk G kvs dd od pr _ (List.mem_cons_self ..)).mono sm1) h1 st1 pn d (fun s1 σ' G' os' H' e' sm' h' st' pn' => ?_) fun r v' G' ow H' e' sm' h' q => ?_⟩
    · have h6 := h'.perm List.perm_middle
      refine ⟨h6.get, _, ⟨s1, e', rfl⟩, G', os', F, HH.unlock h6 (sm' _ _ (sm1 _ _ g)) (kd.isd _), st', pn', fun σ3 G3 os3 H3 sm3 => k1 σ3 G3 os3 H3 ((sm1.trans sm').trans sm3), fun v G3 o H3 sm3 => k2 v G3 o H3 ((sm1.trans sm').trans sm3), fun σ3 G3 os3 H3 sm3 => k3 σ3 G3 os3 H3 ((sm1.trans sm').trans sm3)⟩
    · have h6 := h'.perm List.perm_middle
      exact ⟨h6.get, k2 v' G' ow _ (sm1.trans sm') (HH.unlock h6 (sm' _ _ (sm1 _ _ g)) (kd.isd _)) (hr r e' v' G' ow q)⟩
  · refine .inl (go_for ⟨G, os, F', v, hh', st, hw, fun G1 H1 sm1 h1 => ?_⟩)
    have hf1 : H1 dd = some (.frz od (kd.ho kvs)) := (h1.own (dd, _) (List.mem_append_right _ hm)).1
    obtain ⟨os1, h1, st1⟩ := HH.masked h1 (st.mono sm1) hl
    rw [h0] at st1
    refine ⟨dd, od, kvs, ev, hf1, for_core h ((wk G kvs dd od pr _ hm).mono sm1) h1 st1 pn d (fun s1 σ' G' os' H' e' sm' h' st' pn' => ?_) fun r v' G' ow H' e' sm' h' q => ?_⟩
    · exact ⟨_, ⟨s1, e', rfl⟩, G', os', F, back _ _ _ h', st', pn', fun σ3 G3 os3 H3 sm3 => k1 σ3 G3 os3 H3 ((sm1.trans sm').trans sm3), fun v G3 o H3 sm3 => k2 v G3 o H3 ((sm1.trans sm').trans sm3), fun σ3 G3 os3 H3 sm3 => k3 σ3 G3 os3 H3 ((sm1.trans sm').trans sm3)⟩
    · exact k2 v' G' ow _ (sm1.trans sm') (back _ _ _ h') (hr r e' v' G' ow q)
theorem sj_forD {items : List β} {sh : β → Sh} {f : S → β → Option S} {s0 s1 : S} {Γs : S → Ct} {Γy : S → β → Ct} {fl : List Bool} (rs : ρ → Sh) (ls : ρ → List Sh) (h : foldO f s0 items = some s1) (hi : KJ X tg e Γ items sh) (hl : fl.length = Γ.length) (h0 : mask fl Γ = Γs s0)
    (hg : ∀ s y, GJ X tg vs (Γs s) (Γy s y) (sh y)) (hb : ∀ s y s', y ∈ items → f s y = some s' → SJ X P body (Γy s y) (PoO rs ls P Γs (.nx s')))
    (hn : SJ X P rest (Γs s1) R) (hp : PassesOwn (model X.prog X.w) X.A X.env X.xe) (hc : X.calm = true) (d : (P.all fun p => decide (p.1 ∉ vs)) = true := by rfl)
    (hs : ∀ x, foldedSetIterable e X.env x = pure x := by intro _; rfl) : SJ X P (.For tg e body [] pos :: rest) Γ R :=
  sj_forXD (rs := rs) (ls := ls) (foldO_X (ρ := ρ) f h) hi hl h0 hg (fun s y o' hm hf => by
    obtain ⟨s', h1, h2⟩ := Option.bind_eq_some_iff.mp hf
    cases h2
    exact hb s y s' hm h1) (fun s e => by cases e; exact hn) (fun r e => by cases e) hp hc d hs
end
end Sl

set_option Elab.async false
set_option linter.all false
set_option maxRecDepth 100000
namespace Sl
open PySem PySem.Spec PyProof.Rows L2 Dl
/-! ### dicts by keys, values, items -/
class FkR {κ : Type} (f : outParam (Fk κ)) (τ : Ty κ) : Prop where
  rp : ∀ G k, τ.rep G (kV (f.enc k)) k
instance : FkR fStr tStr := ⟨fun _ _ => rfl⟩
instance : FkR fInt tInt := ⟨fun _ _ => rfl⟩
instance : FkR fSum (tSum tInt tStr) := ⟨fun _ k => by
  cases k with
  | inl i => exact .inl ⟨i, rfl, rfl⟩
  | inr z => exact .inr ⟨z, rfl, rfl⟩⟩
/-- a key that is a tuple -/
class KtR {κ : Type} (enc : κ → List Key) (τ : Ty κ) : Prop where
  rp : ∀ G q k, G q = some (.tup ((enc k).map kV)) → τ.rep G (.ref q) k
instance {α β : Type} {f : Fk α} {g : Fk β} {τ1 : Ty α} {τ2 : Ty β} [FkR f τ1] [FkR g τ2] : KtR (fun p : α × β => [f.enc p.1, g.enc p.2]) (tP2 τ1 τ2) := ⟨fun G q k h => ⟨q, _, _, rfl, h, FkR.rp G k.1, FkR.rp G k.2⟩⟩
theorem pr_enc {α : Type} {f : Fk α} {τ : Ty α} [FkR f τ] {G : Hp} : ∀ xs : List α, Paired (τ.rep G) ((xs.map f.enc).map kV) xs
  | [] => .nil
  | x :: xs => .cons (FkR.rp G x) (pr_enc xs)
instance {α : Type} {f : Fk α} {τ : Ty α} [FkR f τ] : KtR (fun xs : List α => xs.map f.enc) (tTup τ) := ⟨fun G q k h => ⟨q, _, rfl, h, pr_enc k⟩⟩
section
variable {G H : Hp} {os : Ow}
/-- a tuple that stands there may be looked at as data -/
theorem HH.seen {q : Addr} {xs : List V} (hh : HH G os H) (h : H q = some (.tup xs)) : ∃ G', Same G G' ∧ HH G' os H ∧ G' q = some (.tup xs) := by
  cases g : G q with
  | some o =>
    rcases hh.sub q o g with e | ⟨_, ob, e⟩
    · rw [h] at e
      cases e
      exact ⟨G, Same.refl _, hh, g⟩
    · rw [h] at e
      cases e
  | none =>
    refine ⟨upd G q (.tup xs), same_upd g, ⟨fun a o e => ?_, fun p hp => ?_, hh.nd, hh.nt⟩, upd_same⟩
    · by_cases ha : a = q
      · subst ha
        rw [upd_same] at e
        cases e
        exact .inl h
      · rw [upd_ne ha] at e
        exact hh.sub a o e
    · have ne : p.1 ≠ q := fun e => by
        have e1 := (hh.own p hp).1
        rw [e, h] at e1
        have := hh.nt p hp
        rw [← Option.some.inj e1] at this
        cases this
      rw [upd_ne ne]
      exact hh.own p hp
end
section
variable {X : Cx} {P : Pn} {Γ : Ct} {α β γ κ : Type} {τ : Ty α} {τk : Ty κ} {pos p apos cpos : Pos} {e tg : Expr} {d : List (κ × α)}
theorem kr_at {kd : Kd κ} {G : Hp} {kvs : List (kd.KT × V)} {i : Nat} {y : κ × α} (pr : Paired (KR kd τ G) kvs d) (h : d[i]? = some y) : ∃ v, kvs[i]? = some (kd.enc y.1, v) ∧ τ.rep G v y.2 := by
  obtain ⟨⟨k, v⟩, h1, h2, h3⟩ := pr_get2 pr h
  exact ⟨v, by rw [h1, show k = _ from h2], h3⟩
theorem map_at {δ : Type} {g : κ × α → δ} {i : Nat} {y : δ} (h : (d.map g)[i]? = some y) : ∃ p, d[i]? = some p ∧ y = g p := by
  rw [List.getElem?_map] at h
  obtain ⟨p, h1, h2⟩ := Option.map_eq_some_iff.mp h
  exact ⟨p, h1, h2.symm⟩
theorem own_at {G H : Hp} {os F : Ow} {a : Addr} {o : HO} (hh : HH G os H) (hm : (a, o) ∈ F) (hs : ∀ c ∈ F, c ∈ os) : H a = some o := (hh.own _ (hs _ hm)).1
/-- for k in d -/
theorem kj_keys {f : Fk κ} [FkR f τk] (h : DJ X e Γ (fz (tDic (kF f) τ) d)) : KJ X tg e Γ (d.map Prod.fst) (fz τk) :=
  ⟨κ, α, kF f, τ, d, e, Itk, h, fun W pe => pi_to (pi_keys pe) fun σ H R q => tD_mono q fun v H1 ⟨dd, o, kvs, e1, e2, e3⟩ => ⟨dd, o, e1, .inl ⟨kvs, e2, e3⟩⟩, fun G kvs dd o pr F hm G' os H' sm hh hs => by
    have hf := own_at hh hm hs
    refine ⟨⟨hf, by rw [List.length_map, pr_len pr]; exact Nat.le_refl _⟩, fun i y hy => ?_⟩
    obtain ⟨q, h1, rfl⟩ := map_at hy
    obtain ⟨v, h2, _⟩ := kr_at pr h1
    refine ⟨⟨hf, (List.getElem?_eq_some_iff.mp h2).1⟩, fun x H3 ⟨e3, k, v', h3, ex⟩ => ?_⟩
    subst e3
    rw [h2] at h3
    cases h3
    subst ex
    exact ⟨G', Same.refl _, hh, rfl, FkR.rp G' q.1⟩⟩
theorem kj_keysT {enc : κ → List Key} {inj : ∀ a b, enc a = enc b → a = b} [KtR enc τk] (h : DJ X e Γ (fz (tDic (kTs enc inj) τ) d)) : KJ X tg e Γ (d.map Prod.fst) (fz τk) :=
  ⟨κ, α, kTs enc inj, τ, d, e, Itkt, h, fun W pe => pi_to (pi_keys pe) fun σ H R q => tD_mono q fun v H1 ⟨dd, o, kvs, e1, e2, e3⟩ => ⟨dd, o, e1, .inr ⟨kvs, e2, e3⟩⟩, fun G kvs dd o pr F hm G' os H' sm hh hs => by
    have hf := own_at hh hm hs
    refine ⟨⟨hf, by rw [List.length_map, pr_len pr]; exact Nat.le_refl _⟩, fun i y hy => ?_⟩
    obtain ⟨q, h1, rfl⟩ := map_at hy
    obtain ⟨v, h2, _⟩ := kr_at pr h1
    refine ⟨⟨hf, (List.getElem?_eq_some_iff.mp h2).1⟩, fun x H3 ⟨e3, k, v', q', h3, ex, ht⟩ => ?_⟩
    subst e3
    rw [h2] at h3
    cases h3
    subst ex
    obtain ⟨G3, s3, hh3, g3⟩ := HH.seen hh ht
    exact ⟨G3, s3, hh3, rfl, KtR.rp G3 q' q.1 g3⟩⟩
/-- for v in d.values() -/
theorem kj_vals {f : Fk κ} (h : DJ X e Γ (fz (tDic (kF f) τ) d)) (hbase : attributeBase e "values" X.env (eval e X.env) = eval e X.env := by rfl) (hline : (apos.endLine == cpos.line) = true := by rfl) : KJ X tg (.Call (.Attribute e "values" apos) [] [] cpos) Γ (d.map Prod.snd) (fz τ) :=
  ⟨κ, α, kF f, τ, d, e, Itd, h, fun W pe => pi_to (pi_values pe hbase hline) fun σ H R q => tD_mono q fun v H1 h => h, fun G kvs dd o pr F hm G' os H' sm hh hs => by
    have hf := own_at hh hm hs
    refine ⟨⟨hf, by rw [List.length_map, pr_len pr]; exact Nat.le_refl _⟩, fun i y hy => ?_⟩
    obtain ⟨q, h1, rfl⟩ := map_at hy
    obtain ⟨v, h2, r⟩ := kr_at pr h1
    refine ⟨⟨hf, (List.getElem?_eq_some_iff.mp h2).1⟩, fun x H3 ⟨e3, k, h3⟩ => ?_⟩
    subst e3
    rw [h2] at h3
    cases h3
    exact ⟨G', Same.refl _, hh, rfl, τ.mono sm r⟩⟩
/-- for k, v in d.items() -/
theorem kj_items {f : Fk κ} [FkR f τk] {elts : List Expr} {kk : Nat} {tpos : Pos} (h : DJ X e Γ (fz (tDic (kF f) τ) d)) (hbase : attributeBase e "items" X.env (eval e X.env) = eval e X.env := by rfl) (hline : (apos.endLine == cpos.line) = true := by rfl) : KJ X (.Tuple elts kk tpos) (.Call (.Attribute e "items" apos) [] [] cpos) Γ d (fz (tP2 τk τ)) :=
  ⟨κ, α, kF f, τ, d, e, Iti, h, fun W pe => pi_to (pi_items pe hbase hline) fun σ H R q => tD_mono q fun v H1 h => h, fun G kvs dd o pr F hm G' os H' sm hh hs => by
    have hf := own_at hh hm hs
    refine ⟨⟨hf, by rw [pr_len pr]; exact Nat.le_refl _⟩, fun i y hy => ?_⟩
    obtain ⟨v, h2, r⟩ := kr_at pr hy
    refine ⟨⟨hf, (List.getElem?_eq_some_iff.mp h2).1⟩, fun x H3 ⟨T, k, v', h3, ex, nT, e3⟩ => ?_⟩
    rw [h2] at h3
    cases h3
    subst ex e3
    have sg : Same G' (upd G' T (.tup [kV (f.enc y.1), v])) := hh.sameG nT
    exact ⟨_, sg, hh.alloc nT, rfl, T, _, _, rfl, upd_same, FkR.rp _ y.1, τ.mono (sm.trans sg) r⟩⟩
end
/-! ### comprehensions over dicts -/
section
variable {X : Cx} {Γ : Ct} {α β γ κ S : Type} {τ3 : Ty γ} {pos : Pos} {elt tg iter kx vx : Expr} {ifs : List Expr}
/-- what stands locked while a reading of it runs -/
theorem lock_e {ei : Expr} {items : List β} {sh : β → Sh} {e : Expr} {s : Sh} (hi : KJ X tg ei Γ items sh) (base : ∀ ti : TI, PI X tg ei ti → ∃ t : TE, PE X e t ∧
      ∀ (σ : L2.St) (H : Hp) (Q : VK) (G : Hp) (os F : Ow), HH G (os ++ F) H → StA Γ σ G os →
        (∀ (R : It → Hp → Prop), (∀ J G1 H1, Same G G1 → HH G1 (os ++ F) H1 → WkF F J G1 items sh → R J H1) → ti σ H R) →
        (∀ v G' o H', Same G G' → HH G' (o ++ (os ++ F)) H' → s.p G' o v → Q v H') → t σ H Q) : EJ X e Γ none s := by
  obtain ⟨κ, α, kd, τ, x, e0, J, dj, pi, wk⟩ := hi.ex
  obtain ⟨W, pe, wx⟩ := dj.ex
  obtain ⟨t, ht, run⟩ := base _ (pi W pe)
  refine pe_to (pe_lockO ht) fun σ H Q ⟨G, os, F, hh, st, k⟩ => ?_
  obtain ⟨v, o', ro, hw, ⟨eo, dd, kvs, ev, g, pr, nd⟩, pm⟩ := wx σ G os st
  rcases HH.lockF hh st.nf g (kd.isd _) with ⟨hd, hl2⟩ | ⟨od, F', hd, hm, hh', back⟩
  · refine .inr ⟨dd, kd.ho kvs, hd, mut_dk (kd.isd _), fun od => run σ _ _ G os _ (hl2 od) st (fun R hR => ⟨G, os, _, v, hl2 od, st, hw, fun G1 H1 sm1 h1 => ⟨dd, od, kvs, ev, (h1.own (dd, _) (List.mem_append_right _ (List.mem_cons_self ..))).1, hR _ G1 H1 sm1 h1 ((wk G kvs dd od pr _ (List.mem_cons_self ..)).mono sm1)⟩⟩) fun v G' o H' sm' h' p => ?_⟩
    have h6 : HH G' ((dd, .frz od (kd.ho kvs)) :: (o ++ (os ++ F))) H' := h'.perm (by
      rw [← List.append_assoc, ← List.append_assoc]
      exact List.perm_middle)
    exact ⟨h6.get, k v G' o os _ sm' (HH.unlock h6 (sm' _ _ g) (kd.isd _)) rfl p⟩
  · refine .inl (run σ H Q G os F' hh' st (fun R hR => ⟨G, os, F', v, hh', st, hw, fun G1 H1 sm1 h1 => ⟨dd, od, kvs, ev, (h1.own (dd, _) (List.mem_append_right _ hm)).1, hR _ G1 H1 sm1 h1 ((wk G kvs dd od pr _ hm).mono sm1)⟩⟩) fun v G' o H' sm' h' p => k v G' o os H' sm' ?_ rfl p)
    have := back G' (o ++ os) H' (by rw [List.append_assoc]; exact h')
    rw [List.append_assoc] at this
    exact this
/-- the same, of what a name may be set to at once -/
theorem lock_lc {ei : Expr} {items : List β} {sh : β → Sh} {e : Expr} {s : Sh} (hi : KJ X tg ei Γ items sh) (base : ∀ ti : TI, PI X tg ei ti → ∃ t : TE, PE X e t ∧
      (∀ {i : Nat} {y : Str} {py spos : Pos}, X.N[i]? = some y → X.env.scope.names.lookup y = some .local → swapsWith e (some (.Name y py)) spos.line X.env = pure true → PS X (.Assign [.Name y py] e spos) (tAsg t (gName i))) ∧
      ∀ (σ : L2.St) (H : Hp) (Q : VK) (G : Hp) (os F : Ow), HH G (os ++ F) H → StA Γ σ G os →
        (∀ (R : It → Hp → Prop), (∀ J G1 H1, Same G G1 → HH G1 (os ++ F) H1 → WkF F J G1 items sh → R J H1) → ti σ H R) →
        (∀ v G' o H', Same G G' → HH G' (o ++ (os ++ F)) H' → s.p G' o v → Q v H') → t σ H Q) : LcJ X e Γ none s := by
  refine ⟨lock_e hi fun ti pi => by
    obtain ⟨t, h1, _, h3⟩ := base ti pi
    exact ⟨t, h1, h3⟩, fun {i y py spos} hy hyl hsw => ?_⟩
  obtain ⟨κ, α, kd, τ, x, e0, J, dj, pi, wk⟩ := hi.ex
  obtain ⟨W, pe, wx⟩ := dj.ex
  obtain ⟨t, _, ht, run⟩ := base _ (pi W pe)
  refine ps_to (ps_lockO (ht hy hyl hsw)) fun D σ H ⟨G, os, F, hh, st, k⟩ => ?_
  obtain ⟨v, o', ro, hw, ⟨eo, dd, kvs, ev, g, pr, nd⟩, pm⟩ := wx σ G os st
  rcases HH.lockF hh st.nf g (kd.isd _) with ⟨hd, hl2⟩ | ⟨od, F', hd, hm, hh', back⟩
  · refine .inr ⟨dd, kd.ho kvs, hd, mut_dk (kd.isd _), fun od => run σ _ _ G os _ (hl2 od) st (fun R hR => ⟨G, os, _, v, hl2 od, st, hw, fun G1 H1 sm1 h1 => ⟨dd, od, kvs, ev, (h1.own (dd, _) (List.mem_append_right _ (List.mem_cons_self ..))).1, hR _ G1 H1 sm1 h1 ((wk G kvs dd od pr _ (List.mem_cons_self ..)).mono sm1)⟩⟩) fun v G' o H' sm' h' p => ?_⟩
    have h6 : HH G' ((dd, .frz od (kd.ho kvs)) :: (o ++ (os ++ F))) H' := h'.perm (by
      rw [← List.append_assoc, ← List.append_assoc]
      exact List.perm_middle)
    exact ⟨h6.get, k v G' o os _ sm' (HH.unlock h6 (sm' _ _ g) (kd.isd _)) rfl p⟩
  · refine .inl (run σ H _ G os F' hh' st (fun R hR => ⟨G, os, F', v, hh', st, hw, fun G1 H1 sm1 h1 => ⟨dd, od, kvs, ev, (h1.own (dd, _) (List.mem_append_right _ hm)).1, hR _ G1 H1 sm1 h1 ((wk G kvs dd od pr _ hm).mono sm1)⟩⟩) fun v G' o H' sm' h' p => k v G' o os H' sm' ?_ rfl p)
    have := back G' (o ++ os) H' (by rw [List.append_assoc]; exact h')
    rw [List.append_assoc] at this
    exact this
section
variable {scope : Scope} {own : List (Str × Nat)} {items : List β} {sh : β → Sh} {f : β → Option (Option γ)} {zs : List γ} {Γy : β → Ct}
    (hg : ∀ (s : Shared) (H : Hp) (C : Addr) (cl : List (Str × Addr)) (fp : List Addr) y, GJ0 (Bk X s H scope C cl fp) tg (own.map (·.2)) (nones (own.map (·.2)) (out Γ none)) (Γy y) (sh y))
    (ht : ∀ (s : Shared) (H : Hp) (C : Addr) (cl : List (Str × Addr)) (fp : List Addr) y oz, y ∈ items → f y = some oz → TsJ (Bk X s H scope C cl fp) ifs (Γy y) none oz.isSome)
include hg ht
theorem lcPK (he : ∀ (s : Shared) (H : Hp) (C : Addr) (cl : List (Str × Addr)) (fp : List Addr) y z, y ∈ items → f y = some (some z) → EJ (Bk X s H scope C cl fp) elt (Γy y) none (fz τ3 z)) (h : mapC f items = some zs) (hsm : Sm items.length) (hc : X.calm = true) (hN : X.N.Nodup) (hi : KJ X tg iter Γ items sh) (ok : BlkOk X.N X.env.scope scope own) (hz : Zs (own.map (·.2)) Γ)
    (hs : ∀ x, foldedSetIterable iter X.env x = pure x := by intro _; rfl) : LcJ X (.ListComp elt [⟨tg, iter, ifs, 0⟩] scope pos) Γ none (oL τ3 zs) := by
  refine lock_lc hi fun ti pi => ⟨_, pe_lc hc hN pi ok (lcP_g (m0 := none) hg ht he) (lcP_t (m0 := none) hg ht he) (lcP_e (m0 := none) hg ht he) hs, fun hy hyl hsw => ps_setLc hc hN hy hyl hsw pi ok (lcP_g (m0 := none) hg ht he) (lcP_t (m0 := none) hg ht he) (lcP_e (m0 := none) hg ht he) hs, fun σ H Q G os F hh st hti k => ?_⟩
  exact go_lc (hti _ fun J G1 H1 sm1 h1 wk => lcP_run (own.map fun x : Str × Nat => x.2) h hsm hz (st.mono sm1) h1 wk fun v G' o H' sm h' p => k v G' o H' (sm1.trans sm) h' p)
theorem lcOK {she : γ → Sh} (he : ∀ (s : Shared) (H : Hp) (C : Addr) (cl : List (Str × Addr)) (fp : List Addr) y z, y ∈ items → f y = some (some z) → EJ (Bk X s H scope C cl fp) elt (Γy y) none (she z)) (h : mapC f items = some zs) (hsm : Sm items.length) (hc : X.calm = true) (hN : X.N.Nodup) (hi : KJ X tg iter Γ items sh) (ok : BlkOk X.N X.env.scope scope own) (hz : Zs (own.map (·.2)) Γ)
    (hs : ∀ x, foldedSetIterable iter X.env x = pure x := by intro _; rfl) : LcJ X (.ListComp elt [⟨tg, iter, ifs, 0⟩] scope pos) Γ none (oLst (zs.map she)) := by
  refine lock_lc hi fun ti pi => ⟨_, pe_lc hc hN pi ok (lcO_g (m0 := none) hg ht he) (lcO_t (m0 := none) hg ht he) (lcO_e (m0 := none) hg ht he) hs, fun hy hyl hsw => ps_setLc hc hN hy hyl hsw pi ok (lcO_g (m0 := none) hg ht he) (lcO_t (m0 := none) hg ht he) (lcO_e (m0 := none) hg ht he) hs, fun σ H Q G os F hh st hti k => ?_⟩
  exact go_lc (hti _ fun J G1 H1 sm1 h1 wk => lcO_run (own.map fun x : Str × Nat => x.2) h hsm hz (st.mono sm1) h1 wk fun v G' o H' sm h' p => k v G' o H' (sm1.trans sm) h' p)
end
theorem ej_dcPK [DecidableEq κ] {kd : Fk κ} {τk : Ty κ} [FkTy kd τk] {scope : Scope} {own : List (Str × Nat)} {items : List β} {sh : β → Sh} {f : β → Option (κ × γ)} {d : List (κ × γ)} {Γy : β → Ct}
    (hg : ∀ (s : Shared) (H : Hp) (C : Addr) (cl : List (Str × Addr)) (fp : List Addr) y, GJ0 (Bk X s H scope C cl fp) tg (own.map (·.2)) (nones (own.map (·.2)) Γ) (Γy y) (sh y))
    (hk : ∀ (s : Shared) (H : Hp) (C : Addr) (cl : List (Str × Addr)) (fp : List Addr) y k z, y ∈ items → f y = some (k, z) → EJ (Bk X s H scope C cl fp) kx (Γy y) none (fz τk k))
    (he : ∀ (s : Shared) (H : Hp) (C : Addr) (cl : List (Str × Addr)) (fp : List Addr) y k z, y ∈ items → f y = some (k, z) → EJ (Bk X s H scope C cl fp) vx (Γy y) none (fz τ3 z))
    (h : dicC f [] items = some d) (hsm : Sm items.length) (hc : X.calm = true) (hN : X.N.Nodup) (hi : KJ X tg iter Γ items sh) (ok : BlkOk X.N X.env.scope scope own) (hz : Zs (own.map (·.2)) Γ)
    (hs : ∀ x, foldedSetIterable iter X.env x = pure x := by intro _; rfl) : EJ X (.DictComp kx vx [⟨tg, iter, [], 0⟩] scope pos) Γ none (oD (kF kd) τ3 d) := by
  refine lock_e hi fun ti pi => ⟨_, pe_dc hc hN pi ok (g := fun v σ H Q => ∃ t, (∃ y, t = tG0 (own.map (·.2)) (nones (own.map (·.2)) Γ) (Γy y) (sh y)) ∧ t v σ H Q) (tt := tYes) (tk := fun σ H Q => ∃ t, (∃ y k z, y ∈ items ∧ f y = some (k, z) ∧ t = tT (Γy y) none (fz τk k)) ∧ t σ H Q) (tv := fun σ H Q => ∃ t, (∃ y k z, y ∈ items ∧ f y = some (k, z) ∧ t = tT (Γy y) none (fz τ3 z)) ∧ t σ H Q)
    (fun s H C cl fp => pg_ex fun t ⟨y, e⟩ => by subst e; exact hg s H C cl fp y) (fun _ _ _ _ _ => pts_nil)
    (fun s H C cl fp => pe_ex fun t ⟨y, k, z, hm, hf, e⟩ => by subst e; exact hk s H C cl fp y k z hm hf)
    (fun s H C cl fp => pe_ex fun t ⟨y, k, z, hm, hf, e⟩ => by subst e; exact he s H C cl fp y k z hm hf) hs, fun σ H Q G os F hh st hti k => ?_⟩
  exact hti _ fun J G1 H1 sm1 h1 wk => dcP_run (own.map fun x : Str × Nat => x.2) h hsm hz (st.mono sm1) h1 wk fun v G' o H' sm h' p => k v G' o H' (sm1.trans sm) h' p
end
end Sl

set_option Elab.async false
set_option linter.all false
set_option maxRecDepth 100000
namespace Sl
open PySem PySem.Spec PyProof.Rows L2 Dl
/-! ### methods of things that are owned, their fields -/
section
variable {X : Cx} {P : Pn} {Γ : Ct} {m m1 : Option Ct} {α β κ : Type} {τ : Ty α} {τ2 : Ty β} {s s' r sj : Sh} {pos p apos nm cpos : Pos} {a b e o value : Expr} {es : List Expr} {ss ss0 : List Sh} {x f : Str} {kd : Kd κ} {C : Addr} {ns : List Str} {xs ys : List α} {i j k n : Nat} {rest : List Stmt} {R : Po} {u : Sh → Ct} {CX : CXT} {ps : List Str} {E : XK} {Φ : Phi}
theorem cat_self {oself o2 os F : Ow} {ro : Ow} (pm : os.Perm (oself ++ ro)) : (o2 ++ (os ++ F)).Perm ((oself ++ o2) ++ (ro ++ F)) := by
  rw [List.append_assoc]
  refine (List.Perm.append_left o2 (List.Perm.append_right F pm)).trans ?_
  rw [List.append_assoc]
  exact perm_mid o2 oself (ro ++ F)
/-- x.m(..), x a name of an owned instance -/
theorem ej_mtV {pl : Sem Bool} (M : Met X.prog X.w X.K X.mg X.base k C f ps (spS n Φ)) (hN : X.N[i]? = some x) (hv : Vis X.env.scope x) (hi : Γ[i]? = some (some (oIns C ns ss0))) (hc : Cls X.K C) (hr : RoomG k X.A) (hx : Passes CX0 X E) (hf : ixOf f ns = none)
    {ss1 : List Sh} (ha : AJ X (e :: es) Γ m (ss.map As.val)) (hi2 : (out Γ m)[i]? = some (some (oIns C ns ss1))) (hΦ : Φ (oIns C ns ss1 :: ss) r [(0, s')]) (hn : ss.length + 1 = n := by rfl) (hd : (x == ("__debug__" : Str)) = false := by decide) (hcd : (x == ("__classdict__" : Str)) = false := by decide) (hst : starEach (e :: es) X.env = (false, eval e X.env) :: starEach es X.env := by rfl) (hpl : (backTo pos (starEach es X.env)).any (·.1) = false := by rfl)
    (ht : eval (.Call (.Attribute (.Name x nm) f apos) (e :: es) [] pos) X.env = (do
      let ov ← eval (.Name x nm) X.env
      standAt apos.atName
      let (f, first) ← holding [ov] (getMethod ov f pl)
      callWith pos f first (backTo pos (starEach (e :: es) X.env)) (backToKw pos (keywordEach [] X.env))) := by rfl) : EJ X (.Call (.Attribute (.Name x nm) f apos) (e :: es) [] pos) Γ (some ((out Γ m).set i (some s'))) r := by
  obtain ⟨fi, fd, hm, Fn, hb⟩ := M.ex
  refine pe_to (pe_methG (pl := pl) (pe_var (i := i) hN hv hd hcd) hc hm Fn hr hb hx ha hst hpl ht) fun σ H Q ⟨G, os, F, hh, st, kk⟩ => ?_
  obtain ⟨v, o1, ro, a1, ⟨ad, dx, vs, o6, e0, eo, l, sh⟩, a3, _, _⟩ := st.take hi
  subst e0 eo
  refine ⟨_, a1, ad, dx, _, rfl, (at_of hh a3).own, zip_lookup_none hf, G, os, F, hh, st, fun ws G2 o2 os2 H2 sm2 h2 af2 ap2 => ?_⟩
  obtain ⟨v2, oself, ro2, b1, b2, b3, _, back⟩ := (af2.st st sm2).take hi2
  rw [a1] at b1
  cases b1
  refine ⟨G2, oself ++ o2, ro2 ++ F, oIns C ns ss1 :: ss, _, _, by simp [(asp_vals ap2).len, ← hn], h2.perm (cat_self b3), ⟨_, ws, oself, o2, by simp, rfl, b2, asp_vals ap2⟩, hΦ, fun w G' o' ow' H' sm h' pr ⟨v3, q1, q2, e1, e2, p1, (e3 : q2 = [])⟩ => ?_⟩
  subst e3 e2
  have e1 : v3 = V.ref ad := (Option.some.inj e1).symm
  subst e1
  rw [List.append_nil] at h'
  obtain ⟨os', pm', st'⟩ := back G' s' q1 sm p1
  exact kk w G' o' os' H' (sm2.trans sm) (h'.perm (List.Perm.append_left o' (by
    rw [← List.append_assoc]
    exact List.Perm.append_right F pm'.symm))) st' pr
theorem ej_mtV0 {pl : Sem Bool} (M : Met X.prog X.w X.K X.mg X.base k C f ps (spS n Φ)) (hN : X.N[i]? = some x) (hv : Vis X.env.scope x) (hi : Γ[i]? = some (some (oIns C ns ss0))) (hc : Cls X.K C) (hr : RoomG k X.A) (hx : Passes CX0 X E) (hf : ixOf f ns = none)
    (hΦ : Φ [oIns C ns ss0] r [(0, s')]) (hn : 1 = n := by rfl) (hd : (x == ("__debug__" : Str)) = false := by decide) (hcd : (x == ("__classdict__" : Str)) = false := by decide)
    (ht : eval (.Call (.Attribute (.Name x nm) f apos) [] [] pos) X.env = (do
      let ov ← eval (.Name x nm) X.env
      standAt apos.atName
      let (f, first) ← holding [ov] (getMethod ov f pl)
      callWith pos f first (backTo pos (starEach [] X.env)) (backToKw pos (keywordEach [] X.env))) := by rfl) : EJ X (.Call (.Attribute (.Name x nm) f apos) [] [] pos) Γ (some (Γ.set i (some s'))) r := by
  obtain ⟨fi, fd, hm, Fn, hb⟩ := M.ex
  refine pe_to (pe_methG0 (pl := pl) (pe_var (i := i) hN hv hd hcd) hc hm Fn hr hb hx ht) fun σ H Q ⟨G, os, F, hh, st, kk⟩ => ?_
  obtain ⟨v, o1, ro, a1, a2, a3, _, back⟩ := st.take hi
  obtain ⟨ad, dx, vs, o6, e0, eo, l, sh⟩ := id a2
  subst e0 eo
  refine ⟨_, a1, ad, dx, _, rfl, (at_of hh a3).own, zip_lookup_none hf, ?_⟩
  refine ⟨G, _, ro ++ F, [oIns C ns ss0], _, _, by simp [← hn], hh.perm (by
    rw [← List.append_assoc]
    exact List.Perm.append_right F a3), ⟨_, [], _, [], rfl, (List.append_nil _).symm, a2, rfl, rfl⟩, hΦ, fun w G' o' ow' H' sm h' pr ⟨v3, q1, q2, e1, e2, p1, (e3 : q2 = [])⟩ => ?_⟩
  subst e3 e2
  have e1 : v3 = V.ref ad := (Option.some.inj e1).symm
  subst e1
  rw [List.append_nil] at h'
  obtain ⟨os', pm', st'⟩ := back G' s' q1 sm p1
  exact kk w G' o' os' H' sm (h'.perm (List.Perm.append_left o' (by
    rw [← List.append_assoc]
    exact List.Perm.append_right F pm'.symm))) st' pr
/-- o.m(..), o a place, of arguments that change nothing -/
theorem ej_mtP {pl : Sem Bool} (M : Met X.prog X.w X.K X.mg X.base k C f ps (spS n Φ)) (ho : FJ X o Γ (oIns C ns ss0) u) (hc : Cls X.K C) (hr : RoomG k X.A) (hx : Passes CX0 X E) (hf : ixOf f ns = none)
    (ha : AJ X (e :: es) Γ none (ss.map As.val)) (hΦ : Φ (oIns C ns ss0 :: ss) r [(0, s')]) (hn : ss.length + 1 = n := by rfl) (hst : starEach (e :: es) X.env = (false, eval e X.env) :: starEach es X.env := by rfl) (hpl : (backTo pos (starEach es X.env)).any (·.1) = false := by rfl)
    (ht : eval (.Call (.Attribute o f apos) (e :: es) [] pos) X.env = (do
      let ov ← eval o X.env
      standAt apos.atName
      let (f, first) ← holding [ov] (getMethod ov f pl)
      callWith pos f first (backTo pos (starEach (e :: es) X.env)) (backToKw pos (keywordEach [] X.env))) := by rfl) : EJ X (.Call (.Attribute o f apos) (e :: es) [] pos) Γ (some (u s')) r := by
  obtain ⟨fi, fd, hm, Fn, hb⟩ := M.ex
  refine pe_to (pe_methG (pl := pl) ho hc hm Fn hr hb hx ha hst hpl ht) fun σ H Q ⟨G, os, F, hh, st, kk⟩ => ⟨G, os, F, hh, st, fun v G1 H1 sm1 h1 ⟨oself, ro, pm, a2, back⟩ => ?_⟩
  obtain ⟨ad, dx, vs, o6, e0, eo, l, sh⟩ := id a2
  subst e0 eo
  refine ⟨ad, dx, _, rfl, (at_of h1 pm).own, zip_lookup_none hf, G1, os, F, h1, st.mono sm1, fun ws G2 o2 os2 H2 sm2 h2 (e2 : os2 = os) ap2 => ?_⟩
  subst e2
  refine ⟨G2, _ ++ o2, ro ++ F, oIns C ns ss0 :: ss, _, _, by simp [(asp_vals ap2).len, ← hn], h2.perm (cat_self pm), ⟨_, ws, _, o2, by simp, rfl, (oIns C ns ss0).mono sm2 a2, asp_vals ap2⟩, hΦ, fun w G' o' ow' H' sm h' pr ⟨v3, q1, q2, e1, e2, p1, (e3 : q2 = [])⟩ => ?_⟩
  subst e3 e2
  have e1 : v3 = V.ref ad := (Option.some.inj e1).symm
  subst e1
  rw [List.append_nil] at h'
  obtain ⟨os', pm', st'⟩ := back G' s' q1 (sm2.trans sm) p1
  exact kk w G' o' os' H' ((sm1.trans sm2).trans sm) (h'.perm (List.Perm.append_left o' (by
    rw [← List.append_assoc]
    exact List.Perm.append_right F pm'.symm))) st' pr
theorem ej_mtP0 {pl : Sem Bool} (M : Met X.prog X.w X.K X.mg X.base k C f ps (spS n Φ)) (ho : FJ X o Γ (oIns C ns ss0) u) (hc : Cls X.K C) (hr : RoomG k X.A) (hx : Passes CX0 X E) (hf : ixOf f ns = none)
    (hΦ : Φ [oIns C ns ss0] r [(0, s')]) (hn : 1 = n := by rfl)
    (ht : eval (.Call (.Attribute o f apos) [] [] pos) X.env = (do
      let ov ← eval o X.env
      standAt apos.atName
      let (f, first) ← holding [ov] (getMethod ov f pl)
      callWith pos f first (backTo pos (starEach [] X.env)) (backToKw pos (keywordEach [] X.env))) := by rfl) : EJ X (.Call (.Attribute o f apos) [] [] pos) Γ (some (u s')) r := by
  obtain ⟨fi, fd, hm, Fn, hb⟩ := M.ex
  refine pe_to (pe_methG0 (pl := pl) ho hc hm Fn hr hb hx ht) fun σ H Q ⟨G, os, F, hh, st, kk⟩ => ⟨G, os, F, hh, st, fun v G1 H1 sm1 h1 ⟨oself, ro, pm, a2, back⟩ => ?_⟩
  obtain ⟨ad, dx, vs, o6, e0, eo, l, sh⟩ := id a2
  subst e0 eo
  refine ⟨ad, dx, _, rfl, (at_of h1 pm).own, zip_lookup_none hf, ?_⟩
  refine ⟨G1, _, ro ++ F, [oIns C ns ss0], _, _, by simp [← hn], h1.perm (by
    rw [← List.append_assoc]
    exact List.Perm.append_right F pm), ⟨_, [], _, [], rfl, (List.append_nil _).symm, a2, rfl, rfl⟩, hΦ, fun w G' o' ow' H' sm h' pr ⟨v3, q1, q2, e1, e2, p1, (e3 : q2 = [])⟩ => ?_⟩
  subst e3 e2
  have e1 : v3 = V.ref ad := (Option.some.inj e1).symm
  subst e1
  rw [List.append_nil] at h'
  obtain ⟨os', pm', st'⟩ := back G' s' q1 sm p1
  exact kk w G' o' os' H' (sm1.trans sm) (h'.perm (List.Perm.append_left o' (by
    rw [← List.append_assoc]
    exact List.Perm.append_right F pm'.symm))) st' pr
/-- x.f = e, an old field -/
theorem sj_fldset (hN : X.N[i]? = some x) (hv : Vis X.env.scope x) (he : EJ X e Γ m s) (hi : (out Γ m)[i]? = some (some (oIns C ns ss))) (hc : Cls X.K C) (hn : NoAttr X.K C f) (hf : ixOf f ns = some j) (hy : ss[j]? = some sj) (hlen : (decide (ns.length < 1000)) = true)
    (hr : SJ X P rest ((out Γ m).set i (some (oIns C ns (ss.set j s)))) R) (hd : (x == ("__debug__" : Str)) = false := by decide) (hcd : (x == ("__classdict__" : Str)) = false := by decide) (hs : swapsWith e (some (.Attribute (.Name x nm) f p)) pos.line X.env = pure false := by rfl) :
    SJ X P (.Assign [.Attribute (.Name x nm) f p] e pos :: rest) Γ R :=
  pss_to (pss_cons (ps_fld (pe_var (i := i) hN hv hd hcd) he hs) hr) fun D σ H ⟨G, os, F, hh, st, pn, k1, k2, k3⟩ => go_seq ⟨G, os, F, hh, st, fun w G1 o1 os1 H1 sm1 hh1 af1 pw => by
    have st1 := af1.st st sm1
    obtain ⟨v2, o4, ro4, b1, ⟨ad, dx, vs, o6, e0, eo, l, sh⟩, b3, _, back⟩ := st1.take hi
    subst e0 eo
    have hh1' : HH G1 ((ad, .ins C dx (ns.zip vs)) :: (o6 ++ ro4 ++ (o1 ++ F))) H1 := hh1.perm ((perm_mid o1 os1 F).trans (List.Perm.append_right (o1 ++ F) b3))
    have hput := hh1'.put (o' := .ins C dx (ns.zip (vs.set j w))) (.inr fun _ _ z => nomatch z)
    have swap : ∀ {ss : List Sh} {oo : Ow} {vs : List V} {j : Nat} {sj : Sh}, Shs ss G1 oo vs → ss[j]? = some sj → ∃ dead o2, (o1 ++ oo).Perm (dead ++ o2) ∧ Shs (ss.set j s) G1 o2 (vs.set j w) := by
      intro ss
      induction ss with
      | nil => intro oo vs j sj _ h; simp at h
      | cons t ts ih =>
        intro oo vs j sj ⟨v, vr, q1, q2, q3, q4, q5, q6⟩ h
        subst q3 q4
        cases j with
        | zero => exact ⟨q1, o1 ++ q2, by rw [← List.append_assoc, ← List.append_assoc]; exact List.Perm.append_right q2 List.perm_append_comm, w, vr, o1, q2, rfl, rfl, pw, q6⟩
        | succ j =>
          obtain ⟨dead, o2, p1, p2⟩ := ih (j := j) q6 (by simpa using h)
          exact ⟨dead, q1 ++ o2, (perm_mid o1 q1 q2).trans ((List.Perm.append_left q1 p1).trans (perm_mid q1 dead o2)), v, vr.set j w, q1, o2, rfl, rfl, q5, p2⟩
    obtain ⟨dead, o7, p7, sh7⟩ := swap sh hy
    obtain ⟨os', p', q'⟩ := back G1 (oIns C ns (ss.set j s)) ((ad, .ins C dx (ns.zip (vs.set j w))) :: o7) (Same.refl _) ⟨ad, dx, vs.set j w, o7, rfl, rfl, by simp [l], sh7⟩
    refine ⟨.ref ad, b1, ad, C, dx, ns.zip vs, rfl, hh1'.get, hc, hn, ?_, G1, os', F, HH.drops (d := dead) ?_, q', pn, fun σ3 G3 os3 H3 sm3 => k1 σ3 G3 os3 H3 (sm1.trans sm3), fun v G3 o H3 sm3 => k2 v G3 o H3 (sm1.trans sm3), fun σ3 G3 os3 H3 sm3 => k3 σ3 G3 os3 H3 (sm1.trans sm3)⟩
    · rw [List.length_zip, l, Nat.min_self]
      exact of_decide_eq_true hlen
    · rw [zip_put_old hf l]
      refine hput.perm ?_
      refine List.Perm.trans ?_ (List.Perm.append_left dead (List.Perm.append_right F p'.symm))
      refine List.Perm.trans (List.Perm.cons _ (?_ : (o6 ++ ro4 ++ (o1 ++ F)).Perm (dead ++ (o7 ++ (ro4 ++ F))))) ?_
      · rw [List.append_assoc]
        have h1 : (o6 ++ (ro4 ++ (o1 ++ F))).Perm ((o1 ++ o6) ++ (ro4 ++ F)) := by
          refine (List.Perm.append_left o6 (perm_mid ro4 o1 F)).trans ?_
          rw [← List.append_assoc]
          exact List.Perm.append_right _ List.perm_append_comm
        refine h1.trans ?_
        rw [← List.append_assoc dead]
        exact List.Perm.append_right _ p7
      · show _
        rw [List.cons_append, List.cons_append, List.append_assoc o7]
        exact List.perm_middle.symm⟩
/-! ### lists, dicts at places -/
/-- o.pop() -/
theorem ej_popF {y : α} (ho : FJ X o Γ (oL τ xs) u) (hy : xs.getLast? = some y) (hbase : attributeBase o "pop" X.env (eval o X.env) = eval o X.env := by rfl) (hline : (apos.endLine == cpos.line) = true := by rfl) :
    EJ X (.Call (.Attribute o "pop" apos) [] [] cpos) Γ (some (u (oL τ xs.dropLast))) (fz τ y) :=
  pe_to (pe_bm0 PySem.F.plainAttrs_list PySem.F.slot_list_pop PySem.F.type_list_pop mt_pop ho hbase hline) fun σ H Q ⟨G, os, F, hh, st, k⟩ => ⟨G, os, F, hh, st, fun v G1 H1 sm1 h1 ⟨ow, ro, pm, ⟨ad, vs, e0, eo, pr⟩, back⟩ => by
    subst e0 eo
    have hx : xs[xs.length - 1]? = some y := by rw [← List.getLast?_eq_getElem?]; exact hy
    obtain ⟨w, hw, rw_⟩ := pr_get2 pr hx
    have hput : HH G1 ((ad, .lst vs.dropLast) :: (ro ++ F)) (upd H1 ad (.lst vs.dropLast)) := (h1.perm (List.Perm.append_right F pm)).put nf_lst
    have pd : Paired (τ.rep G1) vs.dropLast xs.dropLast := by
      rw [List.dropLast_eq_take, List.dropLast_eq_take, pr_len pr]
      exact pr_take pr
    obtain ⟨os4, p4, st4⟩ := back G1 (oL τ xs.dropLast) [(ad, .lst vs.dropLast)] (Same.refl _) ⟨ad, _, rfl, rfl, pd⟩
    exact ⟨.inl ⟨rfl, vs, SqL.of (at_of h1 pm).own⟩, ad, vs, w, rfl, rfl, (at_of h1 pm).own, by rw [pr_len pr]; exact hw, k w G1 [] os4 _ sm1 (hput.perm (List.Perm.append_right F p4.symm)) st4 ⟨rfl, rw_⟩⟩⟩
/-- o.extend(e) -/
theorem ej_extF (ho : FJ X o Γ (oL τ xs) u) (ha : AJ X [e] Γ none [.val (fz (tList τ) ys)]) (hz : Sm (xs.length + ys.length))
    (hbase : attributeBase o "extend" X.env (eval o X.env) = eval o X.env := by rfl)
    (hfew : ((backTo pos (starEach [e] X.env)).all (fun x => !x.1) && (backToKw pos (keywordEach [] X.env)).all (fun x => x.1.isSome) && decide ([e].length + ([] : List Keyword).length + (if ([] : List Keyword).isEmpty then 0 else 1) < 30)) = true := by rfl)
    (hline : (apos.endLine == pos.line) = true := by rfl) (hs : starEach [e] X.env = (false, eval e X.env) :: starEach [] X.env := by rfl) (hplain : (backTo pos (starEach [] X.env)).any (·.1) = false := by rfl) :
    EJ X (.Call (.Attribute o "extend" apos) [e] [] pos) Γ (some (u (oL τ (xs ++ ys)))) (fz tNon ()) :=
  pe_to (pe_bm PySem.F.plainAttrs_list PySem.F.slot_list_extend PySem.F.type_list_extend mt_extend ho ha hbase hfew hline hs hplain) fun σ H Q ⟨G, os, F, hh, st, k⟩ => by
    refine go_tbm ⟨G, os, F, hh, st, fun v G1 H1 sm1 h1 ⟨ow, rest, pm, ⟨ad, vs, e0, eo, pr⟩, back⟩ => ⟨?_, ⟨G1, os, F, h1, st.mono sm1, fun ws G2 o1 os1 H2 sm2 h2 (af2 : os1 = os) ⟨w, wr, o2, o3, e1, e2, ⟨e3, ab, vb, eb, gb, prb⟩, e4, e5⟩ => ?_⟩⟩⟩
    · subst e0 eo
      exact .inl ⟨rfl, vs, SqL.of (at_of h1 pm).own⟩
    · subst e1 e4 e2 e3 e5 af2 e0 eo eb
      have h2' : HH G2 (os1 ++ F) H2 := h2
      have hput : HH G2 ((ad, .lst (vs ++ vb)) :: (rest ++ F)) (upd H2 ad (.lst (vs ++ vb))) := (h2'.perm (List.Perm.append_right F pm)).put nf_lst
      obtain ⟨os4, p4, st4⟩ := back G2 (oL τ (xs ++ ys)) [(ad, .lst (vs ++ vb))] sm2 ⟨ad, _, rfl, rfl, pr_app (pair_mono sm2 pr) prb⟩
      exact ⟨ad, ab, vs, vb, rfl, rfl, (at_of h2' pm).own, h2'.lst gb, by rw [pr_len pr, pr_len prb]; exact Sm.le hz, k .non G2 [] os4 _ (sm1.trans sm2) (hput.perm (List.Perm.append_right F p4.symm)) st4 ⟨rfl, rfl⟩⟩
/-- of one thing at a place -/
theorem fj_args (h : FJ X a Γ s u) (hs : starEach [a] X.env = (false, eval a X.env) :: starEach [] X.env := by rfl) : PA X [a] (fun σ H Q => ∃ G os F, HH G (os ++ F) H ∧ StA Γ σ G os ∧ ∀ v G' H' o rest, Same G G' → HH G' (os ++ F) H' → os.Perm (o ++ rest) → s.p G' o v → Q [v] H') :=
  pa_to (pa_cons h pa_nil hs) fun σ H Q ⟨G, os, F, hh, st, k⟩ => go_cons ⟨G, os, F, hh, st, fun v G1 H1 sm1 h1 ⟨o, rest, pm, ps, _⟩ => go_nil (k v G1 H1 o rest sm1 h1 pm ps)⟩
theorem ej_bF {id : String} {rv : List V → Hp → VK → Prop} (cr : CallR X (.builtin id) rv) (sp : VA [s] r rv) (hg : Gl X x) (hm : X.mg x = none) (hv : bootBuiltins x = some (.builtin id)) (ha : FJ X a Γ s u) (hn : x ≠ "__name__" := by decide) (hdb : (x == ("__debug__" : Str)) = false := by decide)
    (he : starEach [a] X.env = (false, eval a X.env) :: starEach [] X.env := by rfl) (hpl : (backTo pos (starEach [] X.env)).any (·.1) = false := by rfl) : EJ X (.Call (.Name x p) [a] [] pos) Γ none r :=
  pe_to (pe_callB cr hg hm hv (fj_args ha he) hn hdb he hpl) fun σ H Q ⟨G, os, F, hh, st, k⟩ => go_tcb ⟨G, os, F, hh, st, fun v G1 H1 o rest sm1 h1 pm ps =>
    sp [v] G1 H1 (os ++ F) o Q ⟨h1, rest ++ F, by rw [← List.append_assoc]; exact List.Perm.append_right F pm⟩ ⟨v, [], o, [], rfl, by rw [List.append_nil], ps, rfl, rfl⟩ fun w G2 o2 H2 sm2 h2 p2 => k w G2 o2 os H2 (sm1.trans sm2) h2 rfl p2⟩
theorem ej_tyF {id : String} {rv : List V → Hp → VK → Prop} (cr : CallR X (.type id) rv) (sp : VA [s] r rv) (hg : Gl X x) (hm : X.mg x = none) (hv : bootBuiltins x = some (.type id)) (ha : FJ X a Γ s u) (hn : x ≠ "__name__" := by decide) (hdb : (x == ("__debug__" : Str)) = false := by decide)
    (he : starEach [a] X.env = (false, eval a X.env) :: starEach [] X.env := by rfl) (hpl : (backTo pos (starEach [] X.env)).any (·.1) = false := by rfl) : EJ X (.Call (.Name x p) [a] [] pos) Γ none r :=
  pe_to (pe_callTy cr hg hm hv (fj_args ha he) hn hdb he hpl) fun σ H Q ⟨G, os, F, hh, st, k⟩ => go_tcb ⟨G, os, F, hh, st, fun v G1 H1 o rest sm1 h1 pm ps =>
    sp [v] G1 H1 (os ++ F) o Q ⟨h1, rest ++ F, by rw [← List.append_assoc]; exact List.Perm.append_right F pm⟩ ⟨v, [], o, [], rfl, by rw [List.append_nil], ps, rfl, rfl⟩ fun w G2 o2 H2 sm2 h2 p2 => k w G2 o2 os H2 (sm1.trans sm2) h2 rfl p2⟩
/-- k in o, k not in o -/
theorem key_thenF {k' : β} {R : V → V → Hp → Prop} {σ : L2.St} {H : Hp} (h : ∃ G os F, HH G (os ++ F) H ∧ StA Γ σ G os ∧ ∀ w v G' H' o rest, Same G G' → os.Perm (o ++ rest) → HH G' (os ++ F) H' → s.p G' o v → τ2.rep G' w k' → R w v H') :
    tT Γ none (fz τ2 k') σ H fun w H1 => tF Γ s u σ H1 fun v H2 => R w v H2 := by
  obtain ⟨G, os, F, hh, st, kk⟩ := h
  refine tT.one ⟨G, os, F, hh, st, fun w G' os' H' sm h' (af : os' = os) rw_ => ?_⟩
  subst af
  exact ⟨G', os', F, h', st.mono sm, fun v G2 H2 sm2 h2 ⟨o, rest, pm, hs, _⟩ => kk w v G2 H2 o rest (sm.trans sm2) pm h2 hs (τ2.mono sm2 rw_)⟩
section
variable [DecidableEq κ] {d : List (κ × α)} {kk : κ} {τk : Ty κ} [KeyTy kd τk]
theorem ej_dinF (hu : X.A.units + 1 < cLine) (h : RdD s kd τ d) (hi : EJ X e Γ none (fz τk kk)) (ho : FJ X o Γ s u) (hm : behindInMarks .In o = false := by rfl) : EJ X (.Compare e [.In] [o] pos) Γ none (fz tBool (ahas d kk)) :=
  pe_to (pe_cmp (pc_din hu hi ho) hm) fun σ H Q ⟨G, os, F, hh, st, q⟩ => go_din (key_thenF ⟨G, os, F, hh, st, fun w v G' H' o2 rest sm pm h' rv rw_ => din_core h ⟨h', rest ++ F, by rw [← List.append_assoc]; exact List.Perm.append_right F pm⟩ rv rw_ fun z G2 o2 H2 s2 h2 p2 => q z G2 o2 os H2 (sm.trans s2) h2 rfl p2⟩)
theorem ej_dninF (hu : X.A.units + 1 < cLine) (h : RdD s kd τ d) (hi : EJ X e Γ none (fz τk kk)) (ho : FJ X o Γ s u) (hm : behindInMarks .NotIn o = false := by rfl) : EJ X (.Compare e [.NotIn] [o] pos) Γ none (fz tBool (!ahas d kk)) :=
  pe_to (pe_cmp (pc_dnotin hu hi ho) hm) fun σ H Q ⟨G, os, F, hh, st, q⟩ => go_dnotin (key_thenF ⟨G, os, F, hh, st, fun w v G' H' o2 rest sm pm h' rv rw_ => dnin_core h ⟨h', rest ++ F, by rw [← List.append_assoc]; exact List.Perm.append_right F pm⟩ rv rw_ fun z G2 o2 H2 s2 h2 p2 => q z G2 o2 os H2 (sm.trans s2) h2 rfl p2⟩)
/-- d.get(k), d.get(k, x) of a dict that is data -/
theorem ej_get1 [Som τ] (hu : X.A.units + 1 < cLine) (ho : EJ X o Γ m (fz (tDic kd τ) d)) (hi : EJ X e (out Γ m) none (fz τk kk)) (m1 : M1 X o "get" apos e cpos) : EJ X (.Call (.Attribute o "get" apos) [e] [] cpos) Γ m (fz (tOpt τ) (aget d kk)) :=
  pe_to (pe_dget1 hu ho hi m1) fun σ H Q ⟨G, os, F, hh, st, q⟩ => tT.one ⟨G, os, F, hh, st, fun v G1 os1 H1 sm1 h1 af r1 => by
    obtain ⟨a, vs, ev, g, pr, nd⟩ := id r1
    refine ⟨a, ev, kd.isdd (h1.rd g), tT.one ⟨G1, os1, F, h1, af.st st sm1, fun w G2 os2 H2 sm2 h2 (e2 : os2 = os1) r2 => ?_⟩⟩
    subst e2
    have dg := kd.dget (h2.rd (sm2 _ _ g)) (KeyTy.is h2 r2)
    refine ⟨_, dg, ?_⟩
    rcases kr_get kk pr with ⟨y, z, q1, q2, q3⟩ | ⟨q1, q2⟩
    · rw [q1]
      rw [q2] at q
      exact q y G2 [] os2 H2 (sm1.trans sm2) h2 (af.mono sm2) ⟨rfl, .inr ⟨z, rfl, fun hn => Som.no (τ := τ) G1 z (hn ▸ q3), τ.mono sm2 q3⟩⟩
    · rw [q1]
      rw [q2] at q
      exact q .non G2 [] os2 H2 (sm1.trans sm2) h2 (af.mono sm2) ⟨rfl, .inl ⟨rfl, rfl⟩⟩⟩
theorem ej_get2 {y0 : α} {e2 : Expr} (hu : X.A.units + 1 < cLine) (ho : EJ X o Γ m (fz (tDic kd τ) d)) (hi : EJ X e (out Γ m) none (fz τk kk)) (hd : EJ X e2 (out Γ m) none (fz τ y0)) (m2 : M2 X o "get" apos e e2 cpos) : EJ X (.Call (.Attribute o "get" apos) [e, e2] [] cpos) Γ m (fz τ ((aget d kk).getD y0)) :=
  pe_to (pe_dget2 hu ho hi hd m2) fun σ H Q ⟨G, os, F, hh, st, q⟩ => tT.one ⟨G, os, F, hh, st, fun v G1 os1 H1 sm1 h1 af r1 => by
    obtain ⟨a, vs, ev, g, pr, nd⟩ := id r1
    refine ⟨a, ev, kd.isdd (h1.rd g), tT.one ⟨G1, os1, F, h1, af.st st sm1, fun w G2 os2 H2 sm2 h2 (e2 : os2 = os1) r2 => ?_⟩⟩
    subst e2
    refine tT.one ⟨G2, os2, F, h2, (af.st st sm1).mono sm2, fun w3 G3 os3 H3 sm3 h3 (e3 : os3 = os2) r3 => ?_⟩
    subst e3
    have dg := kd.dget (h3.rd (sm3 _ _ (sm2 _ _ g))) (KeyTy.is h3 (τk.mono sm3 r2))
    refine ⟨_, dg, ?_⟩
    rcases kr_get kk pr with ⟨y, z, q1, q2, q3⟩ | ⟨q1, q2⟩
    · rw [q1]
      rw [q2] at q
      exact q y G3 [] os3 H3 ((sm1.trans sm2).trans sm3) h3 (af.mono (sm2.trans sm3)) ⟨rfl, τ.mono (sm2.trans sm3) q3⟩
    · rw [q1]
      rw [q2] at q
      exact q w3 G3 [] os3 H3 ((sm1.trans sm2).trans sm3) h3 (af.mono (sm2.trans sm3)) ⟨rfl, r3⟩⟩
end
end
end Sl

set_option Elab.async false
set_option linter.all false
set_option maxRecDepth 100000
namespace Sl
open PySem PySem.Spec PyProof.Rows L2 Dl
/-! ### defs that only look -/
abbrev Phr := List Sh → Sh → Prop
def spR (n : Nat) (Φ : Phr) : Sp := fun vs H Q _ => ∃ G ow F ss r, vs.length = n ∧ HH G (ow ++ F) H ∧ Shs ss G ow vs ∧ Φ ss r ∧ ∀ v G' H', Same G G' → HH G' (ow ++ F) H' → r.p G' [] v → Q v H'
def tR (Γ : Ct) (s : Sh) : TS := fun D σ H => ∃ G os F, HH G (os ++ F) H ∧ StA Γ σ G os ∧ ∀ v G' H', Same G G' → HH G' (os ++ F) H' → s.p G' [] v → D.rt v H'
abbrev RJ (X : Cx) (st : List Stmt) (Γ : Ct) (s : Sh) : Prop := PSs X st (tR Γ s)
section
variable {Pg : Program} {w : World} {K : PySem.W.Frag} {mg : Str → Option Value} {base : Heap}
theorem Fun.okR {x q : Str} {st : Stmt} {f0 : Addr} {fd : FuncData} {N ps : List Str} {k n : Nat} {Φ : Phr} (D : Fun K x q st f0 fd) (S : FnScope N ps (defScope st)) (hn : n = ps.length) (hN : n ≤ N.length)
    (hbody : ∀ (X : Cx) (s : Shared) (H : Hp) (A : Around) (outer : List Env) (cdv : Value) (E : XK) (ss : List Sh) (r : Sh) (vs : List V),
      RoomG k (A.deeper (envOfC q (defScope st) s.heap.objs.size f0 cdv)) → vs.length = n → Φ ss r →
      RJ (cxOf CX0 Pg w K mg base N q (defScope st) f0 cdv A outer s H E).nox (defBody st) (ss.map some ++ List.replicate (N.length - n) none) r) : FnG Pg w K mg base CX0 (k + 1) f0 fd ps (spR n Φ) := by
  refine Fun.okG D S (fun vs H Q E h => ?_) fun cdv A outer s H vs Q E hr h => ?_
  · obtain ⟨_, _, _, _, _, e, _⟩ := h
    rw [e, hn]
  · obtain ⟨G, ow, F, ss, r, e, hh, hs, hΦ, k⟩ := h
    have hb := hbody (cxOf CX0 Pg w K mg base N q (defScope st) f0 cdv A outer s H E).nox s H A outer cdv E ss r vs hr e hΦ
    refine ⟨_, hb, G, ow, F, hh, ?_, fun v G' H' sm h' p => k v G' H' sm h' p⟩
    have := StA.start (n := N.length - n) hs
    unfold L2.start
    rw [e]
    exact this
end
section
variable {X : Cx} {P : Pn} {Γ : Ct} {m m1 : Option Ct} {α β κ : Type} {τ : Ty α} {τ2 : Ty β} {s s' r sj s1 s2 s1' s2' : Sh} {pos p apos nm cpos p1 p2 q1 q2 : Pos} {a b e o value : Expr} {es : List Expr} {ss ss0 : List Sh} {x y f f1 f2 : Str} {kd : Kd κ} {C : Addr} {ns : List Str} {xs ys : List α} {i j j1 j2 k n : Nat} {rest : List Stmt} {R : Po} {u : Sh → Ct} {CX : CXT} {ps : List Str} {E : XK} {Φ : Phr}
theorem rj_ret {z : α} (he : EJ X e Γ none (fz τ z)) : RJ X [.Return (some e) pos] Γ (fz τ z) :=
  pss_to (pss_cons (ps_ret he) pss_never) fun D σ H ⟨G, os, F, hh, st, k⟩ => go_seq (go_ret (tT.one ⟨G, os, F, hh, st, fun v G' os' H' sm h' (e : os' = os) ps => k v G' H' sm (by subst e; exact h') ⟨rfl, ps⟩⟩))
/-- o.m(..), that only looks -/
theorem ej_mrP {z : α} {pl : Sem Bool} (M : Met X.prog X.w X.K X.mg X.base k C f ps (spR n Φ)) (ho : FJ X o Γ (oIns C ns ss0) u) (hc : Cls X.K C) (hr : RoomG k X.A) (hx : Passes CX0 X E) (hf : ixOf f ns = none)
    (ha : AJ X (e :: es) Γ none (ss.map As.val)) (hΦ : Φ (oIns C ns ss0 :: ss) (fz τ z)) (hn : ss.length + 1 = n := by rfl) (hst : starEach (e :: es) X.env = (false, eval e X.env) :: starEach es X.env := by rfl) (hpl : (backTo pos (starEach es X.env)).any (·.1) = false := by rfl)
    (ht : eval (.Call (.Attribute o f apos) (e :: es) [] pos) X.env = (do
      let ov ← eval o X.env
      standAt apos.atName
      let (f, first) ← holding [ov] (getMethod ov f pl)
      callWith pos f first (backTo pos (starEach (e :: es) X.env)) (backToKw pos (keywordEach [] X.env))) := by rfl) : EJ X (.Call (.Attribute o f apos) (e :: es) [] pos) Γ none (fz τ z) := by
  obtain ⟨fi, fd, hm, Fn, hb⟩ := M.ex
  refine pe_to (pe_methG (pl := pl) ho hc hm Fn hr hb hx ha hst hpl ht) fun σ H Q ⟨G, os, F, hh, st, kk⟩ => ⟨G, os, F, hh, st, fun v G1 H1 sm1 h1 ⟨oself, ro, pm, a2, back⟩ => ?_⟩
  obtain ⟨ad, dx, vs, o6, e0, eo, l, sh⟩ := id a2
  subst e0 eo
  refine ⟨ad, dx, _, rfl, (at_of h1 pm).own, zip_lookup_none hf, G1, os, F, h1, st.mono sm1, fun ws G2 o2 os2 H2 sm2 h2 (e2 : os2 = os) ap2 => ?_⟩
  subst e2
  refine ⟨G2, _ ++ o2, ro ++ F, oIns C ns ss0 :: ss, _, by simp [(asp_vals ap2).len, ← hn], h2.perm (cat_self pm), ⟨_, ws, _, o2, by simp, rfl, (oIns C ns ss0).mono sm2 a2, asp_vals ap2⟩, hΦ, fun w G' H' sm h' pr => ?_⟩
  exact kk w G' [] os2 H' ((sm1.trans sm2).trans sm) (HH.drops (d := o2) (h'.perm (cat_self pm).symm)) rfl pr
theorem ej_mrP0 {z : α} {pl : Sem Bool} (M : Met X.prog X.w X.K X.mg X.base k C f ps (spR n Φ)) (ho : FJ X o Γ (oIns C ns ss0) u) (hc : Cls X.K C) (hr : RoomG k X.A) (hx : Passes CX0 X E) (hf : ixOf f ns = none)
    (hΦ : Φ [oIns C ns ss0] (fz τ z)) (hn : 1 = n := by rfl)
    (ht : eval (.Call (.Attribute o f apos) [] [] pos) X.env = (do
      let ov ← eval o X.env
      standAt apos.atName
      let (f, first) ← holding [ov] (getMethod ov f pl)
      callWith pos f first (backTo pos (starEach [] X.env)) (backToKw pos (keywordEach [] X.env))) := by rfl) : EJ X (.Call (.Attribute o f apos) [] [] pos) Γ none (fz τ z) := by
  obtain ⟨fi, fd, hm, Fn, hb⟩ := M.ex
  refine pe_to (pe_methG0 (pl := pl) ho hc hm Fn hr hb hx ht) fun σ H Q ⟨G, os, F, hh, st, kk⟩ => ⟨G, os, F, hh, st, fun v G1 H1 sm1 h1 ⟨oself, ro, pm, a2, back⟩ => ?_⟩
  obtain ⟨ad, dx, vs, o6, e0, eo, l, sh⟩ := id a2
  subst e0 eo
  refine ⟨ad, dx, _, rfl, (at_of h1 pm).own, zip_lookup_none hf, ?_⟩
  have pF : (os ++ F).Perm (((ad, HO.ins C dx (ns.zip vs)) :: o6) ++ (ro ++ F)) := by
    rw [← List.append_assoc]
    exact List.Perm.append_right F pm
  refine ⟨G1, _, ro ++ F, [oIns C ns ss0], _, by simp [← hn], h1.perm pF, ⟨_, [], _, [], rfl, (List.append_nil _).symm, a2, rfl, rfl⟩, hΦ, fun w G' H' sm h' pr => ?_⟩
  exact kk w G' [] os H' (sm1.trans sm) (h'.perm pF.symm) rfl pr
theorem perm_2f {c : Addr × HO} {os o ro F oa ob rr : Ow} (h1 : os.Perm ((c :: o) ++ ro)) (h2 : o.Perm (oa ++ (ob ++ rr))) : (os ++ F).Perm ((oa ++ ob) ++ ((c :: (rr ++ ro)) ++ F)) := by
  refine (List.Perm.append_right F h1).trans ?_
  have e1 : c :: o ++ ro ++ F = c :: (o ++ (ro ++ F)) := by simp
  have e2 : (oa ++ ob) ++ ((c :: (rr ++ ro)) ++ F) = (oa ++ ob) ++ c :: (rr ++ (ro ++ F)) := by simp
  rw [e1, e2]
  refine List.Perm.trans (List.Perm.cons _ ((List.Perm.append_right (ro ++ F) h2).trans (List.Perm.of_eq ?_))) List.perm_middle.symm
  simp
/-- f(e, x.f1, x.f2), two fields of an owned instance lent -/
theorem ej_call1FF {Φ : Phi} {z : α} (Cf : CalG X.prog X.w X.K X.mg X.base CX k f ps (spS 3 Φ)) (hr : RoomG k X.A) (hg : Gl X f) (hx : Passes CX X E) (he : EJ X e Γ none (fz τ z)) (hN : X.N[i]? = some x) (hv : Vis X.env.scope x) (hi : Γ[i]? = some (some (oIns C ns ss))) (hc : Cls X.K C)
    (hn1 : NoAttr X.K C f1) (hn2 : NoAttr X.K C f2) (hj1 : ixOf f1 ns = some j1) (hj2 : ixOf f2 ns = some j2) (hy1 : ss[j1]? = some s1) (hy2 : ss[j2]? = some s2) (hne : j1 ≠ j2) (hΦ : Φ [fz τ z, s1, s2] r [(1, s1'), (2, s2')])
    (hd : (x == ("__debug__" : Str)) = false := by decide) (hcd : (x == ("__classdict__" : Str)) = false := by decide) (hdb : (f == ("__debug__" : Str)) = false := by decide) (hb1 : attributeBase (.Name x q1) f1 X.env (eval (.Name x q1) X.env) = eval (.Name x q1) X.env := by rfl) (hb2 : attributeBase (.Name x q2) f2 X.env (eval (.Name x q2) X.env) = eval (.Name x q2) X.env := by rfl)
    (he1 : starEach [e, .Attribute (.Name x q1) f1 p1, .Attribute (.Name x q2) f2 p2] X.env = (false, eval e X.env) :: starEach [.Attribute (.Name x q1) f1 p1, .Attribute (.Name x q2) f2 p2] X.env := by rfl)
    (he2 : starEach [.Attribute (.Name x q1) f1 p1, .Attribute (.Name x q2) f2 p2] X.env = (false, eval (.Attribute (.Name x q1) f1 p1) X.env) :: starEach [.Attribute (.Name x q2) f2 p2] X.env := by rfl)
    (he3 : starEach [.Attribute (.Name x q2) f2 p2] X.env = (false, eval (.Attribute (.Name x q2) f2 p2) X.env) :: starEach [] X.env := by rfl)
    (hpl : (backTo pos (starEach [.Attribute (.Name x q1) f1 p1, .Attribute (.Name x q2) f2 p2] X.env)).any (·.1) = false := by rfl) :
    EJ X (.Call (.Name f p) [e, .Attribute (.Name x q1) f1 p1, .Attribute (.Name x q2) f2 p2] [] pos) Γ (some (Γ.set i (some (oIns C ns ((ss.set j1 s1').set j2 s2'))))) r :=
  pe_to (pe_callCG Cf hr hg hx (pa_cons he (pa_cons (pe_fld (pe_var (i := i) hN hv hd hcd) hb1) (pa_cons (pe_fld (pe_var (i := i) hN hv hd hcd) hb2) pa_nil he3) he2) he1) hdb he1 hpl) fun σ H Q ⟨G, os, F, hh, st, k⟩ => go_call (go_cons (tT.one ⟨G, os, F, hh, st, fun w G1 os1 H1 sm1 h1 (e1 : os1 = os) rw1 => by
    subst e1
    obtain ⟨v, o, ro, a1, ⟨ad, dx, vs, o6, e0, eo, l, sh⟩, a3, _, back⟩ := (st.mono sm1).take hi
    subst e0 eo
    obtain ⟨v1, oj1, ro1, b1, b2, b3, back1⟩ := sh.take hy1
    have hal := (at_of h1 a3).own
    refine go_cons ⟨_, a1, ad, C, dx, _, v1, rfl, hal, hc, hn1, by rw [zip_lookup hj1 l]; exact b1, ?_⟩
    obtain ⟨v2, oj2, ro2, c1, c2, c3, back2⟩ := sh.take hy2
    refine go_cons ⟨_, a1, ad, C, dx, _, v2, rfl, hal, hc, hn2, by rw [zip_lookup hj2 l]; exact c1, ?_⟩
    -- both together
    have both : ∃ oa ob rr, o6.Perm (oa ++ (ob ++ rr)) ∧ s1.p G1 oa v1 ∧ s2.p G1 ob v2 ∧ ∀ G' oa' ob', Same G1 G' → s1'.p G' oa' v1 → s2'.p G' ob' v2 → ∃ o2, o2.Perm (oa' ++ (ob' ++ rr)) ∧ Shs ((ss.set j1 s1').set j2 s2') G' o2 vs := by
      have key : ∀ {ss : List Sh} {oo : Ow} {vs : List V} {j1 j2 : Nat} {s1 s2 : Sh} {v1 v2 : V}, Shs ss G1 oo vs → ss[j1]? = some s1 → ss[j2]? = some s2 → vs[j1]? = some v1 → vs[j2]? = some v2 → j1 ≠ j2 →
          ∃ oa ob rr, oo.Perm (oa ++ (ob ++ rr)) ∧ s1.p G1 oa v1 ∧ s2.p G1 ob v2 ∧ ∀ G' oa' ob', Same G1 G' → s1'.p G' oa' v1 → s2'.p G' ob' v2 → ∃ o2, o2.Perm (oa' ++ (ob' ++ rr)) ∧ Shs ((ss.set j1 s1').set j2 s2') G' o2 vs := by
        intro ss
        induction ss with
        | nil => intro oo vs j1 j2 s1 s2 v1 v2 _ h; simp at h
        | cons t ts ih =>
          intro oo vs j1 j2 s1 s2 v1 v2 ⟨v, vr, o1, o2, e1, e2, h1, h2⟩ k1 k2 k3 k4 ne
          subst e1 e2
          cases j1 with
          | zero =>
            cases j2 with
            | zero => exact absurd rfl ne
            | succ j2 =>
              simp only [List.getElem?_cons_zero, Option.some.injEq] at k1 k3
              subst k1 k3
              obtain ⟨w2, ob, rr, q1, q2, q3, bk⟩ := h2.take (j := j2) (by simpa using k2)
              have ew : w2 = v2 := Option.some.inj (q1.symm.trans (by simpa using k4))
              subst ew
              refine ⟨o1, ob, rr, List.Perm.append_left o1 q3, h1, q2, fun G' oa' ob' sm r1 r2 => ?_⟩
              obtain ⟨o3, p3, r3⟩ := bk G' s2' ob' sm r2
              exact ⟨oa' ++ o3, List.Perm.append_left oa' p3, v, vr, oa', o3, rfl, rfl, r1, r3⟩
          | succ j1 =>
            cases j2 with
            | zero =>
              simp only [List.getElem?_cons_zero, Option.some.injEq] at k2 k4
              subst k2 k4
              obtain ⟨w1, oa, rr, q1, q2, q3, bk⟩ := h2.take (j := j1) (by simpa using k1)
              have ew : w1 = v1 := Option.some.inj (q1.symm.trans (by simpa using k3))
              subst ew
              refine ⟨oa, o1, rr, (List.Perm.append_left o1 q3).trans (perm_mid o1 oa rr), q2, h1, fun G' oa' ob' sm r1 r2 => ?_⟩
              obtain ⟨o3, p3, r3⟩ := bk G' s1' oa' sm r1
              exact ⟨ob' ++ o3, (List.Perm.append_left ob' p3).trans (perm_mid ob' oa' rr), v, vr, ob', o3, rfl, rfl, r2, r3⟩
            | succ j2 =>
              obtain ⟨oa, ob, rr, z1, z2, z3, bk⟩ := ih h2 (j1 := j1) (j2 := j2) (by simpa using k1) (by simpa using k2) (by simpa using k3) (by simpa using k4) (fun e => ne (by rw [e]))
              refine ⟨oa, ob, o1 ++ rr, ((List.Perm.append_left o1 z1).trans (perm_mid o1 oa (ob ++ rr))).trans (List.Perm.append_left oa (perm_mid o1 ob rr)), z2, z3, fun G' oa' ob' sm r1 r2 => ?_⟩
              obtain ⟨o3, p3, r3⟩ := bk G' oa' ob' sm r1 r2
              exact ⟨o1 ++ o3, ((List.Perm.append_left o1 p3).trans (perm_mid o1 oa' (ob' ++ rr))).trans (List.Perm.append_left oa' (perm_mid o1 ob' rr)), v, vr, o1, o3, rfl, rfl, t.mono sm h1, r3⟩
      exact key sh hy1 hy2 b1 c1 hne
    obtain ⟨oa, ob, rr, z1, z2, z3, bk⟩ := both
    refine go_nil ⟨G1, oa ++ ob, ((ad, HO.ins C dx (ns.zip vs)) :: (rr ++ ro)) ++ F, [fz τ z, s1, s2], r, _, rfl, h1.perm (perm_2f a3 z1), ⟨w, [v1, v2], [], oa ++ ob, rfl, rfl, ⟨rfl, rw1⟩, v1, [v2], oa, ob, rfl, rfl, z2, v2, [], ob, [], rfl, (List.append_nil _).symm, z3, rfl, rfl⟩, hΦ, fun u G' o' ow' H' sm h' pr ⟨w1, y1, y2, e1, e2, p1, w2, y3, y4, e3, e4, p2, (e5 : y4 = [])⟩ => ?_⟩
    subst e5
    rw [List.append_nil] at e4
    subst e4 e2
    have e6 : w1 = v1 := (Option.some.inj e1).symm
    have e7 : w2 = v2 := (Option.some.inj e3).symm
    rw [e6] at p1
    rw [e7] at p2
    obtain ⟨o2, p3, r3⟩ := bk G' y1 y2 sm p1 p2
    obtain ⟨os', p4, st4⟩ := back G' (oIns C ns ((ss.set j1 s1').set j2 s2')) ((ad, .ins C dx (ns.zip vs)) :: o2) sm ⟨ad, dx, vs, o2, rfl, rfl, by simp [l], r3⟩
    exact k u G' o' os' H' (sm1.trans sm) (h'.perm (List.Perm.append_left o' (perm_2f p4 p3).symm)) st4 pr⟩))
end
end Sl

set_option Elab.async false
set_option linter.all false
set_option maxRecDepth 100000
namespace Sl
open PySem PySem.Spec PyProof.Rows L2 Dl
/-! ### truth of lists, texts -/
section
variable {X : Cx} {P : Pn} {Γ : Ct} {m m1 : Option Ct} {α β κ : Type} {τ : Ty α} {τ2 : Ty β} {s r : Sh} {pos p : Pos} {a b e o : Expr} {xs : List α} {u : Sh → Ct} {t : Bool}
/-- what truth a thing has -/
def Trs (s : Sh) (t : Bool) : Prop := ∀ (K : PySem.W.Frag) G H os o v, At G H os o → s.p G o v → TruV K v H t
theorem trs_bool {t : Bool} : Trs (fz tBool t) t := fun K G H os o v _ ⟨_, (r : v = .bl t)⟩ => by subst r; exact rfl
theorem trs_int {i : Int} : Trs (fz tInt i) (!decide (i = 0)) := fun K G H os o v _ ⟨_, (r : v = .int i)⟩ => by
  subst r
  show (!decide (i = 0)) = (i != 0)
  by_cases h : i = 0
  · subst h; rfl
  · rw [decide_eq_false h]
    exact (bne_iff_ne.mpr h).symm
theorem trs_str {z : Str} (hz : Str.length z ≤ sizeLine) : Trs (fz tStr z) (!decide (Str.length z = 0)) := fun K G H os o v _ ⟨_, (r : v = .str z)⟩ => by
  subst r
  refine ⟨hz, ?_⟩
  show (!decide (Str.length z = 0)) = ((z.length : Int) != 0)
  by_cases h : Str.length z = 0
  · rw [h]; rfl
  · rw [decide_eq_false h]
    exact (bne_iff_ne.mpr (by omega)).symm
theorem pr_empty {F : V → α → Prop} {vs : List V} (pr : Paired F vs xs) : vs.isEmpty = xs.isEmpty := by
  cases pr <;> rfl
theorem trs_rd (h : RdL s τ xs) : Trs s (!xs.isEmpty) := fun K G H os o v at_ hs => by
  obtain ⟨a, vs, e, g, pr⟩ := h G H os o v at_ hs
  subst e
  exact .inl ⟨vs, SqL.of g, by rw [pr_empty pr]⟩
theorem trs_tup : Trs (fz (tTup τ) xs) (!xs.isEmpty) := fun K G H os o v at_ ⟨_, a, vs, e, g, pr⟩ => by
  subst e
  exact .inr (.inl ⟨vs, SqT.of (at_.1.tup g), by rw [pr_empty pr]⟩)
theorem trs_opt {x : Option α} {t : α → Bool} (h : ∀ y, Trs (fz τ y) (t y)) : Trs (fz (tOpt τ) x) (match x with
    | none => false
    | some y => t y) := fun K G H os o v at_ ⟨eo, r⟩ => by
  rcases r with ⟨rfl, rfl⟩ | ⟨y, rfl, _, r⟩
  · exact rfl
  · exact h y K G H os o v at_ ⟨eo, r⟩
theorem tj_tr (ht : Trs s t) (h : EJ X e Γ m s) (he : ∀ whole, isTrue e X.env whole = (do let v ← whole; standAt e.pos; holding [v] (truthy v)) := by intro _; rfl) : TJ X e Γ m t :=
  pt_to (pt_truth h he) fun σ H Q ⟨G, os, F, hh, st, k⟩ => ⟨G, os, F, hh, st, fun v G' o os' H' sm h' af ps => ⟨t, ht X.K G' H' _ o v ⟨h', _, .refl _⟩ ps, k G' os' H' sm (HH.drops (d := o) h') af⟩⟩
theorem tj_trF (ht : Trs s t) (h : FJ X e Γ s u) (he : ∀ whole, isTrue e X.env whole = (do let v ← whole; standAt e.pos; holding [v] (truthy v)) := by intro _; rfl) : TJ X e Γ none t :=
  pt_to (pt_truth h he) fun σ H Q ⟨G, os, F, hh, st, k⟩ => ⟨G, os, F, hh, st, fun v G' H' sm h' ⟨o, rest, pm, ps, _⟩ => ⟨t, ht X.K G' H' (os ++ F) o v (at_of h' pm) ps, k G' os H' sm h' rfl⟩⟩
end
end Sl

set_option Elab.async false
set_option linter.all false
set_option maxRecDepth 100000
namespace Sl
open PySem PySem.Spec PyProof.Rows L2 Dl
instance : Nnn (tSum tInt tStr) 0 := ⟨fun x => by cases x <;> simp [Edt.ed, PyData.eqv]⟩
section
variable {α β : Type} {τ : Ty α} {τ1 : Ty α} {τ2 : Ty β} {n n1 n2 : Nat}
instance [S1 : Edt τ1 n1] [S2 : Edt τ2 n2] : Nnn (tP2 τ1 τ2) (max n1 n2 + 1) := ⟨fun x => by show (PyData.tuple _).eqv _ = _ ∧ PyData.eqv _ (PyData.tuple _) = _; simp [PyData.eqv]⟩
end
section
variable {X : Cx} {P : Pn} {Γ : Ct} {m m1 : Option Ct} {α β κ : Type} {τ : Ty α} {τ2 : Ty β} {s r : Sh} {pos p : Pos} {a b e o tg : Expr} {xs : List α} {u : Sh → Ct} {t : Bool} {n k : Nat}
/-- xs * k -/
theorem pr_rep {F : V → α → Prop} {vs : List V} (pr : Paired F vs xs) : ∀ n : Nat, Paired F (List.replicate n vs).flatten (List.replicate n xs).flatten
  | 0 => .nil
  | n + 1 => by
    rw [List.replicate_succ, List.replicate_succ, List.flatten_cons, List.flatten_cons]
    exact pr_app pr (pr_rep pr n)
theorem ej_rep (ha : EJ X a Γ m (oL τ xs)) {i : Int} (hb : EJ X b (out Γ m) none (fz tInt i)) (hz : (0 ≤ i ∧ i ≤ 1000000) ∧ Sm (xs.length * i.toNat)) : EJ X (.BinOp a .Mult b pos) Γ m (oL τ (List.replicate i.toNat xs).flatten) :=
  pe_to (pe_op op_rep ha hb) fun σ H Q ⟨G, os, F, hh, st, k⟩ => ⟨G, os, F, hh, st, fun v G1 o1 os1 H1 sm1 h1 af1 ⟨ad, vs, e0, eo, pr⟩ => by
    subst e0 eo
    refine tT.one ⟨G1, os1, (ad, .lst vs) :: F, h1.perm (by rw [List.singleton_append]; exact List.perm_middle.symm), af1.st st sm1, fun w G2 os2 H2 sm2 h2 (e2 : os2 = os1) (r2 : w = .int i) => ?_⟩
    subst e2 r2
    have h3 : HH G2 ((ad, .lst vs) :: (os2 ++ F)) H2 := h2.perm List.perm_middle
    refine ⟨ad, i, vs, rfl, rfl, h3.get, by omega, by omega, ?_, fun q nq => ?_⟩
    · rw [pr_len pr]
      exact Sm.le hz.2
    · exact k (.ref q) G2 [(q, _)] os2 _ (sm1.trans sm2) (h3.drop.push nq) (af1.mono sm2) ⟨q, _, rfl, rfl, pr_rep (pair_mono sm2 pr) _⟩⟩
/-- not, of what has truth -/
theorem ej_notT (ht : Trs s t) (h : EJ X e Γ m s) : EJ X (.UnaryOp .Not e pos) Γ m (fz tBool (!t)) :=
  pe_to (pe_notT h) fun σ H Q ⟨G, os, F, hh, st, k⟩ => ⟨G, os, F, hh, st, fun v G' o os' H' sm h' af ps => ⟨t, ht X.K G' H' _ o v ⟨h', _, .refl _⟩ ps, k (.bl (!t)) G' [] os' H' sm (HH.drops (d := o) h') af ⟨rfl, rfl⟩⟩⟩
theorem ej_notTF (ht : Trs s t) (h : FJ X e Γ s u) : EJ X (.UnaryOp .Not e pos) Γ none (fz tBool (!t)) :=
  pe_to (pe_notT h) fun σ H Q ⟨G, os, F, hh, st, k⟩ => ⟨G, os, F, hh, st, fun v G' H' sm h' ⟨o, rest, pm, ps, _⟩ => ⟨t, ht X.K G' H' (os ++ F) o v (at_of h' pm) ps, k (.bl (!t)) G' [] os H' sm h' rfl ⟨rfl, rfl⟩⟩⟩
/-- texts, tuples that are walked -/
def signs (z : Str) : List Str := z.cps.toList.map fun c => ⟨#[c]⟩
theorem wk_str {G : Hp} {z : Str} : Wk (Its z) G (signs z) (fz tStr) := fun G' os H' s h => by
  refine ⟨by show z.cps.size ≤ _; unfold signs; simp, fun i y hy => ?_⟩
  unfold signs at hy
  rw [List.getElem?_map] at hy
  obtain ⟨c, h1, h2⟩ := Option.map_eq_some_iff.mp hy
  have h3 : z.cps[i]? = some c := by simpa using h1
  refine ⟨(Array.getElem?_eq_some_iff.mp h3).1, fun x H3 ⟨e3, c', h4, ex⟩ => ?_⟩
  rw [h3] at h4
  cases h4
  subst e3 ex
  exact ⟨G', Same.refl _, h, rfl, h2.symm ▸ rfl⟩
theorem ij_str {z : Str} (h : EJ X e Γ m (fz tStr z)) : IJ X tg e Γ m (signs z) (fz tStr) := pi_to (pi_str h) fun σ H R ⟨G, os, F, hh, st, k⟩ => tT.one ⟨G, os, F, hh, st, fun v G' os' H' sm h' af (r : v = .str z) => ⟨z, r, k _ G' os' H' sm h' af wk_str⟩⟩
theorem wk_tup {K : PySem.W.Frag} {G : Hp} {a : Addr} {vs : List V} (e : G a = some (.tup vs)) (r : Paired (τ.rep G) vs xs) : Wk (Itt K a) G xs (fz τ) := fun G' os H' s h => by
  have g := h.tup (s _ _ e)
  refine ⟨⟨vs, SqT.of g, by rw [pr_len r]; exact Nat.le_refl _⟩, fun i y hy => ?_⟩
  obtain ⟨v, h1, h2⟩ := pr_get2 r hy
  refine ⟨⟨vs, v, SqT.of g, h1⟩, fun x H3 ⟨e3, ex⟩ => ?_⟩
  subst e3
  have := ex vs (SqT.of g)
  rw [h1] at this
  cases this
  exact ⟨G', Same.refl _, h, rfl, τ.mono s h2⟩
theorem ij_tup (h : EJ X e Γ m (fz (tTup τ) xs)) : IJ X tg e Γ m xs (fz τ) := pi_to (pi_tup h) fun σ H R ⟨G, os, F, hh, st, k⟩ => tT.one ⟨G, os, F, hh, st, fun v G' os' H' sm h' af ⟨a, vs, e, g, pr⟩ => ⟨a, e, ⟨vs, SqT.of (h'.tup g)⟩, k _ G' os' H' sm h' af (wk_tup g pr)⟩⟩
end
/-! x in o, o a place of a list -/
section
variable {X : Cx} {Γ : Ct} {α : Type} {τ : Ty α} {n k : Nat} {pos : Pos} {a b : Expr} {u : Sh → Ct}
theorem own_dp [S : Edt τ n] {K : PySem.W.Frag} {G H : Hp} {os o : Ow} {v : V} {xs : List α} (at_ : At G H os o) (h : (oL τ xs).p G o v) : Dp K H v (.list (xs.map S.ed)) := by
  obtain ⟨a, vs, e0, eo, pr⟩ := h
  subst e0 eo
  exact .lst (SqL.of at_.own) (edt_all at_.1 pr)
theorem ej_inF [S : Edt τ n] [DecidableEq α] {x : α} {xs : List α} (hr : RoomG k X.A) (lx : Lay (edat τ x)) (ly : Lay (edat (tList τ) xs)) (ha : EJ X a Γ none (fz τ x)) (hb : FJ X b Γ (oL τ xs) u) (hn : n ≤ 59 := by decide) (hm : behindInMarks .In b = false := by rfl) : EJ X (.Compare a [.In] [b] pos) Γ none (fz tBool (decide (x ∈ xs))) :=
  pe_to (pe_cmpR (op_inD (hr65 hr)) ha hb hm) fun σ H Q ⟨G, os, F, hh, st, q⟩ => key_thenF ⟨G, os, F, hh, st, fun w v G' H' o2 rest sm pm h' rv rw_ => ⟨S.ed x, xs.map S.ed, S.dp h' rw_, own_dp (at_of h' pm) rv, edt_shaped (Nat.le_succ_of_le hn) lx, edt_shaped (S := edtL (S := S)) (Nat.succ_le_succ hn) ly, by rw [edt_any]; exact q _ G' [] os H' sm h' rfl ⟨rfl, rfl⟩⟩⟩
theorem ej_ninF [S : Edt τ n] [DecidableEq α] {x : α} {xs : List α} (hr : RoomG k X.A) (lx : Lay (edat τ x)) (ly : Lay (edat (tList τ) xs)) (ha : EJ X a Γ none (fz τ x)) (hb : FJ X b Γ (oL τ xs) u) (hn : n ≤ 59 := by decide) (hm : behindInMarks .NotIn b = false := by rfl) : EJ X (.Compare a [.NotIn] [b] pos) Γ none (fz tBool (!decide (x ∈ xs))) :=
  pe_to (pe_cmpR (op_notInD (hr65 hr)) ha hb hm) fun σ H Q ⟨G, os, F, hh, st, q⟩ => key_thenF ⟨G, os, F, hh, st, fun w v G' H' o2 rest sm pm h' rv rw_ => ⟨S.ed x, xs.map S.ed, S.dp h' rw_, own_dp (at_of h' pm) rv, edt_shaped (Nat.le_succ_of_le hn) lx, edt_shaped (S := edtL (S := S)) (Nat.succ_le_succ hn) ly, by rw [edt_any]; exact q _ G' [] os H' sm h' rfl ⟨rfl, rfl⟩⟩⟩
end
end Sl

set_option Elab.async false
set_option linter.all false
set_option maxRecDepth 100000
namespace Sl
open PySem PySem.Spec PyProof.Rows L2 Dl
/-! ### name = {k: v for ..} -/
theorem sw_dict {a b : Expr} {cs : List Comprehension} {sc : Scope} {q1 q2 : Pos} {z : Str} {ln : Nat} {en : Env} (k1 : en.scope.kind = .function) (k2 : en.scope.names.lookup z = some .local) (k3 : (q2.line == q1.line) = true) (k4 : (sc.names.any fun (n, k) => n == z && (k == .local || k == .cell)) = false) : swapsWith (.DictComp a b cs sc q1) (some (.Name z q2)) ln en = pure true := by
  have h1 : en.kindOf z = some .local := k2
  have h2 : en.blockKind = .function := by (unfold Env.blockKind; rw [k1]; rfl)
  unfold swapsWith; simp only [h2, h1, k4, Expr.pos, k3]; rfl
theorem ps_setDc {X : Cx} {n : Nat} {z : Str} {pz : Pos} {kx vx tg iter : Expr} {ifs : List Expr} {sc : Scope} {own : List (Str × Nat)} {q1 q2 : Pos} {wi : TI} {g : TG} {tt : TT} {tk tv : TE} (hc : X.calm = true) (hN : X.N.Nodup) (hz : X.N[n]? = some z) (hzl : X.env.scope.names.lookup z = some .local) (hsw : swapsWith (.DictComp kx vx [⟨tg, iter, ifs, 0⟩] sc q1) (some (.Name z pz)) q2.line X.env = pure true) (hi : PI X tg iter wi) (ok : BlkOk X.N X.env.scope sc own)
    (hg : ∀ (s : Shared) (H : Hp) (C : Addr) (cl : List (Str × Addr)) (fp : List Addr), PG (Bk X s H sc C cl fp) tg g) (ht : ∀ (s : Shared) (H : Hp) (C : Addr) (cl : List (Str × Addr)) (fp : List Addr), PTs (Bk X s H sc C cl fp) ifs tt) (hk : ∀ (s : Shared) (H : Hp) (C : Addr) (cl : List (Str × Addr)) (fp : List Addr), PE (Bk X s H sc C cl fp) kx tk) (he : ∀ (s : Shared) (H : Hp) (C : Addr) (cl : List (Str × Addr)) (fp : List Addr), PE (Bk X s H sc C cl fp) vx tv) (hs : ∀ x, foldedSetIterable iter X.env x = pure x := by intro _; rfl) :
    PS X (.Assign [.Name z pz] (.DictComp kx vx [⟨tg, iter, ifs, 0⟩] sc q1) q2) (tAsg (tDc wi g tt tk tv (own.map (·.2))) (gName n)) := ⟨fun pins s σ H D I h => by
  rw [exec_Assign_Name_used _ _ _ _ hsw]
  have h' : tDc wi g tt tk tv (own.map (·.2)) σ H (fun x H1 => gName n x σ H1 D.nx) := h
  refine wpAny_bind (wpAny_standAt (wpAny_bind (?_ : wpAny _ X.A (do let _ ← comprehension (.DictComp kx vx [⟨tg, iter, ifs, 0⟩] sc q1) sc X.env (firstIterPos [⟨tg, iter, ifs, 0⟩] q1) newDict false (eval iter X.env) (some (assign (.Name z pz) X.env))) _ _ s)))
  refine wpAny_bind (thn (dc_core (Qf := fun _ s2 => SP X pins D .next s2) hc hN I hi ok hg ht hk he hs h' fun dd C s2 m H2 I2 q hn ff => (?_ : wpAny _ _ (assign (.Name z pz) X.env (.ref dd)) _ _ _)) fun _ s2 hq => wpAny_pure (wpAny_pure hq))
  obtain ⟨f0, f1, f2, f3, f4, f5⟩ := ff
  refine wpAny_assign_Name (store_ok2 (v := V.ref dd) I2 hN hz (.inl hzl) rfl (fun s3 I3 ⟨a, sb, ha⟩ => ⟨m, hn.sameBut sb ?_, fun h3 sb3 => ⟨_, H2, I3.turned (t' := s3.toks) (fun b o hb e => (sb3.2 b hb).trans e) f0 f1 f3 f4 f5, q⟩⟩) (.inr hzl))
  rcases ha with e | e
  · exact e ▸ f1
  · exact fun e2 => f4 z a e e2.symm⟩
def DcJ (X : Cx) (e : Expr) (Γ : Ct) (m : Option Ct) (s : Sh) : Prop := LcJ X e Γ m s
section
variable {X : Cx} {Γ : Ct} {m0 : Option Ct} {β γ κ : Type} {τ3 : Ty γ} {pos : Pos} {tg iter kx vx : Expr} [DecidableEq κ] {kd : Fk κ} {τk : Ty κ} [FkTy kd τk] {scope : Scope} {own : List (Str × Nat)} {items : List β} {sh : β → Sh} {f : β → Option (κ × γ)} {d : List (κ × γ)} {Γy : β → Ct}
    (he : ∀ (s : Shared) (H : Hp) (C : Addr) (cl : List (Str × Addr)) (fp : List Addr) y k z, y ∈ items → f y = some (k, z) → EJ (Bk X s H scope C cl fp) vx (Γy y) none (fz τ3 z))
theorem dcK (hg : ∀ (s : Shared) (H : Hp) (C : Addr) (cl : List (Str × Addr)) (fp : List Addr) y, GJ0 (Bk X s H scope C cl fp) tg (own.map (·.2)) (nones (own.map (·.2)) Γ) (Γy y) (sh y))
    (hk : ∀ (s : Shared) (H : Hp) (C : Addr) (cl : List (Str × Addr)) (fp : List Addr) y k z, y ∈ items → f y = some (k, z) → EJ (Bk X s H scope C cl fp) kx (Γy y) none (fz τk k))
    (he : ∀ (s : Shared) (H : Hp) (C : Addr) (cl : List (Str × Addr)) (fp : List Addr) y k z, y ∈ items → f y = some (k, z) → EJ (Bk X s H scope C cl fp) vx (Γy y) none (fz τ3 z))
    (h : dicC f [] items = some d) (hsm : Sm items.length) (hc : X.calm = true) (hN : X.N.Nodup) (hi : KJ X tg iter Γ items sh) (ok : BlkOk X.N X.env.scope scope own) (hz : Zs (own.map (·.2)) Γ)
    (hs : ∀ x, foldedSetIterable iter X.env x = pure x := by intro _; rfl) : LcJ X (.DictComp kx vx [⟨tg, iter, [], 0⟩] scope pos) Γ none (oD (kF kd) τ3 d) := by
  have g1 : ∀ (s : Shared) (H : Hp) (C : Addr) (cl : List (Str × Addr)) (fp : List Addr), PG (Bk X s H scope C cl fp) tg (fun v σ H Q => ∃ t, (∃ y, t = tG0 (own.map (·.2)) (nones (own.map (·.2)) Γ) (Γy y) (sh y)) ∧ t v σ H Q) := fun s H C cl fp => pg_ex fun t ⟨y, e⟩ => by subst e; exact hg s H C cl fp y
  have k1 : ∀ (s : Shared) (H : Hp) (C : Addr) (cl : List (Str × Addr)) (fp : List Addr), PE (Bk X s H scope C cl fp) kx (fun σ H Q => ∃ t, (∃ y k z, y ∈ items ∧ f y = some (k, z) ∧ t = tT (Γy y) none (fz τk k)) ∧ t σ H Q) := fun s H C cl fp => pe_ex fun t ⟨y, k, z, hm, hf, e⟩ => by subst e; exact hk s H C cl fp y k z hm hf
  have v1 : ∀ (s : Shared) (H : Hp) (C : Addr) (cl : List (Str × Addr)) (fp : List Addr), PE (Bk X s H scope C cl fp) vx (fun σ H Q => ∃ t, (∃ y k z, y ∈ items ∧ f y = some (k, z) ∧ t = tT (Γy y) none (fz τ3 z)) ∧ t σ H Q) := fun s H C cl fp => pe_ex fun t ⟨y, k, z, hm, hf, e⟩ => by subst e; exact he s H C cl fp y k z hm hf
  refine lock_lc hi fun ti pi => ⟨_, pe_dc hc hN pi ok g1 (fun _ _ _ _ _ => pts_nil) k1 v1 hs, fun hy hyl hsw => ps_setDc hc hN hy hyl hsw pi ok g1 (fun _ _ _ _ _ => pts_nil) k1 v1 hs, fun σ H Q G os F hh st hti k => ?_⟩
  exact hti _ fun J G1 H1 sm1 h1 wk => dcP_run (own.map fun x : Str × Nat => x.2) h hsm hz (st.mono sm1) h1 wk fun v G' o H' sm h' p => k v G' o H' (sm1.trans sm) h' p
theorem dcP (hg : ∀ (s : Shared) (H : Hp) (C : Addr) (cl : List (Str × Addr)) (fp : List Addr) y, GJ0 (Bk X s H scope C cl fp) tg (own.map (·.2)) (nones (own.map (·.2)) (out Γ m0)) (Γy y) (sh y))
    (hk : ∀ (s : Shared) (H : Hp) (C : Addr) (cl : List (Str × Addr)) (fp : List Addr) y k z, y ∈ items → f y = some (k, z) → EJ (Bk X s H scope C cl fp) kx (Γy y) none (fz τk k))
    (he : ∀ (s : Shared) (H : Hp) (C : Addr) (cl : List (Str × Addr)) (fp : List Addr) y k z, y ∈ items → f y = some (k, z) → EJ (Bk X s H scope C cl fp) vx (Γy y) none (fz τ3 z))
    (h : dicC f [] items = some d) (hsm : Sm items.length) (hc : X.calm = true) (hN : X.N.Nodup) (hi : IJ X tg iter Γ m0 items sh) (ok : BlkOk X.N X.env.scope scope own) (hz : Zs (own.map (·.2)) (out Γ m0))
    (hs : ∀ x, foldedSetIterable iter X.env x = pure x := by intro _; rfl) : LcJ X (.DictComp kx vx [⟨tg, iter, [], 0⟩] scope pos) Γ m0 (oD (kF kd) τ3 d) := by
  have g1 : ∀ (s : Shared) (H : Hp) (C : Addr) (cl : List (Str × Addr)) (fp : List Addr), PG (Bk X s H scope C cl fp) tg (fun v σ H Q => ∃ t, (∃ y, t = tG0 (own.map (·.2)) (nones (own.map (·.2)) (out Γ m0)) (Γy y) (sh y)) ∧ t v σ H Q) := fun s H C cl fp => pg_ex fun t ⟨y, e⟩ => by subst e; exact hg s H C cl fp y
  have k1 : ∀ (s : Shared) (H : Hp) (C : Addr) (cl : List (Str × Addr)) (fp : List Addr), PE (Bk X s H scope C cl fp) kx (fun σ H Q => ∃ t, (∃ y k z, y ∈ items ∧ f y = some (k, z) ∧ t = tT (Γy y) none (fz τk k)) ∧ t σ H Q) := fun s H C cl fp => pe_ex fun t ⟨y, k, z, hm, hf, e⟩ => by subst e; exact hk s H C cl fp y k z hm hf
  have v1 : ∀ (s : Shared) (H : Hp) (C : Addr) (cl : List (Str × Addr)) (fp : List Addr), PE (Bk X s H scope C cl fp) vx (fun σ H Q => ∃ t, (∃ y k z, y ∈ items ∧ f y = some (k, z) ∧ t = tT (Γy y) none (fz τ3 z)) ∧ t σ H Q) := fun s H C cl fp => pe_ex fun t ⟨y, k, z, hm, hf, e⟩ => by subst e; exact he s H C cl fp y k z hm hf
  have run : ∀ σ H Q, tT Γ m0 (oD (kF kd) τ3 d) σ H Q → tDc (tI Γ m0 items sh) (fun v σ H Q => ∃ t, (∃ y, t = tG0 (own.map (·.2)) (nones (own.map (·.2)) (out Γ m0)) (Γy y) (sh y)) ∧ t v σ H Q) tYes (fun σ H Q => ∃ t, (∃ y k z, y ∈ items ∧ f y = some (k, z) ∧ t = tT (Γy y) none (fz τk k)) ∧ t σ H Q) (fun σ H Q => ∃ t, (∃ y k z, y ∈ items ∧ f y = some (k, z) ∧ t = tT (Γy y) none (fz τ3 z)) ∧ t σ H Q) (own.map (·.2)) σ H Q := fun σ H Q ⟨G, os, F, hh, st, k⟩ => ⟨G, os, F, hh, st, fun J G1 os1 H1 sm1 h1 af wk =>
    dcP_run (own.map fun x : Str × Nat => x.2) h hsm hz (af.st st sm1) h1 wk.toF fun v G' o H' sm h' p => k v G' o os1 H' (sm1.trans sm) h' (af.mono sm) p⟩
  exact ⟨pe_to (pe_dc hc hN hi ok g1 (fun _ _ _ _ _ => pts_nil) k1 v1 hs) run, fun hy hyl hsw => ps_to (ps_setDc hc hN hy hyl hsw hi ok g1 (fun _ _ _ _ _ => pts_nil) k1 v1 hs) fun D σ H q => run _ _ _ q⟩
end
end Sl

set_option Elab.async false
set_option linter.all false
set_option maxRecDepth 100000
namespace Sl
open PySem L2
/-! ### what a partial function gives -/
def Sat {α : Type} (m : Option α) (P : α → Prop) : Prop := ∃ a, m = some a ∧ P a
section
variable {α β γ S ρ κ : Type} {P : α → Prop} {Q : β → Prop} {m : Option α} {f : α → Option β}
theorem sat_bind (h : Sat m P) (k : ∀ a, P a → Sat (f a) Q) : Sat (m.bind f) Q := by
  obtain ⟨a, rfl, p⟩ := h
  exact k a p
theorem sat_some {a : α} (h : P a) : Sat (some a) P := ⟨a, rfl, h⟩
theorem sat_mono {P' : α → Prop} (h : Sat m P) (k : ∀ a, P a → P' a) : Sat m P' := by
  obtain ⟨a, e, p⟩ := h
  exact ⟨a, e, k a p⟩
theorem sat_grd {p : Prop} [Decidable p] {f : Unit → Option β} (hp : p) (k : Sat (f ()) Q) : Sat ((grd p ()).bind f) Q := by
  unfold grd
  rw [if_pos hp]
  exact k
theorem sat_ite {c : Bool} {a b : Option α} (h1 : c = true → Sat a P) (h2 : c = false → Sat b P) : Sat (if c = true then a else b) P := by
  cases c with
  | true => exact h1 rfl
  | false => exact h2 rfl
theorem sat_eq {a : α} (h : m = some a) (p : P a) : Sat m P := ⟨a, h, p⟩
theorem sat_foldOn {f : S → β → Option S} (I : Nat → S → Prop) : ∀ {xs : List β} {s0 : S}, I 0 s0 → (∀ i s y, xs[i]? = some y → I i s → Sat (f s y) (I (i + 1))) → Sat (foldO f s0 xs) (I xs.length)
  | [], s0, h0, _ => ⟨s0, rfl, h0⟩
  | x :: xs, s0, h0, hs => by
    refine sat_bind (hs 0 s0 x rfl h0) fun s1 h1 => ?_
    exact sat_foldOn (fun i => I (i + 1)) (xs := xs) h1 fun i s y hy hi => hs (i + 1) s y (by simpa using hy) hi
theorem sat_foldO {f : S → β → Option S} {xs : List β} {s0 : S} (I : S → Prop) (h0 : I s0) (hs : ∀ s y, y ∈ xs → I s → Sat (f s y) I) : Sat (foldO f s0 xs) I :=
  sat_foldOn (fun _ => I) h0 fun i s y hy hi => hs s y (List.mem_of_getElem? hy) hi
theorem sat_foldX {f : S → β → Option (Oc ρ S)} (I : S → Prop) : ∀ {xs : List β} {s0 : S}, I s0 → (∀ s y, y ∈ xs → I s → Sat (f s y) fun o => ∃ s', o = .nx s' ∧ I s') → Sat (foldX f s0 xs) fun o => ∃ s', o = .nx s' ∧ I s'
  | [], s0, h0, _ => ⟨.nx s0, rfl, s0, rfl, h0⟩
  | x :: xs, s0, h0, hs => by
    refine sat_bind (hs s0 x (List.mem_cons_self ..) h0) fun o ⟨s1, e, h1⟩ => ?_
    subst e
    exact sat_foldX I h1 fun s y hy hi => hs s y (List.mem_cons_of_mem _ hy) hi
theorem sat_foldC {f : S → β → Option (Option γ × S)} (I : S → Prop) (J : γ → Prop) : ∀ {xs : List β} {s0 : S}, I s0 → (∀ s y, y ∈ xs → I s → Sat (f s y) fun p => (∀ z, p.1 = some z → J z) ∧ I p.2) → Sat (foldC f s0 xs) fun p => (∀ z ∈ p.1, J z) ∧ p.1.length ≤ xs.length ∧ I p.2
  | [], s0, h0, _ => ⟨([], s0), rfl, fun _ h => (nomatch h), Nat.le_refl _, h0⟩
  | x :: xs, s0, h0, hs => by
    refine sat_bind (hs s0 x (List.mem_cons_self ..) h0) fun p ⟨h1, h2⟩ => ?_
    refine sat_bind (sat_foldC I J h2 fun s y hy hi => hs s y (List.mem_cons_of_mem _ hy) hi) fun q ⟨h3, h4, h5⟩ => ?_
    refine sat_some ⟨fun z hz => ?_, ?_, h5⟩
    · rcases List.mem_append.mp hz with hz | hz
      · cases e : p.1 with
        | none => rw [e] at hz; cases hz
        | some w => rw [e] at hz; simp at hz; subst hz; exact h1 _ e
      · exact h3 z hz
    · show (p.1.toList ++ q.1).length ≤ (x :: xs).length
      rw [List.length_append, List.length_cons]
      have : p.1.toList.length ≤ 1 := by cases p.1 <;> simp
      omega
theorem mapC_eq {f : β → Option (Option γ)} {g : β → Option γ} : ∀ {xs : List β}, (∀ y, y ∈ xs → f y = some (g y)) → mapC f xs = some (xs.filterMap g)
  | [], _ => rfl
  | x :: xs, h => by
    show (f x).bind _ = _
    rw [h x (List.mem_cons_self ..)]
    show ((mapC f xs).bind _) = _
    rw [mapC_eq fun y hy => h y (List.mem_cons_of_mem _ hy)]
    show some ((g x).toList ++ xs.filterMap g) = _
    cases e : g x with
    | none => rw [List.filterMap_cons_none e]; rfl
    | some z => rw [List.filterMap_cons_some e]; rfl
theorem mapC_map {f : β → Option (Option γ)} {g : β → γ} {xs : List β} (h : ∀ y, y ∈ xs → f y = some (some (g y))) : mapC f xs = some (xs.map g) := by
  rw [mapC_eq (g := fun y => some (g y)) h, List.filterMap_eq_map' ]
theorem foldO_eq {f : S → β → Option S} {g : S → β → S} (I : S → Prop) : ∀ {xs : List β} {s : S}, I s → (∀ s y, y ∈ xs → I s → f s y = some (g s y) ∧ I (g s y)) → foldO f s xs = some (xs.foldl g s)
  | [], _, _, _ => rfl
  | x :: xs, s, h0, h => by
    show (f s x).bind _ = _
    rw [(h s x (List.mem_cons_self ..) h0).1]
    exact foldO_eq I (h s x (List.mem_cons_self ..) h0).2 fun s y hy hi => h s y (List.mem_cons_of_mem _ hy) hi
theorem dicC_eq [DecidableEq κ] {f : β → Option (κ × γ)} {g : β → κ × γ} : ∀ {xs : List β} {d : List (κ × γ)}, (∀ y, y ∈ xs → f y = some (g y)) → dicC f d xs = some (xs.foldl (fun d y => aput d (g y).1 (g y).2) d)
  | [], _, _ => rfl
  | x :: xs, d, h => by
    show (f x).bind _ = _
    rw [h x (List.mem_cons_self ..)]
    exact dicC_eq fun y hy => h y (List.mem_cons_of_mem _ hy)
/-! tables -/
section
variable [DecidableEq κ]
theorem ahas_iff {d : List (κ × γ)} {k : κ} : ahas d k = true ↔ k ∈ d.map Prod.fst := by
  unfold ahas
  rw [List.any_eq_true]
  constructor
  · rintro ⟨p, hp, e⟩
    exact List.mem_map.mpr ⟨p, hp, of_decide_eq_true e⟩
  · intro h
    obtain ⟨p, hp, e⟩ := List.mem_map.mp h
    exact ⟨p, hp, decide_eq_true e⟩
theorem aget_some {d : List (κ × γ)} {k : κ} (h : k ∈ d.map Prod.fst) : ∃ v, aget d k = some v ∧ (k, v) ∈ d := by
  induction d with
  | nil => cases h
  | cons p r ih =>
    by_cases e : p.1 = k
    · exact ⟨p.2, aget_pos e, by rw [← e]; exact List.mem_cons_self ..⟩
    · rw [List.map_cons] at h
      obtain ⟨v, h1, h2⟩ := ih ((List.mem_cons.mp h).resolve_left fun z => e z.symm)
      exact ⟨v, by rw [aget_neg e]; exact h1, List.mem_cons_of_mem _ h2⟩
theorem aget_mem {d : List (κ × γ)} {k : κ} {v : γ} (h : aget d k = some v) : (k, v) ∈ d := by
  induction d with
  | nil => cases h
  | cons p r ih =>
    by_cases e : p.1 = k
    · rw [aget_pos e] at h
      cases h
      rw [← e]
      exact List.mem_cons_self ..
    · rw [aget_neg e] at h
      exact List.mem_cons_of_mem _ (ih h)
theorem aget_none {d : List (κ × γ)} {k : κ} (h : k ∉ d.map Prod.fst) : aget d k = none := by
  cases e : aget d k with
  | none => rfl
  | some v => exact absurd (List.mem_map_of_mem (aget_mem e)) h
theorem aput_new {d : List (κ × γ)} {k : κ} {v : γ} (h : k ∉ d.map Prod.fst) : aput d k v = d ++ [(k, v)] := by
  unfold aput
  rw [if_neg (fun z => h (ahas_iff.mp z))]
theorem aput_fresh {g : β → κ × γ} : ∀ {xs : List β} {d : List (κ × γ)}, (d.map Prod.fst ++ xs.map fun y => (g y).1).Nodup → xs.foldl (fun d y => aput d (g y).1 (g y).2) d = d ++ xs.map g
  | [], d, _ => by simp
  | x :: xs, d, h => by
    have h1 : (g x).1 ∉ d.map Prod.fst := by
      intro z
      rw [List.map_cons] at h
      exact (List.nodup_append.mp h).2.2 _ z _ (List.mem_cons_self ..) rfl
    rw [List.foldl_cons, aput_new h1, aput_fresh (by
      rw [List.map_append, List.append_assoc]
      exact h), List.append_assoc]
    rfl
theorem aput_aput {d : List (κ × γ)} {k : κ} {v v' : γ} : aput (aput d k v) k v' = aput d k v' := by
  by_cases h : k ∈ d.map Prod.fst
  · have h1 : ahas d k = true := ahas_iff.mpr h
    have h2 : ahas (aput d k v) k = true := ahas_iff.mpr (by rw [aput_keys d k v h1]; exact h)
    unfold aput at h2 ⊢
    rw [if_pos h1] at h2 ⊢
    rw [if_pos h2, if_pos h1, List.map_map]
    refine List.map_congr_left fun p _ => ?_
    show (if (if p.1 = k then (p.1, v) else p).1 = k then _ else _) = _
    by_cases e : p.1 = k
    · simp [e]
    · simp [e]
  · rw [aput_new h, aput_new h]
    unfold aput
    have h2 : ahas (d ++ [(k, v)]) k = true := ahas_iff.mpr (by simp)
    rw [if_pos h2, List.map_append]
    have : d.map (fun p => if p.1 = k then (p.1, v') else p) = d := by
      rw [List.map_congr_left (g := id)]
      · simp
      · intro p hp
        have : p.1 ≠ k := fun z => h (z ▸ List.mem_map_of_mem hp)
        simp [this]
    rw [this]
    simp
end
/-! places -/
theorem atI_ok {xs : List α} {i : Int} (h0 : 0 ≤ i) (h1 : i < xs.length) : ∃ y, atI xs i = some y ∧ xs[i.toNat]? = some y := by
  have hl : i.toNat < xs.length := by omega
  refine ⟨xs[i.toNat], ?_, List.getElem?_eq_getElem hl⟩
  have := atI_nat (List.getElem?_eq_getElem hl)
  rw [Int.toNat_of_nonneg h0] at this
  exact this
theorem sat_atI {xs : List α} {i : Int} (h0 : 0 ≤ i) (h1 : i < xs.length) (h : ∀ y, y ∈ xs → P y) : Sat (atI xs i) P := by
  obtain ⟨y, e, hy⟩ := atI_ok h0 h1
  exact ⟨y, e, h y (List.mem_of_getElem? hy)⟩
theorem rng_mem {n : Nat} {lo y : Int} (h : y ∈ rng lo n) : lo ≤ y ∧ y < lo + n := by
  obtain ⟨i, hi⟩ := List.mem_iff_getElem?.mp h
  obtain ⟨h1, h2⟩ := rng_get hi
  omega
theorem range1_mem {j y : Int} (h : y ∈ range1 j) : 0 ≤ y ∧ y < j := by
  have := rng_mem h
  omega
theorem range2_mem {i j y : Int} (h : y ∈ range2 i j) : i ≤ y ∧ y < j := by
  have := rng_mem h
  omega
theorem range1_len (j : Int) : (range1 j).length = j.toNat := rng_len _ _
theorem range2_len (i j : Int) : (range2 i j).length = (j - i).toNat := rng_len _ _
theorem range1_get {j y : Int} {i : Nat} (h : (range1 j)[i]? = some y) : i < j.toNat ∧ y = i := by
  have := rng_get h
  omega
theorem range2_get {a j y : Int} {i : Nat} (h : (range2 a j)[i]? = some y) : i < (j - a).toNat ∧ y = a + i := rng_get h
end
end Sl

set_option Elab.async false
set_option linter.all false
set_option maxRecDepth 100000
namespace Sl
open PySem L2
section
variable {α β γ S ρ κ : Type} {P : α → Prop} {Q : β → Prop} {m : Option α} {f : α → Option β}
theorem fmod_lt' {a n : Int} (h : 0 < n) : 0 ≤ Int.fmod a n ∧ Int.fmod a n < n := ⟨Int.fmod_nonneg_of_pos a h, Int.fmod_lt_of_pos a h⟩
theorem aput_mem [DecidableEq κ] {d : List (κ × γ)} {k : κ} {v : γ} {p : κ × γ} (h : p ∈ aput d k v) : p ∈ d ∨ p = (k, v) := by
  unfold aput at h
  split at h
  · obtain ⟨q, hq, e⟩ := List.mem_map.mp h
    by_cases z : q.1 = k
    · rw [if_pos z] at e
      exact .inr (by rw [← e, z])
    · rw [if_neg z] at e
      exact .inl (e ▸ hq)
  · rcases List.mem_append.mp h with h | h
    · exact .inl h
    · exact .inr (List.mem_singleton.mp h)
theorem foldO_eqn {f : S → β → Option S} {g : S → β → S} (I : Nat → S → Prop) : ∀ {xs : List β} {s : S}, I 0 s → (∀ i s y, xs[i]? = some y → I i s → f s y = some (g s y) ∧ I (i + 1) (g s y)) → foldO f s xs = some (xs.foldl g s) ∧ I xs.length (xs.foldl g s)
  | [], _, h, _ => ⟨rfl, h⟩
  | x :: xs, s, h0, h => by
    have h1 := h 0 s x rfl h0
    show (f s x).bind _ = _ ∧ _
    rw [h1.1]
    exact foldO_eqn (fun i => I (i + 1)) h1.2 fun i s y hy hi => h (i + 1) s y (by simpa using hy) hi
theorem foldX_all {f : Unit → β → Option (Oc Bool Unit)} {p : β → Bool} : ∀ {xs : List β}, (∀ y, y ∈ xs → f () y = some (if p y = true then Oc.nx () else Oc.ret false)) → foldX f () xs = some (if xs.all p = true then Oc.nx () else Oc.ret false)
  | [], _ => rfl
  | x :: xs, h => by
    show (f () x).bind _ = _
    rw [h x (List.mem_cons_self ..)]
    cases e : p x with
    | true =>
      rw [List.all_cons, e, Bool.true_and]
      exact foldX_all fun y hy => h y (List.mem_cons_of_mem _ hy)
    | false =>
      rw [List.all_cons, e, Bool.false_and]
      rfl
theorem foldl_sum {p : β → Bool} {a : β → Int} : ∀ {xs : List β} {s : Int}, xs.foldl (fun s y => if p y = true then s + a y else s) s = s + (xs.filterMap fun y => if p y = true then some (a y) else none).sum
  | [], s => by simp
  | x :: xs, s => by
    rw [List.foldl_cons, foldl_sum]
    cases e : p x with
    | true => rw [if_pos rfl, List.filterMap_cons_some (by rw [e]; rfl), List.sum_cons, Int.add_assoc]
    | false => rw [if_neg (by decide), List.filterMap_cons_none (by rw [e]; rfl)]
theorem grd_tt {a : α} [Decidable True] : grd True a = some a := if_pos trivial
theorem grd_t {p : Prop} [Decidable p] {a : α} (h : p) : grd p a = some a := if_pos h
theorem mem_len {xs : List β} {i : Nat} {y : β} (h : xs[i]? = some y) : i < xs.length := (List.getElem?_eq_some_iff.mp h).1
end
end Sl

set_option Elab.async false
set_option linter.all false
set_option maxRecDepth 100000
namespace Sl
open PySem L2
/-! ### what can be shown -/
theorem int_shown {i : Int} (h : i.natAbs ≤ 1000) : (PyData.shown (.int i)).length ≤ 8 ∧ PyData.showable (.int i) = true := by
  have key : ∀ k : Fin 2001, (PyData.shown (.int ((k.val : Int) - 1000))).length ≤ 8 ∧ PyData.showable (.int ((k.val : Int) - 1000)) = true := by decide +kernel
  have := key ⟨(i + 1000).toNat, by omega⟩
  have e : (((i + 1000).toNat : Nat) : Int) - 1000 = i := by omega
  simp only [e] at this
  exact this
theorem ints_shown : ∀ {xs : List Int}, (∀ x ∈ xs, x.natAbs ≤ 1000) → PyData.showableAll (xs.map PyData.int) = true ∧ ((PyData.shownAll (xs.map PyData.int)).map (·.length)).sum ≤ 8 * xs.length
  | [], _ => by simp [PyData.showableAll, PyData.shownAll]
  | x :: xs, h => by
    obtain ⟨h1, h2⟩ := int_shown (h x (List.mem_cons_self ..))
    obtain ⟨h3, h4⟩ := ints_shown (xs := xs) fun y hy => h y (List.mem_cons_of_mem _ hy)
    constructor
    · show PyData.showableAll (.int x :: xs.map PyData.int) = true
      rw [PyData.showableAll, h2, h3]
      rfl
    · show ((PyData.shownAll (.int x :: xs.map PyData.int)).map (·.length)).sum ≤ _
      rw [PyData.shownAll, List.map_cons, List.sum_cons, List.length_cons]
      omega
theorem shownAll_len : ∀ xs : List PyData, (PyData.shownAll xs).length = xs.length
  | [] => rfl
  | x :: xs => by rw [PyData.shownAll, List.length_cons, List.length_cons, shownAll_len]
theorem shw_ints {xs : List Int} (hl : xs.length ≤ 1000) (h : ∀ x ∈ xs, x.natAbs ≤ 1000) : Shw (dat (tList tInt) xs) := by
  obtain ⟨h1, h2⟩ := ints_shown h
  constructor
  · show PyData.showable (.list (xs.map PyData.int)) = true
    rw [PyData.showable]
    exact h1
  · show (PyData.shown (.list (xs.map PyData.int))).length ≤ sizeLine
    rw [PyData.shown]
    have := listText_len_le (PyData.shownAll (xs.map PyData.int))
    rw [shownAll_len, List.length_map] at this
    unfold sizeLine
    omega
end Sl

set_option Elab.async false
set_option linter.all false
set_option maxRecDepth 100000
namespace Sl
open PySem L2
theorem big_shown {i : Int} (h : i.natAbs < 10 ^ 9) : (PyData.shown (.int i)).length ≤ 12 ∧ PyData.showable (.int i) = true := by
  constructor
  · rw [PyData.shown]
    have := int_text_length_le10 (a := i) (k := 9) (by decide) h
    have e : (Str.ofString (toString i)).length = (toString i).length := ofString_length _
    show (Str.ofString (toString i)).length ≤ 12
    omega
  · rw [PyData.showable]
    refine decide_eq_true ?_
    by_cases z : i.natAbs = 0
    · rw [z]
      decide
    · have := (Nat.log2_lt z (k := 1920)).mpr (Nat.lt_trans h (Nat.lt_of_lt_of_le (by decide : 10 ^ 9 < 2 ^ 30) (Nat.pow_le_pow_right (by decide) (by decide))))
      exact this
theorem pairs_shown : ∀ {xs : List (Int × Bool)}, (∀ x ∈ xs, x.1.natAbs < 10 ^ 9) → PyData.showableAll (xs.map fun x => PyData.tuple [.int x.1, .bool x.2]) = true ∧ ((PyData.shownAll (xs.map fun x => PyData.tuple [.int x.1, .bool x.2])).map (·.length)).sum ≤ 30 * xs.length
  | [], _ => by simp [PyData.showableAll, PyData.shownAll]
  | x :: xs, h => by
    obtain ⟨h1, h2⟩ := big_shown (h x (List.mem_cons_self ..))
    obtain ⟨h3, h4⟩ := pairs_shown (xs := xs) fun y hy => h y (List.mem_cons_of_mem _ hy)
    have b1 : (PyData.shown (.bool x.2)).length ≤ 5 := by cases x.2 <;> decide
    have b2 : PyData.showable (.bool x.2) = true := by rw [PyData.showable]
    constructor
    · show PyData.showableAll (.tuple [.int x.1, .bool x.2] :: xs.map fun x => PyData.tuple [.int x.1, .bool x.2]) = true
      rw [PyData.showableAll, h3, PyData.showable, PyData.showableAll, PyData.showableAll, PyData.showableAll, h2, b2]
      rfl
    · show ((PyData.shownAll (.tuple [.int x.1, .bool x.2] :: xs.map fun x => PyData.tuple [.int x.1, .bool x.2])).map (·.length)).sum ≤ _
      rw [PyData.shownAll, List.map_cons, List.sum_cons, List.length_cons, PyData.shown]
      have := tupleText_len_le (PyData.shownAll [.int x.1, .bool x.2])
      rw [PyData.shownAll, PyData.shownAll, PyData.shownAll] at this ⊢
      simp only [List.map_cons, List.map_nil, List.sum_cons, List.sum_nil, List.length_cons, List.length_nil] at this
      omega
theorem shw_pairs {xs : List (Int × Bool)} (hl : xs.length ≤ 1000) (h : ∀ x ∈ xs, x.1.natAbs < 10 ^ 9) : Shw (dat (tList (tP2 tInt tBool)) xs) := by
  obtain ⟨h1, h2⟩ := pairs_shown h
  constructor
  · show PyData.showable (.list (xs.map fun x => PyData.tuple [.int x.1, .bool x.2])) = true
    rw [PyData.showable]
    exact h1
  · show (PyData.shown (.list (xs.map fun x => PyData.tuple [.int x.1, .bool x.2]))).length ≤ sizeLine
    rw [PyData.shown]
    have := listText_len_le (PyData.shownAll (xs.map fun x => PyData.tuple [.int x.1, .bool x.2]))
    rw [shownAll_len, List.length_map] at this
    unfold sizeLine
    omega
theorem bigs_shown : ∀ {xs : List Int}, (∀ x ∈ xs, x.natAbs < 10 ^ 9) → PyData.showableAll (xs.map PyData.int) = true ∧ ((PyData.shownAll (xs.map PyData.int)).map (·.length)).sum ≤ 12 * xs.length
  | [], _ => by simp [PyData.showableAll, PyData.shownAll]
  | x :: xs, h => by
    obtain ⟨h1, h2⟩ := big_shown (h x (List.mem_cons_self ..))
    obtain ⟨h3, h4⟩ := bigs_shown (xs := xs) fun y hy => h y (List.mem_cons_of_mem _ hy)
    constructor
    · show PyData.showableAll (.int x :: xs.map PyData.int) = true
      rw [PyData.showableAll, h2, h3]
      rfl
    · show ((PyData.shownAll (.int x :: xs.map PyData.int)).map (·.length)).sum ≤ _
      rw [PyData.shownAll, List.map_cons, List.sum_cons, List.length_cons]
      omega
theorem shw_bigs {xs : List Int} (hl : xs.length ≤ 1000) (h : ∀ x ∈ xs, x.natAbs < 10 ^ 9) : Shw (dat (tList tInt) xs) := by
  obtain ⟨h1, h2⟩ := bigs_shown h
  constructor
  · show PyData.showable (.list (xs.map PyData.int)) = true
    rw [PyData.showable]
    exact h1
  · show (PyData.shown (.list (xs.map PyData.int))).length ≤ sizeLine
    rw [PyData.shown]
    have := listText_len_le (PyData.shownAll (xs.map PyData.int))
    rw [shownAll_len, List.length_map] at this
    unfold sizeLine
    omega
end Sl

set_option Elab.async false
set_option linter.all false
set_option maxRecDepth 100000
set_option maxHeartbeats 4000000
namespace Sl
open PySem L2 Dl
/-! ### the shorter ones first, each length in the order of the facts -/
def lx : List Nat → List Nat → Prop
  | x :: a, y :: b => x < y ∨ (x = y ∧ lx a b)
  | _, _ => False
theorem lx_irr : ∀ a : List Nat, ¬ lx a a
  | [], h => h
  | x :: a, h => by
    rcases h with h | ⟨_, h⟩
    · omega
    · exact lx_irr a h
theorem lx_trans : ∀ {a b c : List Nat}, lx a b → lx b c → lx a c
  | x :: a, y :: b, z :: c, h1, h2 => by
    rcases h1 with h1 | ⟨e1, h1⟩
    · rcases h2 with h2 | ⟨e2, h2⟩
      · exact .inl (by omega)
      · exact .inl (by omega)
    · rcases h2 with h2 | ⟨e2, h2⟩
      · exact .inl (by omega)
      · exact .inr ⟨e1.trans e2, lx_trans h1 h2⟩
  | [], _, _, h, _ => h.elim
  | _ :: _, [], _, h, _ => h.elim
  | _ :: _, _ :: _, [], _, h => h.elim
theorem lx_tri : ∀ {a b : List Nat}, a.length = b.length → lx a b ∨ a = b ∨ lx b a
  | [], [], _ => .inr (.inl rfl)
  | x :: a, y :: b, h => by
    rcases Nat.lt_trichotomy x y with q | q | q
    · exact .inl (.inl q)
    · subst q
      rcases lx_tri (a := a) (b := b) (by simpa using h) with r | r | r
      · exact .inl (.inr ⟨rfl, r⟩)
      · exact .inr (.inl (by rw [r]))
      · exact .inr (.inr (.inr ⟨rfl, r⟩))
    · exact .inr (.inr (.inl q))
  | [], _ :: _, h => by simp at h
  | _ :: _, [], h => by simp at h
theorem lx_app {x y : Nat} : ∀ {a b : List Nat}, lx a b → lx (a ++ [x]) (b ++ [y])
  | x1 :: a, y1 :: b, h => by
    rcases h with h | ⟨e, h⟩
    · exact .inl h
    · exact .inr ⟨e, lx_app h⟩
  | [], _, h => h.elim
  | _ :: _, [], h => h.elim
theorem lx_last {x y : Nat} (h : x < y) : ∀ {a : List Nat}, lx (a ++ [x]) (a ++ [y])
  | [] => .inl h
  | _ :: a => .inr ⟨rfl, lx_last h⟩
/-- of two that go on by one -/
theorem lx_app_inv {x y : Nat} : ∀ {a b : List Nat}, a.length = b.length → lx (a ++ [x]) (b ++ [y]) → lx a b ∨ (a = b ∧ x < y)
  | [], [], _, h => by
    rcases h with h | ⟨_, h⟩
    · exact .inr ⟨rfl, h⟩
    · exact h.elim
  | x1 :: a, y1 :: b, l, h => by
    rcases h with h | ⟨e, h⟩
    · exact .inl (.inl h)
    · rcases lx_app_inv (a := a) (b := b) (by simpa using l) h with h | ⟨e2, h⟩
      · exact .inl (.inr ⟨e, h⟩)
      · exact .inr ⟨by rw [e, e2], h⟩
  | [], _ :: _, l, _ => by simp at l
  | _ :: _, [], l, _ => by simp at l
def sl (a b : List Nat) : Prop := a.length < b.length ∨ (a.length = b.length ∧ lx a b)
theorem sl_irr (a : List Nat) : ¬ sl a a := fun h => by
  rcases h with h | ⟨_, h⟩
  · omega
  · exact lx_irr a h
theorem sl_trans {a b c : List Nat} (h1 : sl a b) (h2 : sl b c) : sl a c := by
  rcases h1 with h1 | ⟨e1, h1⟩
  · rcases h2 with h2 | ⟨e2, h2⟩
    · exact .inl (by omega)
    · exact .inl (by omega)
  · rcases h2 with h2 | ⟨e2, h2⟩
    · exact .inl (by omega)
    · exact .inr ⟨e1.trans e2, lx_trans h1 h2⟩
theorem sl_tri (a b : List Nat) : sl a b ∨ a = b ∨ sl b a := by
  rcases Nat.lt_trichotomy a.length b.length with h | h | h
  · exact .inl (.inl h)
  · rcases lx_tri h with r | r | r
    · exact .inl (.inr ⟨h, r⟩)
    · exact .inr (.inl r)
    · exact .inr (.inr (.inr ⟨h.symm, r⟩))
  · exact .inr (.inr (.inl h))
theorem sl_app {x y : Nat} {a b : List Nat} (h : sl a b) : sl (a ++ [x]) (b ++ [y]) := by
  rcases h with h | ⟨e, h⟩
  · exact .inl (by simp; omega)
  · exact .inr ⟨by simp; omega, lx_app h⟩
theorem sl_last {x y : Nat} (h : x < y) {a : List Nat} : sl (a ++ [x]) (a ++ [y]) := .inr ⟨by simp, lx_last h⟩
theorem sl_app_inv {x y : Nat} {a b : List Nat} (h : sl (a ++ [x]) (b ++ [y])) : sl a b ∨ (a = b ∧ x < y) := by
  rcases h with h | ⟨e, h⟩
  · exact .inl (.inl (by simpa using h))
  · have e : a.length = b.length := by simpa using e
    rcases lx_app_inv e h with h | h
    · exact .inl (.inr ⟨e, h⟩)
    · exact .inr h
theorem sl_pre {a : List Nat} {x : Nat} : sl a (a ++ [x]) := .inl (by simp)
/-- careers by the places of their facts -/
def ky (fs : List Str) (c : List Str) : List Nat := c.map fun f => fs.idxOf f
theorem ky_inj {fs : List Str} : ∀ {a b : List Str}, (∀ f ∈ a, f ∈ fs) → (∀ f ∈ b, f ∈ fs) → ky fs a = ky fs b → a = b
  | [], [], _, _, _ => rfl
  | x :: a, y :: b, h1, h2, e => by
    obtain ⟨e1, e2⟩ := List.cons.inj (show fs.idxOf x :: ky fs a = fs.idxOf y :: ky fs b from e)
    have hx := h1 x (List.mem_cons_self ..)
    have hy := h2 y (List.mem_cons_self ..)
    have exy : x = y := by
      have q1 := List.getElem_idxOf (List.idxOf_lt_length_of_mem hx)
      have q2 := List.getElem_idxOf (List.idxOf_lt_length_of_mem hy)
      rw [← q1, ← q2]
      congr 1
    rw [exy, ky_inj (fun f hf => h1 f (List.mem_cons_of_mem _ hf)) (fun f hf => h2 f (List.mem_cons_of_mem _ hf)) e2]
  | [], _ :: _, _, _, e => by cases e
  | _ :: _, [], _, _, e => by cases e
theorem ky_snoc {fs : List Str} {a : List Str} {f : Str} : ky fs (a ++ [f]) = ky fs a ++ [fs.idxOf f] := by
  unfold ky
  rw [List.map_append]
  rfl
def cl (fs : List Str) (a b : List Str) : Prop := sl (ky fs a) (ky fs b)
/-! ### the search in breadth -/
abbrev Ent (σ : Type) := σ × σ × List Str
section
variable {σ : Type} [DecidableEq σ] (step : σ → Str → σ) (fs : List Str)
def ins (met : List (Ent σ)) (e : Ent σ) : List (Ent σ) := if e.1 ∈ met.map Prod.fst then met else met ++ [e]
def nxt (e : Ent σ) (f : Str) : Ent σ := (step e.1 f, e.2.1, e.2.2 ++ [f])
def grow (gs : List Str) (met : List (Ent σ)) (e : Ent σ) : List (Ent σ) := gs.foldl (fun met f => ins met (nxt step e f)) met
inductive Bfs : Nat → List (Ent σ) → List (Ent σ) → Prop
  | done {met : List (Ent σ)} : Bfs met.length met met
  | turn {i : Nat} {met r : List (Ent σ)} {e : Ent σ} : met[i]? = some e → Bfs (i + 1) (grow step fs met e) r → Bfs i met r
variable {step fs}
theorem ins_pre (met : List (Ent σ)) (e : Ent σ) : met <+: ins met e := by
  unfold ins
  split
  · exact List.prefix_refl _
  · exact List.prefix_append _ _
theorem ins_mem (met : List (Ent σ)) (e : Ent σ) : e.1 ∈ (ins met e).map Prod.fst := by
  unfold ins
  split
  · assumption
  · simp
theorem ins_sub {met : List (Ent σ)} {e x : Ent σ} (h : x ∈ ins met e) : x ∈ met ∨ x = e := by
  unfold ins at h
  split at h
  · exact .inl h
  · rcases List.mem_append.mp h with h | h
    · exact .inl h
    · exact .inr (List.mem_singleton.mp h)
theorem ins_nd {met : List (Ent σ)} {e : Ent σ} (h : (met.map Prod.fst).Nodup) : ((ins met e).map Prod.fst).Nodup := by
  unfold ins
  split
  · exact h
  · rename_i hn
    rw [List.map_append]
    refine List.nodup_append.mpr ⟨h, by simp, fun a ha b hb => ?_⟩
    simp at hb
    subst hb
    exact fun e2 => hn (e2 ▸ ha)
theorem grow_pre (e : Ent σ) : ∀ (gs : List Str) (met : List (Ent σ)), met <+: grow step gs met e
  | [], met => List.prefix_refl _
  | f :: gs, met => (ins_pre met (nxt step e f)).trans (grow_pre e gs _)
theorem grow_mem (e : Ent σ) : ∀ (gs : List Str) (met : List (Ent σ)) (f : Str), f ∈ gs → step e.1 f ∈ (grow step gs met e).map Prod.fst
  | g :: gs, met, f, h => by
    rcases List.mem_cons.mp h with rfl | h
    · exact ((grow_pre e gs _).sublist.map Prod.fst).subset (ins_mem met (nxt step e f))
    · exact grow_mem e gs _ f h
theorem grow_sub (e : Ent σ) : ∀ {gs : List Str} {met : List (Ent σ)} {x : Ent σ}, x ∈ grow step gs met e → x ∈ met ∨ ∃ f ∈ gs, x = nxt step e f
  | [], met, x, h => .inl h
  | g :: gs, met, x, h => by
    rcases grow_sub e (gs := gs) h with h | ⟨f, hf, ef⟩
    · rcases ins_sub h with h | h
      · exact .inl h
      · exact .inr ⟨g, List.mem_cons_self .., h⟩
    · exact .inr ⟨f, List.mem_cons_of_mem _ hf, ef⟩
theorem grow_nd (e : Ent σ) : ∀ {gs : List Str} {met : List (Ent σ)}, (met.map Prod.fst).Nodup → ((grow step gs met e).map Prod.fst).Nodup
  | [], _, h => h
  | g :: gs, met, h => grow_nd e (gs := gs) (ins_nd h)
theorem Bfs.le {i : Nat} {met r : List (Ent σ)} (h : Bfs step fs i met r) : i ≤ met.length := by
  cases h with
  | done => exact Nat.le_refl _
  | turn e _ => exact Nat.le_of_lt (List.getElem?_eq_some_iff.mp e).1
theorem Bfs.pre {i : Nat} {met r : List (Ent σ)} (h : Bfs step fs i met r) : met <+: r := by
  induction h with
  | done => exact List.prefix_refl _
  | turn _ _ ih => exact (grow_pre _ _ _).trans ih
theorem Bfs.at {i : Nat} {met r : List (Ent σ)} {e : Ent σ} (h : Bfs step fs i met r) (he : met[i]? = some e) : Bfs step fs (i + 1) (grow step fs met e) r := by
  cases h with
  | done => simp at he
  | turn e2 q =>
    rw [he] at e2
    cases e2
    exact q
theorem Bfs.end_ {i : Nat} {met r : List (Ent σ)} (h : Bfs step fs i met r) (he : met.length ≤ i) : met = r := by
  cases h with
  | done => rfl
  | turn e2 q =>
    have := (List.getElem?_eq_some_iff.mp e2).1
    omega
theorem Bfs.nd {i : Nat} {met r : List (Ent σ)} (h : Bfs step fs i met r) (n : (met.map Prod.fst).Nodup) : (r.map Prod.fst).Nodup := by
  induction h with
  | done => exact n
  | turn _ _ ih => exact ih (grow_nd _ n)
theorem Bfs.all {Q : Ent σ → Prop} (hq : ∀ e, Q e → ∀ f ∈ fs, Q (nxt step e f)) {i : Nat} {met r : List (Ent σ)} (h : Bfs step fs i met r) (n : ∀ e ∈ met, Q e) : ∀ e ∈ r, Q e := by
  induction h with
  | done => exact n
  | turn he _ ih =>
    refine ih fun x hx => ?_
    rcases grow_sub _ hx with hx | ⟨f, hf, ef⟩
    · exact n x hx
    · rw [ef]
      exact hq _ (n _ (List.mem_of_getElem? he)) f hf
theorem Bfs.closed {i : Nat} {met r : List (Ent σ)} (h : Bfs step fs i met r) (n : ∀ j e, j < i → met[j]? = some e → ∀ f ∈ fs, step e.1 f ∈ met.map Prod.fst) : ∀ e ∈ r, ∀ f ∈ fs, step e.1 f ∈ r.map Prod.fst := by
  induction h with
  | done =>
    intro e he f hf
    obtain ⟨j, hj⟩ := List.mem_iff_getElem?.mp he
    exact n j e (List.getElem?_eq_some_iff.mp hj).1 hj f hf
  | @turn i met r e he _ ih =>
    refine ih fun j x hj hx f hf => ?_
    have hlt := (List.getElem?_eq_some_iff.mp he).1
    have pre := grow_pre (step := step) e fs met
    have hx2 : met[j]? = some x := by
      rw [← hx]
      obtain ⟨t, ht⟩ := pre
      rw [← ht, List.getElem?_append_left (by omega)]
    by_cases hji : j = i
    · subst hji
      rw [he] at hx2
      cases hx2
      exact grow_mem e fs met f hf
    · exact (pre.sublist.map Prod.fst).subset (n j x (by omega) hx2 f hf)
/-- it comes to an end -/
theorem nd_le : ∀ {xs U : List σ}, xs.Nodup → (∀ x ∈ xs, x ∈ U) → xs.length ≤ U.length
  | [], _, _, _ => Nat.zero_le _
  | x :: xs, U, n, s => by
    have hx := s x (List.mem_cons_self ..)
    obtain ⟨n1, n2⟩ := List.nodup_cons.mp n
    have := nd_le (xs := xs) (U := U.erase x) n2 fun y hy => (List.mem_erase_of_ne (show y ≠ x from fun e => n1 (e ▸ hy))).mpr (s y (List.mem_cons_of_mem _ hy))
    have h2 := List.length_erase_of_mem hx
    have h3 := List.length_pos_of_mem hx
    rw [List.length_cons]
    omega
theorem bfs_ex {U : List σ} (hU : ∀ q ∈ U, ∀ f ∈ fs, step q f ∈ U) : ∀ {i : Nat} {met : List (Ent σ)}, i ≤ met.length → (met.map Prod.fst).Nodup → (∀ e ∈ met, e.1 ∈ U) → ∃ r, Bfs step fs i met r := by
  suffices h : ∀ (n i : Nat) (met : List (Ent σ)), U.length - i ≤ n → i ≤ met.length → (met.map Prod.fst).Nodup → (∀ e ∈ met, e.1 ∈ U) → ∃ r, Bfs step fs i met r from fun {i met} => h _ i met (Nat.le_refl _)
  intro n
  induction n with
  | zero =>
    intro i met hn hi nd hs
    have hl := nd_le nd fun x hx => by
      obtain ⟨e, he, rfl⟩ := List.mem_map.mp hx
      exact hs e he
    rw [List.length_map] at hl
    have e : i = met.length := by omega
    subst e
    exact ⟨met, .done⟩
  | succ n ih =>
    intro i met hn hi nd hs
    by_cases e : i = met.length
    · subst e
      exact ⟨met, .done⟩
    · have hlt : i < met.length := by omega
      have he := List.getElem?_eq_getElem hlt
      have hl := nd_le nd fun x hx => by
        obtain ⟨e, he, rfl⟩ := List.mem_map.mp hx
        exact hs e he
      rw [List.length_map] at hl
      obtain ⟨r, hr⟩ := ih (i + 1) (grow step fs met met[i]) (by omega) (Nat.le_trans hlt (grow_pre _ _ _).length_le) (grow_nd _ nd) fun x hx => by
        rcases grow_sub _ hx with hx | ⟨f, hf, ef⟩
        · exact hs x hx
        · rw [ef]
          exact hU _ (hs _ (List.getElem_mem hlt)) f hf
      exact ⟨r, .turn he hr⟩
end
/-- where a career leads -/
def run {σ : Type} (step : σ → Str → σ) : σ → List Str → σ
  | s, [] => s
  | s, f :: c => run step (step s f) c
theorem run_snoc {σ : Type} {step : σ → Str → σ} {f : Str} : ∀ {c : List Str} {s : σ}, run step s (c ++ [f]) = step (run step s c) f
  | [], _ => rfl
  | _ :: c, _ => run_snoc (c := c)
/-! ### the order of the search -/
def beg {σ : Type} (bs : List σ) : List (Ent σ) := bs.map fun b => (b, b, [])
def ek {σ : Type} [DecidableEq σ] (bs : List σ) (fs : List Str) (e : Ent σ) : List Nat := bs.idxOf e.2.1 :: ky fs e.2.2
theorem idx_ne {α : Type} [DecidableEq α] {x y : α} {l : List α} (h : x ≠ y) : (x :: l).idxOf y = l.idxOf y + 1 := by
  rw [List.idxOf_cons]
  have : (x == y) = false := by simpa using h
  rw [this]
  rfl
section
variable {σ : Type} [DecidableEq σ] {step : σ → Str → σ} {fs : List Str} {bs : List σ}
def Ri (fs : List Str) (f g : Str) : Prop := fs.idxOf f < fs.idxOf g
theorem inc_of_nd : ∀ {fs : List Str}, fs.Nodup → fs.Pairwise (Ri fs)
  | [], _ => .nil
  | f :: fs, h => by
    obtain ⟨h1, h2⟩ := List.nodup_cons.mp h
    refine .cons (fun g hg => ?_) ((inc_of_nd h2).imp_of_mem fun {a b} ha hb r => ?_)
    · have : f ≠ g := fun e => h1 (e ▸ hg)
      show List.idxOf f (f :: fs) < List.idxOf g (f :: fs)
      rw [List.idxOf_cons_self, idx_ne this]
      omega
    · have na : f ≠ a := fun e => h1 (e ▸ ha)
      have nb : f ≠ b := fun e => h1 (e ▸ hb)
      show List.idxOf a (f :: fs) < List.idxOf b (f :: fs)
      rw [idx_ne na, idx_ne nb]
      have : List.idxOf a fs < List.idxOf b fs := r
      omega
theorem ek_nxt {e : Ent σ} {f : Str} : ek bs fs (nxt step e f) = ek bs fs e ++ [fs.idxOf f] := by
  unfold ek nxt
  rw [ky_snoc]
  rfl
def Lk (bs : List σ) (fs : List Str) (x y : Ent σ) : Prop := sl (ek bs fs x) (ek bs fs y)
def Le (bs : List σ) (fs : List Str) (x y : Ent σ) : Prop := Lk bs fs x y ∨ ek bs fs x = ek bs fs y
theorem grow_ord {e : Ent σ} : ∀ {gs : List Str} {met : List (Ent σ)}, gs.Pairwise (Ri fs) → met.Pairwise (Lk bs fs) → (∀ x ∈ met, ∀ g ∈ gs, Lk bs fs x (nxt step e g)) →
    (grow step gs met e).Pairwise (Lk bs fs) ∧ ∀ g ∈ gs, ∃ x ∈ grow step gs met e, x.1 = step e.1 g ∧ Le bs fs x (nxt step e g)
  | [], met, _, h, _ => ⟨h, fun _ hg => nomatch hg⟩
  | g :: gs, met, hi, h, hl => by
    obtain ⟨i1, i2⟩ := List.pairwise_cons.mp hi
    have hp : (ins met (nxt step e g)).Pairwise (Lk bs fs) := by
      unfold ins
      split
      · exact h
      · refine List.pairwise_append.mpr ⟨h, List.pairwise_singleton _ _, fun a ha b hb => ?_⟩
        rw [List.mem_singleton.mp hb]
        exact hl a ha g (List.mem_cons_self ..)
    obtain ⟨h1, h2⟩ := grow_ord (gs := gs) (met := ins met (nxt step e g)) i2 hp fun x hx g' hg' => by
      rcases ins_sub hx with hx | hx
      · exact hl x hx g' (List.mem_cons_of_mem _ hg')
      · rw [hx]
        unfold Lk
        rw [ek_nxt, ek_nxt]
        exact sl_last (i1 g' hg')
    refine ⟨h1, fun g' hg' => ?_⟩
    rcases List.mem_cons.mp hg' with rfl | hg'
    · obtain ⟨x, hx, ex⟩ := List.mem_map.mp (ins_mem met (nxt step e g'))
      refine ⟨x, (grow_pre e gs _).subset hx, ex, ?_⟩
      rcases ins_sub hx with hx | hx
      · exact .inl (hl x hx _ (List.mem_cons_self ..))
      · exact .inr (by rw [hx])
    · exact h2 g' hg'
/-- where each comes from -/
def From (step : σ → Str → σ) (fs : List Str) (met : List (Ent σ)) (i : Nat) (x : Ent σ) : Prop := x.2.2 = [] ∧ x.2.1 = x.1 ∨ ∃ j e f, j < i ∧ met[j]? = some e ∧ f ∈ fs ∧ x = nxt step e f
theorem From.mono {met met' : List (Ent σ)} {i i' : Nat} {x : Ent σ} (h : From step fs met i x) (p : met <+: met') (l : i ≤ i') : From step fs met' i' x := by
  rcases h with h | ⟨j, e, f, h1, h2, h3, h4⟩
  · exact .inl h
  · refine .inr ⟨j, e, f, by omega, ?_, h3, h4⟩
    obtain ⟨t, ht⟩ := p
    rw [← ht, List.getElem?_append_left (List.getElem?_eq_some_iff.mp h2).1, h2]
theorem pw_at {α : Type} {R : α → α → Prop} {xs : List α} (h : xs.Pairwise R) {i j : Nat} {x y : α} (hi : xs[i]? = some x) (hj : xs[j]? = some y) (l : i < j) : R x y := by
  obtain ⟨h1, e1⟩ := List.getElem?_eq_some_iff.mp hi
  obtain ⟨h2, e2⟩ := List.getElem?_eq_some_iff.mp hj
  have := List.pairwise_iff_getElem.mp h i j h1 h2 l
  rw [e1, e2] at this
  exact this
theorem Bfs.ord (hf : fs.Nodup) {i : Nat} {met r : List (Ent σ)} (h : Bfs step fs i met r) (p : met.Pairwise (Lk bs fs)) (fr : ∀ x ∈ met, From step fs met i x)
    (cl : ∀ j e, j < i → met[j]? = some e → ∀ f ∈ fs, ∃ x ∈ met, x.1 = step e.1 f ∧ Le bs fs x (nxt step e f)) :
    r.Pairwise (Lk bs fs) ∧ (∀ x ∈ r, From step fs r r.length x) ∧ ∀ e ∈ r, ∀ f ∈ fs, ∃ x ∈ r, x.1 = step e.1 f ∧ Le bs fs x (nxt step e f) := by
  induction h with
  | done =>
    refine ⟨p, fr, fun e he f hf => ?_⟩
    obtain ⟨j, hj⟩ := List.mem_iff_getElem?.mp he
    exact cl j e (List.getElem?_eq_some_iff.mp hj).1 hj f hf
  | @turn i met r e he _ ih =>
    have hlt := (List.getElem?_eq_some_iff.mp he).1
    have pre := grow_pre (step := step) e fs met
    obtain ⟨g1, g2⟩ := grow_ord (bs := bs) (step := step) (e := e) (inc_of_nd hf) p fun x hx g hg => by
      unfold Lk
      rw [ek_nxt]
      rcases fr x hx with ⟨h1, _⟩ | ⟨j, e', f', h1, h2, h3, h4⟩
      · refine .inl ?_
        unfold ek
        rw [h1]
        simp [ky]
      · rw [h4, ek_nxt]
        exact sl_app (pw_at p h2 he h1)
    refine ih g1 (fun x hx => ?_) fun j x hj hx f hf => ?_
    · rcases grow_sub _ hx with hx | ⟨f, hf, ef⟩
      · exact (fr x hx).mono pre (Nat.le_succ _)
      · refine .inr ⟨i, e, f, Nat.lt_succ_self _, ?_, hf, ef⟩
        obtain ⟨t, ht⟩ := pre
        rw [← ht, List.getElem?_append_left hlt, he]
    · have hx2 : met[j]? = some x := by
        rw [← hx]
        obtain ⟨t, ht⟩ := pre
        rw [← ht, List.getElem?_append_left (by omega)]
      by_cases hji : j = i
      · subst hji
        rw [he] at hx2
        cases hx2
        exact g2 f hf
      · obtain ⟨y, hy, h1, h2⟩ := cl j x (by omega) hx2 f hf
        exact ⟨y, pre.subset hy, h1, h2⟩
theorem beg_fst : (beg bs).map Prod.fst = bs := by
  unfold beg
  rw [List.map_map]
  simp [Function.comp_def]
/-- what is so at the end, from some beginnings on -/
structure Fini (step : σ → Str → σ) (fs : List Str) (bs : List σ) (r : List (Ent σ)) : Prop where
  pre : beg bs <+: r
  nd : (r.map Prod.fst).Nodup
  ord : r.Pairwise (Lk bs fs)
  from_ : ∀ x ∈ r, From step fs r r.length x
  next : ∀ e ∈ r, ∀ f ∈ fs, ∃ x ∈ r, x.1 = step e.1 f ∧ Le bs fs x (nxt step e f)
  at_ : ∀ e ∈ r, e.2.1 ∈ bs ∧ (∀ f ∈ e.2.2, f ∈ fs) ∧ run step e.2.1 e.2.2 = e.1
theorem Bfs.fin (hf : fs.Nodup) (hb : bs.Nodup) {r : List (Ent σ)} (h : Bfs step fs 0 (beg bs) r) : Fini step fs bs r := by
  have pb : (beg bs).Pairwise (Lk bs fs) := by
    refine List.pairwise_map.mpr ?_
    have : ∀ (pre bs' : List σ), (pre ++ bs').Nodup → bs'.Pairwise fun a b => (pre ++ bs').idxOf a < (pre ++ bs').idxOf b := by
      intro pre bs'
      induction bs' generalizing pre with
      | nil => exact fun _ => .nil
      | cons b bs' ih =>
        intro n
        have e : pre ++ b :: bs' = (pre ++ [b]) ++ bs' := by simp
        refine .cons (fun c hc => ?_) ?_
        · obtain ⟨n1, n2, n3⟩ := List.nodup_append.mp n
          have hb : b ∉ pre := fun z => n3 b z b (List.mem_cons_self ..) rfl
          have hc2 : c ∉ pre := fun z => n3 c z c (List.mem_cons_of_mem _ hc) rfl
          have hne : b ≠ c := fun e => (List.nodup_cons.mp n2).1 (e ▸ hc)
          rw [List.idxOf_append, List.idxOf_append, if_neg hb, if_neg hc2, List.idxOf_cons_self, idx_ne hne]
          omega
        · rw [e] at n ⊢
          exact ih (pre ++ [b]) n
    exact (this [] bs hb).imp fun {a b} l => .inr ⟨rfl, .inl l⟩
  obtain ⟨h1, h2, h3⟩ := h.ord hf pb (fun x hx => by
    obtain ⟨b, hb, rfl⟩ := List.mem_map.mp hx
    exact .inl ⟨rfl, rfl⟩) fun j e hj => absurd hj (Nat.not_lt_zero _)
  refine ⟨h.pre, h.nd (by rw [beg_fst]; exact hb), h1, h2, h3, h.all (Q := fun e => e.2.1 ∈ bs ∧ (∀ f ∈ e.2.2, f ∈ fs) ∧ run step e.2.1 e.2.2 = e.1) (fun e ⟨q1, q2, q3⟩ f hf => ⟨q1, fun g hg => ?_, ?_⟩) fun e he => ?_⟩
  · rcases List.mem_append.mp (show g ∈ e.2.2 ++ [f] from hg) with hg | hg
    · exact q2 g hg
    · rw [List.mem_singleton.mp hg]
      exact hf
  · show run step e.2.1 (e.2.2 ++ [f]) = step e.1 f
    rw [run_snoc, q3]
  · obtain ⟨b, hb, rfl⟩ := List.mem_map.mp he
    exact ⟨hb, (fun _ h => nomatch h), rfl⟩
theorem sl_le_trans {a b c : List Nat} (h : sl a b ∨ a = b) (h2 : sl b c ∨ b = c) : sl a c ∨ a = c := by
  rcases h with h | rfl
  · rcases h2 with h2 | rfl
    · exact .inl (sl_trans h h2)
    · exact .inl h
  · exact h2
/-- of all that lead there it has the first -/
theorem Fini.least {r : List (Ent σ)} (F : Fini step fs bs r) {b : σ} (hb : b ∈ bs) : ∀ (n : Nat) {c : List Str}, c.length = n → (∀ f ∈ c, f ∈ fs) → ∃ e ∈ r, e.1 = run step b c ∧ (sl (ek bs fs e) (bs.idxOf b :: ky fs c) ∨ ek bs fs e = bs.idxOf b :: ky fs c)
  | 0, c, hl, hc => by
    rw [List.length_eq_zero_iff.mp hl]
    exact ⟨(b, b, []), F.pre.subset (List.mem_map.mpr ⟨b, hb, rfl⟩), rfl, .inr rfl⟩
  | n + 1, c, hl, hc => by
    have hne : c ≠ [] := fun e => by
      rw [e] at hl
      cases hl
    have ec := List.dropLast_concat_getLast hne
    generalize c.getLast hne = f at ec
    generalize c.dropLast = c' at ec
    subst ec
    have hf : f ∈ fs := hc f (by simp)
    obtain ⟨e, he, h1, h2⟩ := F.least hb n (c := c') (by simpa using hl) fun g hg => hc g (List.mem_append_left _ hg)
    obtain ⟨x, hx, x1, x2⟩ := F.next e he f hf
    refine ⟨x, hx, by rw [x1, h1, run_snoc], sl_le_trans x2 ?_⟩
    rw [ek_nxt, ky_snoc]
    rcases h2 with h2 | h2
    · exact .inl (sl_app (b := bs.idxOf b :: ky fs c') h2)
    · exact .inr (by rw [h2]; rfl)
theorem Fini.uniq {r : List (Ent σ)} (F : Fini step fs bs r) {x y : Ent σ} (hx : x ∈ r) (hy : y ∈ r) (e : x.1 = y.1) : x = y := by
  obtain ⟨i, hi⟩ := List.mem_iff_getElem?.mp hx
  obtain ⟨j, hj⟩ := List.mem_iff_getElem?.mp hy
  have h1 : (r.map Prod.fst)[i]? = some x.1 := by rw [List.getElem?_map, hi]; rfl
  have h2 : (r.map Prod.fst)[j]? = some x.1 := by rw [List.getElem?_map, hj, e]; rfl
  have := (List.getElem?_inj (List.getElem?_eq_some_iff.mp h1).1 F.nd).mp (h1.trans h2.symm)
  subst this
  exact Option.some.inj (hi.symm.trans hj)
theorem Fini.idx {r : List (Ent σ)} (F : Fini step fs bs r) {x y : Ent σ} {i j : Nat} (hi : r[i]? = some x) (hj : r[j]? = some y) (h : Lk bs fs x y) : i < j := by
  rcases Nat.lt_trichotomy i j with q | q | q
  · exact q
  · subst q
    rw [hi] at hj
    cases hj
    exact (sl_irr _ h).elim
  · exact (sl_irr _ (sl_trans h (pw_at F.ord hj hi q))).elim
theorem sl_cons {x : Nat} {a b : List Nat} : sl (x :: a) (x :: b) ↔ sl a b := by
  unfold sl
  constructor
  · rintro (h | ⟨h1, h2⟩)
    · exact .inl (by simpa using h)
    · rcases h2 with h2 | ⟨_, h2⟩
      · omega
      · exact .inr ⟨by simpa using h1, h2⟩
  · rintro (h | ⟨h1, h2⟩)
    · exact .inl (by simpa using h)
    · exact .inr ⟨by simpa using h1, .inr ⟨rfl, h2⟩⟩
/-! from one beginning -/
theorem Fini.key1 {b : σ} {r : List (Ent σ)} (F : Fini step fs [b] r) {e : Ent σ} (he : e ∈ r) : ek [b] fs e = [b].idxOf b :: ky fs e.2.2 := by
  unfold ek
  rw [List.mem_singleton.mp (F.at_ e he).1]
theorem Fini.run1 {b : σ} {r : List (Ent σ)} (F : Fini step fs [b] r) {e : Ent σ} (he : e ∈ r) : run step b e.2.2 = e.1 := by
  have h := F.at_ e he
  rw [← List.mem_singleton.mp h.1]
  exact h.2.2
theorem Fini.least1 {b : σ} {r : List (Ent σ)} (F : Fini step fs [b] r) {c : List Str} (hc : ∀ f ∈ c, f ∈ fs) : ∃ e ∈ r, e.1 = run step b c ∧ (cl fs e.2.2 c ∨ ky fs e.2.2 = ky fs c) := by
  obtain ⟨e, he, h1, h2⟩ := F.least (List.mem_singleton.mpr rfl) _ rfl hc
  refine ⟨e, he, h1, ?_⟩
  rw [F.key1 he] at h2
  rcases h2 with h2 | h2
  · exact .inl (sl_cons.mp h2)
  · exact .inr (List.cons.inj h2).2
theorem Fini.ord1 {b : σ} {r : List (Ent σ)} (F : Fini step fs [b] r) {i j : Nat} {x y : Ent σ} (hi : r[i]? = some x) (hj : r[j]? = some y) : i < j ↔ cl fs x.2.2 y.2.2 := by
  constructor
  · intro h
    have := pw_at F.ord hi hj h
    unfold Lk at this
    rw [F.key1 (List.mem_of_getElem? hi), F.key1 (List.mem_of_getElem? hj)] at this
    exact sl_cons.mp this
  · intro h
    refine F.idx hi hj ?_
    unfold Lk
    rw [F.key1 (List.mem_of_getElem? hi), F.key1 (List.mem_of_getElem? hj)]
    exact sl_cons.mpr h
theorem Fini.same1 {b : σ} {r : List (Ent σ)} (F : Fini step fs [b] r) {x y : Ent σ} (hx : x ∈ r) (hy : y ∈ r) (h : ky fs x.2.2 = ky fs y.2.2) : x = y := by
  refine F.uniq hx hy ?_
  have h1 := F.at_ x hx
  have h2 := F.at_ y hy
  rw [← F.run1 hx, ← F.run1 hy, ky_inj h1.2.1 h2.2.1 h]
/-- a career is no longer than there are others ahead -/
theorem ins_short {i : Nat} {met : List (Ent σ)} {e : Ent σ} {g : Str} (hlt : i < met.length) (hl : e.2.2.length ≤ i) (n : ∀ (k : Nat) (e : Ent σ), met[k]? = some e → e.2.2.length ≤ k) (k : Nat) (x : Ent σ) (hx : (ins met (nxt step e g))[k]? = some x) : x.2.2.length ≤ k := by
  by_cases q : (nxt step e g).1 ∈ met.map Prod.fst
  · unfold ins at hx
    rw [if_pos q] at hx
    exact n k x hx
  · unfold ins at hx
    rw [if_neg q] at hx
    rcases Nat.lt_or_ge k met.length with q | q
    · rw [List.getElem?_append_left q] at hx
      exact n k x hx
    · rw [List.getElem?_append_right q] at hx
      have hm := List.mem_of_getElem? hx
      rw [List.mem_singleton.mp hm]
      show (e.2.2 ++ [g]).length ≤ _
      rw [List.length_append, List.length_singleton]
      omega
theorem Bfs.short {i : Nat} {met r : List (Ent σ)} (h : Bfs step fs i met r) (n : ∀ (k : Nat) (e : Ent σ), met[k]? = some e → e.2.2.length ≤ k) : ∀ (k : Nat) (e : Ent σ), r[k]? = some e → e.2.2.length ≤ k := by
  induction h with
  | done => exact n
  | @turn i met r e he _ ih =>
    refine ih ?_
    have hl := n _ _ he
    have hlt := (List.getElem?_eq_some_iff.mp he).1
    have key : ∀ (gs : List Str) (met : List (Ent σ)), i < met.length → (∀ (k : Nat) (e : Ent σ), met[k]? = some e → e.2.2.length ≤ k) → ∀ (k : Nat) (x : Ent σ), (grow step gs met e)[k]? = some x → x.2.2.length ≤ k := by
      intro gs
      induction gs with
      | nil => exact fun _ _ h => h
      | cons g gs ih2 =>
        intro met hlt n
        exact ih2 (ins met (nxt step e g)) (Nat.lt_of_lt_of_le hlt (ins_pre met _).length_le) (ins_short hlt hl n)
    exact key fs met hlt n
theorem Bfs.short0 {r : List (Ent σ)} (h : Bfs step fs 0 (beg bs) r) : ∀ (k : Nat) (e : Ent σ), r[k]? = some e → e.2.2.length ≤ k := h.short fun k e he => by
  obtain ⟨b, hb, rfl⟩ := List.mem_map.mp (List.mem_of_getElem? he)
  exact Nat.zero_le _
end
/-! ### the same search under other names -/
section
variable {σ τ : Type} [DecidableEq σ] [DecidableEq τ]
def rn (φ : σ → τ) (e : Ent σ) : Ent τ := (φ e.1, φ e.2.1, e.2.2)
theorem Bfs.map {step : σ → Str → σ} {step' : τ → Str → τ} {fs : List Str} (φ : σ → τ) {U : List σ} (hU : ∀ q ∈ U, ∀ f ∈ fs, step q f ∈ U) (hi : ∀ a ∈ U, ∀ b ∈ U, φ a = φ b → a = b) (hs : ∀ q ∈ U, ∀ f ∈ fs, step' (φ q) f = φ (step q f))
    {i : Nat} {met r : List (Ent σ)} (h : Bfs step fs i met r) (hm : ∀ e ∈ met, e.1 ∈ U) : Bfs step' fs i (met.map (rn φ)) (r.map (rn φ)) := by
  induction h with
  | done =>
    rename_i met
    have : (met.map (rn φ)).length = met.length := List.length_map ..
    exact this ▸ Bfs.done (step := step') (fs := fs) (met := met.map (rn φ))
  | @turn i met r e he _ ih =>
    have heU := hm e (List.mem_of_getElem? he)
    have hg : ∀ x ∈ grow step fs met e, x.1 ∈ U := fun x hx => by
      rcases grow_sub _ hx with hx | ⟨f, hf, ef⟩
      · exact hm x hx
      · rw [ef]
        exact hU _ heU f hf
    have key : ∀ (gs : List Str) (met : List (Ent σ)), (∀ g ∈ gs, g ∈ fs) → (∀ e ∈ met, e.1 ∈ U) → (grow step gs met e).map (rn φ) = grow step' gs (met.map (rn φ)) (rn φ e) := by
      intro gs
      induction gs with
      | nil => exact fun _ _ _ => rfl
      | cons g gs ih2 =>
        intro met hgs hm
        have hgf := hgs g (List.mem_cons_self ..)
        have e1 : nxt step' (rn φ e) g = rn φ (nxt step e g) := by
          show (step' (φ e.1) g, φ e.2.1, e.2.2 ++ [g]) = (φ (step e.1 g), φ e.2.1, e.2.2 ++ [g])
          rw [hs _ heU g hgf]
        have e2 : (ins met (nxt step e g)).map (rn φ) = ins (met.map (rn φ)) (nxt step' (rn φ e) g) := by
          rw [e1]
          unfold ins
          have iff1 : (rn φ (nxt step e g)).1 ∈ (met.map (rn φ)).map Prod.fst ↔ (nxt step e g).1 ∈ met.map Prod.fst := by
            constructor
            · intro h
              obtain ⟨y, hy, ey⟩ := List.mem_map.mp h
              obtain ⟨x, hx, rfl⟩ := List.mem_map.mp hy
              have := hi _ (hm x hx) _ (hU _ heU g hgf) (show φ x.1 = φ (step e.1 g) from ey)
              exact List.mem_map.mpr ⟨x, hx, this⟩
            · intro h
              obtain ⟨x, hx, ex⟩ := List.mem_map.mp h
              exact List.mem_map.mpr ⟨rn φ x, List.mem_map.mpr ⟨x, hx, rfl⟩, by show φ x.1 = φ (nxt step e g).1; rw [ex]⟩
          by_cases q : (nxt step e g).1 ∈ met.map Prod.fst
          · rw [if_pos q, if_pos (iff1.mpr q)]
          · rw [if_neg q, if_neg fun z => q (iff1.mp z), List.map_append]
            rfl
        show (grow step gs (ins met (nxt step e g)) e).map (rn φ) = grow step' gs (ins (met.map (rn φ)) (nxt step' (rn φ e) g)) (rn φ e)
        rw [ih2 _ (fun f hf => hgs f (List.mem_cons_of_mem _ hf)) fun x hx => by
          rcases ins_sub hx with hx | hx
          · exact hm x hx
          · rw [hx]
            exact hU _ heU g hgf, e2]
    refine .turn (e := rn φ e) (by rw [List.getElem?_map, he]; rfl) ?_
    rw [← key fs met (fun _ h => h) hm]
    exact ih hg
theorem Bfs.det {step : σ → Str → σ} {fs : List Str} {i : Nat} {met r r' : List (Ent σ)} (h : Bfs step fs i met r) (h' : Bfs step fs i met r') : r = r' := by
  induction h with
  | done => exact h'.end_ (Nat.le_refl _)
  | turn he _ ih => exact ih (h'.at he)
theorem beg_rn {φ : σ → τ} {bs : List σ} : (beg bs).map (rn φ) = beg (bs.map φ) := by
  unfold beg
  rw [List.map_map, List.map_map]
  rfl
end
end Sl

set_option Elab.async false
set_option linter.all false
set_option maxRecDepth 100000
namespace Sl
open PySem L2 Dl
/-! ### tables by the places of a list -/
section
variable {κ γ : Type} [DecidableEq κ]
theorem aget_put {d : List (κ × γ)} {k : κ} {v : γ} : aget (aput d k v) k = some v := by
  by_cases h : k ∈ d.map Prod.fst
  · have h1 : ahas d k = true := ahas_iff.mpr h
    unfold aput
    rw [if_pos h1]
    clear h1
    induction d with
    | nil => cases h
    | cons p r ih =>
      rw [List.map_cons]
      by_cases e : p.1 = k
      · rw [if_pos e]
        exact aget_pos e
      · rw [if_neg e, aget_neg e]
        rw [List.map_cons] at h
        exact ih ((List.mem_cons.mp h).resolve_left fun z => e z.symm)
  · rw [aput_new h]
    induction d with
    | nil => exact aget_pos rfl
    | cons p r ih =>
      rw [List.map_cons] at h
      rw [List.cons_append, aget_neg fun e => h (by rw [← e]; exact List.mem_cons_self ..)]
      exact ih fun z => h (List.mem_cons_of_mem _ z)
theorem aget_put_ne {d : List (κ × γ)} {k k' : κ} {v : γ} (hn : k ≠ k') : aget (aput d k v) k' = aget d k' := by
  unfold aput
  split
  · induction d with
    | nil => rfl
    | cons p r ih =>
      rw [List.map_cons]
      have ih' : aget (r.map fun p => if p.1 = k then (p.1, v) else p) k' = aget r k' := by
        clear ih
        rename_i h
        clear h
        induction r with
        | nil => rfl
        | cons q r ih =>
          rw [List.map_cons]
          by_cases e : q.1 = k
          · rw [if_pos e, aget_neg (show ¬ (q.1, v).1 = k' from fun z => hn (e.symm.trans z)), aget_neg (show ¬ q.1 = k' from fun z => hn (e.symm.trans z)), ih]
          · rw [if_neg e]
            by_cases e2 : q.1 = k'
            · rw [aget_pos e2, aget_pos e2]
            · rw [aget_neg e2, aget_neg e2, ih]
      by_cases e : p.1 = k
      · rw [if_pos e, aget_neg (show ¬ (p.1, v).1 = k' from fun z => hn (e.symm.trans z)), aget_neg (show ¬ p.1 = k' from fun z => hn (e.symm.trans z)), ih']
      · rw [if_neg e]
        by_cases e2 : p.1 = k'
        · rw [aget_pos e2, aget_pos e2]
        · rw [aget_neg e2, aget_neg e2, ih']
  · induction d with
    | nil =>
      show aget [(k, v)] k' = aget [] k'
      rw [aget_neg (show ¬ (k, v).1 = k' from hn)]
    | cons p r ih =>
      rename_i h
      by_cases e : p.1 = k'
      · rw [List.cons_append, aget_pos e, aget_pos e]
      · rw [List.cons_append, aget_neg e, aget_neg e]
        refine ih fun z => h ?_
        rw [ahas_iff] at z ⊢
        rw [List.map_cons]
        exact List.mem_cons_of_mem _ z
theorem aget_at : ∀ {d : List (κ × γ)} {i : Nat} {k : κ} {v : γ}, (d.map Prod.fst).Nodup → d[i]? = some (k, v) → aget d k = some v
  | p :: r, 0, k, v, _, h => by
    obtain rfl := Option.some.inj (show some p = some (k, v) from h)
    exact aget_pos rfl
  | p :: r, i + 1, k, v, n, h => by
    rw [List.map_cons] at n
    obtain ⟨n1, n2⟩ := List.nodup_cons.mp n
    have h : r[i]? = some (k, v) := h
    rw [aget_neg fun e => n1 (e ▸ List.mem_map_of_mem (List.mem_of_getElem? h))]
    exact aget_at n2 h
  | [], _, _, _, _, h => by simp at h
/-- the table of places of a list -/
structure Tab (met : List κ) (d : List (κ × Int)) : Prop where
  keys : d.map Prod.fst = met
  vals : d.map Prod.snd = (List.range met.length).map Int.ofNat
theorem Tab.nil : Tab ([] : List κ) [] := ⟨rfl, rfl⟩
theorem Tab.get {met : List κ} {d : List (κ × Int)} (T : Tab met d) (n : met.Nodup) {i : Nat} {k : κ} (h : met[i]? = some k) : aget d k = some (i : Int) := by
  have h1 : (d[i]?).map Prod.fst = some k := by rw [← List.getElem?_map, T.keys]; exact h
  have h2 : (d[i]?).map Prod.snd = some (i : Int) := by
    rw [← List.getElem?_map, T.vals, List.getElem?_map, List.getElem?_range (List.getElem?_eq_some_iff.mp h).1]
    rfl
  cases e : d[i]? with
  | none => rw [e] at h1; cases h1
  | some p =>
    rw [e] at h1 h2
    refine aget_at (i := i) (by rw [T.keys]; exact n) ?_
    rw [e]
    exact congrArg some (Prod.ext (Option.some.inj h1) (Option.some.inj h2))
theorem Tab.put {met : List κ} {d : List (κ × Int)} (T : Tab met d) {k : κ} (h : k ∉ met) : Tab (met ++ [k]) (aput d k met.length) := by
  rw [aput_new (by rw [T.keys]; exact h)]
  refine ⟨by rw [List.map_append, T.keys]; rfl, ?_⟩
  rw [List.map_append, T.vals, List.length_append, List.length_singleton, List.range_succ, List.map_append]
  rfl
theorem Tab.has {met : List κ} {d : List (κ × Int)} (T : Tab met d) {k : κ} : ahas d k = true ↔ k ∈ met := by
  rw [ahas_iff, T.keys]
theorem Tab.len {met : List κ} {d : List (κ × Int)} (T : Tab met d) : d.length = met.length := by
  have := congrArg List.length T.keys
  rwa [List.length_map] at this
end
theorem pre_at {α : Type} {xs ys : List α} (p : xs <+: ys) {i : Nat} {x : α} (h : xs[i]? = some x) : ys[i]? = some x := by
  obtain ⟨t, ht⟩ := p
  rw [← ht, List.getElem?_append_left (List.getElem?_eq_some_iff.mp h).1, h]
theorem atI_at {α : Type} {xs : List α} {i : Nat} {x : α} (h : xs[i]? = some x) : atI xs i = some x := atI_nat h
theorem at_lt {α : Type} {xs : List α} {i : Nat} {x : α} (h : xs[i]? = some x) : i < xs.length := (List.getElem?_eq_some_iff.mp h).1
theorem at_ex {α : Type} {xs : List α} {i : Nat} (h : i < xs.length) : ∃ x, xs[i]? = some x := ⟨_, List.getElem?_eq_getElem h⟩
theorem snoc_at {α : Type} {xs : List α} {i : Nat} {y x : α} (h : (xs ++ [y])[i]? = some x) : xs[i]? = some x ∨ i = xs.length ∧ x = y := by
  rcases Nat.lt_or_ge i xs.length with q | q
  · rw [List.getElem?_append_left q] at h
    exact .inl h
  · have := at_lt h
    rw [List.length_append, List.length_singleton] at this
    have e : i = xs.length := by omega
    subst e
    rw [List.getElem?_append_right (Nat.le_refl _), Nat.sub_self] at h
    exact .inr ⟨rfl, (Option.some.inj h).symm⟩
theorem at_snoc {α : Type} {xs : List α} {y : α} : (xs ++ [y])[xs.length]? = some y := by
  rw [List.getElem?_append_right (Nat.le_refl _), Nat.sub_self]
  rfl
theorem nd_at {α : Type} {xs : List α} (n : xs.Nodup) {i j : Nat} {x : α} (h1 : xs[i]? = some x) (h2 : xs[j]? = some x) : i = j := (List.getElem?_inj (at_lt h1) n).mp (h1.trans h2.symm)
end Sl

set_option Elab.async false
set_option linter.all false
set_option maxRecDepth 100000
namespace Sl
open PySem L2 Dl
/-! ### short texts, and rows of what is short, can be shown -/
def Shd (n : Nat) (d : PyData) : Prop := d.shown.length ≤ n ∧ d.showable = true
theorem shd_list {α : Type} {g : α → PyData} {n : Nat} : ∀ {xs : List α}, (∀ x ∈ xs, Shd n (g x)) → PyData.showableAll (xs.map g) = true ∧ ((PyData.shownAll (xs.map g)).map (·.length)).sum ≤ n * xs.length
  | [], _ => by simp [PyData.showableAll, PyData.shownAll]
  | x :: xs, h => by
    obtain ⟨h1, h2⟩ := h x (List.mem_cons_self ..)
    obtain ⟨h3, h4⟩ := shd_list (xs := xs) fun y hy => h y (List.mem_cons_of_mem _ hy)
    constructor
    · show PyData.showableAll (g x :: xs.map g) = true
      rw [PyData.showableAll, h2, h3]
      rfl
    · show ((PyData.shownAll (g x :: xs.map g)).map (·.length)).sum ≤ _
      rw [PyData.shownAll, List.map_cons, List.sum_cons, List.length_cons, Nat.mul_succ]
      omega
/-- a row of k, each n long -/
theorem shd_lst {α : Type} {τ : Ty α} {d : Nat} [S : Sho τ d] {xs : List α} {n k : Nat} (hl : xs.length ≤ k) (h : ∀ x ∈ xs, Shd n (dat τ x)) : Shd (n * k + 2 * k + 3) (dat (tList τ) xs) := by
  obtain ⟨h1, h2⟩ := shd_list (g := fun x => dat τ x) h
  constructor
  · show (PyData.shown (.list (xs.map fun x => dat τ x))).length ≤ _
    rw [PyData.shown]
    have := listText_len_le (PyData.shownAll (xs.map fun x => dat τ x))
    rw [shownAll_len, List.length_map] at this
    have := Nat.mul_le_mul_left n hl
    omega
  · show PyData.showable (.list (xs.map fun x => dat τ x)) = true
    rw [PyData.showable]
    exact h1
theorem Shd.shw {n : Nat} {d : PyData} (h : Shd n d) (hn : n ≤ 100000) : Shw d := ⟨h.2, by
  have := h.1
  unfold sizeLine
  omega⟩
theorem Shd.mono {n n' : Nat} {d : PyData} (h : Shd n d) (hn : n ≤ n') : Shd n' d := ⟨Nat.le_trans h.1 hn, h.2⟩
theorem shd_bool {b : Bool} : Shd 8 (dat tBool b) := by
  cases b <;> exact ⟨by decide, rfl⟩
theorem shd_none {α : Type} {τ : Ty α} {d : Nat} [S : Sho τ d] : Shd 8 (dat (tOpt τ) none) := ⟨by show (PyData.shown .none).length ≤ 8; decide, rfl⟩
theorem shd_some {α : Type} {τ : Ty α} {d : Nat} [S : Sho τ d] {x : α} {n : Nat} (h : Shd n (dat τ x)) : Shd n (dat (tOpt τ) (some x)) := h
theorem shd_int {i : Int} (h : i.natAbs < 10 ^ 9) : Shd 12 (dat tInt i) := big_shown h
theorem shd_p2 {α β : Type} {τ : Ty α} {τ2 : Ty β} {d d2 : Nat} [S : Sho τ d] [S2 : Sho τ2 d2] {x : α × β} {n k : Nat} (h1 : Shd n (dat τ x.1)) (h2 : Shd k (dat τ2 x.2)) : Shd (n + k + 10) (dat (tP2 τ τ2) x) := by
  have e : dat (tP2 τ τ2) x = PyData.tuple [dat τ x.1, dat τ2 x.2] := rfl
  obtain ⟨a1, a2⟩ := h1
  obtain ⟨b1, b2⟩ := h2
  constructor
  · rw [e, PyData.shown]
    have := tupleText_len_le (PyData.shownAll [dat τ x.1, dat τ2 x.2])
    simp only [PyData.shownAll, List.map_cons, List.map_nil, List.sum_cons, List.sum_nil, List.length_cons, List.length_nil] at this ⊢
    omega
  · rw [e, PyData.showable, PyData.showableAll, PyData.showableAll, PyData.showableAll, a2, b2]
    rfl
end Sl

set_option Elab.async false
set_option linter.all false
set_option maxRecDepth 100000
set_option maxHeartbeats 4000000
namespace K44
open PySem PySem.Spec PyProof.Rows L2 Dl Sl
def topS (i : Nat) : Stmt := PySem.Challenge.pw_movedyears_k44_alike_or_a_career_that_te.main.body.getD i (.Pass ⟨0, 0, 0, 0⟩)
abbrev s_Machine_init : Stmt := inClass (topS 4) 0
abbrev n_Machine_init : List Str := ["self", "facts", "step", "gain", "leave", "row"]
theorem sc_Machine_init : FnScope n_Machine_init ["self", "facts", "step", "gain", "leave"] (defScope s_Machine_init) := ⟨rfl, rfl, rfl, by decide +kernel, rfl, by decide +kernel, by decide +kernel⟩
abbrev s_place_of : Stmt := topS 5
abbrev n_place_of : List Str := ["key", "met", "places"]
theorem sc_place_of : FnScope n_place_of ["key", "met", "places"] (defScope s_place_of) := ⟨rfl, rfl, rfl, by decide +kernel, rfl, by decide +kernel, by decide +kernel⟩
abbrev s_Pairs_init : Stmt := inClass (topS 7) 0
abbrev n_Pairs_init : List Str := ["self", "machine", "other", "begins", "pair"]
theorem sc_Pairs_init : FnScope n_Pairs_init ["self", "machine", "other", "begins"] (defScope s_Pairs_init) := ⟨rfl, rfl, rfl, by decide +kernel, rfl, by decide +kernel, by decide +kernel⟩
abbrev s_Pairs_many : Stmt := inClass (topS 7) 1
abbrev n_Pairs_many : List Str := ["self"]
theorem sc_Pairs_many : FnScope n_Pairs_many ["self"] (defScope s_Pairs_many) := ⟨rfl, rfl, rfl, by decide +kernel, rfl, by decide +kernel, by decide +kernel⟩
abbrev s_add_rows : Stmt := topS 8
abbrev n_add_rows : List Str := ["pairs", "machine", "other", "pair", "step", "fact"]
theorem sc_add_rows : FnScope n_add_rows ["pairs", "machine", "other", "pair"] (defScope s_add_rows) := ⟨rfl, rfl, rfl, by decide +kernel, rfl, by decide +kernel, by decide +kernel⟩
abbrev s_next_pair : Stmt := topS 9
abbrev n_next_pair : List Str := ["machine", "other", "pair", "fact", "first", "second"]
theorem sc_next_pair : FnScope n_next_pair ["machine", "other", "pair", "fact"] (defScope s_next_pair) := ⟨rfl, rfl, rfl, by decide +kernel, rfl, by decide +kernel, by decide +kernel⟩
abbrev s_gain_ahead : Stmt := topS 10
abbrev n_gain_ahead : List Str := ["machine", "other", "pair", "fact", "first", "second"]
theorem sc_gain_ahead : FnScope n_gain_ahead ["machine", "other", "pair", "fact"] (defScope s_gain_ahead) := ⟨rfl, rfl, rfl, by decide +kernel, rfl, by decide +kernel, by decide +kernel⟩
abbrev s_end_ahead : Stmt := topS 11
abbrev n_end_ahead : List Str := ["machine", "other", "pair", "first", "second"]
theorem sc_end_ahead : FnScope n_end_ahead ["machine", "other", "pair"] (defScope s_end_ahead) := ⟨rfl, rfl, rfl, by decide +kernel, rfl, by decide +kernel, by decide +kernel⟩
abbrev s_first_ways : Stmt := topS 12
abbrev n_first_ways : List Str := ["facts", "step", "begins", "ways", "met", "looked", "fact", "place", "begin"]
theorem sc_first_ways : FnScope n_first_ways ["facts", "step", "begins"] (defScope s_first_ways) := ⟨rfl, rfl, rfl, by decide +kernel, rfl, by decide +kernel, by decide +kernel⟩
abbrev s_career_to : Stmt := topS 13
abbrev n_career_to : List Str := ["ways", "place", "career", "fact"]
theorem sc_career_to : FnScope n_career_to ["ways", "place"] (defScope s_career_to) := ⟨rfl, rfl, rfl, by decide +kernel, rfl, by decide +kernel, by decide +kernel⟩
abbrev s_telling_career : Stmt := topS 15
abbrev n_telling_career : List Str := ["machine", "other", "pairs", "ways", "place", "fact", "end"]
theorem sc_telling_career : FnScope n_telling_career ["machine", "other"] (defScope s_telling_career) := ⟨rfl, rfl, rfl, by decide +kernel, rfl, by decide +kernel, by decide +kernel⟩
abbrev s_are_alike : Stmt := topS 16
abbrev n_are_alike : List Str := ["machine", "other"]
theorem sc_are_alike : FnScope n_are_alike ["machine", "other"] (defScope s_are_alike) := ⟨rfl, rfl, rfl, by decide +kernel, rfl, by decide +kernel, by decide +kernel⟩
abbrev s_law_cell : Stmt := topS 18
abbrev n_law_cell : List Str := ["script", "k"]
theorem sc_law_cell : FnScope n_law_cell ["script", "k"] (defScope s_law_cell) := ⟨rfl, rfl, rfl, by decide +kernel, rfl, by decide +kernel, by decide +kernel⟩
abbrev s_law_row : Stmt := topS 19
abbrev n_law_row : List Str := ["cell", "k", "many", "row", "seed", "turn"]
theorem sc_law_row : FnScope n_law_row ["cell", "k", "many"] (defScope s_law_row) := ⟨rfl, rfl, rfl, by decide +kernel, rfl, by decide +kernel, by decide +kernel⟩
abbrev s_law_box : Stmt := topS 20
abbrev n_law_box : List Str := ["script", "first", "last", "row", "k"]
theorem sc_law_box : FnScope n_law_box ["script", "first", "last"] (defScope s_law_box) := ⟨rfl, rfl, rfl, by decide +kernel, rfl, by decide +kernel, by decide +kernel⟩
abbrev s_law_draw : Stmt := topS 21
abbrev n_law_draw : List Str := ["box", "many", "at"]
theorem sc_law_draw : FnScope n_law_draw ["box", "many"] (defScope s_law_draw) := ⟨rfl, rfl, rfl, by decide +kernel, rfl, by decide +kernel, by decide +kernel⟩
abbrev s_law_same : Stmt := topS 22
abbrev n_law_same : List Str := ["one", "other"]
theorem sc_law_same : FnScope n_law_same ["one", "other"] (defScope s_law_same) := ⟨rfl, rfl, rfl, by decide +kernel, rfl, by decide +kernel, by decide +kernel⟩
abbrev s_law_facts : Stmt := topS 23
abbrev n_law_facts : List Str := ["box"]
theorem sc_law_facts : FnScope n_law_facts ["box"] (defScope s_law_facts) := ⟨rfl, rfl, rfl, by decide +kernel, rfl, by decide +kernel, by decide +kernel⟩
abbrev s_law_machine : Stmt := topS 24
abbrev n_law_machine : List Str := ["box", "facts", "most", "many", "step", "gain", "state", "fact"]
theorem sc_law_machine : FnScope n_law_machine ["box", "facts", "most"] (defScope s_law_machine) := ⟨rfl, rfl, rfl, by decide +kernel, rfl, by decide +kernel, by decide +kernel⟩
abbrev s_law_twin : Stmt := topS 25
abbrev n_law_twin : List Str := ["box", "machine", "many", "shift", "step", "gain", "copy_of", "leave", "state", "steps", "gains", "fact", "after", "one"]
theorem sc_law_twin : FnScope n_law_twin ["box", "machine"] (defScope s_law_twin) := ⟨rfl, rfl, rfl, by decide +kernel, rfl, by decide +kernel, by decide +kernel⟩
abbrev s_law_near : Stmt := topS 26
abbrev n_law_near : List Str := ["box", "machine", "many", "step", "gain", "leave", "state", "fact", "kind", "row"]
theorem sc_law_near : FnScope n_law_near ["box", "machine"] (defScope s_law_near) := ⟨rfl, rfl, rfl, by decide +kernel, rfl, by decide +kernel, by decide +kernel⟩
abbrev s_law_careers : Stmt := topS 27
abbrev n_law_careers : List Str := ["facts", "most", "found", "rows", "length", "longer", "row", "fact"]
theorem sc_law_careers : FnScope n_law_careers ["facts", "most"] (defScope s_law_careers) := ⟨rfl, rfl, rfl, by decide +kernel, rfl, by decide +kernel, by decide +kernel⟩
abbrev s_law_total : Stmt := topS 28
abbrev n_law_total : List Str := ["machine", "state", "career", "found", "fact"]
theorem sc_law_total : FnScope n_law_total ["machine", "state", "career"] (defScope s_law_total) := ⟨rfl, rfl, rfl, by decide +kernel, rfl, by decide +kernel, by decide +kernel⟩
abbrev s_law : Stmt := topS 29
abbrev n_law : List Str := ["script", "box", "facts", "machine", "twin", "other", "told", "most", "due", "career"]
theorem sc_law : FnScope n_law ["script"] (defScope s_law) := ⟨rfl, rfl, rfl, by decide +kernel, rfl, by decide +kernel, by decide +kernel⟩
structure D_Machine where
  facts : (List Str)
  step : (List (List (Str × Int)))
  gain : (List (List (Str × Int)))
  leave : (List Int)
def sh_Machine (x : D_Machine) : List Sh := [fz (tList tStr) x.facts, fz (tList (tDic kStr tInt)) x.step, fz (tList (tDic kStr tInt)) x.gain, fz (tList tInt) x.leave]
abbrev t_Machine (C_Machine : Addr) : Ty D_Machine := tOb C_Machine ["facts", "step", "gain", "leave"] sh_Machine
structure D_Pairs where
  facts : (List Str)
  pairs : (List (Int × Int))
  places : (List ((Int × Int) × Int))
  step : (List (List (Str × Int)))
  gain : (List (List (Str × Int)))
  end_ : (List Int)
def sh_Pairs (x : D_Pairs) : List Sh := [fz (tList tStr) x.facts, fz (tList (tP2 tInt tInt)) x.pairs, fz (tDic (kP2 fInt fInt) tInt) x.places, fz (tList (tDic kStr tInt)) x.step, fz (tList (tDic kStr tInt)) x.gain, fz (tList tInt) x.end_]
abbrev t_Pairs (C_Pairs : Addr) : Ty D_Pairs := tOb C_Pairs ["facts", "pairs", "places", "step", "gain", "end"] sh_Pairs
section
variable {P : Program} {w : World} {K : PySem.W.Frag} {mg : Str → Option Value} {base : Heap}
abbrev O_law_row : Type := (List Int)
def m_law_row (x_cell : Int) (x_k : Int) (x_many : Int) : Option O_law_row := (((if (decide (x_cell < (0 : Int))) = true then ((some ((1 : Int) - ((2 : Int) * x_cell))).bind fun cell_3 => some (cell_3)) else some (x_cell) : Option (Int)).bind fun j2 => ((if (decide (((10 : Int) ^ ((18 : Int)).toNat) ≤ j2)) = true then ((foldO (S := Int × (List Int)) (fun (s5 : Int × (List Int)) (y6 : Int) => ((if ((decide ((0 : Int) < s5.1)) && (decide (((s5.2).length : Int) < x_many))) = true then ((grd (Sm (s5.2).length) ()).bind fun g9 => ((some (Int.fdiv s5.1 (1000 : Int))).bind fun cell_10 => some (cell_10, (s5.2 ++ [(Int.fmod s5.1 (1000 : Int))])))) else some (s5.1, s5.2) : Option (Int × (List Int))).bind fun j8 => some (j8.1, j8.2))) (j2, ([] : List Int)) (range1 (60 : Int))).bind fun j11 => (some j11.2)) else ((some (Int.fmod (((j2 * (48271 : Int)) + (x_k * (69621 : Int))) + (11 : Int)) (2147483647 : Int))).bind fun seed_13 => ((grd (-1000000000 ≤ x_many ∧ x_many ≤ 1000000000) ()).bind fun g14 => (foldO (S := (List Int) × Int) (fun (s15 : (List Int) × Int) (y16 : Int) => ((some (Int.fmod (((s15.2 * (16807 : Int)) + ((7 : Int) * y16)) + (1 : Int)) (2147483647 : Int))).bind fun seed_17 => ((grd (Sm (s15.1).length) ()).bind fun g18 => some ((s15.1 ++ [(Int.fmod (Int.fdiv seed_17 (997 : Int)) (1000 : Int))]), seed_17)))) (([] : List Int), seed_13) (range1 x_many)).bind fun j19 => (some j19.1)))))))
def rs_law_row : O_law_row → Sh := fun o => (fz (tList tInt) o)
def ls_law_row : O_law_row → List Sh := fun o => []
def P_law_row : Phi := fun ss r L => ∃ (x_cell : Int) (x_k : Int) (x_many : Int) (o : O_law_row), m_law_row x_cell x_k x_many = some o ∧ ss = [(fz tInt x_cell), (fz tInt x_k), (fz tInt x_many)] ∧ r = rs_law_row o ∧ L = []
theorem ok_law_row (m_range : mg "range" = none) (m_len : mg "len" = none) (m_int : mg "int" = none) {f0 : Addr} {fd : FuncData} (D : Fun K "_law_row" "_law_row" s_law_row f0 fd) : FnG P w K mg base CX0 1 f0 fd ["cell", "k", "many"] (spS 3 P_law_row) := by
  refine Fun.okS D sc_law_row rfl (by decide) fun X0 s H A outer cdv E ss r L vs hr hlen hP => ?_
  obtain ⟨x_cell, x_k, x_many, o_, h, rfl, rfl, rfl⟩ := hP
  obtain ⟨v0, v1, v2, rfl⟩ : ∃ v0 v1 v2, vs = [v0, v1, v2] := by
    match vs, hlen with
    | [v0, v1, v2], _ => exact ⟨v0, v1, v2, rfl⟩
  refine ⟨_, rs_law_row, ls_law_row, o_, [], rfl, rfl, (fun _ h => nomatch h), rfl, ?_⟩
  clear X0
  unfold m_law_row at h
  show SJ _ _ _ [some (fz tInt x_cell), some (fz tInt x_k), some (fz tInt x_many), none, none, none] _
  refine sj_set (i := 3) (s := (oL tInt ([] : List Int))) sc_law_row.nd rfl (by first | exact Or.inl rfl | exact Or.inr rfl) (ej_oL (τ := tInt) (xs := ([] : List Int)) (ej_lst (ss := []) aj_nil)) ?_
  show SJ _ _ _ [some (fz tInt x_cell), some (fz tInt x_k), some (fz tInt x_many), some (oL tInt ([] : List Int)), none, none] _
  obtain ⟨j2, h_j2, h⟩ := bnd h
  refine sj_if (t := (decide (x_cell < (0 : Int)))) (Γm := [some (fz tInt j2), some (fz tInt x_k), some (fz tInt x_many), some (oL tInt ([] : List Int)), none, none]) (tj_cmp (ej_lt (ej_var (i := 0) rfl (by first | exact Or.inl rfl | exact Or.inr (Or.inl rfl) | exact Or.inr (Or.inr rfl)) rfl) ej_int)) ?_ ?_ ?_
  · intro h_b1
    clear h; have h := ifT h_b1 h_j2; clear h_j2
    show SJ _ _ _ [some (fz tInt x_cell), some (fz tInt x_k), some (fz tInt x_many), some (oL tInt ([] : List Int)), none, none] _
    obtain ⟨cell_3, h_cell_3, h⟩ := bnd h
    have h_cell_3 := Option.some.inj h_cell_3
    refine sj_set (i := 0) (s := (fz tInt cell_3)) sc_law_row.nd rfl (by first | exact Or.inl rfl | exact Or.inr rfl) (ej_is h_cell_3 (ej_sub ej_int (ej_mul ej_int (ej_var (i := 0) rfl (by first | exact Or.inl rfl | exact Or.inr (Or.inl rfl) | exact Or.inr (Or.inr rfl)) rfl) (.inl ⟨by decide, by decide⟩)))) ?_
    show SJ _ _ _ [some (fz tInt cell_3), some (fz tInt x_k), some (fz tInt x_many), some (oL tInt ([] : List Int)), none, none] _
    (simp only [Option.some.injEq, Prod.mk.injEq] at h; first | subst h | (obtain ⟨_, _⟩ := h; subst_vars))
    exact sj_join (fl := [true, true, true, true, true, true]) rfl rfl (fun _ _ _ h => h)
  · intro h_b1
    clear h; have h := ifF h_b1 h_j2; clear h_j2
    show SJ _ _ _ [some (fz tInt x_cell), some (fz tInt x_k), some (fz tInt x_many), some (oL tInt ([] : List Int)), none, none] _
    (simp only [Option.some.injEq, Prod.mk.injEq] at h; first | subst h | (obtain ⟨_, _⟩ := h; subst_vars))
    exact sj_join (fl := [true, true, true, true, true, true]) rfl rfl (fun _ _ _ h => h)
  refine sj_ifT (t := (decide (((10 : Int) ^ ((18 : Int)).toNat) ≤ j2))) (tj_cmp (ej_ge (ej_var (i := 0) rfl (by first | exact Or.inl rfl | exact Or.inr (Or.inl rfl) | exact Or.inr (Or.inr rfl)) rfl) (ej_pow ej_int ej_int ⟨by decide, by decide, by decide⟩))) ?_ ?_
  · intro h_b4
    replace h := ifT h_b4 h
    show SJ _ _ _ [some (fz tInt j2), some (fz tInt x_k), some (fz tInt x_many), some (oL tInt ([] : List Int)), none, none] _
    obtain ⟨j11, h_j11, h⟩ := bnd h
    refine sj_for (sh := fz tInt) (Γs := fun (s5 : Int × (List Int)) => [some (fz tInt s5.1), some (fz tInt x_k), some (fz tInt x_many), some (oL tInt s5.2), none, none]) (Γy := fun (s5 : Int × (List Int)) y6 => [some (fz tInt s5.1), some (fz tInt x_k), some (fz tInt x_many), some (oL tInt s5.2), none, some (fz tInt y6)]) (fl := [true, true, true, true, true, true]) (rs_law_row) (ls_law_row) h_j11 (ij_rg1 (by rfl) m_range (aj_cons ej_int aj_nil) ⟨by decide, by decide⟩) rfl rfl (fun s5 y6 => (gj_name (i := 5) sc_law_row.nd rfl (by first | exact Or.inl rfl | exact Or.inr rfl))) ?_ ?_ PassesOwn.never rfl
    · intro s5 y6 o_ h_hy12 h
      clear h_j11; have h := h
      show SJ _ _ _ [some (fz tInt s5.1), some (fz tInt x_k), some (fz tInt x_many), some (oL tInt s5.2), none, some (fz tInt y6)] _
      obtain ⟨j8, h_j8, h⟩ := bnd h
      refine sj_if (t := ((decide ((0 : Int) < s5.1)) && (decide (((s5.2).length : Int) < x_many)))) (Γm := [some (fz tInt j8.1), some (fz tInt x_k), some (fz tInt x_many), some (oL tInt j8.2), none, some (fz tInt y6)]) (tj_w (wj_andP (tj_cmp (ej_gt (ej_var (i := 0) rfl (by first | exact Or.inl rfl | exact Or.inr (Or.inl rfl) | exact Or.inr (Or.inr rfl)) rfl) ej_int)) (wj_and1 (tj_cmp (ej_lt (ej_bP Dl.cl_len (va_len rd_oL) (by rfl) m_len bt_len (pj_var (i := 3) rfl (by first | exact Or.inl rfl | exact Or.inr (Or.inl rfl) | exact Or.inr (Or.inr rfl)) rfl)) (ej_var (i := 2) rfl (by first | exact Or.inl rfl | exact Or.inr (Or.inl rfl) | exact Or.inr (Or.inr rfl)) rfl)))))) ?_ ?_ ?_
      · intro h_b7
        clear h; have h := ifT h_b7 h_j8; clear h_j8
        show SJ _ _ _ [some (fz tInt s5.1), some (fz tInt x_k), some (fz tInt x_many), some (oL tInt s5.2), none, some (fz tInt y6)] _
        obtain ⟨g9, h_g9, h⟩ := bnd h
        refine sj_expr (ej_app (i := 3) rfl (by first | exact Or.inl rfl | exact Or.inr (Or.inl rfl) | exact Or.inr (Or.inr rfl)) rfl (aj_cons (ej_mod (ej_ty (ss := [_]) Dl.cl_int va_int (by rfl) m_int bt_int (aj_cons (ej_var (i := 0) rfl (by first | exact Or.inl rfl | exact Or.inr (Or.inl rfl) | exact Or.inr (Or.inr rfl)) rfl) aj_nil)) ej_int (by decide)) aj_nil) rfl (grd_iff h_g9).1) ?_
        show SJ _ _ _ [some (fz tInt s5.1), some (fz tInt x_k), some (fz tInt x_many), some (oL tInt (s5.2 ++ [(Int.fmod s5.1 (1000 : Int))])), none, some (fz tInt y6)] _
        obtain ⟨cell_10, h_cell_10, h⟩ := bnd h
        have h_cell_10 := Option.some.inj h_cell_10
        refine sj_set (i := 0) (s := (fz tInt cell_10)) sc_law_row.nd rfl (by first | exact Or.inl rfl | exact Or.inr rfl) (ej_is h_cell_10 (ej_div (ej_var (i := 0) rfl (by first | exact Or.inl rfl | exact Or.inr (Or.inl rfl) | exact Or.inr (Or.inr rfl)) rfl) ej_int ⟨by decide, by decide⟩)) ?_
        show SJ _ _ _ [some (fz tInt cell_10), some (fz tInt x_k), some (fz tInt x_many), some (oL tInt (s5.2 ++ [(Int.fmod s5.1 (1000 : Int))])), none, some (fz tInt y6)] _
        (simp only [Option.some.injEq, Prod.mk.injEq] at h; first | subst h | (obtain ⟨_, _⟩ := h; subst_vars))
        exact sj_join (fl := [true, true, true, true, true, true]) rfl rfl (fun _ _ _ h => h)
      · intro h_b7
        clear h; have h := ifF h_b7 h_j8; clear h_j8
        show SJ _ _ _ [some (fz tInt s5.1), some (fz tInt x_k), some (fz tInt x_many), some (oL tInt s5.2), none, some (fz tInt y6)] _
        (simp only [Option.some.injEq, Prod.mk.injEq] at h; first | subst h | (obtain ⟨_, _⟩ := h; subst_vars))
        exact sj_join (fl := [true, true, true, true, true, true]) rfl rfl (fun _ _ _ h => h)
      (simp only [Option.some.injEq, Prod.mk.injEq] at h; first | subst h | (obtain ⟨_, _⟩ := h; subst_vars))
      exact sj_end (fl := [true, true, true, true, true, false]) rfl rfl
    show SJ _ _ _ [some (fz tInt j11.1), some (fz tInt x_k), some (fz tInt x_many), some (oL tInt j11.2), none, none] _
    (simp only [Option.some.injEq, Prod.mk.injEq] at h; first | subst h | (obtain ⟨_, _⟩ := h; subst_vars))
    exact sj_ret (rs := rs_law_row) (ls := ls_law_row) (y := j11.2) (ej_fz (ej_mov (i := 3) rfl (by first | exact Or.inl rfl | exact Or.inr (Or.inl rfl) | exact Or.inr (Or.inr rfl)) rfl) fz_oL) rfl rfl (show List.Nodup ([] : List Nat) by decide) rfl
  intro h_b4
  replace h := ifF h_b4 h
  show SJ _ _ _ [some (fz tInt j2), some (fz tInt x_k), some (fz tInt x_many), some (oL tInt ([] : List Int)), none, none] _
  obtain ⟨seed_13, h_seed_13, h⟩ := bnd h
  have h_seed_13 := Option.some.inj h_seed_13
  refine sj_set (i := 4) (s := (fz tInt seed_13)) sc_law_row.nd rfl (by first | exact Or.inl rfl | exact Or.inr rfl) (ej_is h_seed_13 (ej_mod (ej_ty (ss := [_]) Dl.cl_int va_int (by rfl) m_int bt_int (aj_cons (ej_add (ej_add (ej_mul (ej_var (i := 0) rfl (by first | exact Or.inl rfl | exact Or.inr (Or.inl rfl) | exact Or.inr (Or.inr rfl)) rfl) ej_int (.inr ⟨by decide, by decide⟩)) (ej_mul (ej_var (i := 1) rfl (by first | exact Or.inl rfl | exact Or.inr (Or.inl rfl) | exact Or.inr (Or.inr rfl)) rfl) ej_int (.inr ⟨by decide, by decide⟩))) ej_int) aj_nil)) ej_int (by decide))) ?_
  show SJ _ _ _ [some (fz tInt j2), some (fz tInt x_k), some (fz tInt x_many), some (oL tInt ([] : List Int)), some (fz tInt seed_13), none] _
  obtain ⟨g14, h_g14, h⟩ := bnd h
  obtain ⟨j19, h_j19, h⟩ := bnd h
  refine sj_for (sh := fz tInt) (Γs := fun (s15 : (List Int) × Int) => [some (fz tInt j2), some (fz tInt x_k), some (fz tInt x_many), some (oL tInt s15.1), some (fz tInt s15.2), none]) (Γy := fun (s15 : (List Int) × Int) y16 => [some (fz tInt j2), some (fz tInt x_k), some (fz tInt x_many), some (oL tInt s15.1), some (fz tInt s15.2), some (fz tInt y16)]) (fl := [true, true, true, true, true, true]) (rs_law_row) (ls_law_row) h_j19 (ij_rg1 (by rfl) m_range (aj_cons (ej_var (i := 2) rfl (by first | exact Or.inl rfl | exact Or.inr (Or.inl rfl) | exact Or.inr (Or.inr rfl)) rfl) aj_nil) (grd_iff h_g14).1) rfl rfl (fun s15 y16 => (gj_name (i := 5) sc_law_row.nd rfl (by first | exact Or.inl rfl | exact Or.inr rfl))) ?_ ?_ PassesOwn.never rfl
  · intro s15 y16 o_ h_hy20 h
    clear h_j19; have h := h
    show SJ _ _ _ [some (fz tInt j2), some (fz tInt x_k), some (fz tInt x_many), some (oL tInt s15.1), some (fz tInt s15.2), some (fz tInt y16)] _
    obtain ⟨seed_17, h_seed_17, h⟩ := bnd h
    have h_seed_17 := Option.some.inj h_seed_17
    refine sj_set (i := 4) (s := (fz tInt seed_17)) sc_law_row.nd rfl (by first | exact Or.inl rfl | exact Or.inr rfl) (ej_is h_seed_17 (ej_mod (ej_ty (ss := [_]) Dl.cl_int va_int (by rfl) m_int bt_int (aj_cons (ej_add (ej_add (ej_mul (ej_var (i := 4) rfl (by first | exact Or.inl rfl | exact Or.inr (Or.inl rfl) | exact Or.inr (Or.inr rfl)) rfl) ej_int (.inr ⟨by decide, by decide⟩)) (ej_mul ej_int (ej_var (i := 5) rfl (by first | exact Or.inl rfl | exact Or.inr (Or.inl rfl) | exact Or.inr (Or.inr rfl)) rfl) (.inl ⟨by decide, by decide⟩))) ej_int) aj_nil)) ej_int (by decide))) ?_
    show SJ _ _ _ [some (fz tInt j2), some (fz tInt x_k), some (fz tInt x_many), some (oL tInt s15.1), some (fz tInt seed_17), some (fz tInt y16)] _
    obtain ⟨g18, h_g18, h⟩ := bnd h
    refine sj_expr (ej_app (i := 3) rfl (by first | exact Or.inl rfl | exact Or.inr (Or.inl rfl) | exact Or.inr (Or.inr rfl)) rfl (aj_cons (ej_mod (ej_ty (ss := [_]) Dl.cl_int va_int (by rfl) m_int bt_int (aj_cons (ej_div (ej_var (i := 4) rfl (by first | exact Or.inl rfl | exact Or.inr (Or.inl rfl) | exact Or.inr (Or.inr rfl)) rfl) ej_int ⟨by decide, by decide⟩) aj_nil)) ej_int (by decide)) aj_nil) rfl (grd_iff h_g18).1) ?_
    show SJ _ _ _ [some (fz tInt j2), some (fz tInt x_k), some (fz tInt x_many), some (oL tInt (s15.1 ++ [(Int.fmod (Int.fdiv seed_17 (997 : Int)) (1000 : Int))])), some (fz tInt seed_17), some (fz tInt y16)] _
    (simp only [Option.some.injEq, Prod.mk.injEq] at h; first | subst h | (obtain ⟨_, _⟩ := h; subst_vars))
    exact sj_end (fl := [true, true, true, true, true, false]) rfl rfl
  show SJ _ _ _ [some (fz tInt j2), some (fz tInt x_k), some (fz tInt x_many), some (oL tInt j19.1), some (fz tInt j19.2), none] _
  (simp only [Option.some.injEq, Prod.mk.injEq] at h; first | subst h | (obtain ⟨_, _⟩ := h; subst_vars))
  exact sj_ret (rs := rs_law_row) (ls := ls_law_row) (y := j19.1) (ej_fz (ej_mov (i := 3) rfl (by first | exact Or.inl rfl | exact Or.inr (Or.inl rfl) | exact Or.inr (Or.inr rfl)) rfl) fz_oL) rfl rfl (show List.Nodup ([] : List Nat) by decide) rfl

abbrev O_law_cell : Type := Int
def m_law_cell (x_script : List Int) (x_k : Int) : Option O_law_cell := ((if (decide (x_k < ((x_script).length : Int))) = true then ((atI x_script x_k).bind fun t2 => some t2) else (some (0 : Int))))
def rs_law_cell (K : PySem.W.Frag) : O_law_cell → Sh := fun o => (fz tInt o)
def ls_law_cell (K : PySem.W.Frag) : O_law_cell → List Sh := fun o => []
def P_law_cell (K : PySem.W.Frag) : Phi := fun ss r L => ∃ (x_script : List Int) (x_k : Int) (o : O_law_cell), m_law_cell x_script x_k = some o ∧ ss = [(fz (tScr K) x_script), (fz tInt x_k)] ∧ r = rs_law_cell K o ∧ L = []
theorem ok_law_cell (m_len : mg "len" = none) {f0 : Addr} {fd : FuncData} (D : Fun K "_law_cell" "_law_cell" s_law_cell f0 fd) : FnG P w K mg base CX0 1 f0 fd ["script", "k"] (spS 2 (P_law_cell K)) := by
  refine Fun.okS D sc_law_cell rfl (by decide) fun X0 s H A outer cdv E ss r L vs hr hlen hP => ?_
  obtain ⟨x_script, x_k, o_, h, rfl, rfl, rfl⟩ := hP
  obtain ⟨v0, v1, rfl⟩ : ∃ v0 v1, vs = [v0, v1] := by
    match vs, hlen with
    | [v0, v1], _ => exact ⟨v0, v1, rfl⟩
  refine ⟨_, rs_law_cell K, ls_law_cell K, o_, [], rfl, rfl, (fun _ h => nomatch h), rfl, ?_⟩
  clear X0
  unfold m_law_cell at h
  show SJ _ _ _ [some (fz (tScr K) x_script), some (fz tInt x_k)] _
  refine sj_ifT (t := (decide (x_k < ((x_script).length : Int)))) (tj_cmp (ej_lt (ej_var (i := 1) rfl (by first | exact Or.inl rfl | exact Or.inr (Or.inl rfl) | exact Or.inr (Or.inr rfl)) rfl) (ej_b (ss := [_]) Dl.cl_len va_lenScr (by rfl) m_len bt_len (aj_cons (ej_var (i := 0) rfl (by first | exact Or.inl rfl | exact Or.inr (Or.inl rfl) | exact Or.inr (Or.inr rfl)) rfl) aj_nil)))) ?_ ?_
  · intro h_b1
    replace h := ifT h_b1 h
    show SJ _ _ _ [some (fz (tScr K) x_script), some (fz tInt x_k)] _
    obtain ⟨t2, h_t2, h⟩ := bnd h
    (simp only [Option.some.injEq, Prod.mk.injEq] at h; first | subst h | (obtain ⟨_, _⟩ := h; subst_vars))
    exact sj_ret (rs := rs_law_cell K) (ls := ls_law_cell K) (y := t2) (ej_ix ix_list (v2_ixScr h_t2) (ej_var (i := 0) rfl (by first | exact Or.inl rfl | exact Or.inr (Or.inl rfl) | exact Or.inr (Or.inr rfl)) rfl) (ej_var (i := 1) rfl (by first | exact Or.inl rfl | exact Or.inr (Or.inl rfl) | exact Or.inr (Or.inr rfl)) rfl) (fun _ _ => rfl)) rfl rfl (show List.Nodup ([] : List Nat) by decide) rfl
  intro h_b1
  replace h := ifF h_b1 h
  show SJ _ _ _ [some (fz (tScr K) x_script), some (fz tInt x_k)] _
  (simp only [Option.some.injEq, Prod.mk.injEq] at h; first | subst h | (obtain ⟨_, _⟩ := h; subst_vars))
  exact sj_ret (rs := rs_law_cell K) (ls := ls_law_cell K) (y := (0 : Int)) ej_int rfl rfl (show List.Nodup ([] : List Nat) by decide) rfl

abbrev O_law_box : Type := ((List Int) × Int)
def m_law_box (x_script : List Int) (x_first : Int) (x_last : Int) : Option O_law_box := ((some ([] : List Int)).bind fun row_1 => ((grd (-1000000000 ≤ x_first ∧ x_first ≤ 1000000000 ∧ -1000000000 ≤ x_last ∧ x_last ≤ 1000000000) ()).bind fun g2 => (foldO (S := (List Int)) (fun (s3 : (List Int)) (y4 : Int) => ((m_law_cell x_script y4).bind fun t5 => (m_law_row t5 y4 (12 : Int)).bind fun t6 => (grd (Sm ((s3).length + (t6).length)) ()).bind fun g7 => (some (s3 ++ t6)).bind fun row_8 => some (row_8))) (row_1) (range2 x_first x_last)).bind fun j9 => (some (j9, (0 : Int)))))
def rs_law_box (K : PySem.W.Frag) : O_law_box → Sh := fun o => (oLst [(fz (tList tInt) o.1), (fz tInt o.2)])
def ls_law_box (K : PySem.W.Frag) : O_law_box → List Sh := fun o => []
def P_law_box (K : PySem.W.Frag) : Phi := fun ss r L => ∃ (x_script : List Int) (x_first : Int) (x_last : Int) (o : O_law_box), m_law_box x_script x_first x_last = some o ∧ ss = [(fz (tScr K) x_script), (fz tInt x_first), (fz tInt x_last)] ∧ r = rs_law_box K o ∧ L = []
theorem ok_law_box (m_range : mg "range" = none) (C_law_cell : CalG P w K mg base CX0 1 "_law_cell" ["script", "k"] (spS 2 (P_law_cell K))) (C_law_row : CalG P w K mg base CX0 1 "_law_row" ["cell", "k", "many"] (spS 3 P_law_row)) {f0 : Addr} {fd : FuncData} (D : Fun K "_law_box" "_law_box" s_law_box f0 fd) : FnG P w K mg base CX0 2 f0 fd ["script", "first", "last"] (spS 3 (P_law_box K)) := by
  refine Fun.okS D sc_law_box rfl (by decide) fun X0 s H A outer cdv E ss r L vs hr hlen hP => ?_
  obtain ⟨x_script, x_first, x_last, o_, h, rfl, rfl, rfl⟩ := hP
  obtain ⟨v0, v1, v2, rfl⟩ : ∃ v0 v1 v2, vs = [v0, v1, v2] := by
    match vs, hlen with
    | [v0, v1, v2], _ => exact ⟨v0, v1, v2, rfl⟩
  refine ⟨_, rs_law_box K, ls_law_box K, o_, [], rfl, rfl, (fun _ h => nomatch h), rfl, ?_⟩
  clear X0
  unfold m_law_box at h
  show SJ _ _ _ [some (fz (tScr K) x_script), some (fz tInt x_first), some (fz tInt x_last), none, none] _
  obtain ⟨row_1, h_row_1, h⟩ := bnd h
  have h_row_1 := Option.some.inj h_row_1
  refine sj_set (i := 3) (s := (fz (tList tInt) row_1)) sc_law_box.nd rfl (by first | exact Or.inl rfl | exact Or.inr rfl) (ej_is h_row_1 (ej_fz (ej_lst (ss := []) aj_nil) (fz_lm (τ := tInt) (xs := [])))) ?_
  show SJ _ _ _ [some (fz (tScr K) x_script), some (fz tInt x_first), some (fz tInt x_last), some (fz (tList tInt) row_1), none] _
  obtain ⟨g2, h_g2, h⟩ := bnd h
  obtain ⟨j9, h_j9, h⟩ := bnd h
  refine sj_for (sh := fz tInt) (Γs := fun (s3 : (List Int)) => [some (fz (tScr K) x_script), some (fz tInt x_first), some (fz tInt x_last), some (fz (tList tInt) s3), none]) (Γy := fun (s3 : (List Int)) y4 => [some (fz (tScr K) x_script), some (fz tInt x_first), some (fz tInt x_last), some (fz (tList tInt) s3), some (fz tInt y4)]) (fl := [true, true, true, true, true]) (rs_law_box K) (ls_law_box K) h_j9 (ij_rg2 (by rfl) m_range (aj_cons (ej_var (i := 1) rfl (by first | exact Or.inl rfl | exact Or.inr (Or.inl rfl) | exact Or.inr (Or.inr rfl)) rfl) (aj_cons (ej_var (i := 2) rfl (by first | exact Or.inl rfl | exact Or.inr (Or.inl rfl) | exact Or.inr (Or.inr rfl)) rfl) aj_nil)) (grd_iff h_g2).1) rfl rfl (fun s3 y4 => (gj_name (i := 4) sc_law_box.nd rfl (by first | exact Or.inl rfl | exact Or.inr rfl))) ?_ ?_ PassesOwn.never rfl
  · intro s3 y4 o_ h_hy10 h
    clear h_j9; have h := h
    show SJ _ _ _ [some (fz (tScr K) x_script), some (fz tInt x_first), some (fz tInt x_last), some (fz (tList tInt) s3), some (fz tInt y4)] _
    obtain ⟨t5, h_t5, h⟩ := bnd h
    obtain ⟨t6, h_t6, h⟩ := bnd h
    obtain ⟨g7, h_g7, h⟩ := bnd h
    obtain ⟨row_8, h_row_8, h⟩ := bnd h
    have h_row_8 := Option.some.inj h_row_8
    refine sj_set (i := 3) (s := (fz (tList tInt) row_8)) sc_law_box.nd rfl (by first | exact Or.inl rfl | exact Or.inr rfl) (ej_is h_row_8 (ej_fz (ej_cat (ej_var (i := 3) rfl (by first | exact Or.inl rfl | exact Or.inr (Or.inl rfl) | exact Or.inr (Or.inr rfl)) rfl) (ej_callP (ss := [_, _, _]) C_law_row (hr.mono (by decide)) (by rfl) pass0 (aj_cons (ej_callP (ss := [_, _]) C_law_cell (hr.mono (by decide)) (by rfl) pass0 (aj_cons (ej_var (i := 0) rfl (by first | exact Or.inl rfl | exact Or.inr (Or.inl rfl) | exact Or.inr (Or.inr rfl)) rfl) (aj_cons (ej_var (i := 4) rfl (by first | exact Or.inl rfl | exact Or.inr (Or.inl rfl) | exact Or.inr (Or.inr rfl)) rfl) aj_nil)) ⟨x_script, y4, t5, h_t5, rfl, rfl, rfl⟩) (aj_cons (ej_var (i := 4) rfl (by first | exact Or.inl rfl | exact Or.inr (Or.inl rfl) | exact Or.inr (Or.inr rfl)) rfl) (aj_cons ej_int aj_nil))) ⟨t5, y4, (12 : Int), t6, h_t6, rfl, rfl, rfl⟩) (grd_iff h_g7).1) fz_oL)) ?_
    show SJ _ _ _ [some (fz (tScr K) x_script), some (fz tInt x_first), some (fz tInt x_last), some (fz (tList tInt) row_8), some (fz tInt y4)] _
    (simp only [Option.some.injEq, Prod.mk.injEq] at h; first | subst h | (obtain ⟨_, _⟩ := h; subst_vars))
    exact sj_end (fl := [true, true, true, true, false]) rfl rfl
  show SJ _ _ _ [some (fz (tScr K) x_script), some (fz tInt x_first), some (fz tInt x_last), some (fz (tList tInt) j9), none] _
  (simp only [Option.some.injEq, Prod.mk.injEq] at h; first | subst h | (obtain ⟨_, _⟩ := h; subst_vars))
  exact sj_ret (rs := rs_law_box K) (ls := ls_law_box K) (y := (j9, (0 : Int))) (ej_lst (ss := [(fz (tList tInt) j9), (fz tInt (0 : Int))]) (aj_cons (ej_var (i := 3) rfl (by first | exact Or.inl rfl | exact Or.inr (Or.inl rfl) | exact Or.inr (Or.inr rfl)) rfl) (aj_cons ej_int aj_nil))) rfl rfl (show List.Nodup ([] : List Nat) by decide) rfl

abbrev O_law_draw : Type := Int × ((List Int) × Int)
def m_law_draw (x_box : ((List Int) × Int)) (x_many : Int) : Option O_law_draw := ((((if (decide (x_box.2 < ((x_box.1).length : Int))) = true then ((atI x_box.1 x_box.2).bind fun t2 => (grd (x_many ≠ 0) ()).bind fun g3 => some ((Int.fmod t2 x_many), (x_box.1, (x_box.2 + (1 : Int))))) else ((grd (x_many ≠ 0) ()).bind fun g4 => some ((Int.fmod ((x_box.2 * (7 : Int)) + (3 : Int)) x_many), (x_box.1, (x_box.2 + (1 : Int)))))))))
def rs_law_draw : O_law_draw → Sh := fun o => (fz tInt o.1)
def ls_law_draw : O_law_draw → List Sh := fun o => [(oLst [(fz (tList tInt) o.2.1), (fz tInt o.2.2)])]
def P_law_draw : Phi := fun ss r L => ∃ (x_box : ((List Int) × Int)) (x_many : Int) (o : O_law_draw), m_law_draw x_box x_many = some o ∧ ss = [(oLst [(fz (tList tInt) x_box.1), (fz tInt x_box.2)]), (fz tInt x_many)] ∧ r = rs_law_draw o ∧ L = [(0, (oLst [(fz (tList tInt) o.2.1), (fz tInt o.2.2)]))]
theorem ok_law_draw (m_len : mg "len" = none) (m_int : mg "int" = none) {f0 : Addr} {fd : FuncData} (D : Fun K "_law_draw" "_law_draw" s_law_draw f0 fd) : FnG P w K mg base CX0 1 f0 fd ["box", "many"] (spS 2 P_law_draw) := by
  refine Fun.okS D sc_law_draw rfl (by decide) fun X0 s H A outer cdv E ss r L vs hr hlen hP => ?_
  obtain ⟨x_box, x_many, o_, h, rfl, rfl, rfl⟩ := hP
  obtain ⟨v0, v1, rfl⟩ : ∃ v0 v1, vs = [v0, v1] := by
    match vs, hlen with
    | [v0, v1], _ => exact ⟨v0, v1, rfl⟩
  refine ⟨_, rs_law_draw, ls_law_draw, o_, [(0, v0)], rfl, rfl, by intro p hp; simp only [List.mem_cons, List.not_mem_nil, or_false] at hp; subst hp; rfl, rfl, ?_⟩
  clear X0
  unfold m_law_draw at h
  show SJ _ _ _ [some (oLst [(fz (tList tInt) x_box.1), (fz tInt x_box.2)]), some (fz tInt x_many), none] _
  refine sj_set (i := 2) (s := (fz tInt x_box.2)) sc_law_draw.nd rfl (by first | exact Or.inl rfl | exact Or.inr rfl) (ej_ixP ix_list (v2_ixO (j := 1) rdo_o rfl rfl) (pj_var (i := 0) rfl (by first | exact Or.inl rfl | exact Or.inr (Or.inl rfl) | exact Or.inr (Or.inr rfl)) rfl) ej_int (fun _ _ => rfl)) ?_
  show SJ _ _ _ [some (oLst [(fz (tList tInt) x_box.1), (fz tInt x_box.2)]), some (fz tInt x_many), some (fz tInt x_box.2)] _
  refine sj_setO (i := 0) (j := 1) rfl (by first | exact Or.inl rfl | exact Or.inr (Or.inl rfl) | exact Or.inr (Or.inr rfl)) (ej_add (ej_var (i := 2) rfl (by first | exact Or.inl rfl | exact Or.inr (Or.inl rfl) | exact Or.inr (Or.inr rfl)) rfl) ej_int) rfl ej_int rfl (fun _ q => by cases q; exact fun _ _ _ h => h.1) ?_
  show SJ _ _ _ [some (oLst [(fz (tList tInt) x_box.1), (fz tInt (x_box.2 + (1 : Int)))]), some (fz tInt x_many), some (fz tInt x_box.2)] _
  refine sj_ifT (t := (decide (x_box.2 < ((x_box.1).length : Int)))) (tj_cmp (ej_lt (ej_var (i := 2) rfl (by first | exact Or.inl rfl | exact Or.inr (Or.inl rfl) | exact Or.inr (Or.inr rfl)) rfl) (ej_b (ss := [_]) Dl.cl_len (va_len rd_fz) (by rfl) m_len bt_len (aj_cons (ej_ixP ix_list (v2_ixO (j := 0) rdo_o rfl rfl) (pj_var (i := 0) rfl (by first | exact Or.inl rfl | exact Or.inr (Or.inl rfl) | exact Or.inr (Or.inr rfl)) rfl) ej_int (fun _ _ => rfl)) aj_nil)))) ?_ ?_
  · intro h_b1
    replace h := ifT h_b1 h
    show SJ _ _ _ [some (oLst [(fz (tList tInt) x_box.1), (fz tInt (x_box.2 + (1 : Int)))]), some (fz tInt x_many), some (fz tInt x_box.2)] _
    obtain ⟨t2, h_t2, h⟩ := bnd h
    obtain ⟨g3, h_g3, h⟩ := bnd h
    (simp only [Option.some.injEq, Prod.mk.injEq] at h; first | subst h | (obtain ⟨_, _⟩ := h; subst_vars))
    exact sj_ret (rs := rs_law_draw) (ls := ls_law_draw) (y := ((Int.fmod t2 x_many), (x_box.1, (x_box.2 + (1 : Int))))) (ej_mod (ej_ty (ss := [_]) Dl.cl_int va_int (by rfl) m_int bt_int (aj_cons (ej_ix ix_list (v2_ixL rd_fz h_t2) (ej_ixP ix_list (v2_ixO (j := 0) rdo_o rfl rfl) (pj_var (i := 0) rfl (by first | exact Or.inl rfl | exact Or.inr (Or.inl rfl) | exact Or.inr (Or.inr rfl)) rfl) ej_int (fun _ _ => rfl)) (ej_var (i := 2) rfl (by first | exact Or.inl rfl | exact Or.inr (Or.inl rfl) | exact Or.inr (Or.inr rfl)) rfl) (fun _ _ => rfl)) aj_nil)) (ej_var (i := 1) rfl (by first | exact Or.inl rfl | exact Or.inr (Or.inl rfl) | exact Or.inr (Or.inr rfl)) rfl) (grd_iff h_g3).1) rfl rfl (show List.Nodup ([0] : List Nat) by decide) rfl
  intro h_b1
  replace h := ifF h_b1 h
  show SJ _ _ _ [some (oLst [(fz (tList tInt) x_box.1), (fz tInt (x_box.2 + (1 : Int)))]), some (fz tInt x_many), some (fz tInt x_box.2)] _
  obtain ⟨g4, h_g4, h⟩ := bnd h
  (simp only [Option.some.injEq, Prod.mk.injEq] at h; first | subst h | (obtain ⟨_, _⟩ := h; subst_vars))
  exact sj_ret (rs := rs_law_draw) (ls := ls_law_draw) (y := ((Int.fmod ((x_box.2 * (7 : Int)) + (3 : Int)) x_many), (x_box.1, (x_box.2 + (1 : Int))))) (ej_mod (ej_ty (ss := [_]) Dl.cl_int va_int (by rfl) m_int bt_int (aj_cons (ej_add (ej_mul (ej_var (i := 2) rfl (by first | exact Or.inl rfl | exact Or.inr (Or.inl rfl) | exact Or.inr (Or.inr rfl)) rfl) ej_int (.inr ⟨by decide, by decide⟩)) ej_int) aj_nil)) (ej_var (i := 1) rfl (by first | exact Or.inl rfl | exact Or.inr (Or.inl rfl) | exact Or.inr (Or.inr rfl)) rfl) (grd_iff h_g4).1) rfl rfl (show List.Nodup ([0] : List Nat) by decide) rfl

abbrev O_law_facts : Type := (List Str) × ((List Int) × Int)
def m_law_facts (x_box : ((List Int) × Int)) : Option O_law_facts := ((m_law_draw (x_box.1, x_box.2) (4 : Int)).bind fun t1 => (atI [[("f" : Str)], [("f" : Str), ("g" : Str)], [("f" : Str), ("g" : Str)], [("g" : Str), ("f" : Str), ("h" : Str)]] t1.1).bind fun t2 => some (t2, (t1.2.1, t1.2.2)))
def rs_law_facts : O_law_facts → Sh := fun o => (fz (tList tStr) o.1)
def ls_law_facts : O_law_facts → List Sh := fun o => [(oLst [(fz (tList tInt) o.2.1), (fz tInt o.2.2)])]
def P_law_facts : Phi := fun ss r L => ∃ (x_box : ((List Int) × Int)) (o : O_law_facts), m_law_facts x_box = some o ∧ ss = [(oLst [(fz (tList tInt) x_box.1), (fz tInt x_box.2)])] ∧ r = rs_law_facts o ∧ L = [(0, (oLst [(fz (tList tInt) o.2.1), (fz tInt o.2.2)]))]
theorem ok_law_facts (C_law_draw : CalG P w K mg base CX0 1 "_law_draw" ["box", "many"] (spS 2 P_law_draw)) {f0 : Addr} {fd : FuncData} (D : Fun K "_law_facts" "_law_facts" s_law_facts f0 fd) : FnG P w K mg base CX0 2 f0 fd ["box"] (spS 1 P_law_facts) := by
  refine Fun.okS D sc_law_facts rfl (by decide) fun X0 s H A outer cdv E ss r L vs hr hlen hP => ?_
  obtain ⟨x_box, o_, h, rfl, rfl, rfl⟩ := hP
  obtain ⟨v0, rfl⟩ : ∃ v0, vs = [v0] := by
    match vs, hlen with
    | [v0], _ => exact ⟨v0, rfl⟩
  refine ⟨_, rs_law_facts, ls_law_facts, o_, [(0, v0)], rfl, rfl, by intro p hp; simp only [List.mem_cons, List.not_mem_nil, or_false] at hp; subst hp; rfl, rfl, ?_⟩
  clear X0
  unfold m_law_facts at h
  show SJ _ _ _ [some (oLst [(fz (tList tInt) x_box.1), (fz tInt x_box.2)])] _
  obtain ⟨t1, h_t1, h⟩ := bnd h
  obtain ⟨t2, h_t2, h⟩ := bnd h
  (simp only [Option.some.injEq, Prod.mk.injEq] at h; first | subst h | (obtain ⟨_, _⟩ := h; subst_vars))
  exact sj_ret (rs := rs_law_facts) (ls := ls_law_facts) (y := (t2, (t1.2.1, t1.2.2))) (ej_ix ix_list (v2_ixL rd_fz h_t2) (ej_fz (ej_lst (ss := [(fz (tList tStr) [("f" : Str)]), (fz (tList tStr) [("f" : Str), ("g" : Str)]), (fz (tList tStr) [("f" : Str), ("g" : Str)]), (fz (tList tStr) [("g" : Str), ("f" : Str), ("h" : Str)])]) (aj_cons (ej_fz (ej_lst (ss := [(fz tStr ("f" : Str))]) (aj_cons ej_str aj_nil)) (fz_lm (τ := tStr) (xs := [("f" : Str)]))) (aj_cons (ej_fz (ej_lst (ss := [(fz tStr ("f" : Str)), (fz tStr ("g" : Str))]) (aj_cons ej_str (aj_cons ej_str aj_nil))) (fz_lm (τ := tStr) (xs := [("f" : Str), ("g" : Str)]))) (aj_cons (ej_fz (ej_lst (ss := [(fz tStr ("f" : Str)), (fz tStr ("g" : Str))]) (aj_cons ej_str (aj_cons ej_str aj_nil))) (fz_lm (τ := tStr) (xs := [("f" : Str), ("g" : Str)]))) (aj_cons (ej_fz (ej_lst (ss := [(fz tStr ("g" : Str)), (fz tStr ("f" : Str)), (fz tStr ("h" : Str))]) (aj_cons ej_str (aj_cons ej_str (aj_cons ej_str aj_nil)))) (fz_lm (τ := tStr) (xs := [("g" : Str), ("f" : Str), ("h" : Str)]))) aj_nil))))) (fz_lm (τ := (tList tStr)) (xs := [[("f" : Str)], [("f" : Str), ("g" : Str)], [("f" : Str), ("g" : Str)], [("g" : Str), ("f" : Str), ("h" : Str)]]))) (ej_call C_law_draw (hr.mono (by decide)) (by rfl) pass0 (aj_lend (i := 0) rfl (by first | exact Or.inl rfl | exact Or.inr (Or.inl rfl) | exact Or.inr (Or.inr rfl)) rfl (aj_cons ej_int aj_nil)) rfl ⟨(x_box.1, x_box.2), (4 : Int), t1, h_t1, rfl, rfl, rfl⟩) (fun _ _ => rfl)) rfl rfl (show List.Nodup ([0] : List Nat) by decide) rfl

abbrev O_Machine_init : Type := D_Machine
def m_Machine_init (x_facts : (List Str)) (x_step : (List (List (Str × Int)))) (x_gain : (List (List (Str × Int)))) (x_leave : (List Int)) : Option O_Machine_init := (((grd (Sm (x_step).length) ()).bind fun g2 => (mapC (fun (y1 : (List (Str × Int))) => (some (some y1))) x_step).bind fun t3 => ((grd (Sm (x_gain).length) ()).bind fun g5 => (mapC (fun (y4 : (List (Str × Int))) => (some (some y4))) x_gain).bind fun t6 => (some (D_Machine.mk x_facts t3 t6 x_leave)))))
def rs_Machine_init (C_Machine : Addr) : O_Machine_init → Sh := fun _ => fz tNon ()
def ls_Machine_init (C_Machine : Addr) : O_Machine_init → List Sh := fun o => [(oIns C_Machine ["facts", "step", "gain", "leave"] [(fz (tList tStr) o.facts), (fz (tList (tDic kStr tInt)) o.step), (fz (tList (tDic kStr tInt)) o.gain), (fz (tList tInt) o.leave)])]
def P_Machine_init (C_Machine : Addr) : Phi := fun ss r L => ∃ (x_facts : (List Str)) (x_step : (List (List (Str × Int)))) (x_gain : (List (List (Str × Int)))) (x_leave : (List Int)) (o : O_Machine_init), m_Machine_init x_facts x_step x_gain x_leave = some o ∧ ss = [(oIns C_Machine [] []), (fz (tList tStr) x_facts), (fz (tList (tDic kStr tInt)) x_step), (fz (tList (tDic kStr tInt)) x_gain), (fz (tList tInt) x_leave)] ∧ r = rs_Machine_init C_Machine o ∧ L = [(0, (oIns C_Machine ["facts", "step", "gain", "leave"] [(fz (tList tStr) o.facts), (fz (tList (tDic kStr tInt)) o.step), (fz (tList (tDic kStr tInt)) o.gain), (fz (tList tInt) o.leave)]))]
theorem ok_Machine_init {C_Machine : Addr} (m_list : mg "list" = none) (cl_Machine : Cls K C_Machine) (na_Machine_facts : NoAttr K C_Machine "facts") (m_dict : mg "dict" = none) (na_Machine_step : NoAttr K C_Machine "step") (na_Machine_gain : NoAttr K C_Machine "gain") (na_Machine_leave : NoAttr K C_Machine "leave") {f0 : Addr} {fd : FuncData} (D : Fun K "__init__" "Machine.__init__" s_Machine_init f0 fd) : FnG P w K mg base CX0 1 f0 fd ["self", "facts", "step", "gain", "leave"] (spS 5 (P_Machine_init C_Machine)) := by
  refine Fun.okS D sc_Machine_init rfl (by decide) fun X0 s H A outer cdv E ss r L vs hr hlen hP => ?_
  obtain ⟨x_facts, x_step, x_gain, x_leave, o_, h, rfl, rfl, rfl⟩ := hP
  obtain ⟨v0, v1, v2, v3, v4, rfl⟩ : ∃ v0 v1 v2 v3 v4, vs = [v0, v1, v2, v3, v4] := by
    match vs, hlen with
    | [v0, v1, v2, v3, v4], _ => exact ⟨v0, v1, v2, v3, v4, rfl⟩
  refine ⟨_, rs_Machine_init C_Machine, ls_Machine_init C_Machine, o_, [(0, v0)], rfl, rfl, by intro p hp; simp only [List.mem_cons, List.not_mem_nil, or_false] at hp; subst hp; rfl, rfl, ?_⟩
  clear X0
  unfold m_Machine_init at h
  show SJ _ _ _ [some (oIns C_Machine [] []), some (fz (tList tStr) x_facts), some (fz (tList (tDic kStr tInt)) x_step), some (fz (tList (tDic kStr tInt)) x_gain), some (fz (tList tInt) x_leave), none] _
  refine sj_fldnew (i := 0) (s := (fz (tList tStr) x_facts)) rfl (by first | exact Or.inl rfl | exact Or.inr (Or.inl rfl) | exact Or.inr (Or.inr rfl)) (ej_fz (ej_ty (ss := [_]) Dl.cl_list (va_listL rd_fz) (by rfl) m_list bt_list (aj_cons (ej_var (i := 1) rfl (by first | exact Or.inl rfl | exact Or.inr (Or.inl rfl) | exact Or.inr (Or.inr rfl)) rfl) aj_nil)) fz_oL) rfl cl_Machine na_Machine_facts (by decide) (by decide) ?_
  show SJ _ _ _ [some (oIns C_Machine ["facts"] [(fz (tList tStr) x_facts)]), some (fz (tList tStr) x_facts), some (fz (tList (tDic kStr tInt)) x_step), some (fz (tList (tDic kStr tInt)) x_gain), some (fz (tList tInt) x_leave), none] _
  obtain ⟨g2, h_g2, h⟩ := bnd h
  obtain ⟨t3, h_t3, h⟩ := bnd h
  refine sj_fldnew (i := 0) (s := (fz (tList (tDic kStr tInt)) t3)) rfl (by first | exact Or.inl rfl | exact Or.inr (Or.inl rfl) | exact Or.inr (Or.inr rfl)) (ej_fz (lcj_e (lcP (Γy := fun y1 => [some (oIns C_Machine ["facts"] [(fz (tList tStr) x_facts)]), some (fz (tList tStr) x_facts), some (fz (tList (tDic kStr tInt)) x_step), some (fz (tList (tDic kStr tInt)) x_gain), some (fz (tList tInt) x_leave), some (fz (tDic kStr tInt) y1)]) (own := [("row", 5)]) (fun _ _ _ _ _ y1 => (gj0_name (i := 5) sc_Machine_init.nd rfl (by first | exact Or.inl rfl | exact Or.inr rfl) (z_none rfl))) (fun _ _ _ _ _ y1 oz hm h => (by have h := h;  (simp only [Option.some.injEq, Prod.mk.injEq] at h; first | subst h | (obtain ⟨_, _⟩ := h; subst_vars)); exact ts_nil)) (fun _ _ _ _ _ y1 z hm h => (by have h := h;  (simp only [Option.some.injEq, Prod.mk.injEq] at h; first | subst h | (obtain ⟨_, _⟩ := h; subst_vars)); exact (ej_fz (ej_ty (ss := [_]) cl_dict (va_dict rdd_fz) (by rfl) m_dict bt_dict (aj_cons (ej_var (i := 5) rfl (by first | exact Or.inl rfl | exact Or.inr (Or.inl rfl) | exact Or.inr (Or.inr rfl)) rfl) aj_nil)) fz_oD))) h_t3 (grd_iff h_g2).1 rfl sc_Machine_init.nd (ij_lst (ej_var (i := 2) rfl (by first | exact Or.inl rfl | exact Or.inr (Or.inl rfl) | exact Or.inr (Or.inr rfl)) rfl)) (blkOk_by (own := [("row", 5)]) (N := n_Machine_init) (sc := defScope s_Machine_init) (by decide +kernel)) ⟨z_none rfl, trivial⟩)) fz_oL) rfl cl_Machine na_Machine_step (by decide) (by decide) ?_
  show SJ _ _ _ [some (oIns C_Machine ["facts", "step"] [(fz (tList tStr) x_facts), (fz (tList (tDic kStr tInt)) t3)]), some (fz (tList tStr) x_facts), some (fz (tList (tDic kStr tInt)) x_step), some (fz (tList (tDic kStr tInt)) x_gain), some (fz (tList tInt) x_leave), none] _
  obtain ⟨g5, h_g5, h⟩ := bnd h
  obtain ⟨t6, h_t6, h⟩ := bnd h
  refine sj_fldnew (i := 0) (s := (fz (tList (tDic kStr tInt)) t6)) rfl (by first | exact Or.inl rfl | exact Or.inr (Or.inl rfl) | exact Or.inr (Or.inr rfl)) (ej_fz (lcj_e (lcP (Γy := fun y4 => [some (oIns C_Machine ["facts", "step"] [(fz (tList tStr) x_facts), (fz (tList (tDic kStr tInt)) t3)]), some (fz (tList tStr) x_facts), some (fz (tList (tDic kStr tInt)) x_step), some (fz (tList (tDic kStr tInt)) x_gain), some (fz (tList tInt) x_leave), some (fz (tDic kStr tInt) y4)]) (own := [("row", 5)]) (fun _ _ _ _ _ y4 => (gj0_name (i := 5) sc_Machine_init.nd rfl (by first | exact Or.inl rfl | exact Or.inr rfl) (z_none rfl))) (fun _ _ _ _ _ y4 oz hm h => (by have h := h;  (simp only [Option.some.injEq, Prod.mk.injEq] at h; first | subst h | (obtain ⟨_, _⟩ := h; subst_vars)); exact ts_nil)) (fun _ _ _ _ _ y4 z hm h => (by have h := h;  (simp only [Option.some.injEq, Prod.mk.injEq] at h; first | subst h | (obtain ⟨_, _⟩ := h; subst_vars)); exact (ej_fz (ej_ty (ss := [_]) cl_dict (va_dict rdd_fz) (by rfl) m_dict bt_dict (aj_cons (ej_var (i := 5) rfl (by first | exact Or.inl rfl | exact Or.inr (Or.inl rfl) | exact Or.inr (Or.inr rfl)) rfl) aj_nil)) fz_oD))) h_t6 (grd_iff h_g5).1 rfl sc_Machine_init.nd (ij_lst (ej_var (i := 3) rfl (by first | exact Or.inl rfl | exact Or.inr (Or.inl rfl) | exact Or.inr (Or.inr rfl)) rfl)) (blkOk_by (own := [("row", 5)]) (N := n_Machine_init) (sc := defScope s_Machine_init) (by decide +kernel)) ⟨z_none rfl, trivial⟩)) fz_oL) rfl cl_Machine na_Machine_gain (by decide) (by decide) ?_
  show SJ _ _ _ [some (oIns C_Machine ["facts", "step", "gain"] [(fz (tList tStr) x_facts), (fz (tList (tDic kStr tInt)) t3), (fz (tList (tDic kStr tInt)) t6)]), some (fz (tList tStr) x_facts), some (fz (tList (tDic kStr tInt)) x_step), some (fz (tList (tDic kStr tInt)) x_gain), some (fz (tList tInt) x_leave), none] _
  refine sj_fldnew (i := 0) (s := (fz (tList tInt) x_leave)) rfl (by first | exact Or.inl rfl | exact Or.inr (Or.inl rfl) | exact Or.inr (Or.inr rfl)) (ej_fz (ej_ty (ss := [_]) Dl.cl_list (va_listL rd_fz) (by rfl) m_list bt_list (aj_cons (ej_var (i := 4) rfl (by first | exact Or.inl rfl | exact Or.inr (Or.inl rfl) | exact Or.inr (Or.inr rfl)) rfl) aj_nil)) fz_oL) rfl cl_Machine na_Machine_leave (by decide) (by decide) ?_
  show SJ _ _ _ [some (oIns C_Machine ["facts", "step", "gain", "leave"] [(fz (tList tStr) x_facts), (fz (tList (tDic kStr tInt)) t3), (fz (tList (tDic kStr tInt)) t6), (fz (tList tInt) x_leave)]), some (fz (tList tStr) x_facts), some (fz (tList (tDic kStr tInt)) x_step), some (fz (tList (tDic kStr tInt)) x_gain), some (fz (tList tInt) x_leave), none] _
  (simp only [Option.some.injEq, Prod.mk.injEq] at h; first | subst h | (obtain ⟨_, _⟩ := h; subst_vars))
  exact sj_fin (rs := rs_Machine_init C_Machine) (ls := ls_Machine_init C_Machine) (fun _ => ⟨rfl, rfl⟩) rfl (show List.Nodup ([0] : List Nat) by decide)

abbrev O_law_machine : Type := D_Machine × ((List Int) × Int)
def m_law_machine (x_box : ((List Int) × Int)) (x_facts : (List Str)) (x_most : Int) : Option O_law_machine := ((m_law_draw (x_box.1, x_box.2) x_most).bind fun t1 => (some ((1 : Int) + t1.1)).bind fun many_2 => ((((grd (-1000000000 ≤ many_2 ∧ many_2 ≤ 1000000000) ()).bind fun g3 => (foldO (S := ((List Int) × Int) × (List (List (Str × Int))) × (List (List (Str × Int)))) (fun (s4 : ((List Int) × Int) × (List (List (Str × Int))) × (List (List (Str × Int)))) (y5 : Int) => ((grd (Sm (x_facts).length) ()).bind fun g7 => (foldC (fun (s8 : ((List Int) × Int)) (y6 : Str) => ((m_law_draw (s8.1, s8.2) (900 : Int)).bind fun t9 => (grd (many_2 ≠ 0) ()).bind fun g10 => some (some (y6, (Int.fmod t9.1 many_2)), ((t9.2.1, t9.2.2))))) ((s4.1.1, s4.1.2)) x_facts).bind fun t11 => (grd (Sm (s4.2.1).length) ()).bind fun g13 => ((grd (Sm (x_facts).length) ()).bind fun g15 => (foldC (fun (s16 : ((List Int) × Int)) (y14 : Str) => ((m_law_draw (s16.1, s16.2) (7 : Int)).bind fun t17 => (atI [(0 : Int), (0 : Int), (1 : Int), (2 : Int), (-(1 : Int)), (-(2 : Int)), (3 : Int)] t17.1).bind fun t18 => some (some (y14, t18), ((t17.2.1, t17.2.2))))) ((t11.2.1, t11.2.2)) x_facts).bind fun t19 => (grd (Sm (s4.2.2).length) ()).bind fun g21 => some ((t19.2.1, t19.2.2), (s4.2.1 ++ [(ofPairs t11.1)]), (s4.2.2 ++ [(ofPairs t19.1)]))))) ((t1.2.1, t1.2.2), ([] : List (List (Str × Int))), ([] : List (List (Str × Int)))) (range1 many_2)).bind fun j22 => ((grd (-1000000000 ≤ many_2 ∧ many_2 ≤ 1000000000) ()).bind fun g24 => (grd (Sm ((range1 many_2)).length) ()).bind fun g26 => (foldC (fun (s27 : ((List Int) × Int)) (y25 : Int) => ((m_law_draw (s27.1, s27.2) (7 : Int)).bind fun t28 => some (some (t28.1 - (2 : Int)), ((t28.2.1, t28.2.2))))) ((j22.1.1, j22.1.2)) (range1 many_2)).bind fun t29 => (m_Machine_init x_facts j22.2.1 j22.2.2 t29.1).bind fun t31 => some ((D_Machine.mk t31.facts t31.step t31.gain t31.leave), (t29.2.1, t29.2.2)))))))
def rs_law_machine (C_Machine : Addr) : O_law_machine → Sh := fun o => (fz (t_Machine C_Machine) o.1)
def ls_law_machine (C_Machine : Addr) : O_law_machine → List Sh := fun o => [(oLst [(fz (tList tInt) o.2.1), (fz tInt o.2.2)])]
def P_law_machine (C_Machine : Addr) : Phi := fun ss r L => ∃ (x_box : ((List Int) × Int)) (x_facts : (List Str)) (x_most : Int) (o : O_law_machine), m_law_machine x_box x_facts x_most = some o ∧ ss = [(oLst [(fz (tList tInt) x_box.1), (fz tInt x_box.2)]), (fz (tList tStr) x_facts), (fz tInt x_most)] ∧ r = rs_law_machine C_Machine o ∧ L = [(0, (oLst [(fz (tList tInt) o.2.1), (fz tInt o.2.2)]))]
theorem ok_law_machine {C_Machine : Addr} (C_law_draw : CalG P w K mg base CX0 1 "_law_draw" ["box", "many"] (spS 2 P_law_draw)) (m_range : mg "range" = none) (m_int : mg "int" = none) (m_dict : mg "dict" = none) (M_Machine : Mkr P w K mg base 1 C_Machine "Machine" ["self", "facts", "step", "gain", "leave"] (spS 5 (P_Machine_init C_Machine))) {f0 : Addr} {fd : FuncData} (D : Fun K "_law_machine" "_law_machine" s_law_machine f0 fd) : FnG P w K mg base CX0 3 f0 fd ["box", "facts", "most"] (spS 3 (P_law_machine C_Machine)) := by
  refine Fun.okS D sc_law_machine rfl (by decide) fun X0 s H A outer cdv E ss r L vs hr hlen hP => ?_
  obtain ⟨x_box, x_facts, x_most, o_, h, rfl, rfl, rfl⟩ := hP
  obtain ⟨v0, v1, v2, rfl⟩ : ∃ v0 v1 v2, vs = [v0, v1, v2] := by
    match vs, hlen with
    | [v0, v1, v2], _ => exact ⟨v0, v1, v2, rfl⟩
  refine ⟨_, rs_law_machine C_Machine, ls_law_machine C_Machine, o_, [(0, v0)], rfl, rfl, by intro p hp; simp only [List.mem_cons, List.not_mem_nil, or_false] at hp; subst hp; rfl, rfl, ?_⟩
  clear X0
  unfold m_law_machine at h
  show SJ _ _ _ [some (oLst [(fz (tList tInt) x_box.1), (fz tInt x_box.2)]), some (fz (tList tStr) x_facts), some (fz tInt x_most), none, none, none, none, none] _
  obtain ⟨t1, h_t1, h⟩ := bnd h
  obtain ⟨many_2, h_many_2, h⟩ := bnd h
  have h_many_2 := Option.some.inj h_many_2
  refine sj_set (i := 3) (s := (fz tInt many_2)) sc_law_machine.nd rfl (by first | exact Or.inl rfl | exact Or.inr rfl) (ej_is h_many_2 (ej_add ej_int (ej_call C_law_draw (hr.mono (by decide)) (by rfl) pass0 (aj_lend (i := 0) rfl (by first | exact Or.inl rfl | exact Or.inr (Or.inl rfl) | exact Or.inr (Or.inr rfl)) rfl (aj_cons (ej_var (i := 2) rfl (by first | exact Or.inl rfl | exact Or.inr (Or.inl rfl) | exact Or.inr (Or.inr rfl)) rfl) aj_nil)) rfl ⟨(x_box.1, x_box.2), x_most, t1, h_t1, rfl, rfl, rfl⟩))) ?_
  show SJ _ _ _ [some (oLst [(fz (tList tInt) t1.2.1), (fz tInt t1.2.2)]), some (fz (tList tStr) x_facts), some (fz tInt x_most), some (fz tInt many_2), none, none, none, none] _
  refine sj_set (i := 4) (s := (oL (tDic kStr tInt) ([] : List (List (Str × Int))))) sc_law_machine.nd rfl (by first | exact Or.inl rfl | exact Or.inr rfl) (ej_oL (τ := (tDic kStr tInt)) (xs := ([] : List (List (Str × Int)))) (ej_lst (ss := []) aj_nil)) ?_
  show SJ _ _ _ [some (oLst [(fz (tList tInt) t1.2.1), (fz tInt t1.2.2)]), some (fz (tList tStr) x_facts), some (fz tInt x_most), some (fz tInt many_2), some (oL (tDic kStr tInt) ([] : List (List (Str × Int)))), none, none, none] _
  refine sj_set (i := 5) (s := (oL (tDic kStr tInt) ([] : List (List (Str × Int))))) sc_law_machine.nd rfl (by first | exact Or.inl rfl | exact Or.inr rfl) (ej_oL (τ := (tDic kStr tInt)) (xs := ([] : List (List (Str × Int)))) (ej_lst (ss := []) aj_nil)) ?_
  show SJ _ _ _ [some (oLst [(fz (tList tInt) t1.2.1), (fz tInt t1.2.2)]), some (fz (tList tStr) x_facts), some (fz tInt x_most), some (fz tInt many_2), some (oL (tDic kStr tInt) ([] : List (List (Str × Int)))), some (oL (tDic kStr tInt) ([] : List (List (Str × Int)))), none, none] _
  obtain ⟨g3, h_g3, h⟩ := bnd h
  obtain ⟨j22, h_j22, h⟩ := bnd h
  refine sj_for (sh := fz tInt) (Γs := fun (s4 : ((List Int) × Int) × (List (List (Str × Int))) × (List (List (Str × Int)))) => [some (oLst [(fz (tList tInt) s4.1.1), (fz tInt s4.1.2)]), some (fz (tList tStr) x_facts), some (fz tInt x_most), some (fz tInt many_2), some (oL (tDic kStr tInt) s4.2.1), some (oL (tDic kStr tInt) s4.2.2), none, none]) (Γy := fun (s4 : ((List Int) × Int) × (List (List (Str × Int))) × (List (List (Str × Int)))) y5 => [some (oLst [(fz (tList tInt) s4.1.1), (fz tInt s4.1.2)]), some (fz (tList tStr) x_facts), some (fz tInt x_most), some (fz tInt many_2), some (oL (tDic kStr tInt) s4.2.1), some (oL (tDic kStr tInt) s4.2.2), some (fz tInt y5), none]) (fl := [true, true, true, true, true, true, true, true]) (rs_law_machine C_Machine) (ls_law_machine C_Machine) h_j22 (ij_rg1 (by rfl) m_range (aj_cons (ej_var (i := 3) rfl (by first | exact Or.inl rfl | exact Or.inr (Or.inl rfl) | exact Or.inr (Or.inr rfl)) rfl) aj_nil) (grd_iff h_g3).1) rfl rfl (fun s4 y5 => (gj_name (i := 6) sc_law_machine.nd rfl (by first | exact Or.inl rfl | exact Or.inr rfl))) ?_ ?_ PassesOwn.never rfl
  · intro s4 y5 o_ h_hy23 h
    clear h_j22; have h := h
    show SJ _ _ _ [some (oLst [(fz (tList tInt) s4.1.1), (fz tInt s4.1.2)]), some (fz (tList tStr) x_facts), some (fz tInt x_most), some (fz tInt many_2), some (oL (tDic kStr tInt) s4.2.1), some (oL (tDic kStr tInt) s4.2.2), some (fz tInt y5), none] _
    obtain ⟨g7, h_g7, h⟩ := bnd h
    obtain ⟨t11, h_t11, h⟩ := bnd h
    obtain ⟨g13, h_g13, h⟩ := bnd h
    refine sj_expr (ej_app (i := 4) rfl (by first | exact Or.inl rfl | exact Or.inr (Or.inl rfl) | exact Or.inr (Or.inr rfl)) rfl (aj_cons (ej_fz (ej_ty (ss := [_]) (cl_dictP rfl) (va_dictP (kd := fStr) (τk := tStr) rd_fz) (by rfl) m_dict bt_dict (aj_cons (ej_fz (lcj_e (lcS (Γs := fun (s8 : ((List Int) × Int)) => [some (oLst [(fz (tList tInt) s8.1), (fz tInt s8.2)]), some (fz (tList tStr) x_facts), some (fz tInt x_most), some (fz tInt many_2), some (oL (tDic kStr tInt) s4.2.1), some (oL (tDic kStr tInt) s4.2.2), some (fz tInt y5), none]) (Γy := fun s8 y6 => [some (oLst [(fz (tList tInt) s8.1), (fz tInt s8.2)]), some (fz (tList tStr) x_facts), some (fz tInt x_most), some (fz tInt many_2), some (oL (tDic kStr tInt) s4.2.1), some (oL (tDic kStr tInt) s4.2.2), some (fz tInt y5), some (fz tStr y6)]) (me := (fun s8 y6 s12 => some [some (oLst [(fz (tList tInt) s12.1), (fz tInt s12.2)]), some (fz (tList tStr) x_facts), some (fz tInt x_most), some (fz tInt many_2), some (oL (tDic kStr tInt) s4.2.1), some (oL (tDic kStr tInt) s4.2.2), some (fz tInt y5), some (fz tStr y6)])) (own := [("fact", 7)]) (fl0 := [true, true, true, true, true, true, true, true]) (fl := [true, true, true, true, true, true, true, false]) (fun _ _ _ _ _ s8 y6 => (gj0_name (i := 7) sc_law_machine.nd rfl (by first | exact Or.inl rfl | exact Or.inr rfl) (z_none rfl))) (fun _ _ _ _ _ s8 y6 oz w hm h => (by have h := h; obtain ⟨t9, h_t9, h⟩ := bnd h; obtain ⟨g10, h_g10, h⟩ := bnd h;  (simp only [Option.some.injEq, Prod.mk.injEq] at h; first | subst h | (obtain ⟨_, _⟩ := h; subst_vars)); exact ts_nil)) (fun _ _ _ _ _ s8 y6 z w hm h => (by have h := h; obtain ⟨t9, h_t9, h⟩ := bnd h; obtain ⟨g10, h_g10, h⟩ := bnd h;  (simp only [Option.some.injEq, Prod.mk.injEq] at h; first | subst h | (obtain ⟨_, _⟩ := h; subst_vars)); exact ej_m (ej_tup2 (aj_cons (ej_var (i := 7) rfl (by first | exact Or.inl rfl | exact Or.inr (Or.inl rfl) | exact Or.inr (Or.inr rfl)) rfl) (aj_cons (ej_mod (ej_ty (ss := [_]) Dl.cl_int va_int (by rfl) m_int bt_int (aj_cons (ej_call C_law_draw (hr.mono (by decide)) (by rfl) pass0 (aj_lend (i := 0) rfl (by first | exact Or.inl rfl | exact Or.inr (Or.inl rfl) | exact Or.inr (Or.inr rfl)) rfl (aj_cons ej_int aj_nil)) rfl ⟨(s8.1, s8.2), (900 : Int), t9, h_t9, rfl, rfl, rfl⟩) aj_nil)) (ej_var (i := 3) rfl (by first | exact Or.inl rfl | exact Or.inr (Or.inl rfl) | exact Or.inr (Or.inr rfl)) rfl) (grd_iff h_g10).1) aj_nil))) rfl)) h_t11 (grd_iff h_g7).1 rfl sc_law_machine.nd (ij_lst (ej_var (i := 1) rfl (by first | exact Or.inl rfl | exact Or.inr (Or.inl rfl) | exact Or.inr (Or.inr rfl)) rfl)) (blkOk_by (own := [("fact", 7)]) (N := n_law_machine) (sc := defScope s_law_machine) (by decide +kernel)) rfl rfl (by intro s8 v hv; simp only [List.map_cons, List.map_nil, List.mem_cons, List.not_mem_nil, or_false] at hv; subst hv; exact .inl rfl) (fun _ _ _ => rfl) (fun _ _ _ => rfl) (fun _ _ => rfl) (fun _ _ => rfl) (by intro s8 y6 w h; have h := h; obtain ⟨t9, h_t9, h⟩ := bnd h; obtain ⟨g10, h_g10, h⟩ := bnd h;  cases h))) fz_oL) aj_nil)) fz_oD) aj_nil) rfl (grd_iff h_g13).1) ?_
    show SJ _ _ _ [some (oLst [(fz (tList tInt) t11.2.1), (fz tInt t11.2.2)]), some (fz (tList tStr) x_facts), some (fz tInt x_most), some (fz tInt many_2), some (oL (tDic kStr tInt) (s4.2.1 ++ [(ofPairs t11.1)])), some (oL (tDic kStr tInt) s4.2.2), some (fz tInt y5), none] _
    obtain ⟨g15, h_g15, h⟩ := bnd h
    obtain ⟨t19, h_t19, h⟩ := bnd h
    obtain ⟨g21, h_g21, h⟩ := bnd h
    refine sj_expr (ej_app (i := 5) rfl (by first | exact Or.inl rfl | exact Or.inr (Or.inl rfl) | exact Or.inr (Or.inr rfl)) rfl (aj_cons (ej_fz (ej_ty (ss := [_]) (cl_dictP rfl) (va_dictP (kd := fStr) (τk := tStr) rd_fz) (by rfl) m_dict bt_dict (aj_cons (ej_fz (lcj_e (lcS (Γs := fun (s16 : ((List Int) × Int)) => [some (oLst [(fz (tList tInt) s16.1), (fz tInt s16.2)]), some (fz (tList tStr) x_facts), some (fz tInt x_most), some (fz tInt many_2), some (oL (tDic kStr tInt) (s4.2.1 ++ [(ofPairs t11.1)])), some (oL (tDic kStr tInt) s4.2.2), some (fz tInt y5), none]) (Γy := fun s16 y14 => [some (oLst [(fz (tList tInt) s16.1), (fz tInt s16.2)]), some (fz (tList tStr) x_facts), some (fz tInt x_most), some (fz tInt many_2), some (oL (tDic kStr tInt) (s4.2.1 ++ [(ofPairs t11.1)])), some (oL (tDic kStr tInt) s4.2.2), some (fz tInt y5), some (fz tStr y14)]) (me := (fun s16 y14 s20 => some [some (oLst [(fz (tList tInt) s20.1), (fz tInt s20.2)]), some (fz (tList tStr) x_facts), some (fz tInt x_most), some (fz tInt many_2), some (oL (tDic kStr tInt) (s4.2.1 ++ [(ofPairs t11.1)])), some (oL (tDic kStr tInt) s4.2.2), some (fz tInt y5), some (fz tStr y14)])) (own := [("fact", 7)]) (fl0 := [true, true, true, true, true, true, true, true]) (fl := [true, true, true, true, true, true, true, false]) (fun _ _ _ _ _ s16 y14 => (gj0_name (i := 7) sc_law_machine.nd rfl (by first | exact Or.inl rfl | exact Or.inr rfl) (z_none rfl))) (fun _ _ _ _ _ s16 y14 oz w hm h => (by have h := h; obtain ⟨t17, h_t17, h⟩ := bnd h; obtain ⟨t18, h_t18, h⟩ := bnd h;  (simp only [Option.some.injEq, Prod.mk.injEq] at h; first | subst h | (obtain ⟨_, _⟩ := h; subst_vars)); exact ts_nil)) (fun _ _ _ _ _ s16 y14 z w hm h => (by have h := h; obtain ⟨t17, h_t17, h⟩ := bnd h; obtain ⟨t18, h_t18, h⟩ := bnd h;  (simp only [Option.some.injEq, Prod.mk.injEq] at h; first | subst h | (obtain ⟨_, _⟩ := h; subst_vars)); exact ej_m (ej_tup2 (aj_cons (ej_var (i := 7) rfl (by first | exact Or.inl rfl | exact Or.inr (Or.inl rfl) | exact Or.inr (Or.inr rfl)) rfl) (aj_cons (ej_ix ix_list (v2_ixL rd_fz h_t18) (ej_fz (ej_lst (ss := [(fz tInt (0 : Int)), (fz tInt (0 : Int)), (fz tInt (1 : Int)), (fz tInt (2 : Int)), (fz tInt (-(1 : Int))), (fz tInt (-(2 : Int))), (fz tInt (3 : Int))]) (aj_cons ej_int (aj_cons ej_int (aj_cons ej_int (aj_cons ej_int (aj_cons (ej_neg ej_int) (aj_cons (ej_neg ej_int) (aj_cons ej_int aj_nil)))))))) (fz_lm (τ := tInt) (xs := [(0 : Int), (0 : Int), (1 : Int), (2 : Int), (-(1 : Int)), (-(2 : Int)), (3 : Int)]))) (ej_call C_law_draw (hr.mono (by decide)) (by rfl) pass0 (aj_lend (i := 0) rfl (by first | exact Or.inl rfl | exact Or.inr (Or.inl rfl) | exact Or.inr (Or.inr rfl)) rfl (aj_cons ej_int aj_nil)) rfl ⟨(s16.1, s16.2), (7 : Int), t17, h_t17, rfl, rfl, rfl⟩) (fun _ _ => rfl)) aj_nil))) rfl)) h_t19 (grd_iff h_g15).1 rfl sc_law_machine.nd (ij_lst (ej_var (i := 1) rfl (by first | exact Or.inl rfl | exact Or.inr (Or.inl rfl) | exact Or.inr (Or.inr rfl)) rfl)) (blkOk_by (own := [("fact", 7)]) (N := n_law_machine) (sc := defScope s_law_machine) (by decide +kernel)) rfl rfl (by intro s16 v hv; simp only [List.map_cons, List.map_nil, List.mem_cons, List.not_mem_nil, or_false] at hv; subst hv; exact .inl rfl) (fun _ _ _ => rfl) (fun _ _ _ => rfl) (fun _ _ => rfl) (fun _ _ => rfl) (by intro s16 y14 w h; have h := h; obtain ⟨t17, h_t17, h⟩ := bnd h; obtain ⟨t18, h_t18, h⟩ := bnd h;  cases h))) fz_oL) aj_nil)) fz_oD) aj_nil) rfl (grd_iff h_g21).1) ?_
    show SJ _ _ _ [some (oLst [(fz (tList tInt) t19.2.1), (fz tInt t19.2.2)]), some (fz (tList tStr) x_facts), some (fz tInt x_most), some (fz tInt many_2), some (oL (tDic kStr tInt) (s4.2.1 ++ [(ofPairs t11.1)])), some (oL (tDic kStr tInt) (s4.2.2 ++ [(ofPairs t19.1)])), some (fz tInt y5), none] _
    (simp only [Option.some.injEq, Prod.mk.injEq] at h; first | subst h | (obtain ⟨_, _⟩ := h; subst_vars))
    exact sj_end (fl := [true, true, true, true, true, true, false, true]) rfl rfl
  show SJ _ _ _ [some (oLst [(fz (tList tInt) j22.1.1), (fz tInt j22.1.2)]), some (fz (tList tStr) x_facts), some (fz tInt x_most), some (fz tInt many_2), some (oL (tDic kStr tInt) j22.2.1), some (oL (tDic kStr tInt) j22.2.2), none, none] _
  obtain ⟨g24, h_g24, h⟩ := bnd h
  obtain ⟨g26, h_g26, h⟩ := bnd h
  obtain ⟨t29, h_t29, h⟩ := bnd h
  obtain ⟨t31, h_t31, h⟩ := bnd h
  (simp only [Option.some.injEq, Prod.mk.injEq] at h; first | subst h | (obtain ⟨_, _⟩ := h; subst_vars))
  exact sj_ret (rs := rs_law_machine C_Machine) (ls := ls_law_machine C_Machine) (y := ((D_Machine.mk t31.facts t31.step t31.gain t31.leave), (t29.2.1, t29.2.2))) (ej_fz (ej_mk (ss := [_, _, _, _]) M_Machine (hr.mono (by decide)) (by rfl) pass0 (aj_cons (ej_var (i := 1) rfl (by first | exact Or.inl rfl | exact Or.inr (Or.inl rfl) | exact Or.inr (Or.inr rfl)) rfl) (aj_cons (ej_fz (ej_mov (i := 4) rfl (by first | exact Or.inl rfl | exact Or.inr (Or.inl rfl) | exact Or.inr (Or.inr rfl)) rfl) fz_oL) (aj_cons (ej_fz (ej_mov (i := 5) rfl (by first | exact Or.inl rfl | exact Or.inr (Or.inl rfl) | exact Or.inr (Or.inr rfl)) rfl) fz_oL) (aj_cons (ej_fz (lcj_e (lcS (Γs := fun (s27 : ((List Int) × Int)) => [some (oLst [(fz (tList tInt) s27.1), (fz tInt s27.2)]), some (fz (tList tStr) x_facts), some (fz tInt x_most), some (fz tInt many_2), none, none, none, none]) (Γy := fun s27 y25 => [some (oLst [(fz (tList tInt) s27.1), (fz tInt s27.2)]), some (fz (tList tStr) x_facts), some (fz tInt x_most), some (fz tInt many_2), none, none, some (fz tInt y25), none]) (me := (fun s27 y25 s30 => some [some (oLst [(fz (tList tInt) s30.1), (fz tInt s30.2)]), some (fz (tList tStr) x_facts), some (fz tInt x_most), some (fz tInt many_2), none, none, some (fz tInt y25), none])) (own := [("state", 6)]) (fl0 := [true, true, true, true, true, true, true, true]) (fl := [true, true, true, true, true, true, false, true]) (fun _ _ _ _ _ s27 y25 => (gj0_name (i := 6) sc_law_machine.nd rfl (by first | exact Or.inl rfl | exact Or.inr rfl) (z_none rfl))) (fun _ _ _ _ _ s27 y25 oz w hm h => (by have h := h; obtain ⟨t28, h_t28, h⟩ := bnd h;  (simp only [Option.some.injEq, Prod.mk.injEq] at h; first | subst h | (obtain ⟨_, _⟩ := h; subst_vars)); exact ts_nil)) (fun _ _ _ _ _ s27 y25 z w hm h => (by have h := h; obtain ⟨t28, h_t28, h⟩ := bnd h;  (simp only [Option.some.injEq, Prod.mk.injEq] at h; first | subst h | (obtain ⟨_, _⟩ := h; subst_vars)); exact ej_m (ej_sub (ej_call C_law_draw (hr.mono (by decide)) (by rfl) pass0 (aj_lend (i := 0) rfl (by first | exact Or.inl rfl | exact Or.inr (Or.inl rfl) | exact Or.inr (Or.inr rfl)) rfl (aj_cons ej_int aj_nil)) rfl ⟨(s27.1, s27.2), (7 : Int), t28, h_t28, rfl, rfl, rfl⟩) ej_int) rfl)) h_t29 (grd_iff h_g26).1 rfl sc_law_machine.nd (ij_rg1 (by rfl) m_range (aj_cons (ej_var (i := 3) rfl (by first | exact Or.inl rfl | exact Or.inr (Or.inl rfl) | exact Or.inr (Or.inr rfl)) rfl) aj_nil) (grd_iff h_g24).1) (blkOk_by (own := [("state", 6)]) (N := n_law_machine) (sc := defScope s_law_machine) (by decide +kernel)) rfl rfl (by intro s27 v hv; simp only [List.map_cons, List.map_nil, List.mem_cons, List.not_mem_nil, or_false] at hv; subst hv; exact .inl rfl) (fun _ _ _ => rfl) (fun _ _ _ => rfl) (fun _ _ => rfl) (fun _ _ => rfl) (by intro s27 y25 w h; have h := h; obtain ⟨t28, h_t28, h⟩ := bnd h;  cases h))) fz_oL) aj_nil)))) ⟨x_facts, j22.2.1, j22.2.2, t29.1, t31, h_t31, rfl, rfl, rfl⟩) (fz_ins (sh := sh_Machine) (y := (D_Machine.mk t31.facts t31.step t31.gain t31.leave)) ⟨fz_fz, fz_fz, fz_fz, fz_fz, trivial⟩)) rfl rfl (show List.Nodup ([0] : List Nat) by decide) rfl

abbrev O_law_twin : Type := D_Machine × ((List Int) × Int)
def m_law_twin (x_box : ((List Int) × Int)) (x_machine : D_Machine) : Option O_law_twin := ((some ((x_machine.leave).length : Int)).bind fun many_1 => ((grd (-1000000000 ≤ (1 : Int) ∧ (1 : Int) ≤ 1000000000 ∧ -1000000000 ≤ ((2 : Int) * many_1) ∧ ((2 : Int) * many_1) ≤ 1000000000) ()).bind fun g2 => (grd (Sm ((range2 (1 : Int) ((2 : Int) * many_1))).length) ()).bind fun g4 => (foldC (fun (s5 : ((List Int) × Int)) (y3 : Int) => ((m_law_draw (s5.1, s5.2) (5 : Int)).bind fun t6 => some (some (t6.1 - (2 : Int)), ((t6.2.1, t6.2.2))))) ((x_box.1, x_box.2)) (range2 (1 : Int) ((2 : Int) * many_1))).bind fun t7 => (grd (Sm (([(0 : Int)]).length + (t7.1).length)) ()).bind fun g9 => (some ([(0 : Int)] ++ t7.1)).bind fun shift_10 => ((((grd (-1000000000 ≤ ((2 : Int) * many_1) ∧ ((2 : Int) * many_1) ≤ 1000000000) ()).bind fun g11 => (foldO (S := ((List Int) × Int) × (List (List (Str × Int))) × (List (List (Str × Int)))) (fun (s12 : ((List Int) × Int) × (List (List (Str × Int))) × (List (List (Str × Int)))) (y13 : Int) => ((grd (many_1 ≠ 0) ()).bind fun g14 => (some (Int.fmod y13 many_1)).bind fun state_15 => ((((foldO (S := ((List Int) × Int) × (List (Str × Int)) × (List (Str × Int))) (fun (s16 : ((List Int) × Int) × (List (Str × Int)) × (List (Str × Int))) (y17 : Str) => ((atI x_machine.step state_15).bind fun t18 => (aget t18 y17).bind fun t19 => (m_law_draw (s16.1.1, s16.1.2) (2 : Int)).bind fun t20 => (grd (CMul many_1 t20.1) ()).bind fun g21 => (some (t19 + (many_1 * t20.1))).bind fun after_22 => ((grd (Sm (s16.2.1).length) ()).bind fun g23 => ((atI x_machine.gain state_15).bind fun t24 => (aget t24 y17).bind fun t25 => (atI shift_10 after_22).bind fun t26 => (atI shift_10 y13).bind fun t27 => (grd (Sm (s16.2.2).length) ()).bind fun g28 => some ((t20.2.1, t20.2.2), (aput s16.2.1 y17 after_22), (aput s16.2.2 y17 ((t25 + t26) - t27))))))) ((s12.1.1, s12.1.2), ([] : (List (Str × Int))), ([] : (List (Str × Int)))) x_machine.facts).bind fun j29 => ((grd (Sm (s12.2.1).length) ()).bind fun g31 => ((grd (Sm (s12.2.2).length) ()).bind fun g32 => some ((j29.1.1, j29.1.2), (s12.2.1 ++ [j29.2.1]), (s12.2.2 ++ [j29.2.2]))))))))) ((t7.2.1, t7.2.2), ([] : List (List (Str × Int))), ([] : List (List (Str × Int)))) (range1 ((2 : Int) * many_1))).bind fun j33 => ((grd (-1000000000 ≤ ((2 : Int) * many_1) ∧ ((2 : Int) * many_1) ≤ 1000000000) ()).bind fun g35 => (grd (Sm ((range1 ((2 : Int) * many_1))).length) ()).bind fun g37 => (mapC (fun (y36 : Int) => ((grd (many_1 ≠ 0) ()).bind fun g38 => (atI x_machine.leave (Int.fmod y36 many_1)).bind fun t39 => (atI shift_10 y36).bind fun t40 => some (some (t39 - t40)))) (range1 ((2 : Int) * many_1))).bind fun t41 => ((m_Machine_init x_machine.facts j33.2.1 j33.2.2 t41).bind fun t42 => some ((D_Machine.mk t42.facts t42.step t42.gain t42.leave), (j33.1.1, j33.1.2)))))))))
def rs_law_twin (C_Machine : Addr) : O_law_twin → Sh := fun o => (fz (t_Machine C_Machine) o.1)
def ls_law_twin (C_Machine : Addr) : O_law_twin → List Sh := fun o => [(oLst [(fz (tList tInt) o.2.1), (fz tInt o.2.2)])]
def P_law_twin (C_Machine : Addr) : Phi := fun ss r L => ∃ (x_box : ((List Int) × Int)) (x_machine : D_Machine) (o : O_law_twin), m_law_twin x_box x_machine = some o ∧ ss = [(oLst [(fz (tList tInt) x_box.1), (fz tInt x_box.2)]), (fz (t_Machine C_Machine) x_machine)] ∧ r = rs_law_twin C_Machine o ∧ L = [(0, (oLst [(fz (tList tInt) o.2.1), (fz tInt o.2.2)]))]
theorem ok_law_twin {C_Machine : Addr} (cl_Machine : Cls K C_Machine) (na_Machine_leave : NoAttr K C_Machine "leave") (m_len : mg "len" = none) (m_range : mg "range" = none) (C_law_draw : CalG P w K mg base CX0 1 "_law_draw" ["box", "many"] (spS 2 P_law_draw)) (m_int : mg "int" = none) (na_Machine_facts : NoAttr K C_Machine "facts") (na_Machine_step : NoAttr K C_Machine "step") (na_Machine_gain : NoAttr K C_Machine "gain") (m_list : mg "list" = none) (M_Machine : Mkr P w K mg base 1 C_Machine "Machine" ["self", "facts", "step", "gain", "leave"] (spS 5 (P_Machine_init C_Machine))) {f0 : Addr} {fd : FuncData} (D : Fun K "_law_twin" "_law_twin" s_law_twin f0 fd) : FnG P w K mg base CX0 3 f0 fd ["box", "machine"] (spS 2 (P_law_twin C_Machine)) := by
  refine Fun.okS D sc_law_twin rfl (by decide) fun X0 s H A outer cdv E ss r L vs hr hlen hP => ?_
  obtain ⟨x_box, x_machine, o_, h, rfl, rfl, rfl⟩ := hP
  obtain ⟨v0, v1, rfl⟩ : ∃ v0 v1, vs = [v0, v1] := by
    match vs, hlen with
    | [v0, v1], _ => exact ⟨v0, v1, rfl⟩
  refine ⟨_, rs_law_twin C_Machine, ls_law_twin C_Machine, o_, [(0, v0)], rfl, rfl, by intro p hp; simp only [List.mem_cons, List.not_mem_nil, or_false] at hp; subst hp; rfl, rfl, ?_⟩
  clear X0
  unfold m_law_twin at h
  show SJ _ _ _ [some (oLst [(fz (tList tInt) x_box.1), (fz tInt x_box.2)]), some (fz (t_Machine C_Machine) x_machine), none, none, none, none, none, none, none, none, none, none, none, none] _
  obtain ⟨many_1, h_many_1, h⟩ := bnd h
  have h_many_1 := Option.some.inj h_many_1
  refine sj_set (i := 2) (s := (fz tInt many_1)) sc_law_twin.nd rfl (by first | exact Or.inl rfl | exact Or.inr rfl) (ej_is h_many_1 (ej_b (ss := [_]) Dl.cl_len (va_len rd_fz) (by rfl) m_len bt_len (aj_cons (ej_fld (j := 3) (ej_var (i := 1) rfl (by first | exact Or.inl rfl | exact Or.inr (Or.inl rfl) | exact Or.inr (Or.inr rfl)) rfl) cl_Machine na_Machine_leave rfl rfl) aj_nil))) ?_
  show SJ _ _ _ [some (oLst [(fz (tList tInt) x_box.1), (fz tInt x_box.2)]), some (fz (t_Machine C_Machine) x_machine), some (fz tInt many_1), none, none, none, none, none, none, none, none, none, none, none] _
  obtain ⟨g2, h_g2, h⟩ := bnd h
  obtain ⟨g4, h_g4, h⟩ := bnd h
  obtain ⟨t7, h_t7, h⟩ := bnd h
  obtain ⟨g9, h_g9, h⟩ := bnd h
  obtain ⟨shift_10, h_shift_10, h⟩ := bnd h
  have h_shift_10 := Option.some.inj h_shift_10
  refine sj_set (i := 3) (s := (fz (tList tInt) shift_10)) sc_law_twin.nd rfl (by first | exact Or.inl rfl | exact Or.inr rfl) (ej_is h_shift_10 (ej_fz (ej_cat (ej_fz (ej_lst (ss := [(fz tInt (0 : Int))]) (aj_cons ej_int aj_nil)) (fz_lm (τ := tInt) (xs := [(0 : Int)]))) (ej_fz (lcj_e (lcS (Γs := fun (s5 : ((List Int) × Int)) => [some (oLst [(fz (tList tInt) s5.1), (fz tInt s5.2)]), some (fz (t_Machine C_Machine) x_machine), some (fz tInt many_1), none, none, none, none, none, none, none, none, none, none, none]) (Γy := fun s5 y3 => [some (oLst [(fz (tList tInt) s5.1), (fz tInt s5.2)]), some (fz (t_Machine C_Machine) x_machine), some (fz tInt many_1), none, none, none, none, none, some (fz tInt y3), none, none, none, none, none]) (me := (fun s5 y3 s8 => some [some (oLst [(fz (tList tInt) s8.1), (fz tInt s8.2)]), some (fz (t_Machine C_Machine) x_machine), some (fz tInt many_1), none, none, none, none, none, some (fz tInt y3), none, none, none, none, none])) (own := [("state", 8)]) (fl0 := [true, true, true, true, true, true, true, true, true, true, true, true, true, true]) (fl := [true, true, true, true, true, true, true, true, false, true, true, true, true, true]) (fun _ _ _ _ _ s5 y3 => (gj0_name (i := 8) sc_law_twin.nd rfl (by first | exact Or.inl rfl | exact Or.inr rfl) (z_none rfl))) (fun _ _ _ _ _ s5 y3 oz w hm h => (by have h := h; obtain ⟨t6, h_t6, h⟩ := bnd h;  (simp only [Option.some.injEq, Prod.mk.injEq] at h; first | subst h | (obtain ⟨_, _⟩ := h; subst_vars)); exact ts_nil)) (fun _ _ _ _ _ s5 y3 z w hm h => (by have h := h; obtain ⟨t6, h_t6, h⟩ := bnd h;  (simp only [Option.some.injEq, Prod.mk.injEq] at h; first | subst h | (obtain ⟨_, _⟩ := h; subst_vars)); exact ej_m (ej_sub (ej_call C_law_draw (hr.mono (by decide)) (by rfl) pass0 (aj_lend (i := 0) rfl (by first | exact Or.inl rfl | exact Or.inr (Or.inl rfl) | exact Or.inr (Or.inr rfl)) rfl (aj_cons ej_int aj_nil)) rfl ⟨(s5.1, s5.2), (5 : Int), t6, h_t6, rfl, rfl, rfl⟩) ej_int) rfl)) h_t7 (grd_iff h_g4).1 rfl sc_law_twin.nd (ij_rg2 (by rfl) m_range (aj_cons ej_int (aj_cons (ej_mul ej_int (ej_var (i := 2) rfl (by first | exact Or.inl rfl | exact Or.inr (Or.inl rfl) | exact Or.inr (Or.inr rfl)) rfl) (.inl ⟨by decide, by decide⟩)) aj_nil)) (grd_iff h_g2).1) (blkOk_by (own := [("state", 8)]) (N := n_law_twin) (sc := defScope s_law_twin) (by decide +kernel)) rfl rfl (by intro s5 v hv; simp only [List.map_cons, List.map_nil, List.mem_cons, List.not_mem_nil, or_false] at hv; subst hv; exact .inl rfl) (fun _ _ _ => rfl) (fun _ _ _ => rfl) (fun _ _ => rfl) (fun _ _ => rfl) (by intro s5 y3 w h; have h := h; obtain ⟨t6, h_t6, h⟩ := bnd h;  cases h))) fz_oL) (grd_iff h_g9).1) fz_oL)) ?_
  show SJ _ _ _ [some (oLst [(fz (tList tInt) t7.2.1), (fz tInt t7.2.2)]), some (fz (t_Machine C_Machine) x_machine), some (fz tInt many_1), some (fz (tList tInt) shift_10), none, none, none, none, none, none, none, none, none, none] _
  refine sj_set (i := 4) (s := (oL (tDic kStr tInt) ([] : List (List (Str × Int))))) sc_law_twin.nd rfl (by first | exact Or.inl rfl | exact Or.inr rfl) (ej_oL (τ := (tDic kStr tInt)) (xs := ([] : List (List (Str × Int)))) (ej_lst (ss := []) aj_nil)) ?_
  show SJ _ _ _ [some (oLst [(fz (tList tInt) t7.2.1), (fz tInt t7.2.2)]), some (fz (t_Machine C_Machine) x_machine), some (fz tInt many_1), some (fz (tList tInt) shift_10), some (oL (tDic kStr tInt) ([] : List (List (Str × Int)))), none, none, none, none, none, none, none, none, none] _
  refine sj_set (i := 5) (s := (oL (tDic kStr tInt) ([] : List (List (Str × Int))))) sc_law_twin.nd rfl (by first | exact Or.inl rfl | exact Or.inr rfl) (ej_oL (τ := (tDic kStr tInt)) (xs := ([] : List (List (Str × Int)))) (ej_lst (ss := []) aj_nil)) ?_
  show SJ _ _ _ [some (oLst [(fz (tList tInt) t7.2.1), (fz tInt t7.2.2)]), some (fz (t_Machine C_Machine) x_machine), some (fz tInt many_1), some (fz (tList tInt) shift_10), some (oL (tDic kStr tInt) ([] : List (List (Str × Int)))), some (oL (tDic kStr tInt) ([] : List (List (Str × Int)))), none, none, none, none, none, none, none, none] _
  obtain ⟨g11, h_g11, h⟩ := bnd h
  obtain ⟨j33, h_j33, h⟩ := bnd h
  refine sj_for (sh := fz tInt) (Γs := fun (s12 : ((List Int) × Int) × (List (List (Str × Int))) × (List (List (Str × Int)))) => [some (oLst [(fz (tList tInt) s12.1.1), (fz tInt s12.1.2)]), some (fz (t_Machine C_Machine) x_machine), some (fz tInt many_1), some (fz (tList tInt) shift_10), some (oL (tDic kStr tInt) s12.2.1), some (oL (tDic kStr tInt) s12.2.2), none, none, none, none, none, none, none, none]) (Γy := fun (s12 : ((List Int) × Int) × (List (List (Str × Int))) × (List (List (Str × Int)))) y13 => [some (oLst [(fz (tList tInt) s12.1.1), (fz tInt s12.1.2)]), some (fz (t_Machine C_Machine) x_machine), some (fz tInt many_1), some (fz (tList tInt) shift_10), some (oL (tDic kStr tInt) s12.2.1), some (oL (tDic kStr tInt) s12.2.2), some (fz tInt y13), none, none, none, none, none, none, none]) (fl := [true, true, true, true, true, true, true, true, true, true, true, true, true, true]) (rs_law_twin C_Machine) (ls_law_twin C_Machine) h_j33 (ij_rg1 (by rfl) m_range (aj_cons (ej_mul ej_int (ej_var (i := 2) rfl (by first | exact Or.inl rfl | exact Or.inr (Or.inl rfl) | exact Or.inr (Or.inr rfl)) rfl) (.inl ⟨by decide, by decide⟩)) aj_nil) (grd_iff h_g11).1) rfl rfl (fun s12 y13 => (gj_name (i := 6) sc_law_twin.nd rfl (by first | exact Or.inl rfl | exact Or.inr rfl))) ?_ ?_ PassesOwn.never rfl
  · intro s12 y13 o_ h_hy34 h
    clear h_j33; have h := h
    show SJ _ _ _ [some (oLst [(fz (tList tInt) s12.1.1), (fz tInt s12.1.2)]), some (fz (t_Machine C_Machine) x_machine), some (fz tInt many_1), some (fz (tList tInt) shift_10), some (oL (tDic kStr tInt) s12.2.1), some (oL (tDic kStr tInt) s12.2.2), some (fz tInt y13), none, none, none, none, none, none, none] _
    obtain ⟨g14, h_g14, h⟩ := bnd h
    obtain ⟨state_15, h_state_15, h⟩ := bnd h
    have h_state_15 := Option.some.inj h_state_15
    refine sj_set (i := 8) (s := (fz tInt state_15)) sc_law_twin.nd rfl (by first | exact Or.inl rfl | exact Or.inr rfl) (ej_is h_state_15 (ej_mod (ej_ty (ss := [_]) Dl.cl_int va_int (by rfl) m_int bt_int (aj_cons (ej_var (i := 6) rfl (by first | exact Or.inl rfl | exact Or.inr (Or.inl rfl) | exact Or.inr (Or.inr rfl)) rfl) aj_nil)) (ej_var (i := 2) rfl (by first | exact Or.inl rfl | exact Or.inr (Or.inl rfl) | exact Or.inr (Or.inr rfl)) rfl) (grd_iff h_g14).1)) ?_
    show SJ _ _ _ [some (oLst [(fz (tList tInt) s12.1.1), (fz tInt s12.1.2)]), some (fz (t_Machine C_Machine) x_machine), some (fz tInt many_1), some (fz (tList tInt) shift_10), some (oL (tDic kStr tInt) s12.2.1), some (oL (tDic kStr tInt) s12.2.2), some (fz tInt y13), none, some (fz tInt state_15), none, none, none, none, none] _
    refine sj_set (i := 9) (s := (oD kStr tInt ([] : (List (Str × Int))))) sc_law_twin.nd rfl (by first | exact Or.inl rfl | exact Or.inr rfl) (ej_dnew (kd := fStr) (τ := tInt)) ?_
    show SJ _ _ _ [some (oLst [(fz (tList tInt) s12.1.1), (fz tInt s12.1.2)]), some (fz (t_Machine C_Machine) x_machine), some (fz tInt many_1), some (fz (tList tInt) shift_10), some (oL (tDic kStr tInt) s12.2.1), some (oL (tDic kStr tInt) s12.2.2), some (fz tInt y13), none, some (fz tInt state_15), some (oD kStr tInt ([] : (List (Str × Int)))), none, none, none, none] _
    refine sj_set (i := 10) (s := (oD kStr tInt ([] : (List (Str × Int))))) sc_law_twin.nd rfl (by first | exact Or.inl rfl | exact Or.inr rfl) (ej_dnew (kd := fStr) (τ := tInt)) ?_
    show SJ _ _ _ [some (oLst [(fz (tList tInt) s12.1.1), (fz tInt s12.1.2)]), some (fz (t_Machine C_Machine) x_machine), some (fz tInt many_1), some (fz (tList tInt) shift_10), some (oL (tDic kStr tInt) s12.2.1), some (oL (tDic kStr tInt) s12.2.2), some (fz tInt y13), none, some (fz tInt state_15), some (oD kStr tInt ([] : (List (Str × Int)))), some (oD kStr tInt ([] : (List (Str × Int)))), none, none, none] _
    obtain ⟨j29, h_j29, h⟩ := bnd h
    refine sj_for (sh := fz tStr) (Γs := fun (s16 : ((List Int) × Int) × (List (Str × Int)) × (List (Str × Int))) => [some (oLst [(fz (tList tInt) s16.1.1), (fz tInt s16.1.2)]), some (fz (t_Machine C_Machine) x_machine), some (fz tInt many_1), some (fz (tList tInt) shift_10), some (oL (tDic kStr tInt) s12.2.1), some (oL (tDic kStr tInt) s12.2.2), some (fz tInt y13), none, some (fz tInt state_15), some (oD kStr tInt s16.2.1), some (oD kStr tInt s16.2.2), none, none, none]) (Γy := fun (s16 : ((List Int) × Int) × (List (Str × Int)) × (List (Str × Int))) y17 => [some (oLst [(fz (tList tInt) s16.1.1), (fz tInt s16.1.2)]), some (fz (t_Machine C_Machine) x_machine), some (fz tInt many_1), some (fz (tList tInt) shift_10), some (oL (tDic kStr tInt) s12.2.1), some (oL (tDic kStr tInt) s12.2.2), some (fz tInt y13), none, some (fz tInt state_15), some (oD kStr tInt s16.2.1), some (oD kStr tInt s16.2.2), some (fz tStr y17), none, none]) (fl := [true, true, true, true, true, true, true, true, true, true, true, true, true, true]) (rs_law_twin C_Machine) (ls_law_twin C_Machine) h_j29 (ij_lst (ej_fld (j := 0) (ej_var (i := 1) rfl (by first | exact Or.inl rfl | exact Or.inr (Or.inl rfl) | exact Or.inr (Or.inr rfl)) rfl) cl_Machine na_Machine_facts rfl rfl)) rfl rfl (fun s16 y17 => (gj_name (i := 11) sc_law_twin.nd rfl (by first | exact Or.inl rfl | exact Or.inr rfl))) ?_ ?_ PassesOwn.never rfl
    · intro s16 y17 o_ h_hy30 h
      clear h_j29; have h := h
      show SJ _ _ _ [some (oLst [(fz (tList tInt) s16.1.1), (fz tInt s16.1.2)]), some (fz (t_Machine C_Machine) x_machine), some (fz tInt many_1), some (fz (tList tInt) shift_10), some (oL (tDic kStr tInt) s12.2.1), some (oL (tDic kStr tInt) s12.2.2), some (fz tInt y13), none, some (fz tInt state_15), some (oD kStr tInt s16.2.1), some (oD kStr tInt s16.2.2), some (fz tStr y17), none, none] _
      obtain ⟨t18, h_t18, h⟩ := bnd h
      obtain ⟨t19, h_t19, h⟩ := bnd h
      obtain ⟨t20, h_t20, h⟩ := bnd h
      obtain ⟨g21, h_g21, h⟩ := bnd h
      obtain ⟨after_22, h_after_22, h⟩ := bnd h
      have h_after_22 := Option.some.inj h_after_22
      refine sj_set (i := 12) (s := (fz tInt after_22)) sc_law_twin.nd rfl (by first | exact Or.inl rfl | exact Or.inr rfl) (ej_is h_after_22 (ej_add (ej_dget (hu_of hr.room) rdd_fz h_t19 (ej_ix ix_list (v2_ixL rd_fz h_t18) (ej_fld (j := 1) (ej_var (i := 1) rfl (by first | exact Or.inl rfl | exact Or.inr (Or.inl rfl) | exact Or.inr (Or.inr rfl)) rfl) cl_Machine na_Machine_step rfl rfl) (ej_var (i := 8) rfl (by first | exact Or.inl rfl | exact Or.inr (Or.inl rfl) | exact Or.inr (Or.inr rfl)) rfl) (fun _ _ => rfl)) (ej_var (i := 11) rfl (by first | exact Or.inl rfl | exact Or.inr (Or.inl rfl) | exact Or.inr (Or.inr rfl)) rfl) (fun _ _ => rfl)) (ej_mul (ej_var (i := 2) rfl (by first | exact Or.inl rfl | exact Or.inr (Or.inl rfl) | exact Or.inr (Or.inr rfl)) rfl) (ej_call C_law_draw (hr.mono (by decide)) (by rfl) pass0 (aj_lend (i := 0) rfl (by first | exact Or.inl rfl | exact Or.inr (Or.inl rfl) | exact Or.inr (Or.inr rfl)) rfl (aj_cons ej_int aj_nil)) rfl ⟨(s16.1.1, s16.1.2), (2 : Int), t20, h_t20, rfl, rfl, rfl⟩) (grd_iff h_g21).1))) ?_
      show SJ _ _ _ [some (oLst [(fz (tList tInt) t20.2.1), (fz tInt t20.2.2)]), some (fz (t_Machine C_Machine) x_machine), some (fz tInt many_1), some (fz (tList tInt) shift_10), some (oL (tDic kStr tInt) s12.2.1), some (oL (tDic kStr tInt) s12.2.2), some (fz tInt y13), none, some (fz tInt state_15), some (oD kStr tInt s16.2.1), some (oD kStr tInt s16.2.2), some (fz tStr y17), some (fz tInt after_22), none] _
      obtain ⟨g23, h_g23, h⟩ := bnd h
      refine sj_dput (i := 9) (hu_of hr.room) rfl (by first | exact Or.inl rfl | exact Or.inr (Or.inl rfl) | exact Or.inr (Or.inr rfl)) (ej_var (i := 12) rfl (by first | exact Or.inl rfl | exact Or.inr (Or.inl rfl) | exact Or.inr (Or.inr rfl)) rfl) rfl (ej_var (i := 11) rfl (by first | exact Or.inl rfl | exact Or.inr (Or.inl rfl) | exact Or.inr (Or.inr rfl)) rfl) (grd_iff h_g23).1 ?_
      show SJ _ _ _ [some (oLst [(fz (tList tInt) t20.2.1), (fz tInt t20.2.2)]), some (fz (t_Machine C_Machine) x_machine), some (fz tInt many_1), some (fz (tList tInt) shift_10), some (oL (tDic kStr tInt) s12.2.1), some (oL (tDic kStr tInt) s12.2.2), some (fz tInt y13), none, some (fz tInt state_15), some (oD kStr tInt (aput s16.2.1 y17 after_22)), some (oD kStr tInt s16.2.2), some (fz tStr y17), some (fz tInt after_22), none] _
      obtain ⟨t24, h_t24, h⟩ := bnd h
      obtain ⟨t25, h_t25, h⟩ := bnd h
      obtain ⟨t26, h_t26, h⟩ := bnd h
      obtain ⟨t27, h_t27, h⟩ := bnd h
      obtain ⟨g28, h_g28, h⟩ := bnd h
      refine sj_dput (i := 10) (hu_of hr.room) rfl (by first | exact Or.inl rfl | exact Or.inr (Or.inl rfl) | exact Or.inr (Or.inr rfl)) (ej_sub (ej_add (ej_dget (hu_of hr.room) rdd_fz h_t25 (ej_ix ix_list (v2_ixL rd_fz h_t24) (ej_fld (j := 2) (ej_var (i := 1) rfl (by first | exact Or.inl rfl | exact Or.inr (Or.inl rfl) | exact Or.inr (Or.inr rfl)) rfl) cl_Machine na_Machine_gain rfl rfl) (ej_var (i := 8) rfl (by first | exact Or.inl rfl | exact Or.inr (Or.inl rfl) | exact Or.inr (Or.inr rfl)) rfl) (fun _ _ => rfl)) (ej_var (i := 11) rfl (by first | exact Or.inl rfl | exact Or.inr (Or.inl rfl) | exact Or.inr (Or.inr rfl)) rfl) (fun _ _ => rfl)) (ej_ix ix_list (v2_ixL rd_fz h_t26) (ej_var (i := 3) rfl (by first | exact Or.inl rfl | exact Or.inr (Or.inl rfl) | exact Or.inr (Or.inr rfl)) rfl) (ej_var (i := 12) rfl (by first | exact Or.inl rfl | exact Or.inr (Or.inl rfl) | exact Or.inr (Or.inr rfl)) rfl) (fun _ _ => rfl))) (ej_ix ix_list (v2_ixL rd_fz h_t27) (ej_var (i := 3) rfl (by first | exact Or.inl rfl | exact Or.inr (Or.inl rfl) | exact Or.inr (Or.inr rfl)) rfl) (ej_var (i := 6) rfl (by first | exact Or.inl rfl | exact Or.inr (Or.inl rfl) | exact Or.inr (Or.inr rfl)) rfl) (fun _ _ => rfl))) rfl (ej_var (i := 11) rfl (by first | exact Or.inl rfl | exact Or.inr (Or.inl rfl) | exact Or.inr (Or.inr rfl)) rfl) (grd_iff h_g28).1 ?_
      show SJ _ _ _ [some (oLst [(fz (tList tInt) t20.2.1), (fz tInt t20.2.2)]), some (fz (t_Machine C_Machine) x_machine), some (fz tInt many_1), some (fz (tList tInt) shift_10), some (oL (tDic kStr tInt) s12.2.1), some (oL (tDic kStr tInt) s12.2.2), some (fz tInt y13), none, some (fz tInt state_15), some (oD kStr tInt (aput s16.2.1 y17 after_22)), some (oD kStr tInt (aput s16.2.2 y17 ((t25 + t26) - t27))), some (fz tStr y17), some (fz tInt after_22), none] _
      (simp only [Option.some.injEq, Prod.mk.injEq] at h; first | subst h | (obtain ⟨_, _⟩ := h; subst_vars))
      exact sj_end (fl := [true, true, true, true, true, true, true, true, true, true, true, false, false, true]) rfl rfl
    show SJ _ _ _ [some (oLst [(fz (tList tInt) j29.1.1), (fz tInt j29.1.2)]), some (fz (t_Machine C_Machine) x_machine), some (fz tInt many_1), some (fz (tList tInt) shift_10), some (oL (tDic kStr tInt) s12.2.1), some (oL (tDic kStr tInt) s12.2.2), some (fz tInt y13), none, some (fz tInt state_15), some (oD kStr tInt j29.2.1), some (oD kStr tInt j29.2.2), none, none, none] _
    refine sj_fz (i := 9) rfl fz_oD ?_
    show SJ _ _ _ [some (oLst [(fz (tList tInt) j29.1.1), (fz tInt j29.1.2)]), some (fz (t_Machine C_Machine) x_machine), some (fz tInt many_1), some (fz (tList tInt) shift_10), some (oL (tDic kStr tInt) s12.2.1), some (oL (tDic kStr tInt) s12.2.2), some (fz tInt y13), none, some (fz tInt state_15), some (fz (tDic kStr tInt) j29.2.1), some (oD kStr tInt j29.2.2), none, none, none] _
    obtain ⟨g31, h_g31, h⟩ := bnd h
    refine sj_expr (ej_app (i := 4) rfl (by first | exact Or.inl rfl | exact Or.inr (Or.inl rfl) | exact Or.inr (Or.inr rfl)) rfl (aj_cons (ej_var (i := 9) rfl (by first | exact Or.inl rfl | exact Or.inr (Or.inl rfl) | exact Or.inr (Or.inr rfl)) rfl) aj_nil) rfl (grd_iff h_g31).1) ?_
    show SJ _ _ _ [some (oLst [(fz (tList tInt) j29.1.1), (fz tInt j29.1.2)]), some (fz (t_Machine C_Machine) x_machine), some (fz tInt many_1), some (fz (tList tInt) shift_10), some (oL (tDic kStr tInt) (s12.2.1 ++ [j29.2.1])), some (oL (tDic kStr tInt) s12.2.2), some (fz tInt y13), none, some (fz tInt state_15), some (fz (tDic kStr tInt) j29.2.1), some (oD kStr tInt j29.2.2), none, none, none] _
    refine sj_fz (i := 10) rfl fz_oD ?_
    show SJ _ _ _ [some (oLst [(fz (tList tInt) j29.1.1), (fz tInt j29.1.2)]), some (fz (t_Machine C_Machine) x_machine), some (fz tInt many_1), some (fz (tList tInt) shift_10), some (oL (tDic kStr tInt) (s12.2.1 ++ [j29.2.1])), some (oL (tDic kStr tInt) s12.2.2), some (fz tInt y13), none, some (fz tInt state_15), some (fz (tDic kStr tInt) j29.2.1), some (fz (tDic kStr tInt) j29.2.2), none, none, none] _
    obtain ⟨g32, h_g32, h⟩ := bnd h
    refine sj_expr (ej_app (i := 5) rfl (by first | exact Or.inl rfl | exact Or.inr (Or.inl rfl) | exact Or.inr (Or.inr rfl)) rfl (aj_cons (ej_var (i := 10) rfl (by first | exact Or.inl rfl | exact Or.inr (Or.inl rfl) | exact Or.inr (Or.inr rfl)) rfl) aj_nil) rfl (grd_iff h_g32).1) ?_
    show SJ _ _ _ [some (oLst [(fz (tList tInt) j29.1.1), (fz tInt j29.1.2)]), some (fz (t_Machine C_Machine) x_machine), some (fz tInt many_1), some (fz (tList tInt) shift_10), some (oL (tDic kStr tInt) (s12.2.1 ++ [j29.2.1])), some (oL (tDic kStr tInt) (s12.2.2 ++ [j29.2.2])), some (fz tInt y13), none, some (fz tInt state_15), some (fz (tDic kStr tInt) j29.2.1), some (fz (tDic kStr tInt) j29.2.2), none, none, none] _
    (simp only [Option.some.injEq, Prod.mk.injEq] at h; first | subst h | (obtain ⟨_, _⟩ := h; subst_vars))
    exact sj_end (fl := [true, true, true, true, true, true, false, true, false, false, false, true, true, true]) rfl rfl
  show SJ _ _ _ [some (oLst [(fz (tList tInt) j33.1.1), (fz tInt j33.1.2)]), some (fz (t_Machine C_Machine) x_machine), some (fz tInt many_1), some (fz (tList tInt) shift_10), some (oL (tDic kStr tInt) j33.2.1), some (oL (tDic kStr tInt) j33.2.2), none, none, none, none, none, none, none, none] _
  obtain ⟨g35, h_g35, h⟩ := bnd h
  obtain ⟨g37, h_g37, h⟩ := bnd h
  obtain ⟨t41, h_t41, h⟩ := bnd h
  refine sj_setLc (i := 7) (s := (oL tInt t41)) (lcj_s (lcP (Γy := fun y36 => [some (oLst [(fz (tList tInt) j33.1.1), (fz tInt j33.1.2)]), some (fz (t_Machine C_Machine) x_machine), some (fz tInt many_1), some (fz (tList tInt) shift_10), some (oL (tDic kStr tInt) j33.2.1), some (oL (tDic kStr tInt) j33.2.2), none, none, none, none, none, none, none, some (fz tInt y36)]) (own := [("one", 13)]) (fun _ _ _ _ _ y36 => (gj0_name (i := 13) sc_law_twin.nd rfl (by first | exact Or.inl rfl | exact Or.inr rfl) (z_none rfl))) (fun _ _ _ _ _ y36 oz hm h => (by have h := h; obtain ⟨g38, h_g38, h⟩ := bnd h; obtain ⟨t39, h_t39, h⟩ := bnd h; obtain ⟨t40, h_t40, h⟩ := bnd h;  (simp only [Option.some.injEq, Prod.mk.injEq] at h; first | subst h | (obtain ⟨_, _⟩ := h; subst_vars)); exact ts_nil)) (fun _ _ _ _ _ y36 z hm h => (by have h := h; obtain ⟨g38, h_g38, h⟩ := bnd h; obtain ⟨t39, h_t39, h⟩ := bnd h; obtain ⟨t40, h_t40, h⟩ := bnd h;  (simp only [Option.some.injEq, Prod.mk.injEq] at h; first | subst h | (obtain ⟨_, _⟩ := h; subst_vars)); exact (ej_sub (ej_ix ix_list (v2_ixL rd_fz h_t39) (ej_fld (j := 3) (ej_var (i := 1) rfl (by first | exact Or.inl rfl | exact Or.inr (Or.inl rfl) | exact Or.inr (Or.inr rfl)) rfl) cl_Machine na_Machine_leave rfl rfl) (ej_mod (ej_ty (ss := [_]) Dl.cl_int va_int (by rfl) m_int bt_int (aj_cons (ej_var (i := 13) rfl (by first | exact Or.inl rfl | exact Or.inr (Or.inl rfl) | exact Or.inr (Or.inr rfl)) rfl) aj_nil)) (ej_var (i := 2) rfl (by first | exact Or.inl rfl | exact Or.inr (Or.inl rfl) | exact Or.inr (Or.inr rfl)) rfl) (grd_iff h_g38).1) (fun _ _ => rfl)) (ej_ix ix_list (v2_ixL rd_fz h_t40) (ej_var (i := 3) rfl (by first | exact Or.inl rfl | exact Or.inr (Or.inl rfl) | exact Or.inr (Or.inr rfl)) rfl) (ej_var (i := 13) rfl (by first | exact Or.inl rfl | exact Or.inr (Or.inl rfl) | exact Or.inr (Or.inr rfl)) rfl) (fun _ _ => rfl))))) h_t41 (grd_iff h_g37).1 rfl sc_law_twin.nd (ij_rg1 (by rfl) m_range (aj_cons (ej_mul ej_int (ej_var (i := 2) rfl (by first | exact Or.inl rfl | exact Or.inr (Or.inl rfl) | exact Or.inr (Or.inr rfl)) rfl) (.inl ⟨by decide, by decide⟩)) aj_nil) (grd_iff h_g35).1) (blkOk_by (own := [("one", 13)]) (N := n_law_twin) (sc := defScope s_law_twin) (by decide +kernel)) ⟨z_none rfl, trivial⟩) rfl rfl (sw_true rfl rfl rfl (by decide +kernel))) ?_
  show SJ _ _ _ [some (oLst [(fz (tList tInt) j33.1.1), (fz tInt j33.1.2)]), some (fz (t_Machine C_Machine) x_machine), some (fz tInt many_1), some (fz (tList tInt) shift_10), some (oL (tDic kStr tInt) j33.2.1), some (oL (tDic kStr tInt) j33.2.2), none, some (oL tInt t41), none, none, none, none, none, none] _
  refine sj_fz (i := 7) rfl fz_oL ?_
  show SJ _ _ _ [some (oLst [(fz (tList tInt) j33.1.1), (fz tInt j33.1.2)]), some (fz (t_Machine C_Machine) x_machine), some (fz tInt many_1), some (fz (tList tInt) shift_10), some (oL (tDic kStr tInt) j33.2.1), some (oL (tDic kStr tInt) j33.2.2), none, some (fz (tList tInt) t41), none, none, none, none, none, none] _
  obtain ⟨t42, h_t42, h⟩ := bnd h
  (simp only [Option.some.injEq, Prod.mk.injEq] at h; first | subst h | (obtain ⟨_, _⟩ := h; subst_vars))
  exact sj_ret (rs := rs_law_twin C_Machine) (ls := ls_law_twin C_Machine) (y := ((D_Machine.mk t42.facts t42.step t42.gain t42.leave), (j33.1.1, j33.1.2))) (ej_fz (ej_mk (ss := [_, _, _, _]) M_Machine (hr.mono (by decide)) (by rfl) pass0 (aj_cons (ej_fz (ej_ty (ss := [_]) Dl.cl_list (va_listL rd_fz) (by rfl) m_list bt_list (aj_cons (ej_fld (j := 0) (ej_var (i := 1) rfl (by first | exact Or.inl rfl | exact Or.inr (Or.inl rfl) | exact Or.inr (Or.inr rfl)) rfl) cl_Machine na_Machine_facts rfl rfl) aj_nil)) fz_oL) (aj_cons (ej_fz (ej_mov (i := 4) rfl (by first | exact Or.inl rfl | exact Or.inr (Or.inl rfl) | exact Or.inr (Or.inr rfl)) rfl) fz_oL) (aj_cons (ej_fz (ej_mov (i := 5) rfl (by first | exact Or.inl rfl | exact Or.inr (Or.inl rfl) | exact Or.inr (Or.inr rfl)) rfl) fz_oL) (aj_cons (ej_var (i := 7) rfl (by first | exact Or.inl rfl | exact Or.inr (Or.inl rfl) | exact Or.inr (Or.inr rfl)) rfl) aj_nil)))) ⟨x_machine.facts, j33.2.1, j33.2.2, t41, t42, h_t42, rfl, rfl, rfl⟩) (fz_ins (sh := sh_Machine) (y := (D_Machine.mk t42.facts t42.step t42.gain t42.leave)) ⟨fz_fz, fz_fz, fz_fz, fz_fz, trivial⟩)) rfl rfl (show List.Nodup ([0] : List Nat) by decide) rfl

abbrev O_place_of : Type := Int × (List (Int × Int)) × (List ((Int × Int) × Int))
def m_place_of (x_key : (Int × Int)) (x_met : (List (Int × Int))) (x_places : (List ((Int × Int) × Int))) : Option O_place_of := ((if (!(ahas x_places x_key)) = true then ((grd (Sm (x_places).length) ()).bind fun g3 => ((grd (Sm (x_met).length) ()).bind fun g4 => some ((x_met ++ [x_key]), (aput x_places x_key ((x_met).length : Int))))) else some (x_met, x_places) : Option ((List (Int × Int)) × (List ((Int × Int) × Int)))).bind fun j2 => ((aget j2.2 x_key).bind fun t5 => some (t5, j2.1, j2.2)))
def rs_place_of : O_place_of → Sh := fun o => (fz tInt o.1)
def ls_place_of : O_place_of → List Sh := fun o => [(oL (tP2 tInt tInt) o.2.1), (oD (kP2 fInt fInt) tInt o.2.2)]
def P_place_of : Phi := fun ss r L => ∃ (x_key : (Int × Int)) (x_met : (List (Int × Int))) (x_places : (List ((Int × Int) × Int))) (o : O_place_of), m_place_of x_key x_met x_places = some o ∧ ss = [(fz (tP2 tInt tInt) x_key), (oL (tP2 tInt tInt) x_met), (oD (kP2 fInt fInt) tInt x_places)] ∧ r = rs_place_of o ∧ L = [(1, (oL (tP2 tInt tInt) o.2.1)), (2, (oD (kP2 fInt fInt) tInt o.2.2))]
theorem ok_place_of (m_len : mg "len" = none) {f0 : Addr} {fd : FuncData} (D : Fun K "place_of" "place_of" s_place_of f0 fd) : FnG P w K mg base CX0 1 f0 fd ["key", "met", "places"] (spS 3 P_place_of) := by
  refine Fun.okS D sc_place_of rfl (by decide) fun X0 s H A outer cdv E ss r L vs hr hlen hP => ?_
  obtain ⟨x_key, x_met, x_places, o_, h, rfl, rfl, rfl⟩ := hP
  obtain ⟨v0, v1, v2, rfl⟩ : ∃ v0 v1 v2, vs = [v0, v1, v2] := by
    match vs, hlen with
    | [v0, v1, v2], _ => exact ⟨v0, v1, v2, rfl⟩
  refine ⟨_, rs_place_of, ls_place_of, o_, [(1, v1), (2, v2)], rfl, rfl, by intro p hp; simp only [List.mem_cons, List.not_mem_nil, or_false] at hp; rcases hp with rfl | rfl <;> rfl, rfl, ?_⟩
  clear X0
  unfold m_place_of at h
  show SJ _ _ _ [some (fz (tP2 tInt tInt) x_key), some (oL (tP2 tInt tInt) x_met), some (oD (kP2 fInt fInt) tInt x_places)] _
  obtain ⟨j2, h_j2, h⟩ := bnd h
  refine sj_if (t := (!(ahas x_places x_key))) (Γm := [some (fz (tP2 tInt tInt) x_key), some (oL (tP2 tInt tInt) j2.1), some (oD (kP2 fInt fInt) tInt j2.2)]) (tj_cmp (ej_dninF (hu_of hr.room) rdd_oD (ej_var (i := 0) rfl (by first | exact Or.inl rfl | exact Or.inr (Or.inl rfl) | exact Or.inr (Or.inr rfl)) rfl) (fj_var (i := 2) rfl (by first | exact Or.inl rfl | exact Or.inr (Or.inl rfl) | exact Or.inr (Or.inr rfl)) rfl))) ?_ ?_ ?_
  · intro h_b1
    clear h; have h := ifT h_b1 h_j2; clear h_j2
    show SJ _ _ _ [some (fz (tP2 tInt tInt) x_key), some (oL (tP2 tInt tInt) x_met), some (oD (kP2 fInt fInt) tInt x_places)] _
    obtain ⟨g3, h_g3, h⟩ := bnd h
    refine sj_dput (i := 2) (hu_of hr.room) rfl (by first | exact Or.inl rfl | exact Or.inr (Or.inl rfl) | exact Or.inr (Or.inr rfl)) (ej_bP Dl.cl_len (va_len rd_oL) (by rfl) m_len bt_len (pj_var (i := 1) rfl (by first | exact Or.inl rfl | exact Or.inr (Or.inl rfl) | exact Or.inr (Or.inr rfl)) rfl)) rfl (ej_var (i := 0) rfl (by first | exact Or.inl rfl | exact Or.inr (Or.inl rfl) | exact Or.inr (Or.inr rfl)) rfl) (grd_iff h_g3).1 ?_
    show SJ _ _ _ [some (fz (tP2 tInt tInt) x_key), some (oL (tP2 tInt tInt) x_met), some (oD (kP2 fInt fInt) tInt (aput x_places x_key ((x_met).length : Int)))] _
    obtain ⟨g4, h_g4, h⟩ := bnd h
    refine sj_expr (ej_app (i := 1) rfl (by first | exact Or.inl rfl | exact Or.inr (Or.inl rfl) | exact Or.inr (Or.inr rfl)) rfl (aj_cons (ej_var (i := 0) rfl (by first | exact Or.inl rfl | exact Or.inr (Or.inl rfl) | exact Or.inr (Or.inr rfl)) rfl) aj_nil) rfl (grd_iff h_g4).1) ?_
    show SJ _ _ _ [some (fz (tP2 tInt tInt) x_key), some (oL (tP2 tInt tInt) (x_met ++ [x_key])), some (oD (kP2 fInt fInt) tInt (aput x_places x_key ((x_met).length : Int)))] _
    (simp only [Option.some.injEq, Prod.mk.injEq] at h; first | subst h | (obtain ⟨_, _⟩ := h; subst_vars))
    exact sj_join (fl := [true, true, true]) rfl rfl (fun _ _ _ h => h)
  · intro h_b1
    clear h; have h := ifF h_b1 h_j2; clear h_j2
    show SJ _ _ _ [some (fz (tP2 tInt tInt) x_key), some (oL (tP2 tInt tInt) x_met), some (oD (kP2 fInt fInt) tInt x_places)] _
    (simp only [Option.some.injEq, Prod.mk.injEq] at h; first | subst h | (obtain ⟨_, _⟩ := h; subst_vars))
    exact sj_join (fl := [true, true, true]) rfl rfl (fun _ _ _ h => h)
  obtain ⟨t5, h_t5, h⟩ := bnd h
  (simp only [Option.some.injEq, Prod.mk.injEq] at h; first | subst h | (obtain ⟨_, _⟩ := h; subst_vars))
  exact sj_ret (rs := rs_place_of) (ls := ls_place_of) (y := (t5, j2.1, j2.2)) (ej_dgetP (hu_of hr.room) rdd_oD h_t5 (pj_var (i := 2) rfl (by first | exact Or.inl rfl | exact Or.inr (Or.inl rfl) | exact Or.inr (Or.inr rfl)) rfl) (ej_var (i := 0) rfl (by first | exact Or.inl rfl | exact Or.inr (Or.inl rfl) | exact Or.inr (Or.inr rfl)) rfl) (fun _ _ => rfl)) rfl rfl (show List.Nodup ([1, 2] : List Nat) by decide) rfl

abbrev O_Pairs_manyR : Type := Int
def m_Pairs_manyR (x_self : D_Pairs) : Option O_Pairs_manyR := (some ((x_self.end_).length : Int))
def rs_Pairs_manyR (C_Pairs : Addr) : O_Pairs_manyR → Sh := fun o => (fz tInt o)
def P_Pairs_manyR (C_Pairs : Addr) : Phr := fun ss r => ∃ (x_self : D_Pairs) (o : O_Pairs_manyR), m_Pairs_manyR x_self = some o ∧ ss = [(oIns C_Pairs ["facts", "pairs", "places", "step", "gain", "end"] [(fz (tList tStr) x_self.facts), (oL (tP2 tInt tInt) x_self.pairs), (oD (kP2 fInt fInt) tInt x_self.places), (oL (tDic kStr tInt) x_self.step), (oL (tDic kStr tInt) x_self.gain), (oL tInt x_self.end_)])] ∧ r = rs_Pairs_manyR C_Pairs o
theorem ok_Pairs_manyR {C_Pairs : Addr} (cl_Pairs : Cls K C_Pairs) (na_Pairs_end : NoAttr K C_Pairs "end") (m_len : mg "len" = none) {f0 : Addr} {fd : FuncData} (D : Fun K "many" "Pairs.many" s_Pairs_many f0 fd) : FnG P w K mg base CX0 1 f0 fd ["self"] (spR 1 (P_Pairs_manyR C_Pairs)) := by
  refine Fun.okR D sc_Pairs_many rfl (by decide) fun X0 s H A outer cdv E ss r vs hr hlen hP => ?_
  obtain ⟨x_self, o_, h, rfl, rfl⟩ := hP
  obtain ⟨v0, rfl⟩ : ∃ v0, vs = [v0] := by
    match vs, hlen with
    | [v0], _ => exact ⟨v0, rfl⟩
  clear X0
  unfold m_Pairs_manyR at h
  show RJ _ _ [some (oIns C_Pairs ["facts", "pairs", "places", "step", "gain", "end"] [(fz (tList tStr) x_self.facts), (oL (tP2 tInt tInt) x_self.pairs), (oD (kP2 fInt fInt) tInt x_self.places), (oL (tDic kStr tInt) x_self.step), (oL (tDic kStr tInt) x_self.gain), (oL tInt x_self.end_)])] _
  (simp only [Option.some.injEq, Prod.mk.injEq] at h; first | subst h | (obtain ⟨_, _⟩ := h; subst_vars))
  exact rj_ret (ej_bF Dl.cl_len (va_len rd_oL) (by rfl) m_len bt_len (fj_fld (fj_var (i := 0) rfl (by first | exact Or.inl rfl | exact Or.inr (Or.inl rfl) | exact Or.inr (Or.inr rfl)) rfl) cl_Pairs na_Pairs_end rfl rfl))

abbrev O_next_pair : Type := (Int × Int)
def m_next_pair (x_machine : D_Machine) (x_other : D_Machine) (x_pair : (Int × Int)) (x_fact : Str) : Option O_next_pair := (((atI x_machine.step x_pair.1).bind fun t1 => (aget t1 x_fact).bind fun t2 => (atI x_other.step x_pair.2).bind fun t3 => (aget t3 x_fact).bind fun t4 => some (t2, t4)))
def rs_next_pair (C_Machine : Addr) : O_next_pair → Sh := fun o => (fz (tP2 tInt tInt) o)
def ls_next_pair (C_Machine : Addr) : O_next_pair → List Sh := fun o => []
def P_next_pair (C_Machine : Addr) : Phi := fun ss r L => ∃ (x_machine : D_Machine) (x_other : D_Machine) (x_pair : (Int × Int)) (x_fact : Str) (o : O_next_pair), m_next_pair x_machine x_other x_pair x_fact = some o ∧ ss = [(fz (t_Machine C_Machine) x_machine), (fz (t_Machine C_Machine) x_other), (fz (tP2 tInt tInt) x_pair), (fz tStr x_fact)] ∧ r = rs_next_pair C_Machine o ∧ L = []
theorem ok_next_pair {C_Machine : Addr} (cl_Machine : Cls K C_Machine) (na_Machine_step : NoAttr K C_Machine "step") {f0 : Addr} {fd : FuncData} (D : Fun K "next_pair" "next_pair" s_next_pair f0 fd) : FnG P w K mg base CX0 1 f0 fd ["machine", "other", "pair", "fact"] (spS 4 (P_next_pair C_Machine)) := by
  refine Fun.okS D sc_next_pair rfl (by decide) fun X0 s H A outer cdv E ss r L vs hr hlen hP => ?_
  obtain ⟨x_machine, x_other, x_pair, x_fact, o_, h, rfl, rfl, rfl⟩ := hP
  obtain ⟨v0, v1, v2, v3, rfl⟩ : ∃ v0 v1 v2 v3, vs = [v0, v1, v2, v3] := by
    match vs, hlen with
    | [v0, v1, v2, v3], _ => exact ⟨v0, v1, v2, v3, rfl⟩
  refine ⟨_, rs_next_pair C_Machine, ls_next_pair C_Machine, o_, [], rfl, rfl, (fun _ h => nomatch h), rfl, ?_⟩
  clear X0
  unfold m_next_pair at h
  show SJ _ _ _ [some (fz (t_Machine C_Machine) x_machine), some (fz (t_Machine C_Machine) x_other), some (fz (tP2 tInt tInt) x_pair), some (fz tStr x_fact), none, none] _
  refine sj_asg (ej_var (i := 2) rfl (by first | exact Or.inl rfl | exact Or.inr (Or.inl rfl) | exact Or.inr (Or.inr rfl)) rfl) (gj_p2 rfl (gs_cons (gj_name (i := 4) sc_next_pair.nd rfl (by first | exact Or.inl rfl | exact Or.inr rfl)) (gs_cons (gj_name (i := 5) sc_next_pair.nd rfl (by first | exact Or.inl rfl | exact Or.inr rfl)) gs_nil))) ?_
  show SJ _ _ _ [some (fz (t_Machine C_Machine) x_machine), some (fz (t_Machine C_Machine) x_other), some (fz (tP2 tInt tInt) x_pair), some (fz tStr x_fact), some (fz tInt x_pair.1), some (fz tInt x_pair.2)] _
  obtain ⟨t1, h_t1, h⟩ := bnd h
  obtain ⟨t2, h_t2, h⟩ := bnd h
  obtain ⟨t3, h_t3, h⟩ := bnd h
  obtain ⟨t4, h_t4, h⟩ := bnd h
  (simp only [Option.some.injEq, Prod.mk.injEq] at h; first | subst h | (obtain ⟨_, _⟩ := h; subst_vars))
  exact sj_ret (rs := rs_next_pair C_Machine) (ls := ls_next_pair C_Machine) (y := (t2, t4)) (ej_tup2 (aj_cons (ej_dget (hu_of hr.room) rdd_fz h_t2 (ej_ix ix_list (v2_ixL rd_fz h_t1) (ej_fld (j := 1) (ej_var (i := 0) rfl (by first | exact Or.inl rfl | exact Or.inr (Or.inl rfl) | exact Or.inr (Or.inr rfl)) rfl) cl_Machine na_Machine_step rfl rfl) (ej_var (i := 4) rfl (by first | exact Or.inl rfl | exact Or.inr (Or.inl rfl) | exact Or.inr (Or.inr rfl)) rfl) (fun _ _ => rfl)) (ej_var (i := 3) rfl (by first | exact Or.inl rfl | exact Or.inr (Or.inl rfl) | exact Or.inr (Or.inr rfl)) rfl) (fun _ _ => rfl)) (aj_cons (ej_dget (hu_of hr.room) rdd_fz h_t4 (ej_ix ix_list (v2_ixL rd_fz h_t3) (ej_fld (j := 1) (ej_var (i := 1) rfl (by first | exact Or.inl rfl | exact Or.inr (Or.inl rfl) | exact Or.inr (Or.inr rfl)) rfl) cl_Machine na_Machine_step rfl rfl) (ej_var (i := 5) rfl (by first | exact Or.inl rfl | exact Or.inr (Or.inl rfl) | exact Or.inr (Or.inr rfl)) rfl) (fun _ _ => rfl)) (ej_var (i := 3) rfl (by first | exact Or.inl rfl | exact Or.inr (Or.inl rfl) | exact Or.inr (Or.inr rfl)) rfl) (fun _ _ => rfl)) aj_nil))) rfl rfl (show List.Nodup ([] : List Nat) by decide) rfl

abbrev O_gain_ahead : Type := Int
def m_gain_ahead (x_machine : D_Machine) (x_other : D_Machine) (x_pair : (Int × Int)) (x_fact : Str) : Option O_gain_ahead := (((atI x_machine.gain x_pair.1).bind fun t1 => (aget t1 x_fact).bind fun t2 => (atI x_other.gain x_pair.2).bind fun t3 => (aget t3 x_fact).bind fun t4 => some (t2 - t4)))
def rs_gain_ahead (C_Machine : Addr) : O_gain_ahead → Sh := fun o => (fz tInt o)
def ls_gain_ahead (C_Machine : Addr) : O_gain_ahead → List Sh := fun o => []
def P_gain_ahead (C_Machine : Addr) : Phi := fun ss r L => ∃ (x_machine : D_Machine) (x_other : D_Machine) (x_pair : (Int × Int)) (x_fact : Str) (o : O_gain_ahead), m_gain_ahead x_machine x_other x_pair x_fact = some o ∧ ss = [(fz (t_Machine C_Machine) x_machine), (fz (t_Machine C_Machine) x_other), (fz (tP2 tInt tInt) x_pair), (fz tStr x_fact)] ∧ r = rs_gain_ahead C_Machine o ∧ L = []
theorem ok_gain_ahead {C_Machine : Addr} (cl_Machine : Cls K C_Machine) (na_Machine_gain : NoAttr K C_Machine "gain") {f0 : Addr} {fd : FuncData} (D : Fun K "gain_ahead" "gain_ahead" s_gain_ahead f0 fd) : FnG P w K mg base CX0 1 f0 fd ["machine", "other", "pair", "fact"] (spS 4 (P_gain_ahead C_Machine)) := by
  refine Fun.okS D sc_gain_ahead rfl (by decide) fun X0 s H A outer cdv E ss r L vs hr hlen hP => ?_
  obtain ⟨x_machine, x_other, x_pair, x_fact, o_, h, rfl, rfl, rfl⟩ := hP
  obtain ⟨v0, v1, v2, v3, rfl⟩ : ∃ v0 v1 v2 v3, vs = [v0, v1, v2, v3] := by
    match vs, hlen with
    | [v0, v1, v2, v3], _ => exact ⟨v0, v1, v2, v3, rfl⟩
  refine ⟨_, rs_gain_ahead C_Machine, ls_gain_ahead C_Machine, o_, [], rfl, rfl, (fun _ h => nomatch h), rfl, ?_⟩
  clear X0
  unfold m_gain_ahead at h
  show SJ _ _ _ [some (fz (t_Machine C_Machine) x_machine), some (fz (t_Machine C_Machine) x_other), some (fz (tP2 tInt tInt) x_pair), some (fz tStr x_fact), none, none] _
  refine sj_asg (ej_var (i := 2) rfl (by first | exact Or.inl rfl | exact Or.inr (Or.inl rfl) | exact Or.inr (Or.inr rfl)) rfl) (gj_p2 rfl (gs_cons (gj_name (i := 4) sc_gain_ahead.nd rfl (by first | exact Or.inl rfl | exact Or.inr rfl)) (gs_cons (gj_name (i := 5) sc_gain_ahead.nd rfl (by first | exact Or.inl rfl | exact Or.inr rfl)) gs_nil))) ?_
  show SJ _ _ _ [some (fz (t_Machine C_Machine) x_machine), some (fz (t_Machine C_Machine) x_other), some (fz (tP2 tInt tInt) x_pair), some (fz tStr x_fact), some (fz tInt x_pair.1), some (fz tInt x_pair.2)] _
  obtain ⟨t1, h_t1, h⟩ := bnd h
  obtain ⟨t2, h_t2, h⟩ := bnd h
  obtain ⟨t3, h_t3, h⟩ := bnd h
  obtain ⟨t4, h_t4, h⟩ := bnd h
  (simp only [Option.some.injEq, Prod.mk.injEq] at h; first | subst h | (obtain ⟨_, _⟩ := h; subst_vars))
  exact sj_ret (rs := rs_gain_ahead C_Machine) (ls := ls_gain_ahead C_Machine) (y := (t2 - t4)) (ej_sub (ej_dget (hu_of hr.room) rdd_fz h_t2 (ej_ix ix_list (v2_ixL rd_fz h_t1) (ej_fld (j := 2) (ej_var (i := 0) rfl (by first | exact Or.inl rfl | exact Or.inr (Or.inl rfl) | exact Or.inr (Or.inr rfl)) rfl) cl_Machine na_Machine_gain rfl rfl) (ej_var (i := 4) rfl (by first | exact Or.inl rfl | exact Or.inr (Or.inl rfl) | exact Or.inr (Or.inr rfl)) rfl) (fun _ _ => rfl)) (ej_var (i := 3) rfl (by first | exact Or.inl rfl | exact Or.inr (Or.inl rfl) | exact Or.inr (Or.inr rfl)) rfl) (fun _ _ => rfl)) (ej_dget (hu_of hr.room) rdd_fz h_t4 (ej_ix ix_list (v2_ixL rd_fz h_t3) (ej_fld (j := 2) (ej_var (i := 1) rfl (by first | exact Or.inl rfl | exact Or.inr (Or.inl rfl) | exact Or.inr (Or.inr rfl)) rfl) cl_Machine na_Machine_gain rfl rfl) (ej_var (i := 5) rfl (by first | exact Or.inl rfl | exact Or.inr (Or.inl rfl) | exact Or.inr (Or.inr rfl)) rfl) (fun _ _ => rfl)) (ej_var (i := 3) rfl (by first | exact Or.inl rfl | exact Or.inr (Or.inl rfl) | exact Or.inr (Or.inr rfl)) rfl) (fun _ _ => rfl))) rfl rfl (show List.Nodup ([] : List Nat) by decide) rfl

abbrev O_end_ahead : Type := Int
def m_end_ahead (x_machine : D_Machine) (x_other : D_Machine) (x_pair : (Int × Int)) : Option O_end_ahead := (((atI x_machine.leave x_pair.1).bind fun t1 => (atI x_other.leave x_pair.2).bind fun t2 => some (t1 - t2)))
def rs_end_ahead (C_Machine : Addr) : O_end_ahead → Sh := fun o => (fz tInt o)
def ls_end_ahead (C_Machine : Addr) : O_end_ahead → List Sh := fun o => []
def P_end_ahead (C_Machine : Addr) : Phi := fun ss r L => ∃ (x_machine : D_Machine) (x_other : D_Machine) (x_pair : (Int × Int)) (o : O_end_ahead), m_end_ahead x_machine x_other x_pair = some o ∧ ss = [(fz (t_Machine C_Machine) x_machine), (fz (t_Machine C_Machine) x_other), (fz (tP2 tInt tInt) x_pair)] ∧ r = rs_end_ahead C_Machine o ∧ L = []
theorem ok_end_ahead {C_Machine : Addr} (cl_Machine : Cls K C_Machine) (na_Machine_leave : NoAttr K C_Machine "leave") {f0 : Addr} {fd : FuncData} (D : Fun K "end_ahead" "end_ahead" s_end_ahead f0 fd) : FnG P w K mg base CX0 1 f0 fd ["machine", "other", "pair"] (spS 3 (P_end_ahead C_Machine)) := by
  refine Fun.okS D sc_end_ahead rfl (by decide) fun X0 s H A outer cdv E ss r L vs hr hlen hP => ?_
  obtain ⟨x_machine, x_other, x_pair, o_, h, rfl, rfl, rfl⟩ := hP
  obtain ⟨v0, v1, v2, rfl⟩ : ∃ v0 v1 v2, vs = [v0, v1, v2] := by
    match vs, hlen with
    | [v0, v1, v2], _ => exact ⟨v0, v1, v2, rfl⟩
  refine ⟨_, rs_end_ahead C_Machine, ls_end_ahead C_Machine, o_, [], rfl, rfl, (fun _ h => nomatch h), rfl, ?_⟩
  clear X0
  unfold m_end_ahead at h
  show SJ _ _ _ [some (fz (t_Machine C_Machine) x_machine), some (fz (t_Machine C_Machine) x_other), some (fz (tP2 tInt tInt) x_pair), none, none] _
  refine sj_asg (ej_var (i := 2) rfl (by first | exact Or.inl rfl | exact Or.inr (Or.inl rfl) | exact Or.inr (Or.inr rfl)) rfl) (gj_p2 rfl (gs_cons (gj_name (i := 3) sc_end_ahead.nd rfl (by first | exact Or.inl rfl | exact Or.inr rfl)) (gs_cons (gj_name (i := 4) sc_end_ahead.nd rfl (by first | exact Or.inl rfl | exact Or.inr rfl)) gs_nil))) ?_
  show SJ _ _ _ [some (fz (t_Machine C_Machine) x_machine), some (fz (t_Machine C_Machine) x_other), some (fz (tP2 tInt tInt) x_pair), some (fz tInt x_pair.1), some (fz tInt x_pair.2)] _
  obtain ⟨t1, h_t1, h⟩ := bnd h
  obtain ⟨t2, h_t2, h⟩ := bnd h
  (simp only [Option.some.injEq, Prod.mk.injEq] at h; first | subst h | (obtain ⟨_, _⟩ := h; subst_vars))
  exact sj_ret (rs := rs_end_ahead C_Machine) (ls := ls_end_ahead C_Machine) (y := (t1 - t2)) (ej_sub (ej_ix ix_list (v2_ixL rd_fz h_t1) (ej_fld (j := 3) (ej_var (i := 0) rfl (by first | exact Or.inl rfl | exact Or.inr (Or.inl rfl) | exact Or.inr (Or.inr rfl)) rfl) cl_Machine na_Machine_leave rfl rfl) (ej_var (i := 3) rfl (by first | exact Or.inl rfl | exact Or.inr (Or.inl rfl) | exact Or.inr (Or.inr rfl)) rfl) (fun _ _ => rfl)) (ej_ix ix_list (v2_ixL rd_fz h_t2) (ej_fld (j := 3) (ej_var (i := 1) rfl (by first | exact Or.inl rfl | exact Or.inr (Or.inl rfl) | exact Or.inr (Or.inr rfl)) rfl) cl_Machine na_Machine_leave rfl rfl) (ej_var (i := 4) rfl (by first | exact Or.inl rfl | exact Or.inr (Or.inl rfl) | exact Or.inr (Or.inr rfl)) rfl) (fun _ _ => rfl))) rfl rfl (show List.Nodup ([] : List Nat) by decide) rfl

abbrev O_add_rows : Type := Unit × D_Pairs
def m_add_rows (x_pairs : D_Pairs) (x_machine : D_Machine) (x_other : D_Machine) (x_pair : (Int × Int)) : Option O_add_rows := (((foldO (S := D_Pairs × (List (Str × Int))) (fun (s1 : D_Pairs × (List (Str × Int))) (y2 : Str) => ((m_next_pair x_machine x_other x_pair y2).bind fun t3 => (m_place_of t3 s1.1.pairs s1.1.places).bind fun t4 => (grd (Sm (s1.2).length) ()).bind fun g5 => some ((D_Pairs.mk s1.1.facts t4.2.1 t4.2.2 s1.1.step s1.1.gain s1.1.end_), (aput s1.2 y2 t4.1)))) ((D_Pairs.mk x_pairs.facts x_pairs.pairs x_pairs.places x_pairs.step x_pairs.gain x_pairs.end_), ([] : (List (Str × Int)))) x_pairs.facts).bind fun j6 => ((grd (Sm (j6.1.step).length) ()).bind fun g8 => ((grd (Sm (j6.1.facts).length) ()).bind fun g10 => (dicC (fun (y9 : Str) => ((m_gain_ahead x_machine x_other x_pair y9).bind fun t11 => some (y9, t11))) [] j6.1.facts).bind fun t12 => (grd (Sm (j6.1.gain).length) ()).bind fun g13 => ((m_end_ahead x_machine x_other x_pair).bind fun t14 => (grd (Sm (j6.1.end_).length) ()).bind fun g15 => some ((), (D_Pairs.mk j6.1.facts j6.1.pairs j6.1.places (j6.1.step ++ [j6.2]) (j6.1.gain ++ [t12]) (j6.1.end_ ++ [t14]))))))))
def rs_add_rows (C_Machine : Addr) (C_Pairs : Addr) : O_add_rows → Sh := fun o => (fz tNon o.1)
def ls_add_rows (C_Machine : Addr) (C_Pairs : Addr) : O_add_rows → List Sh := fun o => [(oIns C_Pairs ["facts", "pairs", "places", "step", "gain", "end"] [(fz (tList tStr) o.2.facts), (oL (tP2 tInt tInt) o.2.pairs), (oD (kP2 fInt fInt) tInt o.2.places), (oL (tDic kStr tInt) o.2.step), (oL (tDic kStr tInt) o.2.gain), (oL tInt o.2.end_)])]
def P_add_rows (C_Machine : Addr) (C_Pairs : Addr) : Phi := fun ss r L => ∃ (x_pairs : D_Pairs) (x_machine : D_Machine) (x_other : D_Machine) (x_pair : (Int × Int)) (o : O_add_rows), m_add_rows x_pairs x_machine x_other x_pair = some o ∧ ss = [(oIns C_Pairs ["facts", "pairs", "places", "step", "gain", "end"] [(fz (tList tStr) x_pairs.facts), (oL (tP2 tInt tInt) x_pairs.pairs), (oD (kP2 fInt fInt) tInt x_pairs.places), (oL (tDic kStr tInt) x_pairs.step), (oL (tDic kStr tInt) x_pairs.gain), (oL tInt x_pairs.end_)]), (fz (t_Machine C_Machine) x_machine), (fz (t_Machine C_Machine) x_other), (fz (tP2 tInt tInt) x_pair)] ∧ r = rs_add_rows C_Machine C_Pairs o ∧ L = [(0, (oIns C_Pairs ["facts", "pairs", "places", "step", "gain", "end"] [(fz (tList tStr) o.2.facts), (oL (tP2 tInt tInt) o.2.pairs), (oD (kP2 fInt fInt) tInt o.2.places), (oL (tDic kStr tInt) o.2.step), (oL (tDic kStr tInt) o.2.gain), (oL tInt o.2.end_)]))]
theorem ok_add_rows {C_Machine : Addr} {C_Pairs : Addr} (cl_Pairs : Cls K C_Pairs) (na_Pairs_facts : NoAttr K C_Pairs "facts") (C_next_pair : CalG P w K mg base CX0 1 "next_pair" ["machine", "other", "pair", "fact"] (spS 4 (P_next_pair C_Machine))) (na_Pairs_pairs : NoAttr K C_Pairs "pairs") (na_Pairs_places : NoAttr K C_Pairs "places") (C_place_of : CalG P w K mg base CX0 1 "place_of" ["key", "met", "places"] (spS 3 P_place_of)) (na_Pairs_step : NoAttr K C_Pairs "step") (na_Pairs_gain : NoAttr K C_Pairs "gain") (C_gain_ahead : CalG P w K mg base CX0 1 "gain_ahead" ["machine", "other", "pair", "fact"] (spS 4 (P_gain_ahead C_Machine))) (na_Pairs_end : NoAttr K C_Pairs "end") (C_end_ahead : CalG P w K mg base CX0 1 "end_ahead" ["machine", "other", "pair"] (spS 3 (P_end_ahead C_Machine))) {f0 : Addr} {fd : FuncData} (D : Fun K "add_rows" "add_rows" s_add_rows f0 fd) : FnG P w K mg base CX0 2 f0 fd ["pairs", "machine", "other", "pair"] (spS 4 (P_add_rows C_Machine C_Pairs)) := by
  refine Fun.okS D sc_add_rows rfl (by decide) fun X0 s H A outer cdv E ss r L vs hr hlen hP => ?_
  obtain ⟨x_pairs, x_machine, x_other, x_pair, o_, h, rfl, rfl, rfl⟩ := hP
  obtain ⟨v0, v1, v2, v3, rfl⟩ : ∃ v0 v1 v2 v3, vs = [v0, v1, v2, v3] := by
    match vs, hlen with
    | [v0, v1, v2, v3], _ => exact ⟨v0, v1, v2, v3, rfl⟩
  refine ⟨_, rs_add_rows C_Machine C_Pairs, ls_add_rows C_Machine C_Pairs, o_, [(0, v0)], rfl, rfl, by intro p hp; simp only [List.mem_cons, List.not_mem_nil, or_false] at hp; subst hp; rfl, rfl, ?_⟩
  clear X0
  unfold m_add_rows at h
  show SJ _ _ _ [some (oIns C_Pairs ["facts", "pairs", "places", "step", "gain", "end"] [(fz (tList tStr) x_pairs.facts), (oL (tP2 tInt tInt) x_pairs.pairs), (oD (kP2 fInt fInt) tInt x_pairs.places), (oL (tDic kStr tInt) x_pairs.step), (oL (tDic kStr tInt) x_pairs.gain), (oL tInt x_pairs.end_)]), some (fz (t_Machine C_Machine) x_machine), some (fz (t_Machine C_Machine) x_other), some (fz (tP2 tInt tInt) x_pair), none, none] _
  refine sj_set (i := 4) (s := (oD kStr tInt ([] : (List (Str × Int))))) sc_add_rows.nd rfl (by first | exact Or.inl rfl | exact Or.inr rfl) (ej_dnew (kd := fStr) (τ := tInt)) ?_
  show SJ _ _ _ [some (oIns C_Pairs ["facts", "pairs", "places", "step", "gain", "end"] [(fz (tList tStr) x_pairs.facts), (oL (tP2 tInt tInt) x_pairs.pairs), (oD (kP2 fInt fInt) tInt x_pairs.places), (oL (tDic kStr tInt) x_pairs.step), (oL (tDic kStr tInt) x_pairs.gain), (oL tInt x_pairs.end_)]), some (fz (t_Machine C_Machine) x_machine), some (fz (t_Machine C_Machine) x_other), some (fz (tP2 tInt tInt) x_pair), some (oD kStr tInt ([] : (List (Str × Int)))), none] _
  obtain ⟨j6, h_j6, h⟩ := bnd h
  refine sj_for (sh := fz tStr) (Γs := fun (s1 : D_Pairs × (List (Str × Int))) => [some (oIns C_Pairs ["facts", "pairs", "places", "step", "gain", "end"] [(fz (tList tStr) s1.1.facts), (oL (tP2 tInt tInt) s1.1.pairs), (oD (kP2 fInt fInt) tInt s1.1.places), (oL (tDic kStr tInt) s1.1.step), (oL (tDic kStr tInt) s1.1.gain), (oL tInt s1.1.end_)]), some (fz (t_Machine C_Machine) x_machine), some (fz (t_Machine C_Machine) x_other), some (fz (tP2 tInt tInt) x_pair), some (oD kStr tInt s1.2), none]) (Γy := fun (s1 : D_Pairs × (List (Str × Int))) y2 => [some (oIns C_Pairs ["facts", "pairs", "places", "step", "gain", "end"] [(fz (tList tStr) s1.1.facts), (oL (tP2 tInt tInt) s1.1.pairs), (oD (kP2 fInt fInt) tInt s1.1.places), (oL (tDic kStr tInt) s1.1.step), (oL (tDic kStr tInt) s1.1.gain), (oL tInt s1.1.end_)]), some (fz (t_Machine C_Machine) x_machine), some (fz (t_Machine C_Machine) x_other), some (fz (tP2 tInt tInt) x_pair), some (oD kStr tInt s1.2), some (fz tStr y2)]) (fl := [true, true, true, true, true, true]) (rs_add_rows C_Machine C_Pairs) (ls_add_rows C_Machine C_Pairs) h_j6 (ij_lst (ej_fldF (fj_var (i := 0) rfl (by first | exact Or.inl rfl | exact Or.inr (Or.inl rfl) | exact Or.inr (Or.inr rfl)) rfl) rdi_o cl_Pairs na_Pairs_facts rfl rfl)) rfl rfl (fun s1 y2 => (gj_name (i := 5) sc_add_rows.nd rfl (by first | exact Or.inl rfl | exact Or.inr rfl))) ?_ ?_ PassesOwn.never rfl
  · intro s1 y2 o_ h_hy7 h
    clear h_j6; have h := h
    show SJ _ _ _ [some (oIns C_Pairs ["facts", "pairs", "places", "step", "gain", "end"] [(fz (tList tStr) s1.1.facts), (oL (tP2 tInt tInt) s1.1.pairs), (oD (kP2 fInt fInt) tInt s1.1.places), (oL (tDic kStr tInt) s1.1.step), (oL (tDic kStr tInt) s1.1.gain), (oL tInt s1.1.end_)]), some (fz (t_Machine C_Machine) x_machine), some (fz (t_Machine C_Machine) x_other), some (fz (tP2 tInt tInt) x_pair), some (oD kStr tInt s1.2), some (fz tStr y2)] _
    obtain ⟨t3, h_t3, h⟩ := bnd h
    obtain ⟨t4, h_t4, h⟩ := bnd h
    obtain ⟨g5, h_g5, h⟩ := bnd h
    refine sj_dput (i := 4) (hu_of hr.room) rfl (by first | exact Or.inl rfl | exact Or.inr (Or.inl rfl) | exact Or.inr (Or.inr rfl)) (ej_call1FF (i := 0) C_place_of (hr.mono (by decide)) (by rfl) pass0 (ej_callP (ss := [_, _, _, _]) C_next_pair (hr.mono (by decide)) (by rfl) pass0 (aj_cons (ej_var (i := 1) rfl (by first | exact Or.inl rfl | exact Or.inr (Or.inl rfl) | exact Or.inr (Or.inr rfl)) rfl) (aj_cons (ej_var (i := 2) rfl (by first | exact Or.inl rfl | exact Or.inr (Or.inl rfl) | exact Or.inr (Or.inr rfl)) rfl) (aj_cons (ej_var (i := 3) rfl (by first | exact Or.inl rfl | exact Or.inr (Or.inl rfl) | exact Or.inr (Or.inr rfl)) rfl) (aj_cons (ej_var (i := 5) rfl (by first | exact Or.inl rfl | exact Or.inr (Or.inl rfl) | exact Or.inr (Or.inr rfl)) rfl) aj_nil)))) ⟨x_machine, x_other, x_pair, y2, t3, h_t3, rfl, rfl, rfl⟩) rfl (by first | exact Or.inl rfl | exact Or.inr (Or.inl rfl) | exact Or.inr (Or.inr rfl)) rfl cl_Pairs na_Pairs_pairs na_Pairs_places rfl rfl rfl rfl (by decide) ⟨t3, s1.1.pairs, s1.1.places, t4, h_t4, rfl, rfl, rfl⟩) rfl (ej_var (i := 5) rfl (by first | exact Or.inl rfl | exact Or.inr (Or.inl rfl) | exact Or.inr (Or.inr rfl)) rfl) (grd_iff h_g5).1 ?_
    show SJ _ _ _ [some (oIns C_Pairs ["facts", "pairs", "places", "step", "gain", "end"] [(fz (tList tStr) s1.1.facts), (oL (tP2 tInt tInt) t4.2.1), (oD (kP2 fInt fInt) tInt t4.2.2), (oL (tDic kStr tInt) s1.1.step), (oL (tDic kStr tInt) s1.1.gain), (oL tInt s1.1.end_)]), some (fz (t_Machine C_Machine) x_machine), some (fz (t_Machine C_Machine) x_other), some (fz (tP2 tInt tInt) x_pair), some (oD kStr tInt (aput s1.2 y2 t4.1)), some (fz tStr y2)] _
    (simp only [Option.some.injEq, Prod.mk.injEq] at h; first | subst h | (obtain ⟨_, _⟩ := h; subst_vars))
    exact sj_end (fl := [true, true, true, true, true, false]) rfl rfl
  show SJ _ _ _ [some (oIns C_Pairs ["facts", "pairs", "places", "step", "gain", "end"] [(fz (tList tStr) j6.1.facts), (oL (tP2 tInt tInt) j6.1.pairs), (oD (kP2 fInt fInt) tInt j6.1.places), (oL (tDic kStr tInt) j6.1.step), (oL (tDic kStr tInt) j6.1.gain), (oL tInt j6.1.end_)]), some (fz (t_Machine C_Machine) x_machine), some (fz (t_Machine C_Machine) x_other), some (fz (tP2 tInt tInt) x_pair), some (oD kStr tInt j6.2), none] _
  refine sj_fz (i := 4) rfl fz_oD ?_
  show SJ _ _ _ [some (oIns C_Pairs ["facts", "pairs", "places", "step", "gain", "end"] [(fz (tList tStr) j6.1.facts), (oL (tP2 tInt tInt) j6.1.pairs), (oD (kP2 fInt fInt) tInt j6.1.places), (oL (tDic kStr tInt) j6.1.step), (oL (tDic kStr tInt) j6.1.gain), (oL tInt j6.1.end_)]), some (fz (t_Machine C_Machine) x_machine), some (fz (t_Machine C_Machine) x_other), some (fz (tP2 tInt tInt) x_pair), some (fz (tDic kStr tInt) j6.2), none] _
  obtain ⟨g8, h_g8, h⟩ := bnd h
  refine sj_expr (ej_appF (fj_fld (fj_var (i := 0) rfl (by first | exact Or.inl rfl | exact Or.inr (Or.inl rfl) | exact Or.inr (Or.inr rfl)) rfl) cl_Pairs na_Pairs_step rfl rfl) (aj_cons (ej_var (i := 4) rfl (by first | exact Or.inl rfl | exact Or.inr (Or.inl rfl) | exact Or.inr (Or.inr rfl)) rfl) aj_nil) (grd_iff h_g8).1) ?_
  show SJ _ _ _ [some (oIns C_Pairs ["facts", "pairs", "places", "step", "gain", "end"] [(fz (tList tStr) j6.1.facts), (oL (tP2 tInt tInt) j6.1.pairs), (oD (kP2 fInt fInt) tInt j6.1.places), (oL (tDic kStr tInt) (j6.1.step ++ [j6.2])), (oL (tDic kStr tInt) j6.1.gain), (oL tInt j6.1.end_)]), some (fz (t_Machine C_Machine) x_machine), some (fz (t_Machine C_Machine) x_other), some (fz (tP2 tInt tInt) x_pair), some (fz (tDic kStr tInt) j6.2), none] _
  obtain ⟨g10, h_g10, h⟩ := bnd h
  obtain ⟨t12, h_t12, h⟩ := bnd h
  obtain ⟨g13, h_g13, h⟩ := bnd h
  refine sj_expr (ej_appF (fj_fld (fj_var (i := 0) rfl (by first | exact Or.inl rfl | exact Or.inr (Or.inl rfl) | exact Or.inr (Or.inr rfl)) rfl) cl_Pairs na_Pairs_gain rfl rfl) (aj_cons (ej_fz (lcj_e (dcP (Γy := fun y9 => [some (oIns C_Pairs ["facts", "pairs", "places", "step", "gain", "end"] [(fz (tList tStr) j6.1.facts), (oL (tP2 tInt tInt) j6.1.pairs), (oD (kP2 fInt fInt) tInt j6.1.places), (oL (tDic kStr tInt) (j6.1.step ++ [j6.2])), (oL (tDic kStr tInt) j6.1.gain), (oL tInt j6.1.end_)]), some (fz (t_Machine C_Machine) x_machine), some (fz (t_Machine C_Machine) x_other), some (fz (tP2 tInt tInt) x_pair), some (fz (tDic kStr tInt) j6.2), some (fz tStr y9)]) (own := [("fact", 5)]) (kd := fStr) (fun _ _ _ _ _ y9 => (gj0_name (i := 5) sc_add_rows.nd rfl (by first | exact Or.inl rfl | exact Or.inr rfl) (z_none rfl))) (fun _ _ _ _ _ y9 k z hm h => (by have h := h; obtain ⟨t11, h_t11, h⟩ := bnd h;  simp only [Option.some.injEq, Prod.mk.injEq] at h; obtain ⟨rfl, rfl⟩ := h; exact (ej_var (i := 5) rfl (by first | exact Or.inl rfl | exact Or.inr (Or.inl rfl) | exact Or.inr (Or.inr rfl)) rfl))) (fun _ _ _ _ _ y9 k z hm h => (by have h := h; obtain ⟨t11, h_t11, h⟩ := bnd h;  simp only [Option.some.injEq, Prod.mk.injEq] at h; obtain ⟨rfl, rfl⟩ := h; exact (ej_callP (ss := [_, _, _, _]) C_gain_ahead (hr.mono (by decide)) (by rfl) pass0 (aj_cons (ej_var (i := 1) rfl (by first | exact Or.inl rfl | exact Or.inr (Or.inl rfl) | exact Or.inr (Or.inr rfl)) rfl) (aj_cons (ej_var (i := 2) rfl (by first | exact Or.inl rfl | exact Or.inr (Or.inl rfl) | exact Or.inr (Or.inr rfl)) rfl) (aj_cons (ej_var (i := 3) rfl (by first | exact Or.inl rfl | exact Or.inr (Or.inl rfl) | exact Or.inr (Or.inr rfl)) rfl) (aj_cons (ej_var (i := 5) rfl (by first | exact Or.inl rfl | exact Or.inr (Or.inl rfl) | exact Or.inr (Or.inr rfl)) rfl) aj_nil)))) ⟨x_machine, x_other, x_pair, y9, t11, h_t11, rfl, rfl, rfl⟩))) h_t12 (grd_iff h_g10).1 rfl sc_add_rows.nd (ij_lst (ej_fldF (fj_var (i := 0) rfl (by first | exact Or.inl rfl | exact Or.inr (Or.inl rfl) | exact Or.inr (Or.inr rfl)) rfl) rdi_o cl_Pairs na_Pairs_facts rfl rfl)) (blkOk_by (own := [("fact", 5)]) (N := n_add_rows) (sc := defScope s_add_rows) (by decide +kernel)) ⟨z_none rfl, trivial⟩)) fz_oD) aj_nil) (grd_iff h_g13).1) ?_
  show SJ _ _ _ [some (oIns C_Pairs ["facts", "pairs", "places", "step", "gain", "end"] [(fz (tList tStr) j6.1.facts), (oL (tP2 tInt tInt) j6.1.pairs), (oD (kP2 fInt fInt) tInt j6.1.places), (oL (tDic kStr tInt) (j6.1.step ++ [j6.2])), (oL (tDic kStr tInt) (j6.1.gain ++ [t12])), (oL tInt j6.1.end_)]), some (fz (t_Machine C_Machine) x_machine), some (fz (t_Machine C_Machine) x_other), some (fz (tP2 tInt tInt) x_pair), some (fz (tDic kStr tInt) j6.2), none] _
  obtain ⟨t14, h_t14, h⟩ := bnd h
  obtain ⟨g15, h_g15, h⟩ := bnd h
  refine sj_expr (ej_appF (fj_fld (fj_var (i := 0) rfl (by first | exact Or.inl rfl | exact Or.inr (Or.inl rfl) | exact Or.inr (Or.inr rfl)) rfl) cl_Pairs na_Pairs_end rfl rfl) (aj_cons (ej_callP (ss := [_, _, _]) C_end_ahead (hr.mono (by decide)) (by rfl) pass0 (aj_cons (ej_var (i := 1) rfl (by first | exact Or.inl rfl | exact Or.inr (Or.inl rfl) | exact Or.inr (Or.inr rfl)) rfl) (aj_cons (ej_var (i := 2) rfl (by first | exact Or.inl rfl | exact Or.inr (Or.inl rfl) | exact Or.inr (Or.inr rfl)) rfl) (aj_cons (ej_var (i := 3) rfl (by first | exact Or.inl rfl | exact Or.inr (Or.inl rfl) | exact Or.inr (Or.inr rfl)) rfl) aj_nil))) ⟨x_machine, x_other, x_pair, t14, h_t14, rfl, rfl, rfl⟩) aj_nil) (grd_iff h_g15).1) ?_
  show SJ _ _ _ [some (oIns C_Pairs ["facts", "pairs", "places", "step", "gain", "end"] [(fz (tList tStr) j6.1.facts), (oL (tP2 tInt tInt) j6.1.pairs), (oD (kP2 fInt fInt) tInt j6.1.places), (oL (tDic kStr tInt) (j6.1.step ++ [j6.2])), (oL (tDic kStr tInt) (j6.1.gain ++ [t12])), (oL tInt (j6.1.end_ ++ [t14]))]), some (fz (t_Machine C_Machine) x_machine), some (fz (t_Machine C_Machine) x_other), some (fz (tP2 tInt tInt) x_pair), some (fz (tDic kStr tInt) j6.2), none] _
  (simp only [Option.some.injEq, Prod.mk.injEq] at h; first | subst h | (obtain ⟨_, _⟩ := h; subst_vars))
  exact sj_fin (rs := rs_add_rows C_Machine C_Pairs) (ls := ls_add_rows C_Machine C_Pairs) (fun _ => ⟨rfl, rfl⟩) rfl (show List.Nodup ([0] : List Nat) by decide)

abbrev O_Pairs_init : Type := D_Pairs
noncomputable def m_Pairs_init (x_machine : D_Machine) (x_other : D_Machine) (x_begins : (List (Int × Int))) : Option O_Pairs_init := ((if (!(decide (x_machine.facts = x_other.facts))) = true then none else ((((((((foldO (S := D_Pairs) (fun (s2 : D_Pairs) (y3 : (Int × Int)) => ((m_place_of y3 s2.pairs s2.places).bind fun t4 => some ((D_Pairs.mk s2.facts t4.2.1 t4.2.2 s2.step s2.gain s2.end_)))) ((D_Pairs.mk x_machine.facts ([] : List (Int × Int)) ([] : (List ((Int × Int) × Int))) ([] : List (List (Str × Int))) ([] : List (List (Str × Int))) ([] : List Int))) x_begins).bind fun j5 => ((whileX (ρ := O_Pairs_init) (S := D_Pairs) (fun (s7 : D_Pairs) => ((m_Pairs_manyR (D_Pairs.mk s7.facts s7.pairs s7.places s7.step s7.gain s7.end_)).bind fun t8 => some ((decide (t8 < ((s7.pairs).length : Int))), s7))) (fun (s7 : D_Pairs) => ((m_Pairs_manyR (D_Pairs.mk s7.facts s7.pairs s7.places s7.step s7.gain s7.end_)).bind fun t9 => (atI s7.pairs t9).bind fun t10 => (m_add_rows (D_Pairs.mk s7.facts s7.pairs s7.places s7.step s7.gain s7.end_) x_machine x_other t10).bind fun t11 => some (Oc.nx ((D_Pairs.mk t11.2.facts t11.2.pairs t11.2.places t11.2.step t11.2.gain t11.2.end_))))) ((D_Pairs.mk j5.facts j5.pairs j5.places j5.step j5.gain j5.end_))).bind fun j12 => match j12 with | .ret r14 => some r14 | .nx s13 => some (D_Pairs.mk s13.facts s13.pairs s13.places s13.step s13.gain s13.end_)))))))))))
def rs_Pairs_init (C_Machine : Addr) (C_Pairs : Addr) : O_Pairs_init → Sh := fun _ => fz tNon ()
def ls_Pairs_init (C_Machine : Addr) (C_Pairs : Addr) : O_Pairs_init → List Sh := fun o => [(oIns C_Pairs ["facts", "pairs", "places", "step", "gain", "end"] [(fz (tList tStr) o.facts), (oL (tP2 tInt tInt) o.pairs), (oD (kP2 fInt fInt) tInt o.places), (oL (tDic kStr tInt) o.step), (oL (tDic kStr tInt) o.gain), (oL tInt o.end_)])]
def P_Pairs_init (C_Machine : Addr) (C_Pairs : Addr) : Phi := fun ss r L => ∃ (x_machine : D_Machine) (x_other : D_Machine) (x_begins : (List (Int × Int))) (o : O_Pairs_init), m_Pairs_init x_machine x_other x_begins = some o ∧ ss = [(oIns C_Pairs [] []), (fz (t_Machine C_Machine) x_machine), (fz (t_Machine C_Machine) x_other), (fz (tList (tP2 tInt tInt)) x_begins)] ∧ r = rs_Pairs_init C_Machine C_Pairs o ∧ L = [(0, (oIns C_Pairs ["facts", "pairs", "places", "step", "gain", "end"] [(fz (tList tStr) o.facts), (oL (tP2 tInt tInt) o.pairs), (oD (kP2 fInt fInt) tInt o.places), (oL (tDic kStr tInt) o.step), (oL (tDic kStr tInt) o.gain), (oL tInt o.end_)]))]
theorem ok_Pairs_init {C_Machine : Addr} {C_Pairs : Addr} (cl_Machine : Cls K C_Machine) (na_Machine_facts : NoAttr K C_Machine "facts") (m_list : mg "list" = none) (cl_Pairs : Cls K C_Pairs) (na_Pairs_facts : NoAttr K C_Pairs "facts") (na_Pairs_pairs : NoAttr K C_Pairs "pairs") (na_Pairs_places : NoAttr K C_Pairs "places") (na_Pairs_step : NoAttr K C_Pairs "step") (na_Pairs_gain : NoAttr K C_Pairs "gain") (na_Pairs_end : NoAttr K C_Pairs "end") (C_place_of : CalG P w K mg base CX0 1 "place_of" ["key", "met", "places"] (spS 3 P_place_of)) (N_Pairs_manyR : Met P w K mg base 1 C_Pairs "many" ["self"] (spR 1 (P_Pairs_manyR C_Pairs))) (m_len : mg "len" = none) (C_add_rows : CalG P w K mg base CX0 2 "add_rows" ["pairs", "machine", "other", "pair"] (spS 4 (P_add_rows C_Machine C_Pairs))) {f0 : Addr} {fd : FuncData} (D : Fun K "__init__" "Pairs.__init__" s_Pairs_init f0 fd) : FnG P w K mg base CX0 3 f0 fd ["self", "machine", "other", "begins"] (spS 4 (P_Pairs_init C_Machine C_Pairs)) := by
  refine Fun.okS D sc_Pairs_init rfl (by decide) fun X0 s H A outer cdv E ss r L vs hr hlen hP => ?_
  obtain ⟨x_machine, x_other, x_begins, o_, h, rfl, rfl, rfl⟩ := hP
  obtain ⟨v0, v1, v2, v3, rfl⟩ : ∃ v0 v1 v2 v3, vs = [v0, v1, v2, v3] := by
    match vs, hlen with
    | [v0, v1, v2, v3], _ => exact ⟨v0, v1, v2, v3, rfl⟩
  refine ⟨_, rs_Pairs_init C_Machine C_Pairs, ls_Pairs_init C_Machine C_Pairs, o_, [(0, v0)], rfl, rfl, by intro p hp; simp only [List.mem_cons, List.not_mem_nil, or_false] at hp; subst hp; rfl, rfl, ?_⟩
  clear X0
  unfold m_Pairs_init at h
  show SJ _ _ _ [some (oIns C_Pairs [] []), some (fz (t_Machine C_Machine) x_machine), some (fz (t_Machine C_Machine) x_other), some (fz (tList (tP2 tInt tInt)) x_begins), none] _
  refine sj_ifT (t := (!(decide (x_machine.facts = x_other.facts)))) (tj_cmp (ej_neL (hu1 hr) (ej_fld (j := 0) (ej_var (i := 1) rfl (by first | exact Or.inl rfl | exact Or.inr (Or.inl rfl) | exact Or.inr (Or.inr rfl)) rfl) cl_Machine na_Machine_facts rfl rfl) (ej_fld (j := 0) (ej_var (i := 2) rfl (by first | exact Or.inl rfl | exact Or.inr (Or.inl rfl) | exact Or.inr (Or.inr rfl)) rfl) cl_Machine na_Machine_facts rfl rfl))) ?_ ?_
  · intro h_b1
    replace h := ifT h_b1 h
    show SJ _ _ _ [some (oIns C_Pairs [] []), some (fz (t_Machine C_Machine) x_machine), some (fz (t_Machine C_Machine) x_other), some (fz (tList (tP2 tInt tInt)) x_begins), none] _
    cases h
  intro h_b1
  replace h := ifF h_b1 h
  show SJ _ _ _ [some (oIns C_Pairs [] []), some (fz (t_Machine C_Machine) x_machine), some (fz (t_Machine C_Machine) x_other), some (fz (tList (tP2 tInt tInt)) x_begins), none] _
  refine sj_fldnew (i := 0) (s := (fz (tList tStr) x_machine.facts)) rfl (by first | exact Or.inl rfl | exact Or.inr (Or.inl rfl) | exact Or.inr (Or.inr rfl)) (ej_fz (ej_ty (ss := [_]) Dl.cl_list (va_listL rd_fz) (by rfl) m_list bt_list (aj_cons (ej_fld (j := 0) (ej_var (i := 1) rfl (by first | exact Or.inl rfl | exact Or.inr (Or.inl rfl) | exact Or.inr (Or.inr rfl)) rfl) cl_Machine na_Machine_facts rfl rfl) aj_nil)) fz_oL) rfl cl_Pairs na_Pairs_facts (by decide) (by decide) ?_
  show SJ _ _ _ [some (oIns C_Pairs ["facts"] [(fz (tList tStr) x_machine.facts)]), some (fz (t_Machine C_Machine) x_machine), some (fz (t_Machine C_Machine) x_other), some (fz (tList (tP2 tInt tInt)) x_begins), none] _
  refine sj_fldnew (i := 0) (s := (oL (tP2 tInt tInt) ([] : List (Int × Int)))) rfl (by first | exact Or.inl rfl | exact Or.inr (Or.inl rfl) | exact Or.inr (Or.inr rfl)) (ej_oL (τ := (tP2 tInt tInt)) (xs := ([] : List (Int × Int))) (ej_lst (ss := []) aj_nil)) rfl cl_Pairs na_Pairs_pairs (by decide) (by decide) ?_
  show SJ _ _ _ [some (oIns C_Pairs ["facts", "pairs"] [(fz (tList tStr) x_machine.facts), (oL (tP2 tInt tInt) ([] : List (Int × Int)))]), some (fz (t_Machine C_Machine) x_machine), some (fz (t_Machine C_Machine) x_other), some (fz (tList (tP2 tInt tInt)) x_begins), none] _
  refine sj_fldnew (i := 0) (s := (oD (kP2 fInt fInt) tInt ([] : (List ((Int × Int) × Int))))) rfl (by first | exact Or.inl rfl | exact Or.inr (Or.inl rfl) | exact Or.inr (Or.inr rfl)) (show EJ _ _ _ none (oD (kP2 fInt fInt) tInt []) from ej_dnewT) rfl cl_Pairs na_Pairs_places (by decide) (by decide) ?_
  show SJ _ _ _ [some (oIns C_Pairs ["facts", "pairs", "places"] [(fz (tList tStr) x_machine.facts), (oL (tP2 tInt tInt) ([] : List (Int × Int))), (oD (kP2 fInt fInt) tInt ([] : (List ((Int × Int) × Int))))]), some (fz (t_Machine C_Machine) x_machine), some (fz (t_Machine C_Machine) x_other), some (fz (tList (tP2 tInt tInt)) x_begins), none] _
  refine sj_fldnew (i := 0) (s := (oL (tDic kStr tInt) ([] : List (List (Str × Int))))) rfl (by first | exact Or.inl rfl | exact Or.inr (Or.inl rfl) | exact Or.inr (Or.inr rfl)) (ej_oL (τ := (tDic kStr tInt)) (xs := ([] : List (List (Str × Int)))) (ej_lst (ss := []) aj_nil)) rfl cl_Pairs na_Pairs_step (by decide) (by decide) ?_
  show SJ _ _ _ [some (oIns C_Pairs ["facts", "pairs", "places", "step"] [(fz (tList tStr) x_machine.facts), (oL (tP2 tInt tInt) ([] : List (Int × Int))), (oD (kP2 fInt fInt) tInt ([] : (List ((Int × Int) × Int)))), (oL (tDic kStr tInt) ([] : List (List (Str × Int))))]), some (fz (t_Machine C_Machine) x_machine), some (fz (t_Machine C_Machine) x_other), some (fz (tList (tP2 tInt tInt)) x_begins), none] _
  refine sj_fldnew (i := 0) (s := (oL (tDic kStr tInt) ([] : List (List (Str × Int))))) rfl (by first | exact Or.inl rfl | exact Or.inr (Or.inl rfl) | exact Or.inr (Or.inr rfl)) (ej_oL (τ := (tDic kStr tInt)) (xs := ([] : List (List (Str × Int)))) (ej_lst (ss := []) aj_nil)) rfl cl_Pairs na_Pairs_gain (by decide) (by decide) ?_
  show SJ _ _ _ [some (oIns C_Pairs ["facts", "pairs", "places", "step", "gain"] [(fz (tList tStr) x_machine.facts), (oL (tP2 tInt tInt) ([] : List (Int × Int))), (oD (kP2 fInt fInt) tInt ([] : (List ((Int × Int) × Int)))), (oL (tDic kStr tInt) ([] : List (List (Str × Int)))), (oL (tDic kStr tInt) ([] : List (List (Str × Int))))]), some (fz (t_Machine C_Machine) x_machine), some (fz (t_Machine C_Machine) x_other), some (fz (tList (tP2 tInt tInt)) x_begins), none] _
  refine sj_fldnew (i := 0) (s := (oL tInt ([] : List Int))) rfl (by first | exact Or.inl rfl | exact Or.inr (Or.inl rfl) | exact Or.inr (Or.inr rfl)) (ej_oL (τ := tInt) (xs := ([] : List Int)) (ej_lst (ss := []) aj_nil)) rfl cl_Pairs na_Pairs_end (by decide) (by decide) ?_
  show SJ _ _ _ [some (oIns C_Pairs ["facts", "pairs", "places", "step", "gain", "end"] [(fz (tList tStr) x_machine.facts), (oL (tP2 tInt tInt) ([] : List (Int × Int))), (oD (kP2 fInt fInt) tInt ([] : (List ((Int × Int) × Int)))), (oL (tDic kStr tInt) ([] : List (List (Str × Int)))), (oL (tDic kStr tInt) ([] : List (List (Str × Int)))), (oL tInt ([] : List Int))]), some (fz (t_Machine C_Machine) x_machine), some (fz (t_Machine C_Machine) x_other), some (fz (tList (tP2 tInt tInt)) x_begins), none] _
  obtain ⟨j5, h_j5, h⟩ := bnd h
  refine sj_for (sh := fz (tP2 tInt tInt)) (Γs := fun (s2 : D_Pairs) => [some (oIns C_Pairs ["facts", "pairs", "places", "step", "gain", "end"] [(fz (tList tStr) s2.facts), (oL (tP2 tInt tInt) s2.pairs), (oD (kP2 fInt fInt) tInt s2.places), (oL (tDic kStr tInt) s2.step), (oL (tDic kStr tInt) s2.gain), (oL tInt s2.end_)]), some (fz (t_Machine C_Machine) x_machine), some (fz (t_Machine C_Machine) x_other), some (fz (tList (tP2 tInt tInt)) x_begins), none]) (Γy := fun (s2 : D_Pairs) y3 => [some (oIns C_Pairs ["facts", "pairs", "places", "step", "gain", "end"] [(fz (tList tStr) s2.facts), (oL (tP2 tInt tInt) s2.pairs), (oD (kP2 fInt fInt) tInt s2.places), (oL (tDic kStr tInt) s2.step), (oL (tDic kStr tInt) s2.gain), (oL tInt s2.end_)]), some (fz (t_Machine C_Machine) x_machine), some (fz (t_Machine C_Machine) x_other), some (fz (tList (tP2 tInt tInt)) x_begins), some (fz (tP2 tInt tInt) y3)]) (fl := [true, true, true, true, true]) (rs_Pairs_init C_Machine C_Pairs) (ls_Pairs_init C_Machine C_Pairs) h_j5 (ij_lst (ej_var (i := 3) rfl (by first | exact Or.inl rfl | exact Or.inr (Or.inl rfl) | exact Or.inr (Or.inr rfl)) rfl)) rfl rfl (fun s2 y3 => (gj_name (i := 4) sc_Pairs_init.nd rfl (by first | exact Or.inl rfl | exact Or.inr rfl))) ?_ ?_ PassesOwn.never rfl
  · intro s2 y3 o_ h_hy6 h
    clear h_j5; have h := h
    show SJ _ _ _ [some (oIns C_Pairs ["facts", "pairs", "places", "step", "gain", "end"] [(fz (tList tStr) s2.facts), (oL (tP2 tInt tInt) s2.pairs), (oD (kP2 fInt fInt) tInt s2.places), (oL (tDic kStr tInt) s2.step), (oL (tDic kStr tInt) s2.gain), (oL tInt s2.end_)]), some (fz (t_Machine C_Machine) x_machine), some (fz (t_Machine C_Machine) x_other), some (fz (tList (tP2 tInt tInt)) x_begins), some (fz (tP2 tInt tInt) y3)] _
    obtain ⟨t4, h_t4, h⟩ := bnd h
    refine sj_expr (ej_call1FF (i := 0) C_place_of (hr.mono (by decide)) (by rfl) pass0 (ej_var (i := 4) rfl (by first | exact Or.inl rfl | exact Or.inr (Or.inl rfl) | exact Or.inr (Or.inr rfl)) rfl) rfl (by first | exact Or.inl rfl | exact Or.inr (Or.inl rfl) | exact Or.inr (Or.inr rfl)) rfl cl_Pairs na_Pairs_pairs na_Pairs_places rfl rfl rfl rfl (by decide) ⟨y3, s2.pairs, s2.places, t4, h_t4, rfl, rfl, rfl⟩) ?_
    show SJ _ _ _ [some (oIns C_Pairs ["facts", "pairs", "places", "step", "gain", "end"] [(fz (tList tStr) s2.facts), (oL (tP2 tInt tInt) t4.2.1), (oD (kP2 fInt fInt) tInt t4.2.2), (oL (tDic kStr tInt) s2.step), (oL (tDic kStr tInt) s2.gain), (oL tInt s2.end_)]), some (fz (t_Machine C_Machine) x_machine), some (fz (t_Machine C_Machine) x_other), some (fz (tList (tP2 tInt tInt)) x_begins), some (fz (tP2 tInt tInt) y3)] _
    (simp only [Option.some.injEq, Prod.mk.injEq] at h; first | subst h | (obtain ⟨_, _⟩ := h; subst_vars))
    exact sj_end (fl := [true, true, true, true, false]) rfl rfl
  show SJ _ _ _ [some (oIns C_Pairs ["facts", "pairs", "places", "step", "gain", "end"] [(fz (tList tStr) j5.facts), (oL (tP2 tInt tInt) j5.pairs), (oD (kP2 fInt fInt) tInt j5.places), (oL (tDic kStr tInt) j5.step), (oL (tDic kStr tInt) j5.gain), (oL tInt j5.end_)]), some (fz (t_Machine C_Machine) x_machine), some (fz (t_Machine C_Machine) x_other), some (fz (tList (tP2 tInt tInt)) x_begins), none] _
  obtain ⟨j12, h_j12, h⟩ := bnd h
  refine sj_whileX (o := j12) (Γs := fun (s7 : D_Pairs) => [some (oIns C_Pairs ["facts", "pairs", "places", "step", "gain", "end"] [(fz (tList tStr) s7.facts), (oL (tP2 tInt tInt) s7.pairs), (oD (kP2 fInt fInt) tInt s7.places), (oL (tDic kStr tInt) s7.step), (oL (tDic kStr tInt) s7.gain), (oL tInt s7.end_)]), some (fz (t_Machine C_Machine) x_machine), some (fz (t_Machine C_Machine) x_other), some (fz (tList (tP2 tInt tInt)) x_begins), none]) (mt := fun _ s15 => some [some (oIns C_Pairs ["facts", "pairs", "places", "step", "gain", "end"] [(fz (tList tStr) s15.facts), (oL (tP2 tInt tInt) s15.pairs), (oD (kP2 fInt fInt) tInt s15.places), (oL (tDic kStr tInt) s15.step), (oL (tDic kStr tInt) s15.gain), (oL tInt s15.end_)]), some (fz (t_Machine C_Machine) x_machine), some (fz (t_Machine C_Machine) x_other), some (fz (tList (tP2 tInt tInt)) x_begins), none]) (fl := [true, true, true, true, true]) (rs := rs_Pairs_init C_Machine C_Pairs) (ls := ls_Pairs_init C_Machine C_Pairs) h_j12 rfl rfl ?_ (fun _ _ => rfl) ?_ ?_ ?_ PassesOwn.never
  · intro s7 t_ s15 h
    obtain ⟨t8, h_t8, h⟩ := bnd h
    cases h
    exact tj_keep (tj_cmp (ej_lt (ej_mrP0 N_Pairs_manyR (fj_var (i := 0) rfl (by first | exact Or.inl rfl | exact Or.inr (Or.inl rfl) | exact Or.inr (Or.inr rfl)) rfl) cl_Pairs (hr.mono (by decide)) pass0 (by decide) ⟨(D_Pairs.mk s7.facts s7.pairs s7.places s7.step s7.gain s7.end_), t8, h_t8, rfl, rfl⟩) (ej_bF Dl.cl_len (va_len rd_oL) (by rfl) m_len bt_len (fj_fld (fj_var (i := 0) rfl (by first | exact Or.inl rfl | exact Or.inr (Or.inl rfl) | exact Or.inr (Or.inr rfl)) rfl) cl_Pairs na_Pairs_pairs rfl rfl))))
  · intro s7 o_ h
    show SJ _ _ _ [some (oIns C_Pairs ["facts", "pairs", "places", "step", "gain", "end"] [(fz (tList tStr) s7.facts), (oL (tP2 tInt tInt) s7.pairs), (oD (kP2 fInt fInt) tInt s7.places), (oL (tDic kStr tInt) s7.step), (oL (tDic kStr tInt) s7.gain), (oL tInt s7.end_)]), some (fz (t_Machine C_Machine) x_machine), some (fz (t_Machine C_Machine) x_other), some (fz (tList (tP2 tInt tInt)) x_begins), none] _
    obtain ⟨t9, h_t9, h⟩ := bnd h
    obtain ⟨t10, h_t10, h⟩ := bnd h
    obtain ⟨t11, h_t11, h⟩ := bnd h
    refine sj_expr (ej_call C_add_rows (hr.mono (by decide)) (by rfl) pass0 (aj_lend (i := 0) rfl (by first | exact Or.inl rfl | exact Or.inr (Or.inl rfl) | exact Or.inr (Or.inr rfl)) rfl (aj_cons (ej_var (i := 1) rfl (by first | exact Or.inl rfl | exact Or.inr (Or.inl rfl) | exact Or.inr (Or.inr rfl)) rfl) (aj_cons (ej_var (i := 2) rfl (by first | exact Or.inl rfl | exact Or.inr (Or.inl rfl) | exact Or.inr (Or.inr rfl)) rfl) (aj_cons (ej_ixF ix_list (v2_ixL rd_oL h_t10) (fj_fld (fj_var (i := 0) rfl (by first | exact Or.inl rfl | exact Or.inr (Or.inl rfl) | exact Or.inr (Or.inr rfl)) rfl) cl_Pairs na_Pairs_pairs rfl rfl) (ej_mrP0 N_Pairs_manyR (fj_var (i := 0) rfl (by first | exact Or.inl rfl | exact Or.inr (Or.inl rfl) | exact Or.inr (Or.inr rfl)) rfl) cl_Pairs (hr.mono (by decide)) pass0 (by decide) ⟨(D_Pairs.mk s7.facts s7.pairs s7.places s7.step s7.gain s7.end_), t9, h_t9, rfl, rfl⟩) (fun _ _ => rfl)) aj_nil)))) rfl ⟨(D_Pairs.mk s7.facts s7.pairs s7.places s7.step s7.gain s7.end_), x_machine, x_other, t10, t11, h_t11, rfl, rfl, rfl⟩) ?_
    show SJ _ _ _ [some (oIns C_Pairs ["facts", "pairs", "places", "step", "gain", "end"] [(fz (tList tStr) t11.2.facts), (oL (tP2 tInt tInt) t11.2.pairs), (oD (kP2 fInt fInt) tInt t11.2.places), (oL (tDic kStr tInt) t11.2.step), (oL (tDic kStr tInt) t11.2.gain), (oL tInt t11.2.end_)]), some (fz (t_Machine C_Machine) x_machine), some (fz (t_Machine C_Machine) x_other), some (fz (tList (tP2 tInt tInt)) x_begins), none] _
    (simp only [Option.some.injEq, Prod.mk.injEq] at h; first | subst h | (obtain ⟨_, _⟩ := h; subst_vars))
    exact sj_end (fl := [true, true, true, true, true]) rfl rfl
  · intro s13 e_; subst e_
    show SJ _ _ _ [some (oIns C_Pairs ["facts", "pairs", "places", "step", "gain", "end"] [(fz (tList tStr) s13.facts), (oL (tP2 tInt tInt) s13.pairs), (oD (kP2 fInt fInt) tInt s13.places), (oL (tDic kStr tInt) s13.step), (oL (tDic kStr tInt) s13.gain), (oL tInt s13.end_)]), some (fz (t_Machine C_Machine) x_machine), some (fz (t_Machine C_Machine) x_other), some (fz (tList (tP2 tInt tInt)) x_begins), none] _
    (simp only [Option.some.injEq, Prod.mk.injEq] at h; first | subst h | (obtain ⟨_, _⟩ := h; subst_vars))
    exact sj_fin (rs := rs_Pairs_init C_Machine C_Pairs) (ls := ls_Pairs_init C_Machine C_Pairs) (fun _ => ⟨rfl, rfl⟩) rfl (show List.Nodup ([0] : List Nat) by decide)
  · intro r14 e_; subst e_; cases h; exact fun _ _ _ h => h

abbrev O_first_ways : Type := (List (Int × (Option (Int × Str))))
noncomputable def m_first_ways (x_facts : (List Str)) (x_step : (List (List (Str × Int)))) (x_begins : (List Int)) : Option O_first_ways := ((grd (Sm (x_begins).length) ()).bind fun g2 => (dicC (fun (y1 : Int) => (some (y1, (none : Option (Int × Str))))) [] x_begins).bind fun t3 => ((((whileX (ρ := O_first_ways) (S := (List (Int × (Option (Int × Str)))) × (List Int) × Int) (fun (s4 : (List (Int × (Option (Int × Str)))) × (List Int) × Int) => (some ((decide (s4.2.2 < ((s4.2.1).length : Int))), s4))) (fun (s4 : (List (Int × (Option (Int × Str)))) × (List Int) × Int) => ((foldO (S := (List (Int × (Option (Int × Str)))) × (List Int)) (fun (s5 : (List (Int × (Option (Int × Str)))) × (List Int)) (y6 : Str) => ((atI s5.2 s4.2.2).bind fun t7 => (atI x_step t7).bind fun t8 => (aget t8 y6).bind fun t9 => ((if (!(ahas s5.1 t9)) = true then ((atI s5.2 s4.2.2).bind fun t12 => (grd (Sm (s5.1).length) ()).bind fun g13 => ((grd (Sm (s5.2).length) ()).bind fun g14 => some ((aput s5.1 t9 (some (t12, y6))), (s5.2 ++ [t9])))) else some (s5.1, s5.2) : Option ((List (Int × (Option (Int × Str)))) × (List Int))).bind fun j11 => some (j11.1, j11.2)))) (s4.1, s4.2.1) x_facts).bind fun j15 => ((some (s4.2.2 + (1 : Int))).bind fun looked_17 => some (Oc.nx (j15.1, j15.2, looked_17))))) (t3, x_begins, (0 : Int))).bind fun j18 => match j18 with | .ret r20 => some r20 | .nx s19 => (some s19.1)))))
def rs_first_ways : O_first_ways → Sh := fun o => (fz (tDic kInt (tOpt (tP2 tInt tStr))) o)
def ls_first_ways : O_first_ways → List Sh := fun o => []
def P_first_ways : Phi := fun ss r L => ∃ (x_facts : (List Str)) (x_step : (List (List (Str × Int)))) (x_begins : (List Int)) (o : O_first_ways), m_first_ways x_facts x_step x_begins = some o ∧ ss = [(fz (tList tStr) x_facts), (fz (tList (tDic kStr tInt)) x_step), (fz (tList tInt) x_begins)] ∧ r = rs_first_ways o ∧ L = []
theorem ok_first_ways (m_list : mg "list" = none) (m_len : mg "len" = none) {f0 : Addr} {fd : FuncData} (D : Fun K "first_ways" "first_ways" s_first_ways f0 fd) : FnG P w K mg base CX0 1 f0 fd ["facts", "step", "begins"] (spS 3 P_first_ways) := by
  refine Fun.okS D sc_first_ways rfl (by decide) fun X0 s H A outer cdv E ss r L vs hr hlen hP => ?_
  obtain ⟨x_facts, x_step, x_begins, o_, h, rfl, rfl, rfl⟩ := hP
  obtain ⟨v0, v1, v2, rfl⟩ : ∃ v0 v1 v2, vs = [v0, v1, v2] := by
    match vs, hlen with
    | [v0, v1, v2], _ => exact ⟨v0, v1, v2, rfl⟩
  refine ⟨_, rs_first_ways, ls_first_ways, o_, [], rfl, rfl, (fun _ h => nomatch h), rfl, ?_⟩
  clear X0
  unfold m_first_ways at h
  show SJ _ _ _ [some (fz (tList tStr) x_facts), some (fz (tList (tDic kStr tInt)) x_step), some (fz (tList tInt) x_begins), none, none, none, none, none, none] _
  obtain ⟨g2, h_g2, h⟩ := bnd h
  obtain ⟨t3, h_t3, h⟩ := bnd h
  refine sj_setLc (i := 3) (s := (oD kInt (tOpt (tP2 tInt tStr)) t3)) (lcj_s (dcP (Γy := fun y1 => [some (fz (tList tStr) x_facts), some (fz (tList (tDic kStr tInt)) x_step), some (fz (tList tInt) x_begins), none, none, none, none, none, some (fz tInt y1)]) (own := [("begin", 8)]) (kd := fInt) (fun _ _ _ _ _ y1 => (gj0_name (i := 8) sc_first_ways.nd rfl (by first | exact Or.inl rfl | exact Or.inr rfl) (z_none rfl))) (fun _ _ _ _ _ y1 k z hm h => (by have h := h;  simp only [Option.some.injEq, Prod.mk.injEq] at h; obtain ⟨rfl, rfl⟩ := h; exact (ej_var (i := 8) rfl (by first | exact Or.inl rfl | exact Or.inr (Or.inl rfl) | exact Or.inr (Or.inr rfl)) rfl))) (fun _ _ _ _ _ y1 k z hm h => (by have h := h;  simp only [Option.some.injEq, Prod.mk.injEq] at h; obtain ⟨rfl, rfl⟩ := h; exact (ej_none (τ := (tP2 tInt tStr)) ej_non))) h_t3 (grd_iff h_g2).1 rfl sc_first_ways.nd (ij_lst (ej_var (i := 2) rfl (by first | exact Or.inl rfl | exact Or.inr (Or.inl rfl) | exact Or.inr (Or.inr rfl)) rfl)) (blkOk_by (own := [("begin", 8)]) (N := n_first_ways) (sc := defScope s_first_ways) (by decide +kernel)) ⟨z_none rfl, trivial⟩) rfl rfl (sw_dict rfl rfl rfl (by decide +kernel))) ?_
  show SJ _ _ _ [some (fz (tList tStr) x_facts), some (fz (tList (tDic kStr tInt)) x_step), some (fz (tList tInt) x_begins), some (oD kInt (tOpt (tP2 tInt tStr)) t3), none, none, none, none, none] _
  refine sj_set (i := 4) (s := (oL tInt x_begins)) sc_first_ways.nd rfl (by first | exact Or.inl rfl | exact Or.inr rfl) (ej_ty (ss := [_]) Dl.cl_list (va_listL rd_fz) (by rfl) m_list bt_list (aj_cons (ej_var (i := 2) rfl (by first | exact Or.inl rfl | exact Or.inr (Or.inl rfl) | exact Or.inr (Or.inr rfl)) rfl) aj_nil)) ?_
  show SJ _ _ _ [some (fz (tList tStr) x_facts), some (fz (tList (tDic kStr tInt)) x_step), some (fz (tList tInt) x_begins), some (oD kInt (tOpt (tP2 tInt tStr)) t3), some (oL tInt x_begins), none, none, none, none] _
  refine sj_set (i := 5) (s := (fz tInt (0 : Int))) sc_first_ways.nd rfl (by first | exact Or.inl rfl | exact Or.inr rfl) ej_int ?_
  show SJ _ _ _ [some (fz (tList tStr) x_facts), some (fz (tList (tDic kStr tInt)) x_step), some (fz (tList tInt) x_begins), some (oD kInt (tOpt (tP2 tInt tStr)) t3), some (oL tInt x_begins), some (fz tInt (0 : Int)), none, none, none] _
  obtain ⟨j18, h_j18, h⟩ := bnd h
  refine sj_whileX (o := j18) (Γs := fun (s4 : (List (Int × (Option (Int × Str)))) × (List Int) × Int) => [some (fz (tList tStr) x_facts), some (fz (tList (tDic kStr tInt)) x_step), some (fz (tList tInt) x_begins), some (oD kInt (tOpt (tP2 tInt tStr)) s4.1), some (oL tInt s4.2.1), some (fz tInt s4.2.2), none, none, none]) (mt := fun _ s21 => some [some (fz (tList tStr) x_facts), some (fz (tList (tDic kStr tInt)) x_step), some (fz (tList tInt) x_begins), some (oD kInt (tOpt (tP2 tInt tStr)) s21.1), some (oL tInt s21.2.1), some (fz tInt s21.2.2), none, none, none]) (fl := [true, true, true, true, true, true, true, true, true]) (rs := rs_first_ways) (ls := ls_first_ways) h_j18 rfl rfl ?_ (fun _ _ => rfl) ?_ ?_ ?_ PassesOwn.never
  · intro s4 t_ s21 h
    cases h
    exact tj_keep (tj_cmp (ej_lt (ej_var (i := 5) rfl (by first | exact Or.inl rfl | exact Or.inr (Or.inl rfl) | exact Or.inr (Or.inr rfl)) rfl) (ej_bP Dl.cl_len (va_len rd_oL) (by rfl) m_len bt_len (pj_var (i := 4) rfl (by first | exact Or.inl rfl | exact Or.inr (Or.inl rfl) | exact Or.inr (Or.inr rfl)) rfl))))
  · intro s4 o_ h
    show SJ _ _ _ [some (fz (tList tStr) x_facts), some (fz (tList (tDic kStr tInt)) x_step), some (fz (tList tInt) x_begins), some (oD kInt (tOpt (tP2 tInt tStr)) s4.1), some (oL tInt s4.2.1), some (fz tInt s4.2.2), none, none, none] _
    obtain ⟨j15, h_j15, h⟩ := bnd h
    refine sj_for (sh := fz tStr) (Γs := fun (s5 : (List (Int × (Option (Int × Str)))) × (List Int)) => [some (fz (tList tStr) x_facts), some (fz (tList (tDic kStr tInt)) x_step), some (fz (tList tInt) x_begins), some (oD kInt (tOpt (tP2 tInt tStr)) s5.1), some (oL tInt s5.2), some (fz tInt s4.2.2), none, none, none]) (Γy := fun (s5 : (List (Int × (Option (Int × Str)))) × (List Int)) y6 => [some (fz (tList tStr) x_facts), some (fz (tList (tDic kStr tInt)) x_step), some (fz (tList tInt) x_begins), some (oD kInt (tOpt (tP2 tInt tStr)) s5.1), some (oL tInt s5.2), some (fz tInt s4.2.2), some (fz tStr y6), none, none]) (fl := [true, true, true, true, true, true, true, true, true]) (rs_first_ways) (ls_first_ways) h_j15 (ij_lst (ej_var (i := 0) rfl (by first | exact Or.inl rfl | exact Or.inr (Or.inl rfl) | exact Or.inr (Or.inr rfl)) rfl)) rfl rfl (fun s5 y6 => (gj_name (i := 6) sc_first_ways.nd rfl (by first | exact Or.inl rfl | exact Or.inr rfl))) ?_ ?_ PassesOwn.never rfl
    · intro s5 y6 o_ h_hy16 h
      clear h_j15; have h := h
      show SJ _ _ _ [some (fz (tList tStr) x_facts), some (fz (tList (tDic kStr tInt)) x_step), some (fz (tList tInt) x_begins), some (oD kInt (tOpt (tP2 tInt tStr)) s5.1), some (oL tInt s5.2), some (fz tInt s4.2.2), some (fz tStr y6), none, none] _
      obtain ⟨t7, h_t7, h⟩ := bnd h
      obtain ⟨t8, h_t8, h⟩ := bnd h
      obtain ⟨t9, h_t9, h⟩ := bnd h
      refine sj_set (i := 7) (s := (fz tInt t9)) sc_first_ways.nd rfl (by first | exact Or.inl rfl | exact Or.inr rfl) (ej_dget (hu_of hr.room) rdd_fz h_t9 (ej_ix ix_list (v2_ixL rd_fz h_t8) (ej_var (i := 1) rfl (by first | exact Or.inl rfl | exact Or.inr (Or.inl rfl) | exact Or.inr (Or.inr rfl)) rfl) (ej_ixP ix_list (v2_ixL rd_oL h_t7) (pj_var (i := 4) rfl (by first | exact Or.inl rfl | exact Or.inr (Or.inl rfl) | exact Or.inr (Or.inr rfl)) rfl) (ej_var (i := 5) rfl (by first | exact Or.inl rfl | exact Or.inr (Or.inl rfl) | exact Or.inr (Or.inr rfl)) rfl) (fun _ _ => rfl)) (fun _ _ => rfl)) (ej_var (i := 6) rfl (by first | exact Or.inl rfl | exact Or.inr (Or.inl rfl) | exact Or.inr (Or.inr rfl)) rfl) (fun _ _ => rfl)) ?_
      show SJ _ _ _ [some (fz (tList tStr) x_facts), some (fz (tList (tDic kStr tInt)) x_step), some (fz (tList tInt) x_begins), some (oD kInt (tOpt (tP2 tInt tStr)) s5.1), some (oL tInt s5.2), some (fz tInt s4.2.2), some (fz tStr y6), some (fz tInt t9), none] _
      obtain ⟨j11, h_j11, h⟩ := bnd h
      refine sj_if (t := (!(ahas s5.1 t9))) (Γm := [some (fz (tList tStr) x_facts), some (fz (tList (tDic kStr tInt)) x_step), some (fz (tList tInt) x_begins), some (oD kInt (tOpt (tP2 tInt tStr)) j11.1), some (oL tInt j11.2), some (fz tInt s4.2.2), some (fz tStr y6), some (fz tInt t9), none]) (tj_cmp (ej_dninF (hu_of hr.room) rdd_oD (ej_var (i := 7) rfl (by first | exact Or.inl rfl | exact Or.inr (Or.inl rfl) | exact Or.inr (Or.inr rfl)) rfl) (fj_var (i := 3) rfl (by first | exact Or.inl rfl | exact Or.inr (Or.inl rfl) | exact Or.inr (Or.inr rfl)) rfl))) ?_ ?_ ?_
      · intro h_b10
        clear h; have h := ifT h_b10 h_j11; clear h_j11
        show SJ _ _ _ [some (fz (tList tStr) x_facts), some (fz (tList (tDic kStr tInt)) x_step), some (fz (tList tInt) x_begins), some (oD kInt (tOpt (tP2 tInt tStr)) s5.1), some (oL tInt s5.2), some (fz tInt s4.2.2), some (fz tStr y6), some (fz tInt t9), none] _
        obtain ⟨t12, h_t12, h⟩ := bnd h
        obtain ⟨g13, h_g13, h⟩ := bnd h
        refine sj_dput (i := 3) (hu_of hr.room) rfl (by first | exact Or.inl rfl | exact Or.inr (Or.inl rfl) | exact Or.inr (Or.inr rfl)) (ej_some (ej_tup2 (aj_cons (ej_ixP ix_list (v2_ixL rd_oL h_t12) (pj_var (i := 4) rfl (by first | exact Or.inl rfl | exact Or.inr (Or.inl rfl) | exact Or.inr (Or.inr rfl)) rfl) (ej_var (i := 5) rfl (by first | exact Or.inl rfl | exact Or.inr (Or.inl rfl) | exact Or.inr (Or.inr rfl)) rfl) (fun _ _ => rfl)) (aj_cons (ej_var (i := 6) rfl (by first | exact Or.inl rfl | exact Or.inr (Or.inl rfl) | exact Or.inr (Or.inr rfl)) rfl) aj_nil)))) rfl (ej_var (i := 7) rfl (by first | exact Or.inl rfl | exact Or.inr (Or.inl rfl) | exact Or.inr (Or.inr rfl)) rfl) (grd_iff h_g13).1 ?_
        show SJ _ _ _ [some (fz (tList tStr) x_facts), some (fz (tList (tDic kStr tInt)) x_step), some (fz (tList tInt) x_begins), some (oD kInt (tOpt (tP2 tInt tStr)) (aput s5.1 t9 (some (t12, y6)))), some (oL tInt s5.2), some (fz tInt s4.2.2), some (fz tStr y6), some (fz tInt t9), none] _
        obtain ⟨g14, h_g14, h⟩ := bnd h
        refine sj_expr (ej_app (i := 4) rfl (by first | exact Or.inl rfl | exact Or.inr (Or.inl rfl) | exact Or.inr (Or.inr rfl)) rfl (aj_cons (ej_var (i := 7) rfl (by first | exact Or.inl rfl | exact Or.inr (Or.inl rfl) | exact Or.inr (Or.inr rfl)) rfl) aj_nil) rfl (grd_iff h_g14).1) ?_
        show SJ _ _ _ [some (fz (tList tStr) x_facts), some (fz (tList (tDic kStr tInt)) x_step), some (fz (tList tInt) x_begins), some (oD kInt (tOpt (tP2 tInt tStr)) (aput s5.1 t9 (some (t12, y6)))), some (oL tInt (s5.2 ++ [t9])), some (fz tInt s4.2.2), some (fz tStr y6), some (fz tInt t9), none] _
        (simp only [Option.some.injEq, Prod.mk.injEq] at h; first | subst h | (obtain ⟨_, _⟩ := h; subst_vars))
        exact sj_join (fl := [true, true, true, true, true, true, true, true, true]) rfl rfl (fun _ _ _ h => h)
      · intro h_b10
        clear h; have h := ifF h_b10 h_j11; clear h_j11
        show SJ _ _ _ [some (fz (tList tStr) x_facts), some (fz (tList (tDic kStr tInt)) x_step), some (fz (tList tInt) x_begins), some (oD kInt (tOpt (tP2 tInt tStr)) s5.1), some (oL tInt s5.2), some (fz tInt s4.2.2), some (fz tStr y6), some (fz tInt t9), none] _
        (simp only [Option.some.injEq, Prod.mk.injEq] at h; first | subst h | (obtain ⟨_, _⟩ := h; subst_vars))
        exact sj_join (fl := [true, true, true, true, true, true, true, true, true]) rfl rfl (fun _ _ _ h => h)
      (simp only [Option.some.injEq, Prod.mk.injEq] at h; first | subst h | (obtain ⟨_, _⟩ := h; subst_vars))
      exact sj_end (fl := [true, true, true, true, true, true, false, false, true]) rfl rfl
    show SJ _ _ _ [some (fz (tList tStr) x_facts), some (fz (tList (tDic kStr tInt)) x_step), some (fz (tList tInt) x_begins), some (oD kInt (tOpt (tP2 tInt tStr)) j15.1), some (oL tInt j15.2), some (fz tInt s4.2.2), none, none, none] _
    obtain ⟨looked_17, h_looked_17, h⟩ := bnd h
    have h_looked_17 := Option.some.inj h_looked_17
    refine sj_aug (i := 5) sc_first_ways.nd rfl (by first | exact Or.inl rfl | exact Or.inr rfl) ip_add rfl ej_int ?_
    rw [h_looked_17]
    show SJ _ _ _ [some (fz (tList tStr) x_facts), some (fz (tList (tDic kStr tInt)) x_step), some (fz (tList tInt) x_begins), some (oD kInt (tOpt (tP2 tInt tStr)) j15.1), some (oL tInt j15.2), some (fz tInt looked_17), none, none, none] _
    (simp only [Option.some.injEq, Prod.mk.injEq] at h; first | subst h | (obtain ⟨_, _⟩ := h; subst_vars))
    exact sj_end (fl := [true, true, true, true, true, true, true, true, true]) rfl rfl
  · intro s19 e_; subst e_
    show SJ _ _ _ [some (fz (tList tStr) x_facts), some (fz (tList (tDic kStr tInt)) x_step), some (fz (tList tInt) x_begins), some (oD kInt (tOpt (tP2 tInt tStr)) s19.1), some (oL tInt s19.2.1), some (fz tInt s19.2.2), none, none, none] _
    (simp only [Option.some.injEq, Prod.mk.injEq] at h; first | subst h | (obtain ⟨_, _⟩ := h; subst_vars))
    exact sj_ret (rs := rs_first_ways) (ls := ls_first_ways) (y := s19.1) (ej_fz (ej_mov (i := 3) rfl (by first | exact Or.inl rfl | exact Or.inr (Or.inl rfl) | exact Or.inr (Or.inr rfl)) rfl) fz_oD) rfl rfl (show List.Nodup ([] : List Nat) by decide) rfl
  · intro r20 e_; subst e_; cases h; exact fun _ _ _ h => h

abbrev O_Pairs_many : Type := Int
def m_Pairs_many (x_self : D_Pairs) : Option O_Pairs_many := (some ((x_self.end_).length : Int))
def rs_Pairs_many (C_Pairs : Addr) : O_Pairs_many → Sh := fun o => (fz tInt o)
def ls_Pairs_many (C_Pairs : Addr) : O_Pairs_many → List Sh := fun o => []
def P_Pairs_many (C_Pairs : Addr) : Phi := fun ss r L => ∃ (x_self : D_Pairs) (o : O_Pairs_many), m_Pairs_many x_self = some o ∧ ss = [(fz (t_Pairs C_Pairs) x_self)] ∧ r = rs_Pairs_many C_Pairs o ∧ L = []
theorem ok_Pairs_many {C_Pairs : Addr} (cl_Pairs : Cls K C_Pairs) (na_Pairs_end : NoAttr K C_Pairs "end") (m_len : mg "len" = none) {f0 : Addr} {fd : FuncData} (D : Fun K "many" "Pairs.many" s_Pairs_many f0 fd) : FnG P w K mg base CX0 1 f0 fd ["self"] (spS 1 (P_Pairs_many C_Pairs)) := by
  refine Fun.okS D sc_Pairs_many rfl (by decide) fun X0 s H A outer cdv E ss r L vs hr hlen hP => ?_
  obtain ⟨x_self, o_, h, rfl, rfl, rfl⟩ := hP
  obtain ⟨v0, rfl⟩ : ∃ v0, vs = [v0] := by
    match vs, hlen with
    | [v0], _ => exact ⟨v0, rfl⟩
  refine ⟨_, rs_Pairs_many C_Pairs, ls_Pairs_many C_Pairs, o_, [], rfl, rfl, (fun _ h => nomatch h), rfl, ?_⟩
  clear X0
  unfold m_Pairs_many at h
  show SJ _ _ _ [some (fz (t_Pairs C_Pairs) x_self)] _
  (simp only [Option.some.injEq, Prod.mk.injEq] at h; first | subst h | (obtain ⟨_, _⟩ := h; subst_vars))
  exact sj_ret (rs := rs_Pairs_many C_Pairs) (ls := ls_Pairs_many C_Pairs) (y := ((x_self.end_).length : Int)) (ej_b (ss := [_]) Dl.cl_len (va_len rd_fz) (by rfl) m_len bt_len (aj_cons (ej_fld (j := 5) (ej_var (i := 0) rfl (by first | exact Or.inl rfl | exact Or.inr (Or.inl rfl) | exact Or.inr (Or.inr rfl)) rfl) cl_Pairs na_Pairs_end rfl rfl) aj_nil)) rfl rfl (show List.Nodup ([] : List Nat) by decide) rfl

abbrev O_career_to : Type := (Int × (List Str))
noncomputable def m_career_to (x_ways : (List (Int × (Option (Int × Str))))) (x_place : Int) : Option O_career_to := (((whileX (ρ := O_career_to) (S := Int × (List Str)) (fun (s1 : Int × (List Str)) => ((aget x_ways s1.1).bind fun t2 => some ((t2).isSome, s1))) (fun (s1 : Int × (List Str)) => ((aget x_ways s1.1).bind fun t3 => t3.bind fun t4 => ((grd (Sm (s1.2).length) ()).bind fun g5 => some (Oc.nx (t4.1, (s1.2 ++ [t4.2])))))) (x_place, ([] : List Str))).bind fun j6 => match j6 with | .ret r8 => some r8 | .nx s7 => (some (s7.1, (s7.2).reverse))))
def rs_career_to : O_career_to → Sh := fun o => (fz (tP2 tInt (tList tStr)) o)
def ls_career_to : O_career_to → List Sh := fun o => []
def P_career_to : Phi := fun ss r L => ∃ (x_ways : (List (Int × (Option (Int × Str))))) (x_place : Int) (o : O_career_to), m_career_to x_ways x_place = some o ∧ ss = [(fz (tDic kInt (tOpt (tP2 tInt tStr))) x_ways), (fz tInt x_place)] ∧ r = rs_career_to o ∧ L = []
theorem ok_career_to  {f0 : Addr} {fd : FuncData} (D : Fun K "career_to" "career_to" s_career_to f0 fd) : FnG P w K mg base CX0 1 f0 fd ["ways", "place"] (spS 2 P_career_to) := by
  refine Fun.okS D sc_career_to rfl (by decide) fun X0 s H A outer cdv E ss r L vs hr hlen hP => ?_
  obtain ⟨x_ways, x_place, o_, h, rfl, rfl, rfl⟩ := hP
  obtain ⟨v0, v1, rfl⟩ : ∃ v0 v1, vs = [v0, v1] := by
    match vs, hlen with
    | [v0, v1], _ => exact ⟨v0, v1, rfl⟩
  refine ⟨_, rs_career_to, ls_career_to, o_, [], rfl, rfl, (fun _ h => nomatch h), rfl, ?_⟩
  clear X0
  unfold m_career_to at h
  show SJ _ _ _ [some (fz (tDic kInt (tOpt (tP2 tInt tStr))) x_ways), some (fz tInt x_place), none, none] _
  refine sj_set (i := 2) (s := (oL tStr ([] : List Str))) sc_career_to.nd rfl (by first | exact Or.inl rfl | exact Or.inr rfl) (ej_oL (τ := tStr) (xs := ([] : List Str)) (ej_lst (ss := []) aj_nil)) ?_
  show SJ _ _ _ [some (fz (tDic kInt (tOpt (tP2 tInt tStr))) x_ways), some (fz tInt x_place), some (oL tStr ([] : List Str)), none] _
  obtain ⟨j6, h_j6, h⟩ := bnd h
  refine sj_whileX (o := j6) (Γs := fun (s1 : Int × (List Str)) => [some (fz (tDic kInt (tOpt (tP2 tInt tStr))) x_ways), some (fz tInt s1.1), some (oL tStr s1.2), none]) (mt := fun _ s9 => some [some (fz (tDic kInt (tOpt (tP2 tInt tStr))) x_ways), some (fz tInt s9.1), some (oL tStr s9.2), none]) (fl := [true, true, true, true]) (rs := rs_career_to) (ls := ls_career_to) h_j6 rfl rfl ?_ (fun _ _ => rfl) ?_ ?_ ?_ PassesOwn.never
  · intro s1 t_ s9 h
    obtain ⟨t2, h_t2, h⟩ := bnd h
    cases h
    exact tj_keep (tj_cmp (ej_notN (ej_dget (hu_of hr.room) rdd_fz h_t2 (ej_var (i := 0) rfl (by first | exact Or.inl rfl | exact Or.inr (Or.inl rfl) | exact Or.inr (Or.inr rfl)) rfl) (ej_var (i := 1) rfl (by first | exact Or.inl rfl | exact Or.inr (Or.inl rfl) | exact Or.inr (Or.inr rfl)) rfl) (fun _ _ => rfl))))
  · intro s1 o_ h
    show SJ _ _ _ [some (fz (tDic kInt (tOpt (tP2 tInt tStr))) x_ways), some (fz tInt s1.1), some (oL tStr s1.2), none] _
    obtain ⟨t3, h_t3, h⟩ := bnd h
    obtain ⟨t4, h_t4, h⟩ := bnd h
    refine sj_asg (ej_getS (ej_dget (hu_of hr.room) rdd_fz h_t3 (ej_var (i := 0) rfl (by first | exact Or.inl rfl | exact Or.inr (Or.inl rfl) | exact Or.inr (Or.inr rfl)) rfl) (ej_var (i := 1) rfl (by first | exact Or.inl rfl | exact Or.inr (Or.inl rfl) | exact Or.inr (Or.inr rfl)) rfl) (fun _ _ => rfl)) h_t4) (gj_p2 rfl (gs_cons (gj_name (i := 1) sc_career_to.nd rfl (by first | exact Or.inl rfl | exact Or.inr rfl)) (gs_cons (gj_name (i := 3) sc_career_to.nd rfl (by first | exact Or.inl rfl | exact Or.inr rfl)) gs_nil))) ?_
    show SJ _ _ _ [some (fz (tDic kInt (tOpt (tP2 tInt tStr))) x_ways), some (fz tInt t4.1), some (oL tStr s1.2), some (fz tStr t4.2)] _
    obtain ⟨g5, h_g5, h⟩ := bnd h
    refine sj_expr (ej_app (i := 2) rfl (by first | exact Or.inl rfl | exact Or.inr (Or.inl rfl) | exact Or.inr (Or.inr rfl)) rfl (aj_cons (ej_var (i := 3) rfl (by first | exact Or.inl rfl | exact Or.inr (Or.inl rfl) | exact Or.inr (Or.inr rfl)) rfl) aj_nil) rfl (grd_iff h_g5).1) ?_
    show SJ _ _ _ [some (fz (tDic kInt (tOpt (tP2 tInt tStr))) x_ways), some (fz tInt t4.1), some (oL tStr (s1.2 ++ [t4.2])), some (fz tStr t4.2)] _
    (simp only [Option.some.injEq, Prod.mk.injEq] at h; first | subst h | (obtain ⟨_, _⟩ := h; subst_vars))
    exact sj_end (fl := [true, true, true, false]) rfl rfl
  · intro s7 e_; subst e_
    show SJ _ _ _ [some (fz (tDic kInt (tOpt (tP2 tInt tStr))) x_ways), some (fz tInt s7.1), some (oL tStr s7.2), none] _
    (simp only [Option.some.injEq, Prod.mk.injEq] at h; first | subst h | (obtain ⟨_, _⟩ := h; subst_vars))
    exact sj_ret (rs := rs_career_to) (ls := ls_career_to) (y := (s7.1, (s7.2).reverse)) (ej_tup2 (aj_cons (ej_var (i := 1) rfl (by first | exact Or.inl rfl | exact Or.inr (Or.inl rfl) | exact Or.inr (Or.inr rfl)) rfl) (aj_cons (ej_fz (ej_rev (ej_fz (ej_mov (i := 2) rfl (by first | exact Or.inl rfl | exact Or.inr (Or.inl rfl) | exact Or.inr (Or.inr rfl)) rfl) fz_oL)) fz_oL) aj_nil))) rfl rfl (show List.Nodup ([] : List Nat) by decide) rfl
  · intro r8 e_; subst e_; cases h; exact fun _ _ _ h => h

abbrev O_telling_career : Type := (Option (List Str))
noncomputable def m_telling_career (x_machine : D_Machine) (x_other : D_Machine) : Option O_telling_career := ((m_Pairs_init x_machine x_other [((0 : Int), (0 : Int))]).bind fun t1 => (some (D_Pairs.mk t1.facts t1.pairs t1.places t1.step t1.gain t1.end_)).bind fun pairs_2 => ((atI pairs_2.end_ (0 : Int)).bind fun t3 => (if (!(decide (t3 = (0 : Int)))) = true then (some (some ([] : List Str))) else ((m_first_ways pairs_2.facts pairs_2.step [(0 : Int)]).bind fun t5 => ((m_Pairs_many pairs_2).bind fun t6 => (grd (-1000000000 ≤ t6 ∧ t6 ≤ 1000000000) ()).bind fun g7 => (foldX (ρ := O_telling_career) (S := Unit) (fun (s8 : Unit) (y9 : Int) => ((foldX (ρ := O_telling_career) (S := Unit) (fun (s10 : Unit) (y11 : Str) => ((atI pairs_2.step y9).bind fun t12 => (aget t12 y11).bind fun t13 => (atI pairs_2.end_ t13).bind fun t14 => ((atI pairs_2.gain y9).bind fun t15 => (aget t15 y11).bind fun t16 => (atI pairs_2.end_ y9).bind fun t17 => (if (!(decide ((t16 + t14) = t17))) = true then ((m_career_to t5 y9).bind fun t19 => (grd (Sm ((t19.2).length + ([y11]).length)) ()).bind fun g20 => some (Oc.ret (some (t19.2 ++ [y11])))) else some (Oc.nx ()))))) () pairs_2.facts).bind fun j21 => match j21 with | .ret r24 => some (Oc.ret r24) | .nx s23 => some (Oc.nx ()))) () (range1 t6)).bind fun j25 => match j25 with | .ret r28 => some r28 | .nx s27 => (some (none : Option (List Str))))))))
def rs_telling_career (C_Machine : Addr) : O_telling_career → Sh := fun o => (fz (tOpt (tList tStr)) o)
def ls_telling_career (C_Machine : Addr) : O_telling_career → List Sh := fun o => []
def P_telling_career (C_Machine : Addr) : Phi := fun ss r L => ∃ (x_machine : D_Machine) (x_other : D_Machine) (o : O_telling_career), m_telling_career x_machine x_other = some o ∧ ss = [(fz (t_Machine C_Machine) x_machine), (fz (t_Machine C_Machine) x_other)] ∧ r = rs_telling_career C_Machine o ∧ L = []
theorem ok_telling_career {C_Machine : Addr} {C_Pairs : Addr} (M_Pairs : Mkr P w K mg base 3 C_Pairs "Pairs" ["self", "machine", "other", "begins"] (spS 4 (P_Pairs_init C_Machine C_Pairs))) (cl_Pairs : Cls K C_Pairs) (na_Pairs_end : NoAttr K C_Pairs "end") (na_Pairs_facts : NoAttr K C_Pairs "facts") (na_Pairs_step : NoAttr K C_Pairs "step") (C_first_ways : CalG P w K mg base CX0 1 "first_ways" ["facts", "step", "begins"] (spS 3 P_first_ways)) (N_Pairs_many : Met P w K mg base 1 C_Pairs "many" ["self"] (spS 1 (P_Pairs_many C_Pairs))) (m_range : mg "range" = none) (na_Pairs_gain : NoAttr K C_Pairs "gain") (C_career_to : CalG P w K mg base CX0 1 "career_to" ["ways", "place"] (spS 2 P_career_to)) {f0 : Addr} {fd : FuncData} (D : Fun K "telling_career" "telling_career" s_telling_career f0 fd) : FnG P w K mg base CX0 5 f0 fd ["machine", "other"] (spS 2 (P_telling_career C_Machine)) := by
  refine Fun.okS D sc_telling_career rfl (by decide) fun X0 s H A outer cdv E ss r L vs hr hlen hP => ?_
  obtain ⟨x_machine, x_other, o_, h, rfl, rfl, rfl⟩ := hP
  obtain ⟨v0, v1, rfl⟩ : ∃ v0 v1, vs = [v0, v1] := by
    match vs, hlen with
    | [v0, v1], _ => exact ⟨v0, v1, rfl⟩
  refine ⟨_, rs_telling_career C_Machine, ls_telling_career C_Machine, o_, [], rfl, rfl, (fun _ h => nomatch h), rfl, ?_⟩
  clear X0
  unfold m_telling_career at h
  show SJ _ _ _ [some (fz (t_Machine C_Machine) x_machine), some (fz (t_Machine C_Machine) x_other), none, none, none, none, none] _
  obtain ⟨t1, h_t1, h⟩ := bnd h
  obtain ⟨pairs_2, h_pairs_2, h⟩ := bnd h
  have h_pairs_2 := Option.some.inj h_pairs_2
  refine sj_set (i := 2) (s := (fz (t_Pairs C_Pairs) pairs_2)) sc_telling_career.nd rfl (by first | exact Or.inl rfl | exact Or.inr rfl) (ej_is h_pairs_2 (ej_fz (ej_mk (ss := [_, _, _]) M_Pairs (hr.mono (by decide)) (by rfl) pass0 (aj_cons (ej_var (i := 0) rfl (by first | exact Or.inl rfl | exact Or.inr (Or.inl rfl) | exact Or.inr (Or.inr rfl)) rfl) (aj_cons (ej_var (i := 1) rfl (by first | exact Or.inl rfl | exact Or.inr (Or.inl rfl) | exact Or.inr (Or.inr rfl)) rfl) (aj_cons (ej_fz (ej_lst (ss := [(fz (tP2 tInt tInt) ((0 : Int), (0 : Int)))]) (aj_cons (ej_tup2 (aj_cons ej_int (aj_cons ej_int aj_nil))) aj_nil)) (fz_lm (τ := (tP2 tInt tInt)) (xs := [((0 : Int), (0 : Int))]))) aj_nil))) ⟨x_machine, x_other, [((0 : Int), (0 : Int))], t1, h_t1, rfl, rfl, rfl⟩) (fz_ins (sh := sh_Pairs) (y := (D_Pairs.mk t1.facts t1.pairs t1.places t1.step t1.gain t1.end_)) ⟨fz_fz, fz_oL, fz_oD, fz_oL, fz_oL, fz_oL, trivial⟩))) ?_
  show SJ _ _ _ [some (fz (t_Machine C_Machine) x_machine), some (fz (t_Machine C_Machine) x_other), some (fz (t_Pairs C_Pairs) pairs_2), none, none, none, none] _
  obtain ⟨t3, h_t3, h⟩ := bnd h
  refine sj_ifT (t := (!(decide (t3 = (0 : Int))))) (tj_cmp (ej_ne (ej_ix ix_list (v2_ixL rd_fz h_t3) (ej_fld (j := 5) (ej_var (i := 2) rfl (by first | exact Or.inl rfl | exact Or.inr (Or.inl rfl) | exact Or.inr (Or.inr rfl)) rfl) cl_Pairs na_Pairs_end rfl rfl) ej_int (fun _ _ => rfl)) ej_int)) ?_ ?_
  · intro h_b4
    replace h := ifT h_b4 h
    show SJ _ _ _ [some (fz (t_Machine C_Machine) x_machine), some (fz (t_Machine C_Machine) x_other), some (fz (t_Pairs C_Pairs) pairs_2), none, none, none, none] _
    (simp only [Option.some.injEq, Prod.mk.injEq] at h; first | subst h | (obtain ⟨_, _⟩ := h; subst_vars))
    exact sj_ret (rs := rs_telling_career C_Machine) (ls := ls_telling_career C_Machine) (y := (some ([] : List Str))) (ej_some (ej_fz (ej_lst (ss := []) aj_nil) (fz_lm (τ := tStr) (xs := [])))) rfl rfl (show List.Nodup ([] : List Nat) by decide) rfl
  intro h_b4
  replace h := ifF h_b4 h
  show SJ _ _ _ [some (fz (t_Machine C_Machine) x_machine), some (fz (t_Machine C_Machine) x_other), some (fz (t_Pairs C_Pairs) pairs_2), none, none, none, none] _
  obtain ⟨t5, h_t5, h⟩ := bnd h
  refine sj_set (i := 3) (s := (fz (tDic kInt (tOpt (tP2 tInt tStr))) t5)) sc_telling_career.nd rfl (by first | exact Or.inl rfl | exact Or.inr rfl) (ej_callP (ss := [_, _, _]) C_first_ways (hr.mono (by decide)) (by rfl) pass0 (aj_cons (ej_fld (j := 0) (ej_var (i := 2) rfl (by first | exact Or.inl rfl | exact Or.inr (Or.inl rfl) | exact Or.inr (Or.inr rfl)) rfl) cl_Pairs na_Pairs_facts rfl rfl) (aj_cons (ej_fld (j := 3) (ej_var (i := 2) rfl (by first | exact Or.inl rfl | exact Or.inr (Or.inl rfl) | exact Or.inr (Or.inr rfl)) rfl) cl_Pairs na_Pairs_step rfl rfl) (aj_cons (ej_fz (ej_lst (ss := [(fz tInt (0 : Int))]) (aj_cons ej_int aj_nil)) (fz_lm (τ := tInt) (xs := [(0 : Int)]))) aj_nil))) ⟨pairs_2.facts, pairs_2.step, [(0 : Int)], t5, h_t5, rfl, rfl, rfl⟩) ?_
  show SJ _ _ _ [some (fz (t_Machine C_Machine) x_machine), some (fz (t_Machine C_Machine) x_other), some (fz (t_Pairs C_Pairs) pairs_2), some (fz (tDic kInt (tOpt (tP2 tInt tStr))) t5), none, none, none] _
  obtain ⟨t6, h_t6, h⟩ := bnd h
  obtain ⟨g7, h_g7, h⟩ := bnd h
  obtain ⟨j25, h_j25, h⟩ := bnd h
  refine sj_forX (o := j25) (sh := fz tInt) (Γs := fun (s8 : Unit) => [some (fz (t_Machine C_Machine) x_machine), some (fz (t_Machine C_Machine) x_other), some (fz (t_Pairs C_Pairs) pairs_2), some (fz (tDic kInt (tOpt (tP2 tInt tStr))) t5), none, none, none]) (Γy := fun (s8 : Unit) y9 => [some (fz (t_Machine C_Machine) x_machine), some (fz (t_Machine C_Machine) x_other), some (fz (t_Pairs C_Pairs) pairs_2), some (fz (tDic kInt (tOpt (tP2 tInt tStr))) t5), some (fz tInt y9), none, none]) (fl := [true, true, true, true, true, true, true]) (rs := rs_telling_career C_Machine) (ls := ls_telling_career C_Machine) h_j25 (ij_rg1 (by rfl) m_range (aj_cons (ej_mtF0 N_Pairs_many (ej_var (i := 2) rfl (by first | exact Or.inl rfl | exact Or.inr (Or.inl rfl) | exact Or.inr (Or.inr rfl)) rfl) cl_Pairs (hr.mono (by decide)) pass0 (by decide) ⟨pairs_2, t6, h_t6, rfl, rfl, rfl⟩) aj_nil) (grd_iff h_g7).1) rfl rfl (fun s8 y9 => (gj_name (i := 4) sc_telling_career.nd rfl (by first | exact Or.inl rfl | exact Or.inr rfl))) ?_ ?_ ?_ PassesOwn.never rfl
  · intro s8 y9 o_ h_hy26 h
    clear h_j25; have h := h
    show SJ _ _ _ [some (fz (t_Machine C_Machine) x_machine), some (fz (t_Machine C_Machine) x_other), some (fz (t_Pairs C_Pairs) pairs_2), some (fz (tDic kInt (tOpt (tP2 tInt tStr))) t5), some (fz tInt y9), none, none] _
    obtain ⟨j21, h_j21, h⟩ := bnd h
    refine sj_forX (o := j21) (sh := fz tStr) (Γs := fun (s10 : Unit) => [some (fz (t_Machine C_Machine) x_machine), some (fz (t_Machine C_Machine) x_other), some (fz (t_Pairs C_Pairs) pairs_2), some (fz (tDic kInt (tOpt (tP2 tInt tStr))) t5), some (fz tInt y9), none, none]) (Γy := fun (s10 : Unit) y11 => [some (fz (t_Machine C_Machine) x_machine), some (fz (t_Machine C_Machine) x_other), some (fz (t_Pairs C_Pairs) pairs_2), some (fz (tDic kInt (tOpt (tP2 tInt tStr))) t5), some (fz tInt y9), some (fz tStr y11), none]) (fl := [true, true, true, true, true, true, true]) (rs := rs_telling_career C_Machine) (ls := ls_telling_career C_Machine) h_j21 (ij_lst (ej_fld (j := 0) (ej_var (i := 2) rfl (by first | exact Or.inl rfl | exact Or.inr (Or.inl rfl) | exact Or.inr (Or.inr rfl)) rfl) cl_Pairs na_Pairs_facts rfl rfl)) rfl rfl (fun s10 y11 => (gj_name (i := 5) sc_telling_career.nd rfl (by first | exact Or.inl rfl | exact Or.inr rfl))) ?_ ?_ ?_ PassesOwn.never rfl
    · intro s10 y11 o_ h_hy22 h
      clear h_j21; have h := h
      show SJ _ _ _ [some (fz (t_Machine C_Machine) x_machine), some (fz (t_Machine C_Machine) x_other), some (fz (t_Pairs C_Pairs) pairs_2), some (fz (tDic kInt (tOpt (tP2 tInt tStr))) t5), some (fz tInt y9), some (fz tStr y11), none] _
      obtain ⟨t12, h_t12, h⟩ := bnd h
      obtain ⟨t13, h_t13, h⟩ := bnd h
      obtain ⟨t14, h_t14, h⟩ := bnd h
      refine sj_set (i := 6) (s := (fz tInt t14)) sc_telling_career.nd rfl (by first | exact Or.inl rfl | exact Or.inr rfl) (ej_ix ix_list (v2_ixL rd_fz h_t14) (ej_fld (j := 5) (ej_var (i := 2) rfl (by first | exact Or.inl rfl | exact Or.inr (Or.inl rfl) | exact Or.inr (Or.inr rfl)) rfl) cl_Pairs na_Pairs_end rfl rfl) (ej_dget (hu_of hr.room) rdd_fz h_t13 (ej_ix ix_list (v2_ixL rd_fz h_t12) (ej_fld (j := 3) (ej_var (i := 2) rfl (by first | exact Or.inl rfl | exact Or.inr (Or.inl rfl) | exact Or.inr (Or.inr rfl)) rfl) cl_Pairs na_Pairs_step rfl rfl) (ej_var (i := 4) rfl (by first | exact Or.inl rfl | exact Or.inr (Or.inl rfl) | exact Or.inr (Or.inr rfl)) rfl) (fun _ _ => rfl)) (ej_var (i := 5) rfl (by first | exact Or.inl rfl | exact Or.inr (Or.inl rfl) | exact Or.inr (Or.inr rfl)) rfl) (fun _ _ => rfl)) (fun _ _ => rfl)) ?_
      show SJ _ _ _ [some (fz (t_Machine C_Machine) x_machine), some (fz (t_Machine C_Machine) x_other), some (fz (t_Pairs C_Pairs) pairs_2), some (fz (tDic kInt (tOpt (tP2 tInt tStr))) t5), some (fz tInt y9), some (fz tStr y11), some (fz tInt t14)] _
      obtain ⟨t15, h_t15, h⟩ := bnd h
      obtain ⟨t16, h_t16, h⟩ := bnd h
      obtain ⟨t17, h_t17, h⟩ := bnd h
      refine sj_ifT (t := (!(decide ((t16 + t14) = t17)))) (tj_cmp (ej_ne (ej_add (ej_dget (hu_of hr.room) rdd_fz h_t16 (ej_ix ix_list (v2_ixL rd_fz h_t15) (ej_fld (j := 4) (ej_var (i := 2) rfl (by first | exact Or.inl rfl | exact Or.inr (Or.inl rfl) | exact Or.inr (Or.inr rfl)) rfl) cl_Pairs na_Pairs_gain rfl rfl) (ej_var (i := 4) rfl (by first | exact Or.inl rfl | exact Or.inr (Or.inl rfl) | exact Or.inr (Or.inr rfl)) rfl) (fun _ _ => rfl)) (ej_var (i := 5) rfl (by first | exact Or.inl rfl | exact Or.inr (Or.inl rfl) | exact Or.inr (Or.inr rfl)) rfl) (fun _ _ => rfl)) (ej_var (i := 6) rfl (by first | exact Or.inl rfl | exact Or.inr (Or.inl rfl) | exact Or.inr (Or.inr rfl)) rfl)) (ej_ix ix_list (v2_ixL rd_fz h_t17) (ej_fld (j := 5) (ej_var (i := 2) rfl (by first | exact Or.inl rfl | exact Or.inr (Or.inl rfl) | exact Or.inr (Or.inr rfl)) rfl) cl_Pairs na_Pairs_end rfl rfl) (ej_var (i := 4) rfl (by first | exact Or.inl rfl | exact Or.inr (Or.inl rfl) | exact Or.inr (Or.inr rfl)) rfl) (fun _ _ => rfl)))) ?_ ?_
      · intro h_b18
        replace h := ifT h_b18 h
        show SJ _ _ _ [some (fz (t_Machine C_Machine) x_machine), some (fz (t_Machine C_Machine) x_other), some (fz (t_Pairs C_Pairs) pairs_2), some (fz (tDic kInt (tOpt (tP2 tInt tStr))) t5), some (fz tInt y9), some (fz tStr y11), some (fz tInt t14)] _
        obtain ⟨t19, h_t19, h⟩ := bnd h
        obtain ⟨g20, h_g20, h⟩ := bnd h
        (simp only [Option.some.injEq, Prod.mk.injEq] at h; first | subst h | (obtain ⟨_, _⟩ := h; subst_vars))
        exact sj_retO (rs := rs_telling_career C_Machine) (ls := ls_telling_career C_Machine) (y := (some (t19.2 ++ [y11]))) (ej_some (ej_fz (ej_cat (ej_ix ix_tup (v2_ixT (j := 1) rdt_2 rfl rfl) (ej_callP (ss := [_, _]) C_career_to (hr.mono (by decide)) (by rfl) pass0 (aj_cons (ej_var (i := 3) rfl (by first | exact Or.inl rfl | exact Or.inr (Or.inl rfl) | exact Or.inr (Or.inr rfl)) rfl) (aj_cons (ej_var (i := 4) rfl (by first | exact Or.inl rfl | exact Or.inr (Or.inl rfl) | exact Or.inr (Or.inr rfl)) rfl) aj_nil)) ⟨t5, y9, t19, h_t19, rfl, rfl, rfl⟩) ej_int (fun _ _ => rfl)) (ej_fz (ej_lst (ss := [(fz tStr y11)]) (aj_cons (ej_var (i := 5) rfl (by first | exact Or.inl rfl | exact Or.inr (Or.inl rfl) | exact Or.inr (Or.inr rfl)) rfl) aj_nil)) (fz_lm (τ := tStr) (xs := [y11]))) (grd_iff h_g20).1) fz_oL)) rfl rfl (show List.Nodup ([] : List Nat) by decide) rfl
      intro h_b18
      replace h := ifF h_b18 h
      show SJ _ _ _ [some (fz (t_Machine C_Machine) x_machine), some (fz (t_Machine C_Machine) x_other), some (fz (t_Pairs C_Pairs) pairs_2), some (fz (tDic kInt (tOpt (tP2 tInt tStr))) t5), some (fz tInt y9), some (fz tStr y11), some (fz tInt t14)] _
      (simp only [Option.some.injEq, Prod.mk.injEq] at h; first | subst h | (obtain ⟨_, _⟩ := h; subst_vars))
      exact sj_end (fl := [true, true, true, true, true, false, false]) rfl rfl
    · intro s23 e_; subst e_
      show SJ _ _ _ [some (fz (t_Machine C_Machine) x_machine), some (fz (t_Machine C_Machine) x_other), some (fz (t_Pairs C_Pairs) pairs_2), some (fz (tDic kInt (tOpt (tP2 tInt tStr))) t5), some (fz tInt y9), none, none] _
      (simp only [Option.some.injEq, Prod.mk.injEq] at h; first | subst h | (obtain ⟨_, _⟩ := h; subst_vars))
      exact sj_end (fl := [true, true, true, true, false, true, true]) rfl rfl
    · intro r24 e_; subst e_; cases h; exact fun _ _ _ h => ⟨_, rfl, h⟩
  · intro s27 e_; subst e_
    show SJ _ _ _ [some (fz (t_Machine C_Machine) x_machine), some (fz (t_Machine C_Machine) x_other), some (fz (t_Pairs C_Pairs) pairs_2), some (fz (tDic kInt (tOpt (tP2 tInt tStr))) t5), none, none, none] _
    (simp only [Option.some.injEq, Prod.mk.injEq] at h; first | subst h | (obtain ⟨_, _⟩ := h; subst_vars))
    exact sj_ret (rs := rs_telling_career C_Machine) (ls := ls_telling_career C_Machine) (y := (none : Option (List Str))) (ej_none (τ := (tList tStr)) ej_non) rfl rfl (show List.Nodup ([] : List Nat) by decide) rfl
  · intro r28 e_; subst e_; cases h; exact fun _ _ _ h => h

abbrev O_are_alike : Type := Bool
noncomputable def m_are_alike (x_machine : D_Machine) (x_other : D_Machine) : Option O_are_alike := ((m_telling_career x_machine x_other).bind fun t1 => some (t1).isNone)
def rs_are_alike (C_Machine : Addr) : O_are_alike → Sh := fun o => (fz tBool o)
def ls_are_alike (C_Machine : Addr) : O_are_alike → List Sh := fun o => []
def P_are_alike (C_Machine : Addr) : Phi := fun ss r L => ∃ (x_machine : D_Machine) (x_other : D_Machine) (o : O_are_alike), m_are_alike x_machine x_other = some o ∧ ss = [(fz (t_Machine C_Machine) x_machine), (fz (t_Machine C_Machine) x_other)] ∧ r = rs_are_alike C_Machine o ∧ L = []
theorem ok_are_alike {C_Machine : Addr} (C_telling_career : CalG P w K mg base CX0 5 "telling_career" ["machine", "other"] (spS 2 (P_telling_career C_Machine))) {f0 : Addr} {fd : FuncData} (D : Fun K "are_alike" "are_alike" s_are_alike f0 fd) : FnG P w K mg base CX0 6 f0 fd ["machine", "other"] (spS 2 (P_are_alike C_Machine)) := by
  refine Fun.okS D sc_are_alike rfl (by decide) fun X0 s H A outer cdv E ss r L vs hr hlen hP => ?_
  obtain ⟨x_machine, x_other, o_, h, rfl, rfl, rfl⟩ := hP
  obtain ⟨v0, v1, rfl⟩ : ∃ v0 v1, vs = [v0, v1] := by
    match vs, hlen with
    | [v0, v1], _ => exact ⟨v0, v1, rfl⟩
  refine ⟨_, rs_are_alike C_Machine, ls_are_alike C_Machine, o_, [], rfl, rfl, (fun _ h => nomatch h), rfl, ?_⟩
  clear X0
  unfold m_are_alike at h
  show SJ _ _ _ [some (fz (t_Machine C_Machine) x_machine), some (fz (t_Machine C_Machine) x_other)] _
  obtain ⟨t1, h_t1, h⟩ := bnd h
  (simp only [Option.some.injEq, Prod.mk.injEq] at h; first | subst h | (obtain ⟨_, _⟩ := h; subst_vars))
  exact sj_ret (rs := rs_are_alike C_Machine) (ls := ls_are_alike C_Machine) (y := (t1).isNone) (ej_isN (ej_callP (ss := [_, _]) C_telling_career (hr.mono (by decide)) (by rfl) pass0 (aj_cons (ej_var (i := 0) rfl (by first | exact Or.inl rfl | exact Or.inr (Or.inl rfl) | exact Or.inr (Or.inr rfl)) rfl) (aj_cons (ej_var (i := 1) rfl (by first | exact Or.inl rfl | exact Or.inr (Or.inl rfl) | exact Or.inr (Or.inr rfl)) rfl) aj_nil)) ⟨x_machine, x_other, t1, h_t1, rfl, rfl, rfl⟩)) rfl rfl (show List.Nodup ([] : List Nat) by decide) rfl

abbrev O_law_near : Type := D_Machine × ((List Int) × Int)
def m_law_near (x_box : ((List Int) × Int)) (x_machine : D_Machine) : Option O_law_near := ((some ((x_machine.leave).length : Int)).bind fun many_1 => ((grd (Sm (x_machine.step).length) ()).bind fun g3 => (mapC (fun (y2 : (List (Str × Int))) => (some (some y2))) x_machine.step).bind fun t4 => ((grd (Sm (x_machine.gain).length) ()).bind fun g6 => (mapC (fun (y5 : (List (Str × Int))) => (some (some y5))) x_machine.gain).bind fun t7 => (((m_law_draw (x_box.1, x_box.2) (900 : Int)).bind fun t8 => (grd (many_1 ≠ 0) ()).bind fun g9 => (some (Int.fmod t8.1 many_1)).bind fun state_10 => ((m_law_draw (t8.2.1, t8.2.2) (900 : Int)).bind fun t11 => (grd (((x_machine.facts).length : Int) ≠ 0) ()).bind fun g12 => (atI x_machine.facts (Int.fmod t11.1 ((x_machine.facts).length : Int))).bind fun t13 => ((m_law_draw (t11.2.1, t11.2.2) (3 : Int)).bind fun t14 => ((if (decide (t14.1 = (0 : Int))) = true then ((atI t7 state_10).bind fun t17 => (aget t17 t13).bind fun t18 => (atI t7 state_10).bind fun t19 => (grd (Sm (t19).length) ()).bind fun g20 => some ((t14.2.1, t14.2.2), t4, (setI t7 state_10 (aput t19 t13 (t18 + (1 : Int)))), x_machine.leave)) else ((if (decide (t14.1 = (1 : Int))) = true then ((atI x_machine.leave state_10).bind fun t23 => (atI x_machine.leave state_10).bind fun t24 => some ((t14.2.1, t14.2.2), t4, (setI x_machine.leave state_10 (t23 - (1 : Int))))) else ((m_law_draw (t14.2.1, t14.2.2) (900 : Int)).bind fun t25 => (grd (many_1 ≠ 0) ()).bind fun g26 => (atI t4 state_10).bind fun t27 => (grd (Sm (t27).length) ()).bind fun g28 => some ((t25.2.1, t25.2.2), (setI t4 state_10 (aput t27 t13 (Int.fmod t25.1 many_1))), x_machine.leave)) : Option (((List Int) × Int) × (List (List (Str × Int))) × (List Int))).bind fun j22 => some ((j22.1.1, j22.1.2), j22.2.1, t7, j22.2.2)) : Option (((List Int) × Int) × (List (List (Str × Int))) × (List (List (Str × Int))) × (List Int))).bind fun j16 => ((m_Machine_init x_machine.facts j16.2.1 j16.2.2.1 j16.2.2.2).bind fun t29 => some ((D_Machine.mk t29.facts t29.step t29.gain t29.leave), (j16.1.1, j16.1.2)))))))))))
def rs_law_near (C_Machine : Addr) : O_law_near → Sh := fun o => (fz (t_Machine C_Machine) o.1)
def ls_law_near (C_Machine : Addr) : O_law_near → List Sh := fun o => [(oLst [(fz (tList tInt) o.2.1), (fz tInt o.2.2)])]
def P_law_near (C_Machine : Addr) : Phi := fun ss r L => ∃ (x_box : ((List Int) × Int)) (x_machine : D_Machine) (o : O_law_near), m_law_near x_box x_machine = some o ∧ ss = [(oLst [(fz (tList tInt) x_box.1), (fz tInt x_box.2)]), (fz (t_Machine C_Machine) x_machine)] ∧ r = rs_law_near C_Machine o ∧ L = [(0, (oLst [(fz (tList tInt) o.2.1), (fz tInt o.2.2)]))]
theorem ok_law_near {C_Machine : Addr} (cl_Machine : Cls K C_Machine) (na_Machine_leave : NoAttr K C_Machine "leave") (m_len : mg "len" = none) (na_Machine_step : NoAttr K C_Machine "step") (m_dict : mg "dict" = none) (na_Machine_gain : NoAttr K C_Machine "gain") (m_list : mg "list" = none) (C_law_draw : CalG P w K mg base CX0 1 "_law_draw" ["box", "many"] (spS 2 P_law_draw)) (m_int : mg "int" = none) (na_Machine_facts : NoAttr K C_Machine "facts") (M_Machine : Mkr P w K mg base 1 C_Machine "Machine" ["self", "facts", "step", "gain", "leave"] (spS 5 (P_Machine_init C_Machine))) {f0 : Addr} {fd : FuncData} (D : Fun K "_law_near" "_law_near" s_law_near f0 fd) : FnG P w K mg base CX0 3 f0 fd ["box", "machine"] (spS 2 (P_law_near C_Machine)) := by
  refine Fun.okS D sc_law_near rfl (by decide) fun X0 s H A outer cdv E ss r L vs hr hlen hP => ?_
  obtain ⟨x_box, x_machine, o_, h, rfl, rfl, rfl⟩ := hP
  obtain ⟨v0, v1, rfl⟩ : ∃ v0 v1, vs = [v0, v1] := by
    match vs, hlen with
    | [v0, v1], _ => exact ⟨v0, v1, rfl⟩
  refine ⟨_, rs_law_near C_Machine, ls_law_near C_Machine, o_, [(0, v0)], rfl, rfl, by intro p hp; simp only [List.mem_cons, List.not_mem_nil, or_false] at hp; subst hp; rfl, rfl, ?_⟩
  clear X0
  unfold m_law_near at h
  show SJ _ _ _ [some (oLst [(fz (tList tInt) x_box.1), (fz tInt x_box.2)]), some (fz (t_Machine C_Machine) x_machine), none, none, none, none, none, none, none, none] _
  obtain ⟨many_1, h_many_1, h⟩ := bnd h
  have h_many_1 := Option.some.inj h_many_1
  refine sj_set (i := 2) (s := (fz tInt many_1)) sc_law_near.nd rfl (by first | exact Or.inl rfl | exact Or.inr rfl) (ej_is h_many_1 (ej_b (ss := [_]) Dl.cl_len (va_len rd_fz) (by rfl) m_len bt_len (aj_cons (ej_fld (j := 3) (ej_var (i := 1) rfl (by first | exact Or.inl rfl | exact Or.inr (Or.inl rfl) | exact Or.inr (Or.inr rfl)) rfl) cl_Machine na_Machine_leave rfl rfl) aj_nil))) ?_
  show SJ _ _ _ [some (oLst [(fz (tList tInt) x_box.1), (fz tInt x_box.2)]), some (fz (t_Machine C_Machine) x_machine), some (fz tInt many_1), none, none, none, none, none, none, none] _
  obtain ⟨g3, h_g3, h⟩ := bnd h
  obtain ⟨t4, h_t4, h⟩ := bnd h
  refine sj_setLc (i := 3) (s := (oLst ((t4).map (oD kStr tInt)))) (lcj_s (lcO (she := oD kStr tInt) (Γy := fun y2 => [some (oLst [(fz (tList tInt) x_box.1), (fz tInt x_box.2)]), some (fz (t_Machine C_Machine) x_machine), some (fz tInt many_1), none, none, none, none, none, none, some (fz (tDic kStr tInt) y2)]) (own := [("row", 9)]) (fun _ _ _ _ _ y2 => (gj0_name (i := 9) sc_law_near.nd rfl (by first | exact Or.inl rfl | exact Or.inr rfl) (z_none rfl))) (fun _ _ _ _ _ y2 oz hm h => (by have h := h;  (simp only [Option.some.injEq, Prod.mk.injEq] at h; first | subst h | (obtain ⟨_, _⟩ := h; subst_vars)); exact ts_nil)) (fun _ _ _ _ _ y2 z hm h => (by have h := h;  (simp only [Option.some.injEq, Prod.mk.injEq] at h; first | subst h | (obtain ⟨_, _⟩ := h; subst_vars)); exact (ej_ty (ss := [_]) cl_dict (va_dict rdd_fz) (by rfl) m_dict bt_dict (aj_cons (ej_var (i := 9) rfl (by first | exact Or.inl rfl | exact Or.inr (Or.inl rfl) | exact Or.inr (Or.inr rfl)) rfl) aj_nil)))) h_t4 (grd_iff h_g3).1 rfl sc_law_near.nd (ij_lst (ej_fld (j := 1) (ej_var (i := 1) rfl (by first | exact Or.inl rfl | exact Or.inr (Or.inl rfl) | exact Or.inr (Or.inr rfl)) rfl) cl_Machine na_Machine_step rfl rfl)) (blkOk_by (own := [("row", 9)]) (N := n_law_near) (sc := defScope s_law_near) (by decide +kernel)) ⟨z_none rfl, trivial⟩) rfl rfl (sw_true rfl rfl rfl (by decide +kernel))) ?_
  show SJ _ _ _ [some (oLst [(fz (tList tInt) x_box.1), (fz tInt x_box.2)]), some (fz (t_Machine C_Machine) x_machine), some (fz tInt many_1), some (oLst ((t4).map (oD kStr tInt))), none, none, none, none, none, none] _
  obtain ⟨g6, h_g6, h⟩ := bnd h
  obtain ⟨t7, h_t7, h⟩ := bnd h
  refine sj_setLc (i := 4) (s := (oLst ((t7).map (oD kStr tInt)))) (lcj_s (lcO (she := oD kStr tInt) (Γy := fun y5 => [some (oLst [(fz (tList tInt) x_box.1), (fz tInt x_box.2)]), some (fz (t_Machine C_Machine) x_machine), some (fz tInt many_1), some (oLst ((t4).map (oD kStr tInt))), none, none, none, none, none, some (fz (tDic kStr tInt) y5)]) (own := [("row", 9)]) (fun _ _ _ _ _ y5 => (gj0_name (i := 9) sc_law_near.nd rfl (by first | exact Or.inl rfl | exact Or.inr rfl) (z_none rfl))) (fun _ _ _ _ _ y5 oz hm h => (by have h := h;  (simp only [Option.some.injEq, Prod.mk.injEq] at h; first | subst h | (obtain ⟨_, _⟩ := h; subst_vars)); exact ts_nil)) (fun _ _ _ _ _ y5 z hm h => (by have h := h;  (simp only [Option.some.injEq, Prod.mk.injEq] at h; first | subst h | (obtain ⟨_, _⟩ := h; subst_vars)); exact (ej_ty (ss := [_]) cl_dict (va_dict rdd_fz) (by rfl) m_dict bt_dict (aj_cons (ej_var (i := 9) rfl (by first | exact Or.inl rfl | exact Or.inr (Or.inl rfl) | exact Or.inr (Or.inr rfl)) rfl) aj_nil)))) h_t7 (grd_iff h_g6).1 rfl sc_law_near.nd (ij_lst (ej_fld (j := 2) (ej_var (i := 1) rfl (by first | exact Or.inl rfl | exact Or.inr (Or.inl rfl) | exact Or.inr (Or.inr rfl)) rfl) cl_Machine na_Machine_gain rfl rfl)) (blkOk_by (own := [("row", 9)]) (N := n_law_near) (sc := defScope s_law_near) (by decide +kernel)) ⟨z_none rfl, trivial⟩) rfl rfl (sw_true rfl rfl rfl (by decide +kernel))) ?_
  show SJ _ _ _ [some (oLst [(fz (tList tInt) x_box.1), (fz tInt x_box.2)]), some (fz (t_Machine C_Machine) x_machine), some (fz tInt many_1), some (oLst ((t4).map (oD kStr tInt))), some (oLst ((t7).map (oD kStr tInt))), none, none, none, none, none] _
  refine sj_set (i := 5) (s := (oL tInt x_machine.leave)) sc_law_near.nd rfl (by first | exact Or.inl rfl | exact Or.inr rfl) (ej_ty (ss := [_]) Dl.cl_list (va_listL rd_fz) (by rfl) m_list bt_list (aj_cons (ej_fld (j := 3) (ej_var (i := 1) rfl (by first | exact Or.inl rfl | exact Or.inr (Or.inl rfl) | exact Or.inr (Or.inr rfl)) rfl) cl_Machine na_Machine_leave rfl rfl) aj_nil)) ?_
  show SJ _ _ _ [some (oLst [(fz (tList tInt) x_box.1), (fz tInt x_box.2)]), some (fz (t_Machine C_Machine) x_machine), some (fz tInt many_1), some (oLst ((t4).map (oD kStr tInt))), some (oLst ((t7).map (oD kStr tInt))), some (oL tInt x_machine.leave), none, none, none, none] _
  obtain ⟨t8, h_t8, h⟩ := bnd h
  obtain ⟨g9, h_g9, h⟩ := bnd h
  obtain ⟨state_10, h_state_10, h⟩ := bnd h
  have h_state_10 := Option.some.inj h_state_10
  refine sj_set (i := 6) (s := (fz tInt state_10)) sc_law_near.nd rfl (by first | exact Or.inl rfl | exact Or.inr rfl) (ej_is h_state_10 (ej_mod (ej_ty (ss := [_]) Dl.cl_int va_int (by rfl) m_int bt_int (aj_cons (ej_call C_law_draw (hr.mono (by decide)) (by rfl) pass0 (aj_lend (i := 0) rfl (by first | exact Or.inl rfl | exact Or.inr (Or.inl rfl) | exact Or.inr (Or.inr rfl)) rfl (aj_cons ej_int aj_nil)) rfl ⟨(x_box.1, x_box.2), (900 : Int), t8, h_t8, rfl, rfl, rfl⟩) aj_nil)) (ej_var (i := 2) rfl (by first | exact Or.inl rfl | exact Or.inr (Or.inl rfl) | exact Or.inr (Or.inr rfl)) rfl) (grd_iff h_g9).1)) ?_
  show SJ _ _ _ [some (oLst [(fz (tList tInt) t8.2.1), (fz tInt t8.2.2)]), some (fz (t_Machine C_Machine) x_machine), some (fz tInt many_1), some (oLst ((t4).map (oD kStr tInt))), some (oLst ((t7).map (oD kStr tInt))), some (oL tInt x_machine.leave), some (fz tInt state_10), none, none, none] _
  obtain ⟨t11, h_t11, h⟩ := bnd h
  obtain ⟨g12, h_g12, h⟩ := bnd h
  obtain ⟨t13, h_t13, h⟩ := bnd h
  refine sj_set (i := 7) (s := (fz tStr t13)) sc_law_near.nd rfl (by first | exact Or.inl rfl | exact Or.inr rfl) (ej_ix ix_list (v2_ixL rd_fz h_t13) (ej_fld (j := 0) (ej_var (i := 1) rfl (by first | exact Or.inl rfl | exact Or.inr (Or.inl rfl) | exact Or.inr (Or.inr rfl)) rfl) cl_Machine na_Machine_facts rfl rfl) (ej_mod (ej_ty (ss := [_]) Dl.cl_int va_int (by rfl) m_int bt_int (aj_cons (ej_call C_law_draw (hr.mono (by decide)) (by rfl) pass0 (aj_lend (i := 0) rfl (by first | exact Or.inl rfl | exact Or.inr (Or.inl rfl) | exact Or.inr (Or.inr rfl)) rfl (aj_cons ej_int aj_nil)) rfl ⟨(t8.2.1, t8.2.2), (900 : Int), t11, h_t11, rfl, rfl, rfl⟩) aj_nil)) (ej_b (ss := [_]) Dl.cl_len (va_len rd_fz) (by rfl) m_len bt_len (aj_cons (ej_fld (j := 0) (ej_var (i := 1) rfl (by first | exact Or.inl rfl | exact Or.inr (Or.inl rfl) | exact Or.inr (Or.inr rfl)) rfl) cl_Machine na_Machine_facts rfl rfl) aj_nil)) (grd_iff h_g12).1) (fun _ _ => rfl)) ?_
  show SJ _ _ _ [some (oLst [(fz (tList tInt) t11.2.1), (fz tInt t11.2.2)]), some (fz (t_Machine C_Machine) x_machine), some (fz tInt many_1), some (oLst ((t4).map (oD kStr tInt))), some (oLst ((t7).map (oD kStr tInt))), some (oL tInt x_machine.leave), some (fz tInt state_10), some (fz tStr t13), none, none] _
  obtain ⟨t14, h_t14, h⟩ := bnd h
  refine sj_set (i := 8) (s := (fz tInt t14.1)) sc_law_near.nd rfl (by first | exact Or.inl rfl | exact Or.inr rfl) (ej_call C_law_draw (hr.mono (by decide)) (by rfl) pass0 (aj_lend (i := 0) rfl (by first | exact Or.inl rfl | exact Or.inr (Or.inl rfl) | exact Or.inr (Or.inr rfl)) rfl (aj_cons ej_int aj_nil)) rfl ⟨(t11.2.1, t11.2.2), (3 : Int), t14, h_t14, rfl, rfl, rfl⟩) ?_
  show SJ _ _ _ [some (oLst [(fz (tList tInt) t14.2.1), (fz tInt t14.2.2)]), some (fz (t_Machine C_Machine) x_machine), some (fz tInt many_1), some (oLst ((t4).map (oD kStr tInt))), some (oLst ((t7).map (oD kStr tInt))), some (oL tInt x_machine.leave), some (fz tInt state_10), some (fz tStr t13), some (fz tInt t14.1), none] _
  obtain ⟨j16, h_j16, h⟩ := bnd h
  refine sj_if (t := (decide (t14.1 = (0 : Int)))) (Γm := [some (oLst [(fz (tList tInt) j16.1.1), (fz tInt j16.1.2)]), some (fz (t_Machine C_Machine) x_machine), some (fz tInt many_1), some (oLst ((j16.2.1).map (oD kStr tInt))), some (oLst ((j16.2.2.1).map (oD kStr tInt))), some (oL tInt j16.2.2.2), some (fz tInt state_10), some (fz tStr t13), some (fz tInt t14.1), none]) (tj_cmp (ej_eq (ej_var (i := 8) rfl (by first | exact Or.inl rfl | exact Or.inr (Or.inl rfl) | exact Or.inr (Or.inr rfl)) rfl) ej_int)) ?_ ?_ ?_
  · intro h_b15
    clear h; have h := ifT h_b15 h_j16; clear h_j16
    show SJ _ _ _ [some (oLst [(fz (tList tInt) t14.2.1), (fz tInt t14.2.2)]), some (fz (t_Machine C_Machine) x_machine), some (fz tInt many_1), some (oLst ((t4).map (oD kStr tInt))), some (oLst ((t7).map (oD kStr tInt))), some (oL tInt x_machine.leave), some (fz tInt state_10), some (fz tStr t13), some (fz tInt t14.1), none] _
    obtain ⟨t17, h_t17, h⟩ := bnd h
    obtain ⟨t18, h_t18, h⟩ := bnd h
    obtain ⟨t19, h_t19, h⟩ := bnd h
    obtain ⟨g20, h_g20, h⟩ := bnd h
    refine sj_dputM (hu_of hr.room) (ej_add (ej_dgetF (hu_of hr.room) rdd_oD h_t18 (fj_ixM (fj_var (i := 4) rfl (by first | exact Or.inl rfl | exact Or.inr (Or.inl rfl) | exact Or.inr (Or.inr rfl)) rfl) (ej_var (i := 6) rfl (by first | exact Or.inl rfl | exact Or.inr (Or.inl rfl) | exact Or.inr (Or.inr rfl)) rfl) h_t17 (fun _ _ => rfl)) (ej_var (i := 7) rfl (by first | exact Or.inl rfl | exact Or.inr (Or.inl rfl) | exact Or.inr (Or.inr rfl)) rfl) (fun _ _ => rfl)) ej_int) (fj_var (i := 4) rfl (by first | exact Or.inl rfl | exact Or.inr (Or.inl rfl) | exact Or.inr (Or.inr rfl)) rfl) (ej_var (i := 6) rfl (by first | exact Or.inl rfl | exact Or.inr (Or.inl rfl) | exact Or.inr (Or.inr rfl)) rfl) h_t19 (ej_var (i := 7) rfl (by first | exact Or.inl rfl | exact Or.inr (Or.inl rfl) | exact Or.inr (Or.inr rfl)) rfl) (grd_iff h_g20).1 (fun _ _ => rfl) ?_
    show SJ _ _ _ [some (oLst [(fz (tList tInt) t14.2.1), (fz tInt t14.2.2)]), some (fz (t_Machine C_Machine) x_machine), some (fz tInt many_1), some (oLst ((t4).map (oD kStr tInt))), some (oLst (((setI t7 state_10 (aput t19 t13 (t18 + (1 : Int))))).map (oD kStr tInt))), some (oL tInt x_machine.leave), some (fz tInt state_10), some (fz tStr t13), some (fz tInt t14.1), none] _
    (simp only [Option.some.injEq, Prod.mk.injEq] at h; first | subst h | (obtain ⟨_, _⟩ := h; subst_vars))
    exact sj_join (fl := [true, true, true, true, true, true, true, true, true, true]) rfl rfl (fun _ _ _ h => h)
  · intro h_b15
    clear h; have h := ifF h_b15 h_j16; clear h_j16
    show SJ _ _ _ [some (oLst [(fz (tList tInt) t14.2.1), (fz tInt t14.2.2)]), some (fz (t_Machine C_Machine) x_machine), some (fz tInt many_1), some (oLst ((t4).map (oD kStr tInt))), some (oLst ((t7).map (oD kStr tInt))), some (oL tInt x_machine.leave), some (fz tInt state_10), some (fz tStr t13), some (fz tInt t14.1), none] _
    obtain ⟨j22, h_j22, h⟩ := bnd h
    refine sj_if (t := (decide (t14.1 = (1 : Int)))) (Γm := [some (oLst [(fz (tList tInt) j22.1.1), (fz tInt j22.1.2)]), some (fz (t_Machine C_Machine) x_machine), some (fz tInt many_1), some (oLst ((j22.2.1).map (oD kStr tInt))), some (oLst ((t7).map (oD kStr tInt))), some (oL tInt j22.2.2), some (fz tInt state_10), some (fz tStr t13), some (fz tInt t14.1), none]) (tj_cmp (ej_eq (ej_var (i := 8) rfl (by first | exact Or.inl rfl | exact Or.inr (Or.inl rfl) | exact Or.inr (Or.inr rfl)) rfl) ej_int)) ?_ ?_ ?_
    · intro h_b21
      clear h; have h := ifT h_b21 h_j22; clear h_j22
      show SJ _ _ _ [some (oLst [(fz (tList tInt) t14.2.1), (fz tInt t14.2.2)]), some (fz (t_Machine C_Machine) x_machine), some (fz tInt many_1), some (oLst ((t4).map (oD kStr tInt))), some (oLst ((t7).map (oD kStr tInt))), some (oL tInt x_machine.leave), some (fz tInt state_10), some (fz tStr t13), some (fz tInt t14.1), none] _
      obtain ⟨t23, h_t23, h⟩ := bnd h
      obtain ⟨t24, h_t24, h⟩ := bnd h
      refine sj_setLF (ej_sub (ej_ixP ix_list (v2_ixL rd_oL h_t23) (pj_var (i := 5) rfl (by first | exact Or.inl rfl | exact Or.inr (Or.inl rfl) | exact Or.inr (Or.inr rfl)) rfl) (ej_var (i := 6) rfl (by first | exact Or.inl rfl | exact Or.inr (Or.inl rfl) | exact Or.inr (Or.inr rfl)) rfl) (fun _ _ => rfl)) ej_int) (fj_var (i := 5) rfl (by first | exact Or.inl rfl | exact Or.inr (Or.inl rfl) | exact Or.inr (Or.inr rfl)) rfl) (ej_var (i := 6) rfl (by first | exact Or.inl rfl | exact Or.inr (Or.inl rfl) | exact Or.inr (Or.inr rfl)) rfl) h_t24 ?_
      show SJ _ _ _ [some (oLst [(fz (tList tInt) t14.2.1), (fz tInt t14.2.2)]), some (fz (t_Machine C_Machine) x_machine), some (fz tInt many_1), some (oLst ((t4).map (oD kStr tInt))), some (oLst ((t7).map (oD kStr tInt))), some (oL tInt (setI x_machine.leave state_10 (t23 - (1 : Int)))), some (fz tInt state_10), some (fz tStr t13), some (fz tInt t14.1), none] _
      (simp only [Option.some.injEq, Prod.mk.injEq] at h; first | subst h | (obtain ⟨_, _⟩ := h; subst_vars))
      exact sj_join (fl := [true, true, true, true, true, true, true, true, true, true]) rfl rfl (fun _ _ _ h => h)
    · intro h_b21
      clear h; have h := ifF h_b21 h_j22; clear h_j22
      show SJ _ _ _ [some (oLst [(fz (tList tInt) t14.2.1), (fz tInt t14.2.2)]), some (fz (t_Machine C_Machine) x_machine), some (fz tInt many_1), some (oLst ((t4).map (oD kStr tInt))), some (oLst ((t7).map (oD kStr tInt))), some (oL tInt x_machine.leave), some (fz tInt state_10), some (fz tStr t13), some (fz tInt t14.1), none] _
      obtain ⟨t25, h_t25, h⟩ := bnd h
      obtain ⟨g26, h_g26, h⟩ := bnd h
      obtain ⟨t27, h_t27, h⟩ := bnd h
      obtain ⟨g28, h_g28, h⟩ := bnd h
      refine sj_dputM (hu_of hr.room) (ej_mod (ej_ty (ss := [_]) Dl.cl_int va_int (by rfl) m_int bt_int (aj_cons (ej_call C_law_draw (hr.mono (by decide)) (by rfl) pass0 (aj_lend (i := 0) rfl (by first | exact Or.inl rfl | exact Or.inr (Or.inl rfl) | exact Or.inr (Or.inr rfl)) rfl (aj_cons ej_int aj_nil)) rfl ⟨(t14.2.1, t14.2.2), (900 : Int), t25, h_t25, rfl, rfl, rfl⟩) aj_nil)) (ej_var (i := 2) rfl (by first | exact Or.inl rfl | exact Or.inr (Or.inl rfl) | exact Or.inr (Or.inr rfl)) rfl) (grd_iff h_g26).1) (fj_var (i := 3) rfl (by first | exact Or.inl rfl | exact Or.inr (Or.inl rfl) | exact Or.inr (Or.inr rfl)) rfl) (ej_var (i := 6) rfl (by first | exact Or.inl rfl | exact Or.inr (Or.inl rfl) | exact Or.inr (Or.inr rfl)) rfl) h_t27 (ej_var (i := 7) rfl (by first | exact Or.inl rfl | exact Or.inr (Or.inl rfl) | exact Or.inr (Or.inr rfl)) rfl) (grd_iff h_g28).1 (fun _ _ => rfl) ?_
      show SJ _ _ _ [some (oLst [(fz (tList tInt) t25.2.1), (fz tInt t25.2.2)]), some (fz (t_Machine C_Machine) x_machine), some (fz tInt many_1), some (oLst (((setI t4 state_10 (aput t27 t13 (Int.fmod t25.1 many_1)))).map (oD kStr tInt))), some (oLst ((t7).map (oD kStr tInt))), some (oL tInt x_machine.leave), some (fz tInt state_10), some (fz tStr t13), some (fz tInt t14.1), none] _
      (simp only [Option.some.injEq, Prod.mk.injEq] at h; first | subst h | (obtain ⟨_, _⟩ := h; subst_vars))
      exact sj_join (fl := [true, true, true, true, true, true, true, true, true, true]) rfl rfl (fun _ _ _ h => h)
    (simp only [Option.some.injEq, Prod.mk.injEq] at h; first | subst h | (obtain ⟨_, _⟩ := h; subst_vars))
    exact sj_join (fl := [true, true, true, true, true, true, true, true, true, true]) rfl rfl (fun _ _ _ h => h)
  obtain ⟨t29, h_t29, h⟩ := bnd h
  (simp only [Option.some.injEq, Prod.mk.injEq] at h; first | subst h | (obtain ⟨_, _⟩ := h; subst_vars))
  exact sj_ret (rs := rs_law_near C_Machine) (ls := ls_law_near C_Machine) (y := ((D_Machine.mk t29.facts t29.step t29.gain t29.leave), (j16.1.1, j16.1.2))) (ej_fz (ej_mk (ss := [_, _, _, _]) M_Machine (hr.mono (by decide)) (by rfl) pass0 (aj_cons (ej_fz (ej_ty (ss := [_]) Dl.cl_list (va_listL rd_fz) (by rfl) m_list bt_list (aj_cons (ej_fld (j := 0) (ej_var (i := 1) rfl (by first | exact Or.inl rfl | exact Or.inr (Or.inl rfl) | exact Or.inr (Or.inr rfl)) rfl) cl_Machine na_Machine_facts rfl rfl) aj_nil)) fz_oL) (aj_cons (ej_fz (ej_mov (i := 3) rfl (by first | exact Or.inl rfl | exact Or.inr (Or.inl rfl) | exact Or.inr (Or.inr rfl)) rfl) fz_oM) (aj_cons (ej_fz (ej_mov (i := 4) rfl (by first | exact Or.inl rfl | exact Or.inr (Or.inl rfl) | exact Or.inr (Or.inr rfl)) rfl) fz_oM) (aj_cons (ej_fz (ej_mov (i := 5) rfl (by first | exact Or.inl rfl | exact Or.inr (Or.inl rfl) | exact Or.inr (Or.inr rfl)) rfl) fz_oL) aj_nil)))) ⟨x_machine.facts, j16.2.1, j16.2.2.1, j16.2.2.2, t29, h_t29, rfl, rfl, rfl⟩) (fz_ins (sh := sh_Machine) (y := (D_Machine.mk t29.facts t29.step t29.gain t29.leave)) ⟨fz_fz, fz_fz, fz_fz, fz_fz, trivial⟩)) rfl rfl (show List.Nodup ([0] : List Nat) by decide) rfl

theorem ok_law_same (m_repr : mg "repr" = none) {f0 : Addr} {fd : FuncData} (D : Fun K "_law_same" "_law_same" s_law_same f0 fd) : FnG P w K mg base CX0 1 f0 fd ["one", "other"] (spS 2 Psame) := by
  refine Fun.okS D sc_law_same rfl (by decide) fun X0 s H A outer cdv E ss r L vs hr hlen hP => ?_
  obtain ⟨α, β, τ, τ2, n1, n2, S1, S2, x, y, q1, q2, hx, hy, rfl, rfl, rfl⟩ := hP
  obtain ⟨v0, v1, rfl⟩ : ∃ v0 v1, vs = [v0, v1] := by
    match vs, hlen with
    | [v0, v1], _ => exact ⟨v0, v1, rfl⟩
  refine ⟨_, fun o => fz tBool o, fun _ => [], alike (dat τ x) (dat τ2 y), [], rfl, rfl, (fun _ h => nomatch h), rfl, ?_⟩
  clear X0
  show SJ _ _ _ [some (fz τ x), some (fz τ2 y)] _
  exact sj_ret (rs := fun o => fz tBool o) (ls := fun _ => []) (y := alike (dat τ x) (dat τ2 y)) (ej_eq (ej_repr (hg_of hr) (hu1 hr (Nat.le_trans q1 (by decide))) m_repr (by rfl) hx (ej_var (i := 0) rfl (by first | exact Or.inl rfl | exact Or.inr (Or.inl rfl) | exact Or.inr (Or.inr rfl)) rfl)) (ej_repr (hg_of hr) (hu1 hr (Nat.le_trans q2 (by decide))) m_repr (by rfl) hy (ej_var (i := 1) rfl (by first | exact Or.inl rfl | exact Or.inr (Or.inl rfl) | exact Or.inr (Or.inr rfl)) rfl))) rfl rfl (show List.Nodup ([] : List Nat) by decide) rfl

abbrev O_law_total : Type := Int
def m_law_total (x_machine : D_Machine) (x_state : Int) (x_career : (List Str)) : Option O_law_total := (((foldO (S := Int × Int) (fun (s1 : Int × Int) (y2 : Str) => ((atI x_machine.gain s1.1).bind fun t3 => (aget t3 y2).bind fun t4 => (some (s1.2 + t4)).bind fun found_5 => ((atI x_machine.step s1.1).bind fun t6 => (aget t6 y2).bind fun t7 => some (t7, found_5)))) (x_state, (0 : Int)) x_career).bind fun j8 => ((atI x_machine.leave j8.1).bind fun t10 => some (j8.2 + t10))))
def rs_law_total (C_Machine : Addr) : O_law_total → Sh := fun o => (fz tInt o)
def ls_law_total (C_Machine : Addr) : O_law_total → List Sh := fun o => []
def P_law_total (C_Machine : Addr) : Phi := fun ss r L => ∃ (x_machine : D_Machine) (x_state : Int) (x_career : (List Str)) (o : O_law_total), m_law_total x_machine x_state x_career = some o ∧ ss = [(fz (t_Machine C_Machine) x_machine), (fz tInt x_state), (fz (tList tStr) x_career)] ∧ r = rs_law_total C_Machine o ∧ L = []
theorem ok_law_total {C_Machine : Addr} (cl_Machine : Cls K C_Machine) (na_Machine_gain : NoAttr K C_Machine "gain") (na_Machine_step : NoAttr K C_Machine "step") (na_Machine_leave : NoAttr K C_Machine "leave") {f0 : Addr} {fd : FuncData} (D : Fun K "_law_total" "_law_total" s_law_total f0 fd) : FnG P w K mg base CX0 1 f0 fd ["machine", "state", "career"] (spS 3 (P_law_total C_Machine)) := by
  refine Fun.okS D sc_law_total rfl (by decide) fun X0 s H A outer cdv E ss r L vs hr hlen hP => ?_
  obtain ⟨x_machine, x_state, x_career, o_, h, rfl, rfl, rfl⟩ := hP
  obtain ⟨v0, v1, v2, rfl⟩ : ∃ v0 v1 v2, vs = [v0, v1, v2] := by
    match vs, hlen with
    | [v0, v1, v2], _ => exact ⟨v0, v1, v2, rfl⟩
  refine ⟨_, rs_law_total C_Machine, ls_law_total C_Machine, o_, [], rfl, rfl, (fun _ h => nomatch h), rfl, ?_⟩
  clear X0
  unfold m_law_total at h
  show SJ _ _ _ [some (fz (t_Machine C_Machine) x_machine), some (fz tInt x_state), some (fz (tList tStr) x_career), none, none] _
  refine sj_set (i := 3) (s := (fz tInt (0 : Int))) sc_law_total.nd rfl (by first | exact Or.inl rfl | exact Or.inr rfl) ej_int ?_
  show SJ _ _ _ [some (fz (t_Machine C_Machine) x_machine), some (fz tInt x_state), some (fz (tList tStr) x_career), some (fz tInt (0 : Int)), none] _
  obtain ⟨j8, h_j8, h⟩ := bnd h
  refine sj_for (sh := fz tStr) (Γs := fun (s1 : Int × Int) => [some (fz (t_Machine C_Machine) x_machine), some (fz tInt s1.1), some (fz (tList tStr) x_career), some (fz tInt s1.2), none]) (Γy := fun (s1 : Int × Int) y2 => [some (fz (t_Machine C_Machine) x_machine), some (fz tInt s1.1), some (fz (tList tStr) x_career), some (fz tInt s1.2), some (fz tStr y2)]) (fl := [true, true, true, true, true]) (rs_law_total C_Machine) (ls_law_total C_Machine) h_j8 (ij_lst (ej_var (i := 2) rfl (by first | exact Or.inl rfl | exact Or.inr (Or.inl rfl) | exact Or.inr (Or.inr rfl)) rfl)) rfl rfl (fun s1 y2 => (gj_name (i := 4) sc_law_total.nd rfl (by first | exact Or.inl rfl | exact Or.inr rfl))) ?_ ?_ PassesOwn.never rfl
  · intro s1 y2 o_ h_hy9 h
    clear h_j8; have h := h
    show SJ _ _ _ [some (fz (t_Machine C_Machine) x_machine), some (fz tInt s1.1), some (fz (tList tStr) x_career), some (fz tInt s1.2), some (fz tStr y2)] _
    obtain ⟨t3, h_t3, h⟩ := bnd h
    obtain ⟨t4, h_t4, h⟩ := bnd h
    obtain ⟨found_5, h_found_5, h⟩ := bnd h
    have h_found_5 := Option.some.inj h_found_5
    refine sj_set (i := 3) (s := (fz tInt found_5)) sc_law_total.nd rfl (by first | exact Or.inl rfl | exact Or.inr rfl) (ej_is h_found_5 (ej_add (ej_var (i := 3) rfl (by first | exact Or.inl rfl | exact Or.inr (Or.inl rfl) | exact Or.inr (Or.inr rfl)) rfl) (ej_dget (hu_of hr.room) rdd_fz h_t4 (ej_ix ix_list (v2_ixL rd_fz h_t3) (ej_fld (j := 2) (ej_var (i := 0) rfl (by first | exact Or.inl rfl | exact Or.inr (Or.inl rfl) | exact Or.inr (Or.inr rfl)) rfl) cl_Machine na_Machine_gain rfl rfl) (ej_var (i := 1) rfl (by first | exact Or.inl rfl | exact Or.inr (Or.inl rfl) | exact Or.inr (Or.inr rfl)) rfl) (fun _ _ => rfl)) (ej_var (i := 4) rfl (by first | exact Or.inl rfl | exact Or.inr (Or.inl rfl) | exact Or.inr (Or.inr rfl)) rfl) (fun _ _ => rfl)))) ?_
    show SJ _ _ _ [some (fz (t_Machine C_Machine) x_machine), some (fz tInt s1.1), some (fz (tList tStr) x_career), some (fz tInt found_5), some (fz tStr y2)] _
    obtain ⟨t6, h_t6, h⟩ := bnd h
    obtain ⟨t7, h_t7, h⟩ := bnd h
    refine sj_set (i := 1) (s := (fz tInt t7)) sc_law_total.nd rfl (by first | exact Or.inl rfl | exact Or.inr rfl) (ej_dget (hu_of hr.room) rdd_fz h_t7 (ej_ix ix_list (v2_ixL rd_fz h_t6) (ej_fld (j := 1) (ej_var (i := 0) rfl (by first | exact Or.inl rfl | exact Or.inr (Or.inl rfl) | exact Or.inr (Or.inr rfl)) rfl) cl_Machine na_Machine_step rfl rfl) (ej_var (i := 1) rfl (by first | exact Or.inl rfl | exact Or.inr (Or.inl rfl) | exact Or.inr (Or.inr rfl)) rfl) (fun _ _ => rfl)) (ej_var (i := 4) rfl (by first | exact Or.inl rfl | exact Or.inr (Or.inl rfl) | exact Or.inr (Or.inr rfl)) rfl) (fun _ _ => rfl)) ?_
    show SJ _ _ _ [some (fz (t_Machine C_Machine) x_machine), some (fz tInt t7), some (fz (tList tStr) x_career), some (fz tInt found_5), some (fz tStr y2)] _
    (simp only [Option.some.injEq, Prod.mk.injEq] at h; first | subst h | (obtain ⟨_, _⟩ := h; subst_vars))
    exact sj_end (fl := [true, true, true, true, false]) rfl rfl
  show SJ _ _ _ [some (fz (t_Machine C_Machine) x_machine), some (fz tInt j8.1), some (fz (tList tStr) x_career), some (fz tInt j8.2), none] _
  obtain ⟨t10, h_t10, h⟩ := bnd h
  (simp only [Option.some.injEq, Prod.mk.injEq] at h; first | subst h | (obtain ⟨_, _⟩ := h; subst_vars))
  exact sj_ret (rs := rs_law_total C_Machine) (ls := ls_law_total C_Machine) (y := (j8.2 + t10)) (ej_add (ej_var (i := 3) rfl (by first | exact Or.inl rfl | exact Or.inr (Or.inl rfl) | exact Or.inr (Or.inr rfl)) rfl) (ej_ix ix_list (v2_ixL rd_fz h_t10) (ej_fld (j := 3) (ej_var (i := 0) rfl (by first | exact Or.inl rfl | exact Or.inr (Or.inl rfl) | exact Or.inr (Or.inr rfl)) rfl) cl_Machine na_Machine_leave rfl rfl) (ej_var (i := 1) rfl (by first | exact Or.inl rfl | exact Or.inr (Or.inl rfl) | exact Or.inr (Or.inr rfl)) rfl) (fun _ _ => rfl))) rfl rfl (show List.Nodup ([] : List Nat) by decide) rfl

abbrev O_law_careers : Type := (List (List Str))
def m_law_careers (x_facts : (List Str)) (x_most : Int) : Option O_law_careers := ((some [([] : List Str)]).bind fun found_1 => ((some [([] : List Str)]).bind fun rows_2 => ((grd (-1000000000 ≤ x_most ∧ x_most ≤ 1000000000) ()).bind fun g3 => (foldO (S := (List (List Str)) × (List (List Str))) (fun (s4 : (List (List Str)) × (List (List Str))) (y5 : Int) => ((some ([] : List (List Str))).bind fun longer_6 => ((foldO (S := (List (List Str))) (fun (s7 : (List (List Str))) (y8 : (List Str)) => ((grd (Sm (x_facts).length) ()).bind fun g10 => (mapC (fun (y9 : Str) => ((grd (Sm ((y8).length + ([y9]).length)) ()).bind fun g11 => some (some (y8 ++ [y9])))) x_facts).bind fun t12 => (grd (Sm ((s7).length + (t12).length)) ()).bind fun g13 => (some (s7 ++ t12)).bind fun longer_14 => some (longer_14))) (longer_6) s4.2).bind fun j15 => ((grd (Sm ((s4.1).length + (j15).length)) ()).bind fun g17 => (some (s4.1 ++ j15)).bind fun found_18 => (some (found_18, j15)))))) (found_1, rows_2) (range1 x_most)).bind fun j19 => (some j19.1))))
def rs_law_careers : O_law_careers → Sh := fun o => (fz (tList (tList tStr)) o)
def ls_law_careers : O_law_careers → List Sh := fun o => []
def P_law_careers : Phi := fun ss r L => ∃ (x_facts : (List Str)) (x_most : Int) (o : O_law_careers), m_law_careers x_facts x_most = some o ∧ ss = [(fz (tList tStr) x_facts), (fz tInt x_most)] ∧ r = rs_law_careers o ∧ L = []
theorem ok_law_careers (m_range : mg "range" = none) {f0 : Addr} {fd : FuncData} (D : Fun K "_law_careers" "_law_careers" s_law_careers f0 fd) : FnG P w K mg base CX0 1 f0 fd ["facts", "most"] (spS 2 P_law_careers) := by
  refine Fun.okS D sc_law_careers rfl (by decide) fun X0 s H A outer cdv E ss r L vs hr hlen hP => ?_
  obtain ⟨x_facts, x_most, o_, h, rfl, rfl, rfl⟩ := hP
  obtain ⟨v0, v1, rfl⟩ : ∃ v0 v1, vs = [v0, v1] := by
    match vs, hlen with
    | [v0, v1], _ => exact ⟨v0, v1, rfl⟩
  refine ⟨_, rs_law_careers, ls_law_careers, o_, [], rfl, rfl, (fun _ h => nomatch h), rfl, ?_⟩
  clear X0
  unfold m_law_careers at h
  show SJ _ _ _ [some (fz (tList tStr) x_facts), some (fz tInt x_most), none, none, none, none, none, none] _
  obtain ⟨found_1, h_found_1, h⟩ := bnd h
  have h_found_1 := Option.some.inj h_found_1
  refine sj_set (i := 2) (s := (fz (tList (tList tStr)) found_1)) sc_law_careers.nd rfl (by first | exact Or.inl rfl | exact Or.inr rfl) (ej_is h_found_1 (ej_fz (ej_lst (ss := [(fz (tList tStr) ([] : List Str))]) (aj_cons (ej_fz (ej_lst (ss := []) aj_nil) (fz_lm (τ := tStr) (xs := []))) aj_nil)) (fz_lm (τ := (tList tStr)) (xs := [([] : List Str)])))) ?_
  show SJ _ _ _ [some (fz (tList tStr) x_facts), some (fz tInt x_most), some (fz (tList (tList tStr)) found_1), none, none, none, none, none] _
  obtain ⟨rows_2, h_rows_2, h⟩ := bnd h
  have h_rows_2 := Option.some.inj h_rows_2
  refine sj_set (i := 3) (s := (fz (tList (tList tStr)) rows_2)) sc_law_careers.nd rfl (by first | exact Or.inl rfl | exact Or.inr rfl) (ej_is h_rows_2 (ej_fz (ej_lst (ss := [(fz (tList tStr) ([] : List Str))]) (aj_cons (ej_fz (ej_lst (ss := []) aj_nil) (fz_lm (τ := tStr) (xs := []))) aj_nil)) (fz_lm (τ := (tList tStr)) (xs := [([] : List Str)])))) ?_
  show SJ _ _ _ [some (fz (tList tStr) x_facts), some (fz tInt x_most), some (fz (tList (tList tStr)) found_1), some (fz (tList (tList tStr)) rows_2), none, none, none, none] _
  obtain ⟨g3, h_g3, h⟩ := bnd h
  obtain ⟨j19, h_j19, h⟩ := bnd h
  refine sj_for (sh := fz tInt) (Γs := fun (s4 : (List (List Str)) × (List (List Str))) => [some (fz (tList tStr) x_facts), some (fz tInt x_most), some (fz (tList (tList tStr)) s4.1), some (fz (tList (tList tStr)) s4.2), none, none, none, none]) (Γy := fun (s4 : (List (List Str)) × (List (List Str))) y5 => [some (fz (tList tStr) x_facts), some (fz tInt x_most), some (fz (tList (tList tStr)) s4.1), some (fz (tList (tList tStr)) s4.2), some (fz tInt y5), none, none, none]) (fl := [true, true, true, true, true, true, true, true]) (rs_law_careers) (ls_law_careers) h_j19 (ij_rg1 (by rfl) m_range (aj_cons (ej_var (i := 1) rfl (by first | exact Or.inl rfl | exact Or.inr (Or.inl rfl) | exact Or.inr (Or.inr rfl)) rfl) aj_nil) (grd_iff h_g3).1) rfl rfl (fun s4 y5 => (gj_name (i := 4) sc_law_careers.nd rfl (by first | exact Or.inl rfl | exact Or.inr rfl))) ?_ ?_ PassesOwn.never rfl
  · intro s4 y5 o_ h_hy20 h
    clear h_j19; have h := h
    show SJ _ _ _ [some (fz (tList tStr) x_facts), some (fz tInt x_most), some (fz (tList (tList tStr)) s4.1), some (fz (tList (tList tStr)) s4.2), some (fz tInt y5), none, none, none] _
    obtain ⟨longer_6, h_longer_6, h⟩ := bnd h
    have h_longer_6 := Option.some.inj h_longer_6
    refine sj_set (i := 5) (s := (fz (tList (tList tStr)) longer_6)) sc_law_careers.nd rfl (by first | exact Or.inl rfl | exact Or.inr rfl) (ej_is h_longer_6 (ej_fz (ej_lst (ss := []) aj_nil) (fz_lm (τ := (tList tStr)) (xs := [])))) ?_
    show SJ _ _ _ [some (fz (tList tStr) x_facts), some (fz tInt x_most), some (fz (tList (tList tStr)) s4.1), some (fz (tList (tList tStr)) s4.2), some (fz tInt y5), some (fz (tList (tList tStr)) longer_6), none, none] _
    obtain ⟨j15, h_j15, h⟩ := bnd h
    refine sj_for (sh := fz (tList tStr)) (Γs := fun (s7 : (List (List Str))) => [some (fz (tList tStr) x_facts), some (fz tInt x_most), some (fz (tList (tList tStr)) s4.1), some (fz (tList (tList tStr)) s4.2), some (fz tInt y5), some (fz (tList (tList tStr)) s7), none, none]) (Γy := fun (s7 : (List (List Str))) y8 => [some (fz (tList tStr) x_facts), some (fz tInt x_most), some (fz (tList (tList tStr)) s4.1), some (fz (tList (tList tStr)) s4.2), some (fz tInt y5), some (fz (tList (tList tStr)) s7), some (fz (tList tStr) y8), none]) (fl := [true, true, true, true, true, true, true, true]) (rs_law_careers) (ls_law_careers) h_j15 (ij_lst (ej_var (i := 3) rfl (by first | exact Or.inl rfl | exact Or.inr (Or.inl rfl) | exact Or.inr (Or.inr rfl)) rfl)) rfl rfl (fun s7 y8 => (gj_name (i := 6) sc_law_careers.nd rfl (by first | exact Or.inl rfl | exact Or.inr rfl))) ?_ ?_ PassesOwn.never rfl
    · intro s7 y8 o_ h_hy16 h
      clear h_j15; have h := h
      show SJ _ _ _ [some (fz (tList tStr) x_facts), some (fz tInt x_most), some (fz (tList (tList tStr)) s4.1), some (fz (tList (tList tStr)) s4.2), some (fz tInt y5), some (fz (tList (tList tStr)) s7), some (fz (tList tStr) y8), none] _
      obtain ⟨g10, h_g10, h⟩ := bnd h
      obtain ⟨t12, h_t12, h⟩ := bnd h
      obtain ⟨g13, h_g13, h⟩ := bnd h
      obtain ⟨longer_14, h_longer_14, h⟩ := bnd h
      have h_longer_14 := Option.some.inj h_longer_14
      refine sj_set (i := 5) (s := (fz (tList (tList tStr)) longer_14)) sc_law_careers.nd rfl (by first | exact Or.inl rfl | exact Or.inr rfl) (ej_is h_longer_14 (ej_fz (ej_cat (ej_var (i := 5) rfl (by first | exact Or.inl rfl | exact Or.inr (Or.inl rfl) | exact Or.inr (Or.inr rfl)) rfl) (ej_fz (lcj_e (lcP (Γy := fun y9 => [some (fz (tList tStr) x_facts), some (fz tInt x_most), some (fz (tList (tList tStr)) s4.1), some (fz (tList (tList tStr)) s4.2), some (fz tInt y5), some (fz (tList (tList tStr)) s7), some (fz (tList tStr) y8), some (fz tStr y9)]) (own := [("fact", 7)]) (fun _ _ _ _ _ y9 => (gj0_name (i := 7) sc_law_careers.nd rfl (by first | exact Or.inl rfl | exact Or.inr rfl) (z_none rfl))) (fun _ _ _ _ _ y9 oz hm h => (by have h := h; obtain ⟨g11, h_g11, h⟩ := bnd h;  (simp only [Option.some.injEq, Prod.mk.injEq] at h; first | subst h | (obtain ⟨_, _⟩ := h; subst_vars)); exact ts_nil)) (fun _ _ _ _ _ y9 z hm h => (by have h := h; obtain ⟨g11, h_g11, h⟩ := bnd h;  (simp only [Option.some.injEq, Prod.mk.injEq] at h; first | subst h | (obtain ⟨_, _⟩ := h; subst_vars)); exact (ej_fz (ej_cat (ej_var (i := 6) rfl (by first | exact Or.inl rfl | exact Or.inr (Or.inl rfl) | exact Or.inr (Or.inr rfl)) rfl) (ej_fz (ej_lst (ss := [(fz tStr y9)]) (aj_cons (ej_var (i := 7) rfl (by first | exact Or.inl rfl | exact Or.inr (Or.inl rfl) | exact Or.inr (Or.inr rfl)) rfl) aj_nil)) (fz_lm (τ := tStr) (xs := [y9]))) (grd_iff h_g11).1) fz_oL))) h_t12 (grd_iff h_g10).1 rfl sc_law_careers.nd (ij_lst (ej_var (i := 0) rfl (by first | exact Or.inl rfl | exact Or.inr (Or.inl rfl) | exact Or.inr (Or.inr rfl)) rfl)) (blkOk_by (own := [("fact", 7)]) (N := n_law_careers) (sc := defScope s_law_careers) (by decide +kernel)) ⟨z_none rfl, trivial⟩)) fz_oL) (grd_iff h_g13).1) fz_oL)) ?_
      show SJ _ _ _ [some (fz (tList tStr) x_facts), some (fz tInt x_most), some (fz (tList (tList tStr)) s4.1), some (fz (tList (tList tStr)) s4.2), some (fz tInt y5), some (fz (tList (tList tStr)) longer_14), some (fz (tList tStr) y8), none] _
      (simp only [Option.some.injEq, Prod.mk.injEq] at h; first | subst h | (obtain ⟨_, _⟩ := h; subst_vars))
      exact sj_end (fl := [true, true, true, true, true, true, false, true]) rfl rfl
    show SJ _ _ _ [some (fz (tList tStr) x_facts), some (fz tInt x_most), some (fz (tList (tList tStr)) s4.1), some (fz (tList (tList tStr)) s4.2), some (fz tInt y5), some (fz (tList (tList tStr)) j15), none, none] _
    obtain ⟨g17, h_g17, h⟩ := bnd h
    obtain ⟨found_18, h_found_18, h⟩ := bnd h
    have h_found_18 := Option.some.inj h_found_18
    refine sj_set (i := 2) (s := (fz (tList (tList tStr)) found_18)) sc_law_careers.nd rfl (by first | exact Or.inl rfl | exact Or.inr rfl) (ej_is h_found_18 (ej_fz (ej_cat (ej_var (i := 2) rfl (by first | exact Or.inl rfl | exact Or.inr (Or.inl rfl) | exact Or.inr (Or.inr rfl)) rfl) (ej_var (i := 5) rfl (by first | exact Or.inl rfl | exact Or.inr (Or.inl rfl) | exact Or.inr (Or.inr rfl)) rfl) (grd_iff h_g17).1) fz_oL)) ?_
    show SJ _ _ _ [some (fz (tList tStr) x_facts), some (fz tInt x_most), some (fz (tList (tList tStr)) found_18), some (fz (tList (tList tStr)) s4.2), some (fz tInt y5), some (fz (tList (tList tStr)) j15), none, none] _
    refine sj_set (i := 3) (s := (fz (tList (tList tStr)) j15)) sc_law_careers.nd rfl (by first | exact Or.inl rfl | exact Or.inr rfl) (ej_var (i := 5) rfl (by first | exact Or.inl rfl | exact Or.inr (Or.inl rfl) | exact Or.inr (Or.inr rfl)) rfl) ?_
    show SJ _ _ _ [some (fz (tList tStr) x_facts), some (fz tInt x_most), some (fz (tList (tList tStr)) found_18), some (fz (tList (tList tStr)) j15), some (fz tInt y5), some (fz (tList (tList tStr)) j15), none, none] _
    (simp only [Option.some.injEq, Prod.mk.injEq] at h; first | subst h | (obtain ⟨_, _⟩ := h; subst_vars))
    exact sj_end (fl := [true, true, true, true, false, false, true, true]) rfl rfl
  show SJ _ _ _ [some (fz (tList tStr) x_facts), some (fz tInt x_most), some (fz (tList (tList tStr)) j19.1), some (fz (tList (tList tStr)) j19.2), none, none, none, none] _
  (simp only [Option.some.injEq, Prod.mk.injEq] at h; first | subst h | (obtain ⟨_, _⟩ := h; subst_vars))
  exact sj_ret (rs := rs_law_careers) (ls := ls_law_careers) (y := j19.1) (ej_var (i := 2) rfl (by first | exact Or.inl rfl | exact Or.inr (Or.inl rfl) | exact Or.inr (Or.inr rfl)) rfl) rfl rfl (show List.Nodup ([] : List Nat) by decide) rfl

abbrev O_law : Type := Bool
noncomputable def m_law (x_script : List Int) : Option O_law := ((m_law_box x_script (0 : Int) (40 : Int)).bind fun t1 => ((m_law_facts (t1.1, t1.2)).bind fun t2 => ((m_law_machine (t2.2.1, t2.2.2) t2.1 (4 : Int)).bind fun t3 => ((m_law_twin (t3.2.1, t3.2.2) t3.1).bind fun t4 => ((m_telling_career t3.1 t4.1).bind fun t5 => (if (t5).isSome = true then some true else ((m_are_alike t4.1 t3.1).bind fun t6 => some (!(decide (t6 = true))))).bind fun t7 => (if t7 = true then (some false) else ((m_law_near (t4.2.1, t4.2.2) t4.1).bind fun t9 => (m_law_machine (t9.2.1, t9.2.2) t2.1 (3 : Int)).bind fun t10 => (m_law_near (t10.2.1, t10.2.2) t3.1).bind fun t11 => (foldX (ρ := O_law) (S := Unit) (fun (s12 : Unit) (y13 : D_Machine) => ((m_telling_career t3.1 y13).bind fun t14 => ((m_are_alike t3.1 y13).bind fun t15 => (grd (Shw (dat tBool t15) ∧ Shw (dat tBool (t14).isNone)) ()).bind fun g16 => (if (!(alike (dat tBool t15) (dat tBool (t14).isNone))) = true then some true else ((m_telling_career y13 t3.1).bind fun t17 => (grd (Shw (dat (tOpt (tList tStr)) t17) ∧ Shw (dat (tOpt (tList tStr)) t14)) ()).bind fun g18 => some (!(alike (dat (tOpt (tList tStr)) t17) (dat (tOpt (tList tStr)) t14))))).bind fun t19 => (if t19 = true then (some (Oc.ret false)) else ((some ((7 : Int) - ((t2.1).length : Int))).bind fun most_21 => ((if (t14).isSome = true then (t14.bind fun t25 => (m_law_total t3.1 (0 : Int) t25).bind fun t26 => t14.bind fun t27 => (m_law_total y13 (0 : Int) t27).bind fun t28 => (if (decide (t26 = t28)) = true then (some (Oc.ret false)) else (t14.bind fun t30 => (some (min most_21 ((t30).length : Int))).bind fun most_31 => some (Oc.nx (most_31))))) else some (Oc.nx (most_21)) : Option (Oc O_law (Int))).bind fun j23 => match j23 with | .ret r46 => some (Oc.ret r46) | .nx s24 => ((m_law_careers t2.1 s24).bind fun t32 => (grd (Sm (t32).length) ()).bind fun g34 => (mapC (fun (y33 : (List Str)) => ((m_law_total t3.1 (0 : Int) y33).bind fun t35 => (m_law_total y13 (0 : Int) y33).bind fun t36 => (if (!(decide (t35 = t36))) = true then (some (some y33)) else some none))) t32).bind fun t37 => ((if (!(t37).isEmpty) = true then ((atI t37 (0 : Int)).bind fun t38 => (grd (Shw (dat (tOpt (tList tStr)) t14) ∧ Shw (dat (tList tStr) t38)) ()).bind fun g39 => some (!(alike (dat (tOpt (tList tStr)) t14) (dat (tList tStr) t38)))) else some false).bind fun t40 => (if t40 = true then (some (Oc.ret false)) else ((if (!(!(t37).isEmpty)) = true then ((if (t14).isSome = true then (t14.bind fun t42 => some (decide (((t42).length : Int) ≤ s24))) else some false).bind fun t43 => some t43) else some false).bind fun t44 => (if t44 = true then (some (Oc.ret false)) else some (Oc.nx ())))))))))))) () [t9.1, t10.1, t11.1]).bind fun j47 => match j47 with | .ret r50 => some r50 | .nx s49 => (some true))))))))
def rs_law (K : PySem.W.Frag) : O_law → Sh := fun o => (fz tBool o)
def ls_law (K : PySem.W.Frag) : O_law → List Sh := fun o => []
def P_law (K : PySem.W.Frag) : Phi := fun ss r L => ∃ (x_script : List Int) (o : O_law), m_law x_script = some o ∧ ss = [(fz (tScr K) x_script)] ∧ r = rs_law K o ∧ L = []
theorem ok_law {C_Machine : Addr} (C_law_box : CalG P w K mg base CX0 2 "_law_box" ["script", "first", "last"] (spS 3 (P_law_box K))) (C_law_facts : CalG P w K mg base CX0 2 "_law_facts" ["box"] (spS 1 P_law_facts)) (C_law_machine : CalG P w K mg base CX0 3 "_law_machine" ["box", "facts", "most"] (spS 3 (P_law_machine C_Machine))) (C_law_twin : CalG P w K mg base CX0 3 "_law_twin" ["box", "machine"] (spS 2 (P_law_twin C_Machine))) (C_telling_career : CalG P w K mg base CX0 5 "telling_career" ["machine", "other"] (spS 2 (P_telling_career C_Machine))) (C_are_alike : CalG P w K mg base CX0 6 "are_alike" ["machine", "other"] (spS 2 (P_are_alike C_Machine))) (C_law_near : CalG P w K mg base CX0 3 "_law_near" ["box", "machine"] (spS 2 (P_law_near C_Machine))) (C_law_same : CalG P w K mg base CX0 1 "_law_same" ["one", "other"] (spS 2 Psame)) (m_len : mg "len" = none) (C_law_total : CalG P w K mg base CX0 1 "_law_total" ["machine", "state", "career"] (spS 3 (P_law_total C_Machine))) (m_min : mg "min" = none) (C_law_careers : CalG P w K mg base CX0 1 "_law_careers" ["facts", "most"] (spS 2 P_law_careers)) {f0 : Addr} {fd : FuncData} (D : Fun K "law" "law" s_law f0 fd) : FnG P w K mg base CX0 7 f0 fd ["script"] (spS 1 (P_law K)) := by
  refine Fun.okS D sc_law rfl (by decide) fun X0 s H A outer cdv E ss r L vs hr hlen hP => ?_
  obtain ⟨x_script, o_, h, rfl, rfl, rfl⟩ := hP
  obtain ⟨v0, rfl⟩ : ∃ v0, vs = [v0] := by
    match vs, hlen with
    | [v0], _ => exact ⟨v0, rfl⟩
  refine ⟨_, rs_law K, ls_law K, o_, [], rfl, rfl, (fun _ h => nomatch h), rfl, ?_⟩
  clear X0
  unfold m_law at h
  show SJ _ _ _ [some (fz (tScr K) x_script), none, none, none, none, none, none, none, none, none] _
  obtain ⟨t1, h_t1, h⟩ := bnd h
  refine sj_set (i := 1) (s := (oLst [(fz (tList tInt) t1.1), (fz tInt t1.2)])) sc_law.nd rfl (by first | exact Or.inl rfl | exact Or.inr rfl) (ej_callP (ss := [_, _, _]) C_law_box (hr.mono (by decide)) (by rfl) pass0 (aj_cons (ej_var (i := 0) rfl (by first | exact Or.inl rfl | exact Or.inr (Or.inl rfl) | exact Or.inr (Or.inr rfl)) rfl) (aj_cons ej_int (aj_cons ej_int aj_nil))) ⟨x_script, (0 : Int), (40 : Int), t1, h_t1, rfl, rfl, rfl⟩) ?_
  show SJ _ _ _ [some (fz (tScr K) x_script), some (oLst [(fz (tList tInt) t1.1), (fz tInt t1.2)]), none, none, none, none, none, none, none, none] _
  obtain ⟨t2, h_t2, h⟩ := bnd h
  refine sj_set (i := 2) (s := (fz (tList tStr) t2.1)) sc_law.nd rfl (by first | exact Or.inl rfl | exact Or.inr rfl) (ej_call C_law_facts (hr.mono (by decide)) (by rfl) pass0 (aj_lend (i := 1) rfl (by first | exact Or.inl rfl | exact Or.inr (Or.inl rfl) | exact Or.inr (Or.inr rfl)) rfl aj_nil) rfl ⟨(t1.1, t1.2), t2, h_t2, rfl, rfl, rfl⟩) ?_
  show SJ _ _ _ [some (fz (tScr K) x_script), some (oLst [(fz (tList tInt) t2.2.1), (fz tInt t2.2.2)]), some (fz (tList tStr) t2.1), none, none, none, none, none, none, none] _
  obtain ⟨t3, h_t3, h⟩ := bnd h
  refine sj_set (i := 3) (s := (fz (t_Machine C_Machine) t3.1)) sc_law.nd rfl (by first | exact Or.inl rfl | exact Or.inr rfl) (ej_call C_law_machine (hr.mono (by decide)) (by rfl) pass0 (aj_lend (i := 1) rfl (by first | exact Or.inl rfl | exact Or.inr (Or.inl rfl) | exact Or.inr (Or.inr rfl)) rfl (aj_cons (ej_var (i := 2) rfl (by first | exact Or.inl rfl | exact Or.inr (Or.inl rfl) | exact Or.inr (Or.inr rfl)) rfl) (aj_cons ej_int aj_nil))) rfl ⟨(t2.2.1, t2.2.2), t2.1, (4 : Int), t3, h_t3, rfl, rfl, rfl⟩) ?_
  show SJ _ _ _ [some (fz (tScr K) x_script), some (oLst [(fz (tList tInt) t3.2.1), (fz tInt t3.2.2)]), some (fz (tList tStr) t2.1), some (fz (t_Machine C_Machine) t3.1), none, none, none, none, none, none] _
  obtain ⟨t4, h_t4, h⟩ := bnd h
  refine sj_set (i := 4) (s := (fz (t_Machine C_Machine) t4.1)) sc_law.nd rfl (by first | exact Or.inl rfl | exact Or.inr rfl) (ej_call C_law_twin (hr.mono (by decide)) (by rfl) pass0 (aj_lend (i := 1) rfl (by first | exact Or.inl rfl | exact Or.inr (Or.inl rfl) | exact Or.inr (Or.inr rfl)) rfl (aj_cons (ej_var (i := 3) rfl (by first | exact Or.inl rfl | exact Or.inr (Or.inl rfl) | exact Or.inr (Or.inr rfl)) rfl) aj_nil)) rfl ⟨(t3.2.1, t3.2.2), t3.1, t4, h_t4, rfl, rfl, rfl⟩) ?_
  show SJ _ _ _ [some (fz (tScr K) x_script), some (oLst [(fz (tList tInt) t4.2.1), (fz tInt t4.2.2)]), some (fz (tList tStr) t2.1), some (fz (t_Machine C_Machine) t3.1), some (fz (t_Machine C_Machine) t4.1), none, none, none, none, none] _
  obtain ⟨t5, h_t5, h⟩ := bnd h
  obtain ⟨t7, h_t7, h⟩ := bnd h
  refine sj_ifT (t := t7) (tj_w (wj_or (tj_cmp (ej_notN (ej_callP (ss := [_, _]) C_telling_career (hr.mono (by decide)) (by rfl) pass0 (aj_cons (ej_var (i := 3) rfl (by first | exact Or.inl rfl | exact Or.inr (Or.inl rfl) | exact Or.inr (Or.inr rfl)) rfl) (aj_cons (ej_var (i := 4) rfl (by first | exact Or.inl rfl | exact Or.inr (Or.inl rfl) | exact Or.inr (Or.inr rfl)) rfl) aj_nil)) ⟨t3.1, t4.1, t5, h_t5, rfl, rfl, rfl⟩))) (by intro hb_; have h := ifF hb_ h_t7; obtain ⟨t6, h_t6, h⟩ := bnd h; (simp only [Option.some.injEq, Prod.mk.injEq] at h; first | subst h | (obtain ⟨_, _⟩ := h; subst_vars)); exact (wj_or1 (tj_cmp (ej_notB (ej_callP (ss := [_, _]) C_are_alike (hr.mono (by decide)) (by rfl) pass0 (aj_cons (ej_var (i := 4) rfl (by first | exact Or.inl rfl | exact Or.inr (Or.inl rfl) | exact Or.inr (Or.inr rfl)) rfl) (aj_cons (ej_var (i := 3) rfl (by first | exact Or.inl rfl | exact Or.inr (Or.inl rfl) | exact Or.inr (Or.inr rfl)) rfl) aj_nil)) ⟨t4.1, t3.1, t6, h_t6, rfl, rfl, rfl⟩) ej_bl)))) (fun hb_ => (Option.some.inj (ifT hb_ h_t7)).symm))) ?_ ?_
  · intro h_b8
    replace h := ifT h_b8 h
    show SJ _ _ _ [some (fz (tScr K) x_script), some (oLst [(fz (tList tInt) t4.2.1), (fz tInt t4.2.2)]), some (fz (tList tStr) t2.1), some (fz (t_Machine C_Machine) t3.1), some (fz (t_Machine C_Machine) t4.1), none, none, none, none, none] _
    (simp only [Option.some.injEq, Prod.mk.injEq] at h; first | subst h | (obtain ⟨_, _⟩ := h; subst_vars))
    exact sj_ret (rs := rs_law K) (ls := ls_law K) (y := false) ej_bl rfl rfl (show List.Nodup ([] : List Nat) by decide) rfl
  intro h_b8
  replace h := ifF h_b8 h
  show SJ _ _ _ [some (fz (tScr K) x_script), some (oLst [(fz (tList tInt) t4.2.1), (fz tInt t4.2.2)]), some (fz (tList tStr) t2.1), some (fz (t_Machine C_Machine) t3.1), some (fz (t_Machine C_Machine) t4.1), none, none, none, none, none] _
  obtain ⟨t9, h_t9, h⟩ := bnd h
  obtain ⟨t10, h_t10, h⟩ := bnd h
  obtain ⟨t11, h_t11, h⟩ := bnd h
  obtain ⟨j47, h_j47, h⟩ := bnd h
  refine sj_forX (o := j47) (sh := fz (t_Machine C_Machine)) (Γs := fun (s12 : Unit) => [some (fz (tScr K) x_script), some (oLst [(fz (tList tInt) t11.2.1), (fz tInt t11.2.2)]), some (fz (tList tStr) t2.1), some (fz (t_Machine C_Machine) t3.1), some (fz (t_Machine C_Machine) t4.1), none, none, none, none, none]) (Γy := fun (s12 : Unit) y13 => [some (fz (tScr K) x_script), some (oLst [(fz (tList tInt) t11.2.1), (fz tInt t11.2.2)]), some (fz (tList tStr) t2.1), some (fz (t_Machine C_Machine) t3.1), some (fz (t_Machine C_Machine) t4.1), some (fz (t_Machine C_Machine) y13), none, none, none, none]) (fl := [true, true, true, true, true, true, true, true, true, true]) (rs := rs_law K) (ls := ls_law K) h_j47 (ij_lst (ej_fz (ej_lst (ss := [(fz (t_Machine C_Machine) t9.1), (fz (t_Machine C_Machine) t10.1), (fz (t_Machine C_Machine) t11.1)]) (aj_cons (ej_call C_law_near (hr.mono (by decide)) (by rfl) pass0 (aj_lend (i := 1) rfl (by first | exact Or.inl rfl | exact Or.inr (Or.inl rfl) | exact Or.inr (Or.inr rfl)) rfl (aj_cons (ej_var (i := 4) rfl (by first | exact Or.inl rfl | exact Or.inr (Or.inl rfl) | exact Or.inr (Or.inr rfl)) rfl) aj_nil)) rfl ⟨(t4.2.1, t4.2.2), t4.1, t9, h_t9, rfl, rfl, rfl⟩) (aj_cons (ej_call C_law_machine (hr.mono (by decide)) (by rfl) pass0 (aj_lend (i := 1) rfl (by first | exact Or.inl rfl | exact Or.inr (Or.inl rfl) | exact Or.inr (Or.inr rfl)) rfl (aj_cons (ej_var (i := 2) rfl (by first | exact Or.inl rfl | exact Or.inr (Or.inl rfl) | exact Or.inr (Or.inr rfl)) rfl) (aj_cons ej_int aj_nil))) rfl ⟨(t9.2.1, t9.2.2), t2.1, (3 : Int), t10, h_t10, rfl, rfl, rfl⟩) (aj_cons (ej_call C_law_near (hr.mono (by decide)) (by rfl) pass0 (aj_lend (i := 1) rfl (by first | exact Or.inl rfl | exact Or.inr (Or.inl rfl) | exact Or.inr (Or.inr rfl)) rfl (aj_cons (ej_var (i := 3) rfl (by first | exact Or.inl rfl | exact Or.inr (Or.inl rfl) | exact Or.inr (Or.inr rfl)) rfl) aj_nil)) rfl ⟨(t10.2.1, t10.2.2), t3.1, t11, h_t11, rfl, rfl, rfl⟩) aj_nil)))) (fz_lm (τ := (t_Machine C_Machine)) (xs := [t9.1, t10.1, t11.1])))) rfl rfl (fun s12 y13 => (gj_name (i := 5) sc_law.nd rfl (by first | exact Or.inl rfl | exact Or.inr rfl))) ?_ ?_ ?_ PassesOwn.never rfl
  · intro s12 y13 o_ h_hy48 h
    clear h_j47; have h := h
    show SJ _ _ _ [some (fz (tScr K) x_script), some (oLst [(fz (tList tInt) t11.2.1), (fz tInt t11.2.2)]), some (fz (tList tStr) t2.1), some (fz (t_Machine C_Machine) t3.1), some (fz (t_Machine C_Machine) t4.1), some (fz (t_Machine C_Machine) y13), none, none, none, none] _
    obtain ⟨t14, h_t14, h⟩ := bnd h
    refine sj_set (i := 6) (s := (fz (tOpt (tList tStr)) t14)) sc_law.nd rfl (by first | exact Or.inl rfl | exact Or.inr rfl) (ej_callP (ss := [_, _]) C_telling_career (hr.mono (by decide)) (by rfl) pass0 (aj_cons (ej_var (i := 3) rfl (by first | exact Or.inl rfl | exact Or.inr (Or.inl rfl) | exact Or.inr (Or.inr rfl)) rfl) (aj_cons (ej_var (i := 5) rfl (by first | exact Or.inl rfl | exact Or.inr (Or.inl rfl) | exact Or.inr (Or.inr rfl)) rfl) aj_nil)) ⟨t3.1, y13, t14, h_t14, rfl, rfl, rfl⟩) ?_
    show SJ _ _ _ [some (fz (tScr K) x_script), some (oLst [(fz (tList tInt) t11.2.1), (fz tInt t11.2.2)]), some (fz (tList tStr) t2.1), some (fz (t_Machine C_Machine) t3.1), some (fz (t_Machine C_Machine) t4.1), some (fz (t_Machine C_Machine) y13), some (fz (tOpt (tList tStr)) t14), none, none, none] _
    obtain ⟨t15, h_t15, h⟩ := bnd h
    obtain ⟨g16, h_g16, h⟩ := bnd h
    obtain ⟨t19, h_t19, h⟩ := bnd h
    refine sj_ifT (t := t19) (tj_w (wj_or (tj_not (tj_val (ej_callP (ss := [_, _]) C_law_same (hr.mono (by decide)) (by rfl) pass0 (aj_cons (ej_callP (ss := [_, _]) C_are_alike (hr.mono (by decide)) (by rfl) pass0 (aj_cons (ej_var (i := 3) rfl (by first | exact Or.inl rfl | exact Or.inr (Or.inl rfl) | exact Or.inr (Or.inr rfl)) rfl) (aj_cons (ej_var (i := 5) rfl (by first | exact Or.inl rfl | exact Or.inr (Or.inl rfl) | exact Or.inr (Or.inr rfl)) rfl) aj_nil)) ⟨t3.1, y13, t15, h_t15, rfl, rfl, rfl⟩) (aj_cons (ej_isN (ej_var (i := 6) rfl (by first | exact Or.inl rfl | exact Or.inr (Or.inl rfl) | exact Or.inr (Or.inr rfl)) rfl)) aj_nil)) ⟨_, _, tBool, tBool, _, _, inferInstance, inferInstance, t15, (t14).isNone, by decide, by decide, (grd_iff h_g16).1.1, (grd_iff h_g16).1.2, rfl, rfl, rfl⟩))) (by intro hb_; have h := ifF hb_ h_t19; obtain ⟨t17, h_t17, h⟩ := bnd h; obtain ⟨g18, h_g18, h⟩ := bnd h; (simp only [Option.some.injEq, Prod.mk.injEq] at h; first | subst h | (obtain ⟨_, _⟩ := h; subst_vars)); exact (wj_or1 (tj_not (tj_val (ej_callP (ss := [_, _]) C_law_same (hr.mono (by decide)) (by rfl) pass0 (aj_cons (ej_callP (ss := [_, _]) C_telling_career (hr.mono (by decide)) (by rfl) pass0 (aj_cons (ej_var (i := 5) rfl (by first | exact Or.inl rfl | exact Or.inr (Or.inl rfl) | exact Or.inr (Or.inr rfl)) rfl) (aj_cons (ej_var (i := 3) rfl (by first | exact Or.inl rfl | exact Or.inr (Or.inl rfl) | exact Or.inr (Or.inr rfl)) rfl) aj_nil)) ⟨y13, t3.1, t17, h_t17, rfl, rfl, rfl⟩) (aj_cons (ej_var (i := 6) rfl (by first | exact Or.inl rfl | exact Or.inr (Or.inl rfl) | exact Or.inr (Or.inr rfl)) rfl) aj_nil)) ⟨_, _, (tOpt (tList tStr)), (tOpt (tList tStr)), _, _, inferInstance, inferInstance, t17, t14, by decide, by decide, (grd_iff h_g18).1.1, (grd_iff h_g18).1.2, rfl, rfl, rfl⟩))))) (fun hb_ => (Option.some.inj (ifT hb_ h_t19)).symm))) ?_ ?_
    · intro h_b20
      replace h := ifT h_b20 h
      show SJ _ _ _ [some (fz (tScr K) x_script), some (oLst [(fz (tList tInt) t11.2.1), (fz tInt t11.2.2)]), some (fz (tList tStr) t2.1), some (fz (t_Machine C_Machine) t3.1), some (fz (t_Machine C_Machine) t4.1), some (fz (t_Machine C_Machine) y13), some (fz (tOpt (tList tStr)) t14), none, none, none] _
      (simp only [Option.some.injEq, Prod.mk.injEq] at h; first | subst h | (obtain ⟨_, _⟩ := h; subst_vars))
      exact sj_retO (rs := rs_law K) (ls := ls_law K) (y := false) ej_bl rfl rfl (show List.Nodup ([] : List Nat) by decide) rfl
    intro h_b20
    replace h := ifF h_b20 h
    show SJ _ _ _ [some (fz (tScr K) x_script), some (oLst [(fz (tList tInt) t11.2.1), (fz tInt t11.2.2)]), some (fz (tList tStr) t2.1), some (fz (t_Machine C_Machine) t3.1), some (fz (t_Machine C_Machine) t4.1), some (fz (t_Machine C_Machine) y13), some (fz (tOpt (tList tStr)) t14), none, none, none] _
    obtain ⟨most_21, h_most_21, h⟩ := bnd h
    have h_most_21 := Option.some.inj h_most_21
    refine sj_set (i := 7) (s := (fz tInt most_21)) sc_law.nd rfl (by first | exact Or.inl rfl | exact Or.inr rfl) (ej_is h_most_21 (ej_sub ej_int (ej_b (ss := [_]) Dl.cl_len (va_len rd_fz) (by rfl) m_len bt_len (aj_cons (ej_var (i := 2) rfl (by first | exact Or.inl rfl | exact Or.inr (Or.inl rfl) | exact Or.inr (Or.inr rfl)) rfl) aj_nil)))) ?_
    show SJ _ _ _ [some (fz (tScr K) x_script), some (oLst [(fz (tList tInt) t11.2.1), (fz tInt t11.2.2)]), some (fz (tList tStr) t2.1), some (fz (t_Machine C_Machine) t3.1), some (fz (t_Machine C_Machine) t4.1), some (fz (t_Machine C_Machine) y13), some (fz (tOpt (tList tStr)) t14), some (fz tInt most_21), none, none] _
    obtain ⟨j23, h_j23, h⟩ := bnd h
    refine sj_ifX (t := (t14).isSome) (o := j23) (rs := rs_law K) (ls := ls_law K) (Γs := fun (s24 : Int) => [some (fz (tScr K) x_script), some (oLst [(fz (tList tInt) t11.2.1), (fz tInt t11.2.2)]), some (fz (tList tStr) t2.1), some (fz (t_Machine C_Machine) t3.1), some (fz (t_Machine C_Machine) t4.1), some (fz (t_Machine C_Machine) y13), some (fz (tOpt (tList tStr)) t14), some (fz tInt s24), none, none]) (tj_cmp (ej_notN (ej_var (i := 6) rfl (by first | exact Or.inl rfl | exact Or.inr (Or.inl rfl) | exact Or.inr (Or.inr rfl)) rfl))) ?_ ?_ ?_ ?_ ?_
    · intro h_b22
      clear h; have h := ifT h_b22 h_j23; clear h_j23
      show SJ _ _ _ [some (fz (tScr K) x_script), some (oLst [(fz (tList tInt) t11.2.1), (fz tInt t11.2.2)]), some (fz (tList tStr) t2.1), some (fz (t_Machine C_Machine) t3.1), some (fz (t_Machine C_Machine) t4.1), some (fz (t_Machine C_Machine) y13), some (fz (tOpt (tList tStr)) t14), some (fz tInt most_21), none, none] _
      obtain ⟨t25, h_t25, h⟩ := bnd h
      obtain ⟨t26, h_t26, h⟩ := bnd h
      obtain ⟨t27, h_t27, h⟩ := bnd h
      obtain ⟨t28, h_t28, h⟩ := bnd h
      refine sj_ifT (t := (decide (t26 = t28))) (tj_cmp (ej_eq (ej_callP (ss := [_, _, _]) C_law_total (hr.mono (by decide)) (by rfl) pass0 (aj_cons (ej_var (i := 3) rfl (by first | exact Or.inl rfl | exact Or.inr (Or.inl rfl) | exact Or.inr (Or.inr rfl)) rfl) (aj_cons ej_int (aj_cons (ej_getS (ej_var (i := 6) rfl (by first | exact Or.inl rfl | exact Or.inr (Or.inl rfl) | exact Or.inr (Or.inr rfl)) rfl) h_t25) aj_nil))) ⟨t3.1, (0 : Int), t25, t26, h_t26, rfl, rfl, rfl⟩) (ej_callP (ss := [_, _, _]) C_law_total (hr.mono (by decide)) (by rfl) pass0 (aj_cons (ej_var (i := 5) rfl (by first | exact Or.inl rfl | exact Or.inr (Or.inl rfl) | exact Or.inr (Or.inr rfl)) rfl) (aj_cons ej_int (aj_cons (ej_getS (ej_var (i := 6) rfl (by first | exact Or.inl rfl | exact Or.inr (Or.inl rfl) | exact Or.inr (Or.inr rfl)) rfl) h_t27) aj_nil))) ⟨y13, (0 : Int), t27, t28, h_t28, rfl, rfl, rfl⟩))) ?_ ?_
      · intro h_b29
        replace h := ifT h_b29 h
        show SJ _ _ _ [some (fz (tScr K) x_script), some (oLst [(fz (tList tInt) t11.2.1), (fz tInt t11.2.2)]), some (fz (tList tStr) t2.1), some (fz (t_Machine C_Machine) t3.1), some (fz (t_Machine C_Machine) t4.1), some (fz (t_Machine C_Machine) y13), some (fz (tOpt (tList tStr)) t14), some (fz tInt most_21), none, none] _
        (simp only [Option.some.injEq, Prod.mk.injEq] at h; first | subst h | (obtain ⟨_, _⟩ := h; subst_vars))
        exact sj_retO (rs := rs_law K) (ls := ls_law K) (y := false) ej_bl rfl rfl (show List.Nodup ([] : List Nat) by decide) rfl
      intro h_b29
      replace h := ifF h_b29 h
      show SJ _ _ _ [some (fz (tScr K) x_script), some (oLst [(fz (tList tInt) t11.2.1), (fz tInt t11.2.2)]), some (fz (tList tStr) t2.1), some (fz (t_Machine C_Machine) t3.1), some (fz (t_Machine C_Machine) t4.1), some (fz (t_Machine C_Machine) y13), some (fz (tOpt (tList tStr)) t14), some (fz tInt most_21), none, none] _
      obtain ⟨t30, h_t30, h⟩ := bnd h
      obtain ⟨most_31, h_most_31, h⟩ := bnd h
      have h_most_31 := Option.some.inj h_most_31
      refine sj_set (i := 7) (s := (fz tInt most_31)) sc_law.nd rfl (by first | exact Or.inl rfl | exact Or.inr rfl) (ej_is h_most_31 (ej_b (ss := [_, _]) (Dl.cl_min2 rfl) va_min (by rfl) m_min bt_min (aj_cons (ej_var (i := 7) rfl (by first | exact Or.inl rfl | exact Or.inr (Or.inl rfl) | exact Or.inr (Or.inr rfl)) rfl) (aj_cons (ej_b (ss := [_]) Dl.cl_len (va_len rd_fz) (by rfl) m_len bt_len (aj_cons (ej_getS (ej_var (i := 6) rfl (by first | exact Or.inl rfl | exact Or.inr (Or.inl rfl) | exact Or.inr (Or.inr rfl)) rfl) h_t30) aj_nil)) aj_nil)))) ?_
      show SJ _ _ _ [some (fz (tScr K) x_script), some (oLst [(fz (tList tInt) t11.2.1), (fz tInt t11.2.2)]), some (fz (tList tStr) t2.1), some (fz (t_Machine C_Machine) t3.1), some (fz (t_Machine C_Machine) t4.1), some (fz (t_Machine C_Machine) y13), some (fz (tOpt (tList tStr)) t14), some (fz tInt most_31), none, none] _
      (simp only [Option.some.injEq, Prod.mk.injEq] at h; first | subst h | (obtain ⟨_, _⟩ := h; subst_vars))
      exact sj_end (fl := [true, true, true, true, true, true, true, true, true, true]) rfl rfl
    · intro h_b22
      clear h; have h := ifF h_b22 h_j23; clear h_j23
      show SJ _ _ _ [some (fz (tScr K) x_script), some (oLst [(fz (tList tInt) t11.2.1), (fz tInt t11.2.2)]), some (fz (tList tStr) t2.1), some (fz (t_Machine C_Machine) t3.1), some (fz (t_Machine C_Machine) t4.1), some (fz (t_Machine C_Machine) y13), some (fz (tOpt (tList tStr)) t14), some (fz tInt most_21), none, none] _
      (simp only [Option.some.injEq, Prod.mk.injEq] at h; first | subst h | (obtain ⟨_, _⟩ := h; subst_vars))
      exact sj_end (fl := [true, true, true, true, true, true, true, true, true, true]) rfl rfl
    · intro s24 e_; subst e_
      obtain ⟨t32, h_t32, h⟩ := bnd h
      obtain ⟨g34, h_g34, h⟩ := bnd h
      obtain ⟨t37, h_t37, h⟩ := bnd h
      refine sj_setLc (i := 8) (s := (oL (tList tStr) t37)) (lcj_s (lcP (Γy := fun y33 => [some (fz (tScr K) x_script), some (oLst [(fz (tList tInt) t11.2.1), (fz tInt t11.2.2)]), some (fz (tList tStr) t2.1), some (fz (t_Machine C_Machine) t3.1), some (fz (t_Machine C_Machine) t4.1), some (fz (t_Machine C_Machine) y13), some (fz (tOpt (tList tStr)) t14), some (fz tInt s24), none, some (fz (tList tStr) y33)]) (own := [("career", 9)]) (fun _ _ _ _ _ y33 => (gj0_name (i := 9) sc_law.nd rfl (by first | exact Or.inl rfl | exact Or.inr rfl) (z_none rfl))) (fun _ _ _ _ _ y33 oz hm h => (by have h := h; obtain ⟨t35, h_t35, h⟩ := bnd h; obtain ⟨t36, h_t36, h⟩ := bnd h;  refine ts_of (tj_cmp (ej_ne (ej_callP (ss := [_, _, _]) C_law_total (hr.mono (by decide)) (by rfl) pass0 (aj_cons (ej_var (i := 3) rfl (by first | exact Or.inl rfl | exact Or.inr (Or.inl rfl) | exact Or.inr (Or.inr rfl)) rfl) (aj_cons ej_int (aj_cons (ej_var (i := 9) rfl (by first | exact Or.inl rfl | exact Or.inr (Or.inl rfl) | exact Or.inr (Or.inr rfl)) rfl) aj_nil))) ⟨t3.1, (0 : Int), y33, t35, h_t35, rfl, rfl, rfl⟩) (ej_callP (ss := [_, _, _]) C_law_total (hr.mono (by decide)) (by rfl) pass0 (aj_cons (ej_var (i := 5) rfl (by first | exact Or.inl rfl | exact Or.inr (Or.inl rfl) | exact Or.inr (Or.inr rfl)) rfl) (aj_cons ej_int (aj_cons (ej_var (i := 9) rfl (by first | exact Or.inl rfl | exact Or.inr (Or.inl rfl) | exact Or.inr (Or.inr rfl)) rfl) aj_nil))) ⟨y13, (0 : Int), y33, t36, h_t36, rfl, rfl, rfl⟩))) ?_; exact Or.elim (Bool.eq_false_or_eq_true (!(decide (t35 = t36)))) (fun hb_ => by have h := ifT hb_ h;  (simp only [Option.some.injEq, Prod.mk.injEq] at h; first | subst h | (obtain ⟨_, _⟩ := h; subst_vars)); exact hb_) (fun hb_ => by have h := ifF hb_ h; (simp only [Option.some.injEq, Prod.mk.injEq] at h; first | subst h | (obtain ⟨_, _⟩ := h; subst_vars)); exact hb_))) (fun _ _ _ _ _ y33 z hm h => (by have h := h; obtain ⟨t35, h_t35, h⟩ := bnd h; obtain ⟨t36, h_t36, h⟩ := bnd h;  exact Or.elim (Bool.eq_false_or_eq_true (!(decide (t35 = t36)))) (fun hb_ => by have h := ifT hb_ h;  (simp only [Option.some.injEq, Prod.mk.injEq] at h; first | subst h | (obtain ⟨_, _⟩ := h; subst_vars)); exact (ej_var (i := 9) rfl (by first | exact Or.inl rfl | exact Or.inr (Or.inl rfl) | exact Or.inr (Or.inr rfl)) rfl)) (fun hb_ => by have h := ifF hb_ h; simp at h))) h_t37 (grd_iff h_g34).1 rfl sc_law.nd (ij_lst (ej_callP (ss := [_, _]) C_law_careers (hr.mono (by decide)) (by rfl) pass0 (aj_cons (ej_var (i := 2) rfl (by first | exact Or.inl rfl | exact Or.inr (Or.inl rfl) | exact Or.inr (Or.inr rfl)) rfl) (aj_cons (ej_var (i := 7) rfl (by first | exact Or.inl rfl | exact Or.inr (Or.inl rfl) | exact Or.inr (Or.inr rfl)) rfl) aj_nil)) ⟨t2.1, s24, t32, h_t32, rfl, rfl, rfl⟩)) (blkOk_by (own := [("career", 9)]) (N := n_law) (sc := defScope s_law) (by decide +kernel)) ⟨z_none rfl, trivial⟩) rfl rfl (sw_true rfl rfl rfl (by decide +kernel))) ?_
      show SJ _ _ _ [some (fz (tScr K) x_script), some (oLst [(fz (tList tInt) t11.2.1), (fz tInt t11.2.2)]), some (fz (tList tStr) t2.1), some (fz (t_Machine C_Machine) t3.1), some (fz (t_Machine C_Machine) t4.1), some (fz (t_Machine C_Machine) y13), some (fz (tOpt (tList tStr)) t14), some (fz tInt s24), some (oL (tList tStr) t37), none] _
      refine sj_fz (i := 8) rfl fz_oL ?_
      show SJ _ _ _ [some (fz (tScr K) x_script), some (oLst [(fz (tList tInt) t11.2.1), (fz tInt t11.2.2)]), some (fz (tList tStr) t2.1), some (fz (t_Machine C_Machine) t3.1), some (fz (t_Machine C_Machine) t4.1), some (fz (t_Machine C_Machine) y13), some (fz (tOpt (tList tStr)) t14), some (fz tInt s24), some (fz (tList (tList tStr)) t37), none] _
      obtain ⟨t40, h_t40, h⟩ := bnd h
      refine sj_ifT (t := t40) (tj_w (wj_and (tj_tr (trs_rd rd_fz) (ej_var (i := 8) rfl (by first | exact Or.inl rfl | exact Or.inr (Or.inl rfl) | exact Or.inr (Or.inr rfl)) rfl)) (by intro hb_; have h := ifT hb_ h_t40; obtain ⟨t38, h_t38, h⟩ := bnd h; obtain ⟨g39, h_g39, h⟩ := bnd h; (simp only [Option.some.injEq, Prod.mk.injEq] at h; first | subst h | (obtain ⟨_, _⟩ := h; subst_vars)); exact (wj_and1 (tj_not (tj_val (ej_callP (ss := [_, _]) C_law_same (hr.mono (by decide)) (by rfl) pass0 (aj_cons (ej_var (i := 6) rfl (by first | exact Or.inl rfl | exact Or.inr (Or.inl rfl) | exact Or.inr (Or.inr rfl)) rfl) (aj_cons (ej_ix ix_list (v2_ixL rd_fz h_t38) (ej_var (i := 8) rfl (by first | exact Or.inl rfl | exact Or.inr (Or.inl rfl) | exact Or.inr (Or.inr rfl)) rfl) ej_int (fun _ _ => rfl)) aj_nil)) ⟨_, _, (tOpt (tList tStr)), (tList tStr), _, _, inferInstance, inferInstance, t14, t38, by decide, by decide, (grd_iff h_g39).1.1, (grd_iff h_g39).1.2, rfl, rfl, rfl⟩))))) (fun hb_ => (Option.some.inj (ifF hb_ h_t40)).symm))) ?_ ?_
      · intro h_b41
        replace h := ifT h_b41 h
        show SJ _ _ _ [some (fz (tScr K) x_script), some (oLst [(fz (tList tInt) t11.2.1), (fz tInt t11.2.2)]), some (fz (tList tStr) t2.1), some (fz (t_Machine C_Machine) t3.1), some (fz (t_Machine C_Machine) t4.1), some (fz (t_Machine C_Machine) y13), some (fz (tOpt (tList tStr)) t14), some (fz tInt s24), some (fz (tList (tList tStr)) t37), none] _
        (simp only [Option.some.injEq, Prod.mk.injEq] at h; first | subst h | (obtain ⟨_, _⟩ := h; subst_vars))
        exact sj_retO (rs := rs_law K) (ls := ls_law K) (y := false) ej_bl rfl rfl (show List.Nodup ([] : List Nat) by decide) rfl
      intro h_b41
      replace h := ifF h_b41 h
      show SJ _ _ _ [some (fz (tScr K) x_script), some (oLst [(fz (tList tInt) t11.2.1), (fz tInt t11.2.2)]), some (fz (tList tStr) t2.1), some (fz (t_Machine C_Machine) t3.1), some (fz (t_Machine C_Machine) t4.1), some (fz (t_Machine C_Machine) y13), some (fz (tOpt (tList tStr)) t14), some (fz tInt s24), some (fz (tList (tList tStr)) t37), none] _
      obtain ⟨t44, h_t44, h⟩ := bnd h
      refine sj_ifT (t := t44) (tj_w (wj_and (tj_not (tj_tr (trs_rd rd_fz) (ej_var (i := 8) rfl (by first | exact Or.inl rfl | exact Or.inr (Or.inl rfl) | exact Or.inr (Or.inr rfl)) rfl))) (by intro hb_; have h := ifT hb_ h_t44; obtain ⟨t43, h_t43, h⟩ := bnd h; (simp only [Option.some.injEq, Prod.mk.injEq] at h; first | subst h | (obtain ⟨_, _⟩ := h; subst_vars)); exact (wj_and (tj_cmp (ej_notN (ej_var (i := 6) rfl (by first | exact Or.inl rfl | exact Or.inr (Or.inl rfl) | exact Or.inr (Or.inr rfl)) rfl))) (by intro hb_; have h := ifT hb_ h_t43; obtain ⟨t42, h_t42, h⟩ := bnd h; (simp only [Option.some.injEq, Prod.mk.injEq] at h; first | subst h | (obtain ⟨_, _⟩ := h; subst_vars)); exact (wj_and1 (tj_cmp (ej_le (ej_b (ss := [_]) Dl.cl_len (va_len rd_fz) (by rfl) m_len bt_len (aj_cons (ej_getS (ej_var (i := 6) rfl (by first | exact Or.inl rfl | exact Or.inr (Or.inl rfl) | exact Or.inr (Or.inr rfl)) rfl) h_t42) aj_nil)) (ej_var (i := 7) rfl (by first | exact Or.inl rfl | exact Or.inr (Or.inl rfl) | exact Or.inr (Or.inr rfl)) rfl))))) (fun hb_ => (Option.some.inj (ifF hb_ h_t43)).symm))) (fun hb_ => (Option.some.inj (ifF hb_ h_t44)).symm))) ?_ ?_
      · intro h_b45
        replace h := ifT h_b45 h
        show SJ _ _ _ [some (fz (tScr K) x_script), some (oLst [(fz (tList tInt) t11.2.1), (fz tInt t11.2.2)]), some (fz (tList tStr) t2.1), some (fz (t_Machine C_Machine) t3.1), some (fz (t_Machine C_Machine) t4.1), some (fz (t_Machine C_Machine) y13), some (fz (tOpt (tList tStr)) t14), some (fz tInt s24), some (fz (tList (tList tStr)) t37), none] _
        (simp only [Option.some.injEq, Prod.mk.injEq] at h; first | subst h | (obtain ⟨_, _⟩ := h; subst_vars))
        exact sj_retO (rs := rs_law K) (ls := ls_law K) (y := false) ej_bl rfl rfl (show List.Nodup ([] : List Nat) by decide) rfl
      intro h_b45
      replace h := ifF h_b45 h
      show SJ _ _ _ [some (fz (tScr K) x_script), some (oLst [(fz (tList tInt) t11.2.1), (fz tInt t11.2.2)]), some (fz (tList tStr) t2.1), some (fz (t_Machine C_Machine) t3.1), some (fz (t_Machine C_Machine) t4.1), some (fz (t_Machine C_Machine) y13), some (fz (tOpt (tList tStr)) t14), some (fz tInt s24), some (fz (tList (tList tStr)) t37), none] _
      (simp only [Option.some.injEq, Prod.mk.injEq] at h; first | subst h | (obtain ⟨_, _⟩ := h; subst_vars))
      exact sj_end (fl := [true, true, true, true, true, false, false, false, false, true]) rfl rfl
    · intro r46 e_; subst e_; cases h; exact fun _ _ _ h => ⟨_, rfl, h⟩
    · exact fun _ _ _ h => h.elim
  · intro s49 e_; subst e_
    show SJ _ _ _ [some (fz (tScr K) x_script), some (oLst [(fz (tList tInt) t11.2.1), (fz tInt t11.2.2)]), some (fz (tList tStr) t2.1), some (fz (t_Machine C_Machine) t3.1), some (fz (t_Machine C_Machine) t4.1), none, none, none, none, none] _
    (simp only [Option.some.injEq, Prod.mk.injEq] at h; first | subst h | (obtain ⟨_, _⟩ := h; subst_vars))
    exact sj_ret (rs := rs_law K) (ls := ls_law K) (y := true) ej_bl rfl rfl (show List.Nodup ([] : List Nat) by decide) rfl
  · intro r50 e_; subst e_; cases h; exact fun _ _ _ h => h

end
def BoxOk (b : (List Int) × Int) : Prop := 0 ≤ b.2
theorem sat_draw {b : (List Int) × Int} {n : Int} (h : BoxOk b) (hn : 0 < n) : Sat (m_law_draw b n) fun o => (0 ≤ o.1 ∧ o.1 < n) ∧ BoxOk o.2 := by
  have h' : 0 ≤ b.2 := h
  unfold m_law_draw
  refine sat_ite (fun e => ?_) fun _ => ?_
  · refine sat_bind (sat_atI (P := fun _ => True) h (of_decide_eq_true e) fun _ _ => trivial) fun t _ => ?_
    exact sat_grd (by omega) (sat_some ⟨fmod_lt' hn, (show 0 ≤ b.2 + 1 by omega)⟩)
  · exact sat_grd (by omega) (sat_some ⟨fmod_lt' hn, (show 0 ≤ b.2 + 1 by omega)⟩)
theorem sat_cell {ns : List Int} {k : Int} (h : 0 ≤ k) : Sat (m_law_cell ns k) fun _ => True := by
  unfold m_law_cell
  refine sat_ite (fun e => ?_) fun _ => sat_some trivial
  exact sat_bind (sat_atI (P := fun _ => True) h (of_decide_eq_true e) fun _ _ => trivial) fun t _ => sat_some trivial
theorem sat_row {c k : Int} : Sat (m_law_row c k 12) fun r => r.length ≤ 60 := by
  unfold m_law_row
  refine sat_bind (P := fun _ => True) (sat_ite (fun _ => sat_bind (P := fun _ => True) (sat_some trivial) fun _ _ => sat_some trivial) fun _ => sat_some trivial) fun c2 _ => ?_
  refine sat_ite (fun _ => ?_) fun _ => ?_
  · refine sat_bind (sat_foldOn (fun j (p : Int × List Int) => p.2.length ≤ j) (Nat.le_refl _) fun j p z hz hp => ?_) fun p hp => sat_some (by rw [range1_len] at hp; exact hp)
    have hz2 := range1_get hz
    refine sat_bind (P := fun (q : Int × List Int) => q.2.length ≤ j + 1) (sat_ite (fun _ => ?_) fun _ => sat_some (by show p.2.length ≤ _; omega)) fun q hq => sat_some hq
    exact sat_grd (by unfold Sm; simp at hz2; omega) (sat_bind (P := fun _ => True) (sat_some trivial) fun c _ => sat_some (by simp; omega))
  · refine sat_bind (P := fun _ => True) (sat_some trivial) fun c _ => sat_grd (by decide) ?_
    refine sat_bind (sat_foldOn (fun j (p : List Int × Int) => p.1.length ≤ j) (Nat.le_refl _) fun j p z hz hp => ?_) fun p hp => sat_some (by rw [range1_len] at hp; show p.1.length ≤ _; simp at hp; omega)
    have hz2 := range1_get hz
    exact sat_bind (P := fun _ => True) (sat_some trivial) fun c _ => sat_grd (by unfold Sm; simp at hz2; omega) (sat_some (by simp; omega))
theorem sat_box {ns : List Int} {n : Int} (hn : 0 ≤ n ∧ n ≤ 200) : Sat (m_law_box ns 0 n) BoxOk := by
  unfold m_law_box
  refine sat_bind (P := fun x => x = []) (sat_some rfl) fun r e => ?_
  subst e
  refine sat_grd (by omega) ?_
  refine sat_bind (sat_foldOn (fun i (s : List Int) => s.length ≤ 60 * i) (Nat.zero_le _) fun i s y hy hi => ?_) fun s _ => sat_some (Int.le_refl _)
  have hy2 := range2_get hy
  refine sat_bind (sat_cell (by omega)) fun c _ => ?_
  refine sat_bind sat_row fun t ht => ?_
  exact sat_grd (by unfold Sm; omega) (sat_bind (P := fun x => x = s ++ t) (sat_some rfl) fun x e => sat_some (by subst e; rw [List.length_append]; omega))
def FactsOk (fs : List Str) : Prop := 0 < fs.length ∧ fs.length ≤ 3 ∧ fs.Nodup
instance (fs : List Str) : Decidable (FactsOk fs) := inferInstanceAs (Decidable (_ ∧ _ ∧ _))
theorem sat_facts {b : (List Int) × Int} (h : BoxOk b) : Sat (m_law_facts b) fun o => FactsOk o.1 ∧ BoxOk o.2 := by
  unfold m_law_facts
  refine sat_bind (sat_draw h (by decide)) fun t ⟨⟨h1, h2⟩, h3⟩ => ?_
  refine sat_bind (sat_atI (P := fun (x : List Str) => FactsOk x) h1 h2 (by decide)) fun x hx => ?_
  exact sat_some ⟨hx, h3⟩
/-- a row of a machine: one number for each fact -/
def RowOk (fs : List Str) (C : Int → Prop) (r : List (Str × Int)) : Prop := r.map Prod.fst = fs ∧ ∀ p ∈ r, C p.2
def Ab (B : Nat) (i : Int) : Prop := i.natAbs ≤ B
structure MachOk (fs : List Str) (N B : Nat) (m : D_Machine) : Prop where
  facts : m.facts = fs
  pos : 0 < m.leave.length
  le : m.leave.length ≤ N
  stepL : m.step.length = m.leave.length
  gainL : m.gain.length = m.leave.length
  step : ∀ r ∈ m.step, RowOk fs (fun i => 0 ≤ i ∧ i < m.leave.length) r
  gain : ∀ r ∈ m.gain, RowOk fs (Ab B) r
  leave : ∀ x ∈ m.leave, Ab B x
theorem MachOk.mono {fs : List Str} {N N' B B' : Nat} {m : D_Machine} (h : MachOk fs N B m) (hN : N ≤ N') (hB : B ≤ B') : MachOk fs N' B' m :=
  ⟨h.facts, h.pos, Nat.le_trans h.le hN, h.stepL, h.gainL, h.step, fun r hr => ⟨(h.gain r hr).1, fun p hp => Nat.le_trans ((h.gain r hr).2 p hp) hB⟩, fun x hx => Nat.le_trans (h.leave x hx) hB⟩
theorem ofPairs_id {xs : List (Str × Int)} (h : (xs.map Prod.fst).Nodup) : ofPairs xs = xs := by
  unfold ofPairs
  have := aput_fresh (g := fun (p : Str × Int) => p) (xs := xs) (d := []) (by simpa using h)
  simpa using this
/-- a comprehension that draws -/
theorem sat_foldCn {β γ : Type} {f : ((List Int) × Int) → β → Option (Option γ × ((List Int) × Int))} {xs : List β} {s0 : (List Int) × Int} (R : β → γ → Prop) (h0 : BoxOk s0)
    (hs : ∀ s y, y ∈ xs → BoxOk s → Sat (f s y) fun p => (∃ z, p.1 = some z ∧ R y z) ∧ BoxOk p.2) : Sat (foldC f s0 xs) fun p => (p.1.length = xs.length ∧ ∀ (i : Nat) (y : β) (z : γ), xs[i]? = some y → p.1[i]? = some z → R y z) ∧ BoxOk p.2 := by
  induction xs generalizing s0 with
  | nil => exact ⟨([], s0), rfl, ⟨rfl, fun i y z h => by simp at h⟩, h0⟩
  | cons x xs ih =>
    refine sat_bind (hs s0 x (List.mem_cons_self ..) h0) fun p ⟨⟨z, e, r⟩, h2⟩ => ?_
    refine sat_bind (ih h2 fun s y hy => hs s y (List.mem_cons_of_mem _ hy)) fun q ⟨⟨h3, h4⟩, h5⟩ => ?_
    rw [e]
    refine sat_some ⟨⟨?_, fun i y z' hy hz => ?_⟩, h5⟩
    · show (z :: q.1).length = _
      rw [List.length_cons, List.length_cons, h3]
    · have hz : (z :: q.1)[i]? = some z' := hz
      cases i with
      | zero =>
        simp at hy hz
        subst hy hz
        exact r
      | succ i => exact h4 i y z' (by simpa using hy) (by simpa using hz)
theorem map_of_idx {β γ δ : Type} {g : γ → δ} {k : β → δ} : ∀ {xs : List β} {zs : List γ}, zs.length = xs.length → (∀ (i : Nat) (y : β) (z : γ), xs[i]? = some y → zs[i]? = some z → g z = k y) → zs.map g = xs.map k
  | [], [], _, _ => rfl
  | x :: xs, z :: zs, hl, h => by
    rw [List.map_cons, List.map_cons, h 0 x z rfl rfl, map_of_idx (xs := xs) (zs := zs) (by simpa using hl) fun i y z' h1 h2 => h (i + 1) y z' (by simpa using h1) (by simpa using h2)]
  | [], _ :: _, hl, _ => by simp at hl
  | _ :: _, [], hl, _ => by simp at hl
theorem all_of_idx {β γ : Type} {P : γ → Prop} {xs : List β} {zs : List γ} (hl : zs.length = xs.length) (h : ∀ (i : Nat) (y : β) (z : γ), xs[i]? = some y → zs[i]? = some z → P z) : ∀ z ∈ zs, P z := fun z hz => by
  obtain ⟨i, hi⟩ := List.mem_iff_getElem?.mp hz
  have hlt : i < xs.length := hl ▸ mem_len hi
  exact h i _ z (List.getElem?_eq_getElem hlt) hi
theorem row_draws {fs : List Str} {C : Int → Prop} {zs : List (Str × Int)} (hn : fs.Nodup) (hl : zs.length = fs.length) (h : ∀ (i : Nat) (y : Str) (z : Str × Int), fs[i]? = some y → zs[i]? = some z → z.1 = y ∧ C z.2) : RowOk fs C (ofPairs zs) := by
  have e : zs.map Prod.fst = fs := by
    have := map_of_idx (g := Prod.fst) (k := id) hl fun i y z h1 h2 => (h i y z h1 h2).1
    rwa [List.map_id] at this
  rw [ofPairs_id (by rw [e]; exact hn)]
  exact ⟨e, all_of_idx hl fun i y z h1 h2 => (h i y z h1 h2).2⟩
theorem mapC_id {β : Type} : ∀ {xs : List β}, mapC (fun y => some (some y)) xs = some xs
  | [] => rfl
  | x :: xs => by
    show (mapC _ xs).bind _ = _
    rw [mapC_id]
    rfl
theorem init_eq {fs : List Str} {st ga : List (List (Str × Int))} {le : List Int} (h1 : st.length ≤ 15000) (h2 : ga.length ≤ 15000) : m_Machine_init fs st ga le = some (D_Machine.mk fs st ga le) := by
  unfold m_Machine_init
  rw [grd_t (show Sm st.length from h1)]
  show (mapC _ st).bind _ = _
  rw [mapC_id]
  show (grd (Sm ga.length) ()).bind _ = _
  rw [grd_t (show Sm ga.length from h2)]
  show (mapC _ ga).bind _ = _
  rw [mapC_id]
  rfl
theorem sat_machine {b : (List Int) × Int} (h : BoxOk b) {fs : List Str} (hf : FactsOk fs) {most : Nat} (hm : 0 < most ∧ most ≤ 100) : Sat (m_law_machine b fs most) fun o => MachOk fs most 4 o.1 ∧ BoxOk o.2 := by
  obtain ⟨f1, f2, f3⟩ := hf
  unfold m_law_machine
  refine sat_bind (sat_draw h (by omega)) fun t1 ⟨⟨h1, h2⟩, h3⟩ => ?_
  refine sat_bind (P := fun x => x = 1 + t1.1) (sat_some rfl) fun many e => ?_
  have hm1 : 0 < many ∧ many ≤ most := by omega
  clear e
  refine sat_grd (by omega) ?_
  refine sat_bind (sat_foldOn (fun i (s : ((List Int) × Int) × (List (List (Str × Int))) × (List (List (Str × Int)))) => BoxOk s.1 ∧ (s.2.1.length = i ∧ ∀ r ∈ s.2.1, RowOk fs (fun k => 0 ≤ k ∧ k < many) r) ∧ s.2.2.length = i ∧ ∀ r ∈ s.2.2, RowOk fs (Ab 4) r)
    ⟨h3, ⟨rfl, fun _ h => nomatch h⟩, rfl, fun _ h => nomatch h⟩ fun i s y hy ⟨hb, ⟨l1, r1⟩, l2, r2⟩ => ?_) fun s ⟨hb, ⟨l1, r1⟩, l2, r2⟩ => ?_
  · have hy2 := range1_get hy
    refine sat_grd (by unfold Sm; omega) ?_
    refine sat_bind (sat_foldCn (fun (y : Str) (z : Str × Int) => z.1 = y ∧ 0 ≤ z.2 ∧ z.2 < many) hb fun s y _ hb => ?_) fun t11 ⟨⟨q1, q2⟩, q3⟩ => ?_
    · refine sat_bind (sat_draw hb (by decide)) fun t9 ⟨_, k3⟩ => sat_grd (by omega) (sat_some ⟨⟨_, rfl, rfl, fmod_lt' hm1.1⟩, k3⟩)
    refine sat_grd (by unfold Sm; omega) (sat_grd (by unfold Sm; omega) ?_)
    refine sat_bind (sat_foldCn (fun (y : Str) (z : Str × Int) => z.1 = y ∧ Ab 4 z.2) q3 fun s y _ hb => ?_) fun t19 ⟨⟨p1, p2⟩, p3⟩ => ?_
    · refine sat_bind (sat_draw hb (by decide)) fun t17 ⟨⟨k1, k2⟩, k3⟩ => ?_
      refine sat_bind (sat_atI (P := fun (x : Int) => x.natAbs ≤ 4) k1 k2 (by decide)) fun v hv => sat_some ⟨⟨_, rfl, rfl, hv⟩, k3⟩
    refine sat_grd (by unfold Sm; omega) (sat_some ⟨p3, ⟨?_, ?_⟩, ?_, ?_⟩)
    · show (s.2.1 ++ [_]).length = _
      rw [List.length_append, l1]
      rfl
    · intro r hr
      rcases List.mem_append.mp hr with hr | hr
      · exact r1 r hr
      · rw [List.mem_singleton.mp hr]
        exact row_draws f3 q1 q2
    · show (s.2.2 ++ [_]).length = _
      rw [List.length_append, l2]
      rfl
    · intro r hr
      rcases List.mem_append.mp hr with hr | hr
      · exact r2 r hr
      · rw [List.mem_singleton.mp hr]
        exact row_draws f3 p1 p2
  rw [range1_len] at l1 l2
  refine sat_grd (by omega) (sat_grd (by unfold Sm; rw [range1_len]; omega) ?_)
  refine sat_bind (sat_foldCn (fun (y : Int) (z : Int) => Ab 4 z) hb fun s y _ hb => ?_) fun t29 ⟨⟨q1, q2⟩, q3⟩ => ?_
  · exact sat_bind (sat_draw hb (by decide)) fun t17 ⟨⟨k1, k2⟩, k3⟩ => sat_some ⟨⟨_, rfl, (show (t17.1 - 2).natAbs ≤ 4 by omega)⟩, k3⟩
  rw [range1_len] at q1
  refine sat_bind (sat_eq (init_eq (by omega) (by omega)) (P := fun x => x = D_Machine.mk fs s.2.1 s.2.2 t29.1) rfl) fun x e => ?_
  subst e
  refine sat_some ⟨⟨rfl, ?_, ?_, ?_, ?_, ?_, r2, ?_⟩, q3⟩
  · show 0 < t29.1.length
    omega
  · show t29.1.length ≤ most
    omega
  · show s.2.1.length = t29.1.length
    omega
  · show s.2.2.length = t29.1.length
    omega
  · intro r hr
    refine ⟨(r1 r hr).1, fun p hp => ?_⟩
    have := (r1 r hr).2 p hp
    show 0 ≤ p.2 ∧ p.2 < (t29.1.length : Int)
    omega
  · exact all_of_idx (xs := range1 many) (by rw [range1_len]; exact q1) q2
theorem sat_mapCn {β γ : Type} {f : β → Option (Option γ)} {xs : List β} (R : β → γ → Prop) (hs : ∀ y, y ∈ xs → Sat (f y) fun p => ∃ z, p = some z ∧ R y z) :
    Sat (mapC f xs) fun zs => zs.length = xs.length ∧ ∀ (i : Nat) (y : β) (z : γ), xs[i]? = some y → zs[i]? = some z → R y z := by
  induction xs with
  | nil => exact ⟨[], rfl, rfl, fun i y z h => by simp at h⟩
  | cons x xs ih =>
    refine sat_bind (hs x (List.mem_cons_self ..)) fun p ⟨z, e, r⟩ => ?_
    refine sat_bind (ih fun y hy => hs y (List.mem_cons_of_mem _ hy)) fun q ⟨h3, h4⟩ => ?_
    rw [e]
    refine sat_some ⟨?_, fun i y z' hy hz => ?_⟩
    · show (z :: q).length = _
      rw [List.length_cons, List.length_cons, h3]
    · have hz : (z :: q)[i]? = some z' := hz
      cases i with
      | zero =>
        simp at hy hz
        subst hy hz
        exact r
      | succ i => exact h4 i y z' (by simpa using hy) (by simpa using hz)
theorem RowOk.get {fs : List Str} {C : Int → Prop} {r : List (Str × Int)} (h : RowOk fs C r) {y : Str} (hy : y ∈ fs) : Sat (aget r y) C := by
  obtain ⟨v, e, m⟩ := aget_some (d := r) (k := y) (by rw [h.1]; exact hy)
  exact ⟨v, e, h.2 _ m⟩
def RowP (fs : List Str) (j : Nat) (C : Int → Prop) (r : List (Str × Int)) : Prop := r.map Prod.fst = fs.take j ∧ ∀ p ∈ r, C p.2
theorem RowP.full {fs : List Str} {C : Int → Prop} {r : List (Str × Int)} (h : RowP fs fs.length C r) : RowOk fs C r := ⟨by rw [h.1, List.take_length], h.2⟩
theorem RowP.len {fs : List Str} {j : Nat} {C : Int → Prop} {r : List (Str × Int)} (h : RowP fs j C r) : r.length ≤ fs.length := by
  have := congrArg List.length h.1
  rw [List.length_map, List.length_take] at this
  omega
theorem RowP.put {fs : List Str} {j : Nat} {C : Int → Prop} {r : List (Str × Int)} (h : RowP fs j C r) (hn : fs.Nodup) {y : Str} (hy : fs[j]? = some y) {v : Int} (hv : C v) : RowP fs (j + 1) C (aput r y v) := by
  obtain ⟨hj, ey⟩ := List.getElem?_eq_some_iff.mp hy
  have fresh : y ∉ r.map Prod.fst := by
    rw [h.1]
    intro hm
    obtain ⟨i, hi⟩ := List.mem_iff_getElem?.mp hm
    have hlt : i < j := by
      have := mem_len hi
      rw [List.length_take] at this
      omega
    rw [List.getElem?_take_of_lt hlt] at hi
    have := (List.getElem?_inj (mem_len hi) hn).mp (hi.trans hy.symm)
    omega
  rw [aput_new fresh]
  refine ⟨?_, fun p hp => ?_⟩
  · rw [List.map_append, h.1, List.take_succ_eq_append_getElem hj]
    congr 1
    exact congrArg (fun x => [x]) ey.symm
  · rcases List.mem_append.mp hp with hp | hp
    · exact h.2 p hp
    · rw [List.mem_singleton.mp hp]
      exact hv
theorem RowOk.put {fs : List Str} {C : Int → Prop} {r : List (Str × Int)} (h : RowOk fs C r) {y : Str} (hy : y ∈ fs) {v : Int} (hv : C v) : RowOk fs C (aput r y v) := by
  refine ⟨?_, fun p hp => ?_⟩
  · rw [aput_keys r y v (ahas_iff.mpr (by rw [h.1]; exact hy))]
    exact h.1
  · rcases aput_mem hp with hp | hp
    · exact h.2 p hp
    · rw [hp]
      exact hv
theorem RowOk.mono {fs : List Str} {C C' : Int → Prop} {r : List (Str × Int)} (h : RowOk fs C r) (k : ∀ i, C i → C' i) : RowOk fs C' r := ⟨h.1, fun p hp => k _ (h.2 p hp)⟩
theorem sat_atA {α : Type} {xs : List α} {i : Int} {P : α → Prop} (h : 0 ≤ i ∧ i < xs.length) (hp : ∀ y ∈ xs, P y) : Sat (atI xs i) P := sat_atI h.1 h.2 hp
theorem mem_setI {α : Type} {xs : List α} {k : Int} {y x : α} (h : x ∈ setI xs k y) : x ∈ xs ∨ x = y := by
  unfold setI at h
  exact List.mem_or_eq_of_mem_set h
theorem len_setI {α : Type} {xs : List α} {k : Int} {y : α} : (setI xs k y).length = xs.length := List.length_set
theorem sat_near {b : (List Int) × Int} (h : BoxOk b) {fs : List Str} (hf : FactsOk fs) {N B : Nat} {m : D_Machine} (M : MachOk fs N B m) (hN : N ≤ 1000) : Sat (m_law_near b m) fun o => MachOk fs N (B + 1) o.1 ∧ BoxOk o.2 := by
  obtain ⟨f1, f2, f3⟩ := hf
  have m1 := M.pos
  have m2 := M.le
  have sl := M.stepL
  have gl := M.gainL
  unfold m_law_near
  refine sat_bind (P := fun x => x = (m.leave.length : Int)) (sat_some rfl) fun many e => ?_
  have fm : ∀ y : Int, 0 ≤ Int.fmod y many ∧ Int.fmod y many < many := fun y => fmod_lt' (by omega)
  refine sat_grd (by unfold Sm; omega) ?_
  rw [mapC_id]
  refine sat_bind (P := fun x => x = m.step) (sat_some rfl) fun st es => sat_grd (by unfold Sm; omega) ?_
  subst es
  rw [mapC_id]
  refine sat_bind (P := fun x => x = m.gain) (sat_some rfl) fun ga eg => ?_
  subst eg
  refine sat_bind (sat_draw h (by decide)) fun t8 ⟨_, k8⟩ => sat_grd (by omega) (sat_bind (P := fun x => x = Int.fmod t8.1 many) (sat_some rfl) fun state est => ?_)
  have hst := fm t8.1
  rw [← est] at hst
  have hfl : (m.facts.length : Int) = fs.length := by rw [M.facts]
  refine sat_bind (sat_draw k8 (by decide)) fun t11 ⟨_, k11⟩ => sat_grd (by omega) ?_
  have hfm := fmod_lt' (a := t11.1) (n := (m.facts.length : Int)) (by omega)
  refine sat_bind (sat_atA hfm (P := fun y => y ∈ fs) fun y hy => by rw [← M.facts]; exact hy) fun t13 h13 => ?_
  refine sat_bind (sat_draw k11 (by decide)) fun t14 ⟨_, k14⟩ => ?_
  have rl : ∀ {C : Int → Prop} {r : List (Str × Int)}, RowOk fs C r → Sm r.length := fun {C r} hr => by
    have := congrArg List.length hr.1
    rw [List.length_map] at this
    unfold Sm
    omega
  refine sat_bind (P := fun (q : ((List Int) × Int) × (List (List (Str × Int))) × (List (List (Str × Int))) × (List Int)) => BoxOk q.1 ∧ (q.2.1.length = m.leave.length ∧ ∀ r ∈ q.2.1, RowOk fs (fun i => 0 ≤ i ∧ i < m.leave.length) r) ∧ (q.2.2.1.length = m.leave.length ∧ ∀ r ∈ q.2.2.1, RowOk fs (Ab (B + 1)) r) ∧ q.2.2.2.length = m.leave.length ∧ ∀ x ∈ q.2.2.2, Ab (B + 1) x) ?_ fun q ⟨q0, ⟨q1, q2⟩, ⟨q3, q4⟩, q5, q6⟩ => ?_
  · have gA : ∀ r ∈ m.gain, RowOk fs (Ab (B + 1)) r := fun r hr => (M.gain r hr).mono fun i hi => Nat.le_succ_of_le hi
    have lA : ∀ x ∈ m.leave, Ab (B + 1) x := fun x hx => Nat.le_succ_of_le (M.leave x hx)
    refine sat_ite (fun _ => ?_) fun _ => ?_
    · refine sat_bind (sat_atA (by omega) M.gain) fun t17 h17 => ?_
      refine sat_bind (h17.get h13) fun t18 h18 => ?_
      refine sat_bind (sat_atA (by omega) M.gain) fun t19 h19 => ?_
      refine sat_grd (rl h19) (sat_some ⟨k14, ⟨sl, M.step⟩, ⟨by rw [len_setI]; exact gl, fun r hr => ?_⟩, rfl, lA⟩)
      rcases mem_setI hr with hr | hr
      · exact gA r hr
      · rw [hr]
        refine (h19.mono fun i hi => Nat.le_succ_of_le hi).put h13 ?_
        unfold Ab at *
        omega
    · refine sat_bind (P := fun (q : ((List Int) × Int) × (List (List (Str × Int))) × (List Int)) => BoxOk q.1 ∧ (q.2.1.length = m.leave.length ∧ ∀ r ∈ q.2.1, RowOk fs (fun i => 0 ≤ i ∧ i < m.leave.length) r) ∧ q.2.2.length = m.leave.length ∧ ∀ x ∈ q.2.2, Ab (B + 1) x) (sat_ite (fun _ => ?_) fun _ => ?_) fun q ⟨q0, q1, q2, q3⟩ => sat_some ⟨q0, q1, ⟨gl, gA⟩, q2, q3⟩
      · refine sat_bind (sat_atA (by omega) M.leave) fun t23 h23 => ?_
        refine sat_bind (sat_atA (by omega) M.leave) fun t24 h24 => sat_some ⟨k14, ⟨sl, M.step⟩, by rw [len_setI], fun x hx => ?_⟩
        rcases mem_setI hx with hx | hx
        · exact lA x hx
        · rw [hx]
          unfold Ab at *
          omega
      · refine sat_bind (sat_draw k14 (by decide)) fun t25 ⟨_, k25⟩ => sat_grd (by omega) ?_
        refine sat_bind (sat_atA (by omega) M.step) fun t27 h27 => sat_grd (rl h27) (sat_some ⟨k25, ⟨by rw [len_setI]; exact sl, fun r hr => ?_⟩, rfl, lA⟩)
        rcases mem_setI hr with hr | hr
        · exact M.step r hr
        · rw [hr]
          have := fm t25.1
          exact h27.put h13 (by omega)
  · refine sat_bind (sat_eq (init_eq (by omega) (by omega)) (P := fun x => x = D_Machine.mk m.facts q.2.1 q.2.2.1 q.2.2.2) rfl) fun x e => ?_
    subst e
    refine sat_some ⟨⟨M.facts, ?_, ?_, ?_, ?_, ?_, q4, q6⟩, q0⟩
    · show 0 < q.2.2.2.length
      omega
    · show q.2.2.2.length ≤ N
      omega
    · show q.2.1.length = q.2.2.2.length
      omega
    · show q.2.2.1.length = q.2.2.2.length
      omega
    · intro r hr
      refine (q2 r hr).mono fun i hi => ?_
      show 0 ≤ i ∧ i < (q.2.2.2.length : Int)
      omega
/-! ### what a machine gives, as plain functions -/
def rowAt (xs : List (List (Str × Int))) (s : Int) : List (Str × Int) := (atI xs s).getD []
def gv (m : D_Machine) (s : Int) (f : Str) : Int := (aget (rowAt m.gain s) f).getD 0
def sv (m : D_Machine) (s : Int) (f : Str) : Int := (aget (rowAt m.step s) f).getD 0
def nv (xs : List Int) (s : Int) : Int := (atI xs s).getD 0
def In (m : D_Machine) (s : Int) : Prop := 0 ≤ s ∧ s < (m.leave.length : Int)
theorem sat_get {α : Type} {m : Option α} {P : α → Prop} (h : Sat m P) (d : α) : m = some (m.getD d) ∧ P (m.getD d) := by
  obtain ⟨a, rfl, p⟩ := h
  exact ⟨rfl, p⟩
section
variable {fs : List Str} {N B : Nat} {m : D_Machine} (M : MachOk fs N B m) {s : Int} (hs : In m s)
include M hs
theorem gain_row : atI m.gain s = some (rowAt m.gain s) ∧ RowOk fs (Ab B) (rowAt m.gain s) := sat_get (sat_atA (by have := M.gainL; unfold In at hs; omega) M.gain) []
theorem step_row : atI m.step s = some (rowAt m.step s) ∧ RowOk fs (fun i => 0 ≤ i ∧ i < m.leave.length) (rowAt m.step s) := sat_get (sat_atA (by have := M.stepL; unfold In at hs; omega) M.step) []
theorem gain_get {f : Str} (hf : f ∈ fs) : aget (rowAt m.gain s) f = some (gv m s f) ∧ Ab B (gv m s f) := sat_get ((gain_row M hs).2.get hf) 0
theorem step_get {f : Str} (hf : f ∈ fs) : aget (rowAt m.step s) f = some (sv m s f) ∧ In m (sv m s f) := sat_get ((step_row M hs).2.get hf) 0
theorem leave_get : atI m.leave s = some (nv m.leave s) ∧ Ab B (nv m.leave s) := sat_get (sat_atA hs M.leave) 0
end
def total (m : D_Machine) (s : Int) : List Str → Int
  | [] => nv m.leave s
  | f :: r => gv m s f + total m (sv m s f) r
theorem total_eq {fs : List Str} {N B : Nat} {m : D_Machine} (M : MachOk fs N B m) {s : Int} (hs : In m s) {c : List Str} (hc : ∀ f ∈ c, f ∈ fs) : m_law_total m s c = some (total m s c) := by
  have key : ∀ (c : List Str) (s a : Int), In m s → (∀ f ∈ c, f ∈ fs) → ∃ s' a', foldO (S := Int × Int) (fun (s1 : Int × Int) (y2 : Str) => ((atI m.gain s1.1).bind fun t3 => (aget t3 y2).bind fun t4 => (some (s1.2 + t4)).bind fun found_5 => ((atI m.step s1.1).bind fun t6 => (aget t6 y2).bind fun t7 => some (t7, found_5)))) (s, a) c = some (s', a') ∧ In m s' ∧ a' + nv m.leave s' = a + total m s c := by
    intro c
    induction c with
    | nil => exact fun s a hs _ => ⟨s, a, rfl, hs, rfl⟩
    | cons f r ih =>
      intro s a hs hc
      have hf := hc f (List.mem_cons_self ..)
      obtain ⟨s', a', e, h1, h2⟩ := ih (sv m s f) (a + gv m s f) (step_get M hs hf).2 fun g hg => hc g (List.mem_cons_of_mem _ hg)
      refine ⟨s', a', ?_, h1, ?_⟩
      · show Option.bind ((atI m.gain s).bind _) _ = _
        rw [(gain_row M hs).1]
        show Option.bind ((aget (rowAt m.gain s) f).bind _) _ = _
        rw [(gain_get M hs hf).1]
        show Option.bind ((atI m.step s).bind _) _ = _
        rw [(step_row M hs).1]
        show Option.bind ((aget (rowAt m.step s) f).bind _) _ = _
        rw [(step_get M hs hf).1]
        exact e
      · rw [h2]
        show _ = a + (gv m s f + total m (sv m s f) r)
        omega
  obtain ⟨s', a', e, h1, h2⟩ := key c s 0 hs hc
  unfold m_law_total
  rw [e]
  show (atI m.leave s').bind _ = _
  rw [(leave_get M h1).1]
  show some (a' + nv m.leave s') = _
  rw [h2, Int.zero_add]
/-- all careers of a length -/
def R (fs : List Str) : Nat → List (List Str)
  | 0 => [[]]
  | j + 1 => (R fs j).flatMap fun r => fs.map fun f => r ++ [f]
theorem mem_R {fs : List Str} : ∀ {j : Nat} {c : List Str}, c ∈ R fs j ↔ c.length = j ∧ ∀ f ∈ c, f ∈ fs
  | 0, c => by
    show c ∈ [[]] ↔ _
    rw [List.mem_singleton]
    constructor
    · rintro rfl
      exact ⟨rfl, fun _ h => nomatch h⟩
    · rintro ⟨h, _⟩
      exact List.length_eq_zero_iff.mp h
  | j + 1, c => by
    show c ∈ (R fs j).flatMap _ ↔ _
    rw [List.mem_flatMap]
    constructor
    · rintro ⟨r, hr, hc⟩
      obtain ⟨f, hf, rfl⟩ := List.mem_map.mp hc
      obtain ⟨h1, h2⟩ := mem_R.mp hr
      refine ⟨by rw [List.length_append, h1]; rfl, fun g hg => ?_⟩
      rcases List.mem_append.mp hg with hg | hg
      · exact h2 g hg
      · rw [List.mem_singleton.mp hg]
        exact hf
    · rintro ⟨h1, h2⟩
      have hne : c ≠ [] := fun e => by
        rw [e] at h1
        cases h1
      refine ⟨c.dropLast, mem_R.mpr ⟨by rw [List.length_dropLast, h1]; rfl, fun g hg => h2 g ((List.dropLast_sublist c).subset hg)⟩, List.mem_map.mpr ⟨c.getLast hne, h2 _ (List.getLast_mem hne), List.dropLast_concat_getLast hne⟩⟩
theorem len_R {fs : List Str} (hf : fs.length ≤ 3) : ∀ j : Nat, (R fs j).length ≤ 3 ^ j
  | 0 => Nat.le_refl _
  | j + 1 => by
    show ((R fs j).flatMap _).length ≤ _
    have e : ∀ xs : List (List Str), (xs.flatMap fun r => fs.map fun f => r ++ [f]).length = xs.length * fs.length := by
      intro xs
      induction xs with
      | nil => simp
      | cons x xs ih =>
        rw [List.flatMap_cons, List.length_append, ih, List.length_map, List.length_cons, Nat.succ_mul]
        omega
    rw [e, Nat.pow_succ]
    exact Nat.mul_le_mul (len_R hf j) hf
theorem foldl_app {β γ : Type} {g : β → List γ} : ∀ {xs : List β} {a : List γ}, xs.foldl (fun a y => a ++ g y) a = a ++ xs.flatMap g
  | [], a => by simp
  | x :: xs, a => by rw [List.foldl_cons, foldl_app, List.flatMap_cons, List.append_assoc]
def RR (fs : List Str) (n : Nat) : List (List Str) := (List.range n).flatMap (R fs)
theorem RR_succ {fs : List Str} {n : Nat} : RR fs (n + 1) = RR fs n ++ R fs n := by
  unfold RR
  rw [List.range_succ, List.flatMap_append]
  simp
theorem len_RR {fs : List Str} (hf : fs.length ≤ 3) : ∀ n : Nat, (RR fs n).length ≤ 3 ^ n
  | 0 => by simp [RR]
  | n + 1 => by
    rw [RR_succ, List.length_append, Nat.pow_succ]
    have := len_RR hf n
    have := len_R hf n
    omega
theorem careers_eq {fs : List Str} (hf : fs.length ≤ 3) {L : Nat} (hL : L ≤ 6) : m_law_careers fs L = some (RR fs (L + 1)) := by
  suffices h : Sat (m_law_careers fs L) fun o => o = RR fs (L + 1) by
    obtain ⟨a, e, rfl⟩ := h
    exact e
  have p6 : ∀ j, j ≤ 7 → 3 ^ j ≤ 2187 := fun j hj => Nat.le_trans (Nat.pow_le_pow_right (by decide) hj) (by decide)
  unfold m_law_careers
  refine sat_bind (P := fun x => x = [[]]) (sat_some rfl) fun f1 e1 => sat_bind (P := fun x => x = [[]]) (sat_some rfl) fun f2 e2 => sat_grd (by omega) ?_
  subst e1 e2
  refine sat_bind (sat_foldOn (fun i (s : (List (List Str)) × (List (List Str))) => s.1 = RR fs (i + 1) ∧ s.2 = R fs i) ⟨rfl, rfl⟩ fun i s y hy ⟨h1, h2⟩ => ?_) fun s ⟨h1, h2⟩ => sat_some ?_
  · have hy2 := range1_get hy
    refine sat_bind (P := fun x => x = []) (sat_some rfl) fun lo e => ?_
    subst e
    have q1 := len_R hf i
    have q2 := p6 i (by omega)
    have q3 := len_R hf (i + 1)
    have q4 := p6 (i + 1) (by omega)
    have q5 := len_RR hf (i + 1)
    have fold := foldO_eqn (f := (fun (s7 : (List (List Str))) (y8 : (List Str)) => ((grd (Sm (fs).length) ()).bind fun g10 => (mapC (fun (y9 : Str) => ((grd (Sm ((y8).length + ([y9]).length)) ()).bind fun g11 => some (some (y8 ++ [y9])))) fs).bind fun t12 => (grd (Sm ((s7).length + (t12).length)) ()).bind fun g13 => (some (s7 ++ t12)).bind fun longer_14 => some (longer_14))))
      (g := fun a y8 => a ++ fs.map fun f => y8 ++ [f]) (xs := s.2) (s := []) (fun j a => a.length ≤ j * 3) (Nat.le_refl _) fun j a y8 hy8 ha => by
        have hj := mem_len hy8
        rw [h2] at hj
        have hm := List.mem_of_getElem? hy8
        rw [h2] at hm
        have hl := (mem_R.mp hm).1
        refine ⟨?_, by show (a ++ _).length ≤ _; rw [List.length_append, List.length_map]; omega⟩
        rw [grd_t (show Sm fs.length by unfold Sm; omega)]
        show (mapC _ fs).bind _ = _
        rw [mapC_map (g := fun f => y8 ++ [f]) fun f _ => by
          rw [grd_t (show Sm (y8.length + [f].length) by unfold Sm; simp; omega)]
          rfl]
        show (grd (Sm (a.length + (fs.map fun f => y8 ++ [f]).length)) ()).bind _ = _
        rw [grd_t (show Sm (a.length + (fs.map fun f => y8 ++ [f]).length) by unfold Sm; rw [List.length_map]; omega)]
        rfl
    refine sat_bind (sat_eq fold.1 (P := fun x => x = R fs (i + 1)) (by rw [foldl_app, h2]; rfl)) fun lo e => ?_
    subst e
    refine sat_grd (by unfold Sm; rw [h1]; omega) (sat_bind (P := fun x => x = s.1 ++ R fs (i + 1)) (sat_some rfl) fun x e => sat_some ⟨?_, rfl⟩)
    show x = _
    rw [e, h1, ← RR_succ]
  · rw [h1, range1_len]
    rfl
/-! ### the pairs that are met -/
def stp (m o : D_Machine) (p : Int × Int) (f : Str) : Int × Int := (sv m p.1 f, sv o p.2 f)
def gnp (m o : D_Machine) (p : Int × Int) (f : Str) : Int := gv m p.1 f - gv o p.2 f
def edp (m o : D_Machine) (p : Int × Int) : Int := nv m.leave p.1 - nv o.leave p.2
def InP (m o : D_Machine) (p : Int × Int) : Prop := In m p.1 ∧ In o p.2
def univ (m o : D_Machine) : List (Int × Int) := (List.range m.leave.length).flatMap fun (a : Nat) => (List.range o.leave.length).map fun (b : Nat) => ((a : Int), (b : Int))
theorem mem_univ {m o : D_Machine} {p : Int × Int} : p ∈ univ m o ↔ InP m o p := by
  unfold univ InP In
  rw [List.mem_flatMap]
  constructor
  · rintro ⟨a, ha, hp⟩
    obtain ⟨b, hb, rfl⟩ := List.mem_map.mp hp
    have := List.mem_range.mp ha
    have := List.mem_range.mp hb
    exact ⟨⟨by show (0 : Int) ≤ (a : Int); omega, by show (a : Int) < _; omega⟩, by show (0 : Int) ≤ (b : Int); omega, by show (b : Int) < _; omega⟩
  · rintro ⟨⟨h1, h2⟩, h3, h4⟩
    exact ⟨p.1.toNat, List.mem_range.mpr (by omega), List.mem_map.mpr ⟨p.2.toNat, List.mem_range.mpr (by omega), Prod.ext (by show ((p.1.toNat : Nat) : Int) = _; omega) (by show ((p.2.toNat : Nat) : Int) = _; omega)⟩⟩
theorem len_univ {m o : D_Machine} : (univ m o).length = m.leave.length * o.leave.length := by
  unfold univ
  rw [List.length_flatMap]
  simp [List.map_const', List.sum_replicate_nat]
def pin {κ : Type} [DecidableEq κ] (met : List κ) (k : κ) : List κ := if k ∈ met then met else met ++ [k]
theorem ins_pin {κ : Type} [DecidableEq κ] {met : List (Ent κ)} {e : Ent κ} : (ins met e).map Prod.fst = pin (met.map Prod.fst) e.1 := by
  unfold ins pin
  split
  · rfl
  · rw [List.map_append]
    rfl
theorem pin_pre {κ : Type} [DecidableEq κ] (met : List κ) (k : κ) : met <+: pin met k := by
  unfold pin
  split
  · exact List.prefix_refl _
  · exact List.prefix_append _ _
theorem pin_nd {κ : Type} [DecidableEq κ] {met : List κ} {k : κ} (h : met.Nodup) : (pin met k).Nodup := by
  unfold pin
  split
  · exact h
  · rename_i hn
    refine List.nodup_append.mpr ⟨h, by simp, fun a ha b hb => ?_⟩
    rw [List.mem_singleton.mp hb]
    exact fun e => hn (e ▸ ha)
theorem pin_mem {κ : Type} [DecidableEq κ] {met : List κ} {k x : κ} : x ∈ pin met k ↔ x ∈ met ∨ x = k := by
  unfold pin
  split
  · rename_i h
    exact ⟨.inl, fun z => z.elim id fun e => e ▸ h⟩
  · rw [List.mem_append, List.mem_singleton]
def uq {κ : Type} [DecidableEq κ] (bs : List κ) : List κ := bs.foldl pin []
theorem uq_fold {κ : Type} [DecidableEq κ] : ∀ {bs met : List κ}, met.Nodup → (bs.foldl pin met).Nodup ∧ ∀ x, x ∈ bs.foldl pin met ↔ x ∈ met ∨ x ∈ bs
  | [], met, h => ⟨h, fun x => by simp⟩
  | b :: bs, met, h => by
    obtain ⟨h1, h2⟩ := uq_fold (bs := bs) (met := pin met b) (pin_nd h)
    refine ⟨h1, fun x => ?_⟩
    rw [List.foldl_cons, h2, pin_mem, List.mem_cons]
    constructor
    · rintro ((h | h) | h)
      · exact .inl h
      · exact .inr (.inl h)
      · exact .inr (.inr h)
    · rintro (h | h | h)
      · exact .inl (.inl h)
      · exact .inl (.inr h)
      · exact .inr h
theorem uq_nd {κ : Type} [DecidableEq κ] {bs : List κ} : (uq bs).Nodup := (uq_fold (bs := bs) List.nodup_nil).1
theorem uq_mem {κ : Type} [DecidableEq κ] {bs : List κ} {x : κ} : x ∈ uq bs ↔ x ∈ bs := by
  have := (uq_fold (bs := bs) List.nodup_nil).2 x
  unfold uq
  rw [this]
  simp
theorem uq_of_nd {κ : Type} [DecidableEq κ] : ∀ {bs met : List κ}, (met ++ bs).Nodup → bs.foldl pin met = met ++ bs
  | [], met, _ => by simp
  | b :: bs, met, h => by
    have hb : b ∉ met := fun z => (List.nodup_append.mp h).2.2 b z b (List.mem_cons_self ..) rfl
    have e : pin met b = met ++ [b] := if_neg hb
    rw [List.foldl_cons, e, uq_of_nd (by rw [List.append_assoc]; exact h), List.append_assoc]
    rfl
theorem uq_id {κ : Type} [DecidableEq κ] {bs : List κ} (h : bs.Nodup) : uq bs = bs := uq_of_nd (met := []) h
theorem place_eq {key : Int × Int} {met : List (Int × Int)} {d : List ((Int × Int) × Int)} (T : Tab met d) (n : met.Nodup) (l : (pin met key).length ≤ 15000) :
    ∃ (i : Nat) (d' : List ((Int × Int) × Int)), m_place_of key met d = some ((i : Int), pin met key, d') ∧ Tab (pin met key) d' ∧ (pin met key)[i]? = some key := by
  have hl := (pin_pre met key).length_le
  have k2 : key ∈ pin met key := pin_mem.mpr (.inr rfl)
  obtain ⟨i, hi⟩ := List.mem_iff_getElem?.mp k2
  unfold m_place_of
  by_cases h : key ∈ met
  · have e : pin met key = met := if_pos h
    rw [e] at hi ⊢
    refine ⟨i, d, ?_, T, hi⟩
    rw [if_neg (by rw [T.has.mpr h]; decide)]
    show (aget d key).bind _ = _
    rw [T.get n hi]
    rfl
  · have e : pin met key = met ++ [key] := if_neg h
    have T' := T.put h
    rw [← e] at T'
    refine ⟨i, aput d key met.length, ?_, T', hi⟩
    rw [if_pos (by
      have : ahas d key = false := by
        cases q : ahas d key with
        | false => rfl
        | true => exact absurd (T.has.mp q) h
      rw [this]
      rfl), grd_t (show Sm d.length by have := T.len; unfold Sm; omega)]
    show ((grd (Sm met.length) ()).bind _).bind _ = _
    rw [grd_t (show Sm met.length by unfold Sm; omega)]
    show (aget (aput d key met.length) key).bind _ = _
    rw [T'.get (pin_nd n) hi, ← e]
    rfl
section
variable {fs : List Str} {N B N' B' : Nat} {m o : D_Machine}
theorem stp_in (M : MachOk fs N B m) (O : MachOk fs N' B' o) {p : Int × Int} (hp : InP m o p) {f : Str} (hf : f ∈ fs) : InP m o (stp m o p f) := ⟨(step_get M hp.1 hf).2, (step_get O hp.2 hf).2⟩
theorem next_eq (M : MachOk fs N B m) (O : MachOk fs N' B' o) {p : Int × Int} (hp : InP m o p) {f : Str} (hf : f ∈ fs) : m_next_pair m o p f = some (stp m o p f) := by
  unfold m_next_pair
  rw [(step_row M hp.1).1]
  show (aget (rowAt m.step p.1) f).bind _ = _
  rw [(step_get M hp.1 hf).1]
  show (atI o.step p.2).bind _ = _
  rw [(step_row O hp.2).1]
  show (aget (rowAt o.step p.2) f).bind _ = _
  rw [(step_get O hp.2 hf).1]
  rfl
theorem gah_eq (M : MachOk fs N B m) (O : MachOk fs N' B' o) {p : Int × Int} (hp : InP m o p) {f : Str} (hf : f ∈ fs) : m_gain_ahead m o p f = some (gnp m o p f) := by
  unfold m_gain_ahead
  rw [(gain_row M hp.1).1]
  show (aget (rowAt m.gain p.1) f).bind _ = _
  rw [(gain_get M hp.1 hf).1]
  show (atI o.gain p.2).bind _ = _
  rw [(gain_row O hp.2).1]
  show (aget (rowAt o.gain p.2) f).bind _ = _
  rw [(gain_get O hp.2 hf).1]
  rfl
theorem eah_eq (M : MachOk fs N B m) (O : MachOk fs N' B' o) {p : Int × Int} (hp : InP m o p) : m_end_ahead m o p = some (edp m o p) := by
  unfold m_end_ahead
  rw [(leave_get M hp.1).1]
  show (atI o.leave p.2).bind _ = _
  rw [(leave_get O hp.2).1]
  rfl
end
theorem grow_app {σ : Type} [DecidableEq σ] {step : σ → Str → σ} {a b : List Str} {met : List (Ent σ)} {e : Ent σ} : grow step (a ++ b) met e = grow step b (grow step a met e) e := List.foldl_append ..
theorem take_snoc {α : Type} {xs : List α} {j : Nat} {y : α} (h : xs[j]? = some y) : xs.take (j + 1) = xs.take j ++ [y] := by
  obtain ⟨h1, h2⟩ := List.getElem?_eq_some_iff.mp h
  rw [List.take_succ_eq_append_getElem h1, h2]
/-- a row of places -/
def RowT (fs : List Str) (pairs : List (Int × Int)) (nx : Str → Int × Int) (row : List (Str × Int)) : Prop := row.map Prod.fst = fs ∧ ∀ f ∈ fs, ∃ j : Nat, aget row f = some (j : Int) ∧ pairs[j]? = some (nx f)
theorem RowT.pre {fs : List Str} {pairs pairs' : List (Int × Int)} {nx : Str → Int × Int} {row : List (Str × Int)} (h : RowT fs pairs nx row) (p : pairs <+: pairs') : RowT fs pairs' nx row :=
  ⟨h.1, fun f hf => by
    obtain ⟨j, h1, h2⟩ := h.2 f hf
    exact ⟨j, h1, pre_at p h2⟩⟩
theorem add_eq {fs : List Str} {N B N' B' : Nat} {m o : D_Machine} (M : MachOk fs N B m) (O : MachOk fs N' B' o) (hf : fs.Nodup) (hfl : fs.length ≤ 1000) {P : D_Pairs} (pf : P.facts = fs) {met : List (Ent (Int × Int))} {e : Ent (Int × Int)}
    (pm : P.pairs = met.map Prod.fst) (T : Tab P.pairs P.places) (nd : P.pairs.Nodup) (hp : InP m o e.1) (hb : (grow (stp m o) fs met e).length ≤ 15000)
    (l1 : P.step.length ≤ 15000) (l2 : P.gain.length ≤ 15000) (l3 : P.end_.length ≤ 15000) :
    ∃ d row, m_add_rows P m o e.1 = some ((), D_Pairs.mk fs ((grow (stp m o) fs met e).map Prod.fst) d (P.step ++ [row]) (P.gain ++ [fs.map fun f => (f, gnp m o e.1 f)]) (P.end_ ++ [edp m o e.1])) ∧
      Tab ((grow (stp m o) fs met e).map Prod.fst) d ∧ RowT fs ((grow (stp m o) fs met e).map Prod.fst) (stp m o e.1) row := by
  suffices h : Sat (m_add_rows P m o e.1) fun x => ∃ d row, x = ((), D_Pairs.mk fs ((grow (stp m o) fs met e).map Prod.fst) d (P.step ++ [row]) (P.gain ++ [fs.map fun f => (f, gnp m o e.1 f)]) (P.end_ ++ [edp m o e.1])) ∧
      Tab ((grow (stp m o) fs met e).map Prod.fst) d ∧ RowT fs ((grow (stp m o) fs met e).map Prod.fst) (stp m o e.1) row by
    obtain ⟨x, e1, d, row, e2, h3⟩ := h
    exact ⟨d, row, by rw [e1, e2], h3⟩
  unfold m_add_rows
  have preJ : ∀ j, grow (stp m o) (fs.take j) met e <+: grow (stp m o) fs met e := fun j => by
    have : fs = fs.take j ++ fs.drop j := (List.take_append_drop j fs).symm
    conv => rhs; rw [this, grow_app]
    exact grow_pre _ _ _
  rw [pf]
  refine sat_bind (sat_foldOn (fun j (s : D_Pairs × List (Str × Int)) => s.1.facts = fs ∧ s.1.pairs = (grow (stp m o) (fs.take j) met e).map Prod.fst ∧ s.1.pairs.Nodup ∧ Tab s.1.pairs s.1.places ∧ s.1.step = P.step ∧ s.1.gain = P.gain ∧ s.1.end_ = P.end_ ∧
      RowP fs j (fun _ => True) s.2 ∧ ∀ f ∈ fs.take j, ∃ i : Nat, aget s.2 f = some (i : Int) ∧ s.1.pairs[i]? = some (stp m o e.1 f))
    ⟨rfl, pm, nd, T, rfl, rfl, rfl, ⟨rfl, fun _ h => nomatch h⟩, by simp⟩ fun j s y hy ⟨a1, a2, a3, a4, a5, a6, a7, a8, a9⟩ => ?_) fun s ⟨a1, a2, a3, a4, a5, a6, a7, a8, a9⟩ => ?_
  · have hyf := List.mem_of_getElem? hy
    refine sat_bind (sat_eq (next_eq M O hp hyf) (P := fun x => x = stp m o e.1 y) rfl) fun x ex => ?_
    subst ex
    have gj : (grow (stp m o) (fs.take (j + 1)) met e).map Prod.fst = pin s.1.pairs (stp m o e.1 y) := by
      rw [take_snoc hy, grow_app, a2]
      exact ins_pin
    have lj := (preJ (j + 1)).length_le
    obtain ⟨i, d', e1, e2, e3⟩ := place_eq (key := stp m o e.1 y) a4 a3 (by rw [← gj, List.length_map]; omega)
    refine sat_bind (sat_eq e1 (P := fun x => x = ((i : Int), pin s.1.pairs (stp m o e.1 y), d')) rfl) fun x ex => ?_
    subst ex
    refine sat_grd (by have := a8.len; unfold Sm; omega) (sat_some ⟨a1, gj.symm, pin_nd a3, e2, a5, a6, a7, a8.put hf hy trivial, fun f hff => ?_⟩)
    rw [take_snoc hy] at hff
    by_cases ef : y = f
    · subst ef
      exact ⟨i, aget_put, e3⟩
    · rcases List.mem_append.mp hff with hff | hff
      · obtain ⟨k, k1, k2⟩ := a9 f hff
        exact ⟨k, by show aget (aput s.2 y _) f = _; rw [aget_put_ne ef]; exact k1, pre_at (pin_pre _ _) k2⟩
      · exact absurd (List.mem_singleton.mp hff).symm ef
  · rw [List.take_length] at a2 a9
    have ef : s.1.facts = fs := a1
    refine sat_grd (by rw [a5]; exact l1) (sat_grd (by rw [ef]; unfold Sm; omega) ?_)
    rw [ef]
    refine sat_bind (sat_eq (dicC_eq (g := fun f => (f, gnp m o e.1 f)) fun f hff => by rw [gah_eq M O hp hff]; rfl) (P := fun x => x = fs.map fun f => (f, gnp m o e.1 f)) ?_) fun x ex => ?_
    · rw [aput_fresh (g := fun f => (f, gnp m o e.1 f)) (by simpa using hf)]
      rfl
    subst ex
    refine sat_grd (by rw [a6]; exact l2) ?_
    refine sat_bind (sat_eq (eah_eq M O hp) (P := fun x => x = edp m o e.1) rfl) fun x ex => ?_
    subst ex
    refine sat_grd (by rw [a7]; exact l3) (sat_some ⟨s.1.places, s.2, ?_, ?_, a8.full.1, ?_⟩)
    · rw [a2, a5, a6, a7]
    · rw [← a2]
      exact a4
    · rw [← a2]
      exact a9
structure PairsOk (fs : List Str) (m o : D_Machine) (bs : List (Int × Int)) (r : List (Ent (Int × Int))) (P : D_Pairs) : Prop where
  facts : P.facts = fs
  bfs : Bfs (stp m o) fs 0 (beg bs) r
  pairs : P.pairs = r.map Prod.fst
  tab : Tab P.pairs P.places
  stepL : P.step.length = r.length
  gainL : P.gain.length = r.length
  endL : P.end_.length = r.length
  step : ∀ (i : Nat) p, P.pairs[i]? = some p → ∃ row, P.step[i]? = some row ∧ RowT fs P.pairs (stp m o p) row
  gain : ∀ (i : Nat) p, P.pairs[i]? = some p → P.gain[i]? = some (fs.map fun f => (f, gnp m o p f))
  end_ : ∀ (i : Nat) p, P.pairs[i]? = some p → P.end_[i]? = some (edp m o p)
  inn : ∀ p ∈ P.pairs, InP m o p
  le : r.length ≤ m.leave.length * o.leave.length
theorem sat_pairs {fs : List Str} {N B N' B' : Nat} {m o : D_Machine} (M : MachOk fs N B m) (O : MachOk fs N' B' o) (hf : fs.Nodup) (hfl : fs.length ≤ 1000) (hN : m.leave.length * o.leave.length ≤ 15000)
    {bs : List (Int × Int)} (hbs : ∀ b ∈ bs, InP m o b) : Sat (m_Pairs_init m o bs) fun P => ∃ r, PairsOk fs m o (uq bs) r P := by
  have hUn : ∀ q ∈ univ m o, ∀ f ∈ fs, stp m o q f ∈ univ m o := fun q hq f hff => mem_univ.mpr (stp_in M O (mem_univ.mp hq) hff)
  have hB : ∀ e ∈ beg (uq bs), e.1 ∈ univ m o := fun e he => by
    obtain ⟨b, hb, rfl⟩ := List.mem_map.mp he
    exact mem_univ.mpr (hbs b (uq_mem.mp hb))
  have ndB : ((beg (uq bs)).map Prod.fst).Nodup := by rw [beg_fst]; exact uq_nd
  obtain ⟨r, hr⟩ := bfs_ex (step := stp m o) (fs := fs) hUn (i := 0) (Nat.zero_le _) ndB hB
  have rU : ∀ e ∈ r, e.1 ∈ univ m o := hr.all (step := stp m o) (Q := fun e => e.1 ∈ univ m o) (fun e he f hff => show stp m o e.1 f ∈ univ m o from hUn _ he f hff) hB
  have rnd := hr.nd ndB
  have rl : r.length ≤ m.leave.length * o.leave.length := by
    have := nd_le rnd fun x hx => by
      obtain ⟨e, he, rfl⟩ := List.mem_map.mp hx
      exact rU e he
    rwa [List.length_map, len_univ] at this
  unfold m_Pairs_init
  rw [if_neg (by rw [M.facts, O.facts]; simp)]
  refine sat_bind (sat_foldOn (fun j (s : D_Pairs) => s.facts = fs ∧ s.pairs = (bs.take j).foldl pin [] ∧ Tab s.pairs s.places ∧ s.step = [] ∧ s.gain = [] ∧ s.end_ = []) ⟨M.facts, rfl, Tab.nil, rfl, rfl, rfl⟩ fun j s y hy ⟨a1, a2, a3, a4, a5, a6⟩ => ?_) fun s ⟨a1, a2, a3, a4, a5, a6⟩ => ?_
  · have e1 : (bs.take (j + 1)).foldl pin [] = pin s.pairs y := by
      rw [take_snoc hy, List.foldl_append, a2]
      rfl
    have nd : s.pairs.Nodup := by rw [a2]; exact uq_nd
    have nd1 : (pin s.pairs y).Nodup := pin_nd nd
    have ll : (pin s.pairs y).length ≤ 15000 := by
      refine Nat.le_trans (nd_le (U := univ m o) nd1 fun x hx => ?_) (by rw [len_univ]; exact hN)
      rw [← e1] at hx
      exact mem_univ.mpr (hbs x (List.mem_of_mem_take (uq_mem.mp hx)))
    obtain ⟨i, d', q1, q2, q3⟩ := place_eq a3 nd ll
    refine sat_bind (sat_eq q1 (P := fun x => x = ((i : Int), pin s.pairs y, d')) rfl) fun x ex => ?_
    subst ex
    exact sat_some ⟨a1, e1.symm, q2, a4, a5, a6⟩
  rw [List.take_length] at a2
  have a2 : s.pairs = uq bs := a2
  have P0 : s.pairs = (beg (uq bs)).map Prod.fst := by rw [beg_fst]; exact a2
  obtain ⟨w, e1, h1⟩ := sat_whileX (ρ := O_Pairs_init) (S := D_Pairs)
    (c := fun (s7 : D_Pairs) => ((m_Pairs_manyR (D_Pairs.mk s7.facts s7.pairs s7.places s7.step s7.gain s7.end_)).bind fun t8 => some ((decide (t8 < ((s7.pairs).length : Int))), s7)))
    (f := fun (s7 : D_Pairs) => ((m_Pairs_manyR (D_Pairs.mk s7.facts s7.pairs s7.places s7.step s7.gain s7.end_)).bind fun t9 => (atI s7.pairs t9).bind fun t10 => (m_add_rows (D_Pairs.mk s7.facts s7.pairs s7.places s7.step s7.gain s7.end_) m o t10).bind fun t11 => some (Oc.nx ((D_Pairs.mk t11.2.facts t11.2.pairs t11.2.places t11.2.step t11.2.gain t11.2.end_)))))
    (I := fun s => s.facts = fs ∧ ∃ met, Bfs (stp m o) fs s.end_.length met r ∧ s.pairs = met.map Prod.fst ∧ Tab s.pairs s.places ∧ s.step.length = s.end_.length ∧ s.gain.length = s.end_.length ∧
      (∀ (i : Nat) p, i < s.end_.length → s.pairs[i]? = some p → ∃ row, s.step[i]? = some row ∧ RowT fs s.pairs (stp m o p) row) ∧
      (∀ (i : Nat) p, i < s.end_.length → s.pairs[i]? = some p → s.gain[i]? = some (fs.map fun f => (f, gnp m o p f))) ∧
      (∀ (i : Nat) p, i < s.end_.length → s.pairs[i]? = some p → s.end_[i]? = some (edp m o p)))
    (μ := fun s => r.length - s.end_.length)
    (D := fun w => ∃ P, w = Oc.nx P ∧ PairsOk fs m o (uq bs) r P) (fun s ⟨b1, met, b2, b3, b4, b5, b6, b7, b8, b9⟩ => by
      refine ⟨decide ((s.end_.length : Int) < s.pairs.length), rfl, fun hf2 => ?_, fun ht => ?_⟩
      · have := of_decide_eq_false hf2
        have pl : s.pairs.length = met.length := by rw [b3, List.length_map]
        have hle := b2.le
        have e2 := b2.end_ (by omega)
        subst e2
        have el : s.end_.length = met.length := by omega
        have lt : ∀ {i : Nat} {p : Int × Int}, s.pairs[i]? = some p → i < s.end_.length := fun h => by
          have := at_lt h
          omega
        exact ⟨s, rfl, b1, hr, b3, b4, by omega, by omega, el, fun i p h => b7 i p (lt h) h, fun i p h => b8 i p (lt h) h, fun i p h => b9 i p (lt h) h, fun p hp => by
          rw [b3] at hp
          obtain ⟨e, he, rfl⟩ := List.mem_map.mp hp
          exact mem_univ.mp (rU e he), rl⟩
      · have hlt := of_decide_eq_true ht
        have pl : s.pairs.length = met.length := by rw [b3, List.length_map]
        obtain ⟨e, he⟩ := at_ex (xs := met) (i := s.end_.length) (by omega)
        have hp : s.pairs[s.end_.length]? = some e.1 := by rw [b3, List.getElem?_map, he]; rfl
        have b2' := b2.at he
        have metr := b2.pre
        have gr := b2'.pre
        have hin : InP m o e.1 := mem_univ.mp (rU e (metr.subset (List.mem_of_getElem? he)))
        have mnd : s.pairs.Nodup := by
          rw [b3]
          exact (metr.sublist.map Prod.fst).nodup rnd
        have gl := gr.length_le
        have ml := metr.length_le
        obtain ⟨d, row, q1, q2, q3⟩ := add_eq (P := D_Pairs.mk s.facts s.pairs s.places s.step s.gain s.end_) M O hf hfl b1 b3 b4 mnd hin (by omega) (by show s.step.length ≤ _; omega) (by show s.gain.length ≤ _; omega) (by show s.end_.length ≤ _; omega)
        have gp := grow_pre (step := stp m o) e fs met
        have gpm : s.pairs <+: (grow (stp m o) fs met e).map Prod.fst := by
          rw [b3]
          exact gp.map Prod.fst
        refine ⟨Oc.nx (D_Pairs.mk fs ((grow (stp m o) fs met e).map Prod.fst) d (s.step ++ [row]) (s.gain ++ [fs.map fun f => (f, gnp m o e.1 f)]) (s.end_ ++ [edp m o e.1])), ?_, ?_⟩
        · show (m_Pairs_manyR _).bind _ = _
          unfold m_Pairs_manyR
          show (atI s.pairs (s.end_.length : Int)).bind _ = _
          rw [atI_at hp]
          show (m_add_rows _ m o e.1).bind _ = _
          rw [q1]
          rfl
        refine ⟨⟨rfl, grow (stp m o) fs met e, ?_, rfl, q2, ?_, ?_, fun i p hi hip => ?_, fun i p hi hip => ?_, fun i p hi hip => ?_⟩, ?_⟩
        · rw [List.length_append]
          exact b2'
        · rw [List.length_append, List.length_append, b5]
          rfl
        · rw [List.length_append, List.length_append, b6]
          rfl
        · have hi : i < (s.end_ ++ [_]).length := hi
          rw [List.length_append, List.length_singleton] at hi
          by_cases hie : i = s.end_.length
          · subst hie
            rw [pre_at gpm hp] at hip
            cases hip
            exact ⟨row, by show (s.step ++ [row])[s.end_.length]? = _; rw [← b5]; exact at_snoc, q3⟩
          · have hip2 : s.pairs[i]? = some p := by
              obtain ⟨x, hx⟩ := at_ex (xs := s.pairs) (i := i) (by omega)
              rw [hx]
              exact (pre_at gpm hx).symm.trans hip
            obtain ⟨row2, w1, w2⟩ := b7 i p (by omega) hip2
            exact ⟨row2, pre_at (List.prefix_append _ _) w1, w2.pre gpm⟩
        · have hi : i < (s.end_ ++ [_]).length := hi
          rw [List.length_append, List.length_singleton] at hi
          by_cases hie : i = s.end_.length
          · subst hie
            rw [pre_at gpm hp] at hip
            cases hip
            show (s.gain ++ [_])[s.end_.length]? = _
            rw [← b6]
            exact at_snoc
          · have hip2 : s.pairs[i]? = some p := by
              obtain ⟨x, hx⟩ := at_ex (xs := s.pairs) (i := i) (by omega)
              rw [hx]
              exact (pre_at gpm hx).symm.trans hip
            exact pre_at (List.prefix_append _ _) (b8 i p (by omega) hip2)
        · have hi : i < (s.end_ ++ [_]).length := hi
          rw [List.length_append, List.length_singleton] at hi
          by_cases hie : i = s.end_.length
          · subst hie
            rw [pre_at gpm hp] at hip
            cases hip
            exact at_snoc
          · have hip2 : s.pairs[i]? = some p := by
              obtain ⟨x, hx⟩ := at_ex (xs := s.pairs) (i := i) (by omega)
              rw [hx]
              exact (pre_at gpm hx).symm.trans hip
            exact pre_at (List.prefix_append _ _) (b9 i p (by omega) hip2)
        · show r.length - (s.end_ ++ [_]).length < r.length - s.end_.length
          rw [List.length_append, List.length_singleton]
          omega) (s0 := D_Pairs.mk s.facts s.pairs s.places s.step s.gain s.end_) ⟨a1, beg (uq bs), by show Bfs _ _ s.end_.length _ _; rw [a6]; exact hr, P0, a3, by show s.step.length = s.end_.length; rw [a4, a6]; rfl, by show s.gain.length = s.end_.length; rw [a5, a6]; rfl,
        fun i p hi => by have hi : i < s.end_.length := hi; rw [a6] at hi; exact absurd hi (Nat.not_lt_zero _), fun i p hi => by have hi : i < s.end_.length := hi; rw [a6] at hi; exact absurd hi (Nat.not_lt_zero _), fun i p hi => by have hi : i < s.end_.length := hi; rw [a6] at hi; exact absurd hi (Nat.not_lt_zero _)⟩
  obtain ⟨P, rfl, hP⟩ := h1
  refine sat_bind (sat_eq e1 (P := fun x => x = Oc.nx P) rfl) fun x ex => ?_
  subst ex
  exact sat_some ⟨r, hP⟩
/-! ### the ways by which places are met first -/
def stI (step : List (List (Str × Int))) (i : Int) (f : Str) : Int := (aget (rowAt step i) f).getD 0
structure StepOk (fs : List Str) (step : List (List (Str × Int))) : Prop where
  row : ∀ i : Int, 0 ≤ i ∧ i < (step.length : Int) → atI step i = some (rowAt step i)
  get : ∀ i : Int, 0 ≤ i ∧ i < (step.length : Int) → ∀ f ∈ fs, aget (rowAt step i) f = some (stI step i f) ∧ 0 ≤ stI step i f ∧ stI step i f < (step.length : Int)
structure WaysOk (fs : List Str) (step : List (List (Str × Int))) (met : List (Ent Int)) (w : List (Int × (Option (Int × Str)))) : Prop where
  keys : w.map Prod.fst = met.map Prod.fst
  way : ∀ e ∈ met, (e.2.2 = [] ∧ e.2.1 = e.1 ∧ aget w e.1 = some none) ∨ ∃ e' ∈ met, ∃ f, f ∈ fs ∧ e = nxt (stI step) e' f ∧ aget w e.1 = some (some (e'.1, f))
theorem WaysOk.add {fs : List Str} {step : List (List (Str × Int))} {met : List (Ent Int)} {w : List (Int × (Option (Int × Str)))} (W : WaysOk fs step met w) {e : Ent Int} (he : e ∈ met) {f : Str} (hf : f ∈ fs) (hn : stI step e.1 f ∉ met.map Prod.fst) :
    WaysOk fs step (met ++ [nxt (stI step) e f]) (aput w (stI step e.1 f) (some (e.1, f))) := by
  constructor
  · rw [aput_new (by rw [W.keys]; exact hn), List.map_append, List.map_append, W.keys]
    rfl
  · intro x hx
    rcases List.mem_append.mp hx with hx | hx
    · have hne : stI step e.1 f ≠ x.1 := fun z => hn (z ▸ List.mem_map_of_mem hx)
      rcases W.way x hx with ⟨h1, h2, h3⟩ | ⟨e', h1, g, h2, h3, h4⟩
      · exact .inl ⟨h1, h2, by rw [aget_put_ne hne]; exact h3⟩
      · exact .inr ⟨e', List.mem_append_left _ h1, g, h2, h3, by rw [aget_put_ne hne]; exact h4⟩
    · rw [List.mem_singleton.mp hx]
      exact .inr ⟨e, List.mem_append_left _ he, f, hf, rfl, aget_put⟩
theorem sat_ways {fs : List Str} {step : List (List (Str × Int))} (S : StepOk fs step) (hl : step.length ≤ 15000) {bs : List Int} (hn : bs.Nodup) (hb : ∀ b ∈ bs, 0 ≤ b ∧ b < (step.length : Int)) :
    Sat (m_first_ways fs step bs) fun w => ∃ r, Bfs (stI step) fs 0 (beg bs) r ∧ WaysOk fs step r w ∧ r.length ≤ step.length := by
  have memU : ∀ {x : Int}, x ∈ (List.range step.length).map Int.ofNat ↔ 0 ≤ x ∧ x < (step.length : Int) := fun {x} => by
    rw [List.mem_map]
    constructor
    · rintro ⟨a, ha, rfl⟩
      have := List.mem_range.mp ha
      exact ⟨Int.natCast_nonneg a, by show (a : Int) < _; omega⟩
    · rintro ⟨h1, h2⟩
      exact ⟨x.toNat, List.mem_range.mpr (by omega), by show ((x.toNat : Nat) : Int) = x; omega⟩
  have hUn : ∀ q ∈ (List.range step.length).map Int.ofNat, ∀ f ∈ fs, stI step q f ∈ (List.range step.length).map Int.ofNat := fun q hq f hf => memU.mpr (S.get q (memU.mp hq) f hf).2
  have hB : ∀ e ∈ beg bs, e.1 ∈ (List.range step.length).map Int.ofNat := fun e he => by
    obtain ⟨b, hbb, rfl⟩ := List.mem_map.mp he
    exact memU.mpr (hb b hbb)
  have ndB : ((beg bs).map Prod.fst).Nodup := by rw [beg_fst]; exact hn
  obtain ⟨r, hr⟩ := bfs_ex (step := stI step) (fs := fs) hUn (i := 0) (Nat.zero_le _) ndB hB
  have rU : ∀ e ∈ r, e.1 ∈ (List.range step.length).map Int.ofNat := hr.all (step := stI step) (Q := fun e => e.1 ∈ (List.range step.length).map Int.ofNat) (fun e he f hff => show stI step e.1 f ∈ _ from hUn _ he f hff) hB
  have rnd := hr.nd ndB
  have rl : r.length ≤ step.length := by
    have := nd_le rnd fun x hx => by
      obtain ⟨e, he, rfl⟩ := List.mem_map.mp hx
      exact rU e he
    rwa [List.length_map, List.length_map, List.length_range] at this
  have bl : bs.length ≤ step.length := by
    have := hr.pre.length_le
    unfold beg at this
    rw [List.length_map] at this
    omega
  unfold m_first_ways
  refine sat_grd (by unfold Sm; omega) ?_
  refine sat_bind (sat_eq (dicC_eq (g := fun b => (b, (none : Option (Int × Str)))) fun b _ => rfl) (P := fun x => x = bs.map fun b => (b, (none : Option (Int × Str)))) ?_) fun x ex => ?_
  · rw [aput_fresh (g := fun b => (b, (none : Option (Int × Str)))) (by simpa using hn)]
    rfl
  subst ex
  have W0 : WaysOk fs step (beg bs) (bs.map fun b => (b, (none : Option (Int × Str)))) := by
    constructor
    · rw [beg_fst, List.map_map]
      simp [Function.comp_def]
    · intro e he
      obtain ⟨b, hbb, rfl⟩ := List.mem_map.mp he
      refine .inl ⟨rfl, rfl, ?_⟩
      obtain ⟨i, hi⟩ := List.mem_iff_getElem?.mp hbb
      refine aget_at (i := i) (by rw [List.map_map]; simpa [Function.comp_def] using hn) ?_
      rw [List.getElem?_map, hi]
      rfl
  obtain ⟨w, e1, h1⟩ := sat_whileX (ρ := O_first_ways) (S := (List (Int × (Option (Int × Str)))) × (List Int) × Int)
    (c := fun (s4 : (List (Int × (Option (Int × Str)))) × (List Int) × Int) => (some ((decide (s4.2.2 < ((s4.2.1).length : Int))), s4)))
    (f := fun (s4 : (List (Int × (Option (Int × Str)))) × (List Int) × Int) => ((foldO (S := (List (Int × (Option (Int × Str)))) × (List Int)) (fun (s5 : (List (Int × (Option (Int × Str)))) × (List Int)) (y6 : Str) => ((atI s5.2 s4.2.2).bind fun t7 => (atI step t7).bind fun t8 => (aget t8 y6).bind fun t9 => ((if (!(ahas s5.1 t9)) = true then ((atI s5.2 s4.2.2).bind fun t12 => (grd (Sm (s5.1).length) ()).bind fun g13 => ((grd (Sm (s5.2).length) ()).bind fun g14 => some ((aput s5.1 t9 (some (t12, y6))), (s5.2 ++ [t9])))) else some (s5.1, s5.2) : Option ((List (Int × (Option (Int × Str)))) × (List Int))).bind fun j11 => some (j11.1, j11.2)))) (s4.1, s4.2.1) fs).bind fun j15 => ((some (s4.2.2 + (1 : Int))).bind fun looked_17 => some (Oc.nx (j15.1, j15.2, looked_17)))))
    (I := fun s => 0 ≤ s.2.2 ∧ ∃ met, Bfs (stI step) fs s.2.2.toNat met r ∧ s.2.1 = met.map Prod.fst ∧ WaysOk fs step met s.1)
    (μ := fun s => r.length - s.2.2.toNat)
    (D := fun w => ∃ s, w = Oc.nx s ∧ WaysOk fs step r s.1) (fun s ⟨b0, met, b1, b2, b3⟩ => by
      have pl : s.2.1.length = met.length := by rw [b2, List.length_map]
      refine ⟨decide (s.2.2 < (s.2.1.length : Int)), rfl, fun hf2 => ?_, fun ht => ?_⟩
      · have := of_decide_eq_false hf2
        have e2 := b1.end_ (by omega)
        subst e2
        exact ⟨s, rfl, b3⟩
      · have hlt := of_decide_eq_true ht
        obtain ⟨e, he⟩ := at_ex (xs := met) (i := s.2.2.toNat) (by omega)
        have hem := List.mem_of_getElem? he
        have b1' := b1.at he
        have gl := b1'.pre.length_le
        have metr := b1.pre
        have hin : 0 ≤ e.1 ∧ e.1 < (step.length : Int) := memU.mp (rU e (metr.subset hem))
        have preJ : ∀ j, grow (stI step) (fs.take j) met e <+: grow (stI step) fs met e := fun j => by
          have : fs = fs.take j ++ fs.drop j := (List.take_append_drop j fs).symm
          conv => rhs; rw [this, show grow (stI step) (fs.take j ++ fs.drop j) met e = grow (stI step) (fs.drop j) (grow (stI step) (fs.take j) met e) e from List.foldl_append ..]
          exact grow_pre _ _ _
        have fold : Sat (foldO (S := (List (Int × (Option (Int × Str)))) × (List Int)) (fun (s5 : (List (Int × (Option (Int × Str)))) × (List Int)) (y6 : Str) => ((atI s5.2 s.2.2).bind fun t7 => (atI step t7).bind fun t8 => (aget t8 y6).bind fun t9 => ((if (!(ahas s5.1 t9)) = true then ((atI s5.2 s.2.2).bind fun t12 => (grd (Sm (s5.1).length) ()).bind fun g13 => ((grd (Sm (s5.2).length) ()).bind fun g14 => some ((aput s5.1 t9 (some (t12, y6))), (s5.2 ++ [t9])))) else some (s5.1, s5.2) : Option ((List (Int × (Option (Int × Str)))) × (List Int))).bind fun j11 => some (j11.1, j11.2)))) (s.1, s.2.1) fs)
            fun q => q.2 = (grow (stI step) fs met e).map Prod.fst ∧ WaysOk fs step (grow (stI step) fs met e) q.1 := by
          refine sat_mono (sat_foldOn (fun j (q : (List (Int × (Option (Int × Str)))) × (List Int)) => q.2 = (grow (stI step) (fs.take j) met e).map Prod.fst ∧ WaysOk fs step (grow (stI step) (fs.take j) met e) q.1) ⟨b2, b3⟩ fun j q y hy ⟨q1, q2⟩ => ?_) fun q hq => by rw [List.take_length] at hq; exact hq
          have hyf := List.mem_of_getElem? hy
          have gj : grow (stI step) (fs.take (j + 1)) met e = ins (grow (stI step) (fs.take j) met e) (nxt (stI step) e y) := by
            have h1 : fs.take (j + 1) = fs.take j ++ [y] := by
              obtain ⟨h1, h2⟩ := List.getElem?_eq_some_iff.mp hy
              rw [List.take_succ_eq_append_getElem h1, h2]
            rw [h1]
            exact List.foldl_append ..
          have gpj := grow_pre (step := stI step) e (fs.take j) met
          have aq : atI q.2 s.2.2 = some e.1 := by
            have h3 : q.2[s.2.2.toNat]? = some e.1 := by
              rw [q1, List.getElem?_map, pre_at gpj he]
              rfl
            have := atI_at h3
            rwa [Int.toNat_of_nonneg b0] at this
          obtain ⟨g1, g2, g3⟩ := S.get e.1 hin y hyf
          rw [aq]
          show Sat (((atI step e.1).bind _)) _
          rw [S.row e.1 hin]
          show Sat (((aget (rowAt step e.1) y).bind _)) _
          rw [g1]
          show Sat (Option.bind (if _ then _ else _) _) _
          have lj := (preJ (j + 1)).length_le
          have lq : q.2.length = (grow (stI step) (fs.take j) met e).length := by rw [q1, List.length_map]
          have lw : q.1.length = (grow (stI step) (fs.take j) met e).length := by
            have := congrArg List.length q2.keys
            rwa [List.length_map, List.length_map] at this
          by_cases hm : stI step e.1 y ∈ (grow (stI step) (fs.take j) met e).map Prod.fst
          · have h4 : ahas q.1 (stI step e.1 y) = true := ahas_iff.mpr (by rw [q2.keys]; exact hm)
            have h5 : ins (grow (stI step) (fs.take j) met e) (nxt (stI step) e y) = grow (stI step) (fs.take j) met e := if_pos hm
            rw [gj, h5, if_neg (by rw [h4]; decide)]
            exact sat_some ⟨q1, q2⟩
          · have h4 : ahas q.1 (stI step e.1 y) = false := by
              cases z : ahas q.1 (stI step e.1 y) with
              | false => rfl
              | true => exact absurd (by rw [← q2.keys]; exact ahas_iff.mp z) hm
            have h5 : ins (grow (stI step) (fs.take j) met e) (nxt (stI step) e y) = grow (stI step) (fs.take j) met e ++ [nxt (stI step) e y] := if_neg hm
            have l5 := congrArg List.length (gj.trans h5)
            rw [List.length_append, List.length_singleton] at l5
            rw [gj, h5, if_pos (by rw [h4]; rfl), grd_t (show Sm q.1.length by unfold Sm; omega)]
            show Sat (((grd (Sm q.2.length) ()).bind _).bind _) _
            rw [grd_t (show Sm q.2.length by unfold Sm; omega)]
            exact sat_some ⟨by rw [List.map_append, ← q1]; rfl, q2.add (gpj.subset hem) hyf hm⟩
        obtain ⟨q, eq, q1, q2⟩ := fold
        refine ⟨Oc.nx (q.1, q.2, s.2.2 + 1), by rw [eq]; rfl, ⟨?_, grow (stI step) fs met e, ?_, q1, q2⟩, ?_⟩
        · show 0 ≤ s.2.2 + 1
          omega
        · have : (s.2.2 + 1).toNat = s.2.2.toNat + 1 := by omega
          show Bfs _ _ (s.2.2 + 1).toNat _ _
          rw [this]
          exact b1'
        · show r.length - (s.2.2 + 1).toNat < r.length - s.2.2.toNat
          have := metr.length_le
          omega) (s0 := (bs.map fun b => (b, (none : Option (Int × Str))), bs, 0)) ⟨Int.le_refl _, beg bs, hr, beg_fst.symm, W0⟩
  obtain ⟨s, rfl, hW⟩ := h1
  refine sat_bind (sat_eq e1 (P := fun x => x = Oc.nx s) rfl) fun x ex => ?_
  subst ex
  exact sat_some ⟨r, hr, hW, rl⟩
theorem career_eq {fs : List Str} {step : List (List (Str × Int))} {r : List (Ent Int)} {w : List (Int × (Option (Int × Str)))} (W : WaysOk fs step r w) {e : Ent Int} (he : e ∈ r) (hl : e.2.2.length ≤ 15000) : m_career_to w e.1 = some (e.2.1, e.2.2) := by
  obtain ⟨o, e1, h1⟩ := sat_whileX (ρ := O_career_to) (S := Int × (List Str))
    (c := fun (s1 : Int × (List Str)) => ((aget w s1.1).bind fun t2 => some ((t2).isSome, s1)))
    (f := fun (s1 : Int × (List Str)) => ((aget w s1.1).bind fun t3 => t3.bind fun t4 => ((grd (Sm (s1.2).length) ()).bind fun g5 => some (Oc.nx (t4.1, (s1.2 ++ [t4.2]))))))
    (I := fun s => ∃ e' ∈ r, e'.1 = s.1 ∧ e'.2.2 ++ s.2.reverse = e.2.2 ∧ e'.2.1 = e.2.1)
    (μ := fun s => e.2.2.length - s.2.length)
    (D := fun o => o = Oc.nx (e.2.1, e.2.2.reverse)) (fun s ⟨e', h1, h2, h3, h4⟩ => by
      have hl3 := congrArg List.length h3
      rw [List.length_append, List.length_reverse] at hl3
      rcases W.way e' h1 with ⟨k1, k2, k3⟩ | ⟨x, k1, f, k2, k3, k4⟩
      · refine ⟨false, by rw [← h2, k3]; rfl, fun _ => ?_, fun h => nomatch h⟩
        rw [k1, List.nil_append] at h3
        show Oc.nx s = _
        rw [← h3, ← h4, k2, h2, List.reverse_reverse]
      · refine ⟨true, by rw [← h2, k4]; rfl, (fun h => nomatch h), fun _ => ⟨Oc.nx (x.1, s.2 ++ [f]), ?_, ⟨x, k1, rfl, ?_, ?_⟩, ?_⟩⟩
        · rw [← h2, k4]
          show (grd (Sm s.2.length) ()).bind _ = _
          rw [grd_t (show Sm s.2.length by unfold Sm; omega)]
          rfl
        · rw [k3] at h3
          have h3 : (x.2.2 ++ [f]) ++ s.2.reverse = e.2.2 := h3
          rw [← h3]
          simp
        · rw [k3] at h4
          exact h4
        · rw [k3] at hl3
          have hl3 : (x.2.2 ++ [f]).length + s.2.length = e.2.2.length := hl3
          rw [List.length_append, List.length_singleton] at hl3
          show e.2.2.length - (s.2 ++ [f]).length < e.2.2.length - s.2.length
          rw [List.length_append, List.length_singleton]
          omega) (s0 := (e.1, ([] : List Str))) ⟨e, he, rfl, by simp, rfl⟩
  subst h1
  unfold m_career_to
  rw [e1]
  show some (e.2.1, e.2.2.reverse.reverse) = _
  rw [List.reverse_reverse]
/-! ### the pairs as places -/
theorem RowT.nat {fs : List Str} {P : D_Pairs} {nx : Str → Int × Int} {row : List (Str × Int)} (h : RowT fs P.pairs nx row) {f : Str} (hf : f ∈ fs) : ∃ j : Nat, aget row f = some (j : Int) ∧ P.pairs[j]? = some (nx f) := h.2 f hf
section
variable {fs : List Str} {m o : D_Machine} {bs : List (Int × Int)} {r : List (Ent (Int × Int))} {P : D_Pairs} (K : PairsOk fs m o bs r P)
include K
theorem PairsOk.len : P.pairs.length = r.length := by rw [K.pairs, List.length_map]
theorem PairsOk.at_ {i : Nat} {e : Ent (Int × Int)} (h : r[i]? = some e) : P.pairs[i]? = some e.1 := by rw [K.pairs, List.getElem?_map, h]; rfl
theorem PairsOk.stepAt {i : Nat} {p : Int × Int} (h : P.pairs[i]? = some p) {f : Str} (hf : f ∈ fs) : ∃ j : Nat, atI P.step i = some (rowAt P.step i) ∧ aget (rowAt P.step i) f = some (j : Int) ∧ stI P.step i f = j ∧ P.pairs[j]? = some (stp m o p f) := by
  obtain ⟨row, h1, h2⟩ := K.step i p h
  obtain ⟨j, h3, h4⟩ := h2.2 f hf
  have e : rowAt P.step i = row := by
    unfold rowAt
    rw [atI_at h1]
    rfl
  refine ⟨j, by rw [e]; exact atI_at h1, by rw [e]; exact h3, ?_, h4⟩
  unfold stI
  rw [e, h3]
  rfl
theorem PairsOk.stepOk : StepOk fs P.step := by
  have nn : ∀ i : Int, 0 ≤ i ∧ i < (P.step.length : Int) → ∃ (n : Nat) (p : Int × Int), i = n ∧ P.pairs[n]? = some p := fun i hi => by
    have := K.len
    have := K.stepL
    obtain ⟨p, hp⟩ := at_ex (xs := P.pairs) (i := i.toNat) (by omega)
    exact ⟨i.toNat, p, by omega, hp⟩
  constructor
  · intro i hi
    obtain ⟨n, p, rfl, hp⟩ := nn i hi
    obtain ⟨row, h1, h2⟩ := K.step n p hp
    unfold rowAt
    rw [atI_at h1]
    rfl
  · intro i hi f hf
    obtain ⟨n, p, rfl, hp⟩ := nn i hi
    obtain ⟨j, h1, h2, h3, h4⟩ := K.stepAt hp hf
    have := at_lt h4
    have := K.len
    have := K.stepL
    exact ⟨by rw [h2, h3], by rw [h3]; omega, by rw [h3]; omega⟩
theorem PairsOk.gainAt (hn : fs.Nodup) {i : Nat} {p : Int × Int} (h : P.pairs[i]? = some p) {f : Str} (hf : f ∈ fs) : atI P.gain i = some (fs.map fun f => (f, gnp m o p f)) ∧ aget (fs.map fun f => (f, gnp m o p f)) f = some (gnp m o p f) := by
  refine ⟨atI_at (K.gain i p h), ?_⟩
  obtain ⟨j, hj⟩ := List.mem_iff_getElem?.mp hf
  refine aget_at (i := j) (by rw [List.map_map]; simpa [Function.comp_def] using hn) ?_
  rw [List.getElem?_map, hj]
  rfl
theorem PairsOk.endAt {i : Nat} {p : Int × Int} (h : P.pairs[i]? = some p) : atI P.end_ i = some (edp m o p) := atI_at (K.end_ i p h)
theorem PairsOk.nodup (hb : bs.Nodup) : P.pairs.Nodup := by
  rw [K.pairs]
  exact K.bfs.nd (by rw [beg_fst]; exact hb)
/-- the ways from the places of the beginnings -/
theorem PairsOk.ways (hf : fs.Nodup) (hb : bs.Nodup) {js : List Int} (hj : js.map (fun j => (atI P.pairs j).getD (0, 0)) = bs) (hjr : ∀ j ∈ js, 0 ≤ j ∧ j < (P.pairs.length : Int)) {rI : List (Ent Int)} (h : Bfs (stI P.step) fs 0 (beg js) rI) :
    rI.length = r.length ∧ ∀ (i : Nat) (e : Ent (Int × Int)), r[i]? = some e → ∃ b : Int, b ∈ js ∧ atI P.pairs b = some e.2.1 ∧ rI[i]? = some ((i : Int), b, e.2.2) := by
  have nd := K.nodup hb
  have pl := K.len
  have sl := K.stepL
  let φ : Int → Int × Int := fun j => (atI P.pairs j).getD (0, 0)
  have U := K.stepOk
  have mem : ∀ {x : Int}, x ∈ (List.range P.pairs.length).map Int.ofNat ↔ 0 ≤ x ∧ x < (P.pairs.length : Int) := fun {x} => by
    rw [List.mem_map]
    constructor
    · rintro ⟨a, ha, rfl⟩
      have := List.mem_range.mp ha
      exact ⟨Int.natCast_nonneg a, by show (a : Int) < _; omega⟩
    · rintro ⟨h1, h2⟩
      exact ⟨x.toNat, List.mem_range.mpr (by omega), by show ((x.toNat : Nat) : Int) = x; omega⟩
  have φn : ∀ (n : Nat) (p : Int × Int), P.pairs[n]? = some p → φ n = p := fun n p hp => by
    show (atI P.pairs n).getD (0, 0) = p
    rw [atI_at hp]
    rfl
  have nat : ∀ x : Int, 0 ≤ x ∧ x < (P.pairs.length : Int) → ∃ (n : Nat) (p : Int × Int), x = n ∧ P.pairs[n]? = some p := fun i hi => by
    obtain ⟨p, hp⟩ := at_ex (xs := P.pairs) (i := i.toNat) (by omega)
    exact ⟨i.toNat, p, by omega, hp⟩
  have inj : ∀ a, 0 ≤ a ∧ a < (P.pairs.length : Int) → ∀ b, 0 ≤ b ∧ b < (P.pairs.length : Int) → φ a = φ b → a = b := fun a ha b hb e => by
    obtain ⟨n, p, rfl, hp⟩ := nat a ha
    obtain ⟨k, q, rfl, hq⟩ := nat b hb
    rw [φn n p hp, φn k q hq] at e
    subst e
    rw [nd_at nd hp hq]
  have hU : ∀ q ∈ (List.range P.pairs.length).map Int.ofNat, ∀ f ∈ fs, stI P.step q f ∈ (List.range P.pairs.length).map Int.ofNat := fun q hq f hff => by
    have := (U.get q (by have := mem.mp hq; omega) f hff).2
    exact mem.mpr (by omega)
  have hs : ∀ q ∈ (List.range P.pairs.length).map Int.ofNat, ∀ f ∈ fs, stp m o (φ q) f = φ (stI P.step q f) := fun q hq f hff => by
    obtain ⟨n, p, rfl, hp⟩ := nat q (mem.mp hq)
    obtain ⟨j, _, _, h3, h4⟩ := K.stepAt hp hff
    rw [φn n p hp, h3, φn j _ h4]
  have hm : ∀ e ∈ beg js, e.1 ∈ (List.range P.pairs.length).map Int.ofNat := fun e he => by
    obtain ⟨b, hbb, rfl⟩ := List.mem_map.mp he
    exact mem.mpr (hjr b hbb)
  have hmap := Bfs.map φ hU (fun a ha b hb => inj a (mem.mp ha) b (mem.mp hb)) hs h hm
  rw [beg_rn, hj] at hmap
  have er : r = rI.map (rn φ) := K.bfs.det hmap
  have rU : ∀ e ∈ rI, e.1 ∈ (List.range P.pairs.length).map Int.ofNat := h.all (step := stI P.step) (Q := fun e => e.1 ∈ (List.range P.pairs.length).map Int.ofNat) (fun e he f hff => show stI P.step e.1 f ∈ _ from hU _ he f hff) hm
  have rJ : ∀ e ∈ rI, e.2.1 ∈ js := h.all (step := stI P.step) (Q := fun e => e.2.1 ∈ js) (fun e he f hff => he) fun e he => by
    obtain ⟨b, hbb, rfl⟩ := List.mem_map.mp he
    exact hbb
  refine ⟨by rw [er, List.length_map], fun i e he => ?_⟩
  have he2 := he
  rw [er, List.getElem?_map] at he2
  cases hx : rI[i]? with
  | none => rw [hx] at he2; cases he2
  | some x =>
    rw [hx] at he2
    obtain rfl := Option.some.inj he2
    have hxm := List.mem_of_getElem? hx
    have hi := K.at_ he
    have e1 : x.1 = (i : Int) := by
      refine inj _ (mem.mp (rU x hxm)) _ ⟨Int.natCast_nonneg i, by have := at_lt hi; omega⟩ ?_
      rw [φn i _ hi]
      rfl
    obtain ⟨n, p, e3, hp⟩ := nat x.2.1 (hjr _ (rJ x hxm))
    refine ⟨x.2.1, rJ x hxm, ?_, ?_⟩
    · show _ = some (φ x.2.1)
      rw [e3, atI_at hp, φn n p hp]
    · rw [← e1]
      rfl
end
/-! ### a fold that may stop -/
theorem sat_foldXn {β S ρ : Type} {f : S → β → Option (Oc ρ S)} (I : Nat → S → Prop) (D : ρ → Prop) : ∀ {xs : List β} {s0 : S}, I 0 s0 → (∀ i s y, xs[i]? = some y → I i s → Sat (f s y) fun o => match o with | .nx s' => I (i + 1) s' | .ret r => D r) →
    Sat (foldX f s0 xs) fun o => match o with | .nx s' => I xs.length s' | .ret r => D r
  | [], s0, h0, _ => ⟨.nx s0, rfl, h0⟩
  | x :: xs, s0, h0, hs => by
    obtain ⟨o, e, h1⟩ := hs 0 s0 x rfl h0
    show Sat ((f s0 x).bind _) _
    rw [e]
    cases o with
    | ret r => exact ⟨.ret r, rfl, h1⟩
    | nx s' => exact sat_foldXn (fun i => I (i + 1)) D (xs := xs) h1 fun i s y hy => hs (i + 1) s y hy
/-! ### the career that tells -/
def tot (m o : D_Machine) (p : Int × Int) (c : List Str) : Int := total m p.1 c - total o p.2 c
def del (m o : D_Machine) (p : Int × Int) (f : Str) : Int := gnp m o p f + edp m o (stp m o p f) - edp m o p
theorem tot_snoc {m o : D_Machine} {f : Str} : ∀ {c : List Str} {p : Int × Int}, tot m o p (c ++ [f]) = tot m o p c + del m o (run (stp m o) p c) f
  | [], p => by
    show (gv m p.1 f + nv m.leave (sv m p.1 f)) - (gv o p.2 f + nv o.leave (sv o p.2 f)) = (nv m.leave p.1 - nv o.leave p.2) + ((gv m p.1 f - gv o p.2 f) + (nv m.leave (sv m p.1 f) - nv o.leave (sv o p.2 f)) - (nv m.leave p.1 - nv o.leave p.2))
    omega
  | g :: c, p => by
    have := tot_snoc (m := m) (o := o) (f := f) (c := c) (p := stp m o p g)
    show (gv m p.1 g + total m (sv m p.1 g) (c ++ [f])) - (gv o p.2 g + total o (sv o p.2 g) (c ++ [f])) = (gv m p.1 g + total m (sv m p.1 g) c) - (gv o p.2 g + total o (sv o p.2 g) c) + del m o (run (stp m o) (stp m o p g) c) f
    have e : total m (sv m p.1 g) (c ++ [f]) - total o (sv o p.2 g) (c ++ [f]) = total m (sv m p.1 g) c - total o (sv o p.2 g) c + del m o (run (stp m o) (stp m o p g) c) f := this
    omega
/-- what the first career is by which two differ -/
def Told (fs : List Str) (D : List Str → Int) (L : Nat) : Option (List Str) → Prop
  | none => ∀ c, (∀ f ∈ c, f ∈ fs) → D c = 0
  | some c => (∀ f ∈ c, f ∈ fs) ∧ D c ≠ 0 ∧ c.length ≤ L ∧ ∀ c', (∀ f ∈ c', f ∈ fs) → cl fs c' c → D c' = 0
theorem Told.uniq {fs : List Str} {D D' : List Str → Int} {L L' : Nat} (hD : ∀ c, D c = 0 ↔ D' c = 0) {t t' : Option (List Str)} (h : Told fs D L t) (h' : Told fs D' L' t') : t = t' := by
  cases t with
  | none =>
    cases t' with
    | none => rfl
    | some c' => exact absurd ((hD c').mp (h c' h'.1)) h'.2.1
  | some c =>
    cases t' with
    | none => exact absurd ((hD c).mpr (h' c h.1)) h.2.1
    | some c' =>
      rcases sl_tri (ky fs c) (ky fs c') with q | q | q
      · exact absurd ((hD c).mpr (h'.2.2.2 c h.1 q)) h.2.1
      · rw [ky_inj h.1 h'.1 q]
      · exact absurd ((hD c').mp (h.2.2.2 c' h'.1 q)) h'.2.1
theorem tot_zero {m o : D_Machine} {fs : List Str} {r : List (Ent (Int × Int))} {p0 : Int × Int} (F : Fini (stp m o) fs [p0] r) (h0 : edp m o p0 = 0) (lim : List Str → Prop)
    (hlim : ∀ a b, (sl (ky fs a) (ky fs b) ∨ ky fs a = ky fs b) → lim b → lim a)
    (hz : ∀ e ∈ r, ∀ f ∈ fs, lim (e.2.2 ++ [f]) → del m o e.1 f = 0) : ∀ (n : Nat) {c : List Str}, c.length = n → (∀ f ∈ c, f ∈ fs) → lim c → tot m o p0 c = 0
  | 0, c, hl, hc, hlm => by
    rw [List.length_eq_zero_iff.mp hl]
    exact h0
  | n + 1, c, hl, hc, hlm => by
    have hne : c ≠ [] := fun e => by
      rw [e] at hl
      cases hl
    have ec := List.dropLast_concat_getLast hne
    generalize c.getLast hne = f at ec
    generalize c.dropLast = c' at ec
    subst ec
    have hf : f ∈ fs := hc f (by simp)
    have hc' : ∀ g ∈ c', g ∈ fs := fun g hg => hc g (List.mem_append_left _ hg)
    have l1 : lim c' := hlim c' _ (.inl (by rw [ky_snoc]; exact sl_pre)) hlm
    rw [tot_snoc, tot_zero F h0 lim hlim hz n (by simpa using hl) hc' l1, Int.zero_add]
    obtain ⟨e, he, h1, h2⟩ := F.least1 hc'
    rw [← h1]
    refine hz e he f hf (hlim _ (c' ++ [f]) ?_ hlm)
    rw [ky_snoc, ky_snoc]
    rcases h2 with h2 | h2
    · exact .inl (sl_app h2)
    · exact .inr (by rw [h2])
theorem sat_telling {fs : List Str} {N B N' B' : Nat} {m o : D_Machine} (M : MachOk fs N B m) (O : MachOk fs N' B' o) (hf : fs.Nodup) (hfl : fs.length ≤ 1000) (hN : m.leave.length * o.leave.length ≤ 15000) :
    Sat (m_telling_career m o) (Told fs (tot m o (0, 0)) (m.leave.length * o.leave.length)) := by
  have h00 : InP m o (0, 0) := ⟨⟨Int.le_refl _, by have := M.pos; show (0 : Int) < _; omega⟩, Int.le_refl _, by have := O.pos; show (0 : Int) < _; omega⟩
  unfold m_telling_career
  refine sat_bind (sat_pairs M O hf hfl hN (bs := [(0, 0)]) fun b hb => by rw [List.mem_singleton.mp hb]; exact h00) fun P ⟨r, K⟩ => ?_
  have ub : uq [((0 : Int), (0 : Int))] = [(0, 0)] := rfl
  rw [ub] at K
  have nb : [((0 : Int), (0 : Int))].Nodup := by decide
  have F := K.bfs.fin hf nb
  have sh := K.bfs.short0
  have pl := K.len
  have sl_ := K.stepL
  have rle := K.le
  obtain ⟨t0, ht0⟩ := F.pre
  have r0 : r[0]? = some ((0, 0), (0, 0), []) := by rw [← ht0]; rfl
  have p0 := K.at_ r0
  refine sat_bind (P := fun x => x = P) (sat_some rfl) fun x ex => ?_
  subst ex
  refine sat_bind (sat_eq (K.endAt p0) (P := fun x => x = edp m o (0, 0)) rfl) fun x ex => ?_
  subst ex
  refine sat_ite (fun c => ?_) fun c => ?_
  · refine sat_some ⟨(fun _ h => nomatch h), ?_, Nat.zero_le _, fun c' _ h => ?_⟩
    · intro h
      have h : edp m o (0, 0) = 0 := h
      simp [h] at c
    · rcases h with h | ⟨h1, h2⟩
      · exact absurd h (Nat.not_lt_zero _)
      · cases c' with
        | nil => exact h2.elim
        | cons => cases h1
  have e0 : edp m o (0, 0) = 0 := by simpa using c
  have hlen : (x.pairs.length : Int) = x.end_.length := by have := K.endL; omega
  rw [K.facts]
  refine sat_bind (sat_ways K.stepOk (by omega) (bs := [0]) (by decide) fun b hb => by
    rw [List.mem_singleton.mp hb]
    have := at_lt p0
    omega) fun w ⟨rI, hI, hW, hIl⟩ => ?_
  obtain ⟨hl, hget⟩ := K.ways hf nb (js := [0]) (by show [(atI x.pairs 0).getD (0, 0)] = _; rw [show atI x.pairs 0 = some (0, 0) from atI_at p0]; rfl) (fun j hj => by
    rw [List.mem_singleton.mp hj]
    have := at_lt p0
    omega) hI
  unfold m_Pairs_many
  refine sat_bind (P := fun y => y = (r.length : Int)) (sat_some (by rw [K.endL])) fun many em => ?_
  subst em
  have hr15 : (r.length : Int) ≤ 15000 := by omega
  refine sat_grd (show (-1000000000 : Int) ≤ (r.length : Int) ∧ (r.length : Int) ≤ 1000000000 from ⟨by omega, by omega⟩) ?_
  have nat : ∀ {i : Nat} {y : Int}, (range1 (r.length : Int))[i]? = some y → ∃ e, r[i]? = some e ∧ y = (i : Int) := fun {i y} h => by
    obtain ⟨h1, h2⟩ := range1_get h
    obtain ⟨e, he⟩ := at_ex (xs := r) (i := i) (by omega)
    exact ⟨e, he, h2⟩
  refine sat_bind (sat_foldXn (fun i _ => ∀ j e, j < i → r[j]? = some e → ∀ f ∈ fs, del m o e.1 f = 0) (fun t => Told fs (tot m o (0, 0)) (m.leave.length * o.leave.length) t) (fun j e h => absurd h (Nat.not_lt_zero _)) fun i _ y hy hI2 => ?_) fun out hout => ?_
  · obtain ⟨e, he, rfl⟩ := nat hy
    have hp := K.at_ he
    refine sat_bind (sat_foldXn (fun k _ => ∀ f ∈ fs.take k, del m o e.1 f = 0) (fun t => Told fs (tot m o (0, 0)) (m.leave.length * o.leave.length) t) (by simp) fun k _ f hfk hI3 => ?_) fun out hout => ?_
    · have hff := List.mem_of_getElem? hfk
      obtain ⟨j, s1, s2, s3, s4⟩ := K.stepAt hp hff
      obtain ⟨g1, g2⟩ := K.gainAt hf hp hff
      rw [s1]
      show Sat ((aget (rowAt x.step i) f).bind _) _
      rw [s2]
      show Sat ((atI x.end_ j).bind _) _
      rw [K.endAt s4]
      show Sat ((atI x.gain i).bind _) _
      rw [g1]
      show Sat ((aget _ f).bind _) _
      rw [g2]
      show Sat ((atI x.end_ i).bind _) _
      rw [K.endAt hp]
      show Sat (if _ then _ else _) _
      refine sat_ite (fun c => ?_) fun c => ?_
      · have hd : del m o e.1 f ≠ 0 := by
          intro z
          unfold del at z
          have : gnp m o e.1 f + edp m o (stp m o e.1 f) = edp m o e.1 := by omega
          simp [this] at c
        obtain ⟨b, hb, hb2, hrI⟩ := hget i e he
        have ci := career_eq hW (List.mem_of_getElem? hrI) (by show e.2.2.length ≤ 15000; have := sh i e he; have := at_lt he; omega)
        have hei := sh i e he
        have hil := at_lt he
        refine sat_bind (sat_eq ci (P := fun z => z.2 = e.2.2) rfl) fun z ez => ?_
        rw [ez]
        refine sat_grd (by unfold Sm; simp; omega) (sat_some ?_)
        have fe := F.at_ e (List.mem_of_getElem? he)
        have rr : run (stp m o) (0, 0) e.2.2 = e.1 := F.run1 (List.mem_of_getElem? he)
        have lim : ∀ c', (∀ g ∈ c', g ∈ fs) → cl fs c' (e.2.2 ++ [f]) → tot m o (0, 0) c' = 0 := fun c' hc' hlt => by
          refine tot_zero F e0 (fun c => sl (ky fs c) (ky fs (e.2.2 ++ [f]))) (fun a b hab hb => ?_) (fun e1 he1 f1 hf1 hl1 => ?_) _ rfl hc' hlt
          · rcases hab with hab | hab
            · exact sl_trans hab hb
            · rw [hab]
              exact hb
          · rw [ky_snoc, ky_snoc] at hl1
            obtain ⟨i1, hi1⟩ := List.mem_iff_getElem?.mp he1
            rcases sl_app_inv hl1 with h | ⟨h, h2⟩
            · exact hI2 i1 e1 ((F.ord1 hi1 he).mpr h) hi1 f1 hf1
            · have e1e : e1 = e := F.same1 he1 (List.mem_of_getElem? he) h
              subst e1e
              refine hI3 f1 ?_
              have ik : fs.idxOf f = k := by
                have h3 := List.getElem?_eq_getElem (List.idxOf_lt_length_of_mem hff)
                rw [List.getElem_idxOf] at h3
                exact nd_at hf h3 hfk
              rw [ik] at h2
              refine List.mem_iff_getElem?.mpr ⟨fs.idxOf f1, ?_⟩
              rw [List.getElem?_take_of_lt h2]
              have h3 := List.getElem?_eq_getElem (List.idxOf_lt_length_of_mem hf1)
              rw [List.getElem_idxOf] at h3
              exact h3
        refine ⟨fun g hg => ?_, ?_, ?_, lim⟩
        · rcases List.mem_append.mp hg with hg | hg
          · exact fe.2.1 g hg
          · rw [List.mem_singleton.mp hg]
            exact hff
        · rw [tot_snoc, rr, lim e.2.2 fe.2.1 (by unfold cl; rw [ky_snoc]; exact sl_pre), Int.zero_add]
          exact hd
        · show (e.2.2 ++ [f]).length ≤ _
          rw [List.length_append, List.length_singleton]
          omega
      · refine sat_some fun g hg => ?_
        rw [take_snoc hfk] at hg
        rcases List.mem_append.mp hg with hg | hg
        · exact hI3 g hg
        · rw [List.mem_singleton.mp hg]
          have : gnp m o e.1 f + edp m o (stp m o e.1 f) = edp m o e.1 := by simpa using c
          unfold del
          omega
    · cases out with
      | ret t => exact sat_some hout
      | nx s =>
        refine sat_some fun j e' hj he' f hff => ?_
        have hout : ∀ f ∈ fs.take fs.length, del m o e.1 f = 0 := hout
        rw [List.take_length] at hout
        by_cases hji : j = i
        · subst hji
          rw [he] at he'
          cases he'
          exact hout f hff
        · exact hI2 j e' (by omega) he' f hff
  · cases out with
    | ret t => exact sat_some hout
    | nx s =>
      have hout : ∀ (j : Nat) (e : Ent (Int × Int)), j < (range1 (r.length : Int)).length → r[j]? = some e → ∀ f ∈ fs, del m o e.1 f = 0 := hout
      rw [range1_len] at hout
      refine sat_some fun c hc => tot_zero F e0 (fun _ => True) (fun _ _ _ _ => trivial) (fun e he f hff _ => ?_) _ rfl hc trivial
      obtain ⟨j, hj⟩ := List.mem_iff_getElem?.mp he
      exact hout j e (by have := at_lt hj; omega) hj f hff
/-- each state twice, amounts moved ahead -/
structure TwinOf (fs : List Str) (m t : D_Machine) : Prop where
  len : t.leave.length = 2 * m.leave.length
  ex : ∃ sh : Int → Int, sh 0 = 0 ∧ (∀ y, In t y → nv t.leave y = nv m.leave (Int.fmod y m.leave.length) - sh y) ∧
    ∀ y, In t y → ∀ f ∈ fs, Int.fmod (sv t y f) m.leave.length = sv m (Int.fmod y m.leave.length) f ∧ gv t y f = gv m (Int.fmod y m.leave.length) f + sh (sv t y f) - sh y
def TwR (fs : List Str) (m : D_Machine) (many : Int) (shift : List Int) (k : Int) (fs' : List Str) (rs rg : List (Str × Int)) : Prop :=
  ∀ f ∈ fs', ∃ a, aget rs f = some a ∧ Int.fmod a many = sv m (Int.fmod k many) f ∧ aget rg f = some (gv m (Int.fmod k many) f + nv shift a - nv shift k)
theorem take_snoc' {α : Type} {xs : List α} {j : Nat} {y : α} (h : xs[j]? = some y) : xs.take (j + 1) = xs.take j ++ [y] := by
  obtain ⟨h1, h2⟩ := List.getElem?_eq_some_iff.mp h
  rw [List.take_succ_eq_append_getElem h1, h2]
theorem sat_twin {b : (List Int) × Int} (h : BoxOk b) {fs : List Str} (hf : FactsOk fs) {N B : Nat} {m : D_Machine} (M : MachOk fs N B m) (hN : N ≤ 1000) : Sat (m_law_twin b m) fun o => MachOk fs (2 * N) (B + 4) o.1 ∧ BoxOk o.2 ∧ TwinOf fs m o.1 := by
  obtain ⟨f1, f2, f3⟩ := hf
  have m1 := M.pos
  have m2 := M.le
  unfold m_law_twin
  refine sat_bind (P := fun x => x = (m.leave.length : Int)) (sat_some rfl) fun many em => ?_
  have hm : 0 < many ∧ many ≤ 1000 := by omega
  refine sat_grd (by omega) (sat_grd (by unfold Sm; rw [range2_len]; omega) ?_)
  refine sat_bind (sat_foldCn (fun (y : Int) (z : Int) => Ab 2 z) h fun s y _ hb => ?_) fun t7 ⟨⟨q1, q2⟩, q3⟩ => ?_
  · exact sat_bind (sat_draw hb (by decide)) fun t ⟨⟨k1, k2⟩, k3⟩ => sat_some ⟨⟨_, rfl, (show (t.1 - 2).natAbs ≤ 2 by omega)⟩, k3⟩
  have q4 := all_of_idx q1 q2
  rw [range2_len] at q1
  refine sat_grd (by unfold Sm; simp; omega) ?_
  refine sat_bind (P := fun x => x = [0] ++ t7.1) (sat_some rfl) fun shift es => ?_
  have sl : (shift.length : Int) = 2 * many := by
    rw [es, List.length_append, List.length_singleton, q1]
    omega
  have sA : ∀ x ∈ shift, Ab 2 x := fun x hx => by
    rw [es] at hx
    rcases List.mem_append.mp hx with hx | hx
    · rw [List.mem_singleton.mp hx]
      exact Nat.zero_le _
    · exact q4 x hx
  have s0 : nv shift 0 = 0 := by
    rw [es]
    unfold nv
    rw [show atI ([0] ++ t7.1) 0 = some 0 from atI_at (i := 0) rfl]
    rfl
  clear es
  have sg : ∀ {i : Int}, 0 ≤ i ∧ i < 2 * many → atI shift i = some (nv shift i) ∧ Ab 2 (nv shift i) := fun hi => sat_get (sat_atA (by omega) sA) 0
  have fm : ∀ y : Int, In m (Int.fmod y many) := fun y => by
    have := fmod_lt' (a := y) hm.1
    unfold In
    omega
  refine sat_grd (by omega) ?_
  refine sat_bind (sat_foldOn (fun i (s : ((List Int) × Int) × (List (List (Str × Int))) × (List (List (Str × Int)))) => BoxOk s.1 ∧ (s.2.1.length = i ∧ ∀ r ∈ s.2.1, RowOk fs (fun k => 0 ≤ k ∧ k < 2 * many) r) ∧ (s.2.2.length = i ∧ ∀ r ∈ s.2.2, RowOk fs (Ab (B + 4)) r) ∧
      ∀ (k : Nat) (rs rg : List (Str × Int)), s.2.1[k]? = some rs → s.2.2[k]? = some rg → TwR fs m many shift k fs rs rg)
    ⟨q3, ⟨rfl, fun _ h => nomatch h⟩, ⟨rfl, fun _ h => nomatch h⟩, fun k _ _ h => by simp at h⟩ fun i s y hy ⟨hb, ⟨l1, r1⟩, ⟨l2, r2⟩, tw⟩ => ?_) fun s ⟨hb, ⟨l1, r1⟩, ⟨l2, r2⟩, tw⟩ => ?_
  · have hy2 := range1_get hy
    refine sat_grd (by omega) (sat_bind (P := fun x => x = Int.fmod y many) (sat_some rfl) fun st est => ?_)
    have hst := fm y
    rw [← est] at hst
    refine sat_bind (sat_foldOn (fun j (p : ((List Int) × Int) × (List (Str × Int)) × (List (Str × Int))) => BoxOk p.1 ∧ RowP fs j (fun k => 0 ≤ k ∧ k < 2 * many) p.2.1 ∧ RowP fs j (Ab (B + 4)) p.2.2 ∧ TwR fs m many shift y (fs.take j) p.2.1 p.2.2) ⟨hb, ⟨rfl, fun _ h => nomatch h⟩, ⟨rfl, fun _ h => nomatch h⟩, fun f hf => by simp at hf⟩ fun j p z hz ⟨pb, p1, p2, p3⟩ => ?_) fun p ⟨pb, p1, p2, p3⟩ => ?_
    · rw [M.facts] at hz
      have hzm := List.mem_of_getElem? hz
      refine sat_bind (sat_eq (step_row M hst).1 (P := fun x => x = rowAt m.step st) rfl) fun x ex => ?_
      subst ex
      obtain ⟨g1, g2⟩ := step_get M hst hzm
      refine sat_bind (sat_eq g1 (P := fun x => x = sv m st z) rfl) fun t19 e19 => ?_
      subst e19
      have h19 := g2
      refine sat_bind (sat_draw pb (by decide)) fun t20 ⟨⟨k1, k2⟩, k3⟩ => ?_
      have h19' : 0 ≤ sv m st z ∧ sv m st z < many := by unfold In at h19; omega
      have hafter : (0 ≤ sv m st z + many * t20.1 ∧ sv m st z + many * t20.1 < 2 * many) ∧ Int.fmod (sv m st z + many * t20.1) many = sv m st z := by
        have e1 : Int.fmod (sv m st z) many = sv m st z := by
          rw [Int.fmod_eq_emod_of_nonneg _ (Int.le_of_lt hm.1)]
          exact Int.emod_eq_of_lt h19'.1 h19'.2
        refine ⟨?_, by rw [Int.add_mul_fmod_self_left]; exact e1⟩
        rcases (show t20.1 = 0 ∨ t20.1 = 1 by omega) with e2 | e2
        · rw [e2, Int.mul_zero]
          omega
        · rw [e2, Int.mul_one]
          omega
      refine sat_grd (.inl (by omega)) (sat_bind (P := fun x => x = sv m st z + many * t20.1) (sat_some rfl) fun after ea => ?_)
      rw [← ea] at hafter
      have n1 := p1.len
      have n2 := p2.len
      refine sat_grd (by unfold Sm; omega) ?_
      refine sat_bind (sat_eq (gain_row M hst).1 (P := fun x => x = rowAt m.gain st) rfl) fun x ex => ?_
      subst ex
      obtain ⟨g3, g4⟩ := gain_get M hst hzm
      refine sat_bind (sat_eq g3 (P := fun x => x = gv m st z) rfl) fun t25 e25 => ?_
      subst e25
      obtain ⟨g5, g6⟩ := sg hafter.1
      refine sat_bind (sat_eq g5 (P := fun x => x = nv shift after) rfl) fun t26 e26 => ?_
      subst e26
      obtain ⟨g7, g8⟩ := sg (i := y) (by omega)
      refine sat_bind (sat_eq g7 (P := fun x => x = nv shift y) rfl) fun t27 e27 => ?_
      subst e27
      refine sat_grd (by unfold Sm; omega) (sat_some ⟨k3, p1.put f3 hz hafter.1, p2.put f3 hz ?_, fun f hff => ?_⟩)
      · unfold Ab at *
        omega
      · rw [take_snoc' hz] at hff
        by_cases ef : z = f
        · subst ef
          refine ⟨after, aget_put, ?_, ?_⟩
          · rw [hafter.2, est]
          · rw [← est]
            exact aget_put
        · rcases List.mem_append.mp hff with hff | hff
          · obtain ⟨a, a1, a2, a3⟩ := p3 f hff
            exact ⟨a, by rw [← a1]; exact aget_put_ne ef, a2, by rw [← a3]; exact aget_put_ne ef⟩
          · exact absurd (List.mem_singleton.mp hff).symm ef
    · rw [M.facts] at p1 p2 p3
      refine sat_grd (by unfold Sm; omega) (sat_grd (by unfold Sm; omega) (sat_some ⟨pb, ⟨?_, ?_⟩, ⟨?_, ?_⟩, ?_⟩))
      · show (s.2.1 ++ [_]).length = _
        rw [List.length_append, l1]
        rfl
      · intro r hr
        rcases List.mem_append.mp hr with hr | hr
        · exact r1 r hr
        · rw [List.mem_singleton.mp hr]
          exact p1.full
      · show (s.2.2 ++ [_]).length = _
        rw [List.length_append, l2]
        rfl
      · intro r hr
        rcases List.mem_append.mp hr with hr | hr
        · exact r2 r hr
        · rw [List.mem_singleton.mp hr]
          exact p2.full
      · intro k rs rg h1 h2
        rcases snoc_at h1 with h1 | ⟨h1, h1'⟩
        · rcases snoc_at h2 with h2 | ⟨h2, h2'⟩
          · exact tw k rs rg h1 h2
          · have := at_lt h1
            omega
        · rcases snoc_at h2 with h2 | ⟨h2, h2'⟩
          · have := at_lt h2
            omega
          · rw [List.take_length] at p3
            have ek : (k : Int) = y := by omega
            rw [h1', h2', ek]
            exact p3
  rw [range1_len] at l1 l2
  refine sat_grd (by omega) (sat_grd (by unfold Sm; rw [range1_len]; omega) ?_)
  refine sat_bind (sat_mapCn (fun (y : Int) (z : Int) => Ab (B + 4) z ∧ z = nv m.leave (Int.fmod y many) - nv shift y) fun y hy => ?_) fun le ⟨c1, c2⟩ => ?_
  · have hy2 := range1_mem hy
    have hst := fm y
    refine sat_grd (by omega) ?_
    obtain ⟨u1, v1⟩ := leave_get M hst
    obtain ⟨u2, v2⟩ := sg (i := y) (by omega)
    refine sat_bind (sat_eq u1 (P := fun x => x = nv m.leave (Int.fmod y many)) rfl) fun x ex => ?_
    subst ex
    refine sat_bind (sat_eq u2 (P := fun x => x = nv shift y) rfl) fun x ex => ?_
    subst ex
    refine sat_some ⟨_, rfl, ?_, rfl⟩
    unfold Ab at *
    omega
  have c3 := all_of_idx c1 fun i y z h1 h2 => (c2 i y z h1 h2).1
  rw [range1_len] at c1
  have hF : m.facts.length ≤ 15000 := by
    rw [M.facts]
    omega
  refine sat_bind (sat_eq (init_eq (by omega) (by omega)) (P := fun x => x = D_Machine.mk m.facts s.2.1 s.2.2 le) rfl) fun x e => ?_
  subst e
  refine sat_some ⟨⟨M.facts, ?_, ?_, ?_, ?_, ?_, r2, c3⟩, hb, ?_, fun i => nv shift i, s0, fun y hy => ?_, fun y hy f hf => ?_⟩
  · show 0 < le.length
    omega
  · show le.length ≤ 2 * N
    omega
  · show s.2.1.length = le.length
    omega
  · show s.2.2.length = le.length
    omega
  · intro r hr
    refine (r1 r hr).mono fun i hi => ?_
    show 0 ≤ i ∧ i < (le.length : Int)
    omega
  · show le.length = _
    omega
  · have hy' : 0 ≤ y ∧ y < (le.length : Int) := hy
    obtain ⟨z, hz⟩ := at_ex (xs := le) (i := y.toNat) (by omega)
    have hr : (range1 (2 * many))[y.toNat]? = some y := by
      obtain ⟨w, hw⟩ := at_ex (xs := range1 (2 * many)) (i := y.toNat) (by rw [range1_len]; omega)
      have := (range1_get hw).2
      rw [hw, this]
      congr 1
      omega
    have h2 := (c2 _ _ _ hr hz).2
    show nv le y = _
    unfold nv
    have := atI_at hz
    rw [Int.toNat_of_nonneg hy'.1] at this
    rw [this, ← em]
    exact h2
  · have hy' : 0 ≤ y ∧ y < (le.length : Int) := hy
    obtain ⟨rs, hrs⟩ := at_ex (xs := s.2.1) (i := y.toNat) (by omega)
    obtain ⟨rg, hrg⟩ := at_ex (xs := s.2.2) (i := y.toNat) (by omega)
    obtain ⟨a, a1, a2, a3⟩ := tw _ _ _ hrs hrg f hf
    have ey : ((y.toNat : Nat) : Int) = y := Int.toNat_of_nonneg hy'.1
    rw [ey] at a2 a3
    have i1 := atI_at hrs
    have i2 := atI_at hrg
    rw [ey] at i1 i2
    have e1 : sv (D_Machine.mk m.facts s.2.1 s.2.2 le) y f = a := by
      show (aget ((atI s.2.1 y).getD []) f).getD 0 = a
      rw [i1]
      show (aget rs f).getD 0 = a
      rw [a1]
      rfl
    have e2 : gv (D_Machine.mk m.facts s.2.1 s.2.2 le) y f = gv m (Int.fmod y many) f + nv shift a - nv shift y := by
      show (aget ((atI s.2.2 y).getD []) f).getD 0 = _
      rw [i2]
      show (aget rg f).getD 0 = _
      rw [a3]
      rfl
    rw [e1, e2, ← em]
    exact ⟨a2, rfl⟩
/-- it pays the same -/
theorem TwinOf.totals {fs : List Str} {N B : Nat} {m t : D_Machine} (M : MachOk fs N B t) (T : TwinOf fs m t) : ∀ {c : List Str}, (∀ f ∈ c, f ∈ fs) → total t 0 c = total m 0 c := by
  obtain ⟨sh, h0, h1, h2⟩ := T.ex
  have key : ∀ (c : List Str) (y : Int), In t y → (∀ f ∈ c, f ∈ fs) → total t y c = total m (Int.fmod y m.leave.length) c - sh y := by
    intro c
    induction c with
    | nil => exact fun y hy _ => h1 y hy
    | cons f c ih =>
      intro y hy hc
      have hf := hc f (List.mem_cons_self ..)
      obtain ⟨e1, e2⟩ := h2 y hy f hf
      have := ih (sv t y f) (step_get M hy hf).2 fun g hg => hc g (List.mem_cons_of_mem _ hg)
      rw [e1] at this
      show gv t y f + total t (sv t y f) c = (gv m (Int.fmod y m.leave.length) f + total m (sv m (Int.fmod y m.leave.length) f) c) - sh y
      omega
  intro c hc
  have := key c 0 ⟨Int.le_refl _, by have := M.pos; omega⟩ hc
  rw [h0, Int.zero_fmod] at this
  omega
/-! ### the facts are short texts -/
def Fgh (fs : List Str) : Prop := FactsOk fs ∧ ∀ f ∈ fs, f ∈ [("f" : Str), "g", "h"]
instance (fs : List Str) : Decidable (Fgh fs) := inferInstanceAs (Decidable (_ ∧ _))
theorem sat_fgh {b : (List Int) × Int} (h : BoxOk b) : Sat (m_law_facts b) fun o => Fgh o.1 ∧ BoxOk o.2 := by
  unfold m_law_facts
  refine sat_bind (sat_draw h (by decide)) fun t ⟨⟨h1, h2⟩, h3⟩ => ?_
  refine sat_bind (sat_atI (P := fun (x : List Str) => Fgh x) h1 h2 (by decide)) fun x hx => ?_
  exact sat_some ⟨hx, h3⟩
theorem Fgh.shd {fs : List Str} (F : Fgh fs) {f : Str} (hf : f ∈ fs) : Shd 8 (dat tStr f) := by
  have : ∀ f ∈ [("f" : Str), "g", "h"], Shd 8 (dat tStr f) := by
    intro f hf
    simp only [List.mem_cons, List.not_mem_nil, or_false] at hf
    rcases hf with rfl | rfl | rfl <;> exact ⟨by decide +kernel, by decide +kernel⟩
  exact this f (F.2 f hf)
theorem Fgh.career {fs : List Str} (F : Fgh fs) {c : List Str} (hc : ∀ f ∈ c, f ∈ fs) (hl : c.length ≤ 1000) : Shd 11000 (dat (tList tStr) c) := (shd_lst hl fun f hf => F.shd (hc f hf)).mono (by omega)
theorem Fgh.told {fs : List Str} (F : Fgh fs) {t : Option (List Str)} (ht : ∀ c, t = some c → (∀ f ∈ c, f ∈ fs) ∧ c.length ≤ 1000) : Shd 11000 (dat (tOpt (tList tStr)) t) := by
  cases t with
  | none => exact shd_none.mono (by omega)
  | some c => exact shd_some (F.career (ht c rfl).1 (ht c rfl).2)
/-! ### careers in their order -/
theorem R_sorted {fs : List Str} (hf : fs.Nodup) : ∀ j : Nat, (R fs j).Pairwise (cl fs)
  | 0 => List.pairwise_singleton _ _
  | j + 1 => by
    have ih := R_sorted hf j
    have hl : ∀ c ∈ R fs j, c.length = j := fun c hc => (mem_R.mp hc).1
    show ((R fs j).flatMap fun r => fs.map fun f => r ++ [f]).Pairwise (cl fs)
    refine List.pairwise_flatMap.mpr ⟨fun r hr => ?_, ?_⟩
    · refine List.pairwise_map.mpr ((inc_of_nd hf).imp fun {a b} h => ?_)
      unfold cl
      rw [ky_snoc, ky_snoc]
      exact sl_last h
    · refine ih.imp fun {a b} h x hx y hy => ?_
      obtain ⟨f, _, rfl⟩ := List.mem_map.mp hx
      obtain ⟨g, _, rfl⟩ := List.mem_map.mp hy
      unfold cl
      rw [ky_snoc, ky_snoc]
      exact sl_app h
theorem RR_sorted {fs : List Str} (hf : fs.Nodup) : ∀ n : Nat, (RR fs n).Pairwise (cl fs)
  | 0 => List.Pairwise.nil
  | n + 1 => by
    rw [RR_succ]
    refine List.pairwise_append.mpr ⟨RR_sorted hf n, R_sorted hf n, fun a ha b hb => ?_⟩
    obtain ⟨j, hj, ha⟩ := List.mem_flatMap.mp ha
    have h1 := (mem_R.mp ha).1
    have h2 := (mem_R.mp hb).1
    have := List.mem_range.mp hj
    refine .inl ?_
    unfold ky
    rw [List.length_map, List.length_map]
    omega
theorem mem_RR {fs : List Str} {n : Nat} {c : List Str} : c ∈ RR fs n ↔ c.length < n ∧ ∀ f ∈ c, f ∈ fs := by
  unfold RR
  rw [List.mem_flatMap]
  constructor
  · rintro ⟨j, hj, hc⟩
    have := mem_R.mp hc
    exact ⟨by have := List.mem_range.mp hj; omega, this.2⟩
  · rintro ⟨h1, h2⟩
    exact ⟨c.length, List.mem_range.mpr h1, mem_R.mpr ⟨rfl, h2⟩⟩
theorem Told.shd {fs : List Str} (F : Fgh fs) {D : List Str → Int} {L : Nat} (hL : L ≤ 1000) {t : Option (List Str)} (h : Told fs D L t) : Shd 11000 (dat (tOpt (tList tStr)) t) := F.told fun c e => by
  subst e
  exact ⟨h.1, Nat.le_trans h.2.2.1 hL⟩
theorem tell_sym {m o : D_Machine} {c : List Str} : tot m o (0, 0) c = 0 ↔ tot o m (0, 0) c = 0 := by
  unfold tot
  show total m 0 c - total o 0 c = 0 ↔ total o 0 c - total m 0 c = 0
  omega
def lo (n : Int) : Option (List Str) → Int
  | none => n
  | some c => min n (c.length : Int)
theorem law_true : ∀ ns : List Int, ns.length ≤ 63 → m_law ns = some true := by
  intro ns _
  suffices h : Sat (m_law ns) fun o => o = true by
    obtain ⟨a, e, rfl⟩ := h
    exact e
  unfold m_law
  refine sat_bind (sat_box (by omega)) fun t1 k1 => sat_bind (sat_fgh k1) fun t2 ⟨Fg, k2⟩ => ?_
  obtain ⟨fs, b2⟩ := t2
  have hf : FactsOk fs := Fg.1
  obtain ⟨f1, f2, f3⟩ := hf
  have hfl : fs.length ≤ 1000 := by omega
  refine sat_bind (sat_machine k2 Fg.1 (most := 4) (by omega)) fun t3 ⟨M, k3⟩ => ?_
  refine sat_bind (sat_twin k3 Fg.1 M (by omega)) fun t4 ⟨T, k4, TW⟩ => ?_
  obtain ⟨m, b3⟩ := t3
  obtain ⟨t, b4⟩ := t4
  have M : MachOk fs 4 4 m := M
  have T : MachOk fs 8 8 t := T
  have TW : TwinOf fs m t := TW
  have lim : ∀ {m o : D_Machine} {N N' B B' : Nat}, MachOk fs N B m → MachOk fs N' B' o → N ≤ 8 → N' ≤ 8 → m.leave.length * o.leave.length ≤ 64 := fun M O h1 h2 => Nat.mul_le_mul (Nat.le_trans M.le h1) (Nat.le_trans O.le h2)
  have l1 := lim M T (by omega) (by omega)
  refine sat_bind (sat_telling M T f3 hfl (Nat.le_trans l1 (by decide))) fun t5 h5 => ?_
  have e5 : t5 = none := by
    cases t5 with
    | none => rfl
    | some c =>
      exfalso
      refine h5.2.1 ?_
      have : total t 0 c = total m 0 c := TW.totals T h5.1
      show total m 0 c - total t 0 c = 0
      omega
  subst e5
  have l2 := lim T M (by omega) (by omega)
  have alike_eq : ∀ {m o : D_Machine} {N N' B B' : Nat}, MachOk fs N B m → MachOk fs N' B' o → m.leave.length * o.leave.length ≤ 64 → ∃ t, m_telling_career m o = some t ∧ Told fs (tot m o (0, 0)) (m.leave.length * o.leave.length) t ∧ m_are_alike m o = some t.isNone := fun M O hl => by
    obtain ⟨t, e, h⟩ := sat_telling M O f3 hfl (by omega)
    refine ⟨t, e, h, ?_⟩
    unfold m_are_alike
    rw [e]
    rfl
  obtain ⟨t6, e6, h6, e6'⟩ := alike_eq T M l2
  have n6 : t6 = none := Told.uniq (fun c => tell_sym) h6 h5
  subst n6
  refine sat_bind (P := fun x => x = false) ?_ fun x ex => ?_
  · rw [if_neg (by decide)]
    show Sat ((m_are_alike t m).bind _) _
    rw [e6']
    exact sat_some rfl
  subst ex
  rw [if_neg (by decide)]
  refine sat_bind (sat_near k4 Fg.1 T (by omega)) fun t9 ⟨M9, k9⟩ => ?_
  refine sat_bind (sat_machine k9 Fg.1 (most := 3) (by omega)) fun t10 ⟨M10, k10⟩ => ?_
  refine sat_bind (sat_near k10 Fg.1 M (by omega)) fun t11 ⟨M11, k11⟩ => ?_
  refine sat_bind (sat_foldX (fun _ => True) trivial fun _ o ho _ => ?_) fun out ⟨s', eo, _⟩ => ?_
  rotate_left
  · subst eo
    exact sat_some rfl
  have MO : ∃ N B, MachOk fs N B o ∧ N ≤ 8 := by
    simp only [List.mem_cons, List.not_mem_nil, or_false] at ho
    rcases ho with rfl | rfl | rfl
    · exact ⟨_, _, M9, by omega⟩
    · exact ⟨_, _, M10, by omega⟩
    · exact ⟨_, _, M11, by omega⟩
  obtain ⟨N, B, O, hN⟩ := MO
  obtain ⟨t14, e14, h14, e15⟩ := alike_eq M O (lim M O (by omega) hN)
  obtain ⟨t17, e17, h17, _⟩ := alike_eq O M (lim O M hN (by omega))
  have n17 : t17 = t14 := Told.uniq (fun c => tell_sym) h17 h14
  subst n17
  have S14 := h14.shd Fg (by have := lim M O (by omega) hN; omega)
  refine sat_bind (sat_eq e14 (P := fun x => x = t17) rfl) fun x ex => ?_
  rw [ex]
  clear ex x
  refine sat_bind (sat_eq e15 (P := fun x => x = t17.isNone) rfl) fun x ex => ?_
  rw [ex]
  clear ex x
  refine sat_grd ⟨shd_bool.shw (by omega), shd_bool.shw (by omega)⟩ ?_
  refine sat_bind (P := fun x => x = false) ?_ fun x ex => ?_
  · rw [if_neg (by rw [alike_same]; decide), e17]
    refine sat_grd ⟨S14.shw (by omega), S14.shw (by omega)⟩ (sat_some ?_)
    rw [alike_same]
    rfl
  subst ex
  rw [if_neg (by decide)]
  refine sat_bind (P := fun x => x = 7 - (fs.length : Int)) (sat_some rfl) fun most em => ?_
  subst em
  have z0 : In m 0 := ⟨Int.le_refl _, by have := M.pos; omega⟩
  have z1 : In o 0 := ⟨Int.le_refl _, by have := O.pos; omega⟩
  refine sat_bind (P := fun x => x = Oc.nx (lo (7 - (fs.length : Int)) t17)) ?_ fun x ex => ?_
  · cases t17 with
    | none =>
      rw [if_neg (by decide)]
      exact sat_some rfl
    | some c =>
      rw [if_pos (by rfl)]
      show Sat ((m_law_total m 0 c).bind _) _
      rw [total_eq M z0 h14.1]
      show Sat ((m_law_total o 0 c).bind _) _
      rw [total_eq O z1 h14.1]
      show Sat (if _ then _ else _) _
      rw [if_neg (by
        intro z
        have z : total m 0 c = total o 0 c := of_decide_eq_true z
        refine h14.2.1 ?_
        show total m 0 c - total o 0 c = 0
        omega)]
      exact sat_some rfl
  subst ex
  show Sat (Option.bind _ _) _
  generalize hL : (lo (7 - (fs.length : Int)) t17) = L
  have hL6 : 0 ≤ L ∧ L ≤ 6 := by
    cases t17 with
    | none => simp [lo] at hL; omega
    | some c => simp [lo] at hL; omega
  obtain ⟨Ln, rfl⟩ := Int.eq_ofNat_of_zero_le hL6.1
  have hL7 : Ln ≤ 6 := by omega
  rw [careers_eq f2 hL7]
  show Sat ((grd (Sm (RR fs (Ln + 1)).length) ()).bind _) _
  have len := len_RR f2 (Ln + 1)
  have p6 : 3 ^ (Ln + 1) ≤ 2187 := Nat.le_trans (Nat.pow_le_pow_right (by decide) (show Ln + 1 ≤ 7 by omega)) (by decide)
  refine sat_grd (by unfold Sm; omega) ?_
  rw [mapC_eq (g := fun y => if tot m o (0, 0) y = 0 then none else some y) fun y hy => by
    have hc := (mem_RR.mp hy).2
    rw [total_eq M z0 hc]
    show (m_law_total o 0 y).bind _ = _
    rw [total_eq O z1 hc]
    show (if _ then _ else _) = _
    have : tot m o (0, 0) y = total m 0 y - total o 0 y := rfl
    by_cases h : total m 0 y = total o 0 y
    · rw [if_neg (by simp [h]), if_pos (by omega)]
    · rw [if_pos (by simp [h]), if_neg (by omega)]]
  generalize hd : (RR fs (Ln + 1)).filterMap (fun y => if tot m o (0, 0) y = 0 then none else some y) = due
  show Sat (Option.bind _ _) _
  have mem : ∀ c, c ∈ due ↔ c ∈ RR fs (Ln + 1) ∧ tot m o (0, 0) c ≠ 0 := fun c => by
    rw [← hd, List.mem_filterMap]
    constructor
    · rintro ⟨y, hy, e⟩
      by_cases h : tot m o (0, 0) y = 0
      · rw [if_pos h] at e
        cases e
      · rw [if_neg h] at e
        cases e
        exact ⟨hy, h⟩
    · rintro ⟨h1, h2⟩
      exact ⟨c, h1, if_neg h2⟩
  have sorted : due.Pairwise (cl fs) := by
    rw [← hd]
    refine List.pairwise_filterMap.mpr ((RR_sorted f3 (Ln + 1)).imp fun {a b} h x hx y hy => ?_)
    have q : ∀ {a x : List Str}, (if tot m o (0, 0) a = 0 then none else some a) = some x → a = x := fun {a x} e => by
      by_cases h : tot m o (0, 0) a = 0
      · rw [if_pos h] at e
        cases e
      · rw [if_neg h] at e
        exact Option.some.inj e
    rw [← q hx, ← q hy]
    exact h
  cases due with
  | nil =>
    refine sat_bind (P := fun x => x = []) (sat_some rfl) fun x ex => ?_
    rw [ex]
    clear ex x
    rw [if_neg (by decide)]
    refine sat_bind (P := fun x => x = false) (sat_some rfl) fun x ex => ?_
    subst ex
    rw [if_neg (by decide)]
    refine sat_bind (P := fun x => x = false) ?_ fun x ex => ?_
    · rw [if_pos (by rfl)]
      refine sat_bind (P := fun x => x = false) ?_ fun x ex => sat_some ex
      cases t17 with
      | none => exact sat_some rfl
      | some c =>
        refine sat_some (decide_eq_false fun z => ?_)
        have : c ∈ ([] : List (List Str)) := (mem c).mpr ⟨mem_RR.mpr ⟨by omega, h14.1⟩, h14.2.1⟩
        cases this
    subst ex
    rw [if_neg (by decide)]
    exact sat_some ⟨_, rfl, trivial⟩
  | cons d due =>
    obtain ⟨d1, d2⟩ := (mem d).mp (List.mem_cons_self ..)
    have d3 := mem_RR.mp d1
    have told : t17 = some d := by
      cases t17 with
      | none => exact absurd (h14 d d3.2) d2
      | some c =>
        congr 1
        have hc : (c.length : Int) < Ln + 1 := by
          simp [lo] at hL
          rcases sl_tri (ky fs c) (ky fs d) with q | q | q
          · rcases q with q | ⟨q, _⟩
            · unfold ky at q
              rw [List.length_map, List.length_map] at q
              omega
            · unfold ky at q
              rw [List.length_map, List.length_map] at q
              omega
          · have := congrArg List.length q
            unfold ky at this
            rw [List.length_map, List.length_map] at this
            omega
          · exact absurd (h14.2.2.2 d d3.2 q) d2
        have hm : c ∈ d :: due := (mem c).mpr ⟨mem_RR.mpr ⟨by omega, h14.1⟩, h14.2.1⟩
        rcases List.mem_cons.mp hm with e | hm
        · exact e
        · exact absurd (h14.2.2.2 d d3.2 ((List.pairwise_cons.mp sorted).1 c hm)) d2
    subst told
    refine sat_bind (P := fun x => x = d :: due) (sat_some rfl) fun x ex => ?_
    rw [ex]
    clear ex x
    refine sat_bind (P := fun x => x = false) ?_ fun x ex => ?_
    · rw [if_pos (by rfl), show atI (d :: due) 0 = some d from atI_at (i := 0) rfl]
      refine sat_grd ⟨S14.shw (by omega), (Fg.career d3.2 (by omega)).shw (by omega)⟩ (sat_some ?_)
      show (!alike (dat (tList tStr) d) (dat (tList tStr) d)) = false
      rw [alike_same]
      rfl
    subst ex
    rw [if_neg (by decide)]
    refine sat_bind (P := fun x => x = false) ?_ fun x ex => ?_
    · rw [if_neg (by simp)]
      exact sat_some rfl
    subst ex
    rw [if_neg (by decide)]
    exact sat_some ⟨_, rfl, trivial⟩

theorem all_mk {l : PySem.W.OpenLaw} {w : World} {K : PySem.W.Frag} {h : Heap} {mg : Str → Option Value} {fa : Addr} (X : K.In h) (G : h.Ns mainGlobals mg) (hfa : mg "law" = some (.ref fa))
    {C_Machine : Addr}
    {C_Pairs : Addr}
    {f0 : Addr} {od0 an0 : Option Addr} {sl0 : Array (Option Value)} {oc0 kV0 dc0 pm0 cd0 ct0 : Value}
    {f1 : Addr} {od1 an1 : Option Addr} {sl1 : Array (Option Value)} {oc1 kV1 dc1 pm1 cd1 ct1 : Value}
    {f2 : Addr} {od2 an2 : Option Addr} {sl2 : Array (Option Value)} {oc2 kV2 dc2 pm2 cd2 ct2 : Value}
    {f3 : Addr} {od3 an3 : Option Addr} {sl3 : Array (Option Value)} {oc3 kV3 dc3 pm3 cd3 ct3 : Value}
    {f4 : Addr} {od4 an4 : Option Addr} {sl4 : Array (Option Value)} {oc4 kV4 dc4 pm4 cd4 ct4 : Value}
    {f5 : Addr} {od5 an5 : Option Addr} {sl5 : Array (Option Value)} {oc5 kV5 dc5 pm5 cd5 ct5 : Value}
    {f6 : Addr} {od6 an6 : Option Addr} {sl6 : Array (Option Value)} {oc6 kV6 dc6 pm6 cd6 ct6 : Value}
    {f7 : Addr} {od7 an7 : Option Addr} {sl7 : Array (Option Value)} {oc7 kV7 dc7 pm7 cd7 ct7 : Value}
    {f8 : Addr} {od8 an8 : Option Addr} {sl8 : Array (Option Value)} {oc8 kV8 dc8 pm8 cd8 ct8 : Value}
    {f9 : Addr} {od9 an9 : Option Addr} {sl9 : Array (Option Value)} {oc9 kV9 dc9 pm9 cd9 ct9 : Value}
    {f10 : Addr} {od10 an10 : Option Addr} {sl10 : Array (Option Value)} {oc10 kV10 dc10 pm10 cd10 ct10 : Value}
    {f11 : Addr} {od11 an11 : Option Addr} {sl11 : Array (Option Value)} {oc11 kV11 dc11 pm11 cd11 ct11 : Value}
    {f12 : Addr} {od12 an12 : Option Addr} {sl12 : Array (Option Value)} {oc12 kV12 dc12 pm12 cd12 ct12 : Value}
    {f13 : Addr} {od13 an13 : Option Addr} {sl13 : Array (Option Value)} {oc13 kV13 dc13 pm13 cd13 ct13 : Value}
    {f14 : Addr} {od14 an14 : Option Addr} {sl14 : Array (Option Value)} {oc14 kV14 dc14 pm14 cd14 ct14 : Value}
    {f15 : Addr} {od15 an15 : Option Addr} {sl15 : Array (Option Value)} {oc15 kV15 dc15 pm15 cd15 ct15 : Value}
    {f16 : Addr} {od16 an16 : Option Addr} {sl16 : Array (Option Value)} {oc16 kV16 dc16 pm16 cd16 ct16 : Value}
    {f17 : Addr} {od17 an17 : Option Addr} {sl17 : Array (Option Value)} {oc17 kV17 dc17 pm17 cd17 ct17 : Value}
    {f18 : Addr} {od18 an18 : Option Addr} {sl18 : Array (Option Value)} {oc18 kV18 dc18 pm18 cd18 ct18 : Value}
    {f19 : Addr} {od19 an19 : Option Addr} {sl19 : Array (Option Value)} {oc19 kV19 dc19 pm19 cd19 ct19 : Value}
    {f20 : Addr} {od20 an20 : Option Addr} {sl20 : Array (Option Value)} {oc20 kV20 dc20 pm20 cd20 ct20 : Value}
    {f21 : Addr} {od21 an21 : Option Addr} {sl21 : Array (Option Value)} {oc21 kV21 dc21 pm21 cd21 ct21 : Value}
    {f22 : Addr} {od22 an22 : Option Addr} {sl22 : Array (Option Value)} {oc22 kV22 dc22 pm22 cd22 ct22 : Value}
    {f23 : Addr} {od23 an23 : Option Addr} {sl23 : Array (Option Value)} {oc23 kV23 dc23 pm23 cd23 ct23 : Value}
    (aC_Machine : PySem.W.nsIn K mainGlobals "Machine" = some (some (.ref C_Machine))) (pg_Machine : PySem.W.plainGet K C_Machine Str.empty = true) (hd_Machine : PySem.W.hasDictIn K C_Machine = true) (po_Machine : PySem.W.plainOver K C_Machine = true) (sa_Machine : PySem.W.findIn K (.ref C_Machine) "__setattr__" = some (some (.builtin "object.__setattr__"))) (mk_Machine : PySem.W.makesIn K C_Machine = true) (kc_Machine : PySem.W.keepIn K (.ref C_Machine) = true)
    (aC_Pairs : PySem.W.nsIn K mainGlobals "Pairs" = some (some (.ref C_Pairs))) (pg_Pairs : PySem.W.plainGet K C_Pairs Str.empty = true) (hd_Pairs : PySem.W.hasDictIn K C_Pairs = true) (po_Pairs : PySem.W.plainOver K C_Pairs = true) (sa_Pairs : PySem.W.findIn K (.ref C_Pairs) "__setattr__" = some (some (.builtin "object.__setattr__"))) (mk_Pairs : PySem.W.makesIn K C_Pairs = true) (kc_Pairs : PySem.W.keepIn K (.ref C_Pairs) = true)
    (na_Machine_facts : PySem.W.findIn K (.ref C_Machine) "facts" = some none)
    (na_Machine_step : PySem.W.findIn K (.ref C_Machine) "step" = some none)
    (na_Machine_gain : PySem.W.findIn K (.ref C_Machine) "gain" = some none)
    (na_Machine_leave : PySem.W.findIn K (.ref C_Machine) "leave" = some none)
    (na_Pairs_end : PySem.W.findIn K (.ref C_Pairs) "end" = some none)
    (na_Pairs_facts : PySem.W.findIn K (.ref C_Pairs) "facts" = some none)
    (na_Pairs_pairs : PySem.W.findIn K (.ref C_Pairs) "pairs" = some none)
    (na_Pairs_places : PySem.W.findIn K (.ref C_Pairs) "places" = some none)
    (na_Pairs_step : PySem.W.findIn K (.ref C_Pairs) "step" = some none)
    (na_Pairs_gain : PySem.W.findIn K (.ref C_Pairs) "gain" = some none)
    (a0 : PySem.W.findIn K (.ref C_Machine) "__init__" = some (some (.ref f0))) (i0 : PySem.W.isFn K (.ref f0) = true)
    (l0 : K.lookup f0 = some ⟨oc0, od0, .func (PySem.W.fnOf "__init__" "Machine.__init__" (defArgs s_Machine_init) (defBody s_Machine_init) (defScope s_Machine_init) .none kV0 dc0 pm0 an0 cd0 ct0), sl0⟩) (c0 : PySem.W.codeIn K cd0 "Machine.__init__" = true) (k0 : PySem.W.keepIn K (.ref f0) = true)
    (a1 : PySem.W.nsIn K mainGlobals "place_of" = some (some (.ref f1)))
    (l1 : K.lookup f1 = some ⟨oc1, od1, .func (PySem.W.fnOf "place_of" "place_of" (defArgs s_place_of) (defBody s_place_of) (defScope s_place_of) .none kV1 dc1 pm1 an1 cd1 ct1), sl1⟩) (c1 : PySem.W.codeIn K cd1 "place_of" = true) (k1 : PySem.W.keepIn K (.ref f1) = true)
    (a2 : PySem.W.findIn K (.ref C_Pairs) "__init__" = some (some (.ref f2))) (i2 : PySem.W.isFn K (.ref f2) = true)
    (l2 : K.lookup f2 = some ⟨oc2, od2, .func (PySem.W.fnOf "__init__" "Pairs.__init__" (defArgs s_Pairs_init) (defBody s_Pairs_init) (defScope s_Pairs_init) .none kV2 dc2 pm2 an2 cd2 ct2), sl2⟩) (c2 : PySem.W.codeIn K cd2 "Pairs.__init__" = true) (k2 : PySem.W.keepIn K (.ref f2) = true)
    (a3 : PySem.W.findIn K (.ref C_Pairs) "many" = some (some (.ref f3))) (i3 : PySem.W.isFn K (.ref f3) = true)
    (l3 : K.lookup f3 = some ⟨oc3, od3, .func (PySem.W.fnOf "many" "Pairs.many" (defArgs s_Pairs_many) (defBody s_Pairs_many) (defScope s_Pairs_many) .none kV3 dc3 pm3 an3 cd3 ct3), sl3⟩) (c3 : PySem.W.codeIn K cd3 "Pairs.many" = true) (k3 : PySem.W.keepIn K (.ref f3) = true)
    (a4 : PySem.W.nsIn K mainGlobals "add_rows" = some (some (.ref f4)))
    (l4 : K.lookup f4 = some ⟨oc4, od4, .func (PySem.W.fnOf "add_rows" "add_rows" (defArgs s_add_rows) (defBody s_add_rows) (defScope s_add_rows) .none kV4 dc4 pm4 an4 cd4 ct4), sl4⟩) (c4 : PySem.W.codeIn K cd4 "add_rows" = true) (k4 : PySem.W.keepIn K (.ref f4) = true)
    (a5 : PySem.W.nsIn K mainGlobals "next_pair" = some (some (.ref f5)))
    (l5 : K.lookup f5 = some ⟨oc5, od5, .func (PySem.W.fnOf "next_pair" "next_pair" (defArgs s_next_pair) (defBody s_next_pair) (defScope s_next_pair) .none kV5 dc5 pm5 an5 cd5 ct5), sl5⟩) (c5 : PySem.W.codeIn K cd5 "next_pair" = true) (k5 : PySem.W.keepIn K (.ref f5) = true)
    (a6 : PySem.W.nsIn K mainGlobals "gain_ahead" = some (some (.ref f6)))
    (l6 : K.lookup f6 = some ⟨oc6, od6, .func (PySem.W.fnOf "gain_ahead" "gain_ahead" (defArgs s_gain_ahead) (defBody s_gain_ahead) (defScope s_gain_ahead) .none kV6 dc6 pm6 an6 cd6 ct6), sl6⟩) (c6 : PySem.W.codeIn K cd6 "gain_ahead" = true) (k6 : PySem.W.keepIn K (.ref f6) = true)
    (a7 : PySem.W.nsIn K mainGlobals "end_ahead" = some (some (.ref f7)))
    (l7 : K.lookup f7 = some ⟨oc7, od7, .func (PySem.W.fnOf "end_ahead" "end_ahead" (defArgs s_end_ahead) (defBody s_end_ahead) (defScope s_end_ahead) .none kV7 dc7 pm7 an7 cd7 ct7), sl7⟩) (c7 : PySem.W.codeIn K cd7 "end_ahead" = true) (k7 : PySem.W.keepIn K (.ref f7) = true)
    (a8 : PySem.W.nsIn K mainGlobals "first_ways" = some (some (.ref f8)))
    (l8 : K.lookup f8 = some ⟨oc8, od8, .func (PySem.W.fnOf "first_ways" "first_ways" (defArgs s_first_ways) (defBody s_first_ways) (defScope s_first_ways) .none kV8 dc8 pm8 an8 cd8 ct8), sl8⟩) (c8 : PySem.W.codeIn K cd8 "first_ways" = true) (k8 : PySem.W.keepIn K (.ref f8) = true)
    (a9 : PySem.W.nsIn K mainGlobals "career_to" = some (some (.ref f9)))
    (l9 : K.lookup f9 = some ⟨oc9, od9, .func (PySem.W.fnOf "career_to" "career_to" (defArgs s_career_to) (defBody s_career_to) (defScope s_career_to) .none kV9 dc9 pm9 an9 cd9 ct9), sl9⟩) (c9 : PySem.W.codeIn K cd9 "career_to" = true) (k9 : PySem.W.keepIn K (.ref f9) = true)
    (a10 : PySem.W.nsIn K mainGlobals "telling_career" = some (some (.ref f10)))
    (l10 : K.lookup f10 = some ⟨oc10, od10, .func (PySem.W.fnOf "telling_career" "telling_career" (defArgs s_telling_career) (defBody s_telling_career) (defScope s_telling_career) .none kV10 dc10 pm10 an10 cd10 ct10), sl10⟩) (c10 : PySem.W.codeIn K cd10 "telling_career" = true) (k10 : PySem.W.keepIn K (.ref f10) = true)
    (a11 : PySem.W.nsIn K mainGlobals "are_alike" = some (some (.ref f11)))
    (l11 : K.lookup f11 = some ⟨oc11, od11, .func (PySem.W.fnOf "are_alike" "are_alike" (defArgs s_are_alike) (defBody s_are_alike) (defScope s_are_alike) .none kV11 dc11 pm11 an11 cd11 ct11), sl11⟩) (c11 : PySem.W.codeIn K cd11 "are_alike" = true) (k11 : PySem.W.keepIn K (.ref f11) = true)
    (a12 : PySem.W.nsIn K mainGlobals "_law_cell" = some (some (.ref f12)))
    (l12 : K.lookup f12 = some ⟨oc12, od12, .func (PySem.W.fnOf "_law_cell" "_law_cell" (defArgs s_law_cell) (defBody s_law_cell) (defScope s_law_cell) .none kV12 dc12 pm12 an12 cd12 ct12), sl12⟩) (c12 : PySem.W.codeIn K cd12 "_law_cell" = true) (k12 : PySem.W.keepIn K (.ref f12) = true)
    (a13 : PySem.W.nsIn K mainGlobals "_law_row" = some (some (.ref f13)))
    (l13 : K.lookup f13 = some ⟨oc13, od13, .func (PySem.W.fnOf "_law_row" "_law_row" (defArgs s_law_row) (defBody s_law_row) (defScope s_law_row) .none kV13 dc13 pm13 an13 cd13 ct13), sl13⟩) (c13 : PySem.W.codeIn K cd13 "_law_row" = true) (k13 : PySem.W.keepIn K (.ref f13) = true)
    (a14 : PySem.W.nsIn K mainGlobals "_law_box" = some (some (.ref f14)))
    (l14 : K.lookup f14 = some ⟨oc14, od14, .func (PySem.W.fnOf "_law_box" "_law_box" (defArgs s_law_box) (defBody s_law_box) (defScope s_law_box) .none kV14 dc14 pm14 an14 cd14 ct14), sl14⟩) (c14 : PySem.W.codeIn K cd14 "_law_box" = true) (k14 : PySem.W.keepIn K (.ref f14) = true)
    (a15 : PySem.W.nsIn K mainGlobals "_law_draw" = some (some (.ref f15)))
    (l15 : K.lookup f15 = some ⟨oc15, od15, .func (PySem.W.fnOf "_law_draw" "_law_draw" (defArgs s_law_draw) (defBody s_law_draw) (defScope s_law_draw) .none kV15 dc15 pm15 an15 cd15 ct15), sl15⟩) (c15 : PySem.W.codeIn K cd15 "_law_draw" = true) (k15 : PySem.W.keepIn K (.ref f15) = true)
    (a16 : PySem.W.nsIn K mainGlobals "_law_same" = some (some (.ref f16)))
    (l16 : K.lookup f16 = some ⟨oc16, od16, .func (PySem.W.fnOf "_law_same" "_law_same" (defArgs s_law_same) (defBody s_law_same) (defScope s_law_same) .none kV16 dc16 pm16 an16 cd16 ct16), sl16⟩) (c16 : PySem.W.codeIn K cd16 "_law_same" = true) (k16 : PySem.W.keepIn K (.ref f16) = true)
    (a17 : PySem.W.nsIn K mainGlobals "_law_facts" = some (some (.ref f17)))
    (l17 : K.lookup f17 = some ⟨oc17, od17, .func (PySem.W.fnOf "_law_facts" "_law_facts" (defArgs s_law_facts) (defBody s_law_facts) (defScope s_law_facts) .none kV17 dc17 pm17 an17 cd17 ct17), sl17⟩) (c17 : PySem.W.codeIn K cd17 "_law_facts" = true) (k17 : PySem.W.keepIn K (.ref f17) = true)
    (a18 : PySem.W.nsIn K mainGlobals "_law_machine" = some (some (.ref f18)))
    (l18 : K.lookup f18 = some ⟨oc18, od18, .func (PySem.W.fnOf "_law_machine" "_law_machine" (defArgs s_law_machine) (defBody s_law_machine) (defScope s_law_machine) .none kV18 dc18 pm18 an18 cd18 ct18), sl18⟩) (c18 : PySem.W.codeIn K cd18 "_law_machine" = true) (k18 : PySem.W.keepIn K (.ref f18) = true)
    (a19 : PySem.W.nsIn K mainGlobals "_law_twin" = some (some (.ref f19)))
    (l19 : K.lookup f19 = some ⟨oc19, od19, .func (PySem.W.fnOf "_law_twin" "_law_twin" (defArgs s_law_twin) (defBody s_law_twin) (defScope s_law_twin) .none kV19 dc19 pm19 an19 cd19 ct19), sl19⟩) (c19 : PySem.W.codeIn K cd19 "_law_twin" = true) (k19 : PySem.W.keepIn K (.ref f19) = true)
    (a20 : PySem.W.nsIn K mainGlobals "_law_near" = some (some (.ref f20)))
    (l20 : K.lookup f20 = some ⟨oc20, od20, .func (PySem.W.fnOf "_law_near" "_law_near" (defArgs s_law_near) (defBody s_law_near) (defScope s_law_near) .none kV20 dc20 pm20 an20 cd20 ct20), sl20⟩) (c20 : PySem.W.codeIn K cd20 "_law_near" = true) (k20 : PySem.W.keepIn K (.ref f20) = true)
    (a21 : PySem.W.nsIn K mainGlobals "_law_careers" = some (some (.ref f21)))
    (l21 : K.lookup f21 = some ⟨oc21, od21, .func (PySem.W.fnOf "_law_careers" "_law_careers" (defArgs s_law_careers) (defBody s_law_careers) (defScope s_law_careers) .none kV21 dc21 pm21 an21 cd21 ct21), sl21⟩) (c21 : PySem.W.codeIn K cd21 "_law_careers" = true) (k21 : PySem.W.keepIn K (.ref f21) = true)
    (a22 : PySem.W.nsIn K mainGlobals "_law_total" = some (some (.ref f22)))
    (l22 : K.lookup f22 = some ⟨oc22, od22, .func (PySem.W.fnOf "_law_total" "_law_total" (defArgs s_law_total) (defBody s_law_total) (defScope s_law_total) .none kV22 dc22 pm22 an22 cd22 ct22), sl22⟩) (c22 : PySem.W.codeIn K cd22 "_law_total" = true) (k22 : PySem.W.keepIn K (.ref f22) = true)
    (a23 : PySem.W.nsIn K mainGlobals "law" = some (some (.ref f23)))
    (l23 : K.lookup f23 = some ⟨oc23, od23, .func (PySem.W.fnOf "law" "law" (defArgs s_law) (defBody s_law) (defScope s_law) .none kV23 dc23 pm23 an23 cd23 ct23), sl23⟩) (c23 : PySem.W.codeIn K cd23 "law" = true) (k23 : PySem.W.keepIn K (.ref f23) = true)
    (z_range : PySem.W.nsIn K mainGlobals "range" = some none)
    (z_len : PySem.W.nsIn K mainGlobals "len" = some none)
    (z_int : PySem.W.nsIn K mainGlobals "int" = some none)
    (z_list : PySem.W.nsIn K mainGlobals "list" = some none)
    (z_dict : PySem.W.nsIn K mainGlobals "dict" = some none)
    (z_repr : PySem.W.nsIn K mainGlobals "repr" = some none)
    (z_min : PySem.W.nsIn K mainGlobals "min" = some none) :
    ∃ fd : FuncData, (∀ (s : Shared) (v : Value), BindsTo s fd ⟨[v], []⟩ [("script", v)]) ∧ ∀ base : Heap, K.In base → base.Ns mainGlobals mg → FnG l.prog w K mg base CX0 7 fa fd ["script"] (spS 1 (P_law K)) := by
  have e := hfa.symm.trans (PySem.W.mg_of X G a23)
  cases e
  have cl_Machine : Cls K C_Machine := ⟨pg_Machine, hd_Machine, po_Machine, sa_Machine⟩
  have cl_Pairs : Cls K C_Pairs := ⟨pg_Pairs, hd_Pairs, po_Pairs, sa_Pairs⟩
  have F0 := fun_mk (st := s_Machine_init) l0 c0 k0
  have B0 := F0.binds (ps := ["self", "facts", "step", "gain", "leave"]) fun _ _ _ _ _ _ us hl => match us, hl with | [_, _, _, _, _], _ => rfl
  have F1 := fun_mk (st := s_place_of) l1 c1 k1
  have B1 := F1.binds (ps := ["key", "met", "places"]) fun _ _ _ _ _ _ us hl => match us, hl with | [_, _, _], _ => rfl
  have D1 : DefAt K mg "place_of" s_place_of ["key", "met", "places"] := ⟨_, _, F1, PySem.W.mg_of X G a1, B1⟩
  have F2 := fun_mk (st := s_Pairs_init) l2 c2 k2
  have B2 := F2.binds (ps := ["self", "machine", "other", "begins"]) fun _ _ _ _ _ _ us hl => match us, hl with | [_, _, _, _], _ => rfl
  have F3 := fun_mk (st := s_Pairs_many) l3 c3 k3
  have B3 := F3.binds (ps := ["self"]) fun _ _ _ _ _ _ us hl => match us, hl with | [_], _ => rfl
  have F4 := fun_mk (st := s_add_rows) l4 c4 k4
  have B4 := F4.binds (ps := ["pairs", "machine", "other", "pair"]) fun _ _ _ _ _ _ us hl => match us, hl with | [_, _, _, _], _ => rfl
  have D4 : DefAt K mg "add_rows" s_add_rows ["pairs", "machine", "other", "pair"] := ⟨_, _, F4, PySem.W.mg_of X G a4, B4⟩
  have F5 := fun_mk (st := s_next_pair) l5 c5 k5
  have B5 := F5.binds (ps := ["machine", "other", "pair", "fact"]) fun _ _ _ _ _ _ us hl => match us, hl with | [_, _, _, _], _ => rfl
  have D5 : DefAt K mg "next_pair" s_next_pair ["machine", "other", "pair", "fact"] := ⟨_, _, F5, PySem.W.mg_of X G a5, B5⟩
  have F6 := fun_mk (st := s_gain_ahead) l6 c6 k6
  have B6 := F6.binds (ps := ["machine", "other", "pair", "fact"]) fun _ _ _ _ _ _ us hl => match us, hl with | [_, _, _, _], _ => rfl
  have D6 : DefAt K mg "gain_ahead" s_gain_ahead ["machine", "other", "pair", "fact"] := ⟨_, _, F6, PySem.W.mg_of X G a6, B6⟩
  have F7 := fun_mk (st := s_end_ahead) l7 c7 k7
  have B7 := F7.binds (ps := ["machine", "other", "pair"]) fun _ _ _ _ _ _ us hl => match us, hl with | [_, _, _], _ => rfl
  have D7 : DefAt K mg "end_ahead" s_end_ahead ["machine", "other", "pair"] := ⟨_, _, F7, PySem.W.mg_of X G a7, B7⟩
  have F8 := fun_mk (st := s_first_ways) l8 c8 k8
  have B8 := F8.binds (ps := ["facts", "step", "begins"]) fun _ _ _ _ _ _ us hl => match us, hl with | [_, _, _], _ => rfl
  have D8 : DefAt K mg "first_ways" s_first_ways ["facts", "step", "begins"] := ⟨_, _, F8, PySem.W.mg_of X G a8, B8⟩
  have F9 := fun_mk (st := s_career_to) l9 c9 k9
  have B9 := F9.binds (ps := ["ways", "place"]) fun _ _ _ _ _ _ us hl => match us, hl with | [_, _], _ => rfl
  have D9 : DefAt K mg "career_to" s_career_to ["ways", "place"] := ⟨_, _, F9, PySem.W.mg_of X G a9, B9⟩
  have F10 := fun_mk (st := s_telling_career) l10 c10 k10
  have B10 := F10.binds (ps := ["machine", "other"]) fun _ _ _ _ _ _ us hl => match us, hl with | [_, _], _ => rfl
  have D10 : DefAt K mg "telling_career" s_telling_career ["machine", "other"] := ⟨_, _, F10, PySem.W.mg_of X G a10, B10⟩
  have F11 := fun_mk (st := s_are_alike) l11 c11 k11
  have B11 := F11.binds (ps := ["machine", "other"]) fun _ _ _ _ _ _ us hl => match us, hl with | [_, _], _ => rfl
  have D11 : DefAt K mg "are_alike" s_are_alike ["machine", "other"] := ⟨_, _, F11, PySem.W.mg_of X G a11, B11⟩
  have F12 := fun_mk (st := s_law_cell) l12 c12 k12
  have B12 := F12.binds (ps := ["script", "k"]) fun _ _ _ _ _ _ us hl => match us, hl with | [_, _], _ => rfl
  have D12 : DefAt K mg "_law_cell" s_law_cell ["script", "k"] := ⟨_, _, F12, PySem.W.mg_of X G a12, B12⟩
  have F13 := fun_mk (st := s_law_row) l13 c13 k13
  have B13 := F13.binds (ps := ["cell", "k", "many"]) fun _ _ _ _ _ _ us hl => match us, hl with | [_, _, _], _ => rfl
  have D13 : DefAt K mg "_law_row" s_law_row ["cell", "k", "many"] := ⟨_, _, F13, PySem.W.mg_of X G a13, B13⟩
  have F14 := fun_mk (st := s_law_box) l14 c14 k14
  have B14 := F14.binds (ps := ["script", "first", "last"]) fun _ _ _ _ _ _ us hl => match us, hl with | [_, _, _], _ => rfl
  have D14 : DefAt K mg "_law_box" s_law_box ["script", "first", "last"] := ⟨_, _, F14, PySem.W.mg_of X G a14, B14⟩
  have F15 := fun_mk (st := s_law_draw) l15 c15 k15
  have B15 := F15.binds (ps := ["box", "many"]) fun _ _ _ _ _ _ us hl => match us, hl with | [_, _], _ => rfl
  have D15 : DefAt K mg "_law_draw" s_law_draw ["box", "many"] := ⟨_, _, F15, PySem.W.mg_of X G a15, B15⟩
  have F16 := fun_mk (st := s_law_same) l16 c16 k16
  have B16 := F16.binds (ps := ["one", "other"]) fun _ _ _ _ _ _ us hl => match us, hl with | [_, _], _ => rfl
  have D16 : DefAt K mg "_law_same" s_law_same ["one", "other"] := ⟨_, _, F16, PySem.W.mg_of X G a16, B16⟩
  have F17 := fun_mk (st := s_law_facts) l17 c17 k17
  have B17 := F17.binds (ps := ["box"]) fun _ _ _ _ _ _ us hl => match us, hl with | [_], _ => rfl
  have D17 : DefAt K mg "_law_facts" s_law_facts ["box"] := ⟨_, _, F17, PySem.W.mg_of X G a17, B17⟩
  have F18 := fun_mk (st := s_law_machine) l18 c18 k18
  have B18 := F18.binds (ps := ["box", "facts", "most"]) fun _ _ _ _ _ _ us hl => match us, hl with | [_, _, _], _ => rfl
  have D18 : DefAt K mg "_law_machine" s_law_machine ["box", "facts", "most"] := ⟨_, _, F18, PySem.W.mg_of X G a18, B18⟩
  have F19 := fun_mk (st := s_law_twin) l19 c19 k19
  have B19 := F19.binds (ps := ["box", "machine"]) fun _ _ _ _ _ _ us hl => match us, hl with | [_, _], _ => rfl
  have D19 : DefAt K mg "_law_twin" s_law_twin ["box", "machine"] := ⟨_, _, F19, PySem.W.mg_of X G a19, B19⟩
  have F20 := fun_mk (st := s_law_near) l20 c20 k20
  have B20 := F20.binds (ps := ["box", "machine"]) fun _ _ _ _ _ _ us hl => match us, hl with | [_, _], _ => rfl
  have D20 : DefAt K mg "_law_near" s_law_near ["box", "machine"] := ⟨_, _, F20, PySem.W.mg_of X G a20, B20⟩
  have F21 := fun_mk (st := s_law_careers) l21 c21 k21
  have B21 := F21.binds (ps := ["facts", "most"]) fun _ _ _ _ _ _ us hl => match us, hl with | [_, _], _ => rfl
  have D21 : DefAt K mg "_law_careers" s_law_careers ["facts", "most"] := ⟨_, _, F21, PySem.W.mg_of X G a21, B21⟩
  have F22 := fun_mk (st := s_law_total) l22 c22 k22
  have B22 := F22.binds (ps := ["machine", "state", "career"]) fun _ _ _ _ _ _ us hl => match us, hl with | [_, _, _], _ => rfl
  have D22 : DefAt K mg "_law_total" s_law_total ["machine", "state", "career"] := ⟨_, _, F22, PySem.W.mg_of X G a22, B22⟩
  have F23 := fun_mk (st := s_law) l23 c23 k23
  have B23 := F23.binds (ps := ["script"]) fun _ _ _ _ _ _ us hl => match us, hl with | [_], _ => rfl
  have D23 : DefAt K mg "law" s_law ["script"] := ⟨_, _, F23, PySem.W.mg_of X G a23, B23⟩
  have m_range := PySem.W.mg_none_of X G z_range
  have m_len := PySem.W.mg_none_of X G z_len
  have m_int := PySem.W.mg_none_of X G z_int
  have m_list := PySem.W.mg_none_of X G z_list
  have m_dict := PySem.W.mg_none_of X G z_dict
  have m_repr := PySem.W.mg_none_of X G z_repr
  have m_min := PySem.W.mg_none_of X G z_min
  refine ⟨PySem.W.fnOf "law" "law" (defArgs s_law) (defBody s_law) (defScope s_law) .none kV23 dc23 pm23 an23 cd23 ct23, fun s v => .of_eq rfl, fun base _ _ => ?_⟩
  have C_law_row : CalG l.prog w K mg base CX0 1 "_law_row" ["cell", "k", "many"] (spS 3 P_law_row) := Sl.DefAt.cal D13 fun f0 fd F => ok_law_row (P := l.prog) (w := w) (base := base) m_range m_len m_int F
  have C_law_cell : CalG l.prog w K mg base CX0 1 "_law_cell" ["script", "k"] (spS 2 (P_law_cell K)) := Sl.DefAt.cal D12 fun f0 fd F => ok_law_cell (P := l.prog) (w := w) (base := base) m_len F
  have C_law_box : CalG l.prog w K mg base CX0 2 "_law_box" ["script", "first", "last"] (spS 3 (P_law_box K)) := Sl.DefAt.cal D14 fun f0 fd F => ok_law_box (P := l.prog) (w := w) (base := base) m_range C_law_cell C_law_row F
  have C_law_draw : CalG l.prog w K mg base CX0 1 "_law_draw" ["box", "many"] (spS 2 P_law_draw) := Sl.DefAt.cal D15 fun f0 fd F => ok_law_draw (P := l.prog) (w := w) (base := base) m_len m_int F
  have C_law_facts : CalG l.prog w K mg base CX0 2 "_law_facts" ["box"] (spS 1 P_law_facts) := Sl.DefAt.cal D17 fun f0 fd F => ok_law_facts (P := l.prog) (w := w) (base := base) C_law_draw F
  have M_Machine : Mkr l.prog w K mg base 1 C_Machine "Machine" ["self", "facts", "step", "gain", "leave"] (spS 5 (P_Machine_init C_Machine)) := ⟨_, _, ⟨mk_Machine, a0, i0, kc_Machine⟩, ok_Machine_init (P := l.prog) (w := w) (base := base) m_list cl_Machine na_Machine_facts m_dict na_Machine_step na_Machine_gain na_Machine_leave F0, B0, PySem.W.mg_of X G aC_Machine⟩
  have C_law_machine : CalG l.prog w K mg base CX0 3 "_law_machine" ["box", "facts", "most"] (spS 3 (P_law_machine C_Machine)) := Sl.DefAt.cal D18 fun f0 fd F => ok_law_machine (P := l.prog) (w := w) (base := base) C_law_draw m_range m_int m_dict M_Machine F
  have C_law_twin : CalG l.prog w K mg base CX0 3 "_law_twin" ["box", "machine"] (spS 2 (P_law_twin C_Machine)) := Sl.DefAt.cal D19 fun f0 fd F => ok_law_twin (P := l.prog) (w := w) (base := base) cl_Machine na_Machine_leave m_len m_range C_law_draw m_int na_Machine_facts na_Machine_step na_Machine_gain m_list M_Machine F
  have C_place_of : CalG l.prog w K mg base CX0 1 "place_of" ["key", "met", "places"] (spS 3 P_place_of) := Sl.DefAt.cal D1 fun f0 fd F => ok_place_of (P := l.prog) (w := w) (base := base) m_len F
  have N_Pairs_manyR : Met l.prog w K mg base 1 C_Pairs "many" ["self"] (spR 1 (P_Pairs_manyR C_Pairs)) := ⟨_, _, ⟨a3, i3, k3⟩, ok_Pairs_manyR (P := l.prog) (w := w) (base := base) cl_Pairs na_Pairs_end m_len F3, B3⟩
  have C_next_pair : CalG l.prog w K mg base CX0 1 "next_pair" ["machine", "other", "pair", "fact"] (spS 4 (P_next_pair C_Machine)) := Sl.DefAt.cal D5 fun f0 fd F => ok_next_pair (P := l.prog) (w := w) (base := base) cl_Machine na_Machine_step F
  have C_gain_ahead : CalG l.prog w K mg base CX0 1 "gain_ahead" ["machine", "other", "pair", "fact"] (spS 4 (P_gain_ahead C_Machine)) := Sl.DefAt.cal D6 fun f0 fd F => ok_gain_ahead (P := l.prog) (w := w) (base := base) cl_Machine na_Machine_gain F
  have C_end_ahead : CalG l.prog w K mg base CX0 1 "end_ahead" ["machine", "other", "pair"] (spS 3 (P_end_ahead C_Machine)) := Sl.DefAt.cal D7 fun f0 fd F => ok_end_ahead (P := l.prog) (w := w) (base := base) cl_Machine na_Machine_leave F
  have C_add_rows : CalG l.prog w K mg base CX0 2 "add_rows" ["pairs", "machine", "other", "pair"] (spS 4 (P_add_rows C_Machine C_Pairs)) := Sl.DefAt.cal D4 fun f0 fd F => ok_add_rows (P := l.prog) (w := w) (base := base) cl_Pairs na_Pairs_facts C_next_pair na_Pairs_pairs na_Pairs_places C_place_of na_Pairs_step na_Pairs_gain C_gain_ahead na_Pairs_end C_end_ahead F
  have M_Pairs : Mkr l.prog w K mg base 3 C_Pairs "Pairs" ["self", "machine", "other", "begins"] (spS 4 (P_Pairs_init C_Machine C_Pairs)) := ⟨_, _, ⟨mk_Pairs, a2, i2, kc_Pairs⟩, ok_Pairs_init (P := l.prog) (w := w) (base := base) cl_Machine na_Machine_facts m_list cl_Pairs na_Pairs_facts na_Pairs_pairs na_Pairs_places na_Pairs_step na_Pairs_gain na_Pairs_end C_place_of N_Pairs_manyR m_len C_add_rows F2, B2, PySem.W.mg_of X G aC_Pairs⟩
  have C_first_ways : CalG l.prog w K mg base CX0 1 "first_ways" ["facts", "step", "begins"] (spS 3 P_first_ways) := Sl.DefAt.cal D8 fun f0 fd F => ok_first_ways (P := l.prog) (w := w) (base := base) m_list m_len F
  have N_Pairs_many : Met l.prog w K mg base 1 C_Pairs "many" ["self"] (spS 1 (P_Pairs_many C_Pairs)) := ⟨_, _, ⟨a3, i3, k3⟩, ok_Pairs_many (P := l.prog) (w := w) (base := base) cl_Pairs na_Pairs_end m_len F3, B3⟩
  have C_career_to : CalG l.prog w K mg base CX0 1 "career_to" ["ways", "place"] (spS 2 P_career_to) := Sl.DefAt.cal D9 fun f0 fd F => ok_career_to (P := l.prog) (w := w) (base := base)  F
  have C_telling_career : CalG l.prog w K mg base CX0 5 "telling_career" ["machine", "other"] (spS 2 (P_telling_career C_Machine)) := Sl.DefAt.cal D10 fun f0 fd F => ok_telling_career (P := l.prog) (w := w) (base := base) M_Pairs cl_Pairs na_Pairs_end na_Pairs_facts na_Pairs_step C_first_ways N_Pairs_many m_range na_Pairs_gain C_career_to F
  have C_are_alike : CalG l.prog w K mg base CX0 6 "are_alike" ["machine", "other"] (spS 2 (P_are_alike C_Machine)) := Sl.DefAt.cal D11 fun f0 fd F => ok_are_alike (P := l.prog) (w := w) (base := base) C_telling_career F
  have C_law_near : CalG l.prog w K mg base CX0 3 "_law_near" ["box", "machine"] (spS 2 (P_law_near C_Machine)) := Sl.DefAt.cal D20 fun f0 fd F => ok_law_near (P := l.prog) (w := w) (base := base) cl_Machine na_Machine_leave m_len na_Machine_step m_dict na_Machine_gain m_list C_law_draw m_int na_Machine_facts M_Machine F
  have C_law_same : CalG l.prog w K mg base CX0 1 "_law_same" ["one", "other"] (spS 2 Psame) := Sl.DefAt.cal D16 fun f0 fd F => ok_law_same (P := l.prog) (w := w) (base := base) m_repr F
  have C_law_total : CalG l.prog w K mg base CX0 1 "_law_total" ["machine", "state", "career"] (spS 3 (P_law_total C_Machine)) := Sl.DefAt.cal D22 fun f0 fd F => ok_law_total (P := l.prog) (w := w) (base := base) cl_Machine na_Machine_gain na_Machine_step na_Machine_leave F
  have C_law_careers : CalG l.prog w K mg base CX0 1 "_law_careers" ["facts", "most"] (spS 2 P_law_careers) := Sl.DefAt.cal D21 fun f0 fd F => ok_law_careers (P := l.prog) (w := w) (base := base) m_range F
  exact ok_law (P := l.prog) (w := w) (base := base) C_law_box C_law_facts C_law_machine C_law_twin C_telling_career C_are_alike C_law_near C_law_same m_len C_law_total m_min C_law_careers F23
end K44
open PySem PySem.W PyProof.Rows
set_option maxRecDepth 100000 in
set_option maxHeartbeats 0 in
theorem PySem.Challenge.cw_movedyears_k44_alike_or_a_career_that_te_holds : PySem.Challenge.rw_movedyears_k44_alike_or_a_career_that_te.Holds := by
  w_on; o_law; k_head; (case hw => w_witness2)
  k_fill
  refine Sl.walk_ofG (l := PySem.Challenge.rw_movedyears_k44_alike_or_a_career_that_te) (n := 63) (k := 7) (x := "script") (sp := fun w => Sl.spS 1 (K44.P_law _)) rfl (by decide) rfl ⟨rfl, by decide, by decide⟩ (fun w h Y => PySem.W.kIn_of Y) ?F (fun w H a ns hl _ hS => ⟨H, [], [], [Sl.fz (Sl.tScr _) ns], Sl.fz Sl.tBool true, [], rfl, Dl.HH.init H, ⟨.ref a, [], [], [], rfl, rfl, ⟨rfl, a, rfl, hS⟩, rfl, rfl⟩, ⟨ns, true, K44.law_true ns hl, rfl, rfl, rfl⟩, fun v G' o ow' H' _ _ ⟨_, e⟩ _ => e⟩)
  case F =>
    intro w mg fa h KX G hmg
    refine' K44.all_mk KX G hmg ?aC_Machine ?pg_Machine ?hd_Machine ?po_Machine ?sa_Machine ?mk_Machine ?kc_Machine ?aC_Pairs ?pg_Pairs ?hd_Pairs ?po_Pairs ?sa_Pairs ?mk_Pairs ?kc_Pairs ?na_Machine_facts ?na_Machine_step ?na_Machine_gain ?na_Machine_leave ?na_Pairs_end ?na_Pairs_facts ?na_Pairs_pairs ?na_Pairs_places ?na_Pairs_step ?na_Pairs_gain ?a0 ?i0 ?l0 ?c0 ?k0 ?a1 ?l1 ?c1 ?k1 ?a2 ?i2 ?l2 ?c2 ?k2 ?a3 ?i3 ?l3 ?c3 ?k3 ?a4 ?l4 ?c4 ?k4 ?a5 ?l5 ?c5 ?k5 ?a6 ?l6 ?c6 ?k6 ?a7 ?l7 ?c7 ?k7 ?a8 ?l8 ?c8 ?k8 ?a9 ?l9 ?c9 ?k9 ?a10 ?l10 ?c10 ?k10 ?a11 ?l11 ?c11 ?k11 ?a12 ?l12 ?c12 ?k12 ?a13 ?l13 ?c13 ?k13 ?a14 ?l14 ?c14 ?k14 ?a15 ?l15 ?c15 ?k15 ?a16 ?l16 ?c16 ?k16 ?a17 ?l17 ?c17 ?k17 ?a18 ?l18 ?c18 ?k18 ?a19 ?l19 ?c19 ?k19 ?a20 ?l20 ?c20 ?k20 ?a21 ?l21 ?c21 ?k21 ?a22 ?l22 ?c22 ?k22 ?a23 ?l23 ?c23 ?k23 ?z_range ?z_len ?z_int ?z_list ?z_dict ?z_repr ?z_min
    (case aC_Machine => k_is)
    (case pg_Machine => k_is)
    (case hd_Machine => k_is)
    (case po_Machine => k_is)
    (case sa_Machine => k_is)
    (case mk_Machine => k_is)
    (case kc_Machine => k_is)
    (case aC_Pairs => k_is)
    (case pg_Pairs => k_is)
    (case hd_Pairs => k_is)
    (case po_Pairs => k_is)
    (case sa_Pairs => k_is)
    (case mk_Pairs => k_is)
    (case kc_Pairs => k_is)
    (case na_Machine_facts => k_is)
    (case na_Machine_step => k_is)
    (case na_Machine_gain => k_is)
    (case na_Machine_leave => k_is)
    (case na_Pairs_end => k_is)
    (case na_Pairs_facts => k_is)
    (case na_Pairs_pairs => k_is)
    (case na_Pairs_places => k_is)
    (case na_Pairs_step => k_is)
    (case na_Pairs_gain => k_is)
    (case a0 => k_is)
    (case i0 => k_is)
    (case l0 => k_is)
    (case c0 => k_is)
    (case k0 => k_is)
    (case a1 => k_is)
    (case l1 => k_is)
    (case c1 => k_is)
    (case k1 => k_is)
    (case a2 => k_is)
    (case i2 => k_is)
    (case l2 => k_is)
    (case c2 => k_is)
    (case k2 => k_is)
    (case a3 => k_is)
    (case i3 => k_is)
    (case l3 => k_is)
    (case c3 => k_is)
    (case k3 => k_is)
    (case a4 => k_is)
    (case l4 => k_is)
    (case c4 => k_is)
    (case k4 => k_is)
    (case a5 => k_is)
    (case l5 => k_is)
    (case c5 => k_is)
    (case k5 => k_is)
    (case a6 => k_is)
    (case l6 => k_is)
    (case c6 => k_is)
    (case k6 => k_is)
    (case a7 => k_is)
    (case l7 => k_is)
    (case c7 => k_is)
    (case k7 => k_is)
    (case a8 => k_is)
    (case l8 => k_is)
    (case c8 => k_is)
    (case k8 => k_is)
    (case a9 => k_is)
    (case l9 => k_is)
    (case c9 => k_is)
    (case k9 => k_is)
    (case a10 => k_is)
    (case l10 => k_is)
    (case c10 => k_is)
    (case k10 => k_is)
    (case a11 => k_is)
    (case l11 => k_is)
    (case c11 => k_is)
    (case k11 => k_is)
    (case a12 => k_is)
    (case l12 => k_is)
    (case c12 => k_is)
    (case k12 => k_is)
    (case a13 => k_is)
    (case l13 => k_is)
    (case c13 => k_is)
    (case k13 => k_is)
    (case a14 => k_is)
    (case l14 => k_is)
    (case c14 => k_is)
    (case k14 => k_is)
    (case a15 => k_is)
    (case l15 => k_is)
    (case c15 => k_is)
    (case k15 => k_is)
    (case a16 => k_is)
    (case l16 => k_is)
    (case c16 => k_is)
    (case k16 => k_is)
    (case a17 => k_is)
    (case l17 => k_is)
    (case c17 => k_is)
    (case k17 => k_is)
    (case a18 => k_is)
    (case l18 => k_is)
    (case c18 => k_is)
    (case k18 => k_is)
    (case a19 => k_is)
    (case l19 => k_is)
    (case c19 => k_is)
    (case k19 => k_is)
    (case a20 => k_is)
    (case l20 => k_is)
    (case c20 => k_is)
    (case k20 => k_is)
    (case a21 => k_is)
    (case l21 => k_is)
    (case c21 => k_is)
    (case k21 => k_is)
    (case a22 => k_is)
    (case l22 => k_is)
    (case c22 => k_is)
    (case k22 => k_is)
    (case a23 => k_is)
    (case l23 => k_is)
    (case c23 => k_is)
    (case k23 => k_is)
    (case z_range => k_is)
    (case z_len => k_is)
    (case z_int => k_is)
    (case z_list => k_is)
    (case z_dict => k_is)
    (case z_repr => k_is)
    (case z_min => k_is)

