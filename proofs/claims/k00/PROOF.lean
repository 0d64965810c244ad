import PyProof.Rows.All
import Wide.All
import OpenK.AllK
import Wide.FinOn
import HandS.ForMost
import HandS.IsInst
import HandS.Style
import PySem.Challenge.RW_movedyears_k00_conditions
set_option Elab.async false
set_option linter.all false
set_option maxRecDepth 100000
namespace Dl
open PySem PySem.Spec PyProof.Rows L2

/-! ### a heap in two parts: G, what never changes again and only grows; os, what is owned and may be written -/
abbrev Ow := List (Addr × HO)
def isDk : HO → Bool
  | .dK _ => true
  | .dT _ => true
  | _ => false
structure HH (G : Hp) (os : Ow) (H : Hp) : Prop where
  sub : ∀ a o, G a = some o → H a = some o ∨ (isDk o = true ∧ ∃ ob, H a = some (.frz ob o))
  own : ∀ p ∈ os, H p.1 = some p.2 ∧ (G p.1 = none ∨ ∃ ob u, p.2 = .frz ob u ∧ G p.1 = some u ∧ isDk u = true)
  nd : (os.map (·.1)).Nodup
section
variable {G G' G1 G2 H H' : Hp} {os os' : Ow} {p a : Addr} {o o' : HO}
theorem same_upd (h : H p = none) : Same H (upd H p o) := fun b x e => by
  rw [upd_ne (ne_of_none e h)]
  exact e
theorem HH.init (H : Hp) : HH H [] H := ⟨fun _ _ h => .inl h, fun _ h => (nomatch h), List.nodup_nil⟩
theorem HH.free (h : HH G os H) (n : H p = none) : G p = none := by
  cases q : G p with
  | none => rfl
  | some o =>
    rcases h.sub p o q with e | ⟨_, _, e⟩
    · rw [n] at e; cases e
    · rw [n] at e; cases e
theorem HH.alloc (h : HH G os H) (n : H p = none) : HH (upd G p o) os (upd H p o) := by
  refine ⟨fun a x e => ?_, fun q hq => ?_, h.nd⟩
  · by_cases ha : a = p
    · subst ha
      rw [upd_same] at e ⊢
      exact .inl e
    · rw [upd_ne ha] at e ⊢
      exact h.sub a x e
  · obtain ⟨e1, e2⟩ := h.own q hq
    have ne : q.1 ≠ p := ne_of_none e1 n
    rw [upd_ne ne, upd_ne ne]
    exact ⟨e1, e2⟩
theorem HH.sameG (h : HH G os H) (n : H p = none) : Same G (upd G p o) := same_upd (h.free n)
theorem HH.push (h : HH G os H) (n : H p = none) : HH G ((p, o) :: os) (upd H p o) := by
  refine ⟨fun a x e => ?_, fun q hq => ?_, ?_⟩
  · have ne : a ≠ p := ne_of_none e (h.free n)
    rw [upd_ne ne]
    exact h.sub a x e
  · rcases List.mem_cons.mp hq with rfl | hq
    · exact ⟨upd_same, .inl (h.free n)⟩
    · obtain ⟨e1, e2⟩ := h.own q hq
      rw [upd_ne (ne_of_none e1 n)]
      exact ⟨e1, e2⟩
  · show (p :: os.map (·.1)).Nodup
    refine List.nodup_cons.mpr ⟨fun m => ?_, h.nd⟩
    obtain ⟨q, hq, e⟩ := List.mem_map.mp m
    have e1 := (h.own q hq).1
    rw [e, n] at e1
    cases e1
theorem HH.get (h : HH G ((p, o) :: os) H) : H p = some o := (h.own (p, o) (List.mem_cons_self ..)).1
theorem HH.gnone (h : HH G ((p, o) :: os) H) (nf : isDk o = true ∨ ∀ ob u, o ≠ .frz ob u) : G p = none := by
  rcases (h.own (p, o) (List.mem_cons_self ..)).2 with e | ⟨ob, u, e, _⟩
  · exact e
  · rcases nf with k | k
    · have e : o = .frz ob u := e
      rw [e] at k
      cases k
    · exact absurd e (k ob u)
theorem HH.put (h : HH G ((p, o) :: os) H) (nf : isDk o = true ∨ ∀ ob u, o ≠ .frz ob u) : HH G ((p, o') :: os) (upd H p o') := by
  have gn := h.gnone nf
  have nd := h.nd
  have nd1 : (p :: os.map (·.1)).Nodup := nd
  have np := (List.nodup_cons.mp nd1).1
  refine ⟨fun a x e => ?_, fun q hq => ?_, nd⟩
  · rw [upd_ne (ne_of_none e gn)]
    exact h.sub a x e
  · rcases List.mem_cons.mp hq with rfl | hq
    · exact ⟨upd_same, .inl gn⟩
    · obtain ⟨e1, e2⟩ := h.own q (List.mem_cons_of_mem _ hq)
      have ne : q.1 ≠ p := fun e => np (e ▸ List.mem_map.mpr ⟨q, hq, rfl⟩)
      rw [upd_ne ne]
      exact ⟨e1, e2⟩
/-- an owned thing is given over to what never changes -/
theorem HH.give (h : HH G ((p, o) :: os) H) (nf : isDk o = true ∨ ∀ ob u, o ≠ .frz ob u) : HH (upd G p o) os H := by
  have gn := h.gnone nf
  have nd1 : (p :: os.map (·.1)).Nodup := h.nd
  have np := (List.nodup_cons.mp nd1).1
  refine ⟨fun a x e => ?_, fun q hq => ?_, (List.nodup_cons.mp nd1).2⟩
  · by_cases ha : a = p
    · subst ha
      rw [upd_same] at e
      cases e
      exact .inl h.get
    · rw [upd_ne ha] at e
      exact h.sub a x e
  · obtain ⟨e1, e2⟩ := h.own q (List.mem_cons_of_mem _ hq)
    have ne : q.1 ≠ p := fun e => np (e ▸ List.mem_map.mpr ⟨q, hq, rfl⟩)
    rw [upd_ne ne]
    exact ⟨e1, e2⟩
theorem HH.drop (h : HH G ((p, o) :: os) H) : HH G os H :=
  ⟨h.sub, fun q hq => h.own q (List.mem_cons_of_mem _ hq), (List.nodup_cons.mp (show (p :: os.map (·.1)).Nodup from h.nd)).2⟩
theorem HH.perm (h : HH G os H) (pm : os.Perm os') : HH G os' H :=
  ⟨h.sub, fun q hq => h.own q (pm.mem_iff.mpr hq), (pm.map (·.1)).nodup_iff.mp h.nd⟩
theorem HH.swap {q : Addr} (h : HH G ((p, o) :: (q, o') :: os) H) : HH G ((q, o') :: (p, o) :: os) H := h.perm (List.Perm.swap _ _ _)
theorem HH.lst {xs : List V} (h : HH G os H) (e : G a = some (.lst xs)) : H a = some (.lst xs) := by
  rcases h.sub a _ e with q | ⟨k, _⟩
  · exact q
  · cases k
theorem HH.tup {xs : List V} (h : HH G os H) (e : G a = some (.tup xs)) : H a = some (.tup xs) := by
  rcases h.sub a _ e with q | ⟨k, _⟩
  · exact q
  · cases k
theorem HH.ins {C dx : Addr} {fs : List (Str × V)} (h : HH G os H) (e : G a = some (.ins C dx fs)) : H a = some (.ins C dx fs) := by
  rcases h.sub a _ e with q | ⟨k, _⟩
  · exact q
  · cases k
theorem HH.rd (h : HH G os H) (e : G a = some o) : Rd H a o := by
  rcases h.sub a _ e with q | ⟨k, ob, q⟩
  · exact .inl q
  · exact .inr ⟨ob, q⟩
/-- what is written in SqL stays to be read -/
theorem HH.sq {K : PySem.W.Frag} {xs : List V} (h : HH G os H) (e : SqL K G a xs) : SqL K H a xs := by
  rcases e with (e | ⟨ob, e⟩) | e
  · exact .inl (.inl (h.lst e))
  · rcases h.sub a _ e with q | ⟨k, _⟩
    · exact .inl (.inr ⟨ob, q⟩)
    · cases k
  · exact .inr e
theorem HH.sqt {K : PySem.W.Frag} {xs : List V} (h : HH G os H) (e : SqT K G a xs) : SqT K H a xs := by
  rcases e with (e | ⟨ob, e⟩) | e
  · exact .inl (.inl (h.tup e))
  · rcases h.sub a _ e with q | ⟨k, _⟩
    · exact .inl (.inr ⟨ob, q⟩)
    · cases k
  · exact .inr e
end

/-! ### values as data -/
class Rp (α : Type) where
  rep : Hp → V → α → Prop
  mono : ∀ {G G' : Hp} {v : V} {x : α}, Same G G' → rep G v x → rep G' v x
abbrev rep {α : Type} [Rp α] (G : Hp) (v : V) (x : α) : Prop := Rp.rep G v x
end Dl

set_option Elab.async false
set_option linter.all false
set_option maxRecDepth 100000
namespace Dl
open PySem PySem.Spec PyProof.Rows L2
/-! ### kinds of data -/
instance : Rp Int := ⟨fun _ v i => v = .int i, fun _ h => h⟩
instance : Rp Bool := ⟨fun _ v i => v = .bl i, fun _ h => h⟩
instance : Rp Str := ⟨fun _ v i => v = .str i, fun _ h => h⟩
instance : Rp Unit := ⟨fun _ v _ => v = .non, fun _ h => h⟩
theorem paired_mono {α : Type} [Rp α] {G G' : Hp} (s : Same G G') : ∀ {vs : List V} {xs : List α}, Paired (rep G) vs xs → Paired (rep G') vs xs
  | _, _, .nil => .nil
  | _, _, .cons r t => .cons (Rp.mono s r) (paired_mono s t)
instance {α : Type} [Rp α] : Rp (List α) := ⟨fun G v xs => ∃ a vs, v = .ref a ∧ G a = some (.lst vs) ∧ Paired (rep G) vs xs, fun s ⟨a, vs, e, h, r⟩ => ⟨a, vs, e, s _ _ h, paired_mono s r⟩⟩
instance {α β : Type} [Rp α] [Rp β] : Rp (α × β) := ⟨fun G v x => ∃ a v1 v2, v = .ref a ∧ G a = some (.tup [v1, v2]) ∧ rep G v1 x.1 ∧ rep G v2 x.2, fun s ⟨a, v1, v2, e, h, r1, r2⟩ => ⟨a, v1, v2, e, s _ _ h, Rp.mono s r1, Rp.mono s r2⟩⟩
structure T3 (α β γ : Type) where
  a : α
  b : β
  c : γ
  deriving DecidableEq
instance {α β γ : Type} [Rp α] [Rp β] [Rp γ] : Rp (T3 α β γ) := ⟨fun G v x => ∃ a v1 v2 v3, v = .ref a ∧ G a = some (.tup [v1, v2, v3]) ∧ rep G v1 x.a ∧ rep G v2 x.b ∧ rep G v3 x.c,
  fun s ⟨a, v1, v2, v3, e, h, r1, r2, r3⟩ => ⟨a, v1, v2, v3, e, s _ _ h, Rp.mono s r1, Rp.mono s r2, Rp.mono s r3⟩⟩
/-- a dict with texts as keys -/
structure DS (α : Type) where
  kvs : List (Str × α)
  deriving DecidableEq
def KsR {α : Type} [Rp α] (G : Hp) (p : Key × V) (q : Str × α) : Prop := p.1 = Sum.inr q.1 ∧ rep G p.2 q.2
theorem ks_mono {α : Type} [Rp α] {G G' : Hp} (s : Same G G') : ∀ {vs : List (Key × V)} {xs : List (Str × α)}, Paired (KsR G) vs xs → Paired (KsR G') vs xs
  | _, _, .nil => .nil
  | _, _, .cons r t => .cons ⟨r.1, Rp.mono s r.2⟩ (ks_mono s t)
instance {α : Type} [Rp α] : Rp (DS α) := ⟨fun G v x => ∃ a vs, v = .ref a ∧ G a = some (.dK vs) ∧ Paired (KsR G) vs x.kvs, fun s ⟨a, vs, e, h, r⟩ => ⟨a, vs, e, s _ _ h, ks_mono s r⟩⟩
def DS.get {α : Type} (d : DS α) (c : Str) : Option α := (d.kvs.find? fun p => decide (p.1 = c)).map (·.2)
theorem ks_get {α : Type} [Rp α] {G : Hp} (c : Str) : ∀ {vs : List (Key × V)} {xs : List (Str × α)}, Paired (KsR G) vs xs → (∃ v x, valV vs (Sum.inr c) = some v ∧ (DS.mk xs).get c = some x ∧ rep G v x) ∨ (valV vs (Sum.inr c) = none ∧ (DS.mk xs).get c = none)
  | _, _, .nil => .inr ⟨rfl, rfl⟩
  | _, _, .cons (a := p) (b := q) r t => by
    by_cases e : q.1 = c
    · refine .inl ⟨p.2, q.2, valV_pos (r.1.trans (by rw [e])), ?_, r.2⟩
      unfold DS.get
      simp [List.find?_cons, e]
    · have ne : ¬ p.1 = Sum.inr c := fun z => e (by rw [r.1] at z; exact Sum.inr.inj z)
      rw [valV_neg ne]
      have q2 : (DS.mk (q :: ‹List (Str × α)›)).get c = (DS.mk ‹List (Str × α)›).get c := by
        unfold DS.get
        simp [List.find?_cons, e]
      rcases ks_get c t with ⟨v, x, h1, h2, h3⟩ | ⟨h1, h2⟩
      · exact .inl ⟨v, x, h1, by rw [q2]; exact h2, h3⟩
      · exact .inr ⟨h1, by rw [q2]; exact h2⟩
theorem ks_any {α : Type} [Rp α] {G : Hp} (c : Str) {vs : List (Key × V)} {xs : List (Str × α)} (r : Paired (KsR G) vs xs) : (valV vs (Sum.inr c)).isSome = ((DS.mk xs).get c).isSome := by
  rcases ks_get c r with ⟨v, x, h1, h2, _⟩ | ⟨h1, h2⟩
  · rw [h1, h2]; rfl
  · rw [h1, h2]; rfl
/-! ### lists that stand side by side -/
theorem pr_len {α β : Type} {F : α → β → Prop} {l : List α} {m : List β} (r : Paired F l m) : l.length = m.length := Paired.length r
theorem pr_get {α β : Type} {F : α → β → Prop} : ∀ {l : List α} {m : List β} {i : Nat} {x : α}, Paired F l m → l[i]? = some x → ∃ y, m[i]? = some y ∧ F x y
  | _, _, _, _, .nil, e => by simp at e
  | _, _, 0, _, .cons r _, e => by simp at e; subst e; exact ⟨_, rfl, r⟩
  | _, _, i + 1, x, .cons _ t, e => by
    obtain ⟨u, h1, h2⟩ := pr_get (i := i) (x := x) t (by simpa using e)
    exact ⟨u, by simpa using h1, h2⟩
theorem pr_get2 {α β : Type} {F : α → β → Prop} : ∀ {l : List α} {m : List β} {i : Nat} {y : β}, Paired F l m → m[i]? = some y → ∃ x, l[i]? = some x ∧ F x y
  | _, _, _, _, .nil, e => by simp at e
  | _, _, 0, _, .cons r _, e => by simp at e; subst e; exact ⟨_, rfl, r⟩
  | _, _, i + 1, x, .cons _ t, e => by
    obtain ⟨u, h1, h2⟩ := pr_get2 (i := i) (y := x) t (by simpa using e)
    exact ⟨u, by simpa using h1, h2⟩
theorem pr_app {α β : Type} {F : α → β → Prop} : ∀ {l l2 : List α} {m m2 : List β}, Paired F l m → Paired F l2 m2 → Paired F (l ++ l2) (m ++ m2)
  | _, _, _, _, .nil, s => s
  | _, _, _, _, .cons r t, s => .cons r (pr_app t s)
theorem pr_snoc {α β : Type} {F : α → β → Prop} {l : List α} {m : List β} {x : α} {y : β} (r : Paired F l m) (h : F x y) : Paired F (l ++ [x]) (m ++ [y]) := pr_app r (.cons h .nil)
theorem pr_mp {α β : Type} {F F' : α → β → Prop} (f : ∀ x y, F x y → F' x y) : ∀ {l : List α} {m : List β}, Paired F l m → Paired F' l m
  | _, _, .nil => .nil
  | _, _, .cons r t => .cons (f _ _ r) (pr_mp f t)
theorem pr_ints {G : Hp} : ∀ {vs : List V} {xs : List Int}, Paired (rep G) vs xs → vs = xs.map V.int
  | _, _, .nil => rfl
  | _, _, .cons r t => by rw [List.map_cons, ← pr_ints t]; exact congrArg (· :: _) r
theorem ints_pr {G : Hp} : ∀ (xs : List Int), Paired (rep G) (xs.map V.int) xs
  | [] => .nil
  | _ :: r => .cons rfl (ints_pr r)
theorem pr_strs {G : Hp} : ∀ {vs : List V} {xs : List Str}, Paired (rep G) vs xs → vs = xs.map V.str
  | _, _, .nil => rfl
  | _, _, .cons r t => by rw [List.map_cons, ← pr_strs t]; exact congrArg (· :: _) r
theorem strs_pr {G : Hp} : ∀ (xs : List Str), Paired (rep G) (xs.map V.str) xs
  | [] => .nil
  | _ :: r => .cons rfl (strs_pr r)
theorem pr_bls {G : Hp} : ∀ {vs : List V} {xs : List Bool}, Paired (rep G) vs xs → vs = xs.map V.bl
  | _, _, .nil => rfl
  | _, _, .cons r t => by rw [List.map_cons, ← pr_bls t]; exact congrArg (· :: _) r

/-! ### promises -/
/-- a def that writes to nothing that was there: from the arguments (R) what it hands back (post) -/
def spP (R : Hp → List V → (Hp → V → Prop) → Prop) : Sp := fun vs H Q _ => ∃ G os post, HH G os H ∧ R G vs post ∧ ∀ G' H' v, Same G G' → HH G' os H' → post G' v → Q v H'
/-- a def that writes to what it owns -/
def spG (R : Hp → Ow → List V → (Hp → Ow → V → Prop) → Prop) : Sp := fun vs H Q _ => ∃ G ow fr post, HH G (ow ++ fr) H ∧ R G ow vs post ∧ ∀ G' H' ow' v, Same G G' → HH G' (ow' ++ fr) H' → post G' ow' v → Q v H'
theorem go_P {R : Hp → List V → (Hp → V → Prop) → Prop} {vs : List V} {H G : Hp} {os : Ow} {Q : VK} {E : XK} {post : Hp → V → Prop} (hh : HH G os H) (r : R G vs post)
    (k : ∀ G' H' v, Same G G' → HH G' os H' → post G' v → Q v H') : spP R vs H Q E := ⟨G, os, post, hh, r, k⟩
theorem go_G {R : Hp → Ow → List V → (Hp → Ow → V → Prop) → Prop} {vs : List V} {H G : Hp} {ow fr : Ow} {Q : VK} {E : XK} {post : Hp → Ow → V → Prop} (hh : HH G (ow ++ fr) H) (r : R G ow vs post)
    (k : ∀ G' H' ow' v, Same G G' → HH G' (ow' ++ fr) H' → post G' ow' v → Q v H') : spG R vs H Q E := ⟨G, ow, fr, post, hh, r, k⟩
/-! ### a def as its callers see it -/
structure DefAt (K : PySem.W.Frag) (mg : Str → Option Value) (x : Str) (st : Stmt) (ps : List Str) : Prop where
  ex : ∃ f fd, Fun K x x st f fd ∧ mg x = some (.ref f) ∧ Binds K fd ps []
structure Cal (P : Program) (w : World) (K : PySem.W.Frag) (mg : Str → Option Value) (base : Heap) (CX : CXT) (k : Nat) (x : Str) (ps : List Str) (sp : Sp) : Prop where
  ex : ∃ f fd, FnOk P w K mg base CX k f fd ps sp ∧ mg x = some (.ref f) ∧ PySem.W.keepIn K (.ref f) = true ∧ Binds K fd ps []
section
variable {P : Program} {w : World} {K : PySem.W.Frag} {mg : Str → Option Value} {base : Heap}
theorem DefAt.ok {x : Str} {st : Stmt} {N ps : List Str} {k : Nat} {sp : Sp} (D : DefAt K mg x st ps) (S : FnScope N ps (defScope st)) (len : ∀ vs H Q E, sp vs H Q E → vs.length = ps.length)
    (hbody : ∀ (X : Cx) (s : Shared) (H : Hp) (f : Addr) (A : Around) (outer : List Env) (cdv : Value) (vs : List V) (Q : VK) (E : XK), X = (cxOf CX0 P w K mg base N x (defScope st) f cdv A outer s H E).nox →
      Room k (A.deeper (envOfC x (defScope st) s.heap.objs.size f cdv)) → sp vs H Q E →
      ∃ t, PSs (cxOf CX0 P w K mg base N x (defScope st) f cdv A outer s H E).nox (defBody st) t ∧ t { nx := fun _ H' => Q .non H', rt := Q } (start N vs) H) : Cal P w K mg base CX0 (k + 1) x ps sp := by
  obtain ⟨f, fd, F, g, b⟩ := D.ex
  exact ⟨f, fd, F.ok S len fun cdv A outer s H vs Q E hr h => hbody _ s H f A outer cdv vs Q E rfl hr h, g, F.kp, b⟩
variable {X : Cx} {CX : CXT} {k : Nat} {ps : List Str} {sp : Sp} {E : XK} {x : Str} {p pos : Pos} {e : Expr} {es : List Expr} {t : TA}
theorem pe_callC (C : Cal X.prog X.w X.K X.mg X.base CX k x ps sp) (hr : Room k X.A) (hg : Gl X x) (hx : Passes CX X E) (ha : PA X (e :: es) t) (hdb : (x == ("__debug__" : Str)) = false := by decide)
    (he : starEach (e :: es) X.env = (false, eval e X.env) :: starEach es X.env := by rfl) (hpl : (backTo pos (starEach es X.env)).any (·.1) = false := by rfl) : PE X (.Call (.Name x p) (e :: es) [] pos) (tCall sp [] E t) := by
  obtain ⟨f, fd, F, g, kp, b⟩ := C.ex
  exact pe_call F hr hg g kp b .nil hx ha hdb he hpl
theorem pe_callC0 (C : Cal X.prog X.w X.K X.mg X.base CX k x ps sp) (hr : Room k X.A) (hg : Gl X x) (hx : Passes CX X E) (hdb : (x == ("__debug__" : Str)) = false := by decide) : PE X (.Call (.Name x p) [] [] pos) (tCall sp [] E tNil) := by
  obtain ⟨f, fd, F, g, kp, b⟩ := C.ex
  exact pe_call0 F hr hg g kp b .nil hx hdb
end
end Dl

set_option Elab.async false
set_option linter.all false
set_option maxRecDepth 100000
namespace Dl
open PySem PySem.Spec PyProof.Rows L2
theorem bt_len : bootBuiltins "len" = some (.builtin "len") := by decide +kernel
theorem bt_min : bootBuiltins "min" = some (.builtin "min") := by decide +kernel
theorem bt_max : bootBuiltins "max" = some (.builtin "max") := by decide +kernel
theorem bt_all : bootBuiltins "all" = some (.builtin "all") := by decide +kernel
theorem bt_any : bootBuiltins "any" = some (.builtin "any") := by decide +kernel
theorem bt_sum : bootBuiltins "sum" = some (.builtin "sum") := by decide +kernel
theorem bt_abs : bootBuiltins "abs" = some (.builtin "abs") := by decide +kernel
theorem bt_sorted : bootBuiltins "sorted" = some (.builtin "sorted") := by decide +kernel
theorem bt_isinstance : bootBuiltins "isinstance" = some (.builtin "isinstance") := by decide +kernel
theorem bt_int : bootBuiltins "int" = some (.type "int") := by decide +kernel
theorem bt_str : bootBuiltins "str" = some (.type "str") := by decide +kernel
theorem bt_bool : bootBuiltins "bool" = some (.type "bool") := by decide +kernel
theorem bt_list : bootBuiltins "list" = some (.type "list") := by decide +kernel
theorem bt_tuple : bootBuiltins "tuple" = some (.type "tuple") := by decide +kernel
theorem bt_dict : bootBuiltins "dict" = some (.type "dict") := by decide +kernel

/-! ### the steps of a reading -/
section
variable {σ : L2.St} {H G : Hp} {os : Ow} {Q : VK} {D : Ends} {K : PySem.W.Frag}
def DG (H : Hp) (x y : V) (Q : VK) : Prop := ∃ a v, x = .ref a ∧ DGet H a y (some v) ∧ Q v H
def DI (H : Hp) (x y : V) (Q : VK) : Prop := ∃ a o, x = .ref a ∧ DGet H a y o ∧ Q (.bl o.isSome) H
def DN (H : Hp) (x y : V) (Q : VK) : Prop := ∃ a o, x = .ref a ∧ DGet H a y o ∧ Q (.bl (!o.isSome)) H
def DP (H : Hp) (x y v : V) (R : Hp → Prop) : Prop := ∃ a H', x = .ref a ∧ DPut H a y v H' ∧ R H'
def TU (xs : List V) (H : Hp) (Q : VK) : Prop := xs.length ≤ sizeLine ∧ ∀ p, H p = none → Q (.ref p) (upd H p (.tup xs))
def LS (xs : List V) (H : Hp) (Q : VK) : Prop := xs.length ≤ sizeLine ∧ ∀ p, H p = none → Q (.ref p) (upd H p (.lst xs))
def NW (o : HO) (H : Hp) (Q : VK) : Prop := ∀ p, H p = none → Q (.ref p) (upd H p o)
def FO (J : It) (g : TG) (tb : TS) (D : Ends) (σ : L2.St) (H : Hp) : Prop := ∃ W : Nat → Nat → L2.St → Hp → Prop, (∃ m, W 0 m σ H) ∧ ∀ i m σ H, W i m σ H →
    (J.stop i H ∧ D.nx σ H) ∨ (J.go i H ∧ ∃ N : L2.St → Hp → Prop, (∀ σ' H', N σ' H' → ∃ m', m' < m ∧ W (i + 1) m' σ' H') ∧ ∀ x H', J.yld i H x H' → g x σ H' fun σ2 H2 => tb { D with nx := N, ct := N, bk := D.nx } σ2 H2)
theorem rep_int {i : Int} : rep G (.int i) i := rfl
theorem rep_str {i : Str} : rep G (.str i) i := rfl
theorem rep_bl {i : Bool} : rep G (.bl i) i := rfl
theorem rep_non : rep G .non () := rfl
theorem go_seq {t u : TS} (h : t { D with nx := u D } σ H) : tSeq t u D σ H := h
theorem go_next (h : D.nx σ H) : tNext D σ H := h
theorem go_asg {te : TE} {g : TG} (h : te σ H fun x H1 => g x σ H1 D.nx) : tAsg te g D σ H := h
theorem go_gname {i : Nat} {v : V} {R : L2.St → Hp → Prop} (h : R (σ.set i (some v)) H) : gName i v σ H R := h
theorem go_gnil {R : L2.St → Hp → Prop} (h : R σ H) : gNil [] σ H R := ⟨rfl, h⟩
theorem go_gcons {t : TG} {u : TGs} {v : V} {r : List V} {R : L2.St → Hp → Prop} (h : t v σ H fun σ' H' => u r σ' H' R) : gCons t u (v :: r) σ H R := ⟨v, r, rfl, h⟩
theorem go_gtup {n : Nat} {t : TGs} {a : Addr} {xs : List V} {R : L2.St → Hp → Prop} (hh : HH G os H) (e : G a = some (.tup xs)) (l : xs.length = n) (h : t xs σ H R) : gTup K n t (.ref a) σ H R := ⟨a, xs, rfl, SqT.of (hh.tup e), l, h⟩
theorem go_ret {te : TE} (h : te σ H D.rt) : tRet te D σ H := h
theorem go_retn (h : D.rt .non H) : tRetN D σ H := h
theorem go_drop {te : TE} (h : te σ H fun _ H1 => D.nx σ H1) : tDrop te D σ H := h
theorem go_ifs {c : TT} {t u : TS} (h : c σ H fun b H1 => if b = true then t D σ H1 else u D σ H1) : tIfS c t u D σ H := h
theorem go_var {i : Nat} {v : V} (e : σ[i]? = some (some v)) (h : Q v H) : tVar i σ H Q := ⟨v, e, h⟩
theorem go_c {v : V} (h : Q v H) : tC v σ H Q := h
theorem go_op {r : R2} {ta tb : TE} (h : ta σ H fun x H1 => tb σ H1 fun y H2 => r x y H2 Q) : tOp r ta tb σ H Q := h
theorem go_un {r : V → Hp → VK → Prop} {ta : TE} (h : ta σ H fun x H1 => r x H1 Q) : tUn r ta σ H Q := h
theorem go_test {t : TE} {R : Bool → Hp → Prop} (h : t σ H fun x H' => ∃ k, x = .bl k ∧ R k H') : tTest t σ H R := h
theorem go_tb {t : TE} {R : Bool → Hp → Prop} (h : t σ H fun x H' => ∃ k, x = .bl k ∧ R k H') : tB t σ H R := h
theorem go_bl {b : Bool} {R : Bool → Prop} (h : R b) : ∃ k, V.bl b = .bl k ∧ R k := ⟨b, rfl, h⟩
theorem go_rI0 {g : Int → Int → V} {i j : Int} (h : Q (g i j) H) : rI0 g (.int i) (.int j) H Q := ⟨i, j, rfl, rfl, h⟩
theorem go_rI {C : Int → Int → Prop} {g : Int → Int → V} {i j : Int} (c : C i j) (h : Q (g i j) H) : rI C g (.int i) (.int j) H Q := ⟨i, j, rfl, rfl, c, h⟩
theorem go_rU {g : Int → V} {i : Int} (h : Q (g i) H) : rU g (.int i) H Q := ⟨i, rfl, h⟩
theorem go_eqI {i j : Int} (h : Q (.bl (decide (i = j))) H) : rEq (.int i) (.int j) H Q := ⟨rfl, by rw [dec_int, Bool.beq_eq_decide_eq]; exact h⟩
theorem go_eqS {i j : Str} (h : Q (.bl (decide (i = j))) H) : rEq (.str i) (.str j) H Q := ⟨rfl, by rw [dec_str, Bool.beq_eq_decide_eq]; exact h⟩
theorem go_eqB {i j : Bool} (h : Q (.bl (decide (i = j))) H) : rEq (.bl i) (.bl j) H Q := ⟨rfl, by rw [dec_bl, Bool.beq_eq_decide_eq]; exact h⟩
theorem go_neI {i j : Int} (h : Q (.bl (!decide (i = j))) H) : rNe (.int i) (.int j) H Q := ⟨rfl, by rw [dec_int, Bool.beq_eq_decide_eq]; exact h⟩
theorem go_neS {i j : Str} (h : Q (.bl (!decide (i = j))) H) : rNe (.str i) (.str j) H Q := ⟨rfl, by rw [dec_str, Bool.beq_eq_decide_eq]; exact h⟩
theorem go_neB {i j : Bool} (h : Q (.bl (!decide (i = j))) H) : rNe (.bl i) (.bl j) H Q := ⟨rfl, by rw [dec_bl, Bool.beq_eq_decide_eq]; exact h⟩
theorem go_chain {r r' : R2} {ta tb tc : TE} (h : ta σ H fun x H1 => tb σ H1 fun y H2 => r x y H2 fun z H3 => ∃ k, z = .bl k ∧ if k = true then tc σ H3 fun u H4 => r' y u H4 Q else Q (.bl false) H3) : tChain r r' ta tb tc σ H Q := h
theorem go_and {t u : TT} {R : Bool → Hp → Prop} (h : t σ H fun c H1 => if c = true then u σ H1 R else R false H1) : tAnd t u σ H R := h
theorem go_or {t u : TT} {R : Bool → Hp → Prop} (h : t σ H fun c H1 => if c = true then R true H1 else u σ H1 R) : tOr t u σ H R := h
theorem go_not {t : TT} {R : Bool → Hp → Prop} (h : t σ H fun c H1 => R (!c) H1) : tNot t σ H R := h
theorem go_andv {ta tb : TE} (h : ta σ H fun x H1 => ∃ c, x = .bl c ∧ if c = true then tb σ H1 Q else Q (.bl false) H1) : tAndV ta tb σ H Q := h
theorem go_orv {ta tb : TE} (h : ta σ H fun x H1 => ∃ c, x = .bl c ∧ if c = true then Q (.bl true) H1 else tb σ H1 Q) : tOrV ta tb σ H Q := h
theorem go_notv {ta : TE} (h : ta σ H fun x H1 => ∃ c, x = .bl c ∧ Q (.bl (!c)) H1) : tNotV ta σ H Q := h
theorem go_if {t : TT} {ta tb : TE} (h : t σ H fun c H1 => if c = true then ta σ H1 Q else tb σ H1 Q) : tIf t ta tb σ H Q := h
theorem go_cons {ta : TE} {tr : TA} {R : List V → Hp → Prop} (h : ta σ H fun x H1 => tr σ H1 fun xs H2 => R (x :: xs) H2) : tCons ta tr σ H R := h
theorem go_nil {R : List V → Hp → Prop} (h : R [] H) : tNil σ H R := h
theorem go_call {sp : Sp} {E : XK} {t : TA} (h : t σ H fun vs H1 => sp vs H1 Q E) : tCall sp [] E t σ H Q := by
  unfold tCall
  simp only [List.append_nil]
  exact h
theorem go_tcb {r : List V → Hp → VK → Prop} {t : TA} (h : t σ H fun vs H1 => r vs H1 Q) : tCB r t σ H Q := h
theorem go_tbm {T : String} {r : V → List V → Hp → VK → Prop} {to : TE} {t : TA} (h : to σ H fun x H1 => tyV K T x H1 ∧ t σ H1 fun xs H2 => r x xs H2 Q) : tBM K T r to t σ H Q := h
theorem go_tbm0 {T : String} {r : V → List V → Hp → VK → Prop} {to : TE} (h : to σ H fun x H1 => tyV K T x H1 ∧ r x [] H1 Q) : tBM0 K T r to σ H Q := h
theorem go_ttup {t : TA} (h : t σ H fun xs H1 => TU xs H1 Q) : tTup t σ H Q := h
theorem go_tlst {t : TA} (h : t σ H fun xs H1 => LS xs H1 Q) : tLst t σ H Q := h
theorem go_dget {td ty : TE} (h : td σ H fun x H1 => ty σ H1 fun y H2 => DG H2 x y Q) : tDGet td ty σ H Q := h
theorem go_din {td ty : TE} (h : ty σ H fun y H1 => td σ H1 fun x H2 => DI H2 x y Q) : tDIn ty td σ H Q := h
theorem go_dnotin {td ty : TE} (h : ty σ H fun y H1 => td σ H1 fun x H2 => DN H2 x y Q) : tDNotIn ty td σ H Q := h
theorem go_dput {td ty tv : TE} (h : tv σ H fun v H1 => td σ H1 fun x H2 => ty σ H2 fun y H3 => DP H3 x y v fun H4 => D.nx σ H4) : sDPut td ty tv D σ H := h
theorem go_dnewk (h : NW (.dK []) H Q) : tDNewK σ H Q := h
theorem go_gsub {to ti : TE} {t : TSet} {v : V} {R : L2.St → Hp → Prop} (h : to σ H fun o H1 => ti σ H1 fun i H2 => t o i v H2 fun H3 => R σ H3) : gSub to ti t v σ H R := h
theorem go_aug {i : Nat} {te : TE} {ti : TIp} {x : V} (e : σ[i]? = some (some x)) (h : te σ H fun y H1 => ti x y H1 fun z H2 => D.nx (σ.set i (some z)) H2) : tAug i te ti D σ H := ⟨x, e, h⟩
theorem go_ip {f : Int → Int → Int} {i j : Int} (h : Q (.int (f i j)) H) : ipI f (.int i) (.int j) H Q := ⟨i, j, rfl, rfl, h⟩
theorem go_for {wi : TI} {g : TG} {tb : TS} (h : wi σ H fun J H1 => FO J g tb D σ H1) : tFor wi g tb D σ H := h
theorem go_rng1 {ta : TA} {R : It → Hp → Prop} (h : ta σ H fun vs H1 => ∃ j : Int, vs = [.int j] ∧ -(2 ^ 62) ≤ j ∧ j < 2 ^ 62 ∧ R (Itr 0 j.toNat) H1) : iRng1 ta σ H R := h
theorem go_rng2 {ta : TA} {R : It → Hp → Prop} (h : ta σ H fun vs H1 => ∃ i j : Int, vs = [.int i, .int j] ∧ (-(2 ^ 62) ≤ i ∧ i < 2 ^ 62 ∧ -(2 ^ 62) ≤ j ∧ j < 2 ^ 62) ∧ R (Itr i (j - i).toNat) H1) : iRng2 ta σ H R := h
theorem go_ilist {tl : TE} {R : It → Hp → Prop} (h : tl σ H fun x H1 => ∃ a, x = .ref a ∧ (∃ xs, SqL K H1 a xs) ∧ R (Itl K a) H1) : iList K tl σ H R := h
theorem go_iteD {p : Prop} [Decidable p] {A B : Prop} (h1 : p → A) (h2 : ¬ p → B) : if decide p = true then A else B := by
  by_cases h : p
  · rw [if_pos (decide_eq_true h)]; exact h1 h
  · rw [if_neg (fun z => h (of_decide_eq_true z))]; exact h2 h
theorem go_iteN {p : Prop} [Decidable p] {A B : Prop} (h1 : ¬ p → A) (h2 : p → B) : if (!decide p) = true then A else B := by
  by_cases h : p
  · rw [decide_eq_true h]; exact h2 h
  · rw [decide_eq_false h]; exact h1 h
theorem go_iteB {b : Bool} {A B : Prop} (h1 : b = true → A) (h2 : b = false → B) : if b = true then A else B := by
  cases b
  · exact h2 rfl
  · exact h1 rfl
theorem go_iteT {A B : Prop} (h : A) : if true = true then A else B := h
theorem go_iteF {A B : Prop} (h : B) : if false = true then A else B := h
/-! reading what stands in the heap -/
theorem go_ixL {a : Addr} {vs : List V} {i : Int} {v : V} (hh : HH G os H) (e : G a = some (.lst vs)) (x : atI vs i = some v) (h : Q v H) : rIxL K (.ref a) (.int i) H Q := ⟨a, vs, i, v, rfl, rfl, SqL.of (hh.lst e), x, h⟩
theorem go_ixLo {a : Addr} {vs : List V} {i : Int} {v : V} (hh : HH G ((a, .lst vs) :: os) H) (x : atI vs i = some v) (h : Q v H) : rIxL K (.ref a) (.int i) H Q := ⟨a, vs, i, v, rfl, rfl, SqL.of hh.get, x, h⟩
theorem go_ixT {a : Addr} {vs : List V} {i : Int} {v : V} (hh : HH G os H) (e : G a = some (.tup vs)) (x : atI vs i = some v) (h : Q v H) : rIxT K (.ref a) (.int i) H Q := ⟨a, vs, i, v, rfl, rfl, SqT.of (hh.tup e), x, h⟩
theorem ds_get {α : Type} [Rp α] {x : V} {d : DS α} {c : Str} (hh : HH G os H) (r : rep G x d) : ∃ a vs, x = .ref a ∧ Paired (KsR G) vs d.kvs ∧ DGet H a (.str c) (valV vs (Sum.inr c)) := by
  obtain ⟨a, vs, e, g, p⟩ := r
  exact ⟨a, vs, e, p, .inl ⟨vs, Sum.inr c, hh.rd g, rfl, rfl⟩⟩
theorem go_dsget {α : Type} [Rp α] {x : V} {d : DS α} {c : Str} {y : α} (hh : HH G os H) (r : rep G x d) (l : d.get c = some y) (h : ∀ v, rep G v y → Q v H) : DG H x (.str c) Q := by
  obtain ⟨a, vs, e, p, g⟩ := ds_get (c := c) hh r
  rcases ks_get c p with ⟨v, z, h1, h2, h3⟩ | ⟨h1, h2⟩
  · have l' : (DS.mk d.kvs).get c = some y := l
    rw [l'] at h2
    cases h2
    rw [h1] at g
    exact ⟨a, v, e, g, h v h3⟩
  · have l' : (DS.mk d.kvs).get c = some y := l
    rw [l'] at h2
    cases h2
theorem go_dsin {α : Type} [Rp α] {x : V} {d : DS α} {c : Str} (hh : HH G os H) (r : rep G x d) (h : Q (.bl (d.get c).isSome) H) : DI H x (.str c) Q := by
  obtain ⟨a, vs, e, p, g⟩ := ds_get (c := c) hh r
  refine ⟨a, _, e, g, ?_⟩
  rw [ks_any c p]
  exact h
/-! new things -/
theorem go_newS {o : HO} (hh : HH G os H) (h : ∀ p G' H', Same G G' → HH G' os H' → G' p = some o → Q (.ref p) H') : NW o H Q :=
  fun p n => h p _ _ (hh.sameG n) (hh.alloc n) upd_same
theorem go_newO {o : HO} (hh : HH G os H) (h : ∀ p H', HH G ((p, o) :: os) H' → Q (.ref p) H') : NW o H Q :=
  fun p n => h p _ (hh.push n)
theorem small15 {n : Nat} (h : n ≤ 15) : n ≤ sizeLine := Nat.le_trans h (by decide)
theorem go_tup2 {α β : Type} [Rp α] [Rp β] {v1 v2 : V} {x : α} {y : β} (hh : HH G os H) (r1 : rep G v1 x) (r2 : rep G v2 y) (h : ∀ p G' H', Same G G' → HH G' os H' → rep G' (.ref p) (x, y) → Q (.ref p) H') :
    TU [v1, v2] H Q :=
  ⟨small15 (n := 2) (by decide), fun p n => h p _ _ (hh.sameG n) (hh.alloc n) ⟨p, v1, v2, rfl, upd_same, Rp.mono (hh.sameG n) r1, Rp.mono (hh.sameG n) r2⟩⟩
theorem go_tup3 {α β γ : Type} [Rp α] [Rp β] [Rp γ] {v1 v2 v3 : V} {x : α} {y : β} {z : γ} (hh : HH G os H) (r1 : rep G v1 x) (r2 : rep G v2 y) (r3 : rep G v3 z)
    (h : ∀ p G' H', Same G G' → HH G' os H' → rep G' (.ref p) (T3.mk x y z) → Q (.ref p) H') : TU [v1, v2, v3] H Q :=
  ⟨small15 (n := 3) (by decide), fun p n => h p _ _ (hh.sameG n) (hh.alloc n) ⟨p, v1, v2, v3, rfl, upd_same, Rp.mono (hh.sameG n) r1, Rp.mono (hh.sameG n) r2, Rp.mono (hh.sameG n) r3⟩⟩
theorem go_lstS {vs : List V} (hl : vs.length ≤ 15) (hh : HH G os H) (h : ∀ p G' H', Same G G' → HH G' os H' → G' p = some (.lst vs) → Q (.ref p) H') : LS vs H Q :=
  ⟨small15 hl, go_newS hh h⟩
theorem go_lstO {vs : List V} (hl : vs.length ≤ 15) (hh : HH G os H) (h : ∀ p H', HH G ((p, .lst vs) :: os) H' → Q (.ref p) H') : LS vs H Q :=
  ⟨small15 hl, go_newO hh h⟩
/-- xs.append(y) of a list that is owned -/
theorem go_append {p : Addr} {xs : List V} {y : V} (hh : HH G ((p, .lst xs) :: os) H) (hl : xs.length < sizeLine) (h : ∀ H', HH G ((p, .lst (xs ++ [y])) :: os) H' → Q .non H') : rAppend (.ref p) [y] H Q :=
  ⟨p, xs, y, rfl, rfl, hh.get, hl, h _ (hh.put (.inr fun _ _ z => nomatch z))⟩
theorem ty_lstO {p : Addr} {xs : List V} (hh : HH G ((p, .lst xs) :: os) H) : tyV K "list" (.ref p) H := .inl ⟨rfl, _, SqL.of hh.get⟩
theorem ty_lst {p : Addr} {xs : List V} (hh : HH G os H) (e : G p = some (.lst xs)) : tyV K "list" (.ref p) H := .inl ⟨rfl, _, SqL.of (hh.lst e)⟩
/-! loops -/
/-- what holds ahead of each turn, said of what never changes and of what is owned -/
def Lp (G : Hp) (I : Nat → L2.St → Hp → Ow → Prop) (i : Nat) : L2.St → Hp → Prop := fun σ H => ∃ G' os', Same G G' ∧ HH G' os' H ∧ I i σ G' os'
theorem for_rngG {lo : Int} {n : Nat} {g : TG} {tb : TS} (I : Nat → L2.St → Hp → Ow → Prop) (hh : HH G os H) (h0 : I 0 σ G os)
    (hs : ∀ i σ G' os' H', i < n → Same G G' → HH G' os' H' → I i σ G' os' → g (.int (lo + i)) σ H' fun σ2 H2 => tb { D with nx := Lp G' I (i + 1), ct := Lp G' I (i + 1), bk := D.nx } σ2 H2)
    (hd : ∀ σ G' os' H', Same G G' → HH G' os' H' → I n σ G' os' → D.nx σ H') :
    FO (Itr lo n) g tb D σ H := by
  refine ⟨fun i m σ H => m = n - i ∧ i ≤ n ∧ Lp G I i σ H, ⟨n, by simp, Nat.zero_le _, G, os, Same.refl _, hh, h0⟩, ?_⟩
  rintro i m σ H ⟨rfl, hi, G', os', sm, hh', p⟩
  by_cases hlt : i < n
  · refine .inr ⟨hlt, Lp G' I (i + 1), fun σ' H' ⟨G2, os2, s2, h2, p'⟩ => ⟨n - (i + 1), by omega, rfl, hlt, G2, os2, sm.trans s2, h2, p'⟩, fun x H' y => ?_⟩
    obtain ⟨e, y⟩ := y
    subst e y
    exact hs i σ G' os' _ hlt sm hh' p
  · have e : i = n := by omega
    subst e
    exact .inl ⟨Nat.le_refl _, hd σ G' os' H sm hh' p⟩
/-- over a list that stands in SqL -/
theorem for_sqG {a : Addr} {xs : List V} {g : TG} {tb : TS} (I : Nat → L2.St → Hp → Ow → Prop) (hq : SqL K G a xs) (hh : HH G os H) (h0 : I 0 σ G os)
    (hs : ∀ i x σ G' os' H', xs[i]? = some x → Same G G' → HH G' os' H' → I i σ G' os' → g x σ H' fun σ2 H2 => tb { D with nx := Lp G' I (i + 1), ct := Lp G' I (i + 1), bk := D.nx } σ2 H2)
    (hd : ∀ σ G' os' H', Same G G' → HH G' os' H' → I xs.length σ G' os' → D.nx σ H') :
    FO (Itl K a) g tb D σ H := by
  refine ⟨fun i m σ H => m = xs.length - i ∧ i ≤ xs.length ∧ Lp G I i σ H, ⟨xs.length, by simp, Nat.zero_le _, G, os, Same.refl _, hh, h0⟩, ?_⟩
  rintro i m σ H ⟨rfl, hi, G', os', sm, hh', p⟩
  have q : SqL K H a xs := hh'.sq (sm.seq hq)
  by_cases hlt : i < xs.length
  · refine .inr ⟨⟨xs, xs[i], q, by simp [hlt]⟩, Lp G' I (i + 1), fun σ' H' ⟨G2, os2, s2, h2, p'⟩ => ⟨xs.length - (i + 1), by omega, rfl, hlt, G2, os2, sm.trans s2, h2, p'⟩, fun x H' y => ?_⟩
    obtain ⟨e, y⟩ := y
    subst e
    exact hs i x σ G' os' _ (y xs q) sm hh' p
  · have e : i = xs.length := by omega
    subst e
    exact .inl ⟨⟨xs, q, Nat.le_refl _⟩, hd σ G' os' H sm hh' p⟩
/-- over a list that is data -/
theorem for_repG {α : Type} [Rp α] {x : V} {xs : List α} {g : TG} {tb : TS} (I : Nat → L2.St → Hp → Ow → Prop) (r : rep G x xs) (hh : HH G os H) (h0 : I 0 σ G os)
    (hs : ∀ i v y σ G' os' H', xs[i]? = some y → rep G' v y → Same G G' → HH G' os' H' → I i σ G' os' → g v σ H' fun σ2 H2 => tb { D with nx := Lp G' I (i + 1), ct := Lp G' I (i + 1), bk := D.nx } σ2 H2)
    (hd : ∀ σ G' os' H', Same G G' → HH G' os' H' → I xs.length σ G' os' → D.nx σ H') :
    ∃ a, x = .ref a ∧ (∃ xs, SqL K H a xs) ∧ FO (Itl K a) g tb D σ H := by
  obtain ⟨a, vs, e, ga, p⟩ := r
  refine ⟨a, e, ⟨vs, SqL.of (hh.lst ga)⟩, ?_⟩
  refine for_sqG I (SqL.of ga) hh h0 (fun i x σ G' os' H' hx sm hh' q => ?_) (fun σ G' os' H' sm hh' q => ?_)
  · obtain ⟨y, hy, ry⟩ := pr_get p hx
    exact hs i x y σ G' os' H' hy (Rp.mono sm ry) sm hh' q
  · rw [pr_len p] at q
    exact hd σ G' os' H' sm hh' q
end
end Dl
namespace Dl
open PySem PySem.Spec PyProof.Rows L2
theorem go_start {n : List Str} {vs : List V} {σ : L2.St} {t : TS} {D : Ends} {H : Hp} (e : start n vs = σ) (h : t D σ H) : t D (start n vs) H := e ▸ h
theorem Same.get1 {G G' : Hp} {a : Addr} {o : HO} (s : Same G G') (h : G a = some o) : G' a = some o := s a o h
end Dl

set_option Elab.async false
set_option linter.all false
set_option maxRecDepth 100000
namespace Dl
open PySem PySem.Spec PyProof.Rows L2
section
variable {σ : L2.St} {H G : Hp} {os : Ow} {Q : VK} {D : Ends} {K : PySem.W.Frag}
/-! ### comprehensions over data -/
def LO (J : It) (g : TG) (tt : TT) (te : TE) (vs : List Nat) (σ : L2.St) (H1 : Hp) (Q : VK) : Prop := ∀ D, H1 D = none → ∃ W : Nat → Nat → Hp → Prop, (∃ m, W 0 m (upd H1 D (.lst []))) ∧ ∀ i m H, W i m H →
  (J.stop i H ∧ Q (.ref D) H) ∨ (J.go i H ∧ ∃ Nx : Hp → Prop, (∀ H', Nx H' → ∃ m', m' < m ∧ W (i + 1) m' H') ∧ ∀ x H', J.yld i H x H' → g x (wipe σ vs) H' fun σ2 H2 => wipe σ2 vs = wipe σ vs ∧ tt σ2 H2 fun b H3 =>
    if b = true then te σ2 H3 fun y H4 => ∃ acc, H4 D = some (.lst acc) ∧ acc.length < sizeLine ∧ Nx (upd H4 D (.lst (acc ++ [y]))) else Nx H3)
theorem go_lc {wi : TI} {g : TG} {tt : TT} {te : TE} {vs : List Nat} (h : wi σ H fun J H1 => LO J g tt te vs σ H1 Q) : tLc wi g tt te vs σ H Q := h
theorem go_yes {R : Bool → Hp → Prop} (h : R true H) : tYes σ H R := h
def LcN {β : Type} [Rp β] (G : Hp) (A : Addr) (os : Ow) (ys : List β) (H : Hp) : Prop := ∃ G' vs, Same G G' ∧ HH G' ((A, .lst vs) :: os) H ∧ Paired (rep G') vs ys
def LcE {β : Type} [Rp β] (G : Hp) (A : Addr) (os : Ow) (ys : List β) (w : V) (H : Hp) : Prop := ∃ acc, H A = some (.lst acc) ∧ acc.length < sizeLine ∧ LcN G A os ys (upd H A (.lst (acc ++ [w])))
theorem go_lce {β : Type} [Rp β] {G4 : Hp} {A : Addr} {vs : List V} {ys : List β} {z : β} {w : V} (hh : HH G4 ((A, .lst vs) :: os) H) (sm : Same G G4) (r : Paired (rep G4) vs ys) (rw : rep G4 w z) (hl : ys.length < sizeLine) : LcE G A os (ys ++ [z]) w H :=
  ⟨vs, hh.get, by rw [pr_len r]; exact hl, G4, vs ++ [w], sm, hh.put (.inr fun _ _ z => nomatch z), pr_snoc r rw⟩
theorem go_lcn {β : Type} [Rp β] {G4 : Hp} {A : Addr} {vs : List V} {ys : List β} (hh : HH G4 ((A, .lst vs) :: os) H) (sm : Same G G4) (r : Paired (rep G4) vs ys) : LcN G A os ys H := ⟨G4, vs, sm, hh, r⟩
theorem take_succ_flat {α β : Type} (sel : α → List β) : ∀ {xs : List α} {i : Nat} {y : α}, xs[i]? = some y → (xs.take (i + 1)).flatMap sel = (xs.take i).flatMap sel ++ sel y
  | [], _, _, h => by simp at h
  | x :: xs, 0, y, h => by
    have e : x = y := by simpa using h
    subst e
    simp
  | x :: xs, i + 1, y, h => by
    have h' : xs[i]? = some y := by simpa using h
    have ih := take_succ_flat sel h'
    simp only [List.take_succ_cons, List.flatMap_cons, ih, List.append_assoc]
/-- [e for x in xs if t], xs a list of data: each item brings sel of it -/
theorem lc_selO {α β : Type} [Rp α] [Rp β] (sel : α → List β) {g : TG} {tt : TT} {te : TE} {ws : List Nat} {x : V} {xs : List α} (r : rep G x xs) (hh : HH G os H)
    (hs : ∀ i v y G' vs ys H' A, xs[i]? = some y → rep G' v y → Same G G' → HH G' ((A, .lst vs) :: os) H' → Paired (rep G') vs ys → ys = (xs.take i).flatMap sel →
      g v (wipe σ ws) H' fun σ2 H2 => wipe σ2 ws = wipe σ ws ∧ tt σ2 H2 fun b H3 => if b = true then te σ2 H3 fun w H4 => LcE G' A os (ys ++ sel y) w H4 else LcN G' A os (ys ++ sel y) H3)
    (h : ∀ A G' vs H', Same G G' → HH G' ((A, .lst vs) :: os) H' → Paired (rep G') vs (xs.flatMap sel) → Q (.ref A) H') :
    ∃ a, x = .ref a ∧ (∃ xs, SqL K H a xs) ∧ LO (Itl K a) g tt te ws σ H Q := by
  obtain ⟨a, vs0, rfl, ga, p⟩ := r
  refine ⟨a, rfl, ⟨vs0, SqL.of (hh.lst ga)⟩, fun A nA => ?_⟩
  refine ⟨fun i m H => m = vs0.length - i ∧ i ≤ vs0.length ∧ LcN G A os ((xs.take i).flatMap sel) H, ⟨vs0.length, by simp, Nat.zero_le _, G, [], Same.refl _, hh.push nA, .nil⟩, ?_⟩
  rintro i m H' ⟨rfl, hi, G', vs, sm, hh', pr⟩
  have q : SqL K H' a vs0 := hh'.sq (sm.seq (SqL.of ga))
  by_cases hlt : i < vs0.length
  · have hlt2 : i < xs.length := by rw [← pr_len p]; exact hlt
    obtain ⟨y, hy⟩ : ∃ y, xs[i]? = some y := ⟨_, List.getElem?_eq_getElem hlt2⟩
    refine .inr ⟨⟨vs0, vs0[i], q, by simp [hlt]⟩, LcN G' A os ((xs.take i).flatMap sel ++ sel y), fun H2 ⟨G2, v2, s2, h2, p2⟩ => ⟨vs0.length - (i + 1), by omega, rfl, hlt, G2, v2, sm.trans s2, h2, by rw [take_succ_flat sel hy]; exact p2⟩, fun v H2 yy => ?_⟩
    obtain ⟨rfl, yy⟩ := yy
    obtain ⟨z, hz, rz⟩ := pr_get p (yy vs0 q)
    have e : y = z := Option.some.inj (hy.symm.trans hz)
    subst e
    exact hs i v y G' vs _ _ A hy (Rp.mono sm rz) sm hh' pr rfl
  · have e : i = vs0.length := by omega
    subst e
    rw [pr_len p, List.take_length] at pr
    exact .inl ⟨⟨vs0, q, Nat.le_refl _⟩, h A G' vs H' sm hh' pr⟩
/-- .. its list given over to what never changes -/
theorem lc_selS {α β : Type} [Rp α] [Rp β] (sel : α → List β) {g : TG} {tt : TT} {te : TE} {ws : List Nat} {x : V} {xs : List α} (r : rep G x xs) (hh : HH G os H)
    (hs : ∀ i v y G' vs ys H' A, xs[i]? = some y → rep G' v y → Same G G' → HH G' ((A, .lst vs) :: os) H' → Paired (rep G') vs ys → ys = (xs.take i).flatMap sel →
      g v (wipe σ ws) H' fun σ2 H2 => wipe σ2 ws = wipe σ ws ∧ tt σ2 H2 fun b H3 => if b = true then te σ2 H3 fun w H4 => LcE G' A os (ys ++ sel y) w H4 else LcN G' A os (ys ++ sel y) H3)
    (h : ∀ A G' H', Same G G' → HH G' os H' → rep G' (.ref A) (xs.flatMap sel) → Q (.ref A) H') :
    ∃ a, x = .ref a ∧ (∃ xs, SqL K H a xs) ∧ LO (Itl K a) g tt te ws σ H Q :=
  lc_selO sel r hh hs fun A G' vs H' sm hh' p => by
    have gn := hh'.gnone (.inr fun _ _ z => nomatch z)
    have sg : Same G' (upd G' A (.lst vs)) := same_upd gn
    exact h A _ H' (sm.trans sg) (hh'.give (.inr fun _ _ z => nomatch z)) ⟨A, vs, rfl, upd_same, paired_mono sg p⟩
theorem flatMap_one {α β : Type} (f : α → β) : ∀ xs : List α, xs.flatMap (fun x => [f x]) = xs.map f
  | [] => rfl
  | x :: xs => by rw [List.flatMap_cons, flatMap_one f xs]; rfl
/-- [e for x in xs] -/
theorem lc_mapS {α β : Type} [Rp α] [Rp β] (f : α → β) {g : TG} {te : TE} {ws : List Nat} {x : V} {xs : List α} (r : rep G x xs) (hh : HH G os H)
    (hs : ∀ (i : Nat) v y G' vs ys H' A, xs[i]? = some y → rep G' v y → Same G G' → HH G' ((A, .lst vs) :: os) H' → Paired (rep G') vs ys → ys.length < xs.length →
      g v (wipe σ ws) H' fun σ2 H2 => wipe σ2 ws = wipe σ ws ∧ tYes σ2 H2 fun b H3 => if b = true then te σ2 H3 fun w H4 => LcE G' A os (ys ++ [f y]) w H4 else LcN G' A os (ys ++ [f y]) H3)
    (h : ∀ A G' H', Same G G' → HH G' os H' → rep G' (.ref A) (xs.map f) → Q (.ref A) H') :
    ∃ a, x = .ref a ∧ (∃ xs, SqL K H a xs) ∧ LO (Itl K a) g tYes te ws σ H Q := by
  refine lc_selS (fun y => [f y]) r hh (fun i v y G' vs ys H' A hy ry sm hh' pr e => hs i v y G' vs ys H' A hy ry sm hh' pr ?_) (fun A G' H' sm hh' q => h A G' H' sm hh' (by rw [← flatMap_one]; exact q))
  rw [e, flatMap_one, List.length_map, List.length_take]
  have := (List.getElem?_eq_some_iff.mp hy).1
  omega
end
end Dl
namespace Dl
open PySem PySem.Spec PyProof.Rows L2
theorem small15k {n : Nat} (h : n ≤ 15000) : n < sizeLine := Nat.lt_of_le_of_lt h (by decide)
end Dl

set_option Elab.async false
set_option linter.all false
set_option maxRecDepth 100000
namespace Dl
open PySem PySem.Spec PyProof.Rows L2
section
variable {X : Cx} {σ : L2.St} {H G : Hp} {os : Ow} {Q : VK} {D : Ends} {K : PySem.W.Frag}
/-! ### built-ins, by names -/
def rLen (K : PySem.W.Frag) : List V → Hp → VK → Prop := fun xs H Q => ∃ p ys, xs = [.ref p] ∧ (SqL K H p ys ∨ SqT K H p ys) ∧ Q (.int ys.length) H
theorem cl_len : CallR X (.builtin "len") (rLen X.K) := call_len_seq
def rLenS : List V → Hp → VK → Prop := fun xs H Q => ∃ z, xs = [.str z] ∧ z.length ≤ sizeLine ∧ Q (.int z.length) H
theorem cl_lenS : CallR X (.builtin "len") rLenS := call_len_str
def rLenD : List V → Hp → VK → Prop := fun xs H Q => ∃ a kvs, xs = [V.ref a] ∧ H a = some (.dK kvs) ∧ Q (.int kvs.length) H
theorem cl_lenD : CallR X (.builtin "len") rLenD := call_lenD
def rMin2 : List V → Hp → VK → Prop := fun xs H Q => ∃ i j, xs = [.int i, .int j] ∧ Q (.int (min i j)) H
def rMax2 : List V → Hp → VK → Prop := fun xs H Q => ∃ i j, xs = [.int i, .int j] ∧ Q (.int (max i j)) H
theorem CallR.imp {f : Value} {r r' : List V → Hp → VK → Prop} (h : CallR X f r) (i : ∀ xs H Q, r' xs H Q → r xs H Q) : CallR X f r' := fun pins s σ H xs us Q I rr hq => h pins s σ H xs us Q I rr (i _ _ _ hq)
theorem cl_min2 (hc : X.calm = true) : CallR X (.builtin "min") rMin2 := CallR.imp (call_min2 hc) fun xs H Q ⟨i, j, e, q⟩ => ⟨i, j, e, by
  have : (if j < i then j else i) = min i j := by omega
  rw [this]; exact q⟩
theorem cl_max2 (hc : X.calm = true) : CallR X (.builtin "max") rMax2 := CallR.imp (call_max2 hc) fun xs H Q ⟨i, j, e, q⟩ => ⟨i, j, e, by
  have : (if j > i then j else i) = max i j := by omega
  rw [this]; exact q⟩
def rInt1 : List V → Hp → VK → Prop := fun xs H Q => ∃ i, xs = [.int i] ∧ Q (.int i) H
theorem cl_int : CallR X (.type "int") rInt1 := CallR.imp call_int1 fun _ _ _ h => .inl h
def rIntB : List V → Hp → VK → Prop := fun xs H Q => ∃ k, xs = [.bl k] ∧ Q (.int (if k then 1 else 0)) H
theorem cl_intB : CallR X (.type "int") rIntB := CallR.imp call_int1 fun _ _ _ h => .inr h
def rStrI : List V → Hp → VK → Prop := fun xs H Q => ∃ i : Int, xs = [.int i] ∧ i.natAbs.log2 < 1920 ∧ Q (.str (toString i)) H
theorem cl_str : CallR X (.type "str") rStrI := call_str_int
def rAbs : List V → Hp → VK → Prop := fun xs H Q => ∃ i, xs = [.int i] ∧ Q (.int (if i < 0 then -i else i)) H
theorem cl_abs : CallR X (.builtin "abs") rAbs := call_abs
def rListOf (K : PySem.W.Frag) : List V → Hp → VK → Prop := fun xs H Q => ∃ p ys, xs = [.ref p] ∧ (SqL K H p ys ∨ SqT K H p ys) ∧ NW (.lst ys) H Q
theorem cl_list : CallR X (.type "list") (rListOf X.K) := call_list_of
theorem go_len {p : Addr} {ys : List V} (s : SqL K H p ys) (h : Q (.int ys.length) H) : rLen K [.ref p] H Q := ⟨p, ys, rfl, .inl s, h⟩
theorem go_lenO {p : Addr} {ys : List V} (hh : HH G ((p, .lst ys) :: os) H) (h : Q (.int ys.length) H) : rLen K [.ref p] H Q := go_len (SqL.of hh.get) h
theorem go_lenR {α : Type} [Rp α] {v : V} {xs : List α} (hh : HH G os H) (r : rep G v xs) (h : Q (.int xs.length) H) : rLen K [v] H Q := by
  obtain ⟨a, vs, rfl, g, p⟩ := r
  refine go_len (SqL.of (hh.lst g)) ?_
  rw [pr_len p]
  exact h
theorem go_min2 {i j : Int} (h : Q (.int (min i j)) H) : rMin2 [.int i, .int j] H Q := ⟨i, j, rfl, h⟩
theorem go_max2 {i j : Int} (h : Q (.int (max i j)) H) : rMax2 [.int i, .int j] H Q := ⟨i, j, rfl, h⟩
theorem go_int1 {i : Int} (h : Q (.int i) H) : rInt1 [.int i] H Q := ⟨i, rfl, h⟩
theorem go_intB {k : Bool} (h : Q (.int (if k then 1 else 0)) H) : rIntB [.bl k] H Q := ⟨k, rfl, h⟩
theorem go_ixR {α : Type} [Rp α] {v : V} {xs : List α} {i : Int} {j : Nat} {y : α} (hh : HH G os H) (r : rep G v xs) (e : i = (j : Int)) (hy : xs[j]? = some y) (h : ∀ u, rep G u y → Q u H) : rIxL K v (.int i) H Q := by
  obtain ⟨a, vs, rfl, g, p⟩ := r
  obtain ⟨u, hu, ru⟩ := pr_get2 p hy
  subst e
  exact ⟨a, vs, (j : Int), u, rfl, rfl, SqL.of (hh.lst g), atI_nat hu, h u ru⟩
theorem go_set {p : Addr} {xs : List V} {k : Int} {j : Nat} {v : V} {R : Hp → Prop} (hh : HH G ((p, .lst xs) :: os) H) (e : ixN xs.length k = some j) (h : ∀ H', HH G ((p, .lst (xs.set j v)) :: os) H' → R H') : rSetL (.ref p) (.int k) v H R :=
  ⟨p, xs, k, j, rfl, rfl, hh.get, e, h _ (hh.put (.inr fun _ _ z => nomatch z))⟩
/-- isinstance of a bool -/
theorem go_isbool {b : Bool} (h : Q (.bl true) H) : rIsi K [.bl b, .ty "bool"] H Q := ⟨.bl b, .ty "bool", .type "bool", .type "bool", true, rfl, .ty _, .base (.bl _), kit_ty (by decide +kernel), h⟩
theorem go_isbl {a b : Bool} (h : Q (.bl (decide (a = b))) H) : rIsB (.bl a) (.bl b) H Q := ⟨a, b, rfl, rfl, h⟩
/-- a dict written out -/
theorem go_disp {trs : List (TE × TE)} (h : ∀ p H', H p = none → H' = upd H p (.dK []) → tPairs trs σ H' fun ps H2 => H2 p = some (.dK []) ∧ ∃ kvs : List (Key × V), ps = kvs.map (fun kv => (kV kv.1, kv.2)) ∧ kvs.length ≤ 15 ∧ Q (.ref p) (upd H2 p (.dK (mergeK [] kvs)))) : tDisp trs σ H Q :=
  fun p n => h p _ n rfl
/-- signs of a written text -/
theorem go_ixS {z : Str} {i : Int} {j : Nat} {c : Nat} (l : z.length ≤ sizeLine) (e : i = (j : Int)) (hc : z.cps.toList[j]? = some c) (h : Q (.str ⟨#[c]⟩) H) : rIxS (.str z) (.int i) H Q := by
  subst e
  exact ⟨z, _, c, rfl, rfl, l, atI_nat hc, h⟩

/-! ### the box of draws: its list of numbers, and how many are drawn -/
def Bx (G : Hp) (y : HO) : Prop := ∃ (dg : V) (ns : List Int) (at_ : Int), y = .lst [dg, .int at_] ∧ rep G dg ns ∧ 0 ≤ at_
theorem Bx.mono {G G' : Hp} {y : HO} (s : Same G G') (h : Bx G y) : Bx G' y := by
  obtain ⟨dg, ns, a, e, r, n⟩ := h
  exact ⟨dg, ns, a, e, Rp.mono s r, n⟩
inductive R_draw : Hp → Ow → List V → (Hp → Ow → V → Prop) → Prop
  | mk {G : Hp} {b : Addr} {y : HO} {m : Int} : Bx G y → 0 < m → R_draw G [(b, y)] [.ref b, .int m] fun G' ow' v => ∃ y' k, ow' = [(b, y')] ∧ Bx G' y' ∧ v = .int k ∧ 0 ≤ k ∧ k < m
abbrev sp_law_draw : Sp := spG R_draw
theorem go_draw {b : Addr} {y : HO} {m : Int} {E : XK} (hh : HH G ((b, y) :: os) H) (hb : Bx G y) (hm : 0 < m) (h : ∀ G' H' y' k, Same G G' → HH G' ((b, y') :: os) H' → Bx G' y' → 0 ≤ k → k < m → Q (.int k) H') : spG R_draw [.ref b, .int m] H Q E :=
  go_G (ow := [(b, y)]) hh (.mk hb hm) fun G' H' ow' v sm hh' ⟨y', k, e, hb', ev, k0, k1⟩ => by
    subst e ev
    exact h G' H' y' k sm hh' hb' k0 k1
end
end Dl
namespace Dl
open PySem PySem.Spec PyProof.Rows L2
section
variable {R : It → Hp → Prop} {H : Hp}
def RG1 (vs : List V) (H : Hp) (R : It → Hp → Prop) : Prop := ∃ j : Int, vs = [.int j] ∧ -(2 ^ 62) ≤ j ∧ j < 2 ^ 62 ∧ R (Itr 0 j.toNat) H
def RG2 (vs : List V) (H : Hp) (R : It → Hp → Prop) : Prop := ∃ i j : Int, vs = [.int i, .int j] ∧ (-(2 ^ 62) ≤ i ∧ i < 2 ^ 62 ∧ -(2 ^ 62) ≤ j ∧ j < 2 ^ 62) ∧ R (Itr i (j - i).toNat) H
theorem go_rg1 {ta : TA} {σ : L2.St} (h : ta σ H fun vs H1 => RG1 vs H1 R) : iRng1 ta σ H R := h
theorem go_rg2 {ta : TA} {σ : L2.St} (h : ta σ H fun vs H1 => RG2 vs H1 R) : iRng2 ta σ H R := h
theorem go_rgk {j : Int} (h1 : -1000000000 ≤ j) (h2 : j ≤ 1000000000) (h : R (Itr 0 j.toNat) H) : RG1 [.int j] H R := ⟨j, rfl, by omega, by omega, h⟩
theorem go_rgk2 {i j : Int} (h1 : -1000000000 ≤ i) (h2 : i ≤ 1000000000) (h3 : -1000000000 ≤ j) (h4 : j ≤ 1000000000) (h : R (Itr i (j - i).toNat) H) : RG2 [.int i, .int j] H R := ⟨i, j, rfl, ⟨by omega, by omega, by omega, by omega⟩, h⟩
end
end Dl
namespace Dl
open PySem PySem.Spec PyProof.Rows L2
section
variable {t u : TS} {D : Ends} {σ : L2.St} {H : Hp}
theorem go_seqU (h : ∀ U : L2.St → Hp → Prop, u D = U → t { D with nx := U } σ H) : tSeq t u D σ H := h _ rfl
theorem go_seqA {te : TE} {g : TG} (h : tAsg te g { D with nx := u D } σ H) : tSeq (tAsg te g) u D σ H := h
theorem go_seqD {te : TE} (h : tDrop te { D with nx := u D } σ H) : tSeq (tDrop te) u D σ H := h
theorem go_seqF {wi : TI} {g : TG} {tb : TS} (h : tFor wi g tb { D with nx := u D } σ H) : tSeq (tFor wi g tb) u D σ H := h
theorem go_seqP {td ty tv : TE} (h : sDPut td ty tv { D with nx := u D } σ H) : tSeq (sDPut td ty tv) u D σ H := h
theorem go_seqG {i : Nat} {te : TE} {ti : TIp} (h : tAug i te ti { D with nx := u D } σ H) : tSeq (tAug i te ti) u D σ H := h
end
end Dl

set_option Elab.async false
set_option linter.all false
set_option maxRecDepth 100000
namespace Dl
open PySem PySem.Spec PyProof.Rows L2
section
variable {X : Cx} {σ : L2.St} {H G : Hp} {os : Ow} {Q : VK} {D : Ends} {K : PySem.W.Frag}
def DE (p : Addr) (ps : List (V × V)) (Q : VK) (H2 : Hp) : Prop := H2 p = some (.dK []) ∧ ∃ kvs : List (Key × V), ps = kvs.map (fun kv => (kV kv.1, kv.2)) ∧ kvs.length ≤ 15 ∧ Q (.ref p) (upd H2 p (.dK (mergeK [] kvs)))
theorem go_dispO {trs : List (TE × TE)} (hh : HH G os H) (h : ∀ p H1, HH G ((p, .dK []) :: os) H1 → tPairs trs σ H1 fun ps H2 => DE p ps Q H2) : tDisp trs σ H Q := fun p n => h p _ (hh.push n)
theorem go_de {p : Addr} {ps : List (V × V)} {H2 : Hp} (kvs : List (Key × V)) (hh : HH G ((p, .dK []) :: os) H2) (e : ps = kvs.map (fun kv => (kV kv.1, kv.2))) (l : kvs.length ≤ 15)
    (h : ∀ G' H', Same G G' → HH G' os H' → G' p = some (.dK (mergeK [] kvs)) → Q (.ref p) H') : DE p ps Q H2 := by
  refine ⟨hh.get, kvs, e, l, ?_⟩
  have h1 := hh.put (o' := .dK (mergeK [] kvs)) (.inl rfl)
  exact h _ _ (same_upd (h1.gnone (.inl rfl))) (h1.give (.inl rfl)) upd_same
theorem go_ppc {tk tv : TE} {r : List (TE × TE)} {R : List (V × V) → Hp → Prop} (h : tk σ H fun x H1 => tv σ H1 fun y H2 => tPairs r σ H2 fun ps H3 => R ((x, y) :: ps) H3) : tPairs ((tk, tv) :: r) σ H R := h
theorem go_ppn {R : List (V × V) → Hp → Prop} (h : R [] H) : tPairs [] σ H R := h
theorem go_iteNT {A B : Prop} (h : B) : if (!true) = true then A else B := h
theorem go_iteNF {A B : Prop} (h : A) : if (!false) = true then A else B := h
theorem HH.rot {o1 o2 o3 : HO} {a b c : Addr} (h : HH G ((a, o1) :: (b, o2) :: (c, o3) :: os) H) : HH G ((c, o3) :: (a, o1) :: (b, o2) :: os) H := by
  refine h.perm ?_
  exact (List.Perm.cons _ (List.Perm.swap _ _ _)).trans (List.Perm.swap _ _ _)
theorem HH.give1 {p : Addr} {xs : List V} (h : HH G ((p, .lst xs) :: os) H) : ∃ G', Same G G' ∧ HH G' os H ∧ G' p = some (.lst xs) :=
  ⟨_, same_upd (h.gnone (.inr fun _ _ z => nomatch z)), h.give (.inr fun _ _ z => nomatch z), upd_same⟩
theorem HH.giveR {α : Type} [Rp α] {p : Addr} {vs : List V} {xs : List α} (h : HH G ((p, .lst vs) :: os) H) (r : Paired (rep G) vs xs) : ∃ G', Same G G' ∧ HH G' os H ∧ rep G' (.ref p) xs := by
  obtain ⟨G', s, h', e⟩ := h.give1
  exact ⟨G', s, h', p, vs, rfl, e, paired_mono s r⟩
theorem HH.giveD {p : Addr} {vs : List (Key × V)} (h : HH G ((p, .dK vs) :: os) H) : ∃ G', Same G G' ∧ HH G' os H ∧ G' p = some (.dK vs) :=
  ⟨_, same_upd (h.gnone (.inl rfl)), h.give (.inl rfl), upd_same⟩
end
end Dl
namespace Dl
open PySem PySem.Spec PyProof.Rows L2
theorem mergeK_app : ∀ (more acc : List (Key × V)), ((acc ++ more).map (·.1)).Nodup → mergeK acc more = acc ++ more
  | [], acc, _ => by rw [List.append_nil]; rfl
  | kv :: r, acc, h => by
    have h0 : valV acc kv.1 = none := by
      cases q : valV acc kv.1 with
      | none => rfl
      | some v =>
        have m := valV_in q
        rw [List.map_append, List.map_cons] at h
        have d := (List.nodup_append.mp h).2.2 _ m kv.1 (List.mem_cons_self ..)
        exact absurd rfl d
    show mergeK (putK acc kv.1 kv.2) r = _
    rw [putK_new kv.2 h0, mergeK_app r _ (by rw [List.append_assoc]; exact h), List.append_assoc]
    rfl
theorem mergeK_nd {kvs : List (Key × V)} (h : (kvs.map (·.1)).Nodup) : mergeK [] kvs = kvs := mergeK_app kvs [] h
end Dl

set_option Elab.async false
set_option linter.all false
set_option maxRecDepth 100000
set_option maxHeartbeats 4000000
namespace K00
open PySem PySem.Spec PyProof.Rows L2 Dl
local macro_rules
  | `(tactic| walk_at "hho") => `(tactic| first | assumption | exact HH.swap (by assumption) | exact HH.rot (by assumption))
local macro_rules
  | `(tactic| walk_at "rep") => `(tactic| first
    | exact rep_int | exact rep_str | exact rep_bl | exact rep_non
    | assumption
    | exact rfl
    | exact Rp.mono (by assumption) (by walk_at "rep")
    | exact ints_pr _ | exact strs_pr _ | exact Paired.nil
    | exact Paired.cons (by walk_at "rep") (by walk_at "rep"))
local macro_rules
  | `(tactic| walk_at "gg") => `(tactic| first
    | assumption
    | exact rfl
    | exact Same.get1 (by assumption) (by walk_at "gg"))
local macro_rules
  | `(tactic| walk_at "wa") => `(tactic| first
    | (with_reducible refine' go_asg ?_)
    | ((with_reducible refine' go_gname ?_); dsimp only [List.set])
    | (with_reducible refine' go_gcons ?_)
    | (with_reducible refine' go_gnil ?_)
    | ((with_reducible refine' go_var ?hv ?_); (case hv => exact rfl))
    | (with_reducible refine' go_c ?_)
    | (with_reducible refine' go_op ?_)
    | (with_reducible refine' go_cons ?_)
    | (with_reducible refine' go_nil ?_)
    | (with_reducible refine' go_test ?_)
    | (with_reducible refine' go_tb ?_)
    | (with_reducible refine' go_bl ?_)
    | (with_reducible refine' go_ret ?_)
    | (with_reducible refine' go_drop ?_)
    | (with_reducible refine' go_ifs ?_)
    | (with_reducible refine' go_call ?_)
    | (with_reducible refine' go_un ?_)
    | (with_reducible refine' go_and ?_)
    | (with_reducible refine' go_or ?_)
    | (with_reducible refine' go_not ?_)
    | (with_reducible refine' go_andv ?_)
    | (with_reducible refine' go_orv ?_)
    | (with_reducible refine' go_notv ?_)
    | (with_reducible refine' go_if ?_)
    | (with_reducible refine' go_chain ?_)
    | (with_reducible refine' go_lc ?_)
    | (with_reducible refine' go_yes ?_)
    | (with_reducible refine' go_next ?_)
    | (with_reducible refine' go_ppc ?_)
    | (with_reducible refine' go_ppn ?_)
    | (with_reducible refine' go_iteNT ?_)
    | (with_reducible refine' go_iteNF ?_)
    | (with_reducible refine' go_iteT ?_)
    | (with_reducible refine' go_iteF ?_))
local macro_rules
  | `(tactic| walk_at "wb") => `(tactic| first
    | (with_reducible refine' go_tcb ?_)
    | (with_reducible refine' go_tbm ?_)
    | (with_reducible refine' go_tbm0 ?_)
    | (with_reducible refine' go_ttup ?_)
    | (with_reducible refine' go_tlst ?_)
    | (with_reducible refine' go_dget ?_)
    | (with_reducible refine' go_din ?_)
    | (with_reducible refine' go_dnotin ?_)
    | (with_reducible refine' go_dput ?_)
    | (with_reducible refine' go_dnewk ?_)
    | (with_reducible refine' go_gsub ?_)
    | ((with_reducible refine' go_aug ?hv ?_); (case hv => exact rfl))
    | (with_reducible refine' go_ip ?_)
    | (with_reducible refine' go_for ?_)
    | (with_reducible refine' go_rg1 ?_)
    | (with_reducible refine' go_rg2 ?_)
    | (with_reducible refine' go_ilist ?_)
    | (with_reducible refine' go_retn ?_)
    | (with_reducible refine' go_rI0 ?_)
    | (with_reducible refine' go_rU ?_)
    | (with_reducible refine' go_eqI ?_)
    | (with_reducible refine' go_eqS ?_)
    | (with_reducible refine' go_eqB ?_)
    | (with_reducible refine' go_neI ?_)
    | (with_reducible refine' go_neS ?_)
    | (with_reducible refine' go_neB ?_))
local macro_rules
  | `(tactic| walk_at "wc") => `(tactic| first
    | ((with_reducible refine' go_gtup ?hh ?he ?hl ?_); (case hh => assumption); (case he => walk_at "gg"); (case hl => exact rfl))
    | ((with_reducible refine' go_rI ?hc ?_); (case hc => first | (dsimp only [CMul, CDivN, CPow]; first | decide | omega) | exact ⟨by decide, by decide⟩ | decide | omega))
    | ((with_reducible show DG _ _ (V.str _) _); refine go_dsget (by assumption) (by walk_at "rep") (by first | assumption | walk_at "get") ?_; intro _ hv; first | cases hv | skip)
    | ((with_reducible show DI _ _ (V.str _) _); refine go_dsin (by assumption) (by walk_at "rep") ?_)
    | ((with_reducible show rLen _ [_] _ _); first
        | refine go_lenO (by walk_at "hho") ?_
        | refine go_lenR (by assumption) (by walk_at "rep") ?_
        | refine go_len (by assumption) ?_)
    | ((with_reducible show RG1 [_] _ _); refine go_rgk (by omega) (by omega) ?_)
    | ((with_reducible show RG2 [_, _] _ _); refine go_rgk2 (by omega) (by omega) (by omega) (by omega) ?_)
    | ((with_reducible show spG R_draw [V.ref _, V.int _] _ _ _); refine go_draw (by walk_at "hho") (by first | assumption | exact Bx.mono (by assumption) (by assumption)) (by omega) ?_; intro _ _ _ _ _ _ _ _ _)
    | ((with_reducible show tyV _ "list" _ _ ∧ _); refine ⟨ty_lstO (by walk_at "hho"), ?_⟩)
    | ((with_reducible show rAppend _ _ _ _); refine go_append (by walk_at "hho") (by refine small15k ?_; (try simp only [List.length_map, List.length_append, List.length_cons, List.length_nil]); omega) ?_; intro _ _)
    | (with_reducible refine' go_min2 ?_)
    | (with_reducible refine' go_max2 ?_)
    | (with_reducible refine' go_int1 ?_)
    | (with_reducible refine' go_intB ?_)
    | (with_reducible refine' go_isbl ?_)
    | (with_reducible refine' go_isbool ?_)
    | ((with_reducible show TU [_, _, _] _ _); refine go_tup3 (by assumption) (by walk_at "rep") (by walk_at "rep") (by walk_at "rep") ?_; intro _ _ _ _ _ _)
    | ((with_reducible show TU [_, _] _ _); refine go_tup2 (by assumption) (by walk_at "rep") (by walk_at "rep") ?_; intro _ _ _ _ _ _))
local macro_rules
  | `(tactic| walk_at "ws") => `(tactic| (with_reducible refine' go_seq ?_))
local macro_rules
  | `(tactic| walk_at "wy") => `(tactic| first | (with_reducible refine' go_seqA ?_) | (with_reducible refine' go_seqD ?_) | (with_reducible refine' go_seqF ?_) | (with_reducible refine' go_seqP ?_) | (with_reducible refine' go_seqG ?_))
local macro_rules
  | `(tactic| walk_at "w") => `(tactic| repeat (first | walk_at "wa" | walk_at "ws" | walk_at "wb" | walk_at "wc"))
local macro_rules
  | `(tactic| walk_at "wx") => `(tactic| repeat (first | walk_at "wa" | walk_at "wy" | walk_at "wb" | walk_at "wc"))
local macro_rules
  | `(tactic| walk_at "wi") => `(tactic| first
    | ((with_reducible refine' go_iteD ?_ ?_) <;> intro _)
    | ((with_reducible refine' go_iteN ?_ ?_) <;> intro _)
    | ((with_reducible refine' go_iteB ?_ ?_) <;> intro _))
local macro_rules
  | `(tactic| walk_at "ww") => `(tactic| repeat' (first | walk_at "wa" | walk_at "ws" | walk_at "wb" | walk_at "wc" | walk_at "wi"))
local macro_rules
  | `(tactic| walk_at "wk") => `(tactic| repeat' (first | walk_at "wa" | walk_at "wy" | walk_at "wb" | walk_at "wc" | walk_at "wi"))
local macro_rules
  | `(tactic| walk_at "sq") => `(tactic| first
    | assumption | exact Same.seq (by assumption) (by walk_at "sq"))
local macro_rules
  | `(tactic| walk_at "pre") => `(tactic| first
    | walk_at "rep" | assumption | walk_at "sq" | omega | decide)
local macro_rules
  | `(tactic| walk_at "wp") => `(tactic| (refine go_P (by assumption) (by constructor <;> walk_at "pre") ?_; intro _ _ _ _ _ hv; first | cases hv | skip))
local macro_rules
  | `(tactic| walk_at "lce") => `(tactic| (refine go_lce (by assumption) ?_ ?_ ?_ ?_; (case _ => walk_at "rep"); (case _ => refine paired_mono ?_ (by assumption); walk_at "rep"); (case _ => walk_at "rep"); (case _ => refine small15k ?_; omega)))
def topS (i : Nat) : Stmt := PySem.Challenge.pw_movedyears_k00_conditions.main.body.getD i (.Pass ⟨0, 0, 0, 0⟩)
abbrev s_passes : Stmt := topS 1
abbrev n_passes : List Str := ["test", "counts", "counter", "sign", "number"]
theorem sc_passes : FnScope n_passes ["test", "counts"] (defScope s_passes) := ⟨rfl, rfl, rfl, by decide +kernel, rfl, by decide +kernel, by decide +kernel⟩
abbrev s_holds : Stmt := topS 2
abbrev n_holds : List Str := ["condition", "counts", "test"]
theorem sc_holds : FnScope n_holds ["condition", "counts"] (defScope s_holds) := ⟨rfl, rfl, rfl, by decide +kernel, rfl, by decide +kernel, by decide +kernel⟩
abbrev s_law_cell : Stmt := topS 4
abbrev n_law_cell : List Str := ["script", "k"]
theorem sc_law_cell : FnScope n_law_cell ["script", "k"] (defScope s_law_cell) := ⟨rfl, rfl, rfl, by decide +kernel, rfl, by decide +kernel, by decide +kernel⟩
abbrev s_law_digits : Stmt := topS 5
abbrev n_law_digits : List Str := ["script", "first", "last", "digits", "k", "cell", "turn", "seed"]
theorem sc_law_digits : FnScope n_law_digits ["script", "first", "last"] (defScope s_law_digits) := ⟨rfl, rfl, rfl, by decide +kernel, rfl, by decide +kernel, by decide +kernel⟩
abbrev s_law_draw : Stmt := topS 6
abbrev n_law_draw : List Str := ["box", "many", "at"]
theorem sc_law_draw : FnScope n_law_draw ["box", "many"] (defScope s_law_draw) := ⟨rfl, rfl, rfl, by decide +kernel, rfl, by decide +kernel, by decide +kernel⟩
abbrev s_law : Stmt := topS 7
abbrev n_law : List Str := ["script", "box", "turn", "counts", "condition", "due", "k", "told", "name", "number", "sign", "good"]
theorem sc_law : FnScope n_law ["script"] (defScope s_law) := ⟨rfl, rfl, rfl, by decide +kernel, rfl, by decide +kernel, by decide +kernel⟩
section
variable {P : Program} {w : World} {K : PySem.W.Frag} {mg : Str → Option Value} {base : Heap}
/-! ### a test, a condition -/
abbrev Tst : Type := T3 Str Str Int
def passM (s : Str) (n x : Int) : Bool := if s = (">=" : Str) then decide (n ≤ x) else decide (x < n)
inductive R_passes : Hp → List V → (Hp → V → Prop) → Prop
  | mk {G : Hp} {v1 v2 : V} {t : Tst} {d : DS Int} {x : Int} : rep G v1 t → rep G v2 d → d.get t.a = some x → R_passes G [v1, v2] fun _ v => v = .bl (passM t.b t.c x)
abbrev sp_passes : Sp := spP R_passes
theorem ok_passes  (D : DefAt K mg "passes" s_passes ["test", "counts"]) : Cal P w K mg base CX0 1 "passes" ["test", "counts"] sp_passes := by
  refine D.ok sc_passes (fun vs H Q E h => ?_) (fun X s H f A outer cdv vs Q E eX hr h => ?_)
  · first
    | (obtain ⟨_, _, _, _, r, _⟩ := h; cases r; rfl)
    | (obtain ⟨_, _, _, _, _, r, _⟩ := h; cases r; rfl)
  · clear eX
    obtain ⟨G, os, post, hh, ⟨r1, r2, l⟩, q⟩ := h
    rename_i v1 v2 t d x
    obtain ⟨a, w1, w2, w3, rfl, ha, rfl, rfl, rfl⟩ := r1
    refine ⟨_, (pss_cons (ps_asg (pv 0) (pg_tup rfl (pgs_cons (pg_name (i := 2) sc_passes.nd rfl (by first | exact Or.inl rfl | exact Or.inr rfl)) (pgs_cons (pg_name (i := 3) sc_passes.nd rfl (by first | exact Or.inl rfl | exact Or.inr rfl)) (pgs_cons (pg_name (i := 4) sc_passes.nd rfl (by first | exact Or.inl rfl | exact Or.inr rfl)) pgs_nil)))))
    (pss_cons (ps_if (pt_cmpR op_eq (pv 3) pe_str (nomark _)) (pss_one (ps_ret (pe_cmpR op_ge (pe_dget (hu_of hr) (pv 1) (pv 2) (fun _ _ => rfl)) (pv 4) (nomark _)))) pss_nil)
    (pss_one (ps_ret (pe_cmpR op_lt (pe_dget (hu_of hr) (pv 1) (pv 2) (fun _ _ => rfl)) (pv 4) (nomark _)))))), ?_⟩
    refine go_start (n := n_passes) (σ := [some _, some _, none, none, none]) rfl ?_
    walk_at "ww"
    · rename_i e
      exact q _ _ _ (Same.refl _) hh (by unfold passM; rw [if_pos e])
    · rename_i e
      exact q _ _ _ (Same.refl _) hh (by unfold passM; rw [if_neg e])
def holdsM (c : List Tst) (d : DS Int) : Bool := c.all fun t => passM t.b t.c ((d.get t.a).getD 0)
inductive R_holds : Hp → List V → (Hp → V → Prop) → Prop
  | mk {G : Hp} {v1 v2 : V} {c : List Tst} {d : DS Int} : rep G v1 c → rep G v2 d → (∀ t ∈ c, ∃ x, d.get t.a = some x) → c.length ≤ 1000 → R_holds G [v1, v2] fun _ v => v = .bl (holdsM c d)
abbrev sp_holds : Sp := spP R_holds
theorem ok_holds (C_passes : Cal P w K mg base CX0 1 "passes" ["test", "counts"] sp_passes) (m_all : mg "all" = none) (D : DefAt K mg "holds" s_holds ["condition", "counts"]) : Cal P w K mg base CX0 2 "holds" ["condition", "counts"] sp_holds := by
  refine D.ok sc_holds (fun vs H Q E h => ?_) (fun X s H f A outer cdv vs Q E eX hr h => ?_)
  · first
    | (obtain ⟨_, _, _, _, r, _⟩ := h; cases r; rfl)
    | (obtain ⟨_, _, _, _, _, r, _⟩ := h; cases r; rfl)
  · clear eX
    obtain ⟨G, os, post, hh, ⟨r1, r2, hd, hl⟩, q⟩ := h
    rename_i v1 v2 c d
    refine ⟨_, (pss_one (ps_ret (pe_callB (cr_all rfl) (by rfl) m_all bt_all (pa_cons (pe_lc (own := [("test", 2)]) rfl sc_holds.nd (pi_list (pv 0)) (blkOk_by (own := [("test", 2)]) (N := n_holds) (sc := defScope s_holds) (by decide +kernel)) (fun _ _ _ _ _ => (pg_name (i := 2) sc_holds.nd rfl (by first | exact Or.inl rfl | exact Or.inr rfl))) (fun _ _ _ _ _ => pts_nil) (fun _ _ _ _ _ => (pe_callC C_passes (hr.mono (by decide)) (by rfl) pass0 (pa_cons (pv 2) (pa_cons (pv 1) pa_nil))))) pa_nil)))), ?_⟩
    refine go_start (n := n_holds) (σ := [some _, some _, none]) rfl ?_
    walk_at "ww"
    refine lc_mapS (fun t : Tst => passM t.b t.c ((d.get t.a).getD 0)) r1 hh (fun i v y G' vs ys H' A hy ry sm hh' pr hl' => ?_) (fun b G' H' sm hh' r => ?_)
    · obtain ⟨x, hx⟩ := hd y (List.mem_of_getElem? hy)
      walk_at "ww"
      refine ⟨rfl, ?_⟩
      walk_at "ww"
      walk_at "wp"
      rw [hx]
      refine go_lce (by assumption) (by assumption) (paired_mono (by assumption) pr) rfl (small15k (by omega))
    · walk_at "ww"
      obtain ⟨b2, vs, e, gb, p⟩ := r
      cases e
      refine ⟨b, c.map fun t => passM t.b t.c ((d.get t.a).getD 0), rfl, SqL.of (hh'.lst ?_), q _ _ _ sm hh' ?_⟩
      · rw [← pr_bls p]
        exact gb
      · show V.bl _ = V.bl _
        unfold holdsM
        rw [List.all_map]
        rfl
inductive R_law_cell (K : PySem.W.Frag) : Hp → List V → (Hp → V → Prop) → Prop
  | mk {G : Hp} {a : Addr} {ns : List Int} {k : Int} : SqL K G a (ns.map V.int) → 0 ≤ k → R_law_cell K G [.ref a, .int k] fun _ v => ∃ n : Int, v = .int n
abbrev sp_law_cell (K : PySem.W.Frag) : Sp := spP (R_law_cell K)
theorem ok_law_cell (m_len : mg "len" = none) (D : DefAt K mg "_law_cell" s_law_cell ["script", "k"]) : Cal P w K mg base CX0 1 "_law_cell" ["script", "k"] (sp_law_cell K) := by
  refine D.ok sc_law_cell (fun vs H Q E h => ?_) (fun X s H f A outer cdv vs Q E eX hr h => ?_)
  · first
    | (obtain ⟨_, _, _, _, r, _⟩ := h; cases r; rfl)
    | (obtain ⟨_, _, _, _, _, r, _⟩ := h; cases r; rfl)
  · clear eX
    obtain ⟨G, os, post, hh, ⟨hS, hk⟩, q⟩ := h
    rename_i a ns k
    have hSH : SqL K H a (ns.map V.int) := hh.sq hS
    refine ⟨_, (pss_cons (ps_if (pt_cmpR op_lt (pv 1) (pe_callB cl_len (by rfl) m_len bt_len (pa_cons (pv 0) pa_nil)) (nomark _)) (pss_one (ps_ret (pe_ix ix_list (pv 0) (pv 1) (fun _ _ => rfl)))) pss_nil)
    (pss_one (ps_ret pe_int))), ?_⟩
    refine go_start (n := n_law_cell) (σ := [some _, some _]) rfl ?_
    walk_at "ww"
    · rename_i hlt
      rw [List.length_map] at hlt
      have h1 : k.toNat < ns.length := by omega
      refine ⟨a, _, k, .int ns[k.toNat], rfl, rfl, hSH, at_of (j := k.toNat) (by omega) (by rw [List.getElem?_map, List.getElem?_eq_getElem h1]; rfl), ?_⟩
      exact q _ _ _ (Same.refl _) hh ⟨_, rfl⟩
    · exact q _ _ _ (Same.refl _) hh ⟨_, rfl⟩
theorem ok_law_draw (m_len : mg "len" = none) (m_int : mg "int" = none) (D : DefAt K mg "_law_draw" s_law_draw ["box", "many"]) : Cal P w K mg base CX0 1 "_law_draw" ["box", "many"] sp_law_draw := by
  refine D.ok sc_law_draw (fun vs H Q E h => ?_) (fun X s H f A outer cdv vs Q E eX hr h => ?_)
  · first
    | (obtain ⟨_, _, _, _, r, _⟩ := h; cases r; rfl)
    | (obtain ⟨_, _, _, _, _, r, _⟩ := h; cases r; rfl)
  · clear eX
    obtain ⟨G, ow, fr, post, hh, ⟨⟨dg, ns, at_, rfl, r, h0⟩, hm⟩, q⟩ := h
    rename_i b m
    have hh : HH G ((b, .lst [dg, .int at_]) :: fr) H := hh
    refine ⟨_, (pss_cons (ps_set (i := 2) sc_law_draw.nd rfl (by first | exact Or.inl rfl | exact Or.inr rfl) (pe_ix ix_list (pv 0) pe_int (fun _ _ => rfl)))
    (pss_cons (ps_asg (pe_op op_add (pv 2) pe_int) (pg_sub (pv 0) pe_int set_list))
    (pss_cons (ps_if (pt_cmpR op_lt (pv 2) (pe_callB cl_len (by rfl) m_len bt_len (pa_cons (pe_ix ix_list (pv 0) pe_int (fun _ _ => rfl)) pa_nil)) (nomark _)) (pss_one (ps_ret (pe_op op_modN (pe_callTy cl_int (by rfl) m_int bt_int (pa_cons (pe_ix ix_list (pe_ix ix_list (pv 0) pe_int (fun _ _ => rfl)) (pv 2) (fun _ _ => rfl)) pa_nil)) (pv 1)))) pss_nil)
    (pss_one (ps_ret pe_int))))), ?_⟩
    refine go_start (n := n_law_draw) (σ := [some _, some _, none]) rfl ?_
    walk_at "ww"
    refine go_ixLo hh rfl ?_
    walk_at "ww"
    refine go_set (j := 1) hh rfl fun H1 h1 => ?_
    have h1 : HH G ((b, .lst [dg, .int (at_ + 1)]) :: fr) H1 := h1
    walk_at "ww"
    refine go_ixLo h1 rfl ?_
    walk_at "ww"
    · rename_i hlt
      refine go_ixLo h1 rfl ?_
      walk_at "ww"
      have h2 : at_.toNat < ns.length := by omega
      refine go_ixR h1 r (j := at_.toNat) (by omega) (List.getElem?_eq_getElem h2) fun u hu => ?_
      cases hu
      walk_at "ww"
      refine q _ _ [(b, _)] _ (Same.refl _) h1 ⟨_, _, rfl, ⟨dg, ns, at_ + 1, rfl, r, by omega⟩, rfl, ?_, ?_⟩
      · exact Int.fmod_nonneg_of_pos _ hm
      · exact Int.fmod_lt_of_pos _ hm
    · exact q _ _ [(b, _)] _ (Same.refl _) h1 ⟨_, _, rfl, ⟨dg, ns, at_ + 1, rfl, r, by omega⟩, rfl, by omega, by omega⟩
inductive R_law_digits (K : PySem.W.Frag) : Hp → List V → (Hp → V → Prop) → Prop
  | mk {G : Hp} {a : Addr} {ns : List Int} {lo hi : Int} : SqL K G a (ns.map V.int) → 0 ≤ lo → lo ≤ hi → hi ≤ 63 → R_law_digits K G [.ref a, .int lo, .int hi] fun G' v => ∃ ds : List Int, rep G' v ds
abbrev sp_law_digits (K : PySem.W.Frag) : Sp := spP (R_law_digits K)
theorem ok_law_digits (C_law_cell : Cal P w K mg base CX0 1 "_law_cell" ["script", "k"] (sp_law_cell K)) (m_range : mg "range" = none) (m_int : mg "int" = none) (D : DefAt K mg "_law_digits" s_law_digits ["script", "first", "last"]) : Cal P w K mg base CX0 2 "_law_digits" ["script", "first", "last"] (sp_law_digits K) := by
  refine D.ok sc_law_digits (fun vs H Q E h => ?_) (fun X s H f A outer cdv vs Q E eX hr h => ?_)
  · first
    | (obtain ⟨_, _, _, _, r, _⟩ := h; cases r; rfl)
    | (obtain ⟨_, _, _, _, _, r, _⟩ := h; cases r; rfl)
  · clear eX
    obtain ⟨G, os, post, hh, ⟨hS, hlo, hlh, hhi⟩, q⟩ := h
    rename_i a ns lo hi
    refine ⟨_, (pss_cons (ps_set (i := 3) sc_law_digits.nd rfl (by first | exact Or.inl rfl | exact Or.inr rfl) (pe_lst pa_nil))
    (pss_cons (ps_for PassesOwn.never rfl (pi_range2 (by rfl) m_range (pa_cons (pv 1) (pa_cons (pv 2) pa_nil))) (pg_name (i := 4) sc_law_digits.nd rfl (by first | exact Or.inl rfl | exact Or.inr rfl))
    (pss_cons (ps_set (i := 5) sc_law_digits.nd rfl (by first | exact Or.inl rfl | exact Or.inr rfl) (pe_callC C_law_cell (hr.mono (by decide)) (by rfl) pass0 (pa_cons (pv 0) (pa_cons (pv 4) pa_nil))))
    (pss_cons (ps_if (pt_cmpR op_lt (pv 5) pe_int (nomark _)) (pss_one (ps_set (i := 5) sc_law_digits.nd rfl (by first | exact Or.inl rfl | exact Or.inr rfl) (pe_op op_sub pe_int (pe_op op_mul pe_int (pv 5))))) pss_nil)
    (pss_one (ps_if (pt_cmpR op_ge (pv 5) (pe_op op_pow pe_int pe_int) (nomark _)) (pss_one (ps_for PassesOwn.never rfl (pi_range1 (by rfl) m_range (pa_cons pe_int pa_nil)) (pg_name (i := 6) sc_law_digits.nd rfl (by first | exact Or.inl rfl | exact Or.inr rfl))
    (pss_one (ps_if (pt_cmpR op_gt (pv 5) pe_int (nomark _)) (pss_cons (ps_expr (pe_bm PySem.F.plainAttrs_list PySem.F.slot_list_append PySem.F.type_list_append mt_append (pv 3) (pa_cons (pe_op op_modN (pe_callTy cl_int (by rfl) m_int bt_int (pa_cons (pv 5) pa_nil)) pe_int) pa_nil)))
    (pss_one (ps_set (i := 5) sc_law_digits.nd rfl (by first | exact Or.inl rfl | exact Or.inr rfl) (pe_op op_fdivN (pv 5) pe_int)))) pss_nil)))) (pss_cons (ps_set (i := 7) sc_law_digits.nd rfl (by first | exact Or.inl rfl | exact Or.inr rfl) (pe_op op_modN (pe_callTy cl_int (by rfl) m_int bt_int (pa_cons (pe_op op_add (pe_op op_add (pe_op op_mul (pv 5) pe_int) (pe_op op_mul (pv 4) pe_int)) pe_int) pa_nil)) pe_int))
    (pss_one (ps_for PassesOwn.never rfl (pi_range1 (by rfl) m_range (pa_cons pe_int pa_nil)) (pg_name (i := 6) sc_law_digits.nd rfl (by first | exact Or.inl rfl | exact Or.inr rfl))
    (pss_cons (ps_set (i := 7) sc_law_digits.nd rfl (by first | exact Or.inl rfl | exact Or.inr rfl) (pe_op op_modN (pe_callTy cl_int (by rfl) m_int bt_int (pa_cons (pe_op op_add (pe_op op_add (pe_op op_mul (pv 7) pe_int) (pe_op op_mul pe_int (pv 6))) pe_int) pa_nil)) pe_int))
    (pss_one (ps_expr (pe_bm PySem.F.plainAttrs_list PySem.F.slot_list_append PySem.F.type_list_append mt_append (pv 3) (pa_cons (pe_op op_modN (pe_callTy cl_int (by rfl) m_int bt_int (pa_cons (pe_op op_fdivN (pv 7) pe_int) pa_nil)) pe_int) pa_nil)))))))))))))
    (pss_one (ps_ret (pv 3))))), ?_⟩
    refine go_start (n := n_law_digits) (σ := [some _, some _, some _, none, none, none, none, none]) rfl ?_
    walk_at "ww"
    refine go_lstO (by decide) hh fun p H1 h1 => ?_
    walk_at "ww"
    refine for_rngG (G := G) (os := (p, .lst []) :: os) (fun i σ G' os' => ∃ (ds : List Int) (x4 x5 x6 x7 : Option V), σ = [some (.ref a), some (.int lo), some (.int hi), some (.ref p), x4, x5, x6, x7] ∧ os' = (p, .lst (ds.map V.int)) :: os ∧ ds.length ≤ 60 * i)
      h1 ⟨[], none, none, none, none, rfl, rfl, by simp⟩ (fun i σ G' os' H' hilt sm hh' ⟨ds, x4, x5, x6, x7, e1, e2, hl⟩ => ?_) (fun σ G' os' H' sm hh' ⟨ds, x4, x5, x6, x7, e1, e2, hl⟩ => ?_)
    · subst e1 e2
      walk_at "wx"
      refine go_P hh' (.mk (sm.seq hS) (by omega)) fun G2 H2 v sm2 h2 ⟨n, ev⟩ => ?_
      subst ev
      walk_at "wx"
      refine go_seqU fun U hU => ?_
      have key : ∀ n : Int, U [some (.ref a), some (.int lo), some (.int hi), some (.ref p), some (.int (lo + i)), some (.int n), x6, x7] H2 := by
        intro n
        subst hU
        walk_at "ww"
        · refine for_rngG (fun j σ G' os' => ∃ (ds : List Int) (n : Int) (x6 : Option V), σ = [some (.ref a), some (.int lo), some (.int hi), some (.ref p), some (.int (lo + i)), some (.int n), x6, x7] ∧ os' = (p, .lst (ds.map V.int)) :: os ∧ ds.length ≤ 60 * i + j)
            h2 ⟨ds, n, x6, rfl, rfl, by omega⟩ (fun j σ G3 os3 H3 hj sm3 h3 ⟨ds3, n3, x63, e1, e2, hl3⟩ => ?_) (fun σ G3 os3 H3 sm3 h3 ⟨ds3, n3, x63, e1, e2, hl3⟩ => ?_)
          · have hj : j < 60 := hj
            subst e1 e2
            walk_at "ww"
            · exact ⟨_, _, Same.refl _, by assumption, ds3 ++ [n3.fmod 1000], _, _, rfl, by rw [List.map_append]; rfl, by rw [List.length_append, List.length_singleton]; omega⟩
            · exact ⟨_, _, Same.refl _, h3, ds3, _, _, rfl, rfl, by omega⟩
          · have hl3 : ds3.length ≤ 60 * i + 60 := hl3
            subst e1 e2
            exact ⟨_, _, sm2.trans sm3, h3, ds3, _, _, _, _, rfl, rfl, by omega⟩
        · refine for_rngG (fun j σ G' os' => ∃ (ds : List Int) (n m : Int) (x6 : Option V), σ = [some (.ref a), some (.int lo), some (.int hi), some (.ref p), some (.int (lo + i)), some (.int n), x6, some (.int m)] ∧ os' = (p, .lst (ds.map V.int)) :: os ∧ ds.length ≤ 60 * i + j)
            h2 ⟨ds, n, _, x6, rfl, rfl, by omega⟩ (fun j σ G3 os3 H3 hj sm3 h3 ⟨ds3, n3, m3, x63, e1, e2, hl3⟩ => ?_) (fun σ G3 os3 H3 sm3 h3 ⟨ds3, n3, m3, x63, e1, e2, hl3⟩ => ?_)
          · have hj : j < 12 := hj
            subst e1 e2
            walk_at "ww"
            exact ⟨_, _, Same.refl _, by assumption, ds3 ++ [_], _, _, _, rfl, by rw [List.map_append]; rfl, by rw [List.length_append, List.length_singleton]; omega⟩
          · have hl3 : ds3.length ≤ 60 * i + 12 := hl3
            subst e1 e2
            exact ⟨_, _, sm2.trans sm3, h3, ds3, _, _, _, _, rfl, rfl, by omega⟩
      walk_at "wk"
      · exact key _
      · exact key _
    · subst e1 e2
      walk_at "ww"
      exact q _ _ _ (sm.trans (same_upd (hh'.gnone (.inr fun _ _ z => nomatch z)))) (hh'.give (.inr fun _ _ z => nomatch z)) ⟨ds, p, _, rfl, upd_same, ints_pr ds⟩
inductive R_law (K : PySem.W.Frag) : Hp → List V → (Hp → V → Prop) → Prop
  | mk {G : Hp} {a : Addr} {ns : List Int} : SqL K G a (ns.map V.int) → ns.length ≤ 63 → R_law K G [.ref a] fun _ v => v = .bl true
abbrev sp_law (K : PySem.W.Frag) : Sp := spP (R_law K)
theorem ok_law (C_law_digits : Cal P w K mg base CX0 2 "_law_digits" ["script", "first", "last"] (sp_law_digits K)) (C_holds : Cal P w K mg base CX0 2 "holds" ["condition", "counts"] sp_holds) (C_law_draw : Cal P w K mg base CX0 1 "_law_draw" ["box", "many"] sp_law_draw) (C_passes : Cal P w K mg base CX0 1 "passes" ["test", "counts"] sp_passes) (m_range : mg "range" = none) (m_min : mg "min" = none) (m_max : mg "max" = none) (m_isinstance : mg "isinstance" = none) (m_bool : mg "bool" = none) {f : Addr} {fd : FuncData} (F : Fun K "law" "law" s_law f fd) : FnOk P w K mg base CX0 3 f fd ["script"] (sp_law K) := by
  refine F.ok sc_law (fun vs H Q E h => ?_) (fun cdv A outer s H vs Q E hr h => ?_)
  · first
    | (obtain ⟨_, _, _, _, r, _⟩ := h; cases r; rfl)
    | (obtain ⟨_, _, _, _, _, r, _⟩ := h; cases r; rfl)
  · skip
    obtain ⟨G, os, post, hh, ⟨hS, hlen⟩, q⟩ := h
    rename_i a ns
    refine ⟨_, (pss_cons (ps_set (i := 1) sc_law.nd rfl (by first | exact Or.inl rfl | exact Or.inr rfl) (pe_lst (pa_cons (pe_callC C_law_digits (hr.mono (by decide)) (by rfl) pass0 (pa_cons (pv 0) (pa_cons pe_int (pa_cons pe_int pa_nil)))) (pa_cons pe_int pa_nil))))
    (pss_cons (ps_for PassesOwn.never rfl (pi_range1 (by rfl) m_range (pa_cons pe_int pa_nil)) (pg_name (i := 2) sc_law.nd rfl (by first | exact Or.inl rfl | exact Or.inr rfl))
    (pss_cons (ps_set (i := 3) sc_law.nd rfl (by first | exact Or.inl rfl | exact Or.inr rfl) (pe_disp (pps_cons pe_str (pe_callC C_law_draw (hr.mono (by decide)) (by rfl) pass0 (pa_cons (pv 1) (pa_cons pe_int pa_nil))) (pps_cons pe_str (pe_callC C_law_draw (hr.mono (by decide)) (by rfl) pass0 (pa_cons (pv 1) (pa_cons pe_int pa_nil))) (pps_cons pe_str (pe_op op_mul pe_int (pe_callC C_law_draw (hr.mono (by decide)) (by rfl) pass0 (pa_cons (pv 1) (pa_cons pe_int pa_nil)))) pps_nil))) (by rfl) (by rfl) (fun z => by cases z) (by decide)))
    (pss_cons (ps_set (i := 4) sc_law.nd rfl (by first | exact Or.inl rfl | exact Or.inr rfl) (pe_lst pa_nil))
    (pss_cons (ps_set (i := 5) sc_law.nd rfl (by first | exact Or.inl rfl | exact Or.inr rfl) pe_bl)
    (pss_cons (ps_for PassesOwn.never rfl (pi_range1 (by rfl) m_range (pa_cons (pe_callC C_law_draw (hr.mono (by decide)) (by rfl) pass0 (pa_cons (pv 1) (pa_cons pe_int pa_nil))) pa_nil)) (pg_name (i := 6) sc_law.nd rfl (by first | exact Or.inl rfl | exact Or.inr rfl))
    (pss_cons (ps_set (i := 8) sc_law.nd rfl (by first | exact Or.inl rfl | exact Or.inr rfl) (pe_ix ix_str pe_str (pe_callC C_law_draw (hr.mono (by decide)) (by rfl) pass0 (pa_cons (pv 1) (pa_cons pe_int pa_nil))) (fun _ _ => rfl)))
    (pss_cons (ps_set (i := 9) sc_law.nd rfl (by first | exact Or.inl rfl | exact Or.inr rfl) (pe_callB (cl_min2 rfl) (by rfl) m_min bt_min (pa_cons pe_int (pa_cons (pe_callB (cl_max2 rfl) (by rfl) m_max bt_max (pa_cons pe_int (pa_cons (pe_op op_sub (pe_op op_add (pe_dget (hu_of hr) (pv 3) (pv 8) (fun _ _ => rfl)) (pe_callC C_law_draw (hr.mono (by decide)) (by rfl) pass0 (pa_cons (pv 1) (pa_cons pe_int pa_nil)))) pe_int) pa_nil))) pa_nil))))
    (pss_cons (ps_set (i := 10) sc_law.nd rfl (by first | exact Or.inl rfl | exact Or.inr rfl) (pe_ix ix_list (pe_lst (pa_cons pe_str (pa_cons pe_str pa_nil))) (pe_callC C_law_draw (hr.mono (by decide)) (by rfl) pass0 (pa_cons (pv 1) (pa_cons pe_int pa_nil))) (fun _ _ => rfl)))
    (pss_cons (ps_set (i := 11) sc_law.nd rfl (by first | exact Or.inl rfl | exact Or.inr rfl) (pe_cmpR op_ge (pe_dget (hu_of hr) (pv 3) (pv 8) (fun _ _ => rfl)) (pv 9) (nomark _)))
    (pss_cons (ps_if (pt_cmpR op_eq (pv 10) pe_str (nomark _)) (pss_one (ps_set (i := 11) sc_law.nd rfl (by first | exact Or.inl rfl | exact Or.inr rfl) (pe_cmpR op_lt (pe_dget (hu_of hr) (pv 3) (pv 8) (fun _ _ => rfl)) (pv 9) (nomark _)))) pss_nil)
    (pss_cons (ps_expr (pe_bm PySem.F.plainAttrs_list PySem.F.slot_list_append PySem.F.type_list_append mt_append (pv 4) (pa_cons (pe_tup (pa_cons (pv 8) (pa_cons (pv 10) (pa_cons (pv 9) pa_nil)))) pa_nil)))
    (pss_cons (ps_if (pt_cmpR op_ne (pe_callC C_passes (hr.mono (by decide)) (by rfl) pass0 (pa_cons (pe_tup (pa_cons (pv 8) (pa_cons (pv 10) (pa_cons (pv 9) pa_nil)))) (pa_cons (pv 3) pa_nil))) (pv 11) (nomark _)) (pss_one (ps_ret pe_bl)) pss_nil)
    (pss_one (ps_set (i := 5) sc_law.nd rfl (by first | exact Or.inl rfl | exact Or.inr rfl) (pe_and (pv 5) (pe_one (pv 11)))))))))))))
    (pss_cons (ps_set (i := 7) sc_law.nd rfl (by first | exact Or.inl rfl | exact Or.inr rfl) (pe_callC C_holds (hr.mono (by decide)) (by rfl) pass0 (pa_cons (pv 4) (pa_cons (pv 3) pa_nil))))
    (pss_one (ps_if (PW.pt (pw_or (pt_not (pt_val (pe_callB call_isi (by rfl) m_isinstance bt_isinstance (pa_cons (pv 7) (pa_cons (pe_bltn (v := .ty "bool") (by rfl) m_bool bt_bool rfl) pa_nil))))) (pw_or1 (pt_cmpR op_ne (pv 7) (pv 5) (nomark _))))) (pss_one (ps_ret pe_bl)) pss_nil))))))))
    (pss_one (ps_ret (pe_cmpR op_isBl (pe_callC C_holds (hr.mono (by decide)) (by rfl) pass0 (pa_cons (pe_lst pa_nil) (pa_cons pe_dnewK pa_nil))) pe_bl (nomark _)))))), ?_⟩
    refine go_start (n := n_law) (σ := [some _, none, none, none, none, none, none, none, none, none, none, none]) rfl ?_
    walk_at "wx"
    refine go_P hh (.mk hS (by omega) (by omega) (by omega)) fun G1 H1 v sm1 h1 ⟨ds, rds⟩ => ?_
    walk_at "wx"
    refine go_lstO (by simp) h1 fun b H2 h2 => ?_
    have hb : Bx G1 (.lst [v, .int 0]) := ⟨v, ds, 0, rfl, rds, by omega⟩
    walk_at "wx"
    refine for_rngG (fun i σ G' os' => ∃ (y : HO) (x2 x3 x4 x5 x6 x7 x8 x9 x10 x11 : Option V), σ = [some (.ref a), some (.ref b), x2, x3, x4, x5, x6, x7, x8, x9, x10, x11] ∧ os' = (b, y) :: os ∧ Bx G' y)
      h2 ⟨_, _, _, _, _, _, _, _, _, _, _, rfl, rfl, hb⟩ (fun i σ G' os' H' hilt sm hh' ⟨y, x2, x3, x4, x5, x6, x7, x8, x9, x10, x11, e1, e2, hb'⟩ => ?_) (fun σ G' os' H' sm hh' ⟨y, x2, x3, x4, x5, x6, x7, x8, x9, x10, x11, e1, e2, hb'⟩ => ?_)
    · subst e1 e2
      walk_at "wx"
      refine go_dispO hh' fun p H3 h3 => ?_
      walk_at "wx"
      rename_i Ga Ha ya ka sa ha ba ka0 ka1 Gb Hb yb kb sb hb2 bb kb0 kb1 Gc Hc yc kc sc hc bc kc0 kc1
      refine go_de [(.inr "a", .int ka), (.inr "b", .int kb), (.inr "c", .int (20 * kc))] hc.swap rfl (by simp) fun G4 H4 s4 h4 e4 => ?_
      rw [mergeK_nd (by simp only [List.map_cons, List.map_nil]; decide +kernel)] at e4
      let d : DS Int := ⟨[("a", ka), ("b", kb), ("c", 20 * kc)]⟩
      have rd : rep G4 (.ref p) d := ⟨p, _, rfl, e4, .cons ⟨rfl, rfl⟩ (.cons ⟨rfl, rfl⟩ (.cons ⟨rfl, rfl⟩ .nil))⟩
      have b4 : Bx G4 yc := bc.mono s4
      walk_at "wx"
      refine go_lstO (by simp) h4 fun c H5 h5 => ?_
      walk_at "wx"
      rename_i G6 H6 y6 k6 s6 h6 b6 k60 k61
      refine for_rngG (fun j σ G' os' => ∃ (y : HO) (vs : List V) (cs : List Tst) (x6 x7 x8 x9 x10 x11 : Option V), σ = [some (.ref a), some (.ref b), some (.int (0 + i)), some (.ref p), some (.ref c), some (.bl (holdsM cs d)), x6, x7, x8, x9, x10, x11] ∧ os' = (b, y) :: (c, .lst vs) :: os ∧ Bx G' y ∧ Paired (rep G') vs cs ∧ (∀ t ∈ cs, ∃ x, d.get t.a = some x) ∧ cs.length ≤ j)
        h6 ⟨_, [], [], _, _, _, _, _, _, rfl, rfl, b6, .nil, (fun t ht => nomatch ht), Nat.le_refl _⟩ (fun j σ G7 os7 H7 hj s7 h7 ⟨y7, vs, cs, z6, z7, z8, z9, z10, z11, e1, e2, b7, pr, hg, hl⟩ => ?_) (fun σ G7 os7 H7 s7 h7 ⟨y7, vs, cs, z6, z7, z8, z9, z10, z11, e1, e2, b7, pr, hg, hl⟩ => ?_)
      · subst e1 e2
        have rd7 : rep G7 (.ref p) d := Rp.mono s7 (Rp.mono s6 rd)
        walk_at "wx"
        rename_i G8 H8 y8 k8 s8 h8 b8 k80 k81
        have hx : ∃ (jj : Nat) (cc : Nat) (x : Int), k8 = (jj : Int) ∧ ("abc" : Str).cps.toList[jj]? = some cc ∧ d.get ⟨#[cc]⟩ = some x := by
          rcases (by omega : k8 = 0 ∨ k8 = 1 ∨ k8 = 2) with rfl | rfl | rfl
          · exact ⟨0, 97, _, rfl, by decide +kernel, rfl⟩
          · exact ⟨1, 98, _, rfl, by decide +kernel, rfl⟩
          · exact ⟨2, 99, _, rfl, by decide +kernel, rfl⟩
        obtain ⟨jj, cc, x, ek, hc, hx⟩ := hx
        refine go_ixS (by decide +kernel) ek hc ?_
        walk_at "wx"
        rename_i G9 H9 y9 k9 s9 h9 b9 k90 k91
        generalize (min 20 (max 0 (x + k9 - 1)) : Int) = n
        refine go_lstS (by simp) h9 fun pl G10 H10 s10 h10 e10 => ?_
        have b10 := b9.mono s10
        walk_at "wx"
        rename_i G11 H11 y11 k11 s11 h11 b11 k110 k111
        have hs : ∃ sg : Str, atI [V.str ">=", V.str "<"] k11 = some (.str sg) ∧ (sg = ">=" ∨ sg = "<") := by
          rcases (by omega : k11 = 0 ∨ k11 = 1) with rfl | rfl
          · exact ⟨_, rfl, .inl rfl⟩
          · exact ⟨_, rfl, .inr rfl⟩
        obtain ⟨sg, hs1, hs2⟩ := hs
        refine go_ixL h11 (s11 _ _ e10) hs1 ?_
        walk_at "wx"
        refine go_seqU fun U hU => ?_
        have key : U [some (.ref a), some (.ref b), some (.int (0 + i)), some (.ref p), some (.ref c), some (.bl (holdsM cs d)), some (.int (0 + j)), z7, some (.str ⟨#[cc]⟩), some (.int n), some (.str sg), some (.bl (passM sg n x))] H11 := by
          subst hU
          have h11 := h11.swap
          have rd11 : rep G11 (.ref p) d := Rp.mono s11 (Rp.mono s10 (Rp.mono s9 (Rp.mono s8 rd7)))
          have hl' : vs.length ≤ 999 := by
            have : j < 5 := by omega
            rw [pr_len pr]
            omega
          walk_at "wx"
          rename_i pt G12 H12 s12 h12 rt H13 h13
          have pr13 : Paired (rep G12) (vs ++ [.ref pt]) (cs ++ [T3.mk ⟨#[cc]⟩ sg n]) := pr_snoc (paired_mono ((s8.trans (s9.trans (s10.trans s11))).trans s12) pr) rt
          walk_at "ws"
          walk_at "wk"
          rename_i p2 G14 H14 s14 h14 rt2
          refine go_P h14 (.mk rt2 (Rp.mono s14 (Rp.mono s12 rd11)) hx) fun G15 H15 v15 s15 h15 ev => ?_
          subst ev
          have b15 := (((b11.mono s12).mono s14).mono s15)
          have fin : ∀ dv : Bool, dv = holdsM (cs ++ [T3.mk ⟨#[cc]⟩ sg n]) d → Lp G7 (fun j σ G' os' => ∃ (y : HO) (vs : List V) (cs : List Tst) (x6 x7 x8 x9 x10 x11 : Option V), σ = [some (.ref a), some (.ref b), some (.int (0 + i)), some (.ref p), some (.ref c), some (.bl (holdsM cs d)), x6, x7, x8, x9, x10, x11] ∧ os' = (b, y) :: (c, .lst vs) :: os ∧ Bx G' y ∧ Paired (rep G') vs cs ∧ (∀ t ∈ cs, ∃ x, d.get t.a = some x) ∧ cs.length ≤ j) (j + 1)
              [some (.ref a), some (.ref b), some (.int (0 + i)), some (.ref p), some (.ref c), some (.bl dv), some (.int (0 + j)), z7, some (.str ⟨#[cc]⟩), some (.int n), some (.str sg), some (.bl (passM sg n x))] H15 := by
            intro dv e
            subst e
            refine ⟨G15, _, s8.trans (s9.trans (s10.trans (s11.trans (s12.trans (s14.trans s15))))), h15.swap, y11, _, _, _, _, _, _, _, _, rfl, rfl, b15, paired_mono (s14.trans s15) pr13, fun t ht => ?_, ?_⟩
            · rcases List.mem_append.mp ht with m | m
              · exact hg t m
              · rw [List.mem_singleton.mp m]
                exact ⟨x, hx⟩
            · rw [List.length_append, List.length_singleton]
              omega
          have eh : holdsM (cs ++ [T3.mk ⟨#[cc]⟩ sg n]) d = (holdsM cs d && passM sg n x) := by
            unfold holdsM
            rw [List.all_append]
            simp only [List.all_cons, List.all_nil, Bool.and_true]
            rw [hx]
            rfl
          walk_at "wk"
          · exact absurd rfl (by assumption)
          · rename_i e
            exact fin _ (by rw [eh, e, Bool.true_and])
          · rename_i e
            exact fin _ (by rw [eh, e, Bool.false_and])
        have rd11 : rep G11 (.ref p) d := Rp.mono s11 (Rp.mono s10 (Rp.mono s9 (Rp.mono s8 rd7)))
        walk_at "wk"
        · rename_i e
          have e2 : passM sg n x = decide (x < n) := by
            subst e
            rfl
          rw [← e2]
          exact key
        · rename_i e
          have e2 : passM sg n x = decide (n ≤ x) := by
            rw [hs2.resolve_right e]
            rfl
          rw [← e2]
          exact key
      · subst e1 e2
        have rd7 : rep G7 (.ref p) d := Rp.mono s7 (Rp.mono s6 rd)
        have hk : k6.toNat < 5 := by omega
        walk_at "wx"
        obtain ⟨G8, s8, h8, rc⟩ := h7.swap.giveR pr
        refine go_P h8 (R_holds.mk rc (Rp.mono s8 rd7) hg (by omega)) fun G9 H9 v9 s9 h9 ev => ?_
        subst ev
        have b9 := (b7.mono s8).mono s9
        walk_at "wk"
        · exact absurd rfl (by assumption)
        · exact ⟨G9, _, (((s4.trans s6).trans s7).trans s8).trans s9 |> (sa.trans (sb.trans sc)).trans, h9, _, _, _, _, _, _, _, _, _, _, _, rfl, rfl, b9⟩
    · subst e1 e2
      walk_at "wx"
      refine go_lstS (by simp) hh' fun pl G3 H3 s3 h3 e3 => ?_
      walk_at "wx"
      refine go_newS h3 fun pd G4 H4 s4 h4 e4 => ?_
      walk_at "wx"
      refine go_P h4 (R_holds.mk (c := []) (d := ⟨[]⟩) ⟨pl, _, rfl, s4 _ _ e3, .nil⟩ ⟨pd, _, rfl, e4, .nil⟩ (fun t ht => nomatch ht) (by simp)) fun G5 H5 v5 s5 h5 ev => ?_
      subst ev
      walk_at "wx"
      exact q _ _ _ ((sm1.trans sm).trans ((s3.trans s4).trans s5)) h5.drop rfl
end
theorem all_mk {l : PySem.W.OpenLaw} {w : World} {K : PySem.W.Frag} {h : Heap} {mg : Str → Option Value} {fa : Addr} (X : K.In h) (G : h.Ns mainGlobals mg) (hfa : mg "law" = some (.ref fa))
    {f0 : Addr} {od0 an0 : Option Addr} {sl0 : Array (Option Value)} {oc0 kV0 dc0 pm0 cd0 ct0 : Value} {f1 : Addr} {od1 an1 : Option Addr} {sl1 : Array (Option Value)} {oc1 kV1 dc1 pm1 cd1 ct1 : Value} {f2 : Addr} {od2 an2 : Option Addr} {sl2 : Array (Option Value)} {oc2 kV2 dc2 pm2 cd2 ct2 : Value} {f3 : Addr} {od3 an3 : Option Addr} {sl3 : Array (Option Value)} {oc3 kV3 dc3 pm3 cd3 ct3 : Value} {f4 : Addr} {od4 an4 : Option Addr} {sl4 : Array (Option Value)} {oc4 kV4 dc4 pm4 cd4 ct4 : Value} {f5 : Addr} {od5 an5 : Option Addr} {sl5 : Array (Option Value)} {oc5 kV5 dc5 pm5 cd5 ct5 : Value}
    (a0 : PySem.W.nsIn K mainGlobals "passes" = some (some (.ref f0))) (l0 : K.lookup f0 = some ⟨oc0, od0, .func (PySem.W.fnOf "passes" "passes" (defArgs s_passes) (defBody s_passes) (defScope s_passes) .none kV0 dc0 pm0 an0 cd0 ct0), sl0⟩) (c0 : PySem.W.codeIn K cd0 "passes" = true) (k0 : PySem.W.keepIn K (.ref f0) = true)
    (a1 : PySem.W.nsIn K mainGlobals "holds" = some (some (.ref f1))) (l1 : K.lookup f1 = some ⟨oc1, od1, .func (PySem.W.fnOf "holds" "holds" (defArgs s_holds) (defBody s_holds) (defScope s_holds) .none kV1 dc1 pm1 an1 cd1 ct1), sl1⟩) (c1 : PySem.W.codeIn K cd1 "holds" = true) (k1 : PySem.W.keepIn K (.ref f1) = true)
    (a2 : PySem.W.nsIn K mainGlobals "_law_cell" = some (some (.ref f2))) (l2 : K.lookup f2 = some ⟨oc2, od2, .func (PySem.W.fnOf "_law_cell" "_law_cell" (defArgs s_law_cell) (defBody s_law_cell) (defScope s_law_cell) .none kV2 dc2 pm2 an2 cd2 ct2), sl2⟩) (c2 : PySem.W.codeIn K cd2 "_law_cell" = true) (k2 : PySem.W.keepIn K (.ref f2) = true)
    (a3 : PySem.W.nsIn K mainGlobals "_law_digits" = some (some (.ref f3))) (l3 : K.lookup f3 = some ⟨oc3, od3, .func (PySem.W.fnOf "_law_digits" "_law_digits" (defArgs s_law_digits) (defBody s_law_digits) (defScope s_law_digits) .none kV3 dc3 pm3 an3 cd3 ct3), sl3⟩) (c3 : PySem.W.codeIn K cd3 "_law_digits" = true) (k3 : PySem.W.keepIn K (.ref f3) = true)
    (a4 : PySem.W.nsIn K mainGlobals "_law_draw" = some (some (.ref f4))) (l4 : K.lookup f4 = some ⟨oc4, od4, .func (PySem.W.fnOf "_law_draw" "_law_draw" (defArgs s_law_draw) (defBody s_law_draw) (defScope s_law_draw) .none kV4 dc4 pm4 an4 cd4 ct4), sl4⟩) (c4 : PySem.W.codeIn K cd4 "_law_draw" = true) (k4 : PySem.W.keepIn K (.ref f4) = true)
    (a5 : PySem.W.nsIn K mainGlobals "law" = some (some (.ref f5))) (l5 : K.lookup f5 = some ⟨oc5, od5, .func (PySem.W.fnOf "law" "law" (defArgs s_law) (defBody s_law) (defScope s_law) .none kV5 dc5 pm5 an5 cd5 ct5), sl5⟩) (c5 : PySem.W.codeIn K cd5 "law" = true) (k5 : PySem.W.keepIn K (.ref f5) = true)
    (z_all : PySem.W.nsIn K mainGlobals "all" = some none)
    (z_len : PySem.W.nsIn K mainGlobals "len" = some none)
    (z_range : PySem.W.nsIn K mainGlobals "range" = some none)
    (z_int : PySem.W.nsIn K mainGlobals "int" = some none)
    (z_min : PySem.W.nsIn K mainGlobals "min" = some none)
    (z_max : PySem.W.nsIn K mainGlobals "max" = some none)
    (z_isinstance : PySem.W.nsIn K mainGlobals "isinstance" = some none)
    (z_bool : PySem.W.nsIn K mainGlobals "bool" = some none) :
    ∃ fd : FuncData, (∀ (s : Shared) (v : Value), BindsTo s fd ⟨[v], []⟩ [("script", v)]) ∧ ∀ base : Heap, K.In base → base.Ns mainGlobals mg → FnOk l.prog w K mg base CX0 3 fa fd ["script"] (sp_law K) := by
  have e := hfa.symm.trans (PySem.W.mg_of X G a5)
  cases e
  have F0 := fun_mk (st := s_passes) l0 c0 k0
  have D0 : DefAt K mg "passes" s_passes ["test", "counts"] := ⟨_, _, F0, PySem.W.mg_of X G a0, F0.binds fun _ _ _ _ _ _ us hl => match us, hl with | [_, _], _ => rfl⟩
  have F1 := fun_mk (st := s_holds) l1 c1 k1
  have D1 : DefAt K mg "holds" s_holds ["condition", "counts"] := ⟨_, _, F1, PySem.W.mg_of X G a1, F1.binds fun _ _ _ _ _ _ us hl => match us, hl with | [_, _], _ => rfl⟩
  have F2 := fun_mk (st := s_law_cell) l2 c2 k2
  have D2 : DefAt K mg "_law_cell" s_law_cell ["script", "k"] := ⟨_, _, F2, PySem.W.mg_of X G a2, F2.binds fun _ _ _ _ _ _ us hl => match us, hl with | [_, _], _ => rfl⟩
  have F3 := fun_mk (st := s_law_digits) l3 c3 k3
  have D3 : DefAt K mg "_law_digits" s_law_digits ["script", "first", "last"] := ⟨_, _, F3, PySem.W.mg_of X G a3, F3.binds fun _ _ _ _ _ _ us hl => match us, hl with | [_, _, _], _ => rfl⟩
  have F4 := fun_mk (st := s_law_draw) l4 c4 k4
  have D4 : DefAt K mg "_law_draw" s_law_draw ["box", "many"] := ⟨_, _, F4, PySem.W.mg_of X G a4, F4.binds fun _ _ _ _ _ _ us hl => match us, hl with | [_, _], _ => rfl⟩
  have F5 := fun_mk (st := s_law) l5 c5 k5
  have D5 : DefAt K mg "law" s_law ["script"] := ⟨_, _, F5, PySem.W.mg_of X G a5, F5.binds fun _ _ _ _ _ _ us hl => match us, hl with | [_], _ => rfl⟩
  have m_all := PySem.W.mg_none_of X G z_all
  have m_len := PySem.W.mg_none_of X G z_len
  have m_range := PySem.W.mg_none_of X G z_range
  have m_int := PySem.W.mg_none_of X G z_int
  have m_min := PySem.W.mg_none_of X G z_min
  have m_max := PySem.W.mg_none_of X G z_max
  have m_isinstance := PySem.W.mg_none_of X G z_isinstance
  have m_bool := PySem.W.mg_none_of X G z_bool
  refine ⟨PySem.W.fnOf "law" "law" (defArgs s_law) (defBody s_law) (defScope s_law) .none kV5 dc5 pm5 an5 cd5 ct5, fun s v => .of_eq rfl, fun base _ _ => ?_⟩
  have C_passes := ok_passes (P := l.prog) (w := w) (base := base)  D0
  have C_law_cell := ok_law_cell (P := l.prog) (w := w) (base := base) m_len D2
  have C_law_draw := ok_law_draw (P := l.prog) (w := w) (base := base) m_len m_int D4
  have C_holds := ok_holds (P := l.prog) (w := w) (base := base) C_passes m_all D1
  have C_law_digits := ok_law_digits (P := l.prog) (w := w) (base := base) C_law_cell m_range m_int D3
  exact ok_law (P := l.prog) (w := w) (base := base) C_law_digits C_holds C_law_draw C_passes m_range m_min m_max m_isinstance m_bool F5
end K00
open PySem PySem.W PyProof.Rows
set_option maxRecDepth 100000 in
set_option maxHeartbeats 0 in
theorem PySem.Challenge.cw_movedyears_k00_conditions_holds : PySem.Challenge.rw_movedyears_k00_conditions.Holds := by
  w_on; o_law; k_head; (case hw => w_witness2)
  k_fill
  refine L2.walk_of (l := PySem.Challenge.rw_movedyears_k00_conditions) (n := 63) (k := 3) (x := "script") (CX := fun _ => L2.CX0) (sp := fun w => K00.sp_law _) rfl (by decide) rfl ⟨rfl, by decide, by decide⟩ (fun w h Y => PySem.W.kIn_of Y) ?F (fun w H a ns hl _ hS => ⟨H, [], _, Dl.HH.init H, .mk hS hl, fun _ _ _ _ _ e => e⟩) (fun _ _ _ _ _ h => h)
  case F =>
    intro w mg fa h KX G hmg
    refine' K00.all_mk KX G hmg ?a0 ?l0 ?c0 ?k0 ?a1 ?l1 ?c1 ?k1 ?a2 ?l2 ?c2 ?k2 ?a3 ?l3 ?c3 ?k3 ?a4 ?l4 ?c4 ?k4 ?a5 ?l5 ?c5 ?k5 ?z_all ?z_len ?z_range ?z_int ?z_min ?z_max ?z_isinstance ?z_bool
    (case a0 => k_is)
    (case l0 => k_is)
    (case c0 => k_is)
    (case k0 => k_is)
    (case a1 => k_is)
    (case l1 => k_is)
    (case c1 => k_is)
    (case k1 => k_is)
    (case a2 => k_is)
    (case l2 => k_is)
    (case c2 => k_is)
    (case k2 => k_is)
    (case a3 => k_is)
    (case l3 => k_is)
    (case c3 => k_is)
    (case k3 => k_is)
    (case a4 => k_is)
    (case l4 => k_is)
    (case c4 => k_is)
    (case k4 => k_is)
    (case a5 => k_is)
    (case l5 => k_is)
    (case c5 => k_is)
    (case k5 => k_is)
    (case z_all => k_is)
    (case z_len => k_is)
    (case z_range => k_is)
    (case z_int => k_is)
    (case z_min => k_is)
    (case z_max => k_is)
    (case z_isinstance => k_is)
    (case z_bool => k_is)
