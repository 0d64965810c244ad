import PyProof.Rows.All
import Wide.All
import OpenK.AllK
import Wide.FinOn
import HandS.ForMost
import HandS.IsInst
import HandS.Style
import HandS.DictComp
import HandS.SetKeys
import HandS.Exc
import HandS.More
import PyProof.ReprRoads
import HandS.NoneIn
import HandS.Zip
import HandS.Gcd
import HandS.Deep
import HandS.TupLe
import HandS.Iter
import HandS.Flow
import KE.SortCalls
import KE.KDictPairs
import KE.KDictDisplayH
import KE.KDictZip
import HandS.ExcValue
import KE.DataMinMax
import KE.KExcSuper
import HandS.ExcInit
import HandS.FStr
import HandS.ExcOwn
import HandS.WordsExc
import HandS.TryOnly
import HandS.ExcField
import KE.KExcIs
import HandS.ExcIs
import PyProof.MinMaxWalk
import HandS.Sort
import PyProof.Rows.CallKwBuiltin
import HandS.Text
import HandS.SortKw
import HandS.Star
import HandS.Zip0
import KE.KEqNest
import PyProof.NeKinds
import PyProof.ReprLen
import PyProof.FitsInt
import HandS.Defaults
import PySem.Challenge.RW_movedyears_k06_runs_are_sums
set_option Elab.async false
set_option linter.all false
set_option maxRecDepth 100000
namespace Dl
open PySem PySem.Spec PyProof.Rows L2

/-! ### a heap in two parts: G, what never changes again and only grows; os, what is owned and may be written -/
abbrev Ow := List (Addr × HO)
def isDk : HO → Bool
  | .dK _ => true
  | .dT _ => true
  | _ => false
def isFr : HO → Bool
  | .frz _ _ => true
  | _ => false
theorem fr_dk {o : HO} (h : isDk o = true) : isFr o = false := by
  cases o <;> first | rfl | cases h
def isTp : HO → Bool
  | .tup _ => true
  | _ => false
structure HH (G : Hp) (os : Ow) (H : Hp) : Prop where
  sub : ∀ a o, G a = some o → H a = some o ∨ (isDk o = true ∧ ∃ ob, H a = some (.frz ob o))
  own : ∀ p ∈ os, H p.1 = some p.2 ∧ (G p.1 = none ∨ ∃ ob u, p.2 = .frz ob u ∧ G p.1 = some u ∧ isDk u = true)
  nd : (os.map (·.1)).Nodup
  nt : ∀ p ∈ os, isTp p.2 = false
section
variable {G G' G1 G2 H H' : Hp} {os os' : Ow} {p a : Addr} {o o' : HO}
theorem same_upd (h : H p = none) : Same H (upd H p o) := fun b x e => by
  rw [upd_ne (ne_of_none e h)]
  exact e
theorem HH.init (H : Hp) : HH H [] H := ⟨fun _ _ h => .inl h, fun _ h => (nomatch h), List.nodup_nil, fun _ h => (nomatch h)⟩
theorem HH.free (h : HH G os H) (n : H p = none) : G p = none := by
  cases q : G p with
  | none => rfl
  | some o =>
    rcases h.sub p o q with e | ⟨_, _, e⟩
    · rw [n] at e; cases e
    · rw [n] at e; cases e
theorem HH.alloc (h : HH G os H) (n : H p = none) : HH (upd G p o) os (upd H p o) := by
  refine ⟨fun a x e => ?_, fun q hq => ?_, h.nd, h.nt⟩
  · by_cases ha : a = p
    · subst ha
      rw [upd_same] at e ⊢
      exact .inl e
    · rw [upd_ne ha] at e ⊢
      exact h.sub a x e
  · obtain ⟨e1, e2⟩ := h.own q hq
    have ne : q.1 ≠ p := ne_of_none e1 n
    rw [upd_ne ne, upd_ne ne]
    exact ⟨e1, e2⟩
theorem HH.sameG (h : HH G os H) (n : H p = none) : Same G (upd G p o) := same_upd (h.free n)
theorem HH.push (h : HH G os H) (n : H p = none) (nt : isTp o = false := by rfl) : HH G ((p, o) :: os) (upd H p o) := by
  refine ⟨fun a x e => ?_, fun q hq => ?_, ?_, fun q hq => by rcases List.mem_cons.mp hq with rfl | hq; exact nt; exact h.nt q hq⟩
  · have ne : a ≠ p := ne_of_none e (h.free n)
    rw [upd_ne ne]
    exact h.sub a x e
  · rcases List.mem_cons.mp hq with rfl | hq
    · exact ⟨upd_same, .inl (h.free n)⟩
    · obtain ⟨e1, e2⟩ := h.own q hq
      rw [upd_ne (ne_of_none e1 n)]
      exact ⟨e1, e2⟩
  · show (p :: os.map (·.1)).Nodup
    refine List.nodup_cons.mpr ⟨fun m => ?_, h.nd⟩
    obtain ⟨q, hq, e⟩ := List.mem_map.mp m
    have e1 := (h.own q hq).1
    rw [e, n] at e1
    cases e1
theorem HH.get (h : HH G ((p, o) :: os) H) : H p = some o := (h.own (p, o) (List.mem_cons_self ..)).1
theorem HH.gnone (h : HH G ((p, o) :: os) H) (nf : isDk o = true ∨ ∀ ob u, o ≠ .frz ob u) : G p = none := by
  rcases (h.own (p, o) (List.mem_cons_self ..)).2 with e | ⟨ob, u, e, _⟩
  · exact e
  · rcases nf with k | k
    · have e : o = .frz ob u := e
      rw [e] at k
      cases k
    · exact absurd e (k ob u)
theorem HH.put (h : HH G ((p, o) :: os) H) (nf : isDk o = true ∨ ∀ ob u, o ≠ .frz ob u) (nt : isTp o' = false := by rfl) : HH G ((p, o') :: os) (upd H p o') := by
  have gn := h.gnone nf
  have nd := h.nd
  have nd1 : (p :: os.map (·.1)).Nodup := nd
  have np := (List.nodup_cons.mp nd1).1
  refine ⟨fun a x e => ?_, fun q hq => ?_, nd, fun q hq => by rcases List.mem_cons.mp hq with rfl | hq; exact nt; exact h.nt q (List.mem_cons_of_mem _ hq)⟩
  · rw [upd_ne (ne_of_none e gn)]
    exact h.sub a x e
  · rcases List.mem_cons.mp hq with rfl | hq
    · exact ⟨upd_same, .inl gn⟩
    · obtain ⟨e1, e2⟩ := h.own q (List.mem_cons_of_mem _ hq)
      have ne : q.1 ≠ p := fun e => np (e ▸ List.mem_map.mpr ⟨q, hq, rfl⟩)
      rw [upd_ne ne]
      exact ⟨e1, e2⟩
/-- an owned thing is given over to what never changes -/
theorem HH.give (h : HH G ((p, o) :: os) H) (nf : isDk o = true ∨ ∀ ob u, o ≠ .frz ob u) : HH (upd G p o) os H := by
  have gn := h.gnone nf
  have nd1 : (p :: os.map (·.1)).Nodup := h.nd
  have np := (List.nodup_cons.mp nd1).1
  refine ⟨fun a x e => ?_, fun q hq => ?_, (List.nodup_cons.mp nd1).2, fun q hq => h.nt q (List.mem_cons_of_mem _ hq)⟩
  · by_cases ha : a = p
    · subst ha
      rw [upd_same] at e
      cases e
      exact .inl h.get
    · rw [upd_ne ha] at e
      exact h.sub a x e
  · obtain ⟨e1, e2⟩ := h.own q (List.mem_cons_of_mem _ hq)
    have ne : q.1 ≠ p := fun e => np (e ▸ List.mem_map.mpr ⟨q, hq, rfl⟩)
    rw [upd_ne ne]
    exact ⟨e1, e2⟩
theorem HH.drop (h : HH G ((p, o) :: os) H) : HH G os H :=
  ⟨h.sub, fun q hq => h.own q (List.mem_cons_of_mem _ hq), (List.nodup_cons.mp (show (p :: os.map (·.1)).Nodup from h.nd)).2, fun q hq => h.nt q (List.mem_cons_of_mem _ hq)⟩
theorem HH.perm (h : HH G os H) (pm : os.Perm os') : HH G os' H :=
  ⟨h.sub, fun q hq => h.own q (pm.mem_iff.mpr hq), (pm.map (·.1)).nodup_iff.mp h.nd, fun q hq => h.nt q (pm.mem_iff.mpr hq)⟩
theorem HH.lst {xs : List V} (h : HH G os H) (e : G a = some (.lst xs)) : H a = some (.lst xs) := by
  rcases h.sub a _ e with q | ⟨k, _⟩
  · exact q
  · cases k
theorem HH.tup {xs : List V} (h : HH G os H) (e : G a = some (.tup xs)) : H a = some (.tup xs) := by
  rcases h.sub a _ e with q | ⟨k, _⟩
  · exact q
  · cases k
theorem HH.ins {C dx : Addr} {fs : List (Str × V)} (h : HH G os H) (e : G a = some (.ins C dx fs)) : H a = some (.ins C dx fs) := by
  rcases h.sub a _ e with q | ⟨k, _⟩
  · exact q
  · cases k
theorem HH.rd (h : HH G os H) (e : G a = some o) : Rd H a o := by
  rcases h.sub a _ e with q | ⟨k, ob, q⟩
  · exact .inl q
  · exact .inr ⟨ob, q⟩
/-- what is written in SqL stays to be read -/
theorem HH.sq {K : PySem.W.Frag} {xs : List V} (h : HH G os H) (e : SqL K G a xs) : SqL K H a xs := by
  rcases e with (e | ⟨ob, e⟩) | e
  · exact .inl (.inl (h.lst e))
  · rcases h.sub a _ e with q | ⟨k, _⟩
    · exact .inl (.inr ⟨ob, q⟩)
    · cases k
  · exact .inr e
end

/-! ### values as data -/
class Rp (α : Type) where
  rep : Hp → V → α → Prop
  mono : ∀ {G G' : Hp} {v : V} {x : α}, Same G G' → rep G v x → rep G' v x
abbrev rep {α : Type} [Rp α] (G : Hp) (v : V) (x : α) : Prop := Rp.rep G v x
end Dl

set_option Elab.async false
set_option linter.all false
set_option maxRecDepth 100000
namespace Dl
open PySem PySem.Spec PyProof.Rows L2
/-! ### kinds of data -/
instance : Rp Int := ⟨fun _ v i => v = .int i, fun _ h => h⟩
instance : Rp Bool := ⟨fun _ v i => v = .bl i, fun _ h => h⟩
instance : Rp Str := ⟨fun _ v i => v = .str i, fun _ h => h⟩
instance : Rp Unit := ⟨fun _ v _ => v = .non, fun _ h => h⟩
theorem paired_mono {α : Type} [Rp α] {G G' : Hp} (s : Same G G') : ∀ {vs : List V} {xs : List α}, Paired (rep G) vs xs → Paired (rep G') vs xs
  | _, _, .nil => .nil
  | _, _, .cons r t => .cons (Rp.mono s r) (paired_mono s t)
instance {α : Type} [Rp α] : Rp (List α) := ⟨fun G v xs => ∃ a vs, v = .ref a ∧ G a = some (.lst vs) ∧ Paired (rep G) vs xs, fun s ⟨a, vs, e, h, r⟩ => ⟨a, vs, e, s _ _ h, paired_mono s r⟩⟩
instance {α β : Type} [Rp α] [Rp β] : Rp (α × β) := ⟨fun G v x => ∃ a v1 v2, v = .ref a ∧ G a = some (.tup [v1, v2]) ∧ rep G v1 x.1 ∧ rep G v2 x.2, fun s ⟨a, v1, v2, e, h, r1, r2⟩ => ⟨a, v1, v2, e, s _ _ h, Rp.mono s r1, Rp.mono s r2⟩⟩
structure T3 (α β γ : Type) where
  a : α
  b : β
  c : γ
  deriving DecidableEq
instance {α β γ : Type} [Rp α] [Rp β] [Rp γ] : Rp (T3 α β γ) := ⟨fun G v x => ∃ a v1 v2 v3, v = .ref a ∧ G a = some (.tup [v1, v2, v3]) ∧ rep G v1 x.a ∧ rep G v2 x.b ∧ rep G v3 x.c,
  fun s ⟨a, v1, v2, v3, e, h, r1, r2, r3⟩ => ⟨a, v1, v2, v3, e, s _ _ h, Rp.mono s r1, Rp.mono s r2, Rp.mono s r3⟩⟩
/-- a dict with texts as keys -/
structure DS (α : Type) where
  kvs : List (Str × α)
  deriving DecidableEq
def KsR {α : Type} [Rp α] (G : Hp) (p : Key × V) (q : Str × α) : Prop := p.1 = Sum.inr q.1 ∧ rep G p.2 q.2
theorem ks_mono {α : Type} [Rp α] {G G' : Hp} (s : Same G G') : ∀ {vs : List (Key × V)} {xs : List (Str × α)}, Paired (KsR G) vs xs → Paired (KsR G') vs xs
  | _, _, .nil => .nil
  | _, _, .cons r t => .cons ⟨r.1, Rp.mono s r.2⟩ (ks_mono s t)
instance {α : Type} [Rp α] : Rp (DS α) := ⟨fun G v x => ∃ a vs, v = .ref a ∧ G a = some (.dK vs) ∧ Paired (KsR G) vs x.kvs, fun s ⟨a, vs, e, h, r⟩ => ⟨a, vs, e, s _ _ h, ks_mono s r⟩⟩
def DS.get {α : Type} (d : DS α) (c : Str) : Option α := (d.kvs.find? fun p => decide (p.1 = c)).map (·.2)
/-! ### lists that stand side by side -/
theorem pr_len {α β : Type} {F : α → β → Prop} {l : List α} {m : List β} (r : Paired F l m) : l.length = m.length := Paired.length r
theorem pr_get {α β : Type} {F : α → β → Prop} : ∀ {l : List α} {m : List β} {i : Nat} {x : α}, Paired F l m → l[i]? = some x → ∃ y, m[i]? = some y ∧ F x y
  | _, _, _, _, .nil, e => by simp at e
  | _, _, 0, _, .cons r _, e => by simp at e; subst e; exact ⟨_, rfl, r⟩
  | _, _, i + 1, x, .cons _ t, e => by
    obtain ⟨u, h1, h2⟩ := pr_get (i := i) (x := x) t (by simpa using e)
    exact ⟨u, by simpa using h1, h2⟩
theorem pr_get2 {α β : Type} {F : α → β → Prop} : ∀ {l : List α} {m : List β} {i : Nat} {y : β}, Paired F l m → m[i]? = some y → ∃ x, l[i]? = some x ∧ F x y
  | _, _, _, _, .nil, e => by simp at e
  | _, _, 0, _, .cons r _, e => by simp at e; subst e; exact ⟨_, rfl, r⟩
  | _, _, i + 1, x, .cons _ t, e => by
    obtain ⟨u, h1, h2⟩ := pr_get2 (i := i) (y := x) t (by simpa using e)
    exact ⟨u, by simpa using h1, h2⟩
theorem pr_app {α β : Type} {F : α → β → Prop} : ∀ {l l2 : List α} {m m2 : List β}, Paired F l m → Paired F l2 m2 → Paired F (l ++ l2) (m ++ m2)
  | _, _, _, _, .nil, s => s
  | _, _, _, _, .cons r t, s => .cons r (pr_app t s)
theorem pr_snoc {α β : Type} {F : α → β → Prop} {l : List α} {m : List β} {x : α} {y : β} (r : Paired F l m) (h : F x y) : Paired F (l ++ [x]) (m ++ [y]) := pr_app r (.cons h .nil)
/-! ### promises -/
/-- a def that writes to nothing that was there: from the arguments (R) what it hands back (post) -/
def spP (R : Hp → List V → (Hp → V → Prop) → Prop) : Sp := fun vs H Q _ => ∃ G os post, HH G os H ∧ R G vs post ∧ ∀ G' H' v, Same G G' → HH G' os H' → post G' v → Q v H'
/-- a def that writes to what it owns -/
def spG (R : Hp → Ow → List V → (Hp → Ow → V → Prop) → Prop) : Sp := fun vs H Q _ => ∃ G ow fr post, HH G (ow ++ fr) H ∧ R G ow vs post ∧ ∀ G' H' ow' v, Same G G' → HH G' (ow' ++ fr) H' → post G' ow' v → Q v H'
/-! ### a def as its callers see it -/
structure DefAt (K : PySem.W.Frag) (mg : Str → Option Value) (x : Str) (st : Stmt) (ps : List Str) : Prop where
  ex : ∃ f fd, Fun K x x st f fd ∧ mg x = some (.ref f) ∧ Binds K fd ps []
structure Cal (P : Program) (w : World) (K : PySem.W.Frag) (mg : Str → Option Value) (base : Heap) (CX : CXT) (k : Nat) (x : Str) (ps : List Str) (sp : Sp) : Prop where
  ex : ∃ f fd, FnOk P w K mg base CX k f fd ps sp ∧ mg x = some (.ref f) ∧ PySem.W.keepIn K (.ref f) = true ∧ Binds K fd ps []
section
variable {P : Program} {w : World} {K : PySem.W.Frag} {mg : Str → Option Value} {base : Heap}
theorem DefAt.ok {x : Str} {st : Stmt} {N ps : List Str} {k : Nat} {sp : Sp} (D : DefAt K mg x st ps) (S : FnScope N ps (defScope st)) (len : ∀ vs H Q E, sp vs H Q E → vs.length = ps.length)
    (hbody : ∀ (X : Cx) (s : Shared) (H : Hp) (f : Addr) (A : Around) (outer : List Env) (cdv : Value) (vs : List V) (Q : VK) (E : XK), X = (cxOf CX0 P w K mg base N x (defScope st) f cdv A outer s H E).nox →
      Room k (A.deeper (envOfC x (defScope st) s.heap.objs.size f cdv)) → sp vs H Q E →
      ∃ t, PSs (cxOf CX0 P w K mg base N x (defScope st) f cdv A outer s H E).nox (defBody st) t ∧ t { nx := fun _ H' => Q .non H', rt := Q } (start N vs) H) : Cal P w K mg base CX0 (k + 1) x ps sp := by
  obtain ⟨f, fd, F, g, b⟩ := D.ex
  exact ⟨f, fd, F.ok S len fun cdv A outer s H vs Q E hr h => hbody _ s H f A outer cdv vs Q E rfl hr h, g, F.kp, b⟩
variable {X : Cx} {CX : CXT} {k : Nat} {ps : List Str} {sp : Sp} {E : XK} {x : Str} {p pos : Pos} {e : Expr} {es : List Expr} {t : TA}
end
end Dl

set_option Elab.async false
set_option linter.all false
set_option maxRecDepth 100000
namespace Dl
open PySem PySem.Spec PyProof.Rows L2
theorem bt_len : bootBuiltins "len" = some (.builtin "len") := by decide +kernel
theorem bt_min : bootBuiltins "min" = some (.builtin "min") := by decide +kernel
theorem bt_all : bootBuiltins "all" = some (.builtin "all") := by decide +kernel
theorem bt_sum : bootBuiltins "sum" = some (.builtin "sum") := by decide +kernel
theorem bt_isinstance : bootBuiltins "isinstance" = some (.builtin "isinstance") := by decide +kernel
theorem bt_int : bootBuiltins "int" = some (.type "int") := by decide +kernel
theorem bt_list : bootBuiltins "list" = some (.type "list") := by decide +kernel
theorem bt_tuple : bootBuiltins "tuple" = some (.type "tuple") := by decide +kernel
theorem bt_dict : bootBuiltins "dict" = some (.type "dict") := by decide +kernel

/-! ### the steps of a reading -/
section
variable {σ : L2.St} {H G : Hp} {os : Ow} {Q : VK} {D : Ends} {K : PySem.W.Frag}
def DG (H : Hp) (x y : V) (Q : VK) : Prop := ∃ a v, x = .ref a ∧ DGet H a y (some v) ∧ Q v H
def DI (H : Hp) (x y : V) (Q : VK) : Prop := ∃ a o, x = .ref a ∧ DGet H a y o ∧ Q (.bl o.isSome) H
def DN (H : Hp) (x y : V) (Q : VK) : Prop := ∃ a o, x = .ref a ∧ DGet H a y o ∧ Q (.bl (!o.isSome)) H
def DP (H : Hp) (x y v : V) (R : Hp → Prop) : Prop := ∃ a H', x = .ref a ∧ DPut H a y v H' ∧ R H'
def TU (xs : List V) (H : Hp) (Q : VK) : Prop := xs.length ≤ sizeLine ∧ ∀ p, H p = none → Q (.ref p) (upd H p (.tup xs))
def LS (xs : List V) (H : Hp) (Q : VK) : Prop := xs.length ≤ sizeLine ∧ ∀ p, H p = none → Q (.ref p) (upd H p (.lst xs))
def NW (o : HO) (H : Hp) (Q : VK) : Prop := ∀ p, H p = none → Q (.ref p) (upd H p o)
def FO (J : It) (g : TG) (tb : TS) (D : Ends) (σ : L2.St) (H : Hp) : Prop := ∃ W : Nat → Nat → L2.St → Hp → Prop, (∃ m, W 0 m σ H) ∧ ∀ i m σ H, W i m σ H →
    (J.stop i H ∧ D.nx σ H) ∨ (J.go i H ∧ ∃ N : L2.St → Hp → Prop, (∀ σ' H', N σ' H' → ∃ m', m' < m ∧ W (i + 1) m' σ' H') ∧ ∀ x H', J.yld i H x H' → g x σ H' fun σ2 H2 => tb { D with nx := N, ct := N, bk := D.nx } σ2 H2)
theorem go_seq {t u : TS} (h : t { D with nx := u D } σ H) : tSeq t u D σ H := h
theorem go_next (h : D.nx σ H) : tNext D σ H := h
theorem go_asg {te : TE} {g : TG} (h : te σ H fun x H1 => g x σ H1 D.nx) : tAsg te g D σ H := h
theorem go_gname {i : Nat} {v : V} {R : L2.St → Hp → Prop} (h : R (σ.set i (some v)) H) : gName i v σ H R := h
theorem go_gnil {R : L2.St → Hp → Prop} (h : R σ H) : gNil [] σ H R := ⟨rfl, h⟩
theorem go_gcons {t : TG} {u : TGs} {v : V} {r : List V} {R : L2.St → Hp → Prop} (h : t v σ H fun σ' H' => u r σ' H' R) : gCons t u (v :: r) σ H R := ⟨v, r, rfl, h⟩
theorem go_ret {te : TE} (h : te σ H D.rt) : tRet te D σ H := h
theorem go_drop {te : TE} (h : te σ H fun _ H1 => D.nx σ H1) : tDrop te D σ H := h
theorem go_ifs {c : TT} {t u : TS} (h : c σ H fun b H1 => if b = true then t D σ H1 else u D σ H1) : tIfS c t u D σ H := h
theorem go_op {r : R2} {ta tb : TE} (h : ta σ H fun x H1 => tb σ H1 fun y H2 => r x y H2 Q) : tOp r ta tb σ H Q := h
theorem go_un {r : V → Hp → VK → Prop} {ta : TE} (h : ta σ H fun x H1 => r x H1 Q) : tUn r ta σ H Q := h
theorem go_tb {t : TE} {R : Bool → Hp → Prop} (h : t σ H fun x H' => ∃ k, x = .bl k ∧ R k H') : tB t σ H R := h
theorem go_rI0 {g : Int → Int → V} {i j : Int} (h : Q (g i j) H) : rI0 g (.int i) (.int j) H Q := ⟨i, j, rfl, rfl, h⟩
theorem go_rI {C : Int → Int → Prop} {g : Int → Int → V} {i j : Int} (c : C i j) (h : Q (g i j) H) : rI C g (.int i) (.int j) H Q := ⟨i, j, rfl, rfl, c, h⟩
theorem go_rU {g : Int → V} {i : Int} (h : Q (g i) H) : rU g (.int i) H Q := ⟨i, rfl, h⟩
theorem go_and {t u : TT} {R : Bool → Hp → Prop} (h : t σ H fun c H1 => if c = true then u σ H1 R else R false H1) : tAnd t u σ H R := h
theorem go_or {t u : TT} {R : Bool → Hp → Prop} (h : t σ H fun c H1 => if c = true then R true H1 else u σ H1 R) : tOr t u σ H R := h
theorem go_cons {ta : TE} {tr : TA} {R : List V → Hp → Prop} (h : ta σ H fun x H1 => tr σ H1 fun xs H2 => R (x :: xs) H2) : tCons ta tr σ H R := h
theorem go_nil {R : List V → Hp → Prop} (h : R [] H) : tNil σ H R := h
theorem go_call {sp : Sp} {E : XK} {t : TA} (h : t σ H fun vs H1 => sp vs H1 Q E) : tCall sp [] E t σ H Q := by
  unfold tCall
  simp only [List.append_nil]
  exact h
theorem go_tcb {r : List V → Hp → VK → Prop} {t : TA} (h : t σ H fun vs H1 => r vs H1 Q) : tCB r t σ H Q := h
theorem go_tbm {T : String} {r : V → List V → Hp → VK → Prop} {to : TE} {t : TA} (h : to σ H fun x H1 => tyV K T x H1 ∧ t σ H1 fun xs H2 => r x xs H2 Q) : tBM K T r to t σ H Q := h
theorem go_ttup {t : TA} (h : t σ H fun xs H1 => TU xs H1 Q) : tTup t σ H Q := h
theorem go_tlst {t : TA} (h : t σ H fun xs H1 => LS xs H1 Q) : tLst t σ H Q := h
theorem go_dget {td ty : TE} (h : td σ H fun x H1 => ty σ H1 fun y H2 => DG H2 x y Q) : tDGet td ty σ H Q := h
theorem go_din {td ty : TE} (h : ty σ H fun y H1 => td σ H1 fun x H2 => DI H2 x y Q) : tDIn ty td σ H Q := h
theorem go_dnotin {td ty : TE} (h : ty σ H fun y H1 => td σ H1 fun x H2 => DN H2 x y Q) : tDNotIn ty td σ H Q := h
theorem go_dput {td ty tv : TE} (h : tv σ H fun v H1 => td σ H1 fun x H2 => ty σ H2 fun y H3 => DP H3 x y v fun H4 => D.nx σ H4) : sDPut td ty tv D σ H := h
theorem go_gsub {to ti : TE} {t : TSet} {v : V} {R : L2.St → Hp → Prop} (h : to σ H fun o H1 => ti σ H1 fun i H2 => t o i v H2 fun H3 => R σ H3) : gSub to ti t v σ H R := h
theorem go_for {wi : TI} {g : TG} {tb : TS} (h : wi σ H fun J H1 => FO J g tb D σ H1) : tFor wi g tb D σ H := h
theorem go_ilist {tl : TE} {R : It → Hp → Prop} (h : tl σ H fun x H1 => ∃ a, x = .ref a ∧ (∃ xs, SqL K H1 a xs) ∧ R (Itl K a) H1) : iList K tl σ H R := h
theorem go_iteT {A B : Prop} (h : A) : if true = true then A else B := h
/-! reading what stands in the heap -/
/-! new things -/
/-! loops -/
/-- what holds ahead of each turn, said of what never changes and of what is owned -/
def Lp (G : Hp) (I : Nat → L2.St → Hp → Ow → Prop) (i : Nat) : L2.St → Hp → Prop := fun σ H => ∃ G' os', Same G G' ∧ HH G' os' H ∧ I i σ G' os'
end
end Dl
namespace Dl
open PySem PySem.Spec PyProof.Rows L2
end Dl

set_option Elab.async false
set_option linter.all false
set_option maxRecDepth 100000
namespace Dl
open PySem PySem.Spec PyProof.Rows L2
section
variable {σ : L2.St} {H G : Hp} {os : Ow} {Q : VK} {D : Ends} {K : PySem.W.Frag}
/-! ### comprehensions over data -/
def LO (J : It) (g : TG) (tt : TT) (te : TE) (vs : List Nat) (σ : L2.St) (H1 : Hp) (Q : VK) : Prop := ∀ D, H1 D = none → ∃ W : Nat → Nat → Hp → Prop, (∃ m, W 0 m (upd H1 D (.lst []))) ∧ ∀ i m H, W i m H →
  (J.stop i H ∧ Q (.ref D) H) ∨ (J.go i H ∧ ∃ Nx : Hp → Prop, (∀ H', Nx H' → ∃ m', m' < m ∧ W (i + 1) m' H') ∧ ∀ x H', J.yld i H x H' → g x (wipe σ vs) H' fun σ2 H2 => wipe σ2 vs = wipe σ vs ∧ tt σ2 H2 fun b H3 =>
    if b = true then te σ2 H3 fun y H4 => ∃ acc, H4 D = some (.lst acc) ∧ acc.length < sizeLine ∧ Nx (upd H4 D (.lst (acc ++ [y]))) else Nx H3)
theorem go_lc {wi : TI} {g : TG} {tt : TT} {te : TE} {vs : List Nat} (h : wi σ H fun J H1 => LO J g tt te vs σ H1 Q) : tLc wi g tt te vs σ H Q := h
theorem go_yes {R : Bool → Hp → Prop} (h : R true H) : tYes σ H R := h
def LcN {β : Type} [Rp β] (G : Hp) (A : Addr) (os : Ow) (ys : List β) (H : Hp) : Prop := ∃ G' vs, Same G G' ∧ HH G' ((A, .lst vs) :: os) H ∧ Paired (rep G') vs ys
def LcE {β : Type} [Rp β] (G : Hp) (A : Addr) (os : Ow) (ys : List β) (w : V) (H : Hp) : Prop := ∃ acc, H A = some (.lst acc) ∧ acc.length < sizeLine ∧ LcN G A os ys (upd H A (.lst (acc ++ [w])))
end
end Dl
namespace Dl
open PySem PySem.Spec PyProof.Rows L2
theorem small15k {n : Nat} (h : n ≤ 15000) : n < sizeLine := Nat.lt_of_le_of_lt h (by decide)
end Dl

set_option Elab.async false
set_option linter.all false
set_option maxRecDepth 100000
namespace Dl
open PySem PySem.Spec PyProof.Rows L2
section
variable {X : Cx} {σ : L2.St} {H G : Hp} {os : Ow} {Q : VK} {D : Ends} {K : PySem.W.Frag}
/-! ### built-ins, by names -/
def rLen (K : PySem.W.Frag) : List V → Hp → VK → Prop := fun xs H Q => ∃ p ys, xs = [.ref p] ∧ (SqL K H p ys ∨ SqT K H p ys) ∧ Q (.int ys.length) H
theorem cl_len : CallR X (.builtin "len") (rLen X.K) := call_len_seq
def rLenS : List V → Hp → VK → Prop := fun xs H Q => ∃ z, xs = [.str z] ∧ z.length ≤ sizeLine ∧ Q (.int z.length) H
def rLenD : List V → Hp → VK → Prop := fun xs H Q => ∃ a kvs, xs = [V.ref a] ∧ H a = some (.dK kvs) ∧ Q (.int kvs.length) H
def rMin2 : List V → Hp → VK → Prop := fun xs H Q => ∃ i j, xs = [.int i, .int j] ∧ Q (.int (min i j)) H
def rMax2 : List V → Hp → VK → Prop := fun xs H Q => ∃ i j, xs = [.int i, .int j] ∧ Q (.int (max i j)) H
theorem CallR.imp {f : Value} {r r' : List V → Hp → VK → Prop} (h : CallR X f r) (i : ∀ xs H Q, r' xs H Q → r xs H Q) : CallR X f r' := fun pins s σ H xs us Q I rr hq => h pins s σ H xs us Q I rr (i _ _ _ hq)
theorem cl_min2 (hc : X.calm = true) : CallR X (.builtin "min") rMin2 := CallR.imp (call_min2 hc) fun xs H Q ⟨i, j, e, q⟩ => ⟨i, j, e, by
  have : (if j < i then j else i) = min i j := by omega
  rw [this]; exact q⟩
def rInt1 : List V → Hp → VK → Prop := fun xs H Q => ∃ i, xs = [.int i] ∧ Q (.int i) H
theorem cl_int : CallR X (.type "int") rInt1 := CallR.imp call_int1 fun _ _ _ h => .inl h
def rIntB : List V → Hp → VK → Prop := fun xs H Q => ∃ k, xs = [.bl k] ∧ Q (.int (if k then 1 else 0)) H
theorem cl_intB : CallR X (.type "int") rIntB := CallR.imp call_int1 fun _ _ _ h => .inr h
def rStrI : List V → Hp → VK → Prop := fun xs H Q => ∃ i : Int, xs = [.int i] ∧ i.natAbs.log2 < 1920 ∧ Q (.str (toString i)) H
def rAbs : List V → Hp → VK → Prop := fun xs H Q => ∃ i, xs = [.int i] ∧ Q (.int (if i < 0 then -i else i)) H
def rListOf (K : PySem.W.Frag) : List V → Hp → VK → Prop := fun xs H Q => ∃ p ys, xs = [.ref p] ∧ (SqL K H p ys ∨ SqT K H p ys) ∧ NW (.lst ys) H Q
theorem cl_list : CallR X (.type "list") (rListOf X.K) := call_list_of
theorem go_len {p : Addr} {ys : List V} (s : SqL K H p ys) (h : Q (.int ys.length) H) : rLen K [.ref p] H Q := ⟨p, ys, rfl, .inl s, h⟩
theorem go_min2 {i j : Int} (h : Q (.int (min i j)) H) : rMin2 [.int i, .int j] H Q := ⟨i, j, rfl, h⟩
theorem go_int1 {i : Int} (h : Q (.int i) H) : rInt1 [.int i] H Q := ⟨i, rfl, h⟩
theorem go_intB {k : Bool} (h : Q (.int (if k then 1 else 0)) H) : rIntB [.bl k] H Q := ⟨k, rfl, h⟩
/-! ### the box of draws: its list of numbers, and how many are drawn -/
def Bx (G : Hp) (y : HO) : Prop := ∃ (dg : V) (ns : List Int) (at_ : Int), y = .lst [dg, .int at_] ∧ rep G dg ns ∧ 0 ≤ at_
theorem Bx.mono {G G' : Hp} {y : HO} (s : Same G G') (h : Bx G y) : Bx G' y := by
  obtain ⟨dg, ns, a, e, r, n⟩ := h
  exact ⟨dg, ns, a, e, Rp.mono s r, n⟩
inductive R_draw : Hp → Ow → List V → (Hp → Ow → V → Prop) → Prop
  | mk {G : Hp} {b : Addr} {y : HO} {m : Int} : Bx G y → 0 < m → R_draw G [(b, y)] [.ref b, .int m] fun G' ow' v => ∃ y' k, ow' = [(b, y')] ∧ Bx G' y' ∧ v = .int k ∧ 0 ≤ k ∧ k < m
abbrev sp_law_draw : Sp := spG R_draw
end
end Dl
namespace Dl
open PySem PySem.Spec PyProof.Rows L2
section
variable {R : It → Hp → Prop} {H : Hp}
def RG1 (vs : List V) (H : Hp) (R : It → Hp → Prop) : Prop := ∃ j : Int, vs = [.int j] ∧ -(2 ^ 62) ≤ j ∧ j < 2 ^ 62 ∧ R (Itr 0 j.toNat) H
def RG2 (vs : List V) (H : Hp) (R : It → Hp → Prop) : Prop := ∃ i j : Int, vs = [.int i, .int j] ∧ (-(2 ^ 62) ≤ i ∧ i < 2 ^ 62 ∧ -(2 ^ 62) ≤ j ∧ j < 2 ^ 62) ∧ R (Itr i (j - i).toNat) H
theorem go_rg1 {ta : TA} {σ : L2.St} (h : ta σ H fun vs H1 => RG1 vs H1 R) : iRng1 ta σ H R := h
theorem go_rg2 {ta : TA} {σ : L2.St} (h : ta σ H fun vs H1 => RG2 vs H1 R) : iRng2 ta σ H R := h
theorem go_rgk {j : Int} (h1 : -1000000000 ≤ j) (h2 : j ≤ 1000000000) (h : R (Itr 0 j.toNat) H) : RG1 [.int j] H R := ⟨j, rfl, by omega, by omega, h⟩
theorem go_rgk2 {i j : Int} (h1 : -1000000000 ≤ i) (h2 : i ≤ 1000000000) (h3 : -1000000000 ≤ j) (h4 : j ≤ 1000000000) (h : R (Itr i (j - i).toNat) H) : RG2 [.int i, .int j] H R := ⟨i, j, rfl, ⟨by omega, by omega, by omega, by omega⟩, h⟩
end
end Dl
namespace Dl
open PySem PySem.Spec PyProof.Rows L2
section
variable {t u : TS} {D : Ends} {σ : L2.St} {H : Hp}
end
end Dl

set_option Elab.async false
set_option linter.all false
set_option maxRecDepth 100000
namespace Dl
open PySem PySem.Spec PyProof.Rows L2
section
variable {X : Cx} {σ : L2.St} {H G : Hp} {os : Ow} {Q : VK} {D : Ends} {K : PySem.W.Frag}
def DE (p : Addr) (ps : List (V × V)) (Q : VK) (H2 : Hp) : Prop := H2 p = some (.dK []) ∧ ∃ kvs : List (Key × V), ps = kvs.map (fun kv => (kV kv.1, kv.2)) ∧ kvs.length ≤ 15 ∧ Q (.ref p) (upd H2 p (.dK (mergeK [] kvs)))
theorem HH.give1 {p : Addr} {xs : List V} (h : HH G ((p, .lst xs) :: os) H) : ∃ G', Same G G' ∧ HH G' os H ∧ G' p = some (.lst xs) :=
  ⟨_, same_upd (h.gnone (.inr fun _ _ z => nomatch z)), h.give (.inr fun _ _ z => nomatch z), upd_same⟩
theorem HH.giveD {p : Addr} {o : HO} (h : HH G ((p, o) :: os) H) (d : isDk o = true) : ∃ G', Same G G' ∧ HH G' os H ∧ G' p = some o :=
  ⟨_, same_upd (h.gnone (.inl d)), h.give (.inl d), upd_same⟩
end
end Dl
namespace Dl
open PySem PySem.Spec PyProof.Rows L2
end Dl

set_option Elab.async false
set_option linter.all false
set_option maxRecDepth 100000
namespace Sl
open PySem PySem.Spec PyProof.Rows L2 Dl

/-! ### kinds of data, told one by one -/
structure Ty (α : Type) where
  rep : Hp → V → α → Prop
  mono : ∀ {G G' : Hp} {v : V} {x : α}, Same G G' → rep G v x → rep G' v x
/-- what a value may be: frozen data, or a thing with cells of its own -/
structure Sh where
  p : Hp → Ow → V → Prop
  mono : ∀ {G G' : Hp} {o : Ow} {v : V}, Same G G' → p G o v → p G' o v
  nf : ∀ {G : Hp} {o : Ow} {v : V}, p G o v → ∀ c ∈ o, isFr c.2 = false
def fz {α : Type} (τ : Ty α) (x : α) : Sh := ⟨fun G o v => o = [] ∧ τ.rep G v x, fun s h => ⟨h.1, τ.mono s h.2⟩, fun h c hc => by rw [h.1] at hc; cases hc⟩
/-- the slots: none of what is not looked at any more -/
abbrev Ct := List (Option Sh)
def StA : Ct → L2.St → Hp → Ow → Prop
  | [], σ, _, os => σ = [] ∧ os = []
  | none :: Γ, x :: σ, G, os => StA Γ σ G os
  | some s :: Γ, x :: σ, G, os => ∃ v o1 o2, x = some v ∧ os = o1 ++ o2 ∧ s.p G o1 v ∧ StA Γ σ G o2
  | _ :: _, [], _, _ => False
theorem StA.mono {G G' : Hp} (sm : Same G G') : ∀ {Γ : Ct} {σ : L2.St} {os : Ow}, StA Γ σ G os → StA Γ σ G' os
  | [], _, _, h => h
  | none :: Γ, _ :: σ, _, h => StA.mono (Γ := Γ) sm h
  | some s :: Γ, _ :: σ, _, ⟨v, o1, o2, e1, e2, h1, h2⟩ => ⟨v, o1, o2, e1, e2, s.mono sm h1, StA.mono sm h2⟩
theorem StA.nf {G : Hp} : ∀ {Γ : Ct} {σ : L2.St} {os : Ow}, StA Γ σ G os → ∀ c ∈ os, isFr c.2 = false
  | [], _, _, h, c, hc => by rw [h.2] at hc; cases hc
  | none :: Γ, _ :: σ, _, h, c, hc => StA.nf (Γ := Γ) h c hc
  | some s :: Γ, _ :: σ, _, ⟨v, o1, o2, e1, e2, h1, h2⟩, c, hc => by
    subst e2
    rcases List.mem_append.mp hc with hc | hc
    · exact s.nf h1 c hc
    · exact StA.nf h2 c hc
/-- values side by side -/
def Shs : List Sh → Hp → Ow → List V → Prop
  | [], _, o, vs => vs = [] ∧ o = []
  | s :: ss, G, o, vs => ∃ v vr o1 o2, vs = v :: vr ∧ o = o1 ++ o2 ∧ s.p G o1 v ∧ Shs ss G o2 vr
theorem Shs.mono {G G' : Hp} (sm : Same G G') : ∀ {ss : List Sh} {o : Ow} {vs : List V}, Shs ss G o vs → Shs ss G' o vs
  | [], _, _, h => h
  | s :: ss, _, _, ⟨v, vr, o1, o2, e1, e2, h1, h2⟩ => ⟨v, vr, o1, o2, e1, e2, s.mono sm h1, Shs.mono sm h2⟩
theorem Shs.nf : ∀ {ss : List Sh} {G : Hp} {o : Ow} {vs : List V}, Shs ss G o vs → ∀ c ∈ o, isFr c.2 = false
  | [], _, _, _, h, c, hc => by rw [h.2] at hc; cases hc
  | s :: ss, _, _, _, ⟨v, vr, o1, o2, e1, e2, h1, h2⟩, c, hc => by
    subst e2
    rcases List.mem_append.mp hc with hc | hc
    · exact s.nf h1 c hc
    · exact Shs.nf h2 c hc
theorem Shs.len : ∀ {ss : List Sh} {G : Hp} {o : Ow} {vs : List V}, Shs ss G o vs → vs.length = ss.length
  | [], _, _, _, ⟨e, _⟩ => by rw [e]; rfl
  | s :: ss, _, _, _, ⟨v, vr, o1, o2, e1, e2, h1, h2⟩ => by rw [e1, List.length_cons, List.length_cons, Shs.len h2]
/-- a slot is taken out: its value, its cells, and how anything is put back -/
theorem StA.take {G : Hp} {s : Sh} : ∀ {Γ : Ct} {σ : L2.St} {os : Ow} {i : Nat}, StA Γ σ G os → Γ[i]? = some (some s) →
    ∃ v o rest, σ[i]? = some (some v) ∧ s.p G o v ∧ os.Perm (o ++ rest) ∧ StA (Γ.set i none) σ G rest ∧
      ∀ G' s' o', Same G G' → s'.p G' o' v → ∃ os', os'.Perm (o' ++ rest) ∧ StA (Γ.set i (some s')) σ G' os'
  | some s1 :: Γ, _ :: σ, _, 0, ⟨v, o1, o2, e1, e2, h1, h2⟩, hi => by
    simp only [List.getElem?_cons_zero, Option.some.injEq] at hi
    subst hi e1 e2
    exact ⟨v, o1, o2, rfl, h1, .refl _, h2, fun G' s' o' sm h' => ⟨o' ++ o2, .refl _, v, o', o2, rfl, rfl, h', StA.mono sm h2⟩⟩
  | some s1 :: Γ, _ :: σ, _, i + 1, ⟨v, o1, o2, e1, e2, h1, h2⟩, hi => by
    simp only [List.getElem?_cons_succ] at hi
    obtain ⟨w, o, rest, a1, a2, a3, a4, a5⟩ := StA.take (i := i) h2 hi
    subst e1 e2
    refine ⟨w, o, o1 ++ rest, by simpa using a1, a2, ?_, ⟨v, o1, rest, rfl, rfl, h1, a4⟩, fun G' s' o' sm h' => ?_⟩
    · exact (List.Perm.append_left o1 a3).trans (by rw [← List.append_assoc, ← List.append_assoc]; exact List.Perm.append_right rest List.perm_append_comm)
    · obtain ⟨os', p', q'⟩ := a5 G' s' o' sm h'
      refine ⟨o1 ++ os', ?_, v, o1, os', rfl, rfl, s1.mono sm h1, q'⟩
      exact (List.Perm.append_left o1 p').trans (by rw [← List.append_assoc, ← List.append_assoc]; exact List.Perm.append_right rest List.perm_append_comm)
  | none :: Γ, _ :: σ, _, 0, _, hi => by simp at hi
  | none :: Γ, x :: σ, _, i + 1, h2, hi => by
    simp only [List.getElem?_cons_succ] at hi
    obtain ⟨w, o, rest, a1, a2, a3, a4, a5⟩ := StA.take (Γ := Γ) (i := i) h2 hi
    exact ⟨w, o, rest, by simpa using a1, a2, a3, a4, fun G' s' o' sm h' => a5 G' s' o' sm h'⟩
/-- a name is set; what it held is left alone -/
theorem StA.set {G : Hp} {s : Sh} {v : V} {o : Ow} (h' : s.p G o v) : ∀ {Γ : Ct} {σ : L2.St} {os : Ow} {i : Nat}, StA Γ σ G os → i < Γ.length →
    ∃ dead os', (o ++ os).Perm (dead ++ os') ∧ StA (Γ.set i (some s)) (σ.set i (some v)) G os'
  | none :: Γ, _ :: σ, os, 0, h2, _ => ⟨[], o ++ os, .refl _, v, o, os, rfl, rfl, h', h2⟩
  | some s1 :: Γ, _ :: σ, _, 0, ⟨v1, o1, o2, e1, e2, h1, h2⟩, _ => ⟨o1, o ++ o2, by rw [e2, ← List.append_assoc, ← List.append_assoc]; exact List.Perm.append_right o2 List.perm_append_comm, v, o, o2, rfl, rfl, h', h2⟩
  | none :: Γ, _ :: σ, _, i + 1, h2, hi => by
    obtain ⟨dead, os', p', q'⟩ := StA.set (Γ := Γ) (i := i) h' h2 (by simpa using hi)
    exact ⟨dead, os', p', q'⟩
  | some s1 :: Γ, _ :: σ, _, i + 1, ⟨v1, o1, o2, e1, e2, h1, h2⟩, hi => by
    obtain ⟨dead, os', p', q'⟩ := StA.set (i := i) h' h2 (by simpa using hi)
    subst e1 e2
    refine ⟨dead, o1 ++ os', ?_, v1, o1, os', rfl, rfl, h1, q'⟩
    exact (show (o ++ (o1 ++ o2)).Perm (o1 ++ (o ++ o2)) by rw [← List.append_assoc, ← List.append_assoc]; exact List.Perm.append_right o2 List.perm_append_comm).trans ((List.Perm.append_left o1 p').trans (by rw [← List.append_assoc, ← List.append_assoc]; exact List.Perm.append_right os' List.perm_append_comm))
/-- slots that are not looked at any more -/
def mask : List Bool → Ct → Ct
  | true :: fl, s :: Γ => s :: mask fl Γ
  | false :: fl, _ :: Γ => none :: mask fl Γ
  | _, _ => []
theorem StA.mask {G : Hp} : ∀ {fl : List Bool} {Γ : Ct} {σ : L2.St} {os : Ow}, StA Γ σ G os → fl.length = Γ.length → ∃ dead os', os.Perm (dead ++ os') ∧ StA (mask fl Γ) σ G os'
  | [], [], _, os, h, _ => ⟨[], os, .refl _, h⟩
  | true :: fl, none :: Γ, _ :: σ, _, h2, l => StA.mask (Γ := Γ) h2 (by simpa using l)
  | true :: fl, some s1 :: Γ, _ :: σ, _, ⟨v1, o1, o2, e1, e2, h1, h2⟩, l => by
    obtain ⟨dead, os', pm, h'⟩ := StA.mask (fl := fl) h2 (by simpa using l)
    subst e1 e2
    refine ⟨dead, o1 ++ os', ?_, v1, o1, os', rfl, rfl, h1, h'⟩
    exact (List.Perm.append_left o1 pm).trans (by rw [← List.append_assoc, ← List.append_assoc]; exact List.Perm.append_right os' List.perm_append_comm)
  | false :: fl, none :: Γ, _ :: σ, _, h2, l => StA.mask (Γ := Γ) h2 (by simpa using l)
  | false :: fl, some s1 :: Γ, _ :: σ, _, ⟨v1, o1, o2, e1, e2, h1, h2⟩, l => by
    obtain ⟨dead, os', pm, h'⟩ := StA.mask (fl := fl) h2 (by simpa using l)
    subst e1 e2
    exact ⟨o1 ++ dead, os', by rw [List.append_assoc]; exact List.Perm.append_left o1 pm, h'⟩
  | [], _ :: _, _, _, _, l => by simp at l
  | _ :: _, [], _, _, _, l => by simp at l
theorem HH.drops {G H : Hp} : ∀ {d os : Ow}, HH G (d ++ os) H → HH G os H
  | [], _, h => h
  | _ :: d, _, h => HH.drops (d := d) (HH.drop h)

theorem HH.masked {G H : Hp} {Γ : Ct} {σ : L2.St} {os F : Ow} {fl : List Bool} (hh : HH G (os ++ F) H) (st : StA Γ σ G os) (l : fl.length = Γ.length) : ∃ os', HH G (os' ++ F) H ∧ StA (mask fl Γ) σ G os' := by
  obtain ⟨dead, os', pm, h⟩ := st.mask l
  exact ⟨os', HH.drops (d := dead) (hh.perm (by rw [← List.append_assoc]; exact List.Perm.append_right F pm)), h⟩
/-! ### the readings of a walk with slots -/
/-- what stands behind: none: all as before; some Γ': such slots -/
def Aft (m : Option Ct) (σ : L2.St) (G' : Hp) (os os' : Ow) : Prop :=
  match m with
  | none => os' = os
  | some Γ' => StA Γ' σ G' os'
abbrev out (Γ : Ct) (m : Option Ct) : Ct := match m with
  | none => Γ
  | some Γ' => Γ'
abbrev cmb (m1 m2 : Option Ct) : Option Ct := match m2 with
  | none => m1
  | some Γ2 => some Γ2
section
variable {Γ : Ct} {m m1 m2 : Option Ct} {σ : L2.St} {G G' G1 G2 : Hp} {os os' os1 os2 : Ow}
theorem Aft.st (st : StA Γ σ G os) (sm : Same G G') (a : Aft m σ G' os os') : StA (out Γ m) σ G' os' := by
  cases m with
  | none =>
    have e : os' = os := a
    subst e
    exact st.mono sm
  | some Γ' => exact a
theorem Aft.mono (sm : Same G' G2) (a : Aft m σ G' os os') : Aft m σ G2 os os' := by
  cases m with
  | none => exact a
  | some Γ' => exact StA.mono sm a
theorem Aft.trans (sm : Same G1 G2) (a : Aft m1 σ G1 os os1) (b : Aft m2 σ G2 os1 os2) : Aft (cmb m1 m2) σ G2 os os2 := by
  cases m2 with
  | none =>
    have e : os2 = os1 := b
    subst e
    exact Aft.mono sm a
  | some Γ' => exact b
end
def tT (Γ : Ct) (m : Option Ct) (s : Sh) : TE := fun σ H Q => ∃ G os F, HH G (os ++ F) H ∧ StA Γ σ G os ∧
  ∀ v G' o os' H', Same G G' → HH G' (o ++ (os' ++ F)) H' → Aft m σ G' os os' → s.p G' o v → Q v H'
def tB (Γ : Ct) (m : Option Ct) (b : Bool) : TT := fun σ H Q => ∃ G os F, HH G (os ++ F) H ∧ StA Γ σ G os ∧
  ∀ G' os' H', Same G G' → HH G' (os' ++ F) H' → Aft m σ G' os os' → Q b H'
/-- a thing is looked at where it stands -/
def tP (Γ : Ct) (s : Sh) : TE := fun σ H Q => ∃ G os F, HH G (os ++ F) H ∧ StA Γ σ G os ∧ ∀ v o rest, os.Perm (o ++ rest) → s.p G o v → Q v H
/-- an argument: what it is, or a slot that is lent -/
inductive As where
  | val (s : Sh)
  | lend (i : Nat)
def As.p : As → L2.St → Hp → Ow → V → Prop
  | .val s, _, G, o, v => s.p G o v
  | .lend i, σ, _, o, v => o = [] ∧ σ[i]? = some (some v)
theorem As.mono {G G' : Hp} {σ : L2.St} {o : Ow} {v : V} (sm : Same G G') : ∀ {a : As}, a.p σ G o v → a.p σ G' o v
  | .val s, h => s.mono sm h
  | .lend _, h => h
def AsP : List As → L2.St → Hp → Ow → List V → Prop
  | [], _, _, o, vs => vs = [] ∧ o = []
  | a :: as, σ, G, o, vs => ∃ v vr o1 o2, vs = v :: vr ∧ o = o1 ++ o2 ∧ a.p σ G o1 v ∧ AsP as σ G o2 vr
theorem AsP.mono {G G' : Hp} {σ : L2.St} (sm : Same G G') : ∀ {as : List As} {o : Ow} {vs : List V}, AsP as σ G o vs → AsP as σ G' o vs
  | [], _, _, h => h
  | a :: as, _, _, ⟨v, vr, o1, o2, e1, e2, h1, h2⟩ => ⟨v, vr, o1, o2, e1, e2, a.mono sm h1, AsP.mono sm h2⟩
def tA (Γ : Ct) (m : Option Ct) (as : List As) : TA := fun σ H Q => ∃ G os F, HH G (os ++ F) H ∧ StA Γ σ G os ∧
  ∀ vs G' o os' H', Same G G' → HH G' (o ++ (os' ++ F)) H' → Aft m σ G' os os' → AsP as σ G' o vs → Q vs H'
abbrev EJ (X : Cx) (e : Expr) (Γ : Ct) (m : Option Ct) (s : Sh) : Prop := PE X e (tT Γ m s)
abbrev TJ (X : Cx) (e : Expr) (Γ : Ct) (m : Option Ct) (b : Bool) : Prop := PT X e (tB Γ m b)
abbrev PJ (X : Cx) (e : Expr) (Γ : Ct) (s : Sh) : Prop := PE X e (tP Γ s)
abbrev AJ (X : Cx) (es : List Expr) (Γ : Ct) (m : Option Ct) (as : List As) : Prop := PA X es (tA Γ m as)
theorem pe_to {X : Cx} {e : Expr} {t t' : TE} (h : PE X e t) (w : ∀ σ H Q, t' σ H Q → t σ H Q) : PE X e t' := ⟨fun pins s σ H Q I q => h.run pins s σ H Q I (w σ H Q q)⟩
theorem pt_to {X : Cx} {e : Expr} {t t' : TT} (h : PT X e t) (w : ∀ σ H Q, t' σ H Q → t σ H Q) : PT X e t' := ⟨fun pins s σ H Q I q => h.run pins s σ H Q I (w σ H Q q)⟩
theorem pw_to {X : Cx} {e : Expr} {t t' : TT} (h : PW X e t) (w : ∀ σ H Q, t' σ H Q → t σ H Q) : PW X e t' := ⟨fun wh pins s σ H Q I q => h.run wh pins s σ H Q I (w σ H Q q)⟩
theorem pa_to {X : Cx} {e : List Expr} {t t' : TA} (h : PA X e t) (w : ∀ σ H Q, t' σ H Q → t σ H Q) : PA X e t' := ⟨fun po pins s σ H Q I q => h.run po pins s σ H Q I (w σ H Q q)⟩
theorem pss_to {X : Cx} {e : List Stmt} {t t' : TS} (h : PSs X e t) (w : ∀ D σ H, t' D σ H → t D σ H) : PSs X e t' := ⟨fun pins s σ H D I q => h.run pins s σ H D I (w D σ H q)⟩
section
variable {X : Cx} {Γ : Ct} {m m1 m2 : Option Ct} {α β γ : Type} {τ τ1 : Ty α} {τ2 : Ty β} {s s1 s2 : Sh} {pos : Pos} {σ : L2.St} {H : Hp} {Q : VK}
/-- one value that is data -/
theorem tT.one {x : α} {R : V → Hp → Prop} (h : ∃ G os F, HH G (os ++ F) H ∧ StA Γ σ G os ∧ ∀ v G' os' H', Same G G' → HH G' (os' ++ F) H' → Aft m σ G' os os' → τ.rep G' v x → R v H') : tT Γ m (fz τ x) σ H R := by
  obtain ⟨G, os, F, hh, st, k⟩ := h
  exact ⟨G, os, F, hh, st, fun v G' o os' H' sm h' st' ⟨e, r⟩ => k v G' os' H' sm (by subst e; exact h') st' r⟩
/-- two values that are data -/
theorem tT.two {x : α} {y : β} {R : V → V → Hp → Prop} (h : ∃ G os F, HH G (os ++ F) H ∧ StA Γ σ G os ∧ ∀ v w G' os' H', Same G G' → HH G' (os' ++ F) H' → Aft (cmb m1 m2) σ G' os os' → τ1.rep G' v x → τ2.rep G' w y → R v w H') :
    tT Γ m1 (fz τ1 x) σ H fun v H1 => tT (out Γ m1) m2 (fz τ2 y) σ H1 fun w H2 => R v w H2 := by
  obtain ⟨G, os, F, hh, st, k⟩ := h
  refine tT.one ⟨G, os, F, hh, st, fun v G' os' H' sm h' st' r => ?_⟩
  exact tT.one ⟨G', os', F, h', st'.st st sm, fun w G2 os2 H2 sm2 h2 st2 r2 => k v w G2 os2 H2 (sm.trans sm2) h2 (st'.trans sm2 st2) (τ1.mono sm2 r) r2⟩
/-- a value that is looked at where it stands, and one that changes nothing -/
theorem tP.two {y : β} {R : V → V → Hp → Prop} (h : ∃ G os F, HH G (os ++ F) H ∧ StA Γ σ G os ∧ ∀ v w G' H' o rest, Same G G' → os.Perm (o ++ rest) → HH G' (os ++ F) H' → s.p G' o v → τ2.rep G' w y → R v w H') :
    tP Γ s σ H fun v H1 => tT Γ none (fz τ2 y) σ H1 fun w H2 => R v w H2 := by
  obtain ⟨G, os, F, hh, st, k⟩ := h
  refine ⟨G, os, F, hh, st, fun v o rest pm hs => ?_⟩
  exact tT.one ⟨G, os, F, hh, st, fun w G2 os2 H2 sm2 h2 (st2 : os2 = os) r2 => by subst st2; exact k v w G2 H2 o rest sm2 pm h2 (s.mono sm2 hs) r2⟩
/-! names, constants -/
theorem ej_var {i : Nat} {x : Str} {d : α} (hN : X.N[i]? = some x) (hv : Vis X.env.scope x) (hi : Γ[i]? = some (some (fz τ d))) (hd : (x == ("__debug__" : Str)) = false := by decide) (hcd : (x == ("__classdict__" : Str)) = false := by decide) : EJ X (.Name x pos) Γ none (fz τ d) := by
  refine pe_to (pe_var (i := i) hN hv hd hcd) fun σ H Q ⟨G, os, F, hh, st, k⟩ => ?_
  obtain ⟨v, o, rest, a1, a2, a3, a4, a5⟩ := st.take hi
  exact ⟨v, a1, k v G [] os H (Same.refl _) hh rfl ⟨rfl, a2.2⟩⟩
/-- the name's thing is handed over -/
theorem ej_mov {i : Nat} {x : Str} (hN : X.N[i]? = some x) (hv : Vis X.env.scope x) (hi : Γ[i]? = some (some s)) (hd : (x == ("__debug__" : Str)) = false := by decide) (hcd : (x == ("__classdict__" : Str)) = false := by decide) : EJ X (.Name x pos) Γ (some (Γ.set i none)) s := by
  refine pe_to (pe_var (i := i) hN hv hd hcd) fun σ H Q ⟨G, os, F, hh, st, k⟩ => ?_
  obtain ⟨v, o, rest, a1, a2, a3, a4, a5⟩ := st.take hi
  exact ⟨v, a1, k v G o rest H (Same.refl _) (hh.perm (by rw [← List.append_assoc]; exact List.Perm.append_right F a3)) a4 a2⟩
theorem pj_var {i : Nat} {x : Str} (hN : X.N[i]? = some x) (hv : Vis X.env.scope x) (hi : Γ[i]? = some (some s)) (hd : (x == ("__debug__" : Str)) = false := by decide) (hcd : (x == ("__classdict__" : Str)) = false := by decide) : PJ X (.Name x pos) Γ s := by
  refine pe_to (pe_var (i := i) hN hv hd hcd) fun σ H Q ⟨G, os, F, hh, st, k⟩ => ?_
  obtain ⟨v, o, rest, a1, a2, a3, a4, a5⟩ := st.take hi
  exact ⟨v, a1, k v o rest a3 a2⟩
end
end Sl

set_option Elab.async false
set_option linter.all false
set_option maxRecDepth 100000
namespace Sl
open PySem PySem.Spec PyProof.Rows L2 Dl
/-! ### kinds of data -/
def tInt : Ty Int := ⟨fun _ v i => v = .int i, fun _ h => h⟩
def tBool : Ty Bool := ⟨fun _ v i => v = .bl i, fun _ h => h⟩
def tStr : Ty Str := ⟨fun _ v i => v = .str i, fun _ h => h⟩
def tNon : Ty Unit := ⟨fun _ v _ => v = .non, fun _ h => h⟩
theorem pair_mono {α : Type} {τ : Ty α} {G G' : Hp} (s : Same G G') : ∀ {vs : List V} {xs : List α}, Paired (τ.rep G) vs xs → Paired (τ.rep G') vs xs
  | _, _, .nil => .nil
  | _, _, .cons r t => .cons (τ.mono s r) (pair_mono s t)
def tOpt {α : Type} (τ : Ty α) : Ty (Option α) := ⟨fun G v x => (x = none ∧ v = .non) ∨ ∃ y, x = some y ∧ v ≠ .non ∧ τ.rep G v y, fun s h => h.elim .inl fun ⟨y, e, n, r⟩ => .inr ⟨y, e, n, τ.mono s r⟩⟩
def tSum {α β : Type} (τ1 : Ty α) (τ2 : Ty β) : Ty (α ⊕ β) := ⟨fun G v x => (∃ y, x = .inl y ∧ τ1.rep G v y) ∨ ∃ y, x = .inr y ∧ τ2.rep G v y, fun s h => h.elim (fun ⟨y, e, r⟩ => .inl ⟨y, e, τ1.mono s r⟩) fun ⟨y, e, r⟩ => .inr ⟨y, e, τ2.mono s r⟩⟩
def tList {α : Type} (τ : Ty α) : Ty (List α) := ⟨fun G v xs => ∃ a vs, v = .ref a ∧ G a = some (.lst vs) ∧ Paired (τ.rep G) vs xs, fun s ⟨a, vs, e, h, r⟩ => ⟨a, vs, e, s _ _ h, pair_mono s r⟩⟩
def tTup {α : Type} (τ : Ty α) : Ty (List α) := ⟨fun G v xs => ∃ a vs, v = .ref a ∧ G a = some (.tup vs) ∧ Paired (τ.rep G) vs xs, fun s ⟨a, vs, e, h, r⟩ => ⟨a, vs, e, s _ _ h, pair_mono s r⟩⟩
/-- things of unlike kinds side by side -/
inductive Rec : List Type → Type 1
  | nil : Rec []
def tP1 {α : Type} (τ : Ty α) : Ty α := ⟨fun G v x => ∃ a u, v = .ref a ∧ G a = some (.tup [u]) ∧ τ.rep G u x, fun s ⟨a, u, e, h, r⟩ => ⟨a, u, e, s _ _ h, τ.mono s r⟩⟩
def tP2 {α β : Type} (τ1 : Ty α) (τ2 : Ty β) : Ty (α × β) := ⟨fun G v x => ∃ a v1 v2, v = .ref a ∧ G a = some (.tup [v1, v2]) ∧ τ1.rep G v1 x.1 ∧ τ2.rep G v2 x.2,
  fun s ⟨a, v1, v2, e, h, r1, r2⟩ => ⟨a, v1, v2, e, s _ _ h, τ1.mono s r1, τ2.mono s r2⟩⟩
def tP3 {α β γ : Type} (τ1 : Ty α) (τ2 : Ty β) (τ3 : Ty γ) : Ty (α × β × γ) := ⟨fun G v x => ∃ a v1 v2 v3, v = .ref a ∧ G a = some (.tup [v1, v2, v3]) ∧ τ1.rep G v1 x.1 ∧ τ2.rep G v2 x.2.1 ∧ τ3.rep G v3 x.2.2,
  fun s ⟨a, v1, v2, v3, e, h, r1, r2, r3⟩ => ⟨a, v1, v2, v3, e, s _ _ h, τ1.mono s r1, τ2.mono s r2, τ3.mono s r3⟩⟩
def tL2 {α β : Type} (τ1 : Ty α) (τ2 : Ty β) : Ty (α × β) := ⟨fun G v x => ∃ a v1 v2, v = .ref a ∧ G a = some (.lst [v1, v2]) ∧ τ1.rep G v1 x.1 ∧ τ2.rep G v2 x.2,
  fun s ⟨a, v1, v2, e, h, r1, r2⟩ => ⟨a, v1, v2, e, s _ _ h, τ1.mono s r1, τ2.mono s r2⟩⟩
def tL3 {α β γ : Type} (τ1 : Ty α) (τ2 : Ty β) (τ3 : Ty γ) : Ty (α × β × γ) := ⟨fun G v x => ∃ a v1 v2 v3, v = .ref a ∧ G a = some (.lst [v1, v2, v3]) ∧ τ1.rep G v1 x.1 ∧ τ2.rep G v2 x.2.1 ∧ τ3.rep G v3 x.2.2,
  fun s ⟨a, v1, v2, v3, e, h, r1, r2, r3⟩ => ⟨a, v1, v2, v3, e, s _ _ h, τ1.mono s r1, τ2.mono s r2, τ3.mono s r3⟩⟩
def tL4 {α β γ δ : Type} (τ1 : Ty α) (τ2 : Ty β) (τ3 : Ty γ) (τ4 : Ty δ) : Ty (α × β × γ × δ) := ⟨fun G v x => ∃ a v1 v2 v3 v4, v = .ref a ∧ G a = some (.lst [v1, v2, v3, v4]) ∧ τ1.rep G v1 x.1 ∧ τ2.rep G v2 x.2.1 ∧ τ3.rep G v3 x.2.2.1 ∧ τ4.rep G v4 x.2.2.2,
  fun s ⟨a, v1, v2, v3, v4, e, h, r1, r2, r3, r4⟩ => ⟨a, v1, v2, v3, v4, e, s _ _ h, τ1.mono s r1, τ2.mono s r2, τ3.mono s r3, τ4.mono s r4⟩⟩
/-- kinds of keys -/
structure Kd (κ : Type) where
  KT : Type
  dec : DecidableEq KT
  ho : List (KT × V) → HO
  enc : κ → KT
  isk : Hp → V → KT → Prop
  inj : ∀ a b, enc a = enc b → a = b
  isd : ∀ l, isDk (ho l) = true
  ntp : ∀ l, isTp (ho l) = false
  isdd : ∀ {H : Hp} {a : Addr} {l : List (KT × V)}, Rd H a (ho l) → IsD H a
  dget : ∀ {H : Hp} {a : Addr} {kvs : List (KT × V)} {w : V} {kt : KT}, Rd H a (ho kvs) → isk H w kt → DGet H a w (valV kvs kt)
  dput : ∀ {H : Hp} {a : Addr} {kvs : List (KT × V)} {w v : V} {kt : KT}, H a = some (ho kvs) → isk H w kt → kvs.length < sizeLine → DPut H a w v (upd H a (ho (putK kvs kt v)))
instance {κ : Type} (kd : Kd κ) : DecidableEq kd.KT := kd.dec
/-- keys that are ints or texts -/
structure Fk (κ : Type) where
  enc : κ → Key
  inj : ∀ a b, enc a = enc b → a = b
@[reducible] def kF {κ : Type} (f : Fk κ) : Kd κ := ⟨Key, inferInstance, .dK, f.enc, fun _ w k => w = kV k, f.inj, fun _ => rfl, fun _ => rfl, fun g => .inl ⟨_, g⟩, fun g e => .inl ⟨_, _, g, e, rfl⟩, fun g e l => .inl ⟨_, _, g, e, l, rfl⟩⟩
/-- keys that are tuples of such -/
@[reducible] def kTs {κ : Type} (enc : κ → List Key) (inj : ∀ a b, enc a = enc b → a = b) : Kd κ := ⟨List Key, inferInstance, .dT, enc, fun H w k => ∃ b, w = .ref b ∧ H b = some (.tup (k.map kV)), inj, fun _ => rfl, fun _ => rfl, fun g => .inr ⟨_, g⟩, fun g ⟨b, e, t⟩ => .inr ⟨_, _, b, g, e, t, rfl⟩, fun g ⟨b, e, t⟩ l => .inr ⟨_, _, b, g, e, t, l, rfl⟩⟩
def fStr : Fk Str := ⟨Sum.inr, fun _ _ h => Sum.inr.inj h⟩
def fInt : Fk Int := ⟨Sum.inl, fun _ _ h => Sum.inl.inj h⟩
def fSum : Fk (Int ⊕ Str) := ⟨id, fun _ _ h => h⟩
@[reducible] def kStr : Kd Str := kF fStr
@[reducible] def kInt : Kd Int := kF fInt
@[reducible] def kP2 {α β : Type} (f : Fk α) (g : Fk β) : Kd (α × β) := kTs (fun p => [f.enc p.1, g.enc p.2]) fun a b h => by
  simp only [List.cons.injEq, and_true] at h
  exact Prod.ext (f.inj _ _ h.1) (g.inj _ _ h.2)
@[reducible] def kTu {α : Type} (f : Fk α) : Kd (List α) := kTs (fun xs => xs.map f.enc) fun a b h => by
  induction a generalizing b with
  | nil => cases b with
    | nil => rfl
    | cons y ys => cases h
  | cons x xs ih => cases b with
    | nil => cases h
    | cons y ys =>
      simp only [List.map_cons, List.cons.injEq] at h
      rw [f.inj _ _ h.1, ih ys h.2]
def KR {κ α : Type} (kd : Kd κ) (τ : Ty α) (G : Hp) (p : kd.KT × V) (q : κ × α) : Prop := p.1 = kd.enc q.1 ∧ τ.rep G p.2 q.2
theorem kr_mono {κ α : Type} {kd : Kd κ} {τ : Ty α} {G G' : Hp} (s : Same G G') : ∀ {vs : List (kd.KT × V)} {xs : List (κ × α)}, Paired (KR kd τ G) vs xs → Paired (KR kd τ G') vs xs
  | _, _, .nil => .nil
  | _, _, .cons r t => .cons ⟨r.1, τ.mono s r.2⟩ (kr_mono s t)
def tDic {κ α : Type} (kd : Kd κ) (τ : Ty α) : Ty (List (κ × α)) := ⟨fun G v x => ∃ a vs, v = .ref a ∧ G a = some (kd.ho vs) ∧ Paired (KR kd τ G) vs x ∧ (x.map Prod.fst).Nodup, fun s ⟨a, vs, e, h, r, n⟩ => ⟨a, vs, e, s _ _ h, kr_mono s r, n⟩⟩
/-! tables -/
section
variable {κ α β : Type} [DecidableEq κ]
def aget (d : List (κ × α)) (k : κ) : Option α := (d.find? fun p => decide (p.1 = k)).map (·.2)
def ahas (d : List (κ × α)) (k : κ) : Bool := d.any fun p => decide (p.1 = k)
def aput (d : List (κ × α)) (k : κ) (v : α) : List (κ × α) := if ahas d k = true then d.map (fun p => if p.1 = k then (p.1, v) else p) else d ++ [(k, v)]
def adel (d : List (κ × α)) (k : κ) : List (κ × α) := d.filter fun p => decide (p.1 ≠ k)
theorem aget_pos {p : κ × α} {r : List (κ × α)} {k : κ} (e : p.1 = k) : aget (p :: r) k = some p.2 := by simp [aget, List.find?_cons, e]
theorem aget_neg {p : κ × α} {r : List (κ × α)} {k : κ} (e : ¬ p.1 = k) : aget (p :: r) k = aget r k := by simp [aget, List.find?_cons, e]
theorem ahas_get (d : List (κ × α)) (k : κ) : ahas d k = (aget d k).isSome := by
  induction d with
  | nil => rfl
  | cons p r ih =>
    by_cases e : p.1 = k
    · rw [aget_pos e]
      simp [ahas, e]
    · rw [aget_neg e, ← ih]
      simp [ahas, e]
theorem kr_get {kd : Kd κ} {τ : Ty α} {G : Hp} (k : κ) : ∀ {vs : List (kd.KT × V)} {xs : List (κ × α)}, Paired (KR kd τ G) vs xs → (∃ v x, valV vs (kd.enc k) = some v ∧ aget xs k = some x ∧ τ.rep G v x) ∨ (valV vs (kd.enc k) = none ∧ aget xs k = none)
  | _, _, .nil => .inr ⟨rfl, rfl⟩
  | _, _, .cons (a := p) (b := q) r t => by
    by_cases e : q.1 = k
    · exact .inl ⟨p.2, q.2, valV_pos (r.1.trans (by rw [e])), aget_pos e, r.2⟩
    · have ne : ¬ p.1 = kd.enc k := fun z => e (kd.inj _ _ (r.1.symm.trans z))
      rw [valV_neg ne, aget_neg e]
      exact kr_get k t
theorem kr_any {kd : Kd κ} {τ : Ty α} {G : Hp} (k : κ) {vs : List (kd.KT × V)} {xs : List (κ × α)} (r : Paired (KR kd τ G) vs xs) : (valV vs (kd.enc k)).isSome = (aget xs k).isSome := by
  rcases kr_get k r with ⟨v, x, h1, h2, _⟩ | ⟨h1, h2⟩
  · rw [h1, h2]; rfl
  · rw [h1, h2]; rfl
theorem kr_map {kd : Kd κ} {τ : Ty α} {G : Hp} (k : κ) {v : V} {x : α} (rv : τ.rep G v x) : ∀ {vs : List (kd.KT × V)} {xs : List (κ × α)}, Paired (KR kd τ G) vs xs →
    Paired (KR kd τ G) (vs.map fun kv => if kv.1 = kd.enc k then (kv.1, v) else kv) (xs.map fun p => if p.1 = k then (p.1, x) else p)
  | _, _, .nil => .nil
  | _, _, .cons (a := p) (b := q) r t => by
    rw [List.map_cons, List.map_cons]
    by_cases e : q.1 = k
    · rw [if_pos e, if_pos (r.1.trans (by rw [e]))]
      exact .cons ⟨r.1, rv⟩ (kr_map k rv t)
    · rw [if_neg e, if_neg (fun z => e (kd.inj _ _ (r.1.symm.trans z)))]
      exact .cons r (kr_map k rv t)
theorem kr_put {kd : Kd κ} {τ : Ty α} {G : Hp} (k : κ) {v : V} {x : α} {vs : List (kd.KT × V)} {xs : List (κ × α)} (rv : τ.rep G v x) (r : Paired (KR kd τ G) vs xs) : Paired (KR kd τ G) (putK vs (kd.enc k) v) (aput xs k x) := by
  unfold putK aput
  rw [valV_any, kr_any k r, ahas_get]
  by_cases h : (aget xs k).isSome = true
  · rw [if_pos h, if_pos h]
    exact kr_map k rv r
  · rw [if_neg h, if_neg h]
    exact pr_snoc r ⟨rfl, rv⟩
theorem aput_keys (d : List (κ × α)) (k : κ) (v : α) (h : ahas d k = true) : (aput d k v).map Prod.fst = d.map Prod.fst := by
  unfold aput
  rw [if_pos h, List.map_map]
  refine List.map_congr_left fun p _ => ?_
  by_cases e : p.1 = k
  · simp [e]
  · simp [e]
theorem aput_nd {d : List (κ × α)} {k : κ} {v : α} (n : (d.map Prod.fst).Nodup) : ((aput d k v).map Prod.fst).Nodup := by
  by_cases h : ahas d k = true
  · rw [aput_keys d k v h]
    exact n
  · unfold aput
    rw [if_neg h, List.map_append]
    refine List.nodup_append.mpr ⟨n, by simp, fun a ha b hb e => ?_⟩
    simp at hb
    subst hb e
    refine h ?_
    obtain ⟨p, hp, e⟩ := List.mem_map.mp ha
    exact List.any_eq_true.mpr ⟨p, hp, by simp [e]⟩
theorem aput_len {d : List (κ × α)} {k : κ} {v : α} : (aput d k v).length ≤ d.length + 1 := by
  unfold aput
  split
  · rw [List.length_map]; omega
  · rw [List.length_append]; simp
end
/-- what is small enough for a list -/
def Sm (n : Nat) : Prop := n ≤ 15000
instance (n : Nat) : Decidable (Sm n) := inferInstanceAs (Decidable (n ≤ 15000))
theorem Sm.lt {n : Nat} (h : Sm n) : n < sizeLine := small15k h
theorem Sm.le {n : Nat} (h : Sm n) : n ≤ sizeLine := Nat.le_of_lt (small15k h)
/-! ### things that are owned -/
/-- a list of things that may be owned -/
def oLst (ss : List Sh) : Sh := ⟨fun G o v => ∃ a vs os', v = .ref a ∧ o = (a, .lst vs) :: os' ∧ Shs ss G os' vs, fun s ⟨a, vs, os', e1, e2, h⟩ => ⟨a, vs, os', e1, e2, h.mono s⟩, fun ⟨a, vs, os', e1, e2, h⟩ c hc => by
  subst e2
  rcases List.mem_cons.mp hc with rfl | hc
  · rfl
  · exact h.nf c hc⟩
/-- a list of data -/
def oL {α : Type} (τ : Ty α) (xs : List α) : Sh := ⟨fun G o v => ∃ a vs, v = .ref a ∧ o = [(a, .lst vs)] ∧ Paired (τ.rep G) vs xs, fun s ⟨a, vs, e1, e2, h⟩ => ⟨a, vs, e1, e2, pair_mono s h⟩, fun ⟨a, vs, e1, e2, h⟩ c hc => by
  rw [e2] at hc
  rw [List.mem_singleton.mp hc]
  rfl⟩
/-- a dict of data -/
def oD {κ α : Type} (kd : Kd κ) (τ : Ty α) (x : List (κ × α)) : Sh := ⟨fun G o v => ∃ a vs, v = .ref a ∧ o = [(a, kd.ho vs)] ∧ Paired (KR kd τ G) vs x ∧ (x.map Prod.fst).Nodup, fun s ⟨a, vs, e1, e2, h, n⟩ => ⟨a, vs, e1, e2, kr_mono s h, n⟩, fun ⟨a, vs, e1, e2, h, n⟩ c hc => by
  rw [e2] at hc
  rw [List.mem_singleton.mp hc]
  exact fr_dk (kd.isd _)⟩
/-- what may become data for good -/
def Fz (s s' : Sh) : Prop := ∀ (G H : Hp) (o F : Ow) (v : V), s.p G o v → HH G (o ++ F) H → ∃ G', Same G G' ∧ HH G' F H ∧ s'.p G' [] v
section
variable {α β γ δ : Type} {τ : Ty α} {τ1 : Ty α} {τ2 : Ty β} {τ3 : Ty γ} {τ4 : Ty δ}
theorem fz_fz {x : α} : Fz (fz τ x) (fz τ x) := fun G H o F v ⟨e, r⟩ hh => ⟨G, Same.refl _, by subst e; exact hh, rfl, r⟩
theorem fz_oL {xs : List α} : Fz (oL τ xs) (fz (tList τ) xs) := fun G H o F v ⟨a, vs, e1, e2, r⟩ hh => by
  subst e1 e2
  obtain ⟨G', s, h', e⟩ := hh.give1
  exact ⟨G', s, h', rfl, a, vs, rfl, e, pair_mono s r⟩
theorem fz_oD {κ : Type} {kd : Kd κ} {x : List (κ × α)} : Fz (oD kd τ x) (fz (tDic kd τ) x) := fun G H o F v ⟨a, vs, e1, e2, r, n⟩ hh => by
  subst e1 e2
  obtain ⟨G', s, h', e⟩ := hh.giveD (kd.isd _)
  exact ⟨G', s, h', rfl, a, vs, rfl, e, kr_mono s r, n⟩
/-- several become data -/
def Fzs : List Sh → List Sh → Prop
  | [], [] => True
  | s :: ss, t :: ts => Fz s t ∧ Fzs ss ts
  | _, _ => False
theorem Fzs.run : ∀ {ss ts : List Sh} {G H : Hp} {o F : Ow} {vs : List V}, Fzs ss ts → Shs ss G o vs → HH G (o ++ F) H → ∃ G', Same G G' ∧ HH G' F H ∧ Shs ts G' [] vs
  | [], [], G, H, o, F, vs, _, ⟨e1, e2⟩, hh => ⟨G, Same.refl _, by subst e2; exact hh, e1, rfl⟩
  | s :: ss, t :: ts, G, H, o, F, vs, ⟨f1, f2⟩, ⟨v, vr, o1, o2, e1, e2, h1, h2⟩, hh => by
    subst e1 e2
    obtain ⟨G1, s1, hh1, r1⟩ := f1 G H o1 (o2 ++ F) v h1 (by rw [List.append_assoc] at hh; exact hh)
    obtain ⟨G2, s2, hh2, r2⟩ := Fzs.run f2 (h2.mono s1) hh1
    exact ⟨G2, s1.trans s2, hh2, v, vr, [], [], rfl, rfl, t.mono s2 r1, r2⟩
  | [], _ :: _, _, _, _, _, _, h, _, _ => h.elim
  | _ :: _, [], _, _, _, _, _, h, _, _ => h.elim
theorem fz_lst {ss : List Sh} {t : Sh} {ts : List Sh} (f : Fzs ss ts) (k : ∀ G a vs, G a = some (.lst vs) → Shs ts G [] vs → t.p G [] (.ref a)) : Fz (oLst ss) t := fun G H o F v ⟨a, vs, os', e1, e2, hs⟩ hh => by
  subst e1 e2
  have hh2 : HH G (os' ++ ((a, HO.lst vs) :: F)) H := hh.perm (by rw [List.cons_append]; exact List.perm_middle.symm)
  obtain ⟨G1, s1, hh1, r1⟩ := f.run hs hh2
  obtain ⟨G2, s2, hh2, e⟩ := hh1.give1
  exact ⟨G2, s1.trans s2, hh2, k G2 a vs e (r1.mono s2)⟩
theorem Shs.f2 {x : α} {y : β} {G : Hp} {vs : List V} (h : Shs [fz τ1 x, fz τ2 y] G [] vs) : ∃ v1 v2, vs = [v1, v2] ∧ τ1.rep G v1 x ∧ τ2.rep G v2 y := by
  obtain ⟨v1, r1, o1, o1', e1, _, ⟨_, h1⟩, v2, r2, o2, o2', e2, _, ⟨_, h2⟩, e3, _⟩ := h
  subst e1 e2 e3
  exact ⟨v1, v2, rfl, h1, h2⟩
theorem Shs.f3 {x : α} {y : β} {z : γ} {G : Hp} {vs : List V} (h : Shs [fz τ1 x, fz τ2 y, fz τ3 z] G [] vs) : ∃ v1 v2 v3, vs = [v1, v2, v3] ∧ τ1.rep G v1 x ∧ τ2.rep G v2 y ∧ τ3.rep G v3 z := by
  obtain ⟨v1, r1, o1, o1', e1, _, ⟨_, h1⟩, v2, r2, o2, o2', e2, _, ⟨_, h2⟩, v3, r3, o3, o3', e3, _, ⟨_, h3⟩, e4, _⟩ := h
  subst e1 e2 e3 e4
  exact ⟨v1, v2, v3, rfl, h1, h2, h3⟩
theorem Shs.f4 {x : α} {y : β} {z : γ} {w : δ} {G : Hp} {vs : List V} (h : Shs [fz τ1 x, fz τ2 y, fz τ3 z, fz τ4 w] G [] vs) : ∃ v1 v2 v3 v4, vs = [v1, v2, v3, v4] ∧ τ1.rep G v1 x ∧ τ2.rep G v2 y ∧ τ3.rep G v3 z ∧ τ4.rep G v4 w := by
  obtain ⟨v1, r1, o1, o1', e1, _, ⟨_, h1⟩, v2, r2, o2, o2', e2, _, ⟨_, h2⟩, v3, r3, o3, o3', e3, _, ⟨_, h3⟩, v4, r4, o4, o4', e4, _, ⟨_, h4⟩, e5, _⟩ := h
  subst e1 e2 e3 e4 e5
  exact ⟨v1, v2, v3, v4, rfl, h1, h2, h3, h4⟩
theorem fz_l4 {x : α} {y : β} {z : γ} {w : δ} : Fz (oLst [fz τ1 x, fz τ2 y, fz τ3 z, fz τ4 w]) (fz (tL4 τ1 τ2 τ3 τ4) (x, y, z, w)) := fz_lst (ts := [fz τ1 x, fz τ2 y, fz τ3 z, fz τ4 w]) ⟨fz_fz, fz_fz, fz_fz, fz_fz, trivial⟩ fun G a vs e h => by
  obtain ⟨v1, v2, v3, v4, rfl, r1, r2, r3, r4⟩ := h.f4
  exact ⟨rfl, a, v1, v2, v3, v4, rfl, e, r1, r2, r3, r4⟩
/-- a written list of things of one kind -/
theorem fz_lm {xs : List α} : Fz (oLst (xs.map (fz τ))) (fz (tList τ) xs) := by
  refine fz_lst (ts := xs.map (fz τ)) ?_ fun G a vs e h => ⟨rfl, a, vs, rfl, e, ?_⟩
  · induction xs with
    | nil => trivial
    | cons x xs ih => exact ⟨fz_fz, ih⟩
  · clear e
    induction xs generalizing vs with
    | nil => rw [h.1]; exact .nil
    | cons x xs ih =>
      obtain ⟨v1, r1, o1, o1', e1, e2, ⟨_, h1⟩, h2⟩ := h
      have e3 : o1' = [] := by
        cases o1 with
        | nil => exact e2.symm
        | cons _ _ => cases e2
      subst e1 e3
      exact .cons h1 (ih r1 h2)
end
end Sl

set_option Elab.async false
set_option linter.all false
set_option maxRecDepth 100000
namespace Sl
open PySem PySem.Spec PyProof.Rows L2 Dl
/-! ### what is asked of values -/
/-- s1 is there to be looked at -/
def At (G H : Hp) (os o : Ow) : Prop := HH G os H ∧ ∃ rest, os.Perm (o ++ rest)
def Out (s : Sh) (G : Hp) (os : Ow) (Q : VK) : Prop := ∀ u G' o H', Same G G' → HH G' (o ++ os) H' → s.p G' o u → Q u H'
def V1 (s1 : Sh) (s : Sh) (r : V → Hp → VK → Prop) : Prop := ∀ v G H os o Q, At G H os o → s1.p G o v → Out s G os Q → r v H Q
def V2 {β : Type} (s1 : Sh) (τ : Ty β) (y : β) (s : Sh) (r : R2) : Prop := ∀ v w G H os o Q, At G H os o → s1.p G o v → τ.rep G w y → Out s G os Q → r v w H Q
theorem Out.now {s : Sh} {G H : Hp} {os : Ow} {Q : VK} {u : V} (k : Out s G os Q) (hh : HH G os H) (h : s.p G [] u) : Q u H := k u G [] H (Same.refl _) hh h
theorem Out.fz {α : Type} {τ : Ty α} {x : α} {G H : Hp} {os : Ow} {Q : VK} {u : V} (k : Out (fz τ x) G os Q) (hh : HH G os H) (h : τ.rep G u x) : Q u H := k.now hh ⟨rfl, h⟩
section
variable {X : Cx} {Γ : Ct} {m m1 m2 m3 : Option Ct} {α β γ κ : Type} {τ τ1 : Ty α} {τ2 : Ty β} {τ3 : Ty γ} {s s1 s2 s3 : Sh} {pos p1 p2 : Pos} {σ : L2.St} {H : Hp} {Q : VK} {a b c e : Expr} {es : List Expr} {r r' : R2}
/-! constants -/
theorem ej_c {v : V} {x : α} (h : PE X e (tC v)) (r : ∀ G, τ.rep G v x) : EJ X e Γ none (fz τ x) := pe_to h fun σ H Q ⟨G, os, F, hh, st, k⟩ => k v G [] os H (Same.refl _) hh rfl ⟨rfl, r G⟩
theorem ej_int {i : Int} {j} : EJ X (.Constant (.int i) j pos) Γ none (fz tInt i) := ej_c pe_int fun _ => rfl
theorem ej_bl {i : Bool} {j} : EJ X (.Constant (.bool i) j pos) Γ none (fz tBool i) := ej_c pe_bl fun _ => rfl
theorem ej_str {i : Str} {j} : EJ X (.Constant (.str i) j pos) Γ none (fz tStr i) := ej_c pe_str fun _ => rfl
/-! two operands -/
theorem tOp_V2 {x : α} {y : β} (sp : V2 (fz τ1 x) τ2 y s r) (h : tT Γ (cmb m1 m2) s σ H Q) : tOp r (tT Γ m1 (fz τ1 x)) (tT (out Γ m1) m2 (fz τ2 y)) σ H Q := by
  obtain ⟨G, os, F, hh, st, k⟩ := h
  refine go_op (tT.two ⟨G, os, F, hh, st, fun v w G' os' H' sm h' af rv rw => ?_⟩)
  exact sp v w G' H' (os' ++ F) [] Q ⟨h', _, .refl _⟩ ⟨rfl, rv⟩ rw fun u G2 o H2 s2 h2 p2 => k u G2 o os' H2 (sm.trans s2) h2 (af.mono s2) p2
theorem tOp_P2 {y : β} (sp : V2 s1 τ2 y s r) (h : tT Γ none s σ H Q) : tOp r (tP Γ s1) (tT Γ none (fz τ2 y)) σ H Q := by
  obtain ⟨G, os, F, hh, st, k⟩ := h
  refine go_op (tP.two ⟨G, os, F, hh, st, fun v w G' H' o rest sm pm h' rv rw => ?_⟩)
  exact sp v w G' H' (os ++ F) o Q ⟨h', rest ++ F, by rw [← List.append_assoc]; exact List.Perm.append_right F pm⟩ rv rw fun u G2 o H2 s2 h2 p2 => k u G2 o os H2 (sm.trans s2) h2 rfl p2
theorem ej_op {op : Operator} {x : α} {y : β} (ho : OpR X (binaryOp op) r) (sp : V2 (fz τ1 x) τ2 y s r) (ha : EJ X a Γ m1 (fz τ1 x)) (hb : EJ X b (out Γ m1) m2 (fz τ2 y)) : EJ X (.BinOp a op b pos) Γ (cmb m1 m2) s :=
  pe_to (pe_op ho ha hb) fun σ H Q h => tOp_V2 sp h
theorem ej_cmp {op : CmpOp} {x : α} {y : β} (ho : OpR X (compareOp op) r) (sp : V2 (fz τ1 x) τ2 y s r) (ha : EJ X a Γ m1 (fz τ1 x)) (hb : EJ X b (out Γ m1) m2 (fz τ2 y)) (hm : behindInMarks op b = false) : EJ X (.Compare a [op] [b] pos) Γ (cmb m1 m2) s :=
  pe_to (pe_cmpR ho ha hb hm) fun σ H Q h => tOp_V2 sp h
theorem ej_ix {x : α} {y : β} (ho : IxR X r) (sp : V2 (fz τ1 x) τ2 y s r) (ha : EJ X a Γ m1 (fz τ1 x)) (hb : EJ X b (out Γ m1) m2 (fz τ2 y)) (hs : PlainIx b) : EJ X (.Subscript a b pos) Γ (cmb m1 m2) s :=
  pe_to (pe_ix ho ha hb hs) fun σ H Q h => tOp_V2 sp h
theorem ej_ixP {y : β} (ho : IxR X r) (sp : V2 s1 τ2 y s r) (ha : PJ X a Γ s1) (hb : EJ X b Γ none (fz τ2 y)) (hs : PlainIx b) : EJ X (.Subscript a b pos) Γ none s :=
  pe_to (pe_ix ho ha hb hs) fun σ H Q h => tOp_P2 sp h
theorem v2_i0 {g : Int → Int → V} {f : Int → Int → γ} {i j : Int} (e : ∀ G, τ3.rep G (g i j) (f i j)) : V2 (fz tInt i) tInt j (fz τ3 (f i j)) (rI0 g) := by
  rintro v w G H os o Q ⟨hh, _⟩ ⟨_, r1⟩ r2 k
  have r1 : v = .int i := r1
  have r2 : w = .int j := r2
  subst r1 r2
  exact go_rI0 (k.fz hh (e G))
theorem v2_i {C : Int → Int → Prop} {g : Int → Int → V} {f : Int → Int → γ} {i j : Int} (c : C i j) (e : ∀ G, τ3.rep G (g i j) (f i j)) : V2 (fz tInt i) tInt j (fz τ3 (f i j)) (rI C g) := by
  rintro v w G H os o Q ⟨hh, _⟩ ⟨_, r1⟩ r2 k
  have r1 : v = .int i := r1
  have r2 : w = .int j := r2
  subst r1 r2
  exact go_rI c (k.fz hh (e G))
section
variable {i j : Int} (ha : EJ X a Γ m1 (fz tInt i)) (hb : EJ X b (out Γ m1) m2 (fz tInt j))
include ha hb
theorem ej_add : EJ X (.BinOp a .Add b pos) Γ (cmb m1 m2) (fz tInt (i + j)) := ej_op op_add (v2_i0 (f := fun i j => i + j) fun _ => rfl) ha hb
theorem ej_sub : EJ X (.BinOp a .Sub b pos) Γ (cmb m1 m2) (fz tInt (i - j)) := ej_op op_sub (v2_i0 (f := fun i j => i - j) fun _ => rfl) ha hb
theorem ej_mul (c : CMul i j) : EJ X (.BinOp a .Mult b pos) Γ (cmb m1 m2) (fz tInt (i * j)) := ej_op op_mul (v2_i (f := fun i j => i * j) c fun _ => rfl) ha hb
theorem ej_mod (c : j ≠ 0) : EJ X (.BinOp a .Mod b pos) Γ (cmb m1 m2) (fz tInt (i.fmod j)) := ej_op op_modN (v2_i (f := fun i j => i.fmod j) c fun _ => rfl) ha hb
theorem ej_div (c : CDivN i j) : EJ X (.BinOp a .FloorDiv b pos) Γ (cmb m1 m2) (fz tInt (i.fdiv j)) := ej_op op_fdivN (v2_i (f := fun i j => i.fdiv j) c fun _ => rfl) ha hb
theorem ej_pow (c : CPow i j) : EJ X (.BinOp a .Pow b pos) Γ (cmb m1 m2) (fz tInt (i ^ j.toNat)) := ej_op op_pow (v2_i (f := fun i j => i ^ j.toNat) c fun _ => rfl) ha hb
theorem ej_lt : EJ X (.Compare a [.Lt] [b] pos) Γ (cmb m1 m2) (fz tBool (decide (i < j))) := ej_cmp op_lt (v2_i0 (f := fun i j => decide (i < j)) fun _ => rfl) ha hb (nomark _)
theorem ej_gt : EJ X (.Compare a [.Gt] [b] pos) Γ (cmb m1 m2) (fz tBool (decide (j < i))) := ej_cmp op_gt (v2_i0 (f := fun i j => decide (j < i)) fun _ => rfl) ha hb (nomark _)
theorem ej_ge : EJ X (.Compare a [.GtE] [b] pos) Γ (cmb m1 m2) (fz tBool (decide (j ≤ i))) := ej_cmp op_ge (v2_i0 (f := fun i j => decide (j ≤ i)) fun _ => rfl) ha hb (nomark _)
end
/-! == of ints, texts, bools -/
class Scl {α : Type} (τ : Ty α) where
  enc : α → V
  inj : ∀ x y, enc x = enc y → x = y
  is : ∀ G v x, τ.rep G v x → v = enc x
  sc : ∀ x y, scal (enc x) (enc y) = true
instance : Scl tInt := ⟨V.int, fun _ _ h => V.int.inj h, fun _ _ _ h => h, fun _ _ => rfl⟩
instance : Scl tStr := ⟨V.str, fun _ _ h => V.str.inj h, fun _ _ _ h => h, fun _ _ => rfl⟩
instance : Scl tBool := ⟨V.bl, fun _ _ h => V.bl.inj h, fun _ _ _ h => h, fun _ _ => rfl⟩
theorem v2_eq [Scl τ] [DecidableEq α] {x y : α} : V2 (fz τ x) τ y (fz tBool (decide (x = y))) rEq := by
  rintro v w G H os o Q ⟨hh, _⟩ ⟨_, r1⟩ r2 k
  have r1 := Scl.is _ _ _ r1
  have r2 := Scl.is _ _ _ r2
  subst r1 r2
  refine ⟨Scl.sc x y, ?_⟩
  have e : decide (Scl.enc τ x = Scl.enc τ y) = decide (x = y) := by
    by_cases h : x = y
    · subst h; rw [decide_eq_true rfl, decide_eq_true rfl]
    · rw [decide_eq_false h, decide_eq_false (fun z => h (Scl.inj _ _ z))]
  rw [e]
  exact k.fz hh rfl
theorem v2_ne [Scl τ] [DecidableEq α] {x y : α} : V2 (fz τ x) τ y (fz tBool (!decide (x = y))) rNe := by
  rintro v w G H os o Q ⟨hh, _⟩ ⟨_, r1⟩ r2 k
  have r1 := Scl.is _ _ _ r1
  have r2 := Scl.is _ _ _ r2
  subst r1 r2
  refine ⟨Scl.sc x y, ?_⟩
  have e : decide (Scl.enc τ x = Scl.enc τ y) = decide (x = y) := by
    by_cases h : x = y
    · subst h; rw [decide_eq_true rfl, decide_eq_true rfl]
    · rw [decide_eq_false h, decide_eq_false (fun z => h (Scl.inj _ _ z))]
  rw [e]
  exact k.fz hh rfl
theorem ej_eq [Scl τ] [DecidableEq α] {x y : α} (ha : EJ X a Γ m1 (fz τ x)) (hb : EJ X b (out Γ m1) m2 (fz τ y)) : EJ X (.Compare a [.Eq] [b] pos) Γ (cmb m1 m2) (fz tBool (decide (x = y))) := ej_cmp op_eq v2_eq ha hb (nomark _)
theorem ej_ne [Scl τ] [DecidableEq α] {x y : α} (ha : EJ X a Γ m1 (fz τ x)) (hb : EJ X b (out Γ m1) m2 (fz τ y)) : EJ X (.Compare a [.NotEq] [b] pos) Γ (cmb m1 m2) (fz tBool (!decide (x = y))) := ej_cmp op_ne v2_ne ha hb (nomark _)
/-! tests -/
theorem tj_val {t : Bool} (h : EJ X e Γ m (fz tBool t)) (he : ∀ whole, isTrue e X.env whole = (do let v ← whole; standAt e.pos; holding [v] (truthy v)) := by intro _; rfl) : TJ X e Γ m t :=
  pt_to (pt_val h he) fun σ H Q ⟨G, os, F, hh, st, k⟩ => go_tb (tT.one ⟨G, os, F, hh, st, fun v G' os' H' sm h' af (r : v = .bl t) => ⟨t, r, k G' os' H' sm h' af⟩⟩)
abbrev WJ (X : Cx) (e : Expr) (Γ : Ct) (m : Option Ct) (b : Bool) : Prop := PW X e (tB Γ m b)
theorem tj_w {t : Bool} (h : WJ X e Γ m t) : TJ X e Γ m t := h.pt
/-- a and b: what is known of the outcome t by the outcome of a -/
theorem wj_and {ta t : Bool} (ha : TJ X a Γ none ta) (hb : ta = true → WJ X (.BoolOp .And (b :: es) pos) Γ none t) (hf : ta = false → t = false) : WJ X (.BoolOp .And (a :: b :: es) pos) Γ none t := by
  cases ta with
  | true => exact pw_to (pw_and ha (hb rfl)) fun σ H Q ⟨G, os, F, hh, st, k⟩ => go_and ⟨G, os, F, hh, st, fun G' os' H' sm h' af => by
      have af : os' = os := af
      subst af
      exact ⟨G', os', F, h', st.mono sm, fun G2 os2 H2 s2 h2 af2 => k G2 os2 H2 (sm.trans s2) h2 af2⟩⟩
  | false =>
    have e := hf rfl
    subst e
    refine ⟨fun wh pins s σ H Q I h => ?_⟩
    refine isTrue_and (thn (ha.run pins s σ H (fun c H1 => c = false ∧ Q false H1) I ?_) fun c s1 ⟨H1, I1, e, q1⟩ => ?_)
    · obtain ⟨G, os, F, hh, st, k⟩ := h
      exact ⟨G, os, F, hh, st, fun G' os' H' sm h' af => ⟨rfl, k G' os' H' sm h' af⟩⟩
    · subst e
      exact ⟨H1, I1, q1⟩
theorem wj_and1 {t : Bool} (ha : TJ X a Γ m t) : WJ X (.BoolOp .And [a] pos) Γ m t := pw_and1 ha
theorem wj_or {ta t : Bool} (ha : TJ X a Γ none ta) (hb : ta = false → WJ X (.BoolOp .Or (b :: es) pos) Γ none t) (hf : ta = true → t = true) : WJ X (.BoolOp .Or (a :: b :: es) pos) Γ none t := by
  cases ta with
  | false => exact pw_to (pw_or ha (hb rfl)) fun σ H Q ⟨G, os, F, hh, st, k⟩ => go_or ⟨G, os, F, hh, st, fun G' os' H' sm h' af => by
      have af : os' = os := af
      subst af
      exact ⟨G', os', F, h', st.mono sm, fun G2 os2 H2 s2 h2 af2 => k G2 os2 H2 (sm.trans s2) h2 af2⟩⟩
  | true =>
    have e := hf rfl
    subst e
    refine ⟨fun wh pins s σ H Q I h => ?_⟩
    refine isTrue_or (thn (ha.run pins s σ H (fun c H1 => c = true ∧ Q true H1) I ?_) fun c s1 ⟨H1, I1, e, q1⟩ => ?_)
    · obtain ⟨G, os, F, hh, st, k⟩ := h
      exact ⟨G, os, F, hh, st, fun G' os' H' sm h' af => ⟨rfl, k G' os' H' sm h' af⟩⟩
    · subst e
      exact ⟨H1, I1, q1⟩
theorem wj_or1 {t : Bool} (ha : TJ X a Γ m t) : WJ X (.BoolOp .Or [a] pos) Γ m t := pw_or1 ha
end
end Sl

set_option Elab.async false
set_option linter.all false
set_option maxRecDepth 100000
namespace Sl
open PySem PySem.Spec PyProof.Rows L2 Dl
/-! ### one of many readings -/
section
variable {X : Cx} {ι : Type}
theorem pe_ex {e : Expr} {T : TE → Prop} (h : ∀ t, T t → PE X e t) : PE X e (fun σ H Q => ∃ t, T t ∧ t σ H Q) := ⟨fun pins s σ H Q I ⟨t, ht, q⟩ => (h t ht).run pins s σ H Q I q⟩
theorem pts_ex {e : List Expr} {T : TT → Prop} (h : ∀ t, T t → PTs X e t) : PTs X e (fun σ H Q => ∃ t, T t ∧ t σ H Q) := ⟨fun pins s σ H Q I ⟨t, ht, q⟩ => (h t ht).run pins s σ H Q I q⟩
theorem pt_ex {e : Expr} {T : TT → Prop} (h : ∀ t, T t → PT X e t) : PT X e (fun σ H Q => ∃ t, T t ∧ t σ H Q) := ⟨fun pins s σ H Q I ⟨t, ht, q⟩ => (h t ht).run pins s σ H Q I q⟩
theorem pg_ex {e : Expr} {T : TG → Prop} (h : ∀ t, T t → PG X e t) : PG X e (fun v σ H Q => ∃ t, T t ∧ t v σ H Q) := ⟨fun pins s σ H v u Q I r ⟨t, ht, q⟩ => (h t ht).run pins s σ H v u Q I r q⟩
theorem pss_ex {e : List Stmt} {T : TS → Prop} (h : ∀ t, T t → PSs X e t) : PSs X e (fun D σ H => ∃ t, T t ∧ t D σ H) := ⟨fun pins s σ H D I ⟨t, ht, q⟩ => (h t ht).run pins s σ H D I q⟩
theorem pg_to {e : Expr} {t t' : TG} (h : PG X e t) (w : ∀ v σ H Q, t' v σ H Q → t v σ H Q) : PG X e t' := ⟨fun pins s σ H v u Q I r q => h.run pins s σ H v u Q I r (w v σ H Q q)⟩
theorem pgs_to {e : List Expr} {t t' : TGs} (h : PGs X e t) (w : ∀ v σ H Q, t' v σ H Q → t v σ H Q) : PGs X e t' := ⟨fun pins s σ H v u Q I r q => h.run pins s σ H v u Q I r (w v σ H Q q)⟩
theorem pi_to {tg e : Expr} {t t' : TI} (h : PI X tg e t) (w : ∀ σ H Q, t' σ H Q → t σ H Q) : PI X tg e t' := ⟨fun pins s σ H Q I q => h.run pins s σ H Q I (w σ H Q q)⟩
end
/-! ### targets -/
theorem wipe_get : ∀ {vs : List Nat} {σ σ' : L2.St} {j : Nat}, wipe σ' vs = wipe σ vs → j ∉ vs → σ'[j]? = σ[j]?
  | [], σ, σ', _, e, _ => by
    have e : σ' = σ := e
    rw [e]
  | v :: vs, σ, σ', j, e, hj => by
    have hv : v ≠ j := fun z => hj (by simp [z])
    have key : ∀ s : L2.St, (wipe s (v :: vs))[j]? = (wipe s vs)[j]? := fun s => by
      show ((wipe s vs).set v none)[j]? = _
      rw [List.getElem?_set_ne hv]
    have k2 : ∀ (vs : List Nat) (s : L2.St), j ∉ vs → (wipe s vs)[j]? = s[j]? := by
      intro vs
      induction vs with
      | nil => intro s _; rfl
      | cons w ws ih =>
        intro s hn
        show ((wipe s ws).set w none)[j]? = _
        rw [List.getElem?_set_ne (fun z => hn (by simp [z])), ih s (fun z => hn (by simp [z]))]
    have hj2 : j ∉ vs := fun z => hj (by simp [z])
    rw [← k2 vs σ' hj2, ← k2 vs σ hj2, ← key σ', ← key σ, e]
theorem wipe_app : ∀ (us vs : List Nat) (σ : L2.St), wipe σ (us ++ vs) = wipe (wipe σ vs) us
  | [], _, _ => rfl
  | u :: us, vs, σ => by show (wipe σ (us ++ vs)).set u none = _; rw [wipe_app us vs]; rfl
theorem wipe_set : ∀ (vs : List Nat) (σ : L2.St) (i : Nat), wipe (σ.set i none) vs = (wipe σ vs).set i none
  | [], _, _ => rfl
  | v :: vs, σ, i => by
    show (wipe (σ.set i none) vs).set v none = ((wipe σ vs).set v none).set i none
    rw [wipe_set vs]
    by_cases e : i = v
    · subst e; rfl
    · exact List.set_comm _ _ e
theorem wipe_comm : ∀ (us vs : List Nat) (σ : L2.St), wipe (wipe σ us) vs = wipe (wipe σ vs) us
  | [], _, _ => rfl
  | u :: us, vs, σ => by
    show wipe ((wipe σ us).set u none) vs = (wipe (wipe σ vs) us).set u none
    rw [wipe_set, wipe_comm us vs]
/-- a target's names vs are set -/
def tG (vs : List Nat) (Γ Γ' : Ct) (s : Sh) : TG := fun v σ H R => ∃ G o os F, HH G (o ++ (os ++ F)) H ∧ StA Γ σ G os ∧ s.p G o v ∧ ∀ σ' os', wipe σ' vs = wipe σ vs → HH G (os' ++ F) H → StA Γ' σ' G os' → R σ' H
def tGs (vs : List Nat) (Γ Γ' : Ct) (ss : List Sh) : TGs := fun us σ H R => ∃ G os F, HH G (os ++ F) H ∧ StA Γ σ G os ∧ Shs ss G [] us ∧ ∀ σ' os', wipe σ' vs = wipe σ vs → HH G (os' ++ F) H → StA Γ' σ' G os' → R σ' H
abbrev GJ (X : Cx) (e : Expr) (vs : List Nat) (Γ Γ' : Ct) (s : Sh) : Prop := PG X e (tG vs Γ Γ' s)
abbrev GsJ (X : Cx) (e : List Expr) (vs : List Nat) (Γ Γ' : Ct) (ss : List Sh) : Prop := PGs X e (tGs vs Γ Γ' ss)
theorem app_nil2 {α : Type} {a b : List α} (h : [] = a ++ b) : a = [] ∧ b = [] := by
  cases a with
  | nil => exact ⟨rfl, h.symm⟩
  | cons _ _ => cases h
theorem StA.len : ∀ {Γ : Ct} {σ : L2.St} {G : Hp} {os : Ow}, StA Γ σ G os → σ.length = Γ.length
  | [], _, _, _, h => by rw [h.1]; rfl
  | none :: Γ, _ :: σ, _, _, h => by simp [StA.len (Γ := Γ) h]
  | some s :: Γ, _ :: σ, _, _, ⟨_, _, _, _, _, _, h⟩ => by simp [StA.len h]
section
variable {X : Cx} {Γ Γ' Γ1 Γ2 : Ct} {m m1 m2 : Option Ct} {α β γ δ κ : Type} {τ τ1 : Ty α} {τ2 : Ty β} {τ3 : Ty γ} {s s1 s2 : Sh} {pos p : Pos} {a b e : Expr} {es : List Expr} {us vs : List Nat}
theorem gj_name {i : Nat} {x : Str} (hN : X.N.Nodup) (hi : X.N[i]? = some x) (hx : Loc X.env.scope x) (hl : (decide (i < Γ.length)) = true := by rfl) (hf : X.fn x = true ∨ X.env.scope.names.lookup x = some .local := by first | exact .inl rfl | exact .inr rfl | assumption) : GJ X (.Name x p) [i] Γ (Γ.set i (some s)) s :=
  pg_to (pg_name hN hi hx hf) fun v σ H R ⟨G, o, os, F, hh, st, ps, k⟩ => go_gname (by
    obtain ⟨dead, os', pm, st'⟩ := st.set ps (of_decide_eq_true hl)
    refine k _ os' ?_ (HH.drops (d := dead) (hh.perm ?_)) st'
    · show (σ.set i (some v)).set i none = σ.set i none
      rw [List.set_set]
    · rw [← List.append_assoc, ← List.append_assoc]
      exact List.Perm.append_right F pm)
theorem gs_nil : GsJ X [] [] Γ Γ [] := pgs_to pgs_nil fun v σ H R ⟨G, os, F, hh, st, ⟨e, _⟩, k⟩ => by
  subst e
  exact go_gnil (k σ os rfl hh st)
theorem gs_cons {ss : List Sh} (h1 : GJ X e us Γ Γ1 s) (h2 : GsJ X es vs Γ1 Γ2 ss) (hs : (assignEach (e :: es) X.env).map (·.2) = assign e X.env :: (assignEach es X.env).map (·.2) := by rfl) : GsJ X (e :: es) (us ++ vs) Γ Γ2 (s :: ss) :=
  pgs_to (pgs_cons h1 h2 hs) fun xs σ H R ⟨G, os, F, hh, st, ⟨v, vr, o1, o2, e1, e2, p1, p2⟩, k⟩ => by
    obtain ⟨e3, e4⟩ := app_nil2 e2
    subst e1 e3 e4
    refine go_gcons ⟨G, [], os, F, hh, st, p1, fun σ1 os1 w1 hh1 st1 => ⟨G, os1, F, hh1, st1, p2, fun σ2 os2 w2 hh2 st2 => k σ2 os2 ?_ hh2 st2⟩⟩
    rw [wipe_app, wipe_app, w2, wipe_comm, w1, wipe_comm]
theorem gj_tup {k n : Nat} {ss : List Sh} (hc : X.calm = true) (h : GsJ X es vs Γ Γ' ss) (hx : ∀ (G H : Hp) (os o : Ow) (v : V), HH G os H → s.p G o v → o = [] ∧ ∃ a xs, v = .ref a ∧ SqT X.K H a xs ∧ xs.length = n ∧ Shs ss G [] xs)
    (hn : (assignEach es X.env).length = n := by rfl) (hst : (assignEach es X.env).findIdx? (·.1) = none := by rfl) : GJ X (.Tuple es k pos) vs Γ Γ' s :=
  pg_to (pg_tup hc h hn hst) fun v σ H R ⟨G, o, os, F, hh, st, ps, k⟩ => by
    obtain ⟨eo, a, xs, ev, hq, hl, hp⟩ := hx G H _ o v hh ps
    subst eo ev
    exact ⟨a, xs, rfl, hq, hl, G, os, F, hh, st, hp, k⟩
theorem Shs.mk2 {x : α} {y : β} {G : Hp} {v1 v2 : V} (r1 : τ1.rep G v1 x) (r2 : τ2.rep G v2 y) : Shs [fz τ1 x, fz τ2 y] G [] [v1, v2] := ⟨v1, [v2], [], [], rfl, rfl, ⟨rfl, r1⟩, v2, [], [], [], rfl, rfl, ⟨rfl, r2⟩, rfl, rfl⟩
theorem Shs.mk3 {x : α} {y : β} {z : γ} {G : Hp} {v1 v2 v3 : V} (r1 : τ1.rep G v1 x) (r2 : τ2.rep G v2 y) (r3 : τ3.rep G v3 z) : Shs [fz τ1 x, fz τ2 y, fz τ3 z] G [] [v1, v2, v3] := ⟨v1, [v2, v3], [], [], rfl, rfl, ⟨rfl, r1⟩, v2, [v3], [], [], rfl, rfl, ⟨rfl, r2⟩, v3, [], [], [], rfl, rfl, ⟨rfl, r3⟩, rfl, rfl⟩
theorem gj_p2 {k : Nat} {x : α × β} (hc : X.calm = true) (h : GsJ X [a, b] vs Γ Γ' [fz τ1 x.1, fz τ2 x.2]) (hst : (assignEach [a, b] X.env).findIdx? (·.1) = none := by rfl) (hn : (assignEach [a, b] X.env).length = 2 := by rfl) : GJ X (.Tuple [a, b] k pos) vs Γ Γ' (fz (tP2 τ1 τ2) x) :=
  gj_tup hc h (fun G H os o v hh ⟨e, c, v1, v2, ev, g, r1, r2⟩ => ⟨e, c, [v1, v2], ev, SqT.of (hh.tup g), rfl, Shs.mk2 r1 r2⟩) hn hst
theorem gj_p3 {c : Expr} {k : Nat} {x : α × β × γ} (hc : X.calm = true) (h : GsJ X [a, b, c] vs Γ Γ' [fz τ1 x.1, fz τ2 x.2.1, fz τ3 x.2.2]) (hst : (assignEach [a, b, c] X.env).findIdx? (·.1) = none := by rfl) (hn : (assignEach [a, b, c] X.env).length = 3 := by rfl) : GJ X (.Tuple [a, b, c] k pos) vs Γ Γ' (fz (tP3 τ1 τ2 τ3) x) :=
  gj_tup hc h (fun G H os o v hh ⟨e, c, v1, v2, v3, ev, g, r1, r2, r3⟩ => ⟨e, c, [v1, v2, v3], ev, SqT.of (hh.tup g), rfl, Shs.mk3 r1 r2 r3⟩) hn hst
end
/-! ### what is walked -/
/-- J gives the items one by one, while what never changes stands -/
def Wk {β : Type} (J : It) (G : Hp) (items : List β) (sh : β → Sh) : Prop := ∀ G' os H', Same G G' → HH G' os H' → J.stop items.length H' ∧ ∀ i y, items[i]? = some y → J.go i H' ∧ ∀ x H3, J.yld i H' x H3 → ∃ G3, Same G' G3 ∧ HH G3 os H3 ∧ (sh y).p G3 [] x
/-- .. while what stands in F stands there -/
def WkF {β : Type} (F : Ow) (J : It) (G : Hp) (items : List β) (sh : β → Sh) : Prop := ∀ G' os H', Same G G' → HH G' os H' → (∀ c ∈ F, c ∈ os) → J.stop items.length H' ∧ ∀ i y, items[i]? = some y → J.go i H' ∧ ∀ x H3, J.yld i H' x H3 → ∃ G3, Same G' G3 ∧ HH G3 os H3 ∧ (sh y).p G3 [] x
theorem Wk.toF {β : Type} {J : It} {G : Hp} {items : List β} {sh : β → Sh} {F : Ow} (w : Wk J G items sh) : WkF F J G items sh := fun G' os H' s h _ => w G' os H' s h
theorem WkF.mono {β : Type} {J : It} {G G1 : Hp} {items : List β} {sh : β → Sh} {F : Ow} (sm : Same G G1) (w : WkF F J G items sh) : WkF F J G1 items sh := fun G' os H' s h hc => w G' os H' (sm.trans s) h hc
theorem in_fr {x : Addr × HO} {a F : Ow} : ∀ c ∈ F, c ∈ x :: (a ++ F) := fun c hc => List.mem_cons_of_mem _ (List.mem_append_right _ hc)
theorem Wk.mono {β : Type} {J : It} {G G1 : Hp} {items : List β} {sh : β → Sh} (sm : Same G G1) (w : Wk J G items sh) : Wk J G1 items sh := fun G' os H' s h => w G' os H' (sm.trans s) h
def tI {β : Type} (Γ : Ct) (m : Option Ct) (items : List β) (sh : β → Sh) : TI := fun σ H R => ∃ G os F, HH G (os ++ F) H ∧ StA Γ σ G os ∧ ∀ J G' os' H', Same G G' → HH G' (os' ++ F) H' → Aft m σ G' os os' → Wk J G' items sh → R J H'
abbrev IJ {β : Type} (X : Cx) (tg e : Expr) (Γ : Ct) (m : Option Ct) (items : List β) (sh : β → Sh) : Prop := PI X tg e (tI Γ m items sh)
/-- lo, lo + 1, .. -/
def rng (lo : Int) : Nat → List Int
  | 0 => []
  | n + 1 => lo :: rng (lo + 1) n
theorem rng_get : ∀ {n : Nat} {lo : Int} {i : Nat} {y : Int}, (rng lo n)[i]? = some y → i < n ∧ y = lo + i
  | 0, _, _, _, h => by simp [rng] at h
  | n + 1, lo, 0, y, h => by simp [rng] at h; exact ⟨by omega, by omega⟩
  | n + 1, lo, i + 1, y, h => by
    have := rng_get (n := n) (lo := lo + 1) (i := i) (y := y) (by simpa [rng] using h)
    exact ⟨by omega, by omega⟩
theorem rng_len : ∀ (n : Nat) (lo : Int), (rng lo n).length = n
  | 0, _ => rfl
  | n + 1, lo => by rw [rng, List.length_cons, rng_len n]
def range1 (j : Int) : List Int := rng 0 j.toNat
def range2 (i j : Int) : List Int := rng i (j - i).toNat
theorem wk_rng {G : Hp} {lo : Int} {n : Nat} : Wk (Itr lo n) G (rng lo n) (fz tInt) := fun G' os H' s h => by
  rw [rng_len]
  refine ⟨Nat.le_refl n, fun i y hy => ?_⟩
  obtain ⟨h1, h2⟩ := rng_get hy
  exact ⟨h1, fun x H3 ⟨e1, e2⟩ => ⟨G', Same.refl _, by subst e1; exact h, rfl, by subst h2; exact e2⟩⟩
theorem wk_lst {α : Type} {τ : Ty α} {K : PySem.W.Frag} {G : Hp} {a : Addr} {vs : List V} {xs : List α} (e : G a = some (.lst vs)) (r : Paired (τ.rep G) vs xs) : Wk (Itl K a) G xs (fz τ) := fun G' os H' s h => by
  have e' : H' a = some (.lst vs) := h.lst (s _ _ e)
  refine ⟨⟨vs, SqL.of e', Nat.le_of_eq (pr_len r)⟩, fun i y hy => ?_⟩
  obtain ⟨v, hv, rv⟩ := pr_get2 r hy
  exact ⟨⟨vs, v, SqL.of e', hv⟩, fun x H3 ⟨e1, e2⟩ => ⟨G', Same.refl _, by subst e1; exact h, rfl, by
    have := e2 vs (SqL.of e')
    rw [hv] at this
    cases this
    exact τ.mono s rv⟩⟩
section
variable {X : Cx} {Γ Γ' Γ1 Γ2 : Ct} {m m1 m2 : Option Ct} {α β γ δ κ : Type} {τ τ1 : Ty α} {τ2 : Ty β} {τ3 : Ty γ} {s s1 s2 : Sh} {pos p : Pos} {a b e tg : Expr} {es : List Expr} {us vs : List Nat}
theorem ij_lst {xs : List α} (h : EJ X e Γ m (fz (tList τ) xs)) : IJ X tg e Γ m xs (fz τ) := pi_to (pi_list h) fun σ H R ⟨G, os, F, hh, st, k⟩ => go_ilist (tT.one ⟨G, os, F, hh, st, fun v G' os' H' sm h' af ⟨a, vs, e, g, r⟩ =>
  ⟨a, e, ⟨vs, SqL.of (h'.lst g)⟩, k _ G' os' H' sm h' af (wk_lst g r)⟩⟩)
theorem ij_rg1 {j : Int} (hg : Gl X "range") (hm : X.mg "range" = none) (h : AJ X [e] Γ m [.val (fz tInt j)]) (hj : -1000000000 ≤ j ∧ j ≤ 1000000000) (hs : starEach [e] X.env = [(false, eval e X.env)] := by rfl) : IJ X tg (.Call (.Name "range" p) [e] [] pos) Γ m (range1 j) (fz tInt) :=
  pi_to (pi_range1 hg hm h hs) fun σ H R ⟨G, os, F, hh, st, k⟩ => go_rg1 ⟨G, os, F, hh, st, fun ws G' o os' H' sm h' af ⟨v, vr, o1, o2, e1, e2, ⟨e3, r⟩, e4, e5⟩ => by
    subst e1 e3 e4 e5 e2
    have r : v = .int j := r
    subst r
    exact go_rgk hj.1 hj.2 (k _ G' os' H' sm h' af wk_rng)⟩
end
end Sl

set_option Elab.async false
set_option linter.all false
set_option maxRecDepth 100000
namespace Sl
open PySem PySem.Spec PyProof.Rows L2 Dl
/-! ### statements -/
abbrev Pn := List (Nat × V)
def PinA (P : Pn) (σ : L2.St) : Prop := ∀ p ∈ P, σ[p.1]? = some (some p.2)
/-- what X takes of an exception, at these slots -/
def WkX (X : Cx) : L2.WX := fun cls d σ H => ∀ u s', L2.XE X (fun c' d' σ' H' => c' = cls ∧ d' = d ∧ σ' = σ ∧ H' = H) u s' → X.xe u s'
theorem takes_wk {X : Cx} : L2.Takes X (WkX X) := fun u s' ⟨a, B, sI, pins, σ, H, cls, d, e, I, nb, up, sky, na, os, ag, w⟩ => w u s' ⟨a, B, sI, pins, σ, H, cls, d, e, I, nb, up, sky, na, os, ag, rfl, rfl, rfl, rfl⟩
theorem wk_of {X : Cx} {W : L2.WX} (t : L2.Takes X W) {cls : Value} {d : Option Addr} {σ : L2.St} {H : Hp} (w : W cls d σ H) : WkX X cls d σ H := fun u s' ⟨a, B, sI, pins, σ', H', cls', d', e, I, nb, up, sky, na, os, ag, e1, e2, e3, e4⟩ => by
  subst e1 e2 e3 e4
  exact t u s' ⟨a, B, sI, pins, _, _, _, _, e, I, nb, up, sky, na, os, ag, w⟩
structure Po where
  nx : L2.St → Hp → Ow → Prop
  rt : V → Hp → Ow → Prop
  ct : L2.St → Hp → Ow → Prop
  xr : Value → Option Addr → L2.St → Hp → Ow → Prop := fun _ _ _ _ _ => False
def tS (X : Cx) (P : Pn) (Γ : Ct) (R : Po) : TS := fun D σ H => ∃ G os F, HH G (os ++ F) H ∧ StA Γ σ G os ∧ PinA P σ ∧
  (∀ σ' G' os' H', Same G G' → HH G' (os' ++ F) H' → PinA P σ' → R.nx σ' G' os' → D.nx σ' H') ∧
  (∀ v G' o H', Same G G' → HH G' (o ++ F) H' → R.rt v G' o → D.rt v H') ∧
  (∀ σ' G' os' H', Same G G' → HH G' (os' ++ F) H' → PinA P σ' → (R.ct σ' G' os' → D.ct σ' H') ∧ ∀ cls d, R.xr cls d σ' G' os' → WkX X cls d σ' H')
abbrev SJ (X : Cx) (P : Pn) (st : List Stmt) (Γ : Ct) (R : Po) : Prop := PSs X st (tS X P Γ R)
abbrev Po.to (R : Po) (Γm : Ct) : Po := { R with nx := fun σ G os => StA Γm σ G os }
abbrev Po.cut (R : Po) : Po := { R with nx := fun _ _ _ => False }
/-- how a block ends -/
inductive Oc (ρ S : Type) where
  | ret (r : ρ)
  | nx (s : S)
def retOf {ρ S : Type} : Oc ρ S → Option ρ
  | .ret r => some r
  | .nx _ => none
theorem retOf_eq {ρ S : Type} {o : Oc ρ S} {r : ρ} (h : retOf o = some r) : o = .ret r := by
  cases o with
  | ret x => cases h; rfl
  | nx x => cases h
/-- the lent parameters and the answer -/
def rtO (rs : Sh) (ls : List Sh) (P : Pn) : V → Hp → Ow → Prop := fun v G o => ∃ o1 o2, o = o1 ++ o2 ∧ rs.p G o1 v ∧ Shs ls G o2 (P.map Prod.snd)
/-- a def: rs out is the answer, ls out the lent parameters -/
def PoF {ρ : Type} (rs : ρ → Sh) (ls : ρ → List Sh) (P : Pn) (y : ρ) : Po where
  nx := fun σ G os => ∃ dead o, os.Perm (dead ++ o) ∧ rtO (rs y) (ls y) P .non G o
  rt := rtO (rs y) (ls y) P
  ct := fun _ _ _ => False
/-- a block within a def -/
def PoO {ρ S : Type} (rs : ρ → Sh) (ls : ρ → List Sh) (P : Pn) (Γs : S → Ct) (o : Oc ρ S) : Po where
  nx := fun σ G os => ∃ s, o = .nx s ∧ StA (Γs s) σ G os
  rt := fun v G ow => ∃ r, retOf o = some r ∧ rtO (rs r) (ls r) P v G ow
  ct := fun _ _ _ => False
section
variable {X : Cx} {P : Pn} {Γ Γ' Γ1 Γ2 Γm : Ct} {m m1 m2 : Option Ct} {α β γ δ κ ρ S : Type} {τ τ1 : Ty α} {τ2 : Ty β} {τ3 : Ty γ} {s s1 s2 : Sh} {pos p : Pos} {a b e tg : Expr} {es : List Expr} {us vs : List Nat} {st : Stmt} {rest thn els body : List Stmt} {R R' : Po} {rs : ρ → Sh} {ls : ρ → List Sh} {y : ρ}
theorem PinA.wipe {σ σ' : L2.St} {vs : List Nat} (h : PinA P σ) (w : L2.wipe σ' vs = L2.wipe σ vs) (d : (P.all fun p => decide (p.1 ∉ vs)) = true) : PinA P σ' := fun p hp => by
  rw [wipe_get w (of_decide_eq_true (List.all_eq_true.mp d p hp))]
  exact h p hp
theorem perm_mid (o os F : Ow) : (o ++ (os ++ F)).Perm (os ++ (o ++ F)) := by
  rw [← List.append_assoc, ← List.append_assoc]
  exact List.Perm.append_right F List.perm_append_comm
/-- the end of a block -/
theorem sj_nil (h : ∀ σ G os, StA Γ σ G os → PinA P σ → R.nx σ G os) : SJ X P [] Γ R := pss_to pss_nil fun D σ H ⟨G, os, F, hh, st, pn, k1, k2, k3⟩ => k1 σ G os H (Same.refl _) hh pn (h σ G os st pn)
theorem sj_end {Γs : S → Ct} {x : S} {fl : List Bool} (hl : fl.length = Γ.length) (e : mask fl Γ = Γs x) : SJ X P [] Γ (PoO rs ls P Γs (.nx x)) := pss_to pss_nil fun D σ H ⟨G, os, F, hh, st, pn, k1, k2, k3⟩ => by
  obtain ⟨os', h', st'⟩ := HH.masked hh st hl
  rw [e] at st'
  exact k1 σ G os' H (Same.refl _) h' pn ⟨x, rfl, st'⟩
/-- the end of a branch that comes together with others at Γm -/
theorem sj_join {fl : List Bool} (hl : fl.length = Γ.length) (e : mask fl Γ = Γm) (hR : ∀ σ G os, StA Γm σ G os → R.nx σ G os) : SJ X P [] Γ R := pss_to pss_nil fun D σ H ⟨G, os, F, hh, st, pn, k1, k2, k3⟩ => by
  obtain ⟨os', h', st'⟩ := HH.masked hh st hl
  rw [e] at st'
  exact k1 σ G os' H (Same.refl _) h' pn (hR _ _ _ st')
/-- target = value -/
theorem sj_asg {vs : List Nat} (he : EJ X e Γ m s) (hg : GJ X tg vs (out Γ m) Γ2 s) (hr : SJ X P rest Γ2 R) (d : (P.all fun p => decide (p.1 ∉ vs)) = true := by rfl)
    (hs : swapsWithSole [tg] e pos.line X.env = pure false := by rfl) (hw : swappedStores [tg] e X.env = pure none := by rfl) (h1 : (assignEach [tg] X.env).map (·.2) = [assign tg X.env] := by rfl) : SJ X P (.Assign [tg] e pos :: rest) Γ R :=
  pss_to (pss_cons (ps_asg he hg hs hw h1) hr) fun D σ H ⟨G, os, F, hh, st, pn, k1, k2, k3⟩ => go_seq (go_asg ⟨G, os, F, hh, st, fun v G' o os' H' sm h' af ps =>
    ⟨G', o, os', F, h', af.st st sm, ps, fun σ' os2 w h2 st2 => ⟨G', os2, F, h2, st2, pn.wipe w d, fun σ3 G3 os3 H3 sm3 => k1 σ3 G3 os3 H3 (sm.trans sm3), fun v G3 o H3 sm3 => k2 v G3 o H3 (sm.trans sm3), fun σ3 G3 os3 H3 sm3 => k3 σ3 G3 os3 H3 (sm.trans sm3)⟩⟩⟩)
/-- name = value (the form of one name) -/
theorem sj_set {i : Nat} {x : Str} {pos' : Pos} (hN : X.N.Nodup) (hi : X.N[i]? = some x) (hx : Loc X.env.scope x) (he : EJ X e Γ m s) (hr : SJ X P rest ((out Γ m).set i (some s)) R) (d : (P.all fun p => decide (p.1 ∉ [i])) = true := by rfl) (hl : (decide (i < (out Γ m).length)) = true := by rfl)
    (hs : swapsWith e (some (.Name x pos')) pos.line X.env = pure false := by rfl) (hf : X.fn x = true ∨ X.env.scope.names.lookup x = some .local := by first | exact .inl rfl | exact .inr rfl | assumption) : SJ X P (.Assign [.Name x pos'] e pos :: rest) Γ R :=
  pss_to (pss_cons (ps_set hN hi hx he hs hf) hr) fun D σ H ⟨G, os, F, hh, st, pn, k1, k2, k3⟩ => go_seq (go_asg ⟨G, os, F, hh, st, fun v G' o os' H' sm h' af ps => go_gname (by
    obtain ⟨dead, os2, pm, st2⟩ := (af.st st sm).set ps (of_decide_eq_true hl)
    refine ⟨G', os2, F, HH.drops (d := dead) (h'.perm ?_), st2, PinA.wipe pn (vs := [i]) ?_ d, fun σ3 G3 os3 H3 sm3 => k1 σ3 G3 os3 H3 (sm.trans sm3), fun v G3 o H3 sm3 => k2 v G3 o H3 (sm.trans sm3), fun σ3 G3 os3 H3 sm3 => k3 σ3 G3 os3 H3 (sm.trans sm3)⟩
    · rw [← List.append_assoc, ← List.append_assoc]
      exact List.Perm.append_right F pm
    · show (σ.set i (some v)).set i none = σ.set i none
      rw [List.set_set])⟩)
/-- name = [..] -/
theorem sj_setLc {i : Nat} {x : Str} {pos' : Pos} (h : PS X (.Assign [.Name x pos'] e pos) (tAsg (tT Γ m s) (gName i)))
    (hr : SJ X P rest ((out Γ m).set i (some s)) R) (d : (P.all fun p => decide (p.1 ∉ [i])) = true := by rfl) (hl : (decide (i < (out Γ m).length)) = true := by rfl) : SJ X P (.Assign [.Name x pos'] e pos :: rest) Γ R :=
  pss_to (pss_cons h hr) fun D σ H ⟨G, os, F, hh, st, pn, k1, k2, k3⟩ => go_seq (go_asg ⟨G, os, F, hh, st, fun v G' o os' H' sm h' af ps => go_gname (by
    obtain ⟨dead, os2, pm, st2⟩ := (af.st st sm).set ps (of_decide_eq_true hl)
    refine ⟨G', os2, F, HH.drops (d := dead) (h'.perm ?_), st2, PinA.wipe pn (vs := [i]) ?_ d, fun σ3 G3 os3 H3 sm3 => k1 σ3 G3 os3 H3 (sm.trans sm3), fun v G3 o H3 sm3 => k2 v G3 o H3 (sm.trans sm3), fun σ3 G3 os3 H3 sm3 => k3 σ3 G3 os3 H3 (sm.trans sm3)⟩
    · rw [← List.append_assoc, ← List.append_assoc]
      exact List.Perm.append_right F pm
    · show (σ.set i (some v)).set i none = σ.set i none
      rw [List.set_set])⟩)
/-- an expression alone -/
theorem sj_expr (he : EJ X e Γ m s) (hr : SJ X P rest (out Γ m) R) (hs : swapsWith e none pos.line X.env = pure false := by rfl) : SJ X P (.Expr e pos :: rest) Γ R :=
  pss_to (pss_cons (ps_expr he hs) hr) fun D σ H ⟨G, os, F, hh, st, pn, k1, k2, k3⟩ => go_seq (go_drop ⟨G, os, F, hh, st, fun v G' o os' H' sm h' af ps =>
    ⟨G', os', F, HH.drops (d := o) h', af.st st sm, pn, fun σ3 G3 os3 H3 sm3 => k1 σ3 G3 os3 H3 (sm.trans sm3), fun v G3 o H3 sm3 => k2 v G3 o H3 (sm.trans sm3), fun σ3 G3 os3 H3 sm3 => k3 σ3 G3 os3 H3 (sm.trans sm3)⟩⟩)
/-- a slot's thing becomes data for good -/
theorem sj_fz {i : Nat} (hi : Γ[i]? = some (some s1)) (f : Fz s1 s2) (hr : SJ X P rest (Γ.set i (some s2)) R) : SJ X P rest Γ R :=
  pss_to hr fun D σ H ⟨G, os, F, hh, st, pn, k1, k2, k3⟩ => by
    obtain ⟨v, o, ro, a1, a2, a3, a4, a5⟩ := st.take hi
    obtain ⟨G', sm, h', ps⟩ := f G H o (ro ++ F) v a2 (hh.perm (by rw [← List.append_assoc]; exact List.Perm.append_right F a3))
    obtain ⟨os', p', st'⟩ := a5 G' s2 [] sm ps
    exact ⟨G', os', F, h'.perm (List.Perm.append_right F p'.symm), st', pn, fun σ3 G3 os3 H3 sm3 => k1 σ3 G3 os3 H3 (sm.trans sm3), fun v G3 o H3 sm3 => k2 v G3 o H3 (sm.trans sm3), fun σ3 G3 os3 H3 sm3 => k3 σ3 G3 os3 H3 (sm.trans sm3)⟩
theorem ej_fz (he : EJ X e Γ m s1) (f : Fz s1 s2) : EJ X e Γ m s2 := pe_to he fun σ H Q ⟨G, os, F, hh, st, k⟩ => ⟨G, os, F, hh, st, fun v G' o os' H' sm h' af ps => by
  obtain ⟨G2, sm2, h2, p2⟩ := f G' H' o (os' ++ F) v ps h'
  exact k v G2 [] os' H' (sm.trans sm2) h2 (af.mono sm2) p2⟩
/-- what the lent parameters hold -/
def lentAt : Pn → Ct → List (Option (Option Sh))
  | [], _ => []
  | p :: P, Γ => Γ[p.1]? :: lentAt P Γ
/-- the lent parameters' cells taken out -/
theorem StA.lent : ∀ {P : Pn} {Γ : Ct} {σ : L2.St} {G : Hp} {os : Ow} {ss : List Sh}, StA Γ σ G os → PinA P σ → (P.map Prod.fst).Nodup → lentAt P Γ = ss.map (fun s => some (some s)) → ∃ o dead, os.Perm (o ++ dead) ∧ Shs ss G o (P.map Prod.snd)
  | [], _, _, _, os, [], _, _, _, _ => ⟨[], os, .refl _, rfl, rfl⟩
  | p :: P, Γ, σ, G, os, s :: ss, st, pn, nd, h => by
    obtain ⟨h1, h2⟩ := List.cons.inj h
    obtain ⟨v, o, ro, a1, a2, a3, a4, a5⟩ := st.take h1
    have nd2 := List.nodup_cons.mp nd
    have hP : lentAt P (Γ.set p.1 none) = ss.map (fun s => some (some s)) := by
      rw [← h2]
      have : ∀ Q : Pn, p.1 ∉ Q.map Prod.fst → lentAt Q (Γ.set p.1 none) = lentAt Q Γ := by
        intro Q
        induction Q with
        | nil => intro _; rfl
        | cons q Q ih =>
          intro hq
          show (Γ.set p.1 none)[q.1]? :: lentAt Q _ = Γ[q.1]? :: lentAt Q Γ
          rw [ih (fun z => hq (List.mem_cons_of_mem _ z)), List.getElem?_set_ne (fun z => hq (by simp [z]))]
      exact this P nd2.1
    obtain ⟨o2, dead, b1, b2⟩ := StA.lent a4 (fun q hq => pn q (List.mem_cons_of_mem _ hq)) nd2.2 hP
    have e : v = p.2 := by
      have := pn p (List.mem_cons_self ..)
      rw [a1] at this
      exact Option.some.inj (Option.some.inj this)
    subst e
    exact ⟨o ++ o2, dead, a3.trans (by rw [List.append_assoc]; exact List.Perm.append_left o b1), p.2, P.map Prod.snd, o, o2, rfl, rfl, a2, b2⟩
  | [], _, _, _, _, _ :: _, _, _, _, h => by cases h
  | _ :: _, _, _, _, _, [], _, _, _, h => by cases h
/-- return e -/
theorem sj_retG (he : EJ X e Γ m s) (hrt : ∀ v G o, rtO s (ls y) P v G o → R.rt v G o) (hl : lentAt P (out Γ m) = (ls y).map (fun s => some (some s))) (nd : (P.map Prod.fst).Nodup := by decide) : SJ X P (.Return (some e) pos :: rest) Γ R :=
  pss_to (pss_cons (ps_ret he) pss_never) fun D σ H ⟨G, os, F, hh, st, pn, k1, k2, k3⟩ => go_seq (go_ret ⟨G, os, F, hh, st, fun v G' o os' H' sm h' af ps => by
    obtain ⟨o2, dead, b1, b2⟩ := StA.lent (af.st st sm) pn nd hl
    refine k2 v G' (o ++ o2) H' sm (HH.drops (d := dead) (h'.perm ?_)) (hrt _ _ _ ⟨o, o2, rfl, ps, b2⟩)
    refine (List.Perm.append_left o (List.Perm.append_right F (b1.trans List.perm_append_comm))).trans ?_
    rw [List.append_assoc dead, List.append_assoc o o2]
    exact perm_mid o dead (o2 ++ F)⟩)
theorem sj_ret (he : EJ X e Γ m s) (hs : rs y = s) (hl : lentAt P (out Γ m) = (ls y).map (fun s => some (some s))) (nd : (P.map Prod.fst).Nodup := by decide) (hR : R.rt = rtO (rs y) (ls y) P := by rfl) : SJ X P (.Return (some e) pos :: rest) Γ R :=
  sj_retG (ls := ls) (y := y) he (fun v G o h => by rw [hR]; subst hs; exact h) hl nd
theorem sj_retO (he : EJ X e Γ m s) (hs : rs y = s) (hl : lentAt P (out Γ m) = (ls y).map (fun s => some (some s))) (nd : (P.map Prod.fst).Nodup := by decide) (hR : R.rt = fun v G ow => ∃ r, some y = some r ∧ rtO (rs r) (ls r) P v G ow := by rfl) : SJ X P (.Return (some e) pos :: rest) Γ R :=
  sj_retG (ls := ls) (y := y) he (fun v G o h => by rw [hR]; subst hs; exact ⟨y, rfl, h⟩) hl nd
/-- the end of a def's body -/
theorem sj_fin (hs : ∀ G, (rs y).p G [] .non) (hl : lentAt P Γ = (ls y).map (fun s => some (some s))) (nd : (P.map Prod.fst).Nodup := by decide) : SJ X P [] Γ (PoF rs ls P y) :=
  sj_nil fun σ G os st pn => by
    obtain ⟨o2, dead, b1, b2⟩ := StA.lent st pn nd hl
    exact ⟨dead, o2, b1.trans List.perm_append_comm, [], o2, rfl, hs G, b2⟩
/-- if: both ways end or come together at Γm -/
theorem sj_if {t : Bool} {c : Expr} (hc : TJ X c Γ m t) (h1 : t = true → SJ X P thn (out Γ m) (R.to Γm)) (h2 : t = false → SJ X P els (out Γ m) (R.to Γm)) (hr : SJ X P rest Γm R) : SJ X P (.If c thn els pos :: rest) Γ R := by
  have key : ∀ {D : Ends} {G : Hp} {os F : Ow} {σ : L2.St} {H : Hp}, StA (out Γ m) σ G os → HH G (os ++ F) H → PinA P σ →
      (∀ σ' G' os' H', Same G G' → HH G' (os' ++ F) H' → PinA P σ' → R.nx σ' G' os' → D.nx σ' H') →
      (∀ v G' o H', Same G G' → HH G' (o ++ F) H' → R.rt v G' o → D.rt v H') →
      (∀ σ' G' os' H', Same G G' → HH G' (os' ++ F) H' → PinA P σ' → (R.ct σ' G' os' → D.ct σ' H') ∧ ∀ cls d, R.xr cls d σ' G' os' → WkX X cls d σ' H') →
      tS X P (out Γ m) (R.to Γm) { D with nx := tS X P Γm R D } σ H := fun {D G os F σ H} st hh pn k1 k2 k3 =>
    ⟨G, os, F, hh, st, pn, fun σ' G' os' H' sm h' pn' st' => ⟨G', os', F, h', st', pn', fun σ3 G3 os3 H3 sm3 => k1 σ3 G3 os3 H3 (sm.trans sm3), fun v G3 o H3 sm3 => k2 v G3 o H3 (sm.trans sm3), fun σ3 G3 os3 H3 sm3 => k3 σ3 G3 os3 H3 (sm.trans sm3)⟩, k2, k3⟩
  cases t with
  | true =>
    refine pss_to (pss_cons (ps_if hc (h1 rfl) pss_never) hr) fun D σ H ⟨G, os, F, hh, st, pn, k1, k2, k3⟩ => go_seq (go_ifs ⟨G, os, F, hh, st, fun G' os' H' sm h' af => ?_⟩)
    exact key (af.st st sm) h' pn (fun σ3 G3 os3 H3 sm3 => k1 σ3 G3 os3 H3 (sm.trans sm3)) (fun v G3 o H3 sm3 => k2 v G3 o H3 (sm.trans sm3)) fun σ3 G3 os3 H3 sm3 => k3 σ3 G3 os3 H3 (sm.trans sm3)
  | false =>
    refine pss_to (pss_cons (ps_if hc pss_never (h2 rfl)) hr) fun D σ H ⟨G, os, F, hh, st, pn, k1, k2, k3⟩ => go_seq (go_ifs ⟨G, os, F, hh, st, fun G' os' H' sm h' af => ?_⟩)
    exact key (af.st st sm) h' pn (fun σ3 G3 os3 H3 sm3 => k1 σ3 G3 os3 H3 (sm.trans sm3)) (fun v G3 o H3 sm3 => k2 v G3 o H3 (sm.trans sm3)) fun σ3 G3 os3 H3 sm3 => k3 σ3 G3 os3 H3 (sm.trans sm3)
/-- if whose taken way leaves; else goes on -/
theorem sj_ifT {t : Bool} {c : Expr} (hc : TJ X c Γ m t) (h1 : t = true → SJ X P thn (out Γ m) R.cut) (h2 : t = false → SJ X P rest (out Γ m) R) : SJ X P (.If c thn [] pos :: rest) Γ R := by
  cases t with
  | true =>
    refine pss_to (pss_cons (ps_if hc (h1 rfl) pss_never) pss_never) fun D σ H ⟨G, os, F, hh, st, pn, k1, k2, k3⟩ => go_seq (go_ifs ⟨G, os, F, hh, st, fun G' os' H' sm h' af => ?_⟩)
    exact ⟨G', os', F, h', af.st st sm, pn, fun σ3 G3 os3 H3 _ _ _ z => z.elim, fun v G3 o H3 sm3 => k2 v G3 o H3 (sm.trans sm3), fun σ3 G3 os3 H3 sm3 => k3 σ3 G3 os3 H3 (sm.trans sm3)⟩
  | false =>
    refine pss_to (pss_cons (ps_if hc pss_never pss_nil) (h2 rfl)) fun D σ H ⟨G, os, F, hh, st, pn, k1, k2, k3⟩ => go_seq (go_ifs ⟨G, os, F, hh, st, fun G' os' H' sm h' af => ?_⟩)
    exact go_next ⟨G', os', F, h', af.st st sm, pn, fun σ3 G3 os3 H3 sm3 => k1 σ3 G3 os3 H3 (sm.trans sm3), fun v G3 o H3 sm3 => k2 v G3 o H3 (sm.trans sm3), fun σ3 G3 os3 H3 sm3 => k3 σ3 G3 os3 H3 (sm.trans sm3)⟩
end
end Sl

set_option Elab.async false
set_option linter.all false
set_option maxRecDepth 100000
namespace Sl
open PySem PySem.Spec PyProof.Rows L2 Dl
/-! ### loops as functions -/
section
variable {ρ S β : Type}
def foldX (f : S → β → Option (Oc ρ S)) (s : S) : List β → Option (Oc ρ S)
  | [] => some (.nx s)
  | y :: ys => (f s y).bind fun o => match o with
    | .ret r => some (.ret r)
    | .nx s' => foldX f s' ys
def foldO (f : S → β → Option S) (s : S) : List β → Option S
  | [] => some s
  | y :: ys => (f s y).bind fun s' => foldO f s' ys
theorem foldO_X (f : S → β → Option S) : ∀ {ys : List β} {s s1 : S}, foldO f s ys = some s1 → foldX (ρ := ρ) (fun s y => (f s y).bind fun s' => some (.nx s')) s ys = some (.nx s1)
  | [], s, s1, h => by cases h; rfl
  | y :: ys, s, s1, h => by
    obtain ⟨s', h1, h2⟩ := Option.bind_eq_some_iff.mp (show (f s y).bind (fun s' => foldO f s' ys) = some s1 from h)
    show ((f s y).bind fun s' => some (Oc.nx s')).bind _ = _
    rw [h1]
    exact foldO_X f h2
/-- while: the test may change the state, too -/
inductive WhileTo (c : S → Option (Bool × S)) (b : S → Option (Oc ρ S)) : S → Oc ρ S → Nat → Prop
  | done {s s1 : S} : c s = some (false, s1) → WhileTo c b s (.nx s1) 0
  | ret {s s1 : S} {r : ρ} : c s = some (true, s1) → b s1 = some (.ret r) → WhileTo c b s (.ret r) 0
  | turn {s s1 s2 : S} {o : Oc ρ S} {n : Nat} : c s = some (true, s1) → b s1 = some (.nx s2) → WhileTo c b s2 o n → WhileTo c b s o (n + 1)
open Classical in
noncomputable def whileX (c : S → Option (Bool × S)) (b : S → Option (Oc ρ S)) (s : S) : Option (Oc ρ S) := if h : ∃ o n, WhileTo c b s o n then some h.choose else none
theorem whileX_to {c : S → Option (Bool × S)} {b : S → Option (Oc ρ S)} {s : S} {o : Oc ρ S} (h : whileX c b s = some o) : ∃ n, WhileTo c b s o n := by
  unfold whileX at h
  split at h
  · rename_i hx
    cases h
    exact hx.choose_spec
  · cases h
theorem WhileTo.uniq {c : S → Option (Bool × S)} {b : S → Option (Oc ρ S)} {s : S} {o : Oc ρ S} {n : Nat} (h : WhileTo c b s o n) : ∀ {o' : Oc ρ S} {n' : Nat}, WhileTo c b s o' n' → o' = o := by
  induction h with
  | done h1 => intro o' n' h'; cases h' with
    | done k1 => rw [h1] at k1; cases k1; rfl
    | ret k1 _ => rw [h1] at k1; cases k1
    | turn k1 _ _ => rw [h1] at k1; cases k1
  | ret h1 h2 => intro o' n' h'; cases h' with
    | done k1 => rw [h1] at k1; cases k1
    | ret k1 k2 => rw [h1] at k1; cases k1; rw [h2] at k2; cases k2; rfl
    | turn k1 k2 _ => rw [h1] at k1; cases k1; rw [h2] at k2; cases k2
  | turn h1 h2 h3 ih => intro o' n' h'; cases h' with
    | done k1 => rw [h1] at k1; cases k1
    | ret k1 k2 => rw [h1] at k1; cases k1; rw [h2] at k2; cases k2
    | turn k1 k2 k3 => rw [h1] at k1; cases k1; rw [h2] at k2; cases k2; exact ih k3
theorem whileX_of {c : S → Option (Bool × S)} {b : S → Option (Oc ρ S)} {s : S} {o : Oc ρ S} {n : Nat} (h : WhileTo c b s o n) : whileX c b s = some o := by
  unfold whileX
  have hx : ∃ o n, WhileTo c b s o n := ⟨o, n, h⟩
  rw [dif_pos hx]
  obtain ⟨n', h'⟩ := hx.choose_spec
  exact congrArg some (h.uniq h')
end
section
variable {X : Cx} {P : Pn} {Γ Γ' Γ1 Γ2 Γm : Ct} {m m1 m2 : Option Ct} {α β γ δ κ ρ S : Type} {τ τ1 : Ty α} {τ2 : Ty β} {τ3 : Ty γ} {s s1 s2 : Sh} {pos p : Pos} {a b e tg : Expr} {es : List Expr} {us vs : List Nat} {st : Stmt} {rest thn els body : List Stmt} {R R' : Po} {rs : ρ → Sh} {ls : ρ → List Sh} {y : ρ}
theorem drop_get {α : Type} {xs : List α} {i : Nat} (h : i < xs.length) : ∃ y, xs[i]? = some y ∧ xs.drop i = y :: xs.drop (i + 1) := ⟨xs[i], by simp [h], (List.drop_eq_getElem_cons h)⟩
/-- for -/
theorem sj_forX {items : List β} {sh : β → Sh} {f : S → β → Option (Oc ρ S)} {s0 : S} {o : Oc ρ S} {Γs : S → Ct} {Γy : S → β → Ct} {fl : List Bool} (h : foldX f s0 items = some o) (hi : IJ X tg e Γ m items sh) (hl : fl.length = (out Γ m).length) (h0 : mask fl (out Γ m) = Γs s0)
    (hg : ∀ s y, GJ X tg vs (Γs s) (Γy s y) (sh y)) (hb : ∀ s y o', y ∈ items → f s y = some o' → SJ X P body (Γy s y) (PoO rs ls P Γs o'))
    (hn : ∀ s1, o = .nx s1 → SJ X P rest (Γs s1) R) (hr : ∀ r, o = .ret r → ∀ v G ow, rtO (rs r) (ls r) P v G ow → R.rt v G ow) (hp : PassesOwn (model X.prog X.w) X.A X.env X.xe) (hc : X.calm = true) (d : (P.all fun p => decide (p.1 ∉ vs)) = true := by rfl)
    (hs : ∀ x, foldedSetIterable e X.env x = pure x := by intro _; rfl) : SJ X P (.For tg e body [] pos :: rest) Γ R := by
  have hg' : PG X tg (fun v σ H Q => ∃ t, (∃ s y, t = tG vs (Γs s) (Γy s y) (sh y)) ∧ t v σ H Q) := pg_ex fun t ⟨s, y, e⟩ => by subst e; exact hg s y
  have hb' : PSs X body (fun D σ H => ∃ t, (∃ s y o', y ∈ items ∧ f s y = some o' ∧ t = tS X P (Γy s y) (PoO rs ls P Γs o')) ∧ t D σ H) := pss_ex fun t ⟨s, y, o', hm, hf, e⟩ => by subst e; exact hb s y o' hm hf
  have hrest : PSs X rest (fun D σ H => ∃ t, (∃ s1, o = .nx s1 ∧ t = tS X P (Γs s1) R) ∧ t D σ H) := pss_ex fun t ⟨s1, e1, e⟩ => by subst e; exact hn s1 e1
  refine pss_to (pss_cons (ps_for hp hc hi hg' hb' hs) hrest) fun D σ H ⟨G, os, F, hh, st, pn, k1, k2, k3⟩ => go_seq (go_for ⟨G, os, F, hh, st, fun J G1 os1 H1 sm1 h1 af wk => ?_⟩)
  obtain ⟨os1, h1, st1⟩ := HH.masked h1 (af.st st sm1) hl
  rw [h0] at st1
  refine ⟨fun i mm σ H => mm = items.length - i ∧ i ≤ items.length ∧ ∃ s G' os', Same G1 G' ∧ HH G' (os' ++ F) H ∧ StA (Γs s) σ G' os' ∧ PinA P σ ∧ foldX f s (items.drop i) = some o, ⟨_, rfl, Nat.zero_le _, s0, G1, os1, Same.refl _, h1, st1, pn, h⟩, ?_⟩
  rintro i mm σ2 H2 ⟨rfl, hle, s2, G2, os2, sm2, h2, st2, pn2, hf⟩
  obtain ⟨ws, wi⟩ := wk G2 _ H2 sm2 h2
  by_cases hlt : i < items.length
  · obtain ⟨y, hy, hd⟩ := drop_get hlt
    rw [hd] at hf
    obtain ⟨o', ho', hf'⟩ := Option.bind_eq_some_iff.mp (show (f s2 y).bind _ = some o from hf)
    obtain ⟨go, yl⟩ := wi i y hy
    refine .inr ⟨go, fun σ' H' => ∃ s' G' os', Same G1 G' ∧ HH G' (os' ++ F) H' ∧ StA (Γs s') σ' G' os' ∧ PinA P σ' ∧ foldX f s' (items.drop (i + 1)) = some o, fun σ' H' ⟨s', G', os', a1, a2, a3, a4, a5⟩ => ⟨items.length - (i + 1), by omega, rfl, hlt, s', G', os', a1, a2, a3, a4, a5⟩, fun x H3 y3 => ?_⟩
    obtain ⟨G3, sm3, h3, py⟩ := yl x H3 y3
    refine ⟨_, ⟨s2, y, rfl⟩, G3, [], os2, F, h3, st2.mono sm3, py, fun σ4 os4 w4 h4 st4 => ?_⟩
    have pn4 : PinA P σ4 := pn2.wipe w4 d
    have nxt : ∀ σ' G' os' H', Same G3 G' → HH G' (os' ++ F) H' → PinA P σ' → (PoO rs ls P Γs o').nx σ' G' os' → ∃ s' G' os', Same G1 G' ∧ HH G' (os' ++ F) H' ∧ StA (Γs s') σ' G' os' ∧ PinA P σ' ∧ foldX f s' (items.drop (i + 1)) = some o := fun σ' G' os' H' sm' h' pn' ⟨s', e', st'⟩ => by
      subst e'
      exact ⟨s', G', os', (sm2.trans sm3).trans sm', h', st', pn', hf'⟩
    refine ⟨_, ⟨s2, y, o', List.mem_of_getElem? hy, ho', rfl⟩, G3, os4, F, h4, st4, pn4, nxt, fun v G' ow H' sm' h' ⟨r, e', q⟩ => ?_, fun _ _ _ _ _ _ _ => ⟨fun h => h.elim, fun _ _ h => h.elim⟩⟩
    have e' := retOf_eq e'
    subst e'
    have eo : o = .ret r := (Option.some.inj hf').symm
    exact k2 v G' ow H' (sm1.trans ((sm2.trans sm3).trans sm')) h' (hr r eo v G' ow q)
  · have e : i = items.length := by omega
    subst e
    rw [List.drop_length] at hf
    have eo : o = .nx s2 := (Option.some.inj hf).symm
    have smA := sm1.trans sm2
    exact .inl ⟨ws, _, ⟨s2, eo, rfl⟩, G2, os2, F, h2, st2, pn2, fun σ3 G3 os3 H3 sm3 => k1 σ3 G3 os3 H3 (smA.trans sm3), fun v G3 o H3 sm3 => k2 v G3 o H3 (smA.trans sm3), fun σ3 G3 os3 H3 sm3 => k3 σ3 G3 os3 H3 (smA.trans sm3)⟩
/-- for, without a way out -/
theorem sj_for {items : List β} {sh : β → Sh} {f : S → β → Option S} {s0 s1 : S} {Γs : S → Ct} {Γy : S → β → Ct} {fl : List Bool} (rs : ρ → Sh) (ls : ρ → List Sh) (h : foldO f s0 items = some s1) (hi : IJ X tg e Γ m items sh) (hl : fl.length = (out Γ m).length) (h0 : mask fl (out Γ m) = Γs s0)
    (hg : ∀ s y, GJ X tg vs (Γs s) (Γy s y) (sh y)) (hb : ∀ s y s', y ∈ items → f s y = some s' → SJ X P body (Γy s y) (PoO rs ls P Γs (.nx s')))
    (hn : SJ X P rest (Γs s1) R) (hp : PassesOwn (model X.prog X.w) X.A X.env X.xe) (hc : X.calm = true) (d : (P.all fun p => decide (p.1 ∉ vs)) = true := by rfl)
    (hs : ∀ x, foldedSetIterable e X.env x = pure x := by intro _; rfl) : SJ X P (.For tg e body [] pos :: rest) Γ R :=
  sj_forX (rs := rs) (ls := ls) (foldO_X (ρ := ρ) f h) hi hl h0 hg (fun s y o' hm hf => by
    obtain ⟨s', h1, h2⟩ := Option.bind_eq_some_iff.mp hf
    cases h2
    exact hb s y s' hm h1) (fun s e => by cases e; exact hn) (fun r e => by cases e) hp hc d hs
/-- while -/
theorem sj_whileX {c : Expr} {fc : S → Option (Bool × S)} {f : S → Option (Oc ρ S)} {s0 : S} {o : Oc ρ S} {Γs : S → Ct} {mt : S → S → Option Ct} {fl : List Bool} (h : whileX fc f s0 = some o) (hl : fl.length = Γ.length) (h0 : mask fl Γ = Γs s0)
    (ht : ∀ s t s', fc s = some (t, s') → TJ X c (Γs s) (mt s s') t) (hm : ∀ s s', out (Γs s) (mt s s') = Γs s') (hb : ∀ s o', f s = some o' → SJ X P body (Γs s) (PoO rs ls P Γs o'))
    (hn : ∀ s1, o = .nx s1 → SJ X P rest (Γs s1) R) (hr : ∀ r, o = .ret r → ∀ v G ow, rtO (rs r) (ls r) P v G ow → R.rt v G ow) (hp : PassesOwn (model X.prog X.w) X.A X.env X.xe) : SJ X P (.While c body [] pos :: rest) Γ R := by
  obtain ⟨n0, hw⟩ := whileX_to h
  have ht' : PT X c (fun σ H Q => ∃ t, (∃ s b s', fc s = some (b, s') ∧ t = tB (Γs s) (mt s s') b) ∧ t σ H Q) := pt_ex fun t ⟨s, b, s', hf, e⟩ => by subst e; exact ht s b s' hf
  have hb' : PSs X body (fun D σ H => ∃ t, (∃ s o', f s = some o' ∧ t = tS X P (Γs s) (PoO rs ls P Γs o')) ∧ t D σ H) := pss_ex fun t ⟨s, o', hf, e⟩ => by subst e; exact hb s o' hf
  have hrest : PSs X rest (fun D σ H => ∃ t, (∃ s1, o = .nx s1 ∧ t = tS X P (Γs s1) R) ∧ t D σ H) := pss_ex fun t ⟨s1, e1, e⟩ => by subst e; exact hn s1 e1
  refine pss_to (pss_cons (ps_while hp ht' hb') hrest) fun D σ H ⟨G, os, F, hh, st, pn, k1, k2, k3⟩ => go_seq ?_
  obtain ⟨os1, hh, st1⟩ := HH.masked hh st hl
  rw [h0] at st1
  refine ⟨fun n σ H => ∃ s G' os', Same G G' ∧ HH G' (os' ++ F) H ∧ StA (Γs s) σ G' os' ∧ PinA P σ ∧ WhileTo fc f s o n, ⟨n0, s0, G, os1, Same.refl _, hh, st1, pn, hw⟩, ?_⟩
  rintro n σ2 H2 ⟨s2, G2, os2, sm2, h2, st2, pn2, hw2⟩
  cases hw2 with
  | @done _ s3 c1 =>
    refine ⟨_, ⟨s2, false, s3, c1, rfl⟩, G2, os2, F, h2, st2, fun G3 os3 H3 sm3 h3 af => ?_⟩
    have st3 := af.st st2 sm3
    rw [hm] at st3
    exact ⟨_, ⟨s3, rfl, rfl⟩, G3, os3, F, h3, st3, pn2, fun σ4 G4 os4 H4 sm4 => k1 σ4 G4 os4 H4 ((sm2.trans sm3).trans sm4), fun v G4 o H4 sm4 => k2 v G4 o H4 ((sm2.trans sm3).trans sm4), fun σ4 G4 os4 H4 sm4 => k3 σ4 G4 os4 H4 ((sm2.trans sm3).trans sm4)⟩
  | @ret _ s3 r c1 b1 =>
    refine ⟨_, ⟨s2, true, s3, c1, rfl⟩, G2, os2, F, h2, st2, fun G3 os3 H3 sm3 h3 af => ?_⟩
    have st3 := af.st st2 sm3
    rw [hm] at st3
    refine ⟨fun _ _ => False, fun _ _ z => z.elim, _, ⟨s3, _, b1, rfl⟩, G3, os3, F, h3, st3, pn2, fun σ4 G4 os4 H4 sm4 h4 pn4 ⟨s', e', _⟩ => ?_, fun v G4 o H4 sm4 h4 ⟨r', e', q⟩ => ?_, fun _ _ _ _ _ _ _ => ⟨fun h => h.elim, fun _ _ h => h.elim⟩⟩
    · cases e'
    · cases e'
      exact k2 v G4 o H4 ((sm2.trans sm3).trans sm4) h4 (hr r rfl v G4 o q)
  | @turn _ s3 s4 _ n' c1 b1 w1 =>
    refine ⟨_, ⟨s2, true, s3, c1, rfl⟩, G2, os2, F, h2, st2, fun G3 os3 H3 sm3 h3 af => ?_⟩
    have st3 := af.st st2 sm3
    rw [hm] at st3
    have nxt : ∀ σ' G' os' H', Same G3 G' → HH G' (os' ++ F) H' → PinA P σ' → (PoO rs ls P Γs (.nx s4)).nx σ' G' os' → ∃ s G' os', Same G G' ∧ HH G' (os' ++ F) H' ∧ StA (Γs s) σ' G' os' ∧ PinA P σ' ∧ WhileTo fc f s o n' := fun σ' G' os' H' sm' h' pn' ⟨s', e', st'⟩ => by
      cases e'
      exact ⟨s4, G', os', (sm2.trans sm3).trans sm', h', st', pn', w1⟩
    refine ⟨fun σ' H' => ∃ s G' os', Same G G' ∧ HH G' (os' ++ F) H' ∧ StA (Γs s) σ' G' os' ∧ PinA P σ' ∧ WhileTo fc f s o n', fun σ' H' q => ⟨n', by omega, q⟩, _, ⟨s3, _, b1, rfl⟩, G3, os3, F, h3, st3, pn2, nxt, fun v G4 o H4 sm4 h4 ⟨r', e', q⟩ => ?_, fun _ _ _ _ _ _ _ => ⟨fun h => h.elim, fun _ _ h => h.elim⟩⟩
    cases e'
end
end Sl

set_option Elab.async false
set_option linter.all false
set_option maxRecDepth 100000
namespace Sl
open PySem PySem.Spec PyProof.Rows L2 Dl
/-! ### comprehensions as functions -/
section
variable {S β γ κ : Type}
def foldC (f : S → β → Option (Option γ × S)) (s : S) : List β → Option (List γ × S)
  | [] => some ([], s)
  | y :: ys => (f s y).bind fun p => (foldC f p.2 ys).bind fun q => some (p.1.toList ++ q.1, q.2)
/-- without a state -/
def mapC (f : β → Option (Option γ)) : List β → Option (List γ)
  | [] => some []
  | y :: ys => (f y).bind fun p => (mapC f ys).bind fun q => some (p.toList ++ q)
/-- a dict -/
def dicC [DecidableEq κ] (f : β → Option (κ × γ)) : List (κ × γ) → List β → Option (List (κ × γ))
  | d, [] => some d
  | d, y :: ys => (f y).bind fun p => dicC f (aput d p.1 p.2) ys
def dicS [DecidableEq κ] (f : S → β → Option ((κ × γ) × S)) (s : S) : List (κ × γ) → List β → Option (List (κ × γ) × S)
  | d, [] => some (d, s)
  | d, y :: ys => (f s y).bind fun p => dicS f p.2 (aput d p.1.1 p.1.2) ys
end
abbrev TsJ (X : Cx) (e : List Expr) (Γ : Ct) (m : Option Ct) (b : Bool) : Prop := PTs X e (tB Γ m b)
def nones : List Nat → Ct → Ct
  | [], Γ => Γ
  | v :: vs, Γ => (nones vs Γ).set v none
/-- nothing is owned there -/
def ZeroAt (Γ : Ct) (v : Nat) : Prop := ∀ s, Γ[v]? = some (some s) → ∀ G o w, s.p G o w → o = []
theorem z_none {Γ : Ct} {v : Nat} (h : Γ[v]? = some none) : ZeroAt Γ v := fun s e => by rw [h] at e; cases e
theorem StA.none1 {G : Hp} {x : Option V} : ∀ {Γ : Ct} {σ : L2.St} {os : Ow} {i : Nat}, StA Γ σ G os → ZeroAt Γ i → StA (Γ.set i none) (σ.set i x) G os
  | [], σ, os, i, h, _ => by
    obtain ⟨e1, e2⟩ := h
    subst e1 e2
    cases i <;> exact ⟨rfl, rfl⟩
  | none :: Γ, _ :: σ, _, 0, h, _ => h
  | some s :: Γ, _ :: σ, _, 0, ⟨v, o1, o2, _, e, p, h⟩, z => by
    have := z s rfl _ _ _ p
    subst this e
    exact h
  | none :: Γ, _ :: σ, _, i + 1, h, z => StA.none1 (Γ := Γ) (i := i) h fun s e => z s (by simpa using e)
  | some s :: Γ, _ :: σ, _, i + 1, ⟨v, o1, o2, e1, e, p, h⟩, z => ⟨v, o1, o2, e1, e, p, StA.none1 (i := i) h fun s e => z s (by simpa using e)⟩
theorem StA.set0 {G : Hp} {s : Sh} {v : V} (hp : s.p G [] v) : ∀ {Γ : Ct} {σ : L2.St} {os : Ow} {i : Nat}, StA Γ σ G os → ZeroAt Γ i → i < Γ.length → StA (Γ.set i (some s)) (σ.set i (some v)) G os
  | [], σ, os, i, h, _, l => absurd l (Nat.not_lt_zero i)
  | none :: Γ, _ :: σ, os, 0, h, _, _ => ⟨v, [], os, rfl, rfl, hp, h⟩
  | some s1 :: Γ, _ :: σ, _, 0, ⟨v1, o1, o2, _, e, p, h⟩, z, _ => ⟨v, [], o2, rfl, by
    have := z s1 rfl _ _ _ p
    rw [e, this], hp, h⟩
  | none :: Γ, _ :: σ, _, i + 1, h, z, l => StA.set0 (Γ := Γ) (i := i) hp h (fun s e => z s (by simpa using e)) (by simpa using l)
  | some s1 :: Γ, _ :: σ, _, i + 1, ⟨v1, o1, o2, e1, e, p, h⟩, z, l => ⟨v1, o1, o2, e1, e, p, StA.set0 (i := i) hp h (fun s e => z s (by simpa using e)) (by simpa using l)⟩
def Zs : List Nat → Ct → Prop
  | [], _ => True
  | v :: vs, Γ => ZeroAt (nones vs Γ) v ∧ Zs vs Γ
theorem StA.wipes {G : Hp} {Γ : Ct} {σ : L2.St} {os : Ow} (h : StA Γ σ G os) : ∀ vs : List Nat, Zs vs Γ → StA (nones vs Γ) (wipe σ vs) G os
  | [], _ => h
  | v :: vs, z => StA.none1 (StA.wipes h vs z.2) z.1
/-- a slot that is not looked at may hold anything -/
theorem StA.none2 {G : Hp} {x : Option V} : ∀ {Γ : Ct} {σ : L2.St} {os : Ow} {i : Nat}, StA Γ (σ.set i x) G os → (Γ[i]? = some none ∨ Γ.length ≤ i) → StA Γ σ G os
  | [], σ, os, i, h, _ => by
    obtain ⟨e1, e2⟩ := h
    have e : σ = [] := by
      have := congrArg List.length e1
      rw [List.length_set] at this
      exact List.eq_nil_of_length_eq_zero this
    exact ⟨e, e2⟩
  | none :: Γ, _ :: σ, _, 0, h, _ => h
  | some s :: Γ, _ :: σ, _, 0, _, hi => by rcases hi with hi | hi <;> simp at hi
  | none :: Γ, _ :: σ, _, i + 1, h, hi => StA.none2 (Γ := Γ) (i := i) h (by simpa using hi)
  | some s :: Γ, _ :: σ, _, i + 1, ⟨v, o1, o2, e1, e, p, h⟩, hi => ⟨v, o1, o2, e1, e, p, StA.none2 (i := i) h (by simpa using hi)⟩
  | none :: Γ, [], _, i, h, _ => by cases i <;> exact h.elim
  | some s :: Γ, [], _, i, h, _ => by cases i <;> exact h.elim
theorem StA.unwipe {G : Hp} {Γ : Ct} : ∀ {vs : List Nat} {σ : L2.St} {os : Ow}, StA Γ (wipe σ vs) G os → (∀ v ∈ vs, Γ[v]? = some none ∨ Γ.length ≤ v) → StA Γ σ G os
  | [], _, _, h, _ => h
  | v :: vs, σ, os, h, hv => StA.unwipe (vs := vs) (StA.none2 (i := v) h (hv v (List.mem_cons_self ..))) fun w hw => hv w (List.mem_cons_of_mem _ hw)
theorem wipe_idem (vs : List Nat) (σ : L2.St) : wipe (wipe σ vs) vs = wipe σ vs := by
  have set2 : ∀ (us : List Nat) (σ : L2.St) (i : Nat), i ∈ us → (wipe σ us).set i none = wipe σ us := by
    intro us
    induction us with
    | nil => intro σ i h; cases h
    | cons u us ih =>
      intro σ i h
      show ((wipe σ us).set u none).set i none = (wipe σ us).set u none
      by_cases e : i = u
      · subst e; rw [List.set_set]
      · rw [List.set_comm _ _ (fun z => e z.symm), ih σ i ((List.mem_cons.mp h).resolve_left e)]
  have : ∀ us : List Nat, (∀ u ∈ us, u ∈ vs) → wipe (wipe σ vs) us = wipe σ vs := by
    intro us
    induction us with
    | nil => intro _; rfl
    | cons u us ih =>
      intro h
      show (wipe (wipe σ vs) us).set u none = _
      rw [ih fun w hw => h w (List.mem_cons_of_mem _ hw), set2 vs σ u (h u (List.mem_cons_self ..))]
  exact this vs fun _ h => h
/-- a target of data, whose slots own nothing -/
def tG0 (vs : List Nat) (Γ Γ' : Ct) (s : Sh) : TG := fun v σ H R => ∃ G os F, HH G (os ++ F) H ∧ StA Γ σ G os ∧ s.p G [] v ∧ ∀ σ', wipe σ' vs = wipe σ vs → StA Γ' σ' G os → R σ' H
def tGs0 (vs : List Nat) (Γ Γ' : Ct) (ss : List Sh) : TGs := fun us σ H R => ∃ G os F, HH G (os ++ F) H ∧ StA Γ σ G os ∧ Shs ss G [] us ∧ ∀ σ', wipe σ' vs = wipe σ vs → StA Γ' σ' G os → R σ' H
abbrev GJ0 (X : Cx) (e : Expr) (vs : List Nat) (Γ Γ' : Ct) (s : Sh) : Prop := PG X e (tG0 vs Γ Γ' s)
abbrev GsJ0 (X : Cx) (e : List Expr) (vs : List Nat) (Γ Γ' : Ct) (ss : List Sh) : Prop := PGs X e (tGs0 vs Γ Γ' ss)
section
variable {X : Cx} {P : Pn} {Γ Γ' Γ1 Γ2 Γm Γn : Ct} {m m0 m1 m2 : Option Ct} {α β γ δ κ ρ S : Type} {τ τ1 : Ty α} {τ2 : Ty β} {τ3 : Ty γ} {s s1 s2 : Sh} {pos p : Pos} {a b e elt tg iter kx : Expr} {es ifs : List Expr} {us vs : List Nat}
theorem gj0_name {i : Nat} {x : Str} (hN : X.N.Nodup) (hi : X.N[i]? = some x) (hx : Loc X.env.scope x) (z : ZeroAt Γ i) (hl : (decide (i < Γ.length)) = true := by rfl) (hf : X.fn x = true ∨ X.env.scope.names.lookup x = some .local := by first | exact .inl rfl | exact .inr rfl | assumption) : GJ0 X (.Name x p) [i] Γ (Γ.set i (some s)) s :=
  pg_to (pg_name hN hi hx hf) fun v σ H R ⟨G, os, F, hh, st, ps, k⟩ => go_gname (k _ (by
    show (σ.set i (some v)).set i none = σ.set i none
    rw [List.set_set]) (st.set0 ps z (of_decide_eq_true hl)))
theorem gs0_nil : GsJ0 X [] [] Γ Γ [] := pgs_to pgs_nil fun v σ H R ⟨G, os, F, hh, st, ⟨e, _⟩, k⟩ => by
  subst e
  exact go_gnil (k σ rfl st)
theorem gs0_cons {ss : List Sh} (h1 : GJ0 X e us Γ Γ1 s) (h2 : GsJ0 X es vs Γ1 Γ2 ss) (hs : (assignEach (e :: es) X.env).map (·.2) = assign e X.env :: (assignEach es X.env).map (·.2) := by rfl) : GsJ0 X (e :: es) (us ++ vs) Γ Γ2 (s :: ss) :=
  pgs_to (pgs_cons h1 h2 hs) fun xs σ H R ⟨G, os, F, hh, st, ⟨v, vr, o1, o2, e1, e2, p1, p2⟩, k⟩ => by
    obtain ⟨e3, e4⟩ := app_nil2 e2
    subst e1 e3 e4
    refine go_gcons ⟨G, os, F, hh, st, p1, fun σ1 w1 st1 => ⟨G, os, F, hh, st1, p2, fun σ2 w2 st2 => k σ2 ?_ st2⟩⟩
    rw [wipe_app, wipe_app, w2, wipe_comm, w1, wipe_comm]
theorem gj0_tup {k n : Nat} {ss : List Sh} (hc : X.calm = true) (h : GsJ0 X es vs Γ Γ' ss) (hx : ∀ (G H : Hp) (os o : Ow) (v : V), HH G os H → s.p G o v → o = [] ∧ ∃ a xs, v = .ref a ∧ SqT X.K H a xs ∧ xs.length = n ∧ Shs ss G [] xs)
    (hn : (assignEach es X.env).length = n := by rfl) (hst : (assignEach es X.env).findIdx? (·.1) = none := by rfl) : GJ0 X (.Tuple es k pos) vs Γ Γ' s :=
  pg_to (pg_tup hc h hn hst) fun v σ H R ⟨G, os, F, hh, st, ps, k⟩ => by
    obtain ⟨eo, a, xs, ev, hq, hl, hp⟩ := hx G H _ [] v hh ps
    subst ev
    exact ⟨a, xs, rfl, hq, hl, G, os, F, hh, st, hp, k⟩
theorem gj0_p2 {k : Nat} {x : α × β} (hc : X.calm = true) (h : GsJ0 X [a, b] vs Γ Γ' [fz τ1 x.1, fz τ2 x.2]) (hst : (assignEach [a, b] X.env).findIdx? (·.1) = none := by rfl) (hn : (assignEach [a, b] X.env).length = 2 := by rfl) : GJ0 X (.Tuple [a, b] k pos) vs Γ Γ' (fz (tP2 τ1 τ2) x) :=
  gj0_tup hc h (fun G H os o v hh ⟨e, c, v1, v2, ev, g, r1, r2⟩ => ⟨e, c, [v1, v2], ev, SqT.of (hh.tup g), rfl, Shs.mk2 r1 r2⟩) hn hst
theorem gj0_p3 {c : Expr} {k : Nat} {x : α × β × γ} (hc : X.calm = true) (h : GsJ0 X [a, b, c] vs Γ Γ' [fz τ1 x.1, fz τ2 x.2.1, fz τ3 x.2.2]) (hst : (assignEach [a, b, c] X.env).findIdx? (·.1) = none := by rfl) (hn : (assignEach [a, b, c] X.env).length = 3 := by rfl) : GJ0 X (.Tuple [a, b, c] k pos) vs Γ Γ' (fz (tP3 τ1 τ2 τ3) x) :=
  gj0_tup hc h (fun G H os o v hh ⟨e, c, v1, v2, v3, ev, g, r1, r2, r3⟩ => ⟨e, c, [v1, v2, v3], ev, SqT.of (hh.tup g), rfl, Shs.mk3 r1 r2 r3⟩) hn hst
theorem ts_nil : TsJ X [] Γ none true := ⟨fun pins s σ H Q I ⟨G, os, F, hh, st, k⟩ => pts_nil.run pins s σ H Q I (go_yes (k G os H (Same.refl _) hh rfl))⟩
theorem ts_one {c : Expr} {b : Bool} (h : TJ X c Γ m b) : TsJ X [c] Γ m b := pts_one h
/-- a comprehension, as a value and as what a name is set to -/
def LcJ (X : Cx) (e : Expr) (Γ : Ct) (m : Option Ct) (s : Sh) : Prop := EJ X e Γ m s ∧ ∀ {i : Nat} {y : Str} {py spos : Pos}, X.N[i]? = some y → X.env.scope.names.lookup y = some .local → swapsWith e (some (.Name y py)) spos.line X.env = pure true → PS X (.Assign [.Name y py] e spos) (tAsg (tT Γ m s) (gName i))
theorem ps_to {X : Cx} {e : Stmt} {t t' : TS} (h : PS X e t) (w : ∀ D σ H, t' D σ H → t D σ H) : PS X e t' := ⟨fun pins s σ H D I q => h.run pins s σ H D I (w D σ H q)⟩
abbrev Bk (X : Cx) (s : Shared) (H : Hp) (scope : Scope) (C : Addr) (cl : List (Str × Addr)) (fp : List Addr) : Cx := X.blk s H scope (compEnvC scope cl C X.env) fp
theorem perm_in (x : Addr × HO) (os F : Ow) : (x :: (os ++ F)).Perm (os ++ (x :: F)) := List.perm_middle.symm
/-- the turns of a comprehension that changes nothing -/
theorem lcP_run {items : List β} {sh : β → Sh} {f : β → Option (Option γ)} {zs : List γ} {Γy : β → Ct} {σ : L2.St} {Q : VK} {G1 : Hp} {os1 F : Ow} {H1 : Hp} {J : It} (vs : List Nat) (h : mapC f items = some zs) (hsm : Sm items.length) (hz : Zs vs Γ1)
    (st0 : StA Γ1 σ G1 os1) (h1 : HH G1 (os1 ++ F) H1) (wk : WkF F J G1 items sh) (k : ∀ v G' o H', Same G1 G' → HH G' (o ++ (os1 ++ F)) H' → (oL τ3 zs).p G' o v → Q v H') :
    ∀ A, H1 A = none → ∃ W : Nat → Nat → Hp → Prop, (∃ m, W 0 m (upd H1 A (.lst []))) ∧ ∀ i m H, W i m H →
      (J.stop i H ∧ Q (.ref A) H) ∨ (J.go i H ∧ ∃ Nx : Hp → Prop, (∀ H', Nx H' → ∃ m', m' < m ∧ W (i + 1) m' H') ∧ ∀ x H', J.yld i H x H' → (∃ t, (∃ y, t = tG0 vs (nones vs Γ1) (Γy y) (sh y)) ∧ t x (wipe σ vs) H' fun σ2 H2 => wipe σ2 vs = wipe σ vs ∧
        ∃ t, (∃ y oz, y ∈ items ∧ f y = some oz ∧ t = tB (Γy y) none oz.isSome) ∧ t σ2 H2 fun b H3 => if b = true then (∃ t, (∃ y z, y ∈ items ∧ f y = some (some z) ∧ t = tT (Γy y) none (fz τ3 z)) ∧ t σ2 H3 fun y H4 => ∃ acc, H4 A = some (.lst acc) ∧ acc.length < sizeLine ∧ Nx (upd H4 A (.lst (acc ++ [y])))) else Nx H3)) := by
  intro A nA
  have st1 := st0.wipes vs hz
  refine ⟨fun i mm H => mm = items.length - i ∧ i ≤ items.length ∧ ∃ ws acc zr G', Same G1 G' ∧ HH G' ((A, .lst ws) :: (os1 ++ F)) H ∧ Paired (τ3.rep G') ws acc ∧ acc.length ≤ i ∧ mapC f (items.drop i) = some zr ∧ zs = acc ++ zr, ⟨_, rfl, Nat.zero_le _, [], [], zs, G1, Same.refl _, h1.push nA, .nil, Nat.le_refl _, h, rfl⟩, ?_⟩
  rintro i mm H2 ⟨rfl, hle, ws, acc, zr, G2, sm2, h2, pr, hal, hf, ez⟩
  obtain ⟨wst, wi⟩ := wk G2 _ H2 sm2 h2 in_fr
  by_cases hlt : i < items.length
  · obtain ⟨y, hy, hd⟩ := drop_get hlt
    rw [hd] at hf
    obtain ⟨oz, ho, hf⟩ := Option.bind_eq_some_iff.mp (show (f y).bind _ = some zr from hf)
    obtain ⟨zr', hf1, hf2⟩ := Option.bind_eq_some_iff.mp hf
    have ezr : zr = oz.toList ++ zr' := (Option.some.inj hf2).symm
    subst ezr
    obtain ⟨go, yl⟩ := wi i y hy
    have hm := List.mem_of_getElem? hy
    refine .inr ⟨go, fun H => ∃ ws acc zr G', Same G1 G' ∧ HH G' ((A, .lst ws) :: (os1 ++ F)) H ∧ Paired (τ3.rep G') ws acc ∧ acc.length ≤ i + 1 ∧ mapC f (items.drop (i + 1)) = some zr ∧ zs = acc ++ zr, fun H' q => ⟨items.length - (i + 1), by omega, rfl, hlt, q⟩, fun x H3 y3 => ?_⟩
    obtain ⟨G3, sm3, h3, py⟩ := yl x H3 y3
    refine ⟨_, ⟨y, rfl⟩, G3, os1, (A, .lst ws) :: F, h3.perm (perm_in _ _ _), st1.mono (sm2.trans sm3), py, fun σ4 w4 st4 => ⟨by rw [w4, wipe_idem], ?_⟩⟩
    refine ⟨_, ⟨y, oz, hm, ho, rfl⟩, G3, os1, (A, .lst ws) :: F, h3.perm (perm_in _ _ _), st4, fun G5 os5 H5 sm5 h5 (e5 : os5 = os1) => ?_⟩
    subst e5
    cases oz with
    | none =>
      refine ⟨ws, acc, zr', G5, (sm2.trans sm3).trans sm5, h5.perm (perm_in _ _ _).symm, pair_mono (sm3.trans sm5) pr, by omega, hf1, ?_⟩
      rw [ez]; rfl
    | some z =>
      refine ⟨_, ⟨y, z, hm, ho, rfl⟩, G5, os5, (A, .lst ws) :: F, h5, st4.mono sm5, fun v G6 o6 os6 H6 sm6 h6 (e6 : os6 = os5) ⟨eo, rv⟩ => ?_⟩
      subst e6 eo
      have h6' : HH G6 ((A, .lst ws) :: (os6 ++ F)) H6 := h6.perm (perm_in _ _ _).symm
      have e7 : ws.length = acc.length := pr_len pr
      refine ⟨ws, h6'.get, Sm.lt (Nat.le_trans (by omega) hsm), ws ++ [v], acc ++ [z], zr', G6, ((sm2.trans sm3).trans sm5).trans sm6, h6'.put (.inr fun _ _ z => nomatch z), pr_snoc (pair_mono ((sm3.trans sm5).trans sm6) pr) rv, ?_, hf1, ?_⟩
      · rw [List.length_append]; simp; omega
      · rw [ez, List.append_assoc]; rfl
  · have e : i = items.length := by omega
    subst e
    rw [List.drop_length] at hf
    have ezr : zr = [] := (Option.some.inj hf).symm
    subst ezr
    rw [List.append_nil] at ez
    subst ez
    exact .inl ⟨wst, k (.ref A) G2 [(A, .lst ws)] H2 sm2 h2 ⟨A, ws, rfl, rfl, pr⟩⟩
section
variable {scope : Scope} {own : List (Str × Nat)} {items : List β} {sh : β → Sh} {f : β → Option (Option γ)} {zs : List γ} {Γy : β → Ct}
    (hg : ∀ (s : Shared) (H : Hp) (C : Addr) (cl : List (Str × Addr)) (fp : List Addr) y, GJ0 (Bk X s H scope C cl fp) tg (own.map (·.2)) (nones (own.map (·.2)) (out Γ m0)) (Γy y) (sh y))
    (ht : ∀ (s : Shared) (H : Hp) (C : Addr) (cl : List (Str × Addr)) (fp : List Addr) y oz, y ∈ items → f y = some oz → TsJ (Bk X s H scope C cl fp) ifs (Γy y) none oz.isSome)
    (he : ∀ (s : Shared) (H : Hp) (C : Addr) (cl : List (Str × Addr)) (fp : List Addr) y z, y ∈ items → f y = some (some z) → EJ (Bk X s H scope C cl fp) elt (Γy y) none (fz τ3 z))
include hg ht he
theorem lcP_g (s : Shared) (H : Hp) (C : Addr) (cl : List (Str × Addr)) (fp : List Addr) : PG (Bk X s H scope C cl fp) tg (fun v σ H Q => ∃ t, (∃ y, t = tG0 (own.map (·.2)) (nones (own.map (·.2)) (out Γ m0)) (Γy y) (sh y)) ∧ t v σ H Q) := pg_ex fun t ⟨y, e⟩ => by subst e; exact hg s H C cl fp y
theorem lcP_t (s : Shared) (H : Hp) (C : Addr) (cl : List (Str × Addr)) (fp : List Addr) : PTs (Bk X s H scope C cl fp) ifs (fun σ H Q => ∃ t, (∃ y oz, y ∈ items ∧ f y = some oz ∧ t = tB (Γy y) none oz.isSome) ∧ t σ H Q) := pts_ex fun t ⟨y, oz, hm, hf, e⟩ => by subst e; exact ht s H C cl fp y oz hm hf
theorem lcP_e (s : Shared) (H : Hp) (C : Addr) (cl : List (Str × Addr)) (fp : List Addr) : PE (Bk X s H scope C cl fp) elt (fun σ H Q => ∃ t, (∃ y z, y ∈ items ∧ f y = some (some z) ∧ t = tT (Γy y) none (fz τ3 z)) ∧ t σ H Q) := pe_ex fun t ⟨y, z, hm, hf, e⟩ => by subst e; exact he s H C cl fp y z hm hf
/-- [e for x in xs if c], that changes nothing -/
theorem lcP_imp (h : mapC f items = some zs) (hsm : Sm items.length) (hc : X.calm = true) (hN : X.N.Nodup) (hi : IJ X tg iter Γ m0 items sh) (ok : BlkOk X.N X.env.scope scope own) (hz : Zs (own.map (·.2)) (out Γ m0))
    (hs : ∀ x, foldedSetIterable iter X.env x = pure x := by intro _; rfl) {σ : L2.St} {H : Hp} {Q : VK} (q : tT Γ m0 (oL τ3 zs) σ H Q) : tLc (tI Γ m0 items sh) (fun v σ H Q => ∃ t, (∃ y, t = tG0 (own.map (·.2)) (nones (own.map (·.2)) (out Γ m0)) (Γy y) (sh y)) ∧ t v σ H Q) (fun σ H Q => ∃ t, (∃ y oz, y ∈ items ∧ f y = some oz ∧ t = tB (Γy y) none oz.isSome) ∧ t σ H Q) (fun σ H Q => ∃ t, (∃ y z, y ∈ items ∧ f y = some (some z) ∧ t = tT (Γy y) none (fz τ3 z)) ∧ t σ H Q) (own.map (·.2)) σ H Q := by
  obtain ⟨G, os, F, hh, st, k⟩ := q
  exact go_lc ⟨G, os, F, hh, st, fun J G1 os1 H1 sm1 h1 af wk =>
    lcP_run (own.map fun x : Str × Nat => x.2) h hsm hz (af.st st sm1) h1 wk.toF fun v G' o H' sm h' p => k v G' o os1 H' (sm1.trans sm) h' (af.mono sm) p⟩
theorem lcP (h : mapC f items = some zs) (hsm : Sm items.length) (hc : X.calm = true) (hN : X.N.Nodup) (hi : IJ X tg iter Γ m0 items sh) (ok : BlkOk X.N X.env.scope scope own) (hz : Zs (own.map (·.2)) (out Γ m0))
    (hs : ∀ x, foldedSetIterable iter X.env x = pure x := by intro _; rfl) : LcJ X (.ListComp elt [⟨tg, iter, ifs, 0⟩] scope pos) Γ m0 (oL τ3 zs) :=
  ⟨pe_to (pe_lc hc hN hi ok (lcP_g hg ht he) (lcP_t hg ht he) (lcP_e hg ht he) hs) fun σ H Q q => lcP_imp hg ht he h hsm hc hN hi ok hz hs q,
   fun hy hyl hsw => ps_to (ps_setLc hc hN hy hyl hsw hi ok (lcP_g hg ht he) (lcP_t hg ht he) (lcP_e hg ht he) hs) fun D σ H q => lcP_imp hg ht he h hsm hc hN hi ok hz hs q⟩
end
/-- the turns of a comprehension with a state -/
theorem lcS_run {items : List β} {sh : β → Sh} {f : S → β → Option (Option γ × S)} {s0 s1 : S} {zs : List γ} {Γs : S → Ct} {Γy : S → β → Ct} {me : S → β → S → Option Ct} {fl : List Bool} {σ : L2.St} {Q : VK} {G1 : Hp} {os1 F : Ow} {H1 : Hp} {J : It} (vs : List Nat) (h : foldC f s0 items = some (zs, s1)) (hsm : Sm items.length)
    (hz : ∀ s, ∀ v ∈ vs, (Γs s)[v]? = some none ∨ (Γs s).length ≤ v) (st0 : StA (Γs s0) (wipe σ vs) G1 os1) (h1 : HH G1 (os1 ++ F) H1) (wk : WkF F J G1 items sh)
    (hl : ∀ s y s', fl.length = (out (Γy s y) (me s y s')).length) (hm : ∀ s y s', mask fl (out (Γy s y) (me s y s')) = Γs s') (hl0 : ∀ s y, fl.length = (Γy s y).length) (hm0 : ∀ s y, mask fl (Γy s y) = Γs s) (hk : ∀ s y s', f s y = some (none, s') → s' = s)
    (k : ∀ v G' o os' H', Same G1 G' → HH G' (o ++ (os' ++ F)) H' → StA (Γs s1) σ G' os' → (oL τ3 zs).p G' o v → Q v H') :
    ∀ A, H1 A = none → ∃ W : Nat → Nat → Hp → Prop, (∃ m, W 0 m (upd H1 A (.lst []))) ∧ ∀ i m H, W i m H →
      (J.stop i H ∧ Q (.ref A) H) ∨ (J.go i H ∧ ∃ Nx : Hp → Prop, (∀ H', Nx H' → ∃ m', m' < m ∧ W (i + 1) m' H') ∧ ∀ x H', J.yld i H x H' → (∃ t, (∃ s y, t = tG0 vs (Γs s) (Γy s y) (sh y)) ∧ t x (wipe σ vs) H' fun σ2 H2 => wipe σ2 vs = wipe σ vs ∧
        ∃ t, (∃ s y oz s', y ∈ items ∧ f s y = some (oz, s') ∧ t = tB (Γy s y) none oz.isSome) ∧ t σ2 H2 fun b H3 => if b = true then (∃ t, (∃ s y z s', y ∈ items ∧ f s y = some (some z, s') ∧ t = tT (Γy s y) (me s y s') (fz τ3 z)) ∧ t σ2 H3 fun y H4 => ∃ acc, H4 A = some (.lst acc) ∧ acc.length < sizeLine ∧ Nx (upd H4 A (.lst (acc ++ [y])))) else Nx H3)) := by
  intro A nA
  refine ⟨fun i mm H => mm = items.length - i ∧ i ≤ items.length ∧ ∃ s ws acc zr G' os', Same G1 G' ∧ HH G' ((A, .lst ws) :: (os' ++ F)) H ∧ StA (Γs s) (wipe σ vs) G' os' ∧ Paired (τ3.rep G') ws acc ∧ acc.length ≤ i ∧ foldC f s (items.drop i) = some (zr, s1) ∧ zs = acc ++ zr, ⟨_, rfl, Nat.zero_le _, s0, [], [], zs, G1, os1, Same.refl _, h1.push nA, st0, .nil, Nat.le_refl _, h, rfl⟩, ?_⟩
  rintro i mm H2 ⟨rfl, hle, s2, ws, acc, zr, G2, os2, sm2, h2, st2, pr, hal, hf, ez⟩
  obtain ⟨wst, wi⟩ := wk G2 _ H2 sm2 h2 in_fr
  by_cases hlt : i < items.length
  · obtain ⟨y, hy, hd⟩ := drop_get hlt
    rw [hd] at hf
    obtain ⟨⟨oz, s3⟩, ho, hf⟩ := Option.bind_eq_some_iff.mp (show (f s2 y).bind _ = some (zr, s1) from hf)
    obtain ⟨⟨zr', s4⟩, hf1, hf2⟩ := Option.bind_eq_some_iff.mp hf
    have e1 := Option.some.inj hf2
    have ezr : zr = oz.toList ++ zr' := (congrArg Prod.fst e1).symm
    have es : s4 = s1 := congrArg Prod.snd e1
    subst ezr es
    obtain ⟨go, yl⟩ := wi i y hy
    have hmem := List.mem_of_getElem? hy
    refine .inr ⟨go, fun H => ∃ s ws acc zr G' os', Same G1 G' ∧ HH G' ((A, .lst ws) :: (os' ++ F)) H ∧ StA (Γs s) (wipe σ vs) G' os' ∧ Paired (τ3.rep G') ws acc ∧ acc.length ≤ i + 1 ∧ foldC f s (items.drop (i + 1)) = some (zr, s4) ∧ zs = acc ++ zr, fun H' q => ⟨items.length - (i + 1), by omega, rfl, hlt, q⟩, fun x H3 y3 => ?_⟩
    obtain ⟨G3, sm3, h3, py⟩ := yl x H3 y3
    refine ⟨_, ⟨s2, y, rfl⟩, G3, os2, (A, .lst ws) :: F, h3.perm (perm_in _ _ _), st2.mono sm3, py, fun σ4 w4 st4 => ⟨by rw [w4, wipe_idem], ?_⟩⟩
    have w4' : wipe σ4 vs = wipe σ vs := by rw [w4, wipe_idem]
    refine ⟨_, ⟨s2, y, oz, s3, hmem, ho, rfl⟩, G3, os2, (A, .lst ws) :: F, h3.perm (perm_in _ _ _), st4, fun G5 os5 H5 sm5 h5 (e5 : os5 = os2) => ?_⟩
    subst e5
    -- back to the slots ahead of the turn
    have back : ∀ {Γ' : Ct} {G' : Hp} {os' F' : Ow} {H' : Hp} {s' : S}, StA Γ' σ4 G' os' → HH G' (os' ++ F') H' → fl.length = Γ'.length → mask fl Γ' = Γs s' → ∃ os6, HH G' (os6 ++ F') H' ∧ StA (Γs s') (wipe σ vs) G' os6 := fun {Γ' G' os' F' H' s'} st hh l e => by
      obtain ⟨os6, h6, st6⟩ := HH.masked hh st l
      rw [e] at st6
      refine ⟨os6, h6, ?_⟩
      rw [← w4']
      have := StA.wipes st6 vs
      have key : ∀ (us : List Nat), (∀ u ∈ us, (Γs s')[u]? = some none ∨ (Γs s').length ≤ u) → nones us (Γs s') = Γs s' ∧ Zs us (Γs s') := by
        intro us
        induction us with
        | nil => intro _; exact ⟨rfl, trivial⟩
        | cons u us ih =>
          intro hu
          obtain ⟨a, b⟩ := ih fun w hw => hu w (List.mem_cons_of_mem _ hw)
          have hu1 := hu u (List.mem_cons_self ..)
          constructor
          · show (nones us (Γs s')).set u none = _
            rw [a]
            rcases hu1 with q | q
            · obtain ⟨hlt, e⟩ := List.getElem?_eq_some_iff.mp q
              rw [← e]
              exact List.set_getElem_self hlt
            · exact List.set_eq_of_length_le q
          · refine ⟨?_, b⟩
            rw [a]
            intro s e
            rcases hu1 with q | q
            · rw [q] at e; cases e
            · rw [List.getElem?_eq_none q] at e; cases e
      obtain ⟨ka, kb⟩ := key vs (hz s')
      have r := this kb
      rw [ka] at r
      exact r
    cases oz with
    | none =>
      have e3 := hk _ _ _ ho
      subst e3
      obtain ⟨os6, h6, st6⟩ := back (st4.mono sm5) h5 (hl0 _ _) (hm0 _ _)
      refine ⟨s3, ws, acc, zr', G5, os6, (sm2.trans sm3).trans sm5, h6.perm (perm_in _ _ _).symm, st6, pair_mono (sm3.trans sm5) pr, by omega, hf1, ?_⟩
      rw [ez]; rfl
    | some z =>
      refine ⟨_, ⟨s2, y, z, s3, hmem, ho, rfl⟩, G5, os5, (A, .lst ws) :: F, h5, st4.mono sm5, fun v G6 o6 os6 H6 sm6 h6 af6 ⟨eo, rv⟩ => ?_⟩
      subst eo
      obtain ⟨os7, h7, st7⟩ := back (af6.st (st4.mono sm5) sm6) h6 (hl _ _ _) (hm _ _ _)
      have h7' : HH G6 ((A, .lst ws) :: (os7 ++ F)) H6 := h7.perm (perm_in _ _ _).symm
      have e7 : ws.length = acc.length := pr_len pr
      refine ⟨ws, h7'.get, Sm.lt (Nat.le_trans (by omega) hsm), s3, ws ++ [v], acc ++ [z], zr', G6, os7, ((sm2.trans sm3).trans sm5).trans sm6, h7'.put (.inr fun _ _ z => nomatch z), st7, pr_snoc (pair_mono ((sm3.trans sm5).trans sm6) pr) rv, ?_, hf1, ?_⟩
      · rw [List.length_append]; simp; omega
      · rw [ez, List.append_assoc]; rfl
  · have e : i = items.length := by omega
    subst e
    rw [List.drop_length] at hf
    have e1 := Option.some.inj hf
    have ezr : zr = [] := (congrArg Prod.fst e1).symm
    have es : s2 = s1 := congrArg Prod.snd e1
    subst ezr es
    rw [List.append_nil] at ez
    subst ez
    exact .inl ⟨wst, k (.ref A) G2 [(A, .lst ws)] os2 H2 sm2 h2 (st2.unwipe fun v hv => hz s2 v hv) ⟨A, ws, rfl, rfl, pr⟩⟩
section
variable {scope : Scope} {own : List (Str × Nat)} {items : List β} {sh : β → Sh} {f : S → β → Option (Option γ × S)} {s0 s1 : S} {zs : List γ} {Γs : S → Ct} {Γy : S → β → Ct} {me : S → β → S → Option Ct} {fl fl0 : List Bool}
/-- [e for x in xs if c], with a state -/
theorem lcS (hg : ∀ (s : Shared) (H : Hp) (C : Addr) (cl : List (Str × Addr)) (fp : List Addr) w y, GJ0 (Bk X s H scope C cl fp) tg (own.map (·.2)) (Γs w) (Γy w y) (sh y))
    (ht : ∀ (s : Shared) (H : Hp) (C : Addr) (cl : List (Str × Addr)) (fp : List Addr) w y oz w', y ∈ items → f w y = some (oz, w') → TsJ (Bk X s H scope C cl fp) ifs (Γy w y) none oz.isSome)
    (he : ∀ (s : Shared) (H : Hp) (C : Addr) (cl : List (Str × Addr)) (fp : List Addr) w y z w', y ∈ items → f w y = some (some z, w') → EJ (Bk X s H scope C cl fp) elt (Γy w y) (me w y w') (fz τ3 z))
    (h : foldC f s0 items = some (zs, s1)) (hsm : Sm items.length) (hc : X.calm = true) (hN : X.N.Nodup) (hi : IJ X tg iter Γ m0 items sh) (ok : BlkOk X.N X.env.scope scope own)
    (hl1 : fl0.length = (out Γ m0).length) (hm1 : mask fl0 (out Γ m0) = Γs s0) (hz : ∀ s, ∀ v ∈ own.map (fun x : Str × Nat => x.2), (Γs s)[v]? = some none ∨ (Γs s).length ≤ v)
    (hl : ∀ s y s', fl.length = (out (Γy s y) (me s y s')).length) (hm : ∀ s y s', mask fl (out (Γy s y) (me s y s')) = Γs s') (hl0 : ∀ s y, fl.length = (Γy s y).length) (hm0 : ∀ s y, mask fl (Γy s y) = Γs s) (hk : ∀ s y s', f s y = some (none, s') → s' = s)
    (hs : ∀ x, foldedSetIterable iter X.env x = pure x := by intro _; rfl) : LcJ X (.ListComp elt [⟨tg, iter, ifs, 0⟩] scope pos) Γ (some (Γs s1)) (oL τ3 zs) := by
  have run : ∀ σ H Q, tT Γ (some (Γs s1)) (oL τ3 zs) σ H Q → tLc (tI Γ m0 items sh) (fun v σ H Q => ∃ t, (∃ s y, t = tG0 (own.map (·.2)) (Γs s) (Γy s y) (sh y)) ∧ t v σ H Q) (fun σ H Q => ∃ t, (∃ s y oz s', y ∈ items ∧ f s y = some (oz, s') ∧ t = tB (Γy s y) none oz.isSome) ∧ t σ H Q) (fun σ H Q => ∃ t, (∃ s y z s', y ∈ items ∧ f s y = some (some z, s') ∧ t = tT (Γy s y) (me s y s') (fz τ3 z)) ∧ t σ H Q) (own.map (·.2)) σ H Q := fun σ H Q ⟨G, os, F, hh, st, k⟩ => go_lc ⟨G, os, F, hh, st, fun J G1 os1 H1 sm1 h1 af wk => by
      obtain ⟨os2, h2, st2⟩ := HH.masked h1 (af.st st sm1) hl1
      rw [hm1] at st2
      have st3 : StA (Γs s0) (wipe σ (own.map fun x : Str × Nat => x.2)) G1 os2 := by
        have key : ∀ (us : List Nat), (∀ u ∈ us, (Γs s0)[u]? = some none ∨ (Γs s0).length ≤ u) → nones us (Γs s0) = Γs s0 ∧ Zs us (Γs s0) := by
          intro us
          induction us with
          | nil => intro _; exact ⟨rfl, trivial⟩
          | cons u us ih =>
            intro hu
            obtain ⟨a, b⟩ := ih fun w hw => hu w (List.mem_cons_of_mem _ hw)
            have hu1 := hu u (List.mem_cons_self ..)
            constructor
            · show (nones us (Γs s0)).set u none = _
              rw [a]
              rcases hu1 with q | q
              · obtain ⟨hlt, e⟩ := List.getElem?_eq_some_iff.mp q
                rw [← e]
                exact List.set_getElem_self hlt
              · exact List.set_eq_of_length_le q
            · refine ⟨?_, b⟩
              rw [a]
              intro s e
              rcases hu1 with q | q
              · rw [q] at e; cases e
              · rw [List.getElem?_eq_none q] at e; cases e
        obtain ⟨ka, kb⟩ := key (own.map fun x : Str × Nat => x.2) (hz s0)
        have r := StA.wipes st2 _ kb
        rw [ka] at r
        exact r
      exact lcS_run (own.map fun x : Str × Nat => x.2) h hsm hz st3 h2 wk.toF hl hm hl0 hm0 hk fun v G' o os' H' sm h' st' p => k v G' o os' H' (sm1.trans sm) h' st' p⟩
  exact ⟨pe_to (pe_lc hc hN hi ok (g := fun v σ H Q => ∃ t, (∃ s y, t = tG0 (own.map (·.2)) (Γs s) (Γy s y) (sh y)) ∧ t v σ H Q) (tt := fun σ H Q => ∃ t, (∃ s y oz s', y ∈ items ∧ f s y = some (oz, s') ∧ t = tB (Γy s y) none oz.isSome) ∧ t σ H Q) (te := fun σ H Q => ∃ t, (∃ s y z s', y ∈ items ∧ f s y = some (some z, s') ∧ t = tT (Γy s y) (me s y s') (fz τ3 z)) ∧ t σ H Q)
    (fun s H C cl fp => pg_ex fun t ⟨s', y, e⟩ => by subst e; exact hg s H C cl fp s' y)
    (fun s H C cl fp => pts_ex fun t ⟨s', y, oz, s'', hm, hf, e⟩ => by subst e; exact ht s H C cl fp s' y oz s'' hm hf)
    (fun s H C cl fp => pe_ex fun t ⟨s', y, z, s'', hm, hf, e⟩ => by subst e; exact he s H C cl fp s' y z s'' hm hf) hs) run,
    fun hy hyl hsw => ps_to (ps_setLc hc hN hy hyl hsw hi ok (g := fun v σ H Q => ∃ t, (∃ s y, t = tG0 (own.map (·.2)) (Γs s) (Γy s y) (sh y)) ∧ t v σ H Q) (tt := fun σ H Q => ∃ t, (∃ s y oz s', y ∈ items ∧ f s y = some (oz, s') ∧ t = tB (Γy s y) none oz.isSome) ∧ t σ H Q) (te := fun σ H Q => ∃ t, (∃ s y z s', y ∈ items ∧ f s y = some (some z, s') ∧ t = tT (Γy s y) (me s y s') (fz τ3 z)) ∧ t σ H Q)
    (fun s H C cl fp => pg_ex fun t ⟨s', y, e⟩ => by subst e; exact hg s H C cl fp s' y)
    (fun s H C cl fp => pts_ex fun t ⟨s', y, oz, s'', hm, hf, e⟩ => by subst e; exact ht s H C cl fp s' y oz s'' hm hf)
    (fun s H C cl fp => pe_ex fun t ⟨s', y, z, s'', hm, hf, e⟩ => by subst e; exact he s H C cl fp s' y z s'' hm hf) hs) fun D σ H q => run _ _ _ q⟩
end
end
end Sl

set_option Elab.async false
set_option linter.all false
set_option maxRecDepth 100000
namespace Sl
open PySem PySem.Spec PyProof.Rows L2 Dl
/-! ### promises of calls that know that no display is under way -/
structure RoomG (k : Nat) (A : Around) : Prop where
  room : Room k A
  gd : A.guards = some []
theorem RoomG.mono {j k : Nat} {A : Around} (r : RoomG k A) (h : j ≤ k) : RoomG j A := ⟨r.room.mono h, r.gd⟩
theorem RoomG.units {k : Nat} {A : Around} (r : RoomG k A) : A.units + 64 < cLine := r.room.units
theorem RoomG.deeper {k : Nat} {A : Around} (r : RoomG (k + 1) A) (env : Env) : RoomG k (A.deeper env) := ⟨r.room.deeper env, r.gd⟩
theorem RoomG.make {k : Nat} {A : Around} (r : RoomG (k + 1) A) (C : Addr) (us : List Value) (kw : List (Str × Value)) : RoomG k (A.under (.builtin "type.__call__" ⟨.ref C :: us, kw⟩)) :=
  ⟨r.room.make C us kw, by
    have := r.gd
    first
      | exact this
      | simpa [Around.under, Code.guards, Code.isGuard, pushGuards] using this⟩
section
variable {P : Program} {w : World} {K : PySem.W.Frag} {mg : Str → Option Value} {base : Heap}
structure FnG (P : Program) (w : World) (K : PySem.W.Frag) (mg : Str → Option Value) (base : Heap) (CX : CXT) (k : Nat)
    (f : Addr) (fd : FuncData) (ps : List Str) (sp : Sp) : Prop where
  len : ∀ vs H Q E, sp vs H Q E → vs.length = ps.length
  go : ∀ (A : Around) (out : List Env) (s : Shared) (H : Hp) (args : Args) (us : List Value) (vs : List V) (Q : VK) (E : XK),
    RoomG k A → Env0 P w K mg base A out s H → BindsTo s fd args (ps.zip us) → Vals vs us → sp vs H Q E →
      codeAny (model P w) A (.call (.ref f) args) (CR CX out P w H s Q E) s
theorem FnG.mono {CX : CXT} {j k : Nat} {f : Addr} {fd : FuncData} {ps : List Str} {sp : Sp} (F : FnG P w K mg base CX j f fd ps sp) (h : j ≤ k) : FnG P w K mg base CX k f fd ps sp :=
  ⟨F.len, fun A out s H args us vs Q E r => F.go A out s H args us vs Q E (r.mono h)⟩
structure CalG (P : Program) (w : World) (K : PySem.W.Frag) (mg : Str → Option Value) (base : Heap) (CX : CXT) (k : Nat) (x : Str) (ps : List Str) (sp : Sp) : Prop where
  ex : ∃ f fd, FnG P w K mg base CX k f fd ps sp ∧ mg x = some (.ref f) ∧ PySem.W.keepIn K (.ref f) = true ∧ Binds K fd ps []
end
section
variable {X : Cx} {CX : CXT} {k : Nat} {f C : Addr} {fd : FuncData} {ps : List Str} {sp : Sp} {E : XK} {x m : Str} {p pos apos : Pos} {e o : Expr} {es : List Expr} {ta : TE} {t : TA}
theorem sp_nil {vs : List V} {H : Hp} {Q : VK} (h : sp (vs ++ []) H Q E) : sp vs H Q E := by
  have e := List.append_nil vs
  rw [e] at h
  exact h
theorem sp_nil1 {v : V} {vs : List V} {H : Hp} {Q : VK} (h : sp (v :: (vs ++ [])) H Q E) : sp (v :: vs) H Q E := by
  have e := List.append_nil vs
  rw [e] at h
  exact h
theorem runG {pins : List (Addr × Obj)} {σ : L2.St} {H : Hp} {s : Shared} {Q : VK} {us : List Value} {vs : List V} (F : FnG X.prog X.w X.K X.mg X.base CX k f fd ps sp) (hr : RoomG k X.A)
    (hb : Binds X.K fd ps []) (hx : Passes CX X E) (I : Inv X pins σ H s) (r : Vals vs us) (h : sp vs H Q E) : wpAny (model X.prog X.w) X.A (call (.ref f) us) (EP X pins σ Q) X.xe s := by
  have hl : us.length = ps.length := r.length ▸ F.len _ _ _ _ h
  have hbind := hb s us I.kIn (by rw [List.append_nil]; exact hl)
  rw [List.append_nil] at hbind
  refine wpAny_call (codeAny_mono (F.go X.A X.stack s H ⟨us, []⟩ us vs Q E hr I.env0 hbind r h) fun z t hq => ?_)
  match z, hq with
  | .ok (.ret u), hq => exact I.after hq
  | .ok .next, hq => exact hq.elim
  | .ok .brk, hq => exact hq.elim
  | .ok .cont, hq => exact hq.elim
  | .error d, hq => exact hx pins σ H s d t I hq
theorem pe_callCG (c : CalG X.prog X.w X.K X.mg X.base CX k x ps sp) (hr : RoomG k X.A) (hg : Gl X x) (hx : Passes CX X E) (ha : PA X (e :: es) t) (hdb : (x == ("__debug__" : Str)) = false := by decide)
    (he : starEach (e :: es) X.env = (false, eval e X.env) :: starEach es X.env := by rfl) (hpl : (backTo pos (starEach es X.env)).any (·.1) = false := by rfl) : PE X (.Call (.Name x p) (e :: es) [] pos) (tCall sp [] E t) := by
  obtain ⟨f, fd, F, g, kp, b⟩ := c.ex
  constructor
  intro pins s σ H Q I h
  exact wpAny_Call_Name_kw (ld_glob I hg g (PySem.W.callWith_K (h₀ := X.base) I.ok.mod.kin kp (thn (ha.run pos pins s σ H _ I h) fun us s1 ⟨vs, H1, I1, r, q⟩ =>
    ⟨I1.kIn, runG F hr b hx I1 r (sp_nil q)⟩) he hpl) hdb)
theorem pe_methG0 {pl : Sem Bool} (ho : PE X o ta) (c : Cls X.K C) (hm : Meth X.K C m f) (F : FnG X.prog X.w X.K X.mg X.base CX k f fd ps sp) (hr : RoomG k X.A) (hb : Binds X.K fd ps []) (hx : Passes CX X E)
    (ht : eval (.Call (.Attribute o m apos) [] [] pos) X.env = (do
      let v ← eval o X.env
      standAt apos.atName
      let (g, first) ← holding [v] (getMethod v m pl)
      callWith pos g first (backTo pos (starEach [] X.env)) (backToKw pos (keywordEach [] X.env)))) :
    PE X (.Call (.Attribute o m apos) [] [] pos) (tMeth C m sp [] E ta tNil) := by
  constructor
  intro pins s σ H Q I h
  refine PySem.W.methodCall_KW (pl := pl) (thn (ho.run pins s σ H _ I h) fun u s1 ⟨v, H1, I1, rv, a, dx, fs, ev, ea, l, q⟩ => ?_) ht
  subst ev
  cases (show u = Value.ref a from rv)
  exact getmeth_ok I1 ea c hm l (PySem.W.callWith_K0 (first := [.ref a]) I1.kIn hm.kp (runG (us := [.ref a]) (vs := [.ref a]) F hr hb hx I1 (.cons rfl .nil) q))
theorem pe_makeG (M : Mk X.K C f) (F : FnG X.prog X.w X.K X.mg X.base CX k f fd ps sp) (hr : RoomG (k + 1) X.A) (hg : Gl X x) (hm : X.mg x = some (.ref C)) (hb : Binds X.K fd ps []) (hx : Passes CX X E)
    (ha : PA X (e :: es) t) (hdb : (x == ("__debug__" : Str)) = false) (he : starEach (e :: es) X.env = (false, eval e X.env) :: starEach es X.env) (hpl : (backTo pos (starEach es X.env)).any (·.1) = false) :
    PE X (.Call (.Name x p) (e :: es) [] pos) (tMake C sp [] E t) := by
  constructor
  intro pins s0 σ H0 Q I0 h0
  refine wpAny_Call_Name_kw (ld_glob I0 hg hm (PySem.W.callWith_K (h₀ := X.base) I0.ok.mod.kin M.kp (thn (ha.run pos pins s0 σ H0 _ I0 h0) fun us s ⟨vs, H, I, r, q⟩ => ⟨I.kIn, ?_⟩) he hpl) hdb)
  have new := sp_nil1 (q (s.heap.objs.size + 1) s.heap.objs.size (I.hok.fresh (Nat.le_succ _)) (I.hok.fresh (Nat.le_refl _)) (Nat.ne_of_lt (Nat.lt_succ_self _)))
  have I2 := Inv.made (C := C) I
  have r2 : Vals (V.ref (s.heap.objs.size + 1) :: vs) (Value.ref (s.heap.objs.size + 1) :: us) := .cons rfl r
  have hl : (Value.ref (s.heap.objs.size + 1) :: us).length = ps.length := r2.length ▸ F.len _ _ _ _ new
  have hbind := hb _ (Value.ref (s.heap.objs.size + 1) :: us) I2.kIn (by rw [List.append_nil]; exact hl)
  rw [List.append_nil] at hbind
  refine wpAny_call (make_map (f := f) I.kIn M.makes M.init (beq_iff_eq.mp M.fn) (codeAny_mono (F.go _ X.stack _ _ ⟨Value.ref (s.heap.objs.size + 1) :: us, []⟩ _ _ _ E (hr.make C us []) (I2.env0.make C us []) hbind r2 new) fun z t hq => ?_))
  match z, hq with
  | .ok (.ret u), hq =>
    obtain ⟨v, H', I3, rv, ev, q3⟩ := I2.after hq
    subst ev
    exact ⟨rv, ⟨V.ref (s.heap.objs.size + 1), H', I3, rfl, q3⟩⟩
  | .ok .next, hq => exact hq.elim
  | .ok .brk, hq => exact hq.elim
  | .ok .cont, hq => exact hq.elim
  | .error d, hq => exact hx pins σ _ _ d t I2 hq
end
section
variable {P : Program} {w : World} {K : PySem.W.Frag} {mg : Str → Option Value} {base : Heap}
/-- a def, by its body -/
theorem Fun.okG {x q : Str} {st : Stmt} {f : Addr} {fd : FuncData} {N ps : List Str} {k : Nat} {sp : Sp} (D : Fun K x q st f fd) (S : FnScope N ps (defScope st)) (len : ∀ vs H Q E, sp vs H Q E → vs.length = ps.length)
    (body : ∀ (cdv : Value) (A : Around) (outer : List Env) (s : Shared) (H : Hp) (vs : List V) (Q : VK) (E : XK), RoomG k (A.deeper (envOfC q (defScope st) s.heap.objs.size f cdv)) → sp vs H Q E →
      ∃ t, PSs (cxOf CX0 P w K mg base N q (defScope st) f cdv A outer s H E).nox (defBody st) t ∧ t { nx := fun _ H' => Q .non H', rt := Q } (start N vs) H) : FnG P w K mg base CX0 (k + 1) f fd ps sp := by
  obtain ⟨oc, od, kV, doc, pm, an, cdv, ct, osl, rfl, lk, hcd⟩ := D.ex
  refine ⟨len, fun A outer s H args us vs Q E hr e0 hb r hsp => ?_⟩
  have inK : K.In s.heap := e0.mod.kin.keeps fun b o z => (e0.bs b o z).1
  have lim : s.heap.NoLimit := e0.mod.nolimit.keeps fun b o z => (e0.bs b o z).1
  refine codeAny_call_function hr.room.depth (inK _ _ lk) rfl S.co S.gen rfl (PySem.W.codeRec_of inK hcd) (hb _ _ _ _ (wpAny_newFunctionEnv_cells S.kind (fun ⟨n, v⟩ hy => ?_) fun env he s1 y => ?_))
  · rcases S.par n (List.of_mem_zip hy).1 with z | z
    · exact .inl z
    · exact .inr ⟨z, PySem.W.cellsFrom_some _ _ _ (.inl z)⟩
  subst he
  obtain ⟨t, ht, hq⟩ := body cdv A outer s H vs Q E (hr.deeper _) hsp
  refine ⟨lim.keeps y.toInCall.keep, codeAny_func (wpAny_mono (ht.nox.run [] s1 (start N vs) H _ (inv_start S hr.room.hd e0 (len _ _ _ _ hsp) r y) hq) (fun fl s' hs => ?_) fun _ _ z => z)⟩
  match fl, hs with
  | .ret u, ⟨v, σ', H', J, rv, z⟩ => exact ⟨v, H', J.os, J.bare, J.base, J.hok, rv, z⟩
  | .next, ⟨σ', H', J, z⟩ => exact ⟨.non, H', J.os, J.bare, J.base, J.hok, rfl, z⟩
  | .brk, ⟨_, _, _, z⟩ => exact z.elim
  | .cont, ⟨_, _, _, z⟩ => exact z.elim
end
end Sl

set_option Elab.async false
set_option linter.all false
set_option maxRecDepth 100000
namespace Sl
open PySem PySem.Spec PyProof.Rows L2 Dl
section
variable {P : Program} {w : World} {K : PySem.W.Frag} {mg mb : Str → Option Value} {CX : CXT} {k : Nat} {fa a : Addr} {fd : FuncData} {x : Str} {sp : Sp} {s1 : Shared} {vs : List Value} {ns : List Int}
/-- the script's object as it lies -/
abbrev scrObj (vs : List Value) : Obj := { cls := .type "list", data := .seq vs.toArray }
/-- the law runs from an abstract heap that tracks the script at most -/
theorem law_fromG (inK : K.In s1.heap) (hns : s1.heap.Ns mainGlobals mg) (hb : s1.heap.Ns builtinsNs mb) (hbb : ∀ x : Str, x ≠ "__name__" → mb x = bootBuiltins x) (hlim : s1.heap.NoLimit) (hg : s1.gens = #[])
    (obj : s1.heap.get? a = some (scrObj vs)) (hr : RoomG k callerA) (F : ∀ base : Heap, K.In base → base.Ns mainGlobals mg → FnG P w K mg base CX k fa fd [x] sp) (bind : ∀ (s : Shared) (u : Value), BindsTo s fd ⟨[u], []⟩ [(x, u)])
    (noX : ∀ H e s', CX [] H s1 (fun _ _ _ => False) e s' → False) {H : Hp} (hO : Only H) (hS : sp [.ref a] H (fun v _ => v = .bl true) fun _ _ _ => False) (hok : HOk P w H s1.heap) (hA : ∀ b, H b ≠ none → b = a) (hK : H a ≠ none → K.lookup a = none) :
    codeAny (model P w) callerA (.call (.ref fa) ⟨[.ref a], []⟩) (fun r s' => r = .ok (.ret (.bool true)) ∧ OldK s1.heap s'.heap ∧ s'.os = s1.os ∧ AllBare s'.gens) s1 := by
  have away : ∀ {b : Addr}, b ≠ a → H b = none := fun {b} nb => by
    rcases hh : H b with _ | u
    · rfl
    · exact absurd (hA b (by rw [hh]; exact fun z => nomatch z)) nb
  have nsB : ∀ {b : Addr} {m : Str → Option Value}, s1.heap.Ns b m → (hidT s1.heap H).Ns b m := fun {b m} ⟨o, es, ep, e, d, r⟩ => ⟨o, es, ep, hidT_get e (away fun z => by
    subst z
    rw [obj] at e
    cases e
    cases (show Data.seq vs.toArray _ = Data.dict es ep from d)), d, r⟩
  have inB : K.In (hidT s1.heap H) := fun b o e => hidT_get (inK b o e) (by
    by_cases nb : b = a
    · subst nb
      rcases hh : H b with _ | u
      · rfl
      · rw [hK (by rw [hh]; exact fun z => nomatch z)] at e
        cases e
    · exact away nb)
  have ground : Mod K mg (hidT s1.heap H) := ⟨inB, nsB hns, ⟨mb, nsB hb, hbb⟩, hlim.elim fun mc h => ⟨mc, nsB h.1, h.2⟩⟩
  have e0 : Env0 P w K mg (hidT s1.heap H) callerA [] s1 H :=
    { frames := rfl, mod := ground, bs := fun b o e => of_hidT e, bsz := Nat.le_of_eq (hidT_size _ _), funs := trivial, frf := fun b z => (nomatch z), hok := hok, bare := .of_eq hg }
  refine codeAny_mono ((F _ inB (nsB hns)).go callerA [] s1 H ⟨[.ref a], []⟩ [.ref a] [.ref a] _ _ hr e0 (bind s1 (.ref a)) (.cons rfl .nil) hS) fun r s' h => ?_
  match r, h with
  | .error e, h => exact (noX H e s' h).elim
  | .ok .next, h => exact h.elim
  | .ok .brk, h => exact h.elim
  | .ok .cont, h => exact h.elim
  | .ok (.ret u), ⟨v, H', os, bare, un, ok2, r2, q⟩ =>
    cases (show v = V.bl true from q)
    cases (show u = Value.bool true from r2)
    refine ⟨rfl, OldK.of_keep fun b o e => ?_, os, bare⟩
    rcases hh : H b with _ | u
    · exact un.keep b o e hh (fun z => nomatch z) (by simp)
    · rcases hO b with z | ⟨ob, xs, z⟩
      · rw [hh] at z
        cases z
      · have l1 := (hok b _ z).1
        have l2 := (ok2 b _ (un.frzs b ob _ z)).1
        rw [e] at l1
        cases l1
        exact l2
theorem law_callG (inK : K.In s1.heap) (hns : s1.heap.Ns mainGlobals mg) (hb : s1.heap.Ns builtinsNs mb) (hbb : ∀ x : Str, x ≠ "__name__" → mb x = bootBuiltins x) (hlim : s1.heap.NoLimit) (hg : s1.gens = #[])
    (obj : s1.heap.get? a = some (scrObj vs)) (hi : IntsAre vs ns) (hl : ns.length ≤ sizeLine) (hr : RoomG k callerA) (F : ∀ base : Heap, K.In base → base.Ns mainGlobals mg → FnG P w K mg base CX k fa fd [x] sp)
    (bind : ∀ (s : Shared) (u : Value), BindsTo s fd ⟨[u], []⟩ [(x, u)]) (hsp : ∀ H : Hp, Only H → SqL K H a (ns.map V.int) → sp [.ref a] H (fun v _ => v = .bl true) fun _ _ _ => False) (noX : ∀ H e s', CX [] H s1 (fun _ _ _ => False) e s' → False) :
    codeAny (model P w) callerA (.call (.ref fa) ⟨[.ref a], []⟩) (fun r s' => r = .ok (.ret (.bool true)) ∧ OldK s1.heap s'.heap ∧ s'.os = s1.os ∧ AllBare s'.gens) s1 := by
  have rv := vals_ints hi
  rcases hk : K.lookup a with _ | o
  · let H : Hp := fun b => if b = a then some (.frz (scrObj vs) (.lst (ns.map V.int))) else none
    have Ha : H a = some (.frz (scrObj vs) (.lst (ns.map V.int))) := if_pos rfl
    have Hn : ∀ {b : Addr}, b ≠ a → H b = none := fun nb => if_neg nb
    have hO : Only H := fun b => by
      by_cases nb : b = a
      · exact .inr ⟨_, _, by rw [nb]; exact Ha⟩
      · exact .inl (Hn nb)
    refine law_fromG inK hns hb hbb hlim hg obj hr F bind noX hO (hsp H hO (.inl (.inr ⟨_, Ha⟩))) (fun b u z => ?_) (fun b z => ?_) fun _ => hk
    · by_cases nb : b = a
      · subst nb
        rw [Ha] at z
        cases z
        exact ⟨obj, (by rw [List.length_map]; exact hl), vs, _, rv, obj⟩
      · rw [Hn nb] at z
        cases z
    · by_cases nb : b = a
      · exact nb
      · exact absurd (Hn nb) z
  · have e := inK a o hk
    rw [obj] at e
    cases e
    refine law_fromG inK hns hb hbb hlim hg obj hr F bind noX (H := fun _ => none) (fun _ => .inl rfl) (hsp _ (fun _ => .inl rfl) (.inr ⟨_, vs.toArray, _, hk, rfl, rfl, rfl, ?_, ?_⟩)) (fun b u z => nomatch z) (fun b z => absurd rfl z) fun z => absurd rfl z
    · rw [List.size_toArray, hi.length]
      exact hl
    · simpa using rv
end
theorem walk_ofG {l : PySem.W.OpenLaw} {n k : Nat} {q : Program} {loose : List Str} {XP : (Str → Option Value) → Heap → Prop} {YP : World → Heap → Prop} {d : DefRec} {K : Params → PySem.W.Frag} {sp : World → Sp} {x : Str}
    (hn : l.most = some n) (hn2 : n ≤ sizeLine) (hdf : d.params.defaults = []) (hr : Room k callerA) (hY : ∀ (w : World) (h : Heap), YP w h → (K w.params).In h)
    (F : ∀ (w : World) (mg : Str → Option Value) (fa : Addr) (h : Heap), (K w.params).In h → h.Ns mainGlobals mg → mg d.name = some (.ref fa) → ∃ fd : FuncData, (∀ (s : Shared) (u : Value), BindsTo s fd ⟨[u], []⟩ [(x, u)]) ∧
      ∀ base : Heap, (K w.params).In base → base.Ns mainGlobals mg → FnG l.prog w (K w.params) mg base CX0 k fa fd [x] (sp w))
    (hsp : ∀ (w : World) (H : Hp) (a : Addr) (ns : List Int), ns.length ≤ n → Only H → SqL (K w.params) H a (ns.map V.int) → sp w [.ref a] H (fun v _ => v = .bl true) fun _ _ _ => False) :
    PySem.W.WalkO q loose XP YP l.row.toRowW d [] (fun f vs => PySem.call f vs) :=
  Att.attach_call hn hdf fun w s₀ s1 mg mb fa o pm cd doc a vs ns G Y ho hd hcd hmg obj hin len hg => by
    have inK := hY w _ Y
    obtain ⟨fd, hb, hF⟩ := F w mg fa _ inK G.T.g hmg
    exact law_callG inK G.T.g G.T.b G.T.builtins G.T.nolimit hg obj hin (Nat.le_trans len hn2) ⟨hr, rfl⟩ hF hb (fun H hO hS => hsp w H a ns len hO hS) fun H e s' z => z
end Sl

set_option Elab.async false
set_option linter.all false
set_option maxRecDepth 100000
namespace Sl
open PySem PySem.Spec PyProof.Rows L2 Dl
/-! ### arguments -/
def VA (ss : List Sh) (s : Sh) (r : List V → Hp → VK → Prop) : Prop := ∀ vs G H os o Q, At G H os o → Shs ss G o vs → Out s G os Q → r vs H Q
/-- what a def says: the shapes of its arguments, of its answer, and of the lent ones behind it -/
abbrev Phi := List Sh → Sh → List (Nat × Sh) → Prop
def Lent : List (Nat × Sh) → List V → Hp → Ow → Prop
  | [], _, _, o => o = []
  | p :: L, vs, G, o => ∃ v o1 o2, vs[p.1]? = some v ∧ o = o1 ++ o2 ∧ p.2.p G o1 v ∧ Lent L vs G o2
def spS (n : Nat) (Φ : Phi) : Sp := fun vs H Q _ => ∃ G ow F ss r L, vs.length = n ∧ HH G (ow ++ F) H ∧ Shs ss G ow vs ∧ Φ ss r L ∧ ∀ v G' o ow' H', Same G G' → HH G' (o ++ (ow' ++ F)) H' → r.p G' o v → Lent L vs G' ow' → Q v H'
/-- what the arguments are, and the slots without the lent ones -/
def lshp : List As → Ct → Option (List Sh × Ct)
  | [], Γ => some ([], Γ)
  | .val s :: as, Γ => (lshp as Γ).map fun p => (s :: p.1, p.2)
  | .lend i :: as, Γ => match Γ[i]? with
    | some (some s) => (lshp as (Γ.set i none)).map fun p => (s :: p.1, p.2)
    | _ => none
def lback (as : List As) : List (Nat × Sh) → Ct → Ct
  | [], Γ => Γ
  | p :: L, Γ => match as[p.1]? with
    | some (.lend i) => lback as L (Γ.set i (some p.2))
    | _ => lback as L Γ
theorem lshp_run : ∀ {as : List As} {Γ Γ0 : Ct} {ss : List Sh} {σ : L2.St} {G : Hp} {o os : Ow} {vs : List V}, lshp as Γ = some (ss, Γ0) → AsP as σ G o vs → StA Γ σ G os → ∃ ow rest, (o ++ os).Perm (ow ++ rest) ∧ Shs ss G ow vs ∧ StA Γ0 σ G rest
  | [], Γ, Γ0, ss, σ, G, o, os, vs, h, ⟨e1, e2⟩, st => by
    cases h
    subst e1 e2
    exact ⟨[], os, .refl _, ⟨rfl, rfl⟩, st⟩
  | .val s :: as, Γ, Γ0, ss, σ, G, o, os, vs, h, ⟨v, vr, o1, o2, e1, e2, p1, p2⟩, st => by
    obtain ⟨⟨ss', Γ'⟩, h1, h2⟩ := Option.map_eq_some_iff.mp (show (lshp as Γ).map _ = some (ss, Γ0) from h)
    cases h2
    subst e1 e2
    obtain ⟨ow, rest, pm, q1, q2⟩ := lshp_run h1 p2 st
    exact ⟨o1 ++ ow, rest, by rw [List.append_assoc, List.append_assoc]; exact List.Perm.append_left o1 pm, ⟨v, vr, o1, ow, rfl, rfl, p1, q1⟩, q2⟩
  | .lend i :: as, Γ, Γ0, ss, σ, G, o, os, vs, h, ⟨v, vr, o1, o2, e1, e2, ⟨p0, p1⟩, p2⟩, st => by
    have h : (match Γ[i]? with
      | some (some s) => (lshp as (Γ.set i none)).map fun p => (s :: p.1, p.2)
      | _ => none) = some (ss, Γ0) := h
    split at h
    · rename_i s hi
      obtain ⟨⟨ss', Γ'⟩, h1, h2⟩ := Option.map_eq_some_iff.mp h
      cases h2
      subst e1 e2 p0
      obtain ⟨w, ow, ro, a1, a2, a3, a4, a5⟩ := st.take hi
      rw [p1] at a1
      cases a1
      obtain ⟨ow2, rest, pm, q1, q2⟩ := lshp_run h1 p2 a4
      refine ⟨ow ++ ow2, rest, ?_, ⟨v, vr, ow, ow2, rfl, rfl, a2, q1⟩, q2⟩
      exact (List.Perm.append_left o2 a3).trans ((perm_mid o2 ow ro).trans (by rw [List.append_assoc]; exact List.Perm.append_left ow pm))
    · cases h
theorem set_same {σ : L2.St} {i : Nat} {v : V} (h : σ[i]? = some (some v)) : σ.set i (some v) = σ := by
  obtain ⟨hl, e⟩ := List.getElem?_eq_some_iff.mp h
  rw [← e]
  exact List.set_getElem_self hl
theorem AsP.lent : ∀ {as : List As} {σ : L2.St} {G : Hp} {o : Ow} {vs : List V} {j i : Nat} {v : V}, AsP as σ G o vs → as[j]? = some (.lend i) → vs[j]? = some v → σ[i]? = some (some v)
  | [], _, _, _, _, _, _, _, _, h, _ => by simp at h
  | a :: as, _, _, _, _, 0, _, _, ⟨v, vr, o1, o2, e1, e2, p1, p2⟩, h, hv => by
    simp only [List.getElem?_cons_zero, Option.some.injEq] at h
    subst h e1
    simp only [List.getElem?_cons_zero, Option.some.injEq] at hv
    subst hv
    exact p1.2
  | a :: as, _, _, _, _, j + 1, _, _, ⟨v, vr, o1, o2, e1, e2, p1, p2⟩, h, hv => by
    subst e1
    exact AsP.lent (j := j) p2 (by simpa using h) (by simpa using hv)
theorem lback_run {as : List As} {σ : L2.St} {G0 : Hp} {o0 : Ow} {vs : List V} (ap : AsP as σ G0 o0 vs) {G : Hp} : ∀ {L : List (Nat × Sh)} {Γ : Ct} {ow rest : Ow}, Lent L vs G ow → StA Γ σ G rest → ∃ dead os', (ow ++ rest).Perm (dead ++ os') ∧ StA (lback as L Γ) σ G os'
  | [], Γ, ow, rest, e, st => ⟨[], rest, (by rw [show ow = [] from e]), st⟩
  | p :: L, Γ, ow, rest, ⟨v, o1, o2, e1, e2, p1, p2⟩, st => by
    subst e2
    have key : ∀ (Γ' : Ct) (dead0 os0 : Ow), (o1 ++ rest).Perm (dead0 ++ os0) → StA Γ' σ G os0 → ∃ dead os', (o1 ++ o2 ++ rest).Perm (dead ++ os') ∧ StA (lback as L Γ') σ G os' := fun Γ' dead0 os0 pm st' => by
      obtain ⟨d, os', pm2, q⟩ := lback_run ap (L := L) p2 st'
      refine ⟨dead0 ++ d, os', ?_, q⟩
      rw [List.append_assoc]
      exact (perm_mid o1 o2 rest).trans ((List.Perm.append_left o2 pm).trans ((perm_mid o2 dead0 os0).trans (by rw [List.append_assoc]; exact List.Perm.append_left dead0 pm2)))
    show ∃ dead os', _ ∧ StA (match as[p.1]? with
      | some (.lend i) => lback as L (Γ.set i (some p.2))
      | _ => lback as L Γ) σ G os'
    split
    · rename_i i hi
      have hs := AsP.lent ap hi e1
      have hlen : i < Γ.length := by
        rw [← st.len]
        exact (List.getElem?_eq_some_iff.mp hs).1
      obtain ⟨d, os2, pm, st2⟩ := st.set p1 hlen
      rw [set_same hs] at st2
      exact key _ d os2 pm st2
    · exact key Γ o1 rest (.refl _) st
section
variable {X : Cx} {P : Pn} {Γ Γ0 Γ' Γ1 Γ2 Γm Γn : Ct} {m m0 m1 m2 : Option Ct} {α β γ δ κ ρ S : Type} {τ τ1 : Ty α} {τ2 : Ty β} {τ3 : Ty γ} {s s1 s2 r : Sh} {pos p apos : Pos} {a b e o : Expr} {es : List Expr} {us vs : List Nat} {as : List As} {ss : List Sh} {x : Str} {CX : CXT} {k : Nat} {ps : List Str} {E : XK} {rv : List V → Hp → VK → Prop} {Φ : Phi} {L : List (Nat × Sh)}
theorem aj_nil : AJ X [] Γ none [] := pa_to pa_nil fun σ H Q ⟨G, os, F, hh, st, k⟩ => go_nil (k [] G [] os H (Same.refl _) hh rfl ⟨rfl, rfl⟩)
theorem aj_cons (he : EJ X e Γ m s) (ha : AJ X es (out Γ m) m2 as) (hs : starEach (e :: es) X.env = (false, eval e X.env) :: starEach es X.env := by rfl) : AJ X (e :: es) Γ (cmb m m2) (.val s :: as) :=
  pa_to (pa_cons he ha hs) fun σ H Q ⟨G, os, F, hh, st, k⟩ => go_cons ⟨G, os, F, hh, st, fun v G1 o1 os1 H1 sm1 h1 af1 p1 => ⟨G1, os1, o1 ++ F, h1.perm (perm_mid _ _ _), af1.st st sm1, fun vs G2 o2 os2 H2 sm2 h2 af2 p2 =>
    k (v :: vs) G2 (o1 ++ o2) os2 H2 (sm1.trans sm2) (h2.perm (by
      rw [List.append_assoc]
      exact (List.Perm.append_left o2 (perm_mid os2 o1 F)).trans (perm_mid o2 o1 (os2 ++ F)))) (af1.trans sm2 af2) ⟨v, vs, o1, o2, rfl, rfl, s.mono sm2 p1, p2⟩⟩⟩
theorem aj_lend {i : Nat} (hN : X.N[i]? = some x) (hv : Vis X.env.scope x) (hi : Γ[i]? = some (some s)) (ha : AJ X es Γ m2 as) (hd : (x == ("__debug__" : Str)) = false := by decide) (hcd : (x == ("__classdict__" : Str)) = false := by decide)
    (hs : starEach (.Name x p :: es) X.env = (false, eval (.Name x p) X.env) :: starEach es X.env := by rfl) : AJ X (.Name x p :: es) Γ m2 (.lend i :: as) :=
  pa_to (pa_cons (pe_var (i := i) hN hv hd hcd) ha hs) fun σ H Q ⟨G, os, F, hh, st, k⟩ => by
    obtain ⟨v, o, rest, a1, a2, a3, a4, a5⟩ := st.take hi
    exact go_cons ⟨v, a1, G, os, F, hh, st, fun vs G2 o2 os2 H2 sm2 h2 af2 p2 => k (v :: vs) G2 o2 os2 H2 sm2 h2 af2 ⟨v, vs, [], o2, rfl, rfl, ⟨rfl, a1⟩, p2⟩⟩
/-! calls of defs -/
theorem call_core {σ : L2.St} {H : Hp} {Q : VK} {vs : List V} {G : Hp} {o os F : Ow} {n : Nat} (hl : lshp as Γ = some (ss, Γ0)) (hΦ : Φ ss r L) (hn : ss.length = n) (hh : HH G (o ++ (os ++ F)) H) (st : StA Γ σ G os) (ap : AsP as σ G o vs)
    (k : ∀ v G' o' os' H', Same G G' → HH G' (o' ++ (os' ++ F)) H' → StA (lback as L Γ0) σ G' os' → r.p G' o' v → Q v H') : spS n Φ vs H Q E := by
  obtain ⟨ow, rest, pm, q1, q2⟩ := lshp_run hl ap st
  refine ⟨G, ow, rest ++ F, ss, r, L, by rw [q1.len, hn], hh.perm ?_, q1, hΦ, fun v G' o' ow' H' sm h' pr lt => ?_⟩
  · rw [← List.append_assoc, ← List.append_assoc]
    exact List.Perm.append_right F pm
  · obtain ⟨dead, os', pm2, st'⟩ := lback_run ap lt (q2.mono sm)
    refine k v G' o' os' H' sm (HH.drops (d := dead) (h'.perm ?_)) st' pr
    refine (List.Perm.append_left o' (?_ : (ow' ++ (rest ++ F)).Perm (dead ++ (os' ++ F)))).trans (perm_mid o' dead (os' ++ F))
    rw [← List.append_assoc, ← List.append_assoc]
    exact List.Perm.append_right F pm2
theorem ej_call {n : Nat} (C : CalG X.prog X.w X.K X.mg X.base CX k x ps (spS n Φ)) (hr : RoomG k X.A) (hg : Gl X x) (hx : Passes CX X E) (ha : AJ X (e :: es) Γ m as) (hl : lshp as (out Γ m) = some (ss, Γ0)) (hΦ : Φ ss r L) (hn : ss.length = n := by rfl) (hdb : (x == ("__debug__" : Str)) = false := by decide)
    (he : starEach (e :: es) X.env = (false, eval e X.env) :: starEach es X.env := by rfl) (hpl : (backTo pos (starEach es X.env)).any (·.1) = false := by rfl) : EJ X (.Call (.Name x p) (e :: es) [] pos) Γ (some (lback as L Γ0)) r :=
  pe_to (pe_callCG C hr hg hx ha hdb he hpl) fun σ H Q ⟨G, os, F, hh, st, k⟩ => go_call ⟨G, os, F, hh, st, fun vs G1 o1 os1 H1 sm1 h1 af1 ap1 =>
    call_core hl hΦ hn h1 (af1.st st sm1) ap1 fun v G' o' os' H' sm h' st' pr => k v G' o' os' H' (sm1.trans sm) h' st' pr⟩
theorem asp_vals {σ : L2.St} : ∀ {ss : List Sh} {G : Hp} {o : Ow} {vs : List V}, AsP (ss.map As.val) σ G o vs → Shs ss G o vs
  | [], _, _, _, h => h
  | s :: ss, _, _, _, ⟨v, vr, o1, o2, e1, e2, p1, p2⟩ => ⟨v, vr, o1, o2, e1, e2, p1, asp_vals p2⟩
theorem ej_callP {n : Nat} (C : CalG X.prog X.w X.K X.mg X.base CX k x ps (spS n Φ)) (hr : RoomG k X.A) (hg : Gl X x) (hx : Passes CX X E) (ha : AJ X (e :: es) Γ m (ss.map As.val)) (hΦ : Φ ss r []) (hn : ss.length = n := by rfl) (hdb : (x == ("__debug__" : Str)) = false := by decide)
    (he : starEach (e :: es) X.env = (false, eval e X.env) :: starEach es X.env := by rfl) (hpl : (backTo pos (starEach es X.env)).any (·.1) = false := by rfl) : EJ X (.Call (.Name x p) (e :: es) [] pos) Γ m r :=
  pe_to (pe_callCG C hr hg hx ha hdb he hpl) fun σ H Q ⟨G, os, F, hh, st, k⟩ => go_call ⟨G, os, F, hh, st, fun vs G1 o1 os1 H1 sm1 h1 af1 ap1 =>
    ⟨G1, o1, os1 ++ F, ss, r, [], by rw [(asp_vals ap1).len, hn], h1, asp_vals ap1, hΦ, fun v G' o' ow' H' sm h' pr (lt : ow' = []) => k v G' o' os1 H' (sm1.trans sm) (by subst lt; exact h') (af1.mono sm) pr⟩⟩
/-! calls of built-ins -/
theorem ej_b {id : String} (cr : CallR X (.builtin id) rv) (sp : VA ss s rv) (hg : Gl X x) (hm : X.mg x = none) (hv : bootBuiltins x = some (.builtin id)) (ha : AJ X (e :: es) Γ m (ss.map As.val)) (hn : x ≠ "__name__" := by decide) (hdb : (x == ("__debug__" : Str)) = false := by decide)
    (he : starEach (e :: es) X.env = (false, eval e X.env) :: starEach es X.env := by rfl) (hpl : (backTo pos (starEach es X.env)).any (·.1) = false := by rfl) : EJ X (.Call (.Name x p) (e :: es) [] pos) Γ m s :=
  pe_to (pe_callB cr hg hm hv ha hn hdb he hpl) fun σ H Q ⟨G, os, F, hh, st, k⟩ => go_tcb ⟨G, os, F, hh, st, fun vs G1 o1 os1 H1 sm1 h1 af1 ap1 =>
    sp vs G1 H1 (o1 ++ (os1 ++ F)) o1 Q ⟨h1, _, .refl _⟩ (asp_vals ap1) fun u G2 o2 H2 sm2 h2 p2 => k u G2 o2 os1 H2 (sm1.trans sm2) (HH.drops (d := o1) (h2.perm (perm_mid o2 o1 _))) (af1.mono sm2) p2⟩
theorem ej_ty {id : String} (cr : CallR X (.type id) rv) (sp : VA ss s rv) (hg : Gl X x) (hm : X.mg x = none) (hv : bootBuiltins x = some (.type id)) (ha : AJ X (e :: es) Γ m (ss.map As.val)) (hn : x ≠ "__name__" := by decide) (hdb : (x == ("__debug__" : Str)) = false := by decide)
    (he : starEach (e :: es) X.env = (false, eval e X.env) :: starEach es X.env := by rfl) (hpl : (backTo pos (starEach es X.env)).any (·.1) = false := by rfl) : EJ X (.Call (.Name x p) (e :: es) [] pos) Γ m s :=
  pe_to (pe_callTy cr hg hm hv ha hn hdb he hpl) fun σ H Q ⟨G, os, F, hh, st, k⟩ => go_tcb ⟨G, os, F, hh, st, fun vs G1 o1 os1 H1 sm1 h1 af1 ap1 =>
    sp vs G1 H1 (o1 ++ (os1 ++ F)) o1 Q ⟨h1, _, .refl _⟩ (asp_vals ap1) fun u G2 o2 H2 sm2 h2 p2 => k u G2 o2 os1 H2 (sm1.trans sm2) (HH.drops (d := o1) (h2.perm (perm_mid o2 o1 _))) (af1.mono sm2) p2⟩
/-- of one thing that stays where it stands -/
theorem pj_args (h : PJ X a Γ s1) (hs : starEach [a] X.env = (false, eval a X.env) :: starEach [] X.env := by rfl) : PA X [a] (fun σ H Q => ∃ G os F, HH G (os ++ F) H ∧ StA Γ σ G os ∧ ∀ v o rest, os.Perm (o ++ rest) → s1.p G o v → Q [v] H) :=
  pa_to (pa_cons h pa_nil hs) fun σ H Q ⟨G, os, F, hh, st, k⟩ => go_cons ⟨G, os, F, hh, st, fun v o rest pm ps => go_nil (k v o rest pm ps)⟩
theorem ej_bP {id : String} (cr : CallR X (.builtin id) rv) (sp : VA [s1] s rv) (hg : Gl X x) (hm : X.mg x = none) (hv : bootBuiltins x = some (.builtin id)) (ha : PJ X a Γ s1) (hn : x ≠ "__name__" := by decide) (hdb : (x == ("__debug__" : Str)) = false := by decide)
    (he : starEach [a] X.env = (false, eval a X.env) :: starEach [] X.env := by rfl) (hpl : (backTo pos (starEach [] X.env)).any (·.1) = false := by rfl) : EJ X (.Call (.Name x p) [a] [] pos) Γ none s :=
  pe_to (pe_callB cr hg hm hv (pj_args ha he) hn hdb he hpl) fun σ H Q ⟨G, os, F, hh, st, k⟩ => go_tcb ⟨G, os, F, hh, st, fun v o rest pm ps =>
    sp [v] G H (os ++ F) o Q ⟨hh, rest ++ F, by rw [← List.append_assoc]; exact List.Perm.append_right F pm⟩ ⟨v, [], o, [], rfl, by rw [List.append_nil], ps, rfl, rfl⟩ fun u G2 o2 H2 sm2 h2 p2 => k u G2 o2 os H2 sm2 h2 rfl p2⟩
/-! written lists and tuples -/
theorem ej_lst (ha : AJ X es Γ m (ss.map As.val)) (hl : (decide (ss.length ≤ 40)) = true := by rfl) : EJ X (.List es pos) Γ m (oLst ss) :=
  pe_to (pe_lst ha) fun σ H Q ⟨G, os, F, hh, st, k⟩ => go_tlst ⟨G, os, F, hh, st, fun vs G1 o1 os1 H1 sm1 h1 af1 ap1 => ⟨Nat.le_trans (by rw [(asp_vals ap1).len]; exact of_decide_eq_true hl) (by decide), fun q nq =>
    k (.ref q) G1 ((q, .lst vs) :: o1) os1 _ sm1 (h1.push nq) af1 ⟨q, vs, o1, rfl, rfl, asp_vals ap1⟩⟩⟩
theorem ej_tup {k' : Nat} {ss' : List Sh} (ha : AJ X es Γ m (ss.map As.val)) (f : Fzs ss ss') (t : ∀ G q vs, G q = some (.tup vs) → Shs ss' G [] vs → s.p G [] (.ref q)) (hl : (decide (ss.length ≤ 40)) = true := by rfl) : EJ X (.Tuple es k' pos) Γ m s :=
  pe_to (pe_tup ha) fun σ H Q ⟨G, os, F, hh, st, k⟩ => go_ttup ⟨G, os, F, hh, st, fun vs G1 o1 os1 H1 sm1 h1 af1 ap1 => ⟨Nat.le_trans (by rw [(asp_vals ap1).len]; exact of_decide_eq_true hl) (by decide), fun q nq => by
    obtain ⟨G2, s2, h2, p2⟩ := f.run (asp_vals ap1) h1
    have g3 : Same G2 (upd G2 q (.tup vs)) := h2.sameG nq
    exact k (.ref q) (upd G2 q (.tup vs)) [] os1 _ ((sm1.trans s2).trans g3) (h2.alloc nq) ((af1.mono s2).mono g3) (t _ q vs upd_same (p2.mono g3))⟩⟩
theorem ej_tup2 {k' : Nat} {x : α} {y : β} (ha : AJ X es Γ m [.val (fz τ1 x), .val (fz τ2 y)]) : EJ X (.Tuple es k' pos) Γ m (fz (tP2 τ1 τ2) (x, y)) :=
  ej_tup (ss := [fz τ1 x, fz τ2 y]) (ss' := [fz τ1 x, fz τ2 y]) ha ⟨fz_fz, fz_fz, trivial⟩ fun G q vs e h => by
    obtain ⟨v1, v2, rfl, r1, r2⟩ := h.f2
    exact ⟨rfl, q, v1, v2, rfl, e, r1, r2⟩
theorem ej_tup3 {k' : Nat} {x : α} {y : β} {z : γ} (ha : AJ X es Γ m [.val (fz τ1 x), .val (fz τ2 y), .val (fz τ3 z)]) : EJ X (.Tuple es k' pos) Γ m (fz (tP3 τ1 τ2 τ3) (x, y, z)) :=
  ej_tup (ss := [fz τ1 x, fz τ2 y, fz τ3 z]) (ss' := [fz τ1 x, fz τ2 y, fz τ3 z]) ha ⟨fz_fz, fz_fz, fz_fz, trivial⟩ fun G q vs e h => by
    obtain ⟨v1, v2, v3, rfl, r1, r2, r3⟩ := h.f3
    exact ⟨rfl, q, v1, v2, v3, rfl, e, r1, r2, r3⟩
theorem ej_dnewT {κ : Type} [DecidableEq κ] {enc : κ → List Key} {inj : ∀ a b, enc a = enc b → a = b} : EJ X (.Dict [] [] pos) Γ none (oD (kTs enc inj) τ []) :=
  pe_to pe_dnewT fun σ H Q ⟨G, os, F, hh, st, k⟩ => fun q nq => k (.ref q) G [(q, .dT [])] os _ (Same.refl _) (hh.push nq) rfl ⟨q, [], rfl, rfl, .nil, List.nodup_nil⟩
theorem ej_dnew {κ : Type} [DecidableEq κ] {kd : Fk κ} : EJ X (.Dict [] [] pos) Γ none (oD (kF kd) τ []) :=
  pe_to pe_dnewK fun σ H Q ⟨G, os, F, hh, st, k⟩ => fun q nq => k (.ref q) G [(q, .dK [])] os _ (Same.refl _) (hh.push nq) rfl ⟨q, [], rfl, rfl, .nil, List.nodup_nil⟩
end
end Sl

set_option Elab.async false
set_option linter.all false
set_option maxRecDepth 100000
namespace Sl
open PySem PySem.Spec PyProof.Rows L2 Dl
/-! ### what may be read as a list, a dict -/
/-- a list of xs is to be read at v -/
def RdL {α : Type} (s : Sh) (τ : Ty α) (xs : List α) : Prop := ∀ G H os o v, At G H os o → s.p G o v → ∃ a vs, v = .ref a ∧ H a = some (.lst vs) ∧ Paired (τ.rep G) vs xs
def RdD {κ α : Type} (s : Sh) (kd : Kd κ) (τ : Ty α) (x : List (κ × α)) : Prop := ∀ G H os o v, At G H os o → s.p G o v → ∃ a vs, v = .ref a ∧ Rd H a (kd.ho vs) ∧ Paired (KR kd τ G) vs x ∧ (x.map Prod.fst).Nodup
/-- things of unlike kinds in a list -/
def RdO (s : Sh) (ss : List Sh) : Prop := ∀ G H os o v, At G H os o → s.p G o v → ∃ a vs o', v = .ref a ∧ H a = some (.lst vs) ∧ Shs ss G o' vs
theorem At.own {G H : Hp} {os : Ow} {a : Addr} {u : HO} {o' : Ow} (h : At G H os ((a, u) :: o')) : H a = some u := by
  obtain ⟨hh, rest, pm⟩ := h
  exact (hh.own (a, u) (pm.symm.subset (List.mem_append_left _ (List.mem_cons_self ..)))).1
section
variable {X : Cx} {P : Pn} {Γ Γ0 Γ' Γ1 Γ2 Γm Γn : Ct} {m m0 m1 m2 : Option Ct} {α β γ δ κ ρ S : Type} {τ τ1 : Ty α} {τ2 : Ty β} {τ3 : Ty γ} {τ4 : Ty δ} {s s1 s2 r : Sh} {pos p apos : Pos} {a b e o : Expr} {es : List Expr} {us vs : List Nat} {as : List As} {ss : List Sh} {x : Str} {kd : Kd κ} {K : PySem.W.Frag} {xs : List α}
theorem rd_fz : RdL (fz (tList τ) xs) τ xs := fun G H os o v ⟨hh, _⟩ ⟨_, a, vs, e, g, r⟩ => ⟨a, vs, e, hh.lst g, r⟩
theorem rd_oL : RdL (oL τ xs) τ xs := fun G H os o v h ⟨a, vs, e, eo, r⟩ => ⟨a, vs, e, by subst eo; exact h.own, r⟩
theorem rdd_fz {x : List (κ × α)} : RdD (fz (tDic kd τ) x) kd τ x := fun G H os o v ⟨hh, _⟩ ⟨_, a, vs, e, g, r, n⟩ => ⟨a, vs, e, hh.rd g, r, n⟩
theorem rdd_oD {x : List (κ × α)} : RdD (oD kd τ x) kd τ x := fun G H os o v h ⟨a, vs, e, eo, r, n⟩ => ⟨a, vs, e, .inl (by subst eo; exact h.own), r, n⟩
theorem rdo_o : RdO (oLst ss) ss := fun G H os o v h ⟨a, vs, o', e, eo, r⟩ => ⟨a, vs, o', e, by subst eo; exact h.own, r⟩
theorem Shs.mk4 {x : α} {y : β} {z : γ} {w : δ} {G : Hp} {v1 v2 v3 v4 : V} (r1 : τ1.rep G v1 x) (r2 : τ2.rep G v2 y) (r3 : τ3.rep G v3 z) (r4 : τ4.rep G v4 w) : Shs [fz τ1 x, fz τ2 y, fz τ3 z, fz τ4 w] G [] [v1, v2, v3, v4] :=
  ⟨v1, [v2, v3, v4], [], [], rfl, rfl, ⟨rfl, r1⟩, v2, [v3, v4], [], [], rfl, rfl, ⟨rfl, r2⟩, v3, [v4], [], [], rfl, rfl, ⟨rfl, r3⟩, v4, [], [], [], rfl, rfl, ⟨rfl, r4⟩, rfl, rfl⟩
theorem rdo_4 {x : α × β × γ × δ} : RdO (fz (tL4 τ1 τ2 τ3 τ4) x) [fz τ1 x.1, fz τ2 x.2.1, fz τ3 x.2.2.1, fz τ4 x.2.2.2] := fun G H os o v ⟨hh, _⟩ ⟨_, a, v1, v2, v3, v4, e, g, r1, r2, r3, r4⟩ => ⟨a, _, [], e, hh.lst g, Shs.mk4 r1 r2 r3 r4⟩
/-! subscripts -/
theorem v2_ixL {i : Int} {y : α} (h : RdL s τ xs) (hi : atI xs i = some y) : V2 s tInt i (fz τ y) (rIxL K) := by
  rintro v w G H os o Q at_ hs r2 k
  obtain ⟨a, vs, e, g, pr⟩ := h G H os o v at_ hs
  have r2 : w = .int i := r2
  subst e r2
  unfold atI at hi
  obtain ⟨j, hj, hy⟩ := Option.bind_eq_some_iff.mp hi
  obtain ⟨u, hu, ru⟩ := pr_get2 pr hy
  refine ⟨a, vs, i, u, rfl, rfl, SqL.of g, ?_, k.fz at_.1 ru⟩
  unfold atI
  rw [pr_len pr, hj]
  exact hu
theorem Shs.at : ∀ {ss : List Sh} {G : Hp} {o : Ow} {vs : List V} {j : Nat} {s : Sh}, Shs ss G o vs → ss[j]? = some s → ∃ v o', vs[j]? = some v ∧ s.p G o' v
  | [], _, _, _, _, _, _, h => by simp at h
  | s :: ss, _, _, _, 0, _, ⟨v, vr, o1, o2, e1, e2, h1, h2⟩, h => by
    simp only [List.getElem?_cons_zero, Option.some.injEq] at h
    subst h e1
    exact ⟨v, o1, rfl, h1⟩
  | s :: ss, _, _, _, j + 1, _, ⟨v, vr, o1, o2, e1, e2, h1, h2⟩, h => by
    subst e1
    obtain ⟨u, o', hu, hs⟩ := Shs.at (j := j) h2 (by simpa using h)
    exact ⟨u, o', by simpa using hu, hs⟩
theorem v2_ixO {i : Int} {j : Nat} {y : α} (h : RdO s ss) (hj : ixN ss.length i = some j) (hy : ss[j]? = some (fz τ y)) : V2 s tInt i (fz τ y) (rIxL K) := by
  rintro v w G H os o Q at_ hs r2 k
  obtain ⟨a, vs, o', e, g, sh⟩ := h G H os o v at_ hs
  have r2 : w = .int i := r2
  subst e r2
  obtain ⟨u, o2, hu, _, ru⟩ := sh.at hy
  refine ⟨a, vs, i, u, rfl, rfl, SqL.of g, ?_, k.fz at_.1 ru⟩
  unfold atI
  rw [sh.len, hj]
  exact hu
/-- tuples -/
def RdT (s : Sh) (ss : List Sh) : Prop := ∀ G H os o v, At G H os o → s.p G o v → ∃ a vs, v = .ref a ∧ H a = some (.tup vs) ∧ Shs ss G [] vs
theorem rdt_3 {x : α × β × γ} : RdT (fz (tP3 τ1 τ2 τ3) x) [fz τ1 x.1, fz τ2 x.2.1, fz τ3 x.2.2] := fun G H os o v ⟨hh, _⟩ ⟨_, a, v1, v2, v3, e, g, r1, r2, r3⟩ => ⟨a, _, e, hh.tup g, Shs.mk3 r1 r2 r3⟩
theorem v2_ixT {i : Int} {j : Nat} {y : α} (h : RdT s ss) (hj : ixN ss.length i = some j) (hy : ss[j]? = some (fz τ y)) : V2 s tInt i (fz τ y) (rIxT K) := by
  rintro v w G H os o Q at_ hs r2 k
  obtain ⟨a, vs, e, g, sh⟩ := h G H os o v at_ hs
  have r2 : w = .int i := r2
  subst e r2
  obtain ⟨u, o2, hu, _, ru⟩ := sh.at hy
  refine ⟨a, vs, i, u, rfl, rfl, SqT.of g, ?_, k.fz at_.1 ru⟩
  unfold atI
  rw [sh.len, hj]
  exact hu
/-! dicts -/
/-- what a key is as a value -/
class KeyTy {κ : Type} (kd : outParam (Kd κ)) (τ : Ty κ) : Prop where
  is : ∀ {G H os v k}, HH G os H → τ.rep G v k → kd.isk H v (kd.enc k)
class FkTy {κ : Type} (f : outParam (Fk κ)) (τ : Ty κ) : Prop where
  is : ∀ G v k, τ.rep G v k → v = kV (f.enc k)
instance : FkTy fStr tStr := ⟨fun _ _ _ h => h⟩
instance : FkTy fInt tInt := ⟨fun _ _ _ h => h⟩
instance : FkTy fSum (tSum tInt tStr) := ⟨fun _ _ k h => by
  rcases h with ⟨y, e, r⟩ | ⟨y, e, r⟩
  · subst e; exact r
  · subst e; exact r⟩
instance {κ : Type} {f : Fk κ} {τ : Ty κ} [FkTy f τ] : KeyTy (kF f) τ := ⟨fun _ r => FkTy.is _ _ _ r⟩
instance {α β : Type} {f : Fk α} {g : Fk β} {τ1 : Ty α} {τ2 : Ty β} [FkTy f τ1] [FkTy g τ2] : KeyTy (kP2 f g) (tP2 τ1 τ2) := ⟨fun hh ⟨a, v1, v2, e, g0, r1, r2⟩ => ⟨a, e, by
  have := hh.tup g0
  rw [FkTy.is _ _ _ r1, FkTy.is _ _ _ r2] at this
  exact this⟩⟩
theorem pr_keys {α : Type} {f : Fk α} {τ : Ty α} [FkTy f τ] {G : Hp} : ∀ {vs : List V} {xs : List α}, Paired (τ.rep G) vs xs → vs = (xs.map f.enc).map kV
  | _, _, .nil => rfl
  | _, _, .cons r t => by
    rw [List.map_cons, List.map_cons, ← pr_keys t]
    exact congrArg (· :: _) (FkTy.is _ _ _ r)
instance {α : Type} {f : Fk α} {τ : Ty α} [FkTy f τ] : KeyTy (kTu f) (tTup τ) := ⟨fun hh ⟨a, vs, e, g0, r⟩ => ⟨a, e, by
  have := hh.tup g0
  rw [pr_keys r] at this
  exact this⟩⟩
theorem rdd_get [DecidableEq κ] {d : List (κ × α)} (h : RdD s kd τ d) {k : κ} {G H : Hp} {os ow : Ow} {v w : V} (at_ : At G H os ow) (hs : s.p G ow v) (hk : kd.isk H w (kd.enc k)) : ∃ a, v = .ref a ∧ ((∃ u y, DGet H a w (some u) ∧ aget d k = some y ∧ τ.rep G u y) ∨ (DGet H a w none ∧ aget d k = none)) := by
  obtain ⟨a, vs, e, g, pr, nd⟩ := h G H os ow v at_ hs
  refine ⟨a, e, ?_⟩
  have dg : DGet H a w (valV vs (kd.enc k)) := kd.dget g hk
  rcases kr_get k pr with ⟨u, y, h1, h2, h3⟩ | ⟨h1, h2⟩
  · rw [h1] at dg
    exact .inl ⟨u, y, dg, h2, h3⟩
  · rw [h1] at dg
    exact .inr ⟨dg, h2⟩
section
variable [DecidableEq κ] {d : List (κ × α)} {k : κ} {y : α} {τk : Ty κ} [KeyTy kd τk]
theorem dget_core {G H : Hp} {os ow : Ow} {v w : V} {Q : VK} (h : RdD s kd τ d) (hy : aget d k = some y) (at_ : At G H os ow) (hs : s.p G ow v) (rw_ : τk.rep G w k) (kk : Out (fz τ y) G os Q) : DG H v w Q := by
  obtain ⟨a, e, c⟩ := rdd_get h (k := k) at_ hs (KeyTy.is at_.1 rw_)
  rcases c with ⟨u, y', dg, h1, h2⟩ | ⟨_, h1⟩
  · rw [hy] at h1
    cases h1
    exact ⟨a, u, e, dg, kk.fz at_.1 h2⟩
  · rw [hy] at h1
    cases h1
theorem ej_dget (hu : X.A.units + 1 < cLine) (h : RdD (fz (tDic kd τ) d) kd τ d) (hy : aget d k = some y) (ho : EJ X o Γ m1 (fz (tDic kd τ) d)) (hi : EJ X e (out Γ m1) m2 (fz τk k)) (hs : NoSl e) : EJ X (.Subscript o e pos) Γ (cmb m1 m2) (fz τ y) :=
  pe_to (pe_dget hu ho hi hs) fun σ H Q ⟨G, os, F, hh, st, kk⟩ => go_dget (tT.two ⟨G, os, F, hh, st, fun v w G' os' H' sm h' af rv rw_ => dget_core (ow := []) rdd_fz hy ⟨h', _, .refl _⟩ ⟨rfl, rv⟩ rw_ fun u G2 o2 H2 s2 h2 p2 => kk u G2 o2 os' H2 (sm.trans s2) h2 (af.mono s2) p2⟩)
theorem ej_dgetP (hu : X.A.units + 1 < cLine) (h : RdD s kd τ d) (hy : aget d k = some y) (ho : PJ X o Γ s) (hi : EJ X e Γ none (fz τk k)) (hs : NoSl e) : EJ X (.Subscript o e pos) Γ none (fz τ y) :=
  pe_to (pe_dget hu ho hi hs) fun σ H Q ⟨G, os, F, hh, st, kk⟩ => go_dget (tP.two ⟨G, os, F, hh, st, fun v w G' H' o2 rest sm pm h' rv rw_ => dget_core h hy ⟨h', rest ++ F, by rw [← List.append_assoc]; exact List.Perm.append_right F pm⟩ rv rw_ fun u G2 o2 H2 s2 h2 p2 => kk u G2 o2 os H2 (sm.trans s2) h2 rfl p2⟩)
theorem din_core {G H : Hp} {os ow : Ow} {v w : V} {Q : VK} (h : RdD s kd τ d) (at_ : At G H os ow) (hs : s.p G ow v) (rw_ : τk.rep G w k) (kk : Out (fz tBool (ahas d k)) G os Q) : DI H v w Q := by
  obtain ⟨a, e, c⟩ := rdd_get h (k := k) at_ hs (KeyTy.is at_.1 rw_)
  rw [ahas_get] at kk
  rcases c with ⟨u, y', dg, h1, h2⟩ | ⟨dg, h1⟩
  · rw [h1] at kk
    exact ⟨a, _, e, dg, kk.fz at_.1 rfl⟩
  · rw [h1] at kk
    exact ⟨a, _, e, dg, kk.fz at_.1 rfl⟩
theorem dnin_core {G H : Hp} {os ow : Ow} {v w : V} {Q : VK} (h : RdD s kd τ d) (at_ : At G H os ow) (hs : s.p G ow v) (rw_ : τk.rep G w k) (kk : Out (fz tBool (!ahas d k)) G os Q) : DN H v w Q := by
  obtain ⟨a, e, c⟩ := rdd_get h (k := k) at_ hs (KeyTy.is at_.1 rw_)
  rw [ahas_get] at kk
  rcases c with ⟨u, y', dg, h1, h2⟩ | ⟨dg, h1⟩
  · rw [h1] at kk
    exact ⟨a, _, e, dg, kk.fz at_.1 rfl⟩
  · rw [h1] at kk
    exact ⟨a, _, e, dg, kk.fz at_.1 rfl⟩
theorem ej_din (hu : X.A.units + 1 < cLine) (hi : EJ X e Γ m1 (fz τk k)) (ho : EJ X o (out Γ m1) m2 (fz (tDic kd τ) d)) (hm : behindInMarks .In o = false := by rfl) : EJ X (.Compare e [.In] [o] pos) Γ (cmb m1 m2) (fz tBool (ahas d k)) :=
  pe_to (pe_cmp (pc_din hu hi ho) hm) fun σ H Q ⟨G, os, F, hh, st, kk⟩ => go_din (tT.two ⟨G, os, F, hh, st, fun w v G' os' H' sm h' af rw_ rv => din_core (ow := []) rdd_fz ⟨h', _, .refl _⟩ ⟨rfl, rv⟩ rw_ fun u G2 o2 H2 s2 h2 p2 => kk u G2 o2 os' H2 (sm.trans s2) h2 (af.mono s2) p2⟩)
theorem ej_dnin (hu : X.A.units + 1 < cLine) (hi : EJ X e Γ m1 (fz τk k)) (ho : EJ X o (out Γ m1) m2 (fz (tDic kd τ) d)) (hm : behindInMarks .NotIn o = false := by rfl) : EJ X (.Compare e [.NotIn] [o] pos) Γ (cmb m1 m2) (fz tBool (!ahas d k)) :=
  pe_to (pe_cmp (pc_dnotin hu hi ho) hm) fun σ H Q ⟨G, os, F, hh, st, kk⟩ => go_dnotin (tT.two ⟨G, os, F, hh, st, fun w v G' os' H' sm h' af rw_ rv => dnin_core (ow := []) rdd_fz ⟨h', _, .refl _⟩ ⟨rfl, rv⟩ rw_ fun u G2 o2 H2 s2 h2 p2 => kk u G2 o2 os' H2 (sm.trans s2) h2 (af.mono s2) p2⟩)
end
/-! len and the like -/
theorem va_one {rv : List V → Hp → VK → Prop} (h : ∀ v G H os o Q, At G H os o → s1.p G o v → Out s G os Q → rv [v] H Q) : VA [s1] s rv := fun vs G H os o Q at_ ⟨v, vr, o1, o2, e1, e2, p1, e3, e4⟩ k => by
  subst e1 e2 e3 e4
  rw [List.append_nil] at at_
  exact h v G H os o1 Q at_ p1 k
theorem va_len (h : RdL s τ xs) : VA [s] (fz tInt (xs.length : Int)) (Dl.rLen K) := va_one fun v G H os o Q at_ hs k => by
  obtain ⟨a, vs, e, g, pr⟩ := h G H os o v at_ hs
  subst e
  refine go_len (SqL.of g) ?_
  rw [pr_len pr]
  exact k.fz at_.1 rfl
theorem va_int {i : Int} : VA [fz tInt i] (fz tInt i) rInt1 := va_one fun v G H os o Q at_ ⟨_, (r : v = .int i)⟩ k => by
  subst r
  exact go_int1 (k.fz at_.1 rfl)
theorem va_intB {i : Bool} : VA [fz tBool i] (fz tInt (if i then 1 else 0)) rIntB := va_one fun v G H os o Q at_ ⟨_, (r : v = .bl i)⟩ k => by
  subst r
  exact go_intB (k.fz at_.1 rfl)
theorem va_two {rv : List V → Hp → VK → Prop} {x : α} {y : β} (h : ∀ v w G H os Q, HH G os H → τ1.rep G v x → τ2.rep G w y → Out s G os Q → rv [v, w] H Q) : VA [fz τ1 x, fz τ2 y] s rv := fun vs G H os o Q at_ ⟨v, vr, o1, o2, e1, e2, ⟨_, p1⟩, w, wr, o3, o4, e3, e4, ⟨_, p2⟩, e5, e6⟩ k => by
  subst e1 e3 e5
  exact h v w G H os Q at_.1 p1 p2 k
theorem va_min {i j : Int} : VA [fz tInt i, fz tInt j] (fz tInt (min i j)) rMin2 := va_two fun v w G H os Q hh (r1 : v = .int i) (r2 : w = .int j) k => by
  subst r1 r2
  exact go_min2 (k.fz hh rfl)
theorem pr_ints' {G : Hp} : ∀ {vs : List V} {xs : List Int}, Paired (tInt.rep G) vs xs → vs = xs.map V.int
  | _, _, .nil => rfl
  | _, _, .cons (r : _ = V.int _) t => by rw [List.map_cons, ← pr_ints' t, r]
theorem pr_bls' {G : Hp} : ∀ {vs : List V} {xs : List Bool}, Paired (tBool.rep G) vs xs → vs = xs.map V.bl
  | _, _, .nil => rfl
  | _, _, .cons (r : _ = V.bl _) t => by rw [List.map_cons, ← pr_bls' t, r]
theorem va_sum {ns : List Int} (h : RdL s tInt ns) : VA [s] (fz tInt ns.sum) (rSum K) := va_one fun v G H os o Q at_ hs k => by
  obtain ⟨a, vs, e, g, pr⟩ := h G H os o v at_ hs
  subst e
  rw [pr_ints' pr] at g
  exact ⟨a, ns, rfl, SqL.of g, k.fz at_.1 rfl⟩
theorem va_all {bs : List Bool} (h : RdL s tBool bs) : VA [s] (fz tBool (bs.all id)) (rAll K) := va_one fun v G H os o Q at_ hs k => by
  obtain ⟨a, vs, e, g, pr⟩ := h G H os o v at_ hs
  subst e
  rw [pr_bls' pr] at g
  exact ⟨a, bs, rfl, SqL.of g, k.fz at_.1 rfl⟩
theorem va_listL (h : RdL s τ xs) : VA [s] (oL τ xs) (rListOf K) := va_one fun v G H os o Q at_ hs k => by
  obtain ⟨a, vs, e, g, pr⟩ := h G H os o v at_ hs
  subst e
  exact ⟨a, vs, rfl, .inl (SqL.of g), fun q nq => k _ G [(q, .lst vs)] _ (Same.refl _) (at_.1.push nq) ⟨q, vs, rfl, rfl, pr⟩⟩
def rDictD : List V → Hp → VK → Prop := fun xs H Q => ∃ (a : Addr) (kvs : List (Key × V)), xs = [.ref a] ∧ Rd H a (.dK kvs) ∧ ∀ p, H p = none → Q (.ref p) (upd H p (.dK kvs))
theorem cl_dict : CallR X (.type "dict") rDictD := call_dictD
theorem va_dict {kd : Fk κ} {d : List (κ × α)} (h : RdD s (kF kd) τ d) : VA [s] (oD (kF kd) τ d) rDictD := va_one fun v G H os o Q at_ hs k => by
  obtain ⟨a, vs, e, g, pr, nd⟩ := h G H os o v at_ hs
  subst e
  exact ⟨a, vs, rfl, g, fun q nq => k _ G [(q, .dK vs)] _ (Same.refl _) (at_.1.push nq) ⟨q, vs, rfl, rfl, pr, nd⟩⟩
def rListD : List V → Hp → VK → Prop := fun xs H Q => ∃ (a : Addr) (kvs : List (Key × V)), xs = [.ref a] ∧ Rd H a (.dK kvs) ∧ ∀ p, H p = none → Q (.ref p) (upd H p (.lst (kvs.map fun kv => kV kv.1)))
end
end Sl

set_option Elab.async false
set_option linter.all false
set_option maxRecDepth 100000
namespace Sl
open PySem PySem.Spec PyProof.Rows L2 Dl
section
variable {X : Cx} {P : Pn} {Γ Γ0 Γ' Γ1 Γ2 Γm Γn : Ct} {m m0 m1 m2 : Option Ct} {α β γ δ κ ρ S : Type} {τ τ1 : Ty α} {τ2 : Ty β} {τ3 : Ty γ} {τ4 : Ty δ} {s s1 s2 r : Sh} {pos p apos nm : Pos} {a b c e o : Expr} {es : List Expr} {us vs : List Nat} {as : List As} {ss : List Sh} {x f : Str} {kd : Kd κ} {K : PySem.W.Frag} {xs : List α} {i : Nat} {rest : List Stmt} {R : Po}
/-! ### what changes a thing -/
theorem put_own {G H : Hp} {σ : L2.St} {os F ro : Ow} {ad : Addr} {ob : HO} (ob' : HO) {v : V} (s' : Sh) (hh : HH G (os ++ F) H) (pm : os.Perm ([(ad, ob)] ++ ro)) (nf : isDk ob = true ∨ ∀ q u, ob ≠ .frz q u)
    (back : ∀ G' s' o', Same G G' → s'.p G' o' v → ∃ os', os'.Perm (o' ++ ro) ∧ StA (Γ.set i (some s')) σ G' os') (nt : isTp ob' = false) (hs' : s'.p G [(ad, ob')] v) : ∃ os', HH G (os' ++ F) (upd H ad ob') ∧ StA (Γ.set i (some s')) σ G os' := by
  obtain ⟨os', p', q'⟩ := back G s' [(ad, ob')] (Same.refl _) hs'
  have h1 : HH G ((ad, ob) :: (ro ++ F)) H := hh.perm (List.Perm.append_right F pm)
  exact ⟨os', (h1.put (o' := ob') nf nt).perm (List.Perm.append_right F p'.symm), q'⟩
theorem nf_lst {vs : List V} : isDk (.lst vs) = true ∨ ∀ q u, HO.lst vs ≠ .frz q u := .inr fun _ _ z => nomatch z
theorem nf_dk {κ : Type} {kd : Kd κ} {vs : List (kd.KT × V)} : isDk (kd.ho vs) = true ∨ ∀ q u, kd.ho vs ≠ .frz q u := .inl (kd.isd _)
/-- what a name's slot holds -/
theorem StA.at {G : Hp} {σ : L2.St} {os : Ow} (st : StA Γ σ G os) (hi : Γ[i]? = some (some s)) : ∃ v o rest, σ[i]? = some (some v) ∧ s.p G o v ∧ os.Perm (o ++ rest) := by
  obtain ⟨v, o, ro, a1, a2, a3, _⟩ := st.take hi
  exact ⟨v, o, ro, a1, a2, a3⟩
theorem at_of {G H : Hp} {os o ro F : Ow} (hh : HH G (os ++ F) H) (pm : os.Perm (o ++ ro)) : At G H (os ++ F) o := ⟨hh, ro ++ F, by rw [← List.append_assoc]; exact List.Perm.append_right F pm⟩
/-- x.append(e) -/
theorem ej_app {y : α} (hN : X.N[i]? = some x) (hv : Vis X.env.scope x) (hi : Γ[i]? = some (some (oL τ xs))) (ha : AJ X [e] Γ m [.val (fz τ y)]) (hi2 : (out Γ m)[i]? = some (some (oL τ xs))) (hz : Sm xs.length) (hd : (x == ("__debug__" : Str)) = false := by decide) (hcd : (x == ("__classdict__" : Str)) = false := by decide)
    (hbase : attributeBase (.Name x nm) "append" X.env (eval (.Name x nm) X.env) = eval (.Name x nm) X.env := by rfl)
    (hfew : ((backTo pos (starEach [e] X.env)).all (fun x => !x.1) && (backToKw pos (keywordEach [] X.env)).all (fun x => x.1.isSome) && decide ([e].length + ([] : List Keyword).length + (if ([] : List Keyword).isEmpty then 0 else 1) < 30)) = true := by rfl)
    (hline : (apos.endLine == pos.line) = true := by rfl) (hs : starEach [e] X.env = (false, eval e X.env) :: starEach [] X.env := by rfl) (hplain : (backTo pos (starEach [] X.env)).any (·.1) = false := by rfl) :
    EJ X (.Call (.Attribute (.Name x nm) "append" apos) [e] [] pos) Γ (some ((out Γ m).set i (some (oL τ (xs ++ [y]))))) (fz tNon ()) :=
  pe_to (pe_bm PySem.F.plainAttrs_list PySem.F.slot_list_append PySem.F.type_list_append mt_append (pe_var (i := i) hN hv hd hcd) ha hbase hfew hline hs hplain) fun σ H Q ⟨G, os, F, hh, st, k⟩ => by
    obtain ⟨v, o, ro, a1, a2, a3⟩ := st.at hi
    refine go_tbm ⟨v, a1, ?_, ⟨G, os, F, hh, st, fun ws G1 o1 os1 H1 sm1 h1 af1 ⟨w, wr, o2, o3, e1, e2, ⟨e3, rw_⟩, e4, e5⟩ => ?_⟩⟩
    · obtain ⟨ad, vs, e0, eo, _⟩ := a2
      subst e0 eo
      exact .inl ⟨rfl, vs, SqL.of (at_of hh a3).own⟩
    · subst e1 e4 e2 e3 e5
      have st1 := af1.st st sm1
      obtain ⟨v2, o4, ro4, b1, ⟨ad, vs, e0, eo, pr⟩, b3, _, back⟩ := st1.take hi2
      rw [a1] at b1
      cases b1
      have hz' : vs.length < sizeLine := Sm.lt (by rw [pr_len pr]; exact hz)
      subst e0 eo
      have h1' : HH G1 (os1 ++ F) H1 := h1
      obtain ⟨os', h', st'⟩ := put_own (.lst (vs ++ [w])) (oL τ (xs ++ [y])) h1' b3 nf_lst back rfl ⟨ad, _, rfl, rfl, pr_snoc pr rw_⟩
      exact ⟨ad, vs, w, rfl, rfl, (at_of h1' b3).own, hz', k .non G1 [] os' _ sm1 h' st' ⟨rfl, rfl⟩⟩
/-- the j-th of values side by side is another one -/
theorem Shs.set {G : Hp} {s' : Sh} {w : V} (h' : s'.p G [] w) : ∀ {ss : List Sh} {o : Ow} {vs : List V} {j : Nat}, Shs ss G o vs → j < ss.length → (∀ sj, ss[j]? = some sj → ∀ G o v, sj.p G o v → o = []) → Shs (ss.set j s') G o (vs.set j w)
  | s :: ss, o, _, 0, ⟨v, vr, o1, o2, e1, e2, h1, h2⟩, _, z => by
    have := z s rfl _ _ _ h1
    subst this e1
    exact ⟨w, vr, [], o, rfl, rfl, h', by rw [show o = o2 from e2]; exact h2⟩
  | s :: ss, o, _, j + 1, ⟨v, vr, o1, o2, e1, e2, h1, h2⟩, l, z => by
    subst e1 e2
    exact ⟨v, vr.set j w, o1, o2, rfl, rfl, h1, Shs.set (j := j) h' h2 (by simpa using l) fun sj q => z sj (by simpa using q)⟩
  | [], _, _, _, _, l, _ => by simp at l
theorem go_setl {p : Addr} {vs : List V} {k : Int} {j : Nat} {v : V} {H : Hp} {R : Hp → Prop} (g : H p = some (.lst vs)) (e : ixN vs.length k = some j) (h : R (upd H p (.lst (vs.set j v)))) : rSetL (.ref p) (.int k) v H R := ⟨p, vs, k, j, rfl, rfl, g, e, h⟩
/-- x[k] = e of a list of unlike things -/
theorem sj_setO {j : Nat} {k : Int} {idx : Expr} {y : α} {tp : Pos} (hN : X.N[i]? = some x) (hv : Vis X.env.scope x) (he : EJ X e Γ m (fz τ y)) (hi : (out Γ m)[i]? = some (some (oLst ss))) (hx : EJ X idx (out Γ m) none (fz tInt k)) (hj : ixN ss.length k = some j) (hz : ∀ sj, ss[j]? = some sj → ∀ G o v, sj.p G o v → o = [])
    (hr : SJ X P rest ((out Γ m).set i (some (oLst (ss.set j (fz τ y))))) R) (hd : (x == ("__debug__" : Str)) = false := by decide) (hcd : (x == ("__classdict__" : Str)) = false := by decide)
    (hs : swapsWithSole [.Subscript (.Name x nm) idx tp] e pos.line X.env = pure false := by rfl) (hw : swappedStores [.Subscript (.Name x nm) idx tp] e X.env = pure none := by rfl) (h1 : (assignEach [.Subscript (.Name x nm) idx tp] X.env).map (·.2) = [assign (.Subscript (.Name x nm) idx tp) X.env] := by rfl)
    (hsub : ∀ v, assign (.Subscript (.Name x nm) idx tp) X.env v = (do
      let ov ← holding [v] (eval (.Name x nm) X.env)
      let iv ← holding [v, ov] (eval idx X.env)
      standAt tp
      holding [v, ov, iv] (setItem ov iv v)
      release [v, ov, iv] []) := by intro _; rfl) :
    SJ X P (.Assign [.Subscript (.Name x nm) idx tp] e pos :: rest) Γ R :=
  pss_to (pss_cons (ps_asg he (pg_sub (pe_var (i := i) hN hv hd hcd) hx set_list hsub) hs hw h1) hr) fun D σ H ⟨G, os, F, hh, st, pn, k1, k2, k3⟩ => go_seq (go_asg ⟨G, os, F, hh, st, fun w G1 o1 os1 H1 sm1 hh1 af1 ⟨eo, rw_⟩ => by
    subst eo
    have hh1 : HH G1 (os1 ++ F) H1 := hh1
    have st1 := af1.st st sm1
    obtain ⟨v2, o4, ro4, b1, b2, b3⟩ := st1.at hi
    refine go_gsub ⟨v2, b1, G1, os1, F, hh1, st1, fun iv G2 o2 os2 H2 sm2 hh2 (af2 : os2 = os1) ⟨e2, (ri : iv = .int k)⟩ => ?_⟩
    subst af2 e2 ri
    have st2 := st1.mono sm2
    obtain ⟨v3, o5, ro5, c1, ⟨ad, vs, o6, e0, eo, sh⟩, c3, _, back⟩ := st2.take hi
    rw [b1] at c1
    cases c1
    subst e0 eo
    have hh2 : HH G2 (os2 ++ F) H2 := hh2
    have hjl : j < ss.length := by
      unfold ixN at hj
      split at hj
      · split at hj
        · cases hj; omega
        · cases hj
      · split at hj
        · cases hj; omega
        · cases hj
    obtain ⟨os', p', q'⟩ := back G2 (oLst (ss.set j (fz τ y))) ((ad, .lst (vs.set j w)) :: o6) (Same.refl _) ⟨ad, vs.set j w, o6, rfl, rfl, Shs.set (s' := fz τ y) ⟨rfl, τ.mono sm2 rw_⟩ sh hjl hz⟩
    have h3 : HH G2 ((ad, .lst vs) :: (o6 ++ ro5 ++ F)) H2 := hh2.perm (List.Perm.append_right F c3)
    have h4 := (h3.put (o' := .lst (vs.set j w)) nf_lst).perm (os' := os' ++ F) (List.Perm.append_right F p'.symm)
    refine go_setl (at_of hh2 c3).own (by rw [sh.len]; exact hj) ⟨G2, os', F, h4, q', pn, fun σ3 G3 os3 H3 sm3 => k1 σ3 G3 os3 H3 ((sm1.trans sm2).trans sm3), fun v G3 o H3 sm3 => k2 v G3 o H3 ((sm1.trans sm2).trans sm3), fun σ3 G3 os3 H3 sm3 => k3 σ3 G3 os3 H3 ((sm1.trans sm2).trans sm3)⟩⟩)
/-- x[k] = e of a dict -/
theorem sj_dput [DecidableEq κ] {τk : Ty κ} [KeyTy kd τk] {d : List (κ × α)} {k : κ} {idx : Expr} {y : α} {tp : Pos} (hu : X.A.units + 1 < cLine) (hN : X.N[i]? = some x) (hv : Vis X.env.scope x) (he : EJ X e Γ m (fz τ y)) (hi : (out Γ m)[i]? = some (some (oD kd τ d))) (hx : EJ X idx (out Γ m) none (fz τk k)) (hz : Sm d.length)
    (hr : SJ X P rest ((out Γ m).set i (some (oD kd τ (aput d k y)))) R) (hd : (x == ("__debug__" : Str)) = false := by decide) (hcd : (x == ("__classdict__" : Str)) = false := by decide)
    (hs : swapsWith e (some (.Subscript (.Name x nm) idx tp)) pos.line X.env = pure false := by rfl) :
    SJ X P (.Assign [.Subscript (.Name x nm) idx tp] e pos :: rest) Γ R :=
  pss_to (pss_cons (ps_dput hu (pe_var (i := i) hN hv hd hcd) hx he hs) hr) fun D σ H ⟨G, os, F, hh, st, pn, k1, k2, k3⟩ => go_seq (go_dput ⟨G, os, F, hh, st, fun w G1 o1 os1 H1 sm1 hh1 af1 ⟨eo, rw_⟩ => by
    subst eo
    have hh1 : HH G1 (os1 ++ F) H1 := hh1
    have st1 := af1.st st sm1
    obtain ⟨v2, o4, ro4, b1, b2, b3⟩ := st1.at hi
    refine ⟨v2, b1, G1, os1, F, hh1, st1, fun iv G2 o2 os2 H2 sm2 hh2 (af2 : os2 = os1) ⟨e2, ri⟩ => ?_⟩
    subst af2 e2
    have st2 := st1.mono sm2
    obtain ⟨v3, o5, ro5, c1, ⟨ad, vs, e0, eo, pr, nd⟩, c3, _, back⟩ := st2.take hi
    rw [b1] at c1
    cases c1
    subst e0 eo
    have hh2 : HH G2 (os2 ++ F) H2 := hh2
    obtain ⟨os', h', st'⟩ := put_own (kd.ho (putK vs (kd.enc k) w)) (oD kd τ (aput d k y)) hh2 c3 nf_dk back (kd.ntp _) ⟨ad, _, rfl, rfl, kr_put k (τ.mono sm2 rw_) pr, aput_nd nd⟩
    exact ⟨ad, _, rfl, kd.dput (at_of hh2 c3).own (KeyTy.is hh2 ri) (Sm.lt (by rw [pr_len pr]; exact hz)), G2, os', F, h', st', pn, fun σ3 G3 os3 H3 sm3 => k1 σ3 G3 os3 H3 ((sm1.trans sm2).trans sm3), fun v G3 o H3 sm3 => k2 v G3 o H3 ((sm1.trans sm2).trans sm3), fun σ3 G3 os3 H3 sm3 => k3 σ3 G3 os3 H3 ((sm1.trans sm2).trans sm3)⟩⟩)
end
end Sl

set_option Elab.async false
set_option linter.all false
set_option maxRecDepth 100000
namespace Sl
open PySem PySem.Spec PyProof.Rows L2 Dl
/-! ### instances -/
/-- an instance that is data: its fields' names, what they are -/
def tOb {α : Type} (C : Addr) (ns : List Str) (sh : α → List Sh) : Ty α := ⟨fun G v x => ∃ a dx vs, v = .ref a ∧ G a = some (.ins C dx (ns.zip vs)) ∧ vs.length = ns.length ∧ Shs (sh x) G [] vs, fun s ⟨a, dx, vs, e, g, l, h⟩ => ⟨a, dx, vs, e, s _ _ g, l, h.mono s⟩⟩
/-- one that is owned -/
def oIns (C : Addr) (ns : List Str) (ss : List Sh) : Sh := ⟨fun G o v => ∃ a dx vs os', v = .ref a ∧ o = (a, .ins C dx (ns.zip vs)) :: os' ∧ vs.length = ns.length ∧ Shs ss G os' vs, fun s ⟨a, dx, vs, os', e1, e2, l, h⟩ => ⟨a, dx, vs, os', e1, e2, l, h.mono s⟩, fun ⟨a, dx, vs, os', e1, e2, l, h⟩ c hc => by
  subst e2
  rcases List.mem_cons.mp hc with rfl | hc
  · rfl
  · exact h.nf c hc⟩
/-- the place of a name -/
def ixOf (f : Str) : List Str → Option Nat
  | [] => none
  | g :: r => if g = f then some 0 else (ixOf f r).map (· + 1)
theorem zip_lookup {f : Str} : ∀ {ns : List Str} {vs : List V} {j : Nat}, ixOf f ns = some j → vs.length = ns.length → (ns.zip vs).lookup f = vs[j]?
  | [], _, _, h, _ => by cases h
  | g :: r, v :: vs, j, h, l => by
    unfold ixOf at h
    by_cases e : g = f
    · subst e
      rw [if_pos rfl] at h
      cases h
      simp
    · rw [if_neg e] at h
      obtain ⟨j', h1, h2⟩ := Option.map_eq_some_iff.mp h
      subst h2
      have : (f == g) = false := by simpa using fun z => e z.symm
      simp only [List.zip_cons_cons, List.lookup_cons, this]
      rw [zip_lookup h1 (by simpa using l)]
      simp
  | _ :: _, [], _, _, l => by simp at l
theorem zip_lookup_none {f : Str} : ∀ {ns : List Str} {vs : List V}, ixOf f ns = none → (ns.zip vs).lookup f = none
  | [], _, _ => rfl
  | g :: r, [], _ => rfl
  | g :: r, v :: vs, h => by
    unfold ixOf at h
    by_cases e : g = f
    · subst e
      rw [if_pos rfl] at h
      cases h
    · rw [if_neg e] at h
      have h1 : ixOf f r = none := by
        cases q : ixOf f r with
        | none => rfl
        | some j => rw [q] at h; cases h
      have : (f == g) = false := by simpa using fun z => e z.symm
      simp only [List.zip_cons_cons, List.lookup_cons, this]
      exact zip_lookup_none h1
theorem zip_put_new {f : Str} {w : V} : ∀ {ns : List Str} {vs : List V}, ixOf f ns = none → vs.length = ns.length → putF f w (ns.zip vs) = (ns ++ [f]).zip (vs ++ [w])
  | [], [], _, _ => rfl
  | g :: r, v :: vs, h, l => by
    unfold ixOf at h
    by_cases e : g = f
    · subst e
      rw [if_pos rfl] at h
      cases h
    · rw [if_neg e] at h
      have h1 : ixOf f r = none := by
        cases q : ixOf f r with
        | none => rfl
        | some j => rw [q] at h; cases h
      show (if g = f then (g, w) :: r.zip vs else (g, v) :: putF f w (r.zip vs)) = _
      rw [if_neg e, zip_put_new h1 (by simpa using l)]
      rfl
  | [], _ :: _, _, l => by simp at l
  | _ :: _, [], _, l => by simp at l
/-- what may be read as an instance -/
def RdI (s : Sh) (C : Addr) (ns : List Str) (ss : List Sh) : Prop := ∀ G H os o v, At G H os o → s.p G o v → ∃ a dx vs o', v = .ref a ∧ H a = some (.ins C dx (ns.zip vs)) ∧ vs.length = ns.length ∧ Shs ss G o' vs
section
variable {X : Cx} {P : Pn} {Γ Γ0 Γ' Γ1 Γ2 Γm Γn : Ct} {m m0 m1 m2 : Option Ct} {α β γ δ κ ρ S : Type} {τ τ1 : Ty α} {τ2 : Ty β} {τ3 : Ty γ} {τ4 : Ty δ} {s s1 s2 r : Sh} {pos p apos nm : Pos} {a b c e o : Expr} {es : List Expr} {us vs : List Nat} {as : List As} {ss : List Sh} {x f : Str} {kd : Kd κ} {K : PySem.W.Frag} {xs : List α} {i j : Nat} {rest : List Stmt} {R : Po} {C : Addr} {ns : List Str} {CX : CXT} {k : Nat} {ps : List Str} {E : XK} {Φ : Phi} {L : List (Nat × Sh)}
theorem rdi_f {sh : β → List Sh} {y : β} : RdI (fz (tOb C ns sh) y) C ns (sh y) := fun G H os o v ⟨hh, _⟩ ⟨_, a, dx, vs, e, g, l, r⟩ => ⟨a, dx, vs, [], e, hh.ins g, l, r⟩
theorem fld_core {y : α} {G H : Hp} {os ow : Ow} {v : V} {Q : VK} (h : RdI s C ns ss) (hc : Cls K C) (hn : NoAttr K C f) (hj : ixOf f ns = some j) (hy : ss[j]? = some (fz τ y)) (at_ : At G H os ow) (hs : s.p G ow v) (k : Out (fz τ y) G os Q) :
    ∃ a C dx fs u, v = .ref a ∧ H a = some (.ins C dx fs) ∧ Cls K C ∧ NoAttr K C f ∧ fs.lookup f = some u ∧ Q u H := by
  obtain ⟨a, dx, vs, o', e, g, l, sh⟩ := h G H os ow v at_ hs
  obtain ⟨u, o2, hu, _, ru⟩ := sh.at hy
  exact ⟨a, C, dx, _, u, e, g, hc, hn, by rw [zip_lookup hj l]; exact hu, k.fz at_.1 ru⟩
/-- o.f -/
theorem ej_fld {sh : β → List Sh} {d : β} {y : α} (ho : EJ X o Γ m (fz (tOb C ns sh) d)) (hc : Cls X.K C) (hn : NoAttr X.K C f) (hj : ixOf f ns = some j) (hy : (sh d)[j]? = some (fz τ y)) (hb : attributeBase o f X.env (eval o X.env) = eval o X.env := by rfl) : EJ X (.Attribute o f pos) Γ m (fz τ y) :=
  pe_to (pe_fld ho hb) fun σ H Q ⟨G, os, F, hh, st, k⟩ => tT.one ⟨G, os, F, hh, st, fun v G' os' H' sm h' af rv => fld_core (ow := []) rdi_f hc hn hj hy ⟨h', _, .refl _⟩ ⟨rfl, rv⟩ fun u G2 o2 H2 s2 h2 p2 => k u G2 o2 os' H2 (sm.trans s2) h2 (af.mono s2) p2⟩
/-- x.f = e: a new field, an old one -/
theorem sj_fldnew (hN : X.N[i]? = some x) (hv : Vis X.env.scope x) (he : EJ X e Γ m s) (hi : (out Γ m)[i]? = some (some (oIns C ns ss))) (hc : Cls X.K C) (hn : NoAttr X.K C f) (hf : ixOf f ns = none) (hlen : (decide (ns.length < 1000)) = true)
    (hr : SJ X P rest ((out Γ m).set i (some (oIns C (ns ++ [f]) (ss ++ [s])))) R) (hd : (x == ("__debug__" : Str)) = false := by decide) (hcd : (x == ("__classdict__" : Str)) = false := by decide) (hs : swapsWith e (some (.Attribute (.Name x nm) f p)) pos.line X.env = pure false := by rfl) :
    SJ X P (.Assign [.Attribute (.Name x nm) f p] e pos :: rest) Γ R :=
  pss_to (pss_cons (ps_fld (pe_var (i := i) hN hv hd hcd) he hs) hr) fun D σ H ⟨G, os, F, hh, st, pn, k1, k2, k3⟩ => go_seq ⟨G, os, F, hh, st, fun w G1 o1 os1 H1 sm1 hh1 af1 pw => by
    have st1 := af1.st st sm1
    obtain ⟨v2, o4, ro4, b1, ⟨ad, dx, vs, o6, e0, eo, l, sh⟩, b3, _, back⟩ := st1.take hi
    subst e0 eo
    have hh1' : HH G1 ((ad, .ins C dx (ns.zip vs)) :: (o6 ++ ro4 ++ (o1 ++ F))) H1 := hh1.perm ((perm_mid o1 os1 F).trans (List.Perm.append_right (o1 ++ F) b3))
    have hput := hh1'.put (o' := .ins C dx ((ns ++ [f]).zip (vs ++ [w]))) (.inr fun _ _ z => nomatch z)
    have snoc : ∀ {ss : List Sh} {oo : Ow} {vs : List V}, Shs ss G1 oo vs → Shs (ss ++ [s]) G1 (oo ++ o1) (vs ++ [w]) := by
      intro ss
      induction ss with
      | nil => intro oo vs ⟨q1, q2⟩; subst q1 q2; exact ⟨w, [], o1, [], rfl, by rw [List.append_nil]; rfl, pw, rfl, rfl⟩
      | cons t ts ih => intro oo vs ⟨v, vr, q1, q2, q3, q4, q5, q6⟩; subst q3 q4; exact ⟨v, vr ++ [w], q1, q2 ++ o1, rfl, by rw [List.append_assoc], q5, ih q6⟩
    obtain ⟨os', p', q'⟩ := back G1 (oIns C (ns ++ [f]) (ss ++ [s])) ((ad, .ins C dx ((ns ++ [f]).zip (vs ++ [w]))) :: (o6 ++ o1)) (Same.refl _) ⟨ad, dx, vs ++ [w], o6 ++ o1, rfl, rfl, by simp [l], snoc sh⟩
    refine ⟨.ref ad, b1, ad, C, dx, ns.zip vs, rfl, hh1'.get, hc, hn, ?_, G1, os', F, ?_, q', pn, fun σ3 G3 os3 H3 sm3 => k1 σ3 G3 os3 H3 (sm1.trans sm3), fun v G3 o H3 sm3 => k2 v G3 o H3 (sm1.trans sm3), fun σ3 G3 os3 H3 sm3 => k3 σ3 G3 os3 H3 (sm1.trans sm3)⟩
    · rw [List.length_zip, l, Nat.min_self]
      exact of_decide_eq_true hlen
    · rw [zip_put_new hf l]
      refine hput.perm ?_
      refine List.Perm.trans ?_ (List.Perm.append_right F p'.symm)
      refine (List.Perm.cons _ ?_)
      show (o6 ++ ro4 ++ (o1 ++ F)).Perm (o6 ++ o1 ++ ro4 ++ F)
      rw [List.append_assoc, List.append_assoc, List.append_assoc]
      exact List.Perm.append_left o6 (perm_mid ro4 o1 F)⟩
/-- C(..): a new instance -/
theorem ej_make {n : Nat} {fi : Addr} {fd : FuncData} (M : Mk X.K C fi) (Fn : FnG X.prog X.w X.K X.mg X.base CX k fi fd ps (spS n Φ)) (hb : Binds X.K fd ps []) (hr : RoomG (k + 1) X.A) (hg : Gl X x) (hm : X.mg x = some (.ref C)) (hx : Passes CX X E) (ha : AJ X (e :: es) Γ m (ss.map As.val))
    (hΦ : Φ (oIns C [] [] :: ss) (fz tNon ()) [(0, s)]) (hn : ss.length + 1 = n := by rfl) (hdb : (x == ("__debug__" : Str)) = false := by decide) (he : starEach (e :: es) X.env = (false, eval e X.env) :: starEach es X.env := by rfl) (hpl : (backTo pos (starEach es X.env)).any (·.1) = false := by rfl) :
    EJ X (.Call (.Name x p) (e :: es) [] pos) Γ m s :=
  pe_to (pe_makeG M Fn hr hg hm hb hx ha hdb he hpl) fun σ H Q ⟨G, os, F, hh, st, k⟩ => ⟨G, os, F, hh, st, fun vs G1 o1 os1 H1 sm1 h1 af1 ap1 => fun z dx nz ndx ne => by
    have g1 := h1.sameG (o := .own z) ndx
    have h2 := h1.alloc (o := .own z) ndx
    have nz2 : upd H1 dx (.own z) z = none := by rw [upd_ne (fun q => ne q.symm)]; exact nz
    have h3 := h2.push (o := .ins C dx []) nz2
    have sh := (asp_vals ap1).mono g1
    refine ⟨_, (z, .ins C dx []) :: o1, os1 ++ F, oIns C [] [] :: ss, _, _, by simp [sh.len, ← hn], h3, ⟨.ref z, vs, [(z, .ins C dx [])], o1, by simp, rfl, ⟨z, dx, [], [], rfl, rfl, rfl, rfl, rfl⟩, sh⟩, hΦ, fun v G' o' ow' H' sm h' ⟨eo, (rv : v = .non)⟩ lt => ⟨rv, ?_⟩⟩
    subst eo
    obtain ⟨v', q1, q2, e1, e2, p2, (e3 : q2 = [])⟩ := lt
    have e1 : some (V.ref z) = some v' := e1
    cases e1
    subst e2 e3
    exact k (.ref z) G' q1 os1 H' ((sm1.trans g1).trans sm) (h'.perm (by rw [List.append_nil]; exact .refl _)) ((af1.mono g1).mono sm) p2⟩
theorem ej_methF0 {n : Nat} {fi : Addr} {fd : FuncData} {sh : β → List Sh} {d : β} {pl : Sem Bool} (ho : EJ X o Γ m1 (fz (tOb C ns sh) d)) (hc : Cls X.K C) (hm : Meth X.K C f fi) (Fn : FnG X.prog X.w X.K X.mg X.base CX k fi fd ps (spS n Φ)) (hr : RoomG k X.A) (hb : Binds X.K fd ps []) (hx : Passes CX X E) (hf : ixOf f ns = none)
    (hΦ : Φ [fz (tOb C ns sh) d] r []) (hn : 1 = n := by rfl)
    (ht : eval (.Call (.Attribute o f apos) [] [] pos) X.env = (do
      let ov ← eval o X.env
      standAt apos.atName
      let (f, first) ← holding [ov] (getMethod ov f pl)
      callWith pos f first (backTo pos (starEach [] X.env)) (backToKw pos (keywordEach [] X.env))) := by rfl) : EJ X (.Call (.Attribute o f apos) [] [] pos) Γ m1 r :=
  pe_to (pe_methG0 (pl := pl) ho hc hm Fn hr hb hx ht) fun σ H Q ⟨G, os, F, hh, st, k⟩ => tT.one ⟨G, os, F, hh, st, fun v G1 os1 H1 sm1 h1 af1 rv => by
    obtain ⟨a, dx, vs, e0, g, l, sh'⟩ := id rv
    subst e0
    refine ⟨a, dx, _, rfl, h1.ins g, zip_lookup_none hf, ?_⟩
    refine ⟨G1, [], os1 ++ F, [fz (tOb C ns sh) d], _, _, by simp [← hn], h1, ⟨.ref a, [], [], [], rfl, rfl, ⟨rfl, rv⟩, rfl, rfl⟩, hΦ, fun v G' o' ow' H' sm h' pr (lt : ow' = []) => ?_⟩
    subst lt
    exact k v G' o' os1 H' (sm1.trans sm) h' (af1.mono sm) pr⟩
theorem fz_ins {sh : β → List Sh} {y : β} (f : Fzs ss (sh y)) : Fz (oIns C ns ss) (fz (tOb C ns sh) y) := fun G H o F v ⟨a, dx, vs, os', e1, e2, l, hs⟩ hh => by
  subst e1 e2
  have hh2 : HH G (os' ++ ((a, HO.ins C dx (ns.zip vs)) :: F)) H := hh.perm (by rw [List.cons_append]; exact List.perm_middle.symm)
  obtain ⟨G1, s1, hh1, r1⟩ := f.run hs hh2
  have gn := hh1.gnone (.inr fun _ _ z => nomatch z)
  exact ⟨_, s1.trans (same_upd gn), hh1.give (.inr fun _ _ z => nomatch z), rfl, a, dx, vs, rfl, upd_same, l, r1.mono (same_upd gn)⟩
/-! ### values that hang on a test -/
end
end Sl

set_option Elab.async false
set_option linter.all false
set_option maxRecDepth 100000
namespace Sl
open PySem PySem.Spec PyProof.Rows L2 Dl
section
variable {X : Cx} {P : Pn} {Γ Γ' Γ1 Γ2 Γm Γn : Ct} {m m0 m1 m2 : Option Ct} {α β γ δ κ ρ S : Type} {τ τ1 : Ty α} {τ2 : Ty β} {τ3 : Ty γ} {s s1 s2 : Sh} {pos p : Pos} {a b e elt tg iter kx vx : Expr} {es ifs : List Expr} {us vs : List Nat} {kd : Kd κ} {τk : Ty κ} {rest : List Stmt} {R : Po} {x y : Str} {i : Nat} {xs : List α}
/-! ### {k: v for x in xs} that changes nothing -/
theorem dcP_run [DecidableEq κ] {kd : Fk κ} [FkTy kd τk] {items : List β} {sh : β → Sh} {f : β → Option (κ × γ)} {d : List (κ × γ)} {Γy : β → Ct} {σ : L2.St} {Q : VK} {G1 : Hp} {os1 F : Ow} {H1 : Hp} {J : It} (vs : List Nat) (h : dicC f [] items = some d) (hsm : Sm items.length) (hz : Zs vs Γ1)
    (st0 : StA Γ1 σ G1 os1) (h1 : HH G1 (os1 ++ F) H1) (wk : WkF F J G1 items sh) (k : ∀ v G' o H', Same G1 G' → HH G' (o ++ (os1 ++ F)) H' → (oD (kF kd) τ3 d).p G' o v → Q v H') :
    ∀ A, H1 A = none → ∃ W : Nat → Nat → Hp → Prop, (∃ m, W 0 m (upd H1 A (.dK []))) ∧ ∀ i m H, W i m H →
      (J.stop i H ∧ Q (.ref A) H) ∨ (J.go i H ∧ ∃ Nx : Hp → Prop, (∀ H', Nx H' → ∃ m', m' < m ∧ W (i + 1) m' H') ∧ ∀ x H', J.yld i H x H' → (∃ t, (∃ y, t = tG0 vs (nones vs Γ1) (Γy y) (sh y)) ∧ t x (wipe σ vs) H' fun σ2 H2 => wipe σ2 vs = wipe σ vs ∧
        tYes σ2 H2 fun b H3 => if b = true then (∃ t, (∃ y k z, y ∈ items ∧ f y = some (k, z) ∧ t = tT (Γy y) none (fz τk k)) ∧ t σ2 H3 fun ky H4 => (∃ t, (∃ y k z, y ∈ items ∧ f y = some (k, z) ∧ t = tT (Γy y) none (fz τ3 z)) ∧ t σ2 H4 fun zv H5 => ∃ kvs k, ky = kV k ∧ H5 A = some (.dK kvs) ∧ kvs.length < sizeLine ∧ Nx (upd H5 A (.dK (putK kvs k zv))))) else Nx H3)) := by
  intro A nA
  have st1 := st0.wipes vs hz
  refine ⟨fun i mm H => mm = items.length - i ∧ i ≤ items.length ∧ ∃ ws acc G', Same G1 G' ∧ HH G' ((A, .dK ws) :: (os1 ++ F)) H ∧ Paired (KR (kF kd) τ3 G') ws acc ∧ (acc.map Prod.fst).Nodup ∧ acc.length ≤ i ∧ dicC f acc (items.drop i) = some d, ⟨_, rfl, Nat.zero_le _, [], [], G1, Same.refl _, h1.push nA, .nil, List.nodup_nil, Nat.le_refl _, h⟩, ?_⟩
  rintro i mm H2 ⟨rfl, hle, ws, acc, G2, sm2, h2, pr, nd, hal, hf⟩
  obtain ⟨wst, wi⟩ := wk G2 _ H2 sm2 h2 in_fr
  by_cases hlt : i < items.length
  · obtain ⟨y, hy, hd⟩ := drop_get hlt
    rw [hd] at hf
    obtain ⟨⟨ky, z⟩, ho, hf1⟩ := Option.bind_eq_some_iff.mp (show (f y).bind _ = some d from hf)
    obtain ⟨go, yl⟩ := wi i y hy
    have hm := List.mem_of_getElem? hy
    refine .inr ⟨go, fun H => ∃ ws acc G', Same G1 G' ∧ HH G' ((A, .dK ws) :: (os1 ++ F)) H ∧ Paired (KR (kF kd) τ3 G') ws acc ∧ (acc.map Prod.fst).Nodup ∧ acc.length ≤ i + 1 ∧ dicC f acc (items.drop (i + 1)) = some d, fun H' q => ⟨items.length - (i + 1), by omega, rfl, hlt, q⟩, fun x H3 y3 => ?_⟩
    obtain ⟨G3, sm3, h3, py⟩ := yl x H3 y3
    refine ⟨_, ⟨y, rfl⟩, G3, os1, (A, .dK ws) :: F, h3.perm (perm_in _ _ _), st1.mono (sm2.trans sm3), py, fun σ4 w4 st4 => ⟨by rw [w4, wipe_idem], go_yes ?_⟩⟩
    refine go_iteT ⟨_, ⟨y, ky, z, hm, ho, rfl⟩, G3, os1, (A, .dK ws) :: F, h3.perm (perm_in _ _ _), st4, fun v G5 o5 os5 H5 sm5 h5 (e5 : os5 = os1) ⟨eo, rk⟩ => ?_⟩
    subst e5 eo
    have ek := FkTy.is G5 v ky rk
    subst ek
    refine ⟨_, ⟨y, ky, z, hm, ho, rfl⟩, G5, os5, (A, .dK ws) :: F, h5, st4.mono sm5, fun v G6 o6 os6 H6 sm6 h6 (e6 : os6 = os5) ⟨eo, rv⟩ => ?_⟩
    subst e6 eo
    have h6' : HH G6 ((A, .dK ws) :: (os6 ++ F)) H6 := h6.perm (perm_in _ _ _).symm
    have e7 : ws.length = acc.length := pr_len pr
    refine ⟨ws, kd.enc ky, rfl, h6'.get, Sm.lt (Nat.le_trans (by omega) hsm), putK ws (kd.enc ky) v, aput acc ky z, G6, ((sm2.trans sm3).trans sm5).trans sm6, h6'.put (.inl rfl), kr_put (kd := kF kd) ky rv (kr_mono ((sm3.trans sm5).trans sm6) pr), aput_nd nd, ?_, hf1⟩
    have := aput_len (d := acc) (k := ky) (v := z)
    omega
  · have e : i = items.length := by omega
    subst e
    rw [List.drop_length] at hf
    have ezr : acc = d := Option.some.inj hf
    subst ezr
    exact .inl ⟨wst, k (.ref A) G2 [(A, .dK ws)] H2 sm2 h2 ⟨A, ws, rfl, rfl, pr, nd⟩⟩
/-! ### a def's promise by its body -/
theorem StA.nones : ∀ (n : Nat) (G : Hp), StA (List.replicate n none) (List.replicate n none) G []
  | 0, _ => ⟨rfl, rfl⟩
  | n + 1, G => StA.nones n G
theorem StA.start {G : Hp} {n : Nat} : ∀ {ss : List Sh} {o : Ow} {vs : List V}, Shs ss G o vs → StA (ss.map some ++ List.replicate n none) (vs.map some ++ List.replicate n none) G o
  | [], _, _, ⟨e1, e2⟩ => by subst e1 e2; exact StA.nones n G
  | s :: ss, _, _, ⟨v, vr, o1, o2, e1, e2, h1, h2⟩ => by subst e1; exact ⟨v, o1, o2, rfl, e2, h1, StA.start h2⟩
theorem lent_of : ∀ {L : List (Nat × Sh)} {P : Pn} {vs : List V} {G : Hp} {o : Ow}, P.map Prod.fst = L.map Prod.fst → (∀ p ∈ P, vs[p.1]? = some p.2) → Shs (L.map Prod.snd) G o (P.map Prod.snd) → Lent L vs G o
  | [], [], _, _, _, _, _, h => h.2
  | l :: L, p :: P, vs, G, o, e, hP, ⟨v, vr, o1, o2, e1, e2, h1, h2⟩ => by
    obtain ⟨a1, a2⟩ := List.cons.inj e
    obtain ⟨b1, b2⟩ := List.cons.inj e1
    refine ⟨v, o1, o2, ?_, e2, h1, lent_of a2 (fun q hq => hP q (List.mem_cons_of_mem _ hq)) (by rw [b2]; exact h2)⟩
    rw [← a1, ← b1]
    exact hP p (List.mem_cons_self ..)
  | [], _ :: _, _, _, _, e, _, _ => by cases e
  | _ :: _, [], _, _, _, e, _, _ => by cases e
end
end Sl

set_option Elab.async false
set_option linter.all false
set_option maxRecDepth 100000
namespace Sl
open PySem PySem.Spec PyProof.Rows L2 Dl
/-! ### == of data, as it is -/
class EqD {α : Type} [DecidableEq α] (τ : Ty α) (n : outParam Nat) : Prop where
  fn : ∀ {G : Hp} {v : V} {x y : α}, τ.rep G v x → τ.rep G v y → x = y
  at_ : ∀ {X : Cx} {pins : List (Addr × Obj)} {σ : L2.St} {H G : Hp} {st : Shared} {os : Ow} {A : Around} {v w : V} {x y : α} {u t : Value}, Inv X pins σ H st → HH G os H → A.units + n < cLine → τ.rep G v x → τ.rep G w y → RelV v u → RelV w t → SeqAt.EqAt A st u t (decide (x = y))
instance : EqD tInt 0 := ⟨fun {_ _ _ _} (h1 : _ = _) (h2 : _ = _) => V.int.inj (h1.symm.trans h2), fun {X pins σ H G st os A v w x y u t} I hh hA (r1 : v = .int x) (r2 : w = .int y) h1 h2 => by
  subst r1 r2
  obtain ⟨k1, rfl⟩ := h1
  obtain ⟨k2, rfl⟩ := h2
  have := (MeetsSeq.EqGives.int x y k1 k2).at A st
  have e : (x == y) = decide (x = y) := by rw [Bool.beq_eq_decide_eq]
  rw [← e]
  exact this⟩
instance : EqD tStr 0 := ⟨fun {_ _ _ _} (h1 : _ = _) (h2 : _ = _) => V.str.inj (h1.symm.trans h2), fun {X pins σ H G st os A v w x y u t} I hh hA (r1 : v = .str x) (r2 : w = .str y) h1 h2 => by
  subst r1 r2
  obtain ⟨k1, rfl⟩ := h1
  obtain ⟨k2, rfl⟩ := h2
  intro prog w E Q hq
  exact wpAny_eqBool_str hq⟩
theorem all_rng {α : Type} [DecidableEq α] : ∀ {xs ys : List α}, xs.length = ys.length → ((List.range xs.length).all fun j => match xs[j]?, ys[j]? with
    | some x, some y => decide (x = y)
    | _, _ => true) = decide (xs = ys) := by
  intro xs ys hl
  rw [Bool.eq_iff_iff, decide_eq_true_iff, List.all_eq_true]
  constructor
  · intro h
    apply List.ext_getElem hl
    intro j h1 h2
    have := h j (List.mem_range.mpr h1)
    rw [List.getElem?_eq_getElem h1, List.getElem?_eq_getElem h2] at this
    exact of_decide_eq_true this
  · rintro rfl j hj
    rw [List.getElem?_eq_getElem (List.mem_range.mp hj)]
    exact decide_eq_true rfl
section
variable {α : Type} [DecidableEq α] {τ : Ty α} {n : Nat} [EqD τ n] {X : Cx} {pins : List (Addr × Obj)} {σ : L2.St} {H G : Hp} {st : Shared} {os : Ow} {A : Around}
theorem items_at (I : Inv X pins σ H st) (hh : HH G os H) (hA : A.units + n < cLine) {vs ws : List V} {xs ys : List α} {us ts : List Value} (p1 : Paired (τ.rep G) vs xs) (p2 : Paired (τ.rep G) ws ys) (r1 : Vals vs us) (r2 : Vals ws ts) :
    ∀ j (h1 : j < us.toArray.size) (h2 : j < ts.toArray.size), SeqAt.EqAt A st us.toArray[j] ts.toArray[j] (match xs[j]?, ys[j]? with
      | some x, some y => decide (x = y)
      | _, _ => true) := fun j h1 h2 => by
  have l1 : j < us.length := by simpa using h1
  have l2 : j < ts.length := by simpa using h2
  have k1 : j < vs.length := by rw [r1.length]; exact l1
  have k2 : j < ws.length := by rw [r2.length]; exact l2
  obtain ⟨x, hx, rx⟩ := pr_get p1 (List.getElem?_eq_getElem k1)
  obtain ⟨y, hy, ry⟩ := pr_get p2 (List.getElem?_eq_getElem k2)
  obtain ⟨u, hu, ru⟩ := r1.get (List.getElem?_eq_getElem k1)
  obtain ⟨t, ht, rt⟩ := r2.get (List.getElem?_eq_getElem k2)
  rw [hx, hy]
  have eu : us.toArray[j] = u := by
    have := hu
    rw [List.getElem?_eq_getElem l1] at this
    simpa using Option.some.inj this
  have et : ts.toArray[j] = t := by
    have := ht
    rw [List.getElem?_eq_getElem l2] at this
    simpa using Option.some.inj this
  rw [eu, et]
  exact EqD.at_ I hh hA rx ry ru rt
theorem rc_list (I : Inv X pins σ H st) (hh : HH G os H) (hA : A.units + n + 1 < cLine) {a b : Addr} {vs ws : List V} {xs ys : List α} (ga : H a = some (.lst vs)) (gb : H b = some (.lst ws)) (p1 : Paired (τ.rep G) vs xs) (p2 : Paired (τ.rep G) ws ys) :
    SeqAt.RcAt A st (.ref a) (.ref b) (decide (xs = ys)) ∧ SeqAt.RcNeAt A st (.ref a) (.ref b) (!decide (xs = ys)) := by
  obtain ⟨us, r1, q1, _⟩ := I.list (SqL.of ga)
  obtain ⟨ts, r2, q2, _⟩ := I.list (SqL.of gb)
  have l1 : us.toArray.size = xs.length := by rw [List.size_toArray, ← r1.length, pr_len p1]
  have l2 : ts.toArray.size = ys.length := by rw [List.size_toArray, ← r2.length, pr_len p2]
  have hi := items_at (A := A.in1) I hh (show A.units + 1 + n < cLine by omega) p1 p2 r1 r2
  by_cases hl : us.toArray.size = ts.toArray.size
  · have e := all_rng (xs := xs) (ys := ys) (by omega)
    rw [← e, ← l1]
    exact ⟨SeqAt.RcAt.lists q1.isList q2.isList hl (by omega) hi, SeqAt.RcNeAt.lists q1.isList q2.isList hl (by omega) hi⟩
  · have e : decide (xs = ys) = false := decide_eq_false (fun z => hl (by rw [l1, l2, z]))
    rw [e]
    exact ⟨SeqAt.RcAt.lists_lengths q1.isList q2.isList (by simpa using hl) (by omega), SeqAt.RcNeAt.lists_lengths q1.isList q2.isList (by simpa using hl) (by omega)⟩
theorem pr_fn {α : Type} [DecidableEq α] {τ : Ty α} {n : Nat} [EqD τ n] {G : Hp} : ∀ {vs : List V} {xs ys : List α}, Paired (τ.rep G) vs xs → Paired (τ.rep G) vs ys → xs = ys
  | _, _, _, .nil, .nil => rfl
  | _, _, _, .cons r1 t1, .cons r2 t2 => by rw [EqD.fn r1 r2, pr_fn t1 t2]
instance : EqD (tList τ) (n + 1) := ⟨fun {G v x y} ⟨a, vs, e1, g1, p1⟩ ⟨b, ws, e2, g2, p2⟩ => by
    rw [e1] at e2
    cases e2
    rw [g1] at g2
    cases g2
    exact pr_fn p1 p2, fun {X pins σ H G st os A v w x y u t} I hh hA ⟨a, vs, e1, g1, p1⟩ ⟨b, ws, e2, g2, p2⟩ h1 h2 => by
    subst e1 e2
    cases (show u = Value.ref a from h1)
    cases (show t = Value.ref b from h2)
    by_cases e : a = b
    · subst e
      rw [g1] at g2
      cases g2
      rw [decide_eq_true (pr_fn p1 p2)]
      exact SeqAt.EqAt.same _
    · exact SeqAt.EqAt.of_refs e (rc_list I hh (by omega) (hh.lst g1) (hh.lst g2) p1 p2).1⟩
end
section
variable {X : Cx} {Γ : Ct} {m m1 m2 : Option Ct} {α β κ : Type} {τ : Ty α} {τ2 : Ty β} {s s1 : Sh} {pos : Pos} {a b : Expr} {n : Nat}
/-- == of two lists -/
def rEqT (ne : Bool) (τ : Ty α) [DecidableEq α] : R2 := fun v w H Q => ∃ G os a b vs ws xs ys, v = .ref a ∧ w = .ref b ∧ HH G os H ∧ H a = some (.lst vs) ∧ H b = some (.lst ws) ∧ Paired (τ.rep G) vs xs ∧ Paired (τ.rep G) ws ys ∧ Q (.bl (if ne then !decide (xs = ys) else decide (xs = ys))) H
theorem op_neT [DecidableEq α] [EqD τ n] (hu : X.A.units + n + 1 < cLine) : OpR X (compareOp .NotEq) (rEqT true τ) := by
  intro pins s σ H x y v u Q I rx ry h
  obtain ⟨G, os, a, b, vs, ws, xs, ys, rfl, rfl, hh, ga, gb, p1, p2, q⟩ := h
  cases (show v = Value.ref a from rx)
  cases (show u = Value.ref b from ry)
  exact (rc_list I hh (by omega) ga gb p1 p2).2 X.prog X.w _ _ ⟨.bl _, H, I, rfl, q⟩
theorem v2_eqT [DecidableEq α] {ne : Bool} {xs ys : List α} (h : RdL s τ xs) : V2 s (tList τ) ys (fz tBool (if ne then !decide (xs = ys) else decide (xs = ys))) (rEqT ne τ) := by
  rintro v w G H os o Q at_ hs ⟨b, ws, e2, g2, p2⟩ k
  obtain ⟨a, vs, e1, g1, p1⟩ := h G H os o v at_ hs
  exact ⟨G, os, a, b, vs, ws, xs, ys, e1, e2, at_.1, g1, at_.1.lst g2, p1, p2, k.fz at_.1 rfl⟩
theorem ej_neL [DecidableEq α] [EqD τ n] {xs ys : List α} (hu : X.A.units + n + 1 < cLine) (ha : EJ X a Γ m1 (fz (tList τ) xs)) (hb : EJ X b (out Γ m1) m2 (fz (tList τ) ys)) : EJ X (.Compare a [.NotEq] [b] pos) Γ (cmb m1 m2) (fz tBool (!decide (xs = ys))) := ej_cmp (op_neT hu) (v2_eqT (ne := true) rd_fz) ha hb (nomark _)
/-! == of dicts of scalars that are the same -/
def rEqDR (ne : Bool) : R2 := fun x y H Q => ∃ a b ks ls, x = .ref a ∧ y = .ref b ∧ Rd H a (.dK ks) ∧ Rd H b (.dK ls) ∧ ks.length = ls.length ∧ (∀ p ∈ ks, valV ls p.1 = some p.2 ∧ flatB p.2 = true) ∧ Q (.bl (!ne)) H
theorem kr_val [Scl τ] {kd : Kd κ} {G : Hp} : ∀ {vs ws : List (kd.KT × V)} {x : List (κ × α)}, Paired (KR kd τ G) vs x → Paired (KR kd τ G) ws x → vs = ws
  | _, _, _, .nil, .nil => rfl
  | _, _, _, .cons (a := p) r1 t1, .cons (a := q) r2 t2 => by
    rw [kr_val t1 t2]
    have e1 : p.1 = q.1 := r1.1.trans r2.1.symm
    have e2 : p.2 = q.2 := (Scl.is _ _ _ r1.2).trans (Scl.is _ _ _ r2.2).symm
    rw [show p = q from Prod.ext e1 e2]
/-! isinstance of a built-in class -/
end
end Sl

set_option Elab.async false
set_option linter.all false
set_option maxRecDepth 100000
namespace Sl
open PySem PySem.Spec PyProof.Rows L2 Dl
theorem bnd {α β : Type} {o : Option α} {f : α → Option β} {b : β} (h : o.bind f = some b) : ∃ a, o = some a ∧ f a = some b := Option.bind_eq_some_iff.mp h
theorem ifT {α : Type} {t : Bool} {a b c : α} (ht : t = true) (h : (if t = true then a else b) = c) : a = c := by rw [if_pos ht] at h; exact h
theorem ifF {α : Type} {t : Bool} {a b c : α} (ht : t = false) (h : (if t = true then a else b) = c) : b = c := by rw [if_neg (by rw [ht]; decide)] at h; exact h
/-- only if p -/
def grd {α : Type} (p : Prop) [Decidable p] (a : α) : Option α := if p then some a else none
theorem grd_iff {α : Type} {p : Prop} [Decidable p] {a b : α} (h : grd p a = some b) : p ∧ a = b := by
  unfold grd at h
  split at h
  · exact ⟨by assumption, Option.some.inj h⟩
  · cases h
section
variable {Pg : Program} {w : World} {K : PySem.W.Frag} {mg : Str → Option Value} {base : Heap}
/-- a method as its callers see it; a class that is made -/
structure Met (P : Program) (w : World) (K : PySem.W.Frag) (mg : Str → Option Value) (base : Heap) (k : Nat) (C : Addr) (m : Str) (ps : List Str) (sp : Sp) : Prop where
  ex : ∃ fi fd, Meth K C m fi ∧ FnG P w K mg base CX0 k fi fd ps sp ∧ Binds K fd ps []
structure Mkr (P : Program) (w : World) (K : PySem.W.Frag) (mg : Str → Option Value) (base : Heap) (k : Nat) (C : Addr) (x : Str) (ps : List Str) (sp : Sp) : Prop where
  ex : ∃ fi fd, Mk K C fi ∧ FnG P w K mg base CX0 k fi fd ps sp ∧ Binds K fd ps [] ∧ mg x = some (.ref C)
theorem Fun.okS {x q : Str} {st : Stmt} {f0 : Addr} {fd : FuncData} {N ps : List Str} {k n : Nat} {Φ : Phi} (D : Fun K x q st f0 fd) (S : FnScope N ps (defScope st)) (hn : n = ps.length) (hN : n ≤ N.length)
    (hbody : ∀ (X : Cx) (s : Shared) (H : Hp) (A : Around) (outer : List Env) (cdv : Value) (E : XK) (ss : List Sh) (r : Sh) (L : List (Nat × Sh)) (vs : List V),
      RoomG k (A.deeper (envOfC q (defScope st) s.heap.objs.size f0 cdv)) → vs.length = n → Φ ss r L →
      ∃ (ρ : Type) (rs : ρ → Sh) (ls : ρ → List Sh) (y : ρ) (P : Pn), rs y = r ∧ ls y = L.map Prod.snd ∧ (∀ p ∈ P, vs[p.1]? = some p.2) ∧ (P.map Prod.fst) = L.map Prod.fst ∧
        SJ (cxOf CX0 Pg w K mg base N q (defScope st) f0 cdv A outer s H E).nox P (defBody st) (ss.map some ++ List.replicate (N.length - n) none) (PoF rs ls P y)) : FnG Pg w K mg base CX0 (k + 1) f0 fd ps (spS n Φ) := by
  refine Fun.okG D S (fun vs H Q E h => ?_) fun cdv A outer s H vs Q E hr h => ?_
  · obtain ⟨_, _, _, _, _, _, e, _⟩ := h
    rw [e, hn]
  · obtain ⟨G, ow, F, ss, r, L, e, hh, hs, hΦ, k⟩ := h
    obtain ⟨ρ, rs, ls, y, P, er, el, hP, hPL, hb⟩ := hbody (cxOf CX0 Pg w K mg base N q (defScope st) f0 cdv A outer s H E).nox s H A outer cdv E ss r L vs hr e hΦ
    have fin : ∀ (v : V) (G' : Hp) (o1 o2 : Ow) (H' : Hp), Same G G' → HH G' (o1 ++ o2 ++ F) H' → (rs y).p G' o1 v → Shs (ls y) G' o2 (P.map Prod.snd) → Q v H' := fun v G' o1 o2 H' sm h' p1 p2 => by
      rw [el] at p2
      rw [er] at p1
      exact k v G' o1 o2 H' sm (by rw [← List.append_assoc]; exact h') p1 (lent_of hPL hP p2)
    refine ⟨_, hb, G, ow, F, hh, ?_, fun p hp => ?_, fun σ' G' os' H' sm h' pn ⟨dead, o, pm, o1, o2, eo, p1, p2⟩ => ?_, fun v G' o H' sm h' ⟨o1, o2, eo, p1, p2⟩ => ?_, fun _ _ _ _ _ _ _ => ⟨fun z => z.elim, fun _ _ z => z.elim⟩⟩
    · have := StA.start (n := N.length - n) hs
      unfold L2.start
      rw [e]
      exact this
    · have h1 := hP p hp
      unfold L2.start
      have hl : p.1 < vs.length := (List.getElem?_eq_some_iff.mp h1).1
      rw [List.getElem?_append_left (by simpa using hl), List.getElem?_map, h1]
      rfl
    · subst eo
      exact fin .non G' o1 o2 H' sm (HH.drops (d := dead) (h'.perm (by rw [← List.append_assoc]; exact List.Perm.append_right F pm))) p1 p2
    · subst eo
      exact fin v G' o1 o2 H' sm h' p1 p2
theorem DefAt.cal {x : Str} {st : Stmt} {ps : List Str} {k : Nat} {sp : Sp} (D : DefAt K mg x st ps) (h : ∀ f0 fd, Fun K x x st f0 fd → FnG Pg w K mg base CX0 k f0 fd ps sp) : CalG Pg w K mg base CX0 k x ps sp := by
  obtain ⟨f, fd, F, g, b⟩ := D.ex
  exact ⟨f, fd, h f fd F, g, F.kp, b⟩
end
section
variable {X : Cx} {P : Pn} {Γ Γ0 Γ' Γ1 Γ2 Γm Γn : Ct} {m m0 m1 m2 : Option Ct} {α β γ δ κ ρ S : Type} {τ τ1 : Ty α} {τ2 : Ty β} {τ3 : Ty γ} {s s1 s2 r : Sh} {pos p apos nm : Pos} {a b c e o tg : Expr} {es : List Expr} {us vs : List Nat} {as : List As} {ss : List Sh} {x f : Str} {kd : Kd κ} {i j : Nat} {rest thn els : List Stmt} {R : Po} {C : Addr} {ns : List Str} {k : Nat} {ps : List Str} {E : XK} {Φ : Phi} {L : List (Nat × Sh)} {rs : ρ → Sh} {ls : ρ → List Sh} {n : Nat}
/-! and, or of tests that change nothing and may always be asked -/
theorem ej_neg {i : Int} (h : EJ X a Γ m (fz tInt i)) : EJ X (.UnaryOp .USub a pos) Γ m (fz tInt (-i)) := pe_to (pe_un un_neg h) fun σ H Q ⟨G, os, F, hh, st, k⟩ => go_un (tT.one ⟨G, os, F, hh, st, fun v G' os' H' sm h' af (r : v = .int i) => by subst r; exact go_rU (k _ G' [] os' H' sm h' af ⟨rfl, rfl⟩)⟩)
/-! one of two kinds -/
theorem ej_inl {x : α} (h : EJ X e Γ m (fz τ1 x)) : EJ X e Γ m (fz (tSum τ1 τ2) (.inl x)) := pe_to h fun σ H Q ⟨G, os, F, hh, st, k⟩ => ⟨G, os, F, hh, st, fun v G' o os' H' sm h' af ⟨eo, r⟩ => k v G' o os' H' sm h' af ⟨eo, .inl ⟨x, rfl, r⟩⟩⟩
theorem ej_inr {x : β} (h : EJ X e Γ m (fz τ2 x)) : EJ X e Γ m (fz (tSum τ1 τ2) (.inr x)) := pe_to h fun σ H Q ⟨G, os, F, hh, st, k⟩ => ⟨G, os, F, hh, st, fun v G' o os' H' sm h' af ⟨eo, r⟩ => k v G' o os' H' sm h' af ⟨eo, .inr ⟨x, rfl, r⟩⟩⟩
theorem ej_getl {y : α ⊕ β} {x : α} (h : EJ X e Γ m (fz (tSum τ1 τ2) y)) (e1 : y = .inl x) : EJ X e Γ m (fz τ1 x) := pe_to h fun σ H Q ⟨G, os, F, hh, st, k⟩ => ⟨G, os, F, hh, st, fun v G' o os' H' sm h' af ⟨eo, r⟩ => k v G' o os' H' sm h' af ⟨eo, by
  rcases r with ⟨z, ez, r⟩ | ⟨z, ez, r⟩
  · rw [e1] at ez; cases ez; exact r
  · rw [e1] at ez; cases ez⟩⟩
def asL {α β : Type} : α ⊕ β → Option α
  | .inl x => some x
  | .inr _ => none
theorem asL_iff {α β : Type} {y : α ⊕ β} {x : α} (h : asL y = some x) : y = .inl x := by
  cases y with
  | inl z => cases h; rfl
  | inr z => cases h
/-- an int or a text, beside a text -/
theorem v2_eqS {y : Int ⊕ Str} {z : Str} : V2 (fz (tSum tInt tStr) y) tStr z (fz tBool (decide (y = .inr z))) rEq := by
  rintro v w G H os o Q ⟨hh, _⟩ ⟨_, r1⟩ (r2 : w = .str z) k
  subst r2
  rcases r1 with ⟨i, rfl, (rfl : v = .int i)⟩ | ⟨t, rfl, (rfl : v = .str t)⟩
  · refine ⟨rfl, ?_⟩
    rw [decide_eq_false (by intro q; cases q)]
    rw [decide_eq_false (by intro q; cases q)] at k
    exact k.fz hh rfl
  · refine ⟨rfl, ?_⟩
    have e : decide (V.str t = V.str z) = decide ((.inr t : Int ⊕ Str) = .inr z) := by
      by_cases h : t = z
      · subst h; rw [decide_eq_true rfl, decide_eq_true rfl]
      · rw [decide_eq_false (fun q => h (V.str.inj q)), decide_eq_false (fun q => h (Sum.inr.inj q))]
    rw [e]
    exact k.fz hh rfl
theorem ej_eqS {y : Int ⊕ Str} {z : Str} (ha : EJ X a Γ m1 (fz (tSum tInt tStr) y)) (hb : EJ X b (out Γ m1) m2 (fz tStr z)) : EJ X (.Compare a [.Eq] [b] pos) Γ (cmb m1 m2) (fz tBool (decide (y = .inr z))) := ej_cmp op_eq v2_eqS ha hb (nomark _)
/-! calls by the bundles -/
theorem ej_mk (M : Mkr X.prog X.w X.K X.mg X.base k C x ps (spS n Φ)) (hr : RoomG (k + 1) X.A) (hg : Gl X x) (hx : Passes CX0 X E) (ha : AJ X (e :: es) Γ m (ss.map As.val))
    (hΦ : Φ (oIns C [] [] :: ss) (fz tNon ()) [(0, s)]) (hn : ss.length + 1 = n := by rfl) (hdb : (x == ("__debug__" : Str)) = false := by decide) (he : starEach (e :: es) X.env = (false, eval e X.env) :: starEach es X.env := by rfl) (hpl : (backTo pos (starEach es X.env)).any (·.1) = false := by rfl) :
    EJ X (.Call (.Name x p) (e :: es) [] pos) Γ m s := by
  obtain ⟨fi, fd, M, Fn, hb, hm⟩ := M.ex
  exact ej_make M Fn hb hr hg hm hx ha hΦ hn hdb he hpl
theorem ej_mtF0 {sh : β → List Sh} {d : β} {pl : Sem Bool} (M : Met X.prog X.w X.K X.mg X.base k C f ps (spS n Φ)) (ho : EJ X o Γ m1 (fz (tOb C ns sh) d)) (hc : Cls X.K C) (hr : RoomG k X.A) (hx : Passes CX0 X E) (hf : ixOf f ns = none)
    (hΦ : Φ [fz (tOb C ns sh) d] r []) (hn : 1 = n := by rfl)
    (ht : eval (.Call (.Attribute o f apos) [] [] pos) X.env = (do
      let ov ← eval o X.env
      standAt apos.atName
      let (f, first) ← holding [ov] (getMethod ov f pl)
      callWith pos f first (backTo pos (starEach [] X.env)) (backToKw pos (keywordEach [] X.env))) := by rfl) : EJ X (.Call (.Attribute o f apos) [] [] pos) Γ m1 r := by
  obtain ⟨fi, fd, hm, Fn, hb⟩ := M.ex
  exact ej_methF0 (pl := pl) ho hc hm Fn hr hb hx hf hΦ hn ht
/-! the script -/
def tScr (K : PySem.W.Frag) : Ty (List Int) := ⟨fun G v ns => ∃ a, v = .ref a ∧ SqL K G a (ns.map V.int), fun s ⟨a, e, h⟩ => ⟨a, e, s.seq h⟩⟩
theorem v2_ixScr {K : PySem.W.Frag} {ns : List Int} {i y : Int} (hi : atI ns i = some y) : V2 (fz (tScr K) ns) tInt i (fz tInt y) (rIxL K) := by
  rintro v w G H os o Q at_ ⟨_, a, e, h⟩ (r2 : w = .int i) k
  subst e r2
  refine ⟨a, _, i, .int y, rfl, rfl, at_.1.sq h, ?_, k.fz at_.1 rfl⟩
  unfold atI at hi ⊢
  rw [List.length_map]
  obtain ⟨j, hj, hy⟩ := Option.bind_eq_some_iff.mp hi
  rw [hj]
  show (ns.map V.int)[j]? = _
  rw [List.getElem?_map, hy]
  rfl
theorem va_lenScr {K : PySem.W.Frag} {ns : List Int} : VA [fz (tScr K) ns] (fz tInt (ns.length : Int)) (Dl.rLen K) := va_one fun v G H os o Q at_ ⟨_, a, e, h⟩ k => by
  subst e
  refine go_len (at_.1.sq h) ?_
  rw [List.length_map]
  exact k.fz at_.1 rfl
theorem ij_rg2 {i j : Int} (hg : Gl X "range") (hm : X.mg "range" = none) (h : AJ X [a, b] Γ m [.val (fz tInt i), .val (fz tInt j)]) (hi : -1000000000 ≤ i ∧ i ≤ 1000000000 ∧ -1000000000 ≤ j ∧ j ≤ 1000000000) (hs : starEach [a, b] X.env = [(false, eval a X.env), (false, eval b X.env)] := by rfl) (hs2 : starEach [b] X.env = [(false, eval b X.env)] := by rfl) :
    IJ X tg (.Call (.Name "range" p) [a, b] [] pos) Γ m (range2 i j) (fz tInt) :=
  pi_to (pi_range2 hg hm h hs hs2) fun σ H R ⟨G, os, F, hh, st, k⟩ => go_rg2 ⟨G, os, F, hh, st, fun ws G' o os' H' sm h' af ⟨v, vr, o1, o2, e1, e2, ⟨e3, (r : v = .int i)⟩, w, wr, o3, o4, e4, e5, ⟨e6, (r2 : w = .int j)⟩, e7, e8⟩ => by
    subst e1 e3 e4 e6 e7 e8 r r2 e5 e2
    exact go_rgk2 hi.1 hi.2.1 hi.2.2.1 hi.2.2.2 (k _ G' os' H' sm h' af wk_rng)⟩
end
end Sl

set_option Elab.async false
set_option linter.all false
set_option maxRecDepth 100000
namespace Sl
open PySem PySem.Spec PyProof.Rows L2 Dl
theorem hu1 {A : Around} {k n : Nat} (hr : RoomG k A) (hn : n ≤ 60 := by decide) : A.units + n + 1 < cLine := by
  have := hr.units
  omega
section
variable {X : Cx} {Γ : Ct} {m : Option Ct} {α β κ : Type} {τ : Ty α} {τ2 : Ty β} {s s1 : Sh} {pos p q : Pos} {a b e : Expr} {n : Nat} {es : List Expr} {x y : Str} {kd : Kd κ} {K : PySem.W.Frag}
theorem ej_is {x y : α} (h : x = y) (t : EJ X e Γ m (fz τ x)) : EJ X e Γ m (fz τ y) := by subst h; exact t
theorem ej_m {m' : Option Ct} (h : EJ X e Γ m s) (q : m = m') : EJ X e Γ m' s := by subst q; exact h
theorem lcj_e (h : LcJ X e Γ m s) : EJ X e Γ m s := h.1
theorem lcj_s (h : LcJ X e Γ m s) {i : Nat} {y : Str} {py spos : Pos} (h1 : X.N[i]? = some y) (h2 : X.env.scope.names.lookup y = some .local) (h3 : swapsWith e (some (.Name y py)) spos.line X.env = pure true) : PS X (.Assign [.Name y py] e spos) (tAsg (tT Γ m s) (gName i)) := h.2 h1 h2 h3
/-- a comparison as a test -/
theorem isTrue_cmp (l op r pos env whole) : isTrue (.Compare l [op] [r] pos) env whole = (eval (.Compare l [op] [r] pos) env >>= fun c => holding [c] (truthy c)) := by
  rw [isTrue_Compare1, eval_Compare1]
  simp only [bind_assoc]
theorem tj_cmp {op : CmpOp} {t : Bool} (h : EJ X (.Compare a [op] [b] pos) Γ m (fz tBool t)) : TJ X (.Compare a [op] [b] pos) Γ m t := by
  refine ⟨fun pins s σ H Q I ⟨G, os, F, hh, st, k⟩ => ?_⟩
  rw [isTrue_cmp]
  refine wpAny_bind (thn (h.run pins s σ H (fun x H1 => x = .bl t ∧ Q t H1) I ⟨G, os, F, hh, st, fun v G' o os' H' sm h' af ⟨eo, (r : v = .bl t)⟩ => ⟨r, k G' os' H' sm (by subst eo; exact h') af⟩⟩) fun v s1 ⟨x, H1, I1, r1, e, q⟩ => ?_)
  subst e
  cases r1
  exact wpAny_holding (wpAny_truthy_bool ⟨H1, I1, q⟩)
theorem ts_of {t bo : Bool} {c : Expr} (h : TJ X c Γ m t) (e1 : t = bo) : TsJ X [c] Γ m bo := by subst e1; exact ts_one h
/-- a written list as an owned list of data -/
theorem ol_of {xs : List α} : ∀ {G : Hp} {vs : List V}, Shs (xs.map (fz τ)) G [] vs → Paired (τ.rep G) vs xs := by
  induction xs with
  | nil => intro G vs h; rw [h.1]; exact .nil
  | cons x xs ih =>
    intro G vs ⟨v1, r1, o1, o1', e1, e2, ⟨_, h1⟩, h2⟩
    obtain ⟨e3, e4⟩ := app_nil2 e2
    subst e1 e4
    exact .cons h1 (ih h2)
theorem shs_nil {xs : List α} : ∀ {G : Hp} {o : Ow} {vs : List V}, Shs (xs.map (fz τ)) G o vs → o = [] := by
  induction xs with
  | nil => intro G o vs h; exact h.2
  | cons x xs ih =>
    intro G o vs ⟨v1, r1, o1, o1', e1, e2, ⟨e3, _⟩, h2⟩
    rw [e2, e3, ih h2]
    rfl
theorem ej_oL {xs : List α} (h : EJ X e Γ m (oLst (xs.map (fz τ)))) : EJ X e Γ m (oL τ xs) := pe_to h fun σ H Q ⟨G, os, F, hh, st, k⟩ => ⟨G, os, F, hh, st, fun v G' o os' H' sm h' af ⟨a, vs, o', e1, e2, sh⟩ => k v G' o os' H' sm h' af (by
  have := shs_nil sh
  subst this
  exact ⟨a, vs, e1, e2, ol_of sh⟩)⟩
def tyS (C : String) : Sh := ⟨fun _ o v => o = [] ∧ v = .ty C, fun _ h => h, fun h c hc => by rw [h.1] at hc; cases hc⟩
/-- what type a value has -/
def IsT (s : Sh) (t : String) : Prop := ∀ (K : PySem.W.Frag) G H os o v, At G H os o → s.p G o v → TyX K H v (.type t)
end
end Sl

set_option Elab.async false
set_option linter.all false
set_option maxRecDepth 100000
namespace Sl
open PySem PySem.Spec PyProof.Rows L2 Dl
/-! ### repr of data -/
class Sho {α : Type} (τ : Ty α) (n : outParam Nat) where
  dat : α → PyData
  dep : ∀ x, (dat x).depth ≤ n
  noD : ∀ x, (dat x).hasDict = false
  rd : ∀ {X : Cx} {pins : List (Addr × Obj)} {σ : L2.St} {H G : Hp} {st : Shared} {os : Ow} {v : V} {x : α} {u : Value}, Inv X pins σ H st → HH G os H → τ.rep G v x → RelV v u → ∃ as, Reads st.heap u (dat x) as
instance : Sho tInt 0 := ⟨PyData.int, fun _ => Nat.le_refl _, fun _ => by simp only [PyData.hasDict], fun {X pins σ H G st os v x u} I hh (r : v = .int x) h => by
  subst r
  obtain ⟨k, rfl⟩ := h
  exact ⟨_, .int x k⟩⟩
instance : Sho tStr 0 := ⟨PyData.str, fun _ => Nat.le_refl _, fun _ => by simp only [PyData.hasDict], fun {X pins σ H G st os v x u} I hh (r : v = .str x) h => by
  subst r
  obtain ⟨k, rfl⟩ := h
  exact ⟨_, .str x k⟩⟩
instance : Sho tBool 0 := ⟨PyData.bool, fun _ => Nat.le_refl _, fun _ => by simp only [PyData.hasDict], fun {X pins σ H G st os v x u} I hh (r : v = .bl x) h => by
  subst r
  cases (show u = Value.bool x from h)
  exact ⟨_, .bool x⟩⟩
instance : Sho tNon 0 := ⟨fun _ => PyData.none, fun _ => Nat.le_refl _, fun _ => by simp only [PyData.hasDict], fun {X pins σ H G st os v x u} I hh (r : v = .non) h => by
  subst r
  cases (show u = Value.none from h)
  exact ⟨_, .none⟩⟩
section
variable {α β γ : Type} {τ : Ty α} {τ1 : Ty α} {τ2 : Ty β} {τ3 : Ty γ} {n n1 n2 n3 : Nat} {X : Cx} {pins : List (Addr × Obj)} {σ : L2.St} {H G : Hp} {st : Shared} {os : Ow}
theorem sho_all [S : Sho τ n] (I : Inv X pins σ H st) (hh : HH G os H) {vs : List V} {xs : List α} (p : Paired (τ.rep G) vs xs) : ∀ {us : List Value}, Vals vs us → ∃ as, ReadsAll st.heap us (xs.map S.dat) as := by
  induction p with
  | nil =>
    intro us r
    cases r
    exact ⟨_, .nil⟩
  | cons r1 _ ih =>
    intro us r
    cases r with
    | cons q1 q2 =>
      obtain ⟨as, h1⟩ := S.rd I hh r1 q1
      obtain ⟨bs, h2⟩ := ih q2
      exact ⟨_, .cons h1 h2⟩
theorem depAll [S : Sho τ n] : ∀ xs : List α, PyData.depthAll (xs.map S.dat) ≤ n
  | [] => by simp [PyData.depthAll]
  | x :: xs => by
    show PyData.depthAll (S.dat x :: xs.map S.dat) ≤ n
    rw [PyData.depthAll]
    exact Nat.max_le.mpr ⟨S.dep x, depAll xs⟩
theorem noDAll [S : Sho τ n] : ∀ xs : List α, PyData.hasDictAll (xs.map S.dat) = false
  | [] => by simp [PyData.hasDictAll]
  | x :: xs => by
    show PyData.hasDictAll (S.dat x :: xs.map S.dat) = false
    rw [PyData.hasDictAll, S.noD x, noDAll xs]
    rfl
instance shoL [S : Sho τ n] : Sho (tList τ) (n + 1) := ⟨fun xs => .list (xs.map S.dat), fun xs => by
    rw [PyData.depth]
    exact Nat.succ_le_succ (depAll xs), fun xs => by
    rw [PyData.hasDict]
    exact noDAll xs, fun {X pins σ H G st os v x u} I hh ⟨a, vs, e, g, p⟩ h => by
    subst e
    cases (show u = Value.ref a from h)
    obtain ⟨us, r, q, _⟩ := I.list (SqL.of (hh.lst g))
    obtain ⟨as, ra⟩ := sho_all I hh p r
    obtain ⟨o, h1, h2, m, h3⟩ := q.isList
    exact ⟨_, .list h1 h2 h3 (by simpa using ra)⟩⟩
instance sho2 [S1 : Sho τ1 n1] [S2 : Sho τ2 n2] : Sho (tP2 τ1 τ2) (max n1 n2 + 1) := ⟨fun x => .tuple [S1.dat x.1, S2.dat x.2], fun x => by
    rw [PyData.depth, PyData.depthAll, PyData.depthAll, PyData.depthAll]
    have := S1.dep x.1
    have := S2.dep x.2
    omega, fun x => by
    rw [PyData.hasDict, PyData.hasDictAll, PyData.hasDictAll, PyData.hasDictAll, S1.noD, S2.noD]
    rfl, fun {X pins σ H G st os v x u} I hh ⟨a, v1, v2, e, g, r1, r2⟩ h => by
    subst e
    cases (show u = Value.ref a from h)
    obtain ⟨us, r, q, _⟩ := I.tuple (SqT.of (hh.tup g))
    cases r with
    | cons q1 r => cases r with
      | cons q2 r =>
        cases r
        obtain ⟨as, ra⟩ := S1.rd I hh r1 q1
        obtain ⟨bs, rb⟩ := S2.rd I hh r2 q2
        obtain ⟨o, h1, h2, m, h3⟩ := q
        exact ⟨_, .tuple h1 h2 h3 (.cons ra (.cons rb .nil))⟩⟩
/-- it can be shown -/
def Shw (d : PyData) : Prop := d.showable = true ∧ d.shown.length ≤ sizeLine
instance (d : PyData) : Decidable (Shw d) := inferInstanceAs (Decidable (_ ∧ _))
def rRepr (τ : Ty α) [S : Sho τ n] : List V → Hp → VK → Prop := fun xs H Q => ∃ G os v x, xs = [v] ∧ HH G os H ∧ τ.rep G v x ∧ Shw (S.dat x) ∧ Q (.str (S.dat x).shown) H
end
end Sl

set_option Elab.async false
set_option linter.all false
set_option maxRecDepth 100000
namespace Sl
open PySem PySem.Spec PyProof.Rows L2 Dl
section
variable {α β γ δ : Type} {τ τ1 : Ty α} {τ2 : Ty β} {τ3 : Ty γ} {τ4 : Ty δ} {n n1 n2 n3 n4 : Nat}
instance shoO [S : Sho τ n] : Sho (tOpt τ) n := ⟨fun x => match x with
    | none => .none
    | some y => S.dat y, fun x => by cases x with
    | none => exact Nat.zero_le _
    | some y => exact S.dep y, fun x => by cases x with
    | none => simp only [PyData.hasDict]
    | some y => exact S.noD y, fun {X pins σ H G st os v x u} I hh r h => by
    rcases r with ⟨rfl, rfl⟩ | ⟨y, rfl, _, r⟩
    · cases (show u = Value.none from h)
      exact ⟨_, .none⟩
    · exact S.rd I hh r h⟩
instance shoS [S1 : Sho τ1 n1] [S2 : Sho τ2 n2] : Sho (tSum τ1 τ2) (max n1 n2) := ⟨fun x => match x with
    | .inl y => S1.dat y
    | .inr y => S2.dat y, fun x => by cases x with
    | inl y => exact Nat.le_trans (S1.dep y) (Nat.le_max_left _ _)
    | inr y => exact Nat.le_trans (S2.dep y) (Nat.le_max_right _ _), fun x => by cases x with
    | inl y => exact S1.noD y
    | inr y => exact S2.noD y, fun {X pins σ H G st os v x u} I hh r h => by
    rcases r with ⟨y, rfl, r⟩ | ⟨y, rfl, r⟩
    · exact S1.rd I hh r h
    · exact S2.rd I hh r h⟩
instance shoT [S : Sho τ n] : Sho (tTup τ) (n + 1) := ⟨fun xs => .tuple (xs.map S.dat), fun xs => by
    rw [PyData.depth]
    exact Nat.succ_le_succ (depAll xs), fun xs => by
    rw [PyData.hasDict]
    exact noDAll xs, fun {X pins σ H G st os v x u} I hh ⟨a, vs, e, g, p⟩ h => by
    subst e
    cases (show u = Value.ref a from h)
    obtain ⟨us, r, q, _⟩ := I.tuple (SqT.of (hh.tup g))
    obtain ⟨as, ra⟩ := sho_all I hh p r
    obtain ⟨o, h1, h2, m, h3⟩ := q
    exact ⟨_, .tuple h1 h2 h3 (by simpa using ra)⟩⟩
instance sho3 [S1 : Sho τ1 n1] [S2 : Sho τ2 n2] [S3 : Sho τ3 n3] : Sho (tP3 τ1 τ2 τ3) (max n1 (max n2 n3) + 1) := ⟨fun x => .tuple [S1.dat x.1, S2.dat x.2.1, S3.dat x.2.2], fun x => by
    rw [PyData.depth, PyData.depthAll, PyData.depthAll, PyData.depthAll, PyData.depthAll]
    have := S1.dep x.1
    have := S2.dep x.2.1
    have := S3.dep x.2.2
    omega, fun x => by
    rw [PyData.hasDict, PyData.hasDictAll, PyData.hasDictAll, PyData.hasDictAll, PyData.hasDictAll, S1.noD, S2.noD, S3.noD]
    rfl, fun {X pins σ H G st os v x u} I hh ⟨a, v1, v2, v3, e, g, r1, r2, r3⟩ h => by
    subst e
    cases (show u = Value.ref a from h)
    obtain ⟨us, r, q, _⟩ := I.tuple (SqT.of (hh.tup g))
    cases r with
    | cons q1 r => cases r with
      | cons q2 r => cases r with
        | cons q3 r =>
          cases r
          obtain ⟨as, ra⟩ := S1.rd I hh r1 q1
          obtain ⟨bs, rb⟩ := S2.rd I hh r2 q2
          obtain ⟨cs, rc⟩ := S3.rd I hh r3 q3
          obtain ⟨o, h1, h2, m, h3⟩ := q
          exact ⟨_, .tuple h1 h2 h3 (.cons ra (.cons rb (.cons rc .nil)))⟩⟩
instance shoL2 [S1 : Sho τ1 n1] [S2 : Sho τ2 n2] : Sho (tL2 τ1 τ2) (max n1 n2 + 1) := ⟨fun x => .list [S1.dat x.1, S2.dat x.2], fun x => by
    rw [PyData.depth, PyData.depthAll, PyData.depthAll, PyData.depthAll]
    have := S1.dep x.1
    have := S2.dep x.2
    omega, fun x => by
    rw [PyData.hasDict, PyData.hasDictAll, PyData.hasDictAll, PyData.hasDictAll, S1.noD, S2.noD]
    rfl, fun {X pins σ H G st os v x u} I hh ⟨a, v1, v2, e, g, r1, r2⟩ h => by
    subst e
    cases (show u = Value.ref a from h)
    obtain ⟨us, r, q, _⟩ := I.list (SqL.of (hh.lst g))
    cases r with
    | cons q1 r => cases r with
      | cons q2 r =>
        cases r
        obtain ⟨as, ra⟩ := S1.rd I hh r1 q1
        obtain ⟨bs, rb⟩ := S2.rd I hh r2 q2
        obtain ⟨o, h1, h2, m, h3⟩ := q.isList
        exact ⟨_, .list h1 h2 h3 (.cons ra (.cons rb .nil))⟩⟩
/-- what x is, as it is shown -/
def dat (τ : Ty α) [S : Sho τ n] (x : α) : PyData := S.dat x
/-- two things are shown alike -/
def alike (d e : PyData) : Bool := decide (d.shown = e.shown)
end
section
variable {X : Cx} {Γ : Ct} {m : Option Ct} {α β : Type} {τ : Ty α} {τ2 : Ty β} {n n1 n2 : Nat} {s : Sh} {pos p : Pos} {e : Expr}
/-- what a def that compares by repr promises -/
def Psame : Phi := fun ss r L => ∃ (α β : Type) (τ : Ty α) (τ2 : Ty β) (n1 n2 : Nat) (S1 : Sho τ n1) (S2 : Sho τ2 n2) (x : α) (y : β), n1 ≤ 20 ∧ n2 ≤ 20 ∧ Shw (dat τ x) ∧ Shw (dat τ2 y) ∧ ss = [fz τ x, fz τ2 y] ∧ r = fz tBool (alike (dat τ x) (dat τ2 y)) ∧ L = []
end
end Sl

set_option Elab.async false
set_option linter.all false
set_option maxRecDepth 100000
namespace Sl
open PySem PySem.Spec PyProof.Rows L2 Dl
/-! ### a place that can be written: what stands there is s; with s' there the names hold u s' -/
def FP (u : Sh → Ct) (s : Sh) (σ : L2.St) (G : Hp) (os : Ow) (v : V) : Prop :=
  ∃ o rest, os.Perm (o ++ rest) ∧ s.p G o v ∧ ∀ G' s' o', Same G G' → s'.p G' o' v → ∃ os', os'.Perm (o' ++ rest) ∧ StA (u s') σ G' os'
theorem FP.mono {u : Sh → Ct} {s : Sh} {σ : L2.St} {G G1 : Hp} {os : Ow} {v : V} (f : FP u s σ G os v) (sm : Same G G1) : FP u s σ G1 os v :=
  let ⟨o, rest, pm, hs, back⟩ := f
  ⟨o, rest, pm, s.mono sm hs, fun G' s' o' sm' => back G' s' o' (sm.trans sm')⟩
def tF (Γ : Ct) (s : Sh) (u : Sh → Ct) : TE := fun σ H Q => ∃ G os F, HH G (os ++ F) H ∧ StA Γ σ G os ∧ ∀ v G' H', Same G G' → HH G' (os ++ F) H' → FP u s σ G' os v → Q v H'
abbrev FJ (X : Cx) (e : Expr) (Γ : Ct) (s : Sh) (u : Sh → Ct) : Prop := PE X e (tF Γ s u)
/-- one of things side by side, that may be another one -/
theorem Shs.take {G : Hp} : ∀ {ss : List Sh} {o : Ow} {vs : List V} {j : Nat} {sj : Sh}, Shs ss G o vs → ss[j]? = some sj →
    ∃ v oj ro, vs[j]? = some v ∧ sj.p G oj v ∧ o.Perm (oj ++ ro) ∧ ∀ G' s' o', Same G G' → s'.p G' o' v → ∃ o2, o2.Perm (o' ++ ro) ∧ Shs (ss.set j s') G' o2 vs
  | s :: ss, _, _, 0, sj, ⟨v, vr, o1, o2, e1, e2, h1, h2⟩, hj => by
    simp only [List.getElem?_cons_zero, Option.some.injEq] at hj
    subst hj e1 e2
    exact ⟨v, o1, o2, rfl, h1, .refl _, fun G' s' o' sm h' => ⟨o' ++ o2, .refl _, v, vr, o', o2, rfl, rfl, h', h2.mono sm⟩⟩
  | s :: ss, _, _, j + 1, sj, ⟨v, vr, o1, o2, e1, e2, h1, h2⟩, hj => by
    subst e1 e2
    obtain ⟨v', oj, ro, q1, q2, q3, back⟩ := Shs.take (j := j) h2 (by simpa using hj)
    refine ⟨v', oj, o1 ++ ro, by simpa using q1, q2, (List.Perm.append_left o1 q3).trans (perm_mid o1 oj ro), fun G' s' o' sm h' => ?_⟩
    obtain ⟨o3, p3, r3⟩ := back G' s' o' sm h'
    exact ⟨o1 ++ o3, (List.Perm.append_left o1 p3).trans (perm_mid o1 o' ro), v, vr, o1, o3, rfl, rfl, s.mono sm h1, r3⟩
section
variable {X : Cx} {P : Pn} {Γ : Ct} {m : Option Ct} {α β κ : Type} {τ τ1 : Ty α} {τ2 : Ty β} {s s1 : Sh} {pos p apos nm : Pos} {a b e o idx : Expr} {ss : List Sh} {x f : Str} {kd : Kd κ} {C : Addr} {ns : List Str} {xs : List α} {i j : Nat} {rest : List Stmt} {R : Po} {u : Sh → Ct}
theorem fj_var (hN : X.N[i]? = some x) (hv : Vis X.env.scope x) (hi : Γ[i]? = some (some s)) (hd : (x == ("__debug__" : Str)) = false := by decide) (hcd : (x == ("__classdict__" : Str)) = false := by decide) : FJ X (.Name x pos) Γ s (fun s' => Γ.set i (some s')) := by
  refine pe_to (pe_var (i := i) hN hv hd hcd) fun σ H Q ⟨G, os, F, hh, st, k⟩ => ?_
  obtain ⟨v, o, rest, a1, a2, a3, a4, a5⟩ := st.take hi
  exact ⟨v, a1, k v G H (Same.refl _) hh ⟨o, rest, a3, a2, a5⟩⟩
/-- o.f -/
theorem fj_fld {sj : Sh} (ho : FJ X o Γ (oIns C ns ss) u) (hc : Cls X.K C) (hn : NoAttr X.K C f) (hj : ixOf f ns = some j) (hy : ss[j]? = some sj) (hb : attributeBase o f X.env (eval o X.env) = eval o X.env := by rfl) :
    FJ X (.Attribute o f pos) Γ sj (fun s' => u (oIns C ns (ss.set j s'))) :=
  pe_to (pe_fld ho hb) fun σ H Q ⟨G, os, F, hh, st, k⟩ => ⟨G, os, F, hh, st, fun v G1 H1 sm1 hh ⟨ow, rest, pm, ⟨ad, dx, vs, o6, e0, eo, l, sh⟩, back⟩ => by
    subst e0 eo
    obtain ⟨w, oj, ro, q1, q2, q3, bk⟩ := sh.take hy
    refine ⟨ad, C, dx, _, w, rfl, (at_of hh pm).own, hc, hn, by rw [zip_lookup hj l]; exact q1, k w G1 H1 sm1 hh ⟨oj, (ad, .ins C dx (ns.zip vs)) :: (ro ++ rest), ?_, q2, fun G' s' o' sm h' => ?_⟩⟩
    · refine pm.trans ?_
      rw [List.cons_append]
      refine (List.Perm.cons _ (List.Perm.append_right rest q3)).trans ?_
      rw [List.append_assoc]
      exact List.perm_middle.symm
    · obtain ⟨o3, p3, r3⟩ := bk G' s' o' sm h'
      obtain ⟨os', p4, st4⟩ := back G' (oIns C ns (ss.set j s')) ((ad, .ins C dx (ns.zip vs)) :: o3) sm ⟨ad, dx, vs, o3, rfl, rfl, l, r3⟩
      refine ⟨os', p4.trans ?_, st4⟩
      rw [List.cons_append]
      refine (List.Perm.cons _ (List.Perm.append_right rest p3)).trans ?_
      rw [List.append_assoc]
      exact List.perm_middle.symm⟩
/-- o.append(e), e data that changes nothing -/
theorem ej_appF {y : α} (ho : FJ X o Γ (oL τ xs) u) (ha : AJ X [e] Γ none [.val (fz τ y)]) (hz : Sm xs.length)
    (hbase : attributeBase o "append" X.env (eval o X.env) = eval o X.env := by rfl)
    (hfew : ((backTo pos (starEach [e] X.env)).all (fun x => !x.1) && (backToKw pos (keywordEach [] X.env)).all (fun x => x.1.isSome) && decide ([e].length + ([] : List Keyword).length + (if ([] : List Keyword).isEmpty then 0 else 1) < 30)) = true := by rfl)
    (hline : (apos.endLine == pos.line) = true := by rfl) (hs : starEach [e] X.env = (false, eval e X.env) :: starEach [] X.env := by rfl) (hplain : (backTo pos (starEach [] X.env)).any (·.1) = false := by rfl) :
    EJ X (.Call (.Attribute o "append" apos) [e] [] pos) Γ (some (u (oL τ (xs ++ [y])))) (fz tNon ()) :=
  pe_to (pe_bm PySem.F.plainAttrs_list PySem.F.slot_list_append PySem.F.type_list_append mt_append ho ha hbase hfew hline hs hplain) fun σ H Q ⟨G, os, F, hh, st, k⟩ => by
    refine go_tbm ⟨G, os, F, hh, st, fun v G1 H1 sm1 h1 ⟨ow, rest, pm, ⟨ad, vs, e0, eo, pr⟩, back⟩ => ⟨?_, ⟨G1, os, F, h1, st.mono sm1, fun ws G2 o1 os1 H2 sm2 h2 (af2 : os1 = os) ⟨w, wr, o2, o3, e1, e2, ⟨e3, rw_⟩, e4, e5⟩ => ?_⟩⟩⟩
    · subst e0 eo
      exact .inl ⟨rfl, vs, SqL.of (at_of h1 pm).own⟩
    · subst e1 e4 e2 e3 e5 af2 e0 eo
      have hz' : vs.length < sizeLine := Sm.lt (by rw [pr_len pr]; exact hz)
      have h2' : HH G2 (os1 ++ F) H2 := h2
      have hput : HH G2 ((ad, .lst (vs ++ [w])) :: (rest ++ F)) (upd H2 ad (.lst (vs ++ [w]))) := (h2'.perm (List.Perm.append_right F pm)).put nf_lst
      obtain ⟨os4, p4, st4⟩ := back G2 (oL τ (xs ++ [y])) [(ad, .lst (vs ++ [w]))] sm2 ⟨ad, _, rfl, rfl, pr_snoc (pair_mono sm2 pr) rw_⟩
      exact ⟨ad, vs, w, rfl, rfl, (at_of h2' pm).own, hz', k .non G2 [] os4 _ (sm1.trans sm2) (hput.perm (List.Perm.append_right F p4.symm)) st4 ⟨rfl, rfl⟩⟩
end
end Sl

set_option Elab.async false
set_option linter.all false
set_option maxRecDepth 100000
namespace Sl
open PySem PySem.Spec PyProof.Rows L2 Dl
theorem pr_app' {α β : Type} {F : α → β → Prop} : ∀ {l l2 : List α} {m m2 : List β}, Paired F l m → Paired F l2 m2 → Paired F (l ++ l2) (m ++ m2)
  | _, _, _, _, .nil, h => h
  | _, _, _, _, .cons r t, h => .cons r (pr_app' t h)
/-- the least, the greatest -/
def minL : List Int → Int
  | [] => 0
  | x :: xs => xs.foldl min x
def maxL : List Int → Int
  | [] => 0
  | x :: xs => xs.foldl max x
/-- a dict of pairs -/
def ofPairs {κ α : Type} [DecidableEq κ] (xs : List (κ × α)) : List (κ × α) := xs.foldl (fun d p => aput d p.1 p.2) []
section
variable {X : Cx} {Γ Γ' Γ1 Γ2 : Ct} {m m1 m2 : Option Ct} {α β γ δ κ : Type} {τ τ1 : Ty α} {τ2 : Ty β} {τ3 : Ty γ} {τ4 : Ty δ} {s s1 s2 : Sh} {pos p : Pos} {a b c e tg : Expr} {es : List Expr} {us vs : List Nat} {kd : Kd κ} {K : PySem.W.Frag} {xs : List α}
/-- list + list -/
theorem v2_cat {ys : List α} (hz : Sm (xs.length + ys.length)) : V2 (fz (tList τ) xs) (tList τ) ys (oL τ (xs ++ ys)) rCat := by
  rintro v w G H os o Q at_ ⟨_, a, vs, e1, g1, p1⟩ ⟨b, ws, e2, g2, p2⟩ k
  exact ⟨a, b, vs, ws, e1, e2, at_.1.lst g1, at_.1.lst g2, (by rw [pr_len p1, pr_len p2]; exact Sm.le hz), fun q nq => k (.ref q) G [(q, .lst (vs ++ ws))] _ (Same.refl _) (at_.1.push nq) ⟨q, _, rfl, rfl, pr_app' p1 p2⟩⟩
theorem ej_cat {ys : List α} (ha : EJ X a Γ m1 (fz (tList τ) xs)) (hb : EJ X b (out Γ m1) m2 (fz (tList τ) ys)) (hz : Sm (xs.length + ys.length)) : EJ X (.BinOp a .Add b pos) Γ (cmb m1 m2) (oL τ (xs ++ ys)) := ej_op op_cat (v2_cat hz) ha hb
/-- dict([(k, v), ..]) -/
def rDictP (K : PySem.W.Frag) : List V → Hp → VK → Prop := fun xs H Q => ∃ (a : Addr) (ps : List Addr) (kvs : List (Key × V)), xs = [.ref a] ∧ SqL K H a (ps.map V.ref) ∧ Paired (fun p kv => SqT K H p [kV kv.1, kv.2]) ps kvs ∧ ∀ p, H p = none → Q (.ref p) (upd H p (.dK (mergeK [] kvs)))
theorem kr_merge [DecidableEq κ] {kd : Fk κ} {G : Hp} {kvs : List (Key × V)} {xs : List (κ × α)} (t : Paired (KR (kF kd) τ G) kvs xs) : ∀ {acc : List (Key × V)} {d : List (κ × α)}, Paired (KR (kF kd) τ G) acc d → (d.map Prod.fst).Nodup →
    Paired (KR (kF kd) τ G) (mergeK acc kvs) (xs.foldl (fun d p => aput d p.1 p.2) d) ∧ ((xs.foldl (fun d p => aput d p.1 p.2) d).map Prod.fst).Nodup := by
  induction t with
  | nil => exact fun h n => ⟨h, n⟩
  | @cons q x l l2 r t ih =>
    intro acc d h n
    have h1 := kr_put (kd := kF kd) x.1 r.2 h
    rw [← r.1] at h1
    exact ih h1 (aput_nd n)
/-! zip, enumerate -/
theorem wk_zip {G : Hp} {ys : List β} {p q : Addr} {vs ws : List V} (e1 : G p = some (.lst vs)) (r1 : Paired (τ1.rep G) vs xs) (e2 : G q = some (.lst ws)) (r2 : Paired (τ2.rep G) ws ys) : Wk (Itz K p q) G (xs.zip ys) (fz (tP2 τ1 τ2)) := fun G' os H' s h => by
  have a1 : H' p = some (.lst vs) := h.lst (s _ _ e1)
  have a2 : H' q = some (.lst ws) := h.lst (s _ _ e2)
  refine ⟨⟨vs, ws, SqL.of a1, SqL.of a2, ?_⟩, fun i y hy => ?_⟩
  · rw [List.length_zip, pr_len r1, pr_len r2]
    omega
  · obtain ⟨z1, z2⟩ : xs[i]? = some y.1 ∧ ys[i]? = some y.2 := by
      have := List.getElem?_zip_eq_some.mp hy
      exact this
    obtain ⟨v, hv, rv⟩ := pr_get2 r1 z1
    obtain ⟨w, hw, rw_⟩ := pr_get2 r2 z2
    refine ⟨⟨vs, ws, v, w, SqL.of a1, SqL.of a2, hv, hw⟩, fun x H3 ⟨T, u1, u2, e3, nT, e4, f1, f2⟩ => ?_⟩
    have g1 := f1 vs (SqL.of a1)
    have g2 := f2 ws (SqL.of a2)
    rw [hv] at g1
    rw [hw] at g2
    cases g1
    cases g2
    subst e3 e4
    have gs := h.sameG (o := .tup [v, w]) nT
    exact ⟨_, gs, h.alloc nT, rfl, T, v, w, rfl, upd_same, τ1.mono (s.trans gs) rv, τ2.mono (s.trans gs) rw_⟩
theorem ij_zip {ys : List β} {elts : List Expr} {kk : Nat} {tpos : Pos} (hg : Gl X "zip") (hm : X.mg "zip" = none) (ha : AJ X [a, b] Γ m [.val (fz (tList τ1) xs), .val (fz (tList τ2) ys)])
    (hs : starEach [a, b] X.env = (false, eval a X.env) :: starEach [b] X.env := by rfl) (hpl : (backTo pos (starEach [b] X.env)).any (·.1) = false := by rfl) : IJ X (.Tuple elts kk tpos) (.Call (.Name "zip" p) [a, b] [] pos) Γ m (xs.zip ys) (fz (tP2 τ1 τ2)) :=
  pi_to (pi_zip hg hm ha hs hpl) fun σ H R ⟨G, os, F, hh, st, k⟩ => ⟨G, os, F, hh, st, fun vs G1 o1 os1 H1 sm1 h1 af1 ap => by
    obtain ⟨v, vr, oa, ob, e1, e2, ⟨e3, c, cs, e9, g1, r1⟩, w, wr, oc, od, e4, e5, ⟨e6, d, ds, e10, g2, r2⟩, e7, e8⟩ := asp_vals (ss := [fz (tList τ1) xs, fz (tList τ2) ys]) ap
    subst e3 e6 e8
    subst e5
    subst e2 e7
    subst e4
    subst e1 e9 e10
    exact ⟨c, d, cs, ds, rfl, SqL.of (h1.lst g1), SqL.of (h1.lst g2), k _ G1 os1 H1 sm1 h1 af1 (wk_zip g1 r1 g2 r2)⟩⟩
/-! (a, b) = a list of two -/
end
end Sl

set_option Elab.async false
set_option linter.all false
set_option maxRecDepth 100000
namespace Sl
open PySem PySem.Spec PyProof.Rows L2 Dl
/-! ### lists of owned things -/
theorem Shs.snoc {G : Hp} {s : Sh} {o1 : Ow} {w : V} (pw : s.p G o1 w) : ∀ {ss : List Sh} {oo : Ow} {vs : List V}, Shs ss G oo vs → Shs (ss ++ [s]) G (oo ++ o1) (vs ++ [w])
  | [], _, _, ⟨q1, q2⟩ => by
    subst q1 q2
    exact ⟨w, [], o1, [], rfl, by rw [List.append_nil]; rfl, pw, rfl, rfl⟩
  | t :: ts, _, _, ⟨v, vr, q1, q2, q3, q4, q5, q6⟩ => by
    subst q3 q4
    exact ⟨v, vr ++ [w], q1, q2 ++ o1, rfl, by rw [List.append_assoc], q5, Shs.snoc pw q6⟩
section
variable {X : Cx} {P : Pn} {Γ Γ' Γ1 Γ2 Γm Γn : Ct} {m m0 m1 m2 : Option Ct} {α β γ δ κ ρ S : Type} {τ τ1 : Ty α} {τ2 : Ty β} {τ3 : Ty γ} {s s1 s2 : Sh} {pos p : Pos} {a b e elt tg iter kx : Expr} {es ifs : List Expr} {us vs : List Nat} {she : γ → Sh}
section
variable {scope : Scope} {own : List (Str × Nat)} {items : List β} {sh : β → Sh} {f : β → Option (Option γ)} {zs : List γ} {Γy : β → Ct}
    (hg : ∀ (s : Shared) (H : Hp) (C : Addr) (cl : List (Str × Addr)) (fp : List Addr) y, GJ0 (Bk X s H scope C cl fp) tg (own.map (·.2)) (nones (own.map (·.2)) (out Γ m0)) (Γy y) (sh y))
    (ht : ∀ (s : Shared) (H : Hp) (C : Addr) (cl : List (Str × Addr)) (fp : List Addr) y oz, y ∈ items → f y = some oz → TsJ (Bk X s H scope C cl fp) ifs (Γy y) none oz.isSome)
    (he : ∀ (s : Shared) (H : Hp) (C : Addr) (cl : List (Str × Addr)) (fp : List Addr) y z, y ∈ items → f y = some (some z) → EJ (Bk X s H scope C cl fp) elt (Γy y) none (she z))
include hg ht he
end
end
end Sl

set_option Elab.async false
set_option linter.all false
set_option maxRecDepth 100000
namespace Sl
open PySem PySem.Spec PyProof.Rows L2 Dl
/-! ### places: what is read there, what is put there -/
def ixO {α : Type} (xs : List α) (k : Int) : Nat := (ixN xs.length k).getD 0
def setI {α : Type} (xs : List α) (k : Int) (y : α) : List α := xs.set (ixO xs k) y
section
variable {X : Cx} {P : Pn} {Γ : Ct} {m : Option Ct} {α β κ : Type} {τ τ1 : Ty α} {τ2 : Ty β} {s s1 : Sh} {pos p apos nm : Pos} {a b e o idx kx : Expr} {ss : List Sh} {x f : Str} {kd : Kd κ} {C : Addr} {ns : List Str} {xs : List α} {i j : Nat} {rest : List Stmt} {R : Po} {u : Sh → Ct}
end
end Sl

set_option Elab.async false
set_option linter.all false
set_option maxRecDepth 100000
namespace Sl
open PySem PySem.Spec PyProof.Rows L2 Dl
instance (i j : Int) : Decidable (CMul i j) := inferInstanceAs (Decidable ((_ ∧ _) ∨ (_ ∧ _)))
end Sl

set_option Elab.async false
set_option linter.all false
set_option maxRecDepth 100000
namespace Sl
open PySem PySem.Spec PyProof.Rows L2 Dl
section
variable {X : Cx} {Γ : Ct} {m : Option Ct} {α β : Type} {τ : Ty α} {s : Sh} {pos p : Pos} {e c : Expr} {es : List Expr} {x : Str} {K : PySem.W.Frag} {xs : List α}
/-- a test that changes nothing, as one that leaves the names as they are -/
theorem tj_keep {t : Bool} (h : TJ X c Γ none t) : TJ X c Γ (some Γ) t := pt_to h fun σ H Q ⟨G, os, F, hh, st, k⟩ => ⟨G, os, F, hh, st, fun G' os' H' sm h' (e : os' = os) => k G' os' H' sm h' (by subst e; exact st.mono sm)⟩
end
/-- (a, b) = a list that has two -/
def two {α : Type} : List α → Option (α × α)
  | [a, b] => some (a, b)
  | _ => none
instance (i j : Int) : Decidable (CDivN i j) := inferInstanceAs (Decidable (_ ∧ _))
/-- while: by what holds ahead of each turn and what grows less -/
theorem sat_whileX {S ρ : Type} {c : S → Option (Bool × S)} {f : S → Option (Oc ρ S)} (I : S → Prop) (μ : S → Nat) (D : Oc ρ S → Prop)
    (hs : ∀ s, I s → ∃ t, c s = some (t, s) ∧ (t = false → D (.nx s)) ∧ (t = true → ∃ o, f s = some o ∧ match o with
      | .nx s' => I s' ∧ μ s' < μ s
      | .ret r => D (.ret r))) : ∀ {s0 : S}, I s0 → ∃ o, whileX c f s0 = some o ∧ D o := by
  have key : ∀ (n : Nat) (s : S), μ s < n → I s → ∃ o k, WhileTo c f s o k ∧ D o := by
    intro n
    induction n with
    | zero => exact fun s h => absurd h (Nat.not_lt_zero _)
    | succ n ih =>
      intro s hn hI
      obtain ⟨t, e, h1, h2⟩ := hs s hI
      cases t with
      | false => exact ⟨_, 0, .done e, h1 rfl⟩
      | true =>
        obtain ⟨o, eo, ho⟩ := h2 rfl
        cases o with
        | ret r => exact ⟨_, 0, .ret e eo, ho⟩
        | nx s' =>
          obtain ⟨o', k, w, d⟩ := ih s' (by omega) ho.1
          exact ⟨o', k + 1, .turn e eo w, d⟩
  intro s0 h0
  obtain ⟨o, k, w, d⟩ := key (μ s0 + 1) s0 (Nat.lt_succ_self _) h0
  exact ⟨o, whileX_of w, d⟩
end Sl

set_option Elab.async false
set_option linter.all false
set_option maxRecDepth 100000
namespace Sl
open PySem PySem.Spec PyProof.Rows L2 Dl
end Sl

set_option Elab.async false
set_option linter.all false
set_option maxRecDepth 100000
namespace Sl
open PySem PySem.Spec PyProof.Rows L2 Dl
/-! ### == and in, of data without dicts -/
class Edt {α : Type} (τ : Ty α) (n : outParam Nat) where
  ed : α → PyData
  dp : ∀ {K : PySem.W.Frag} {G H : Hp} {os : Ow} {v : V} {x : α}, HH G os H → τ.rep G v x → Dp K H v (ed x)
  dep : ∀ x, (ed x).depth ≤ n
  eqv : ∀ x y, (ed x).eqv (ed y) = true ↔ x = y
instance : Edt tInt 0 := ⟨PyData.int, fun _ (r : _ = V.int _) => by subst r; exact .int _, fun _ => Nat.le_refl _, fun x y => by simp [PyData.eqv]⟩
instance : Edt tStr 0 := ⟨PyData.str, fun _ (r : _ = V.str _) => by subst r; exact .str _, fun _ => Nat.le_refl _, fun x y => by simp [PyData.eqv]⟩
instance : Edt tBool 0 := ⟨PyData.bool, fun _ (r : _ = V.bl _) => by subst r; exact .bl _, fun _ => Nat.le_refl _, fun x y => by simp [PyData.eqv]⟩
instance : Edt tNon 0 := ⟨fun _ => PyData.none, fun _ (r : _ = V.non) => by subst r; exact .non, fun _ => Nat.le_refl _, fun x y => by simp [PyData.eqv]⟩
section
variable {α β γ δ : Type} {τ τ1 : Ty α} {τ2 : Ty β} {τ3 : Ty γ} {τ4 : Ty δ} {n n1 n2 n3 n4 : Nat} {K : PySem.W.Frag} {G H : Hp} {os : Ow}
theorem edt_all [S : Edt τ n] (hh : HH G os H) {vs : List V} {xs : List α} (p : Paired (τ.rep G) vs xs) : DpAll K H vs (xs.map S.ed) := by
  induction p with
  | nil => exact .nil
  | cons r _ ih => exact .cons (S.dp hh r) ih
theorem edt_dep [S : Edt τ n] : ∀ xs : List α, PyData.depthAll (xs.map S.ed) ≤ n
  | [] => by simp [PyData.depthAll]
  | x :: xs => by
    show PyData.depthAll (S.ed x :: xs.map S.ed) ≤ n
    rw [PyData.depthAll]
    exact Nat.max_le.mpr ⟨S.dep x, edt_dep xs⟩
theorem edt_eq [S : Edt τ n] : ∀ xs ys : List α, PyData.eqvAll (xs.map S.ed) (ys.map S.ed) = true ↔ xs = ys
  | [], [] => by simp [PyData.eqvAll]
  | [], y :: ys => by simp [PyData.eqvAll]
  | x :: xs, [] => by simp [PyData.eqvAll]
  | x :: xs, y :: ys => by
    show PyData.eqvAll (S.ed x :: xs.map S.ed) (S.ed y :: ys.map S.ed) = true ↔ _
    rw [PyData.eqvAll, Bool.and_eq_true, S.eqv, edt_eq xs ys, List.cons.injEq]
instance edtL [S : Edt τ n] : Edt (tList τ) (n + 1) := ⟨fun xs => .list (xs.map S.ed), fun hh ⟨a, vs, e, g, p⟩ => by
    subst e
    exact .lst (SqL.of (hh.lst g)) (edt_all hh p), fun xs => by
    rw [PyData.depth]
    exact Nat.succ_le_succ (edt_dep xs), fun x y => by
    rw [PyData.eqv]
    exact edt_eq x y⟩
instance edtT [S : Edt τ n] : Edt (tTup τ) (n + 1) := ⟨fun xs => .tuple (xs.map S.ed), fun hh ⟨a, vs, e, g, p⟩ => by
    subst e
    exact .tup (SqT.of (hh.tup g)) (edt_all hh p), fun xs => by
    rw [PyData.depth]
    exact Nat.succ_le_succ (edt_dep xs), fun x y => by
    rw [PyData.eqv]
    exact edt_eq x y⟩
instance edt1 [S1 : Edt τ1 n1] : Edt (tP1 τ1) (n1 + 1) := ⟨fun x => .tuple [S1.ed x], fun hh ⟨a, v1, e, g, r1⟩ => by
    subst e
    exact .tup (SqT.of (hh.tup g)) (.cons (S1.dp hh r1) .nil), fun x => by
    rw [PyData.depth, PyData.depthAll, PyData.depthAll]
    have := S1.dep x
    omega, fun x y => by
    rw [PyData.eqv, PyData.eqvAll, PyData.eqvAll, Bool.and_true, S1.eqv]⟩
instance edt2 [S1 : Edt τ1 n1] [S2 : Edt τ2 n2] : Edt (tP2 τ1 τ2) (max n1 n2 + 1) := ⟨fun x => .tuple [S1.ed x.1, S2.ed x.2], fun hh ⟨a, v1, v2, e, g, r1, r2⟩ => by
    subst e
    exact .tup (SqT.of (hh.tup g)) (.cons (S1.dp hh r1) (.cons (S2.dp hh r2) .nil)), fun x => by
    rw [PyData.depth, PyData.depthAll, PyData.depthAll, PyData.depthAll]
    have := S1.dep x.1
    have := S2.dep x.2
    omega, fun x y => by
    rw [PyData.eqv, PyData.eqvAll, PyData.eqvAll, PyData.eqvAll, Bool.and_true, Bool.and_eq_true, S1.eqv, S2.eqv, Prod.ext_iff]⟩
instance edt3 [S1 : Edt τ1 n1] [S2 : Edt τ2 n2] [S3 : Edt τ3 n3] : Edt (tP3 τ1 τ2 τ3) (max n1 (max n2 n3) + 1) := ⟨fun x => .tuple [S1.ed x.1, S2.ed x.2.1, S3.ed x.2.2], fun hh ⟨a, v1, v2, v3, e, g, r1, r2, r3⟩ => by
    subst e
    exact .tup (SqT.of (hh.tup g)) (.cons (S1.dp hh r1) (.cons (S2.dp hh r2) (.cons (S3.dp hh r3) .nil))), fun x => by
    rw [PyData.depth, PyData.depthAll, PyData.depthAll, PyData.depthAll, PyData.depthAll]
    have := S1.dep x.1
    have := S2.dep x.2.1
    have := S3.dep x.2.2
    omega, fun x y => by
    rw [PyData.eqv, PyData.eqvAll, PyData.eqvAll, PyData.eqvAll, PyData.eqvAll, Bool.and_true, Bool.and_eq_true, Bool.and_eq_true, S1.eqv, S2.eqv, S3.eqv, Prod.ext_iff, Prod.ext_iff]⟩
/-- none is none of these -/
class Nnn {α : Type} (τ : Ty α) (n : outParam Nat) [S : Edt τ n] : Prop where
  no : ∀ x, (S.ed x).eqv .none = false ∧ PyData.eqv .none (S.ed x) = false
instance : Nnn tInt 0 := ⟨fun x => by show (PyData.int x).eqv _ = _ ∧ PyData.eqv _ (PyData.int x) = _; simp [PyData.eqv]⟩
instance : Nnn tStr 0 := ⟨fun x => by show (PyData.str x).eqv _ = _ ∧ PyData.eqv _ (PyData.str x) = _; simp [PyData.eqv]⟩
instance : Nnn tBool 0 := ⟨fun x => by show (PyData.bool x).eqv _ = _ ∧ PyData.eqv _ (PyData.bool x) = _; simp [PyData.eqv]⟩
instance [S : Edt τ n] : Nnn (tList τ) (n + 1) := ⟨fun x => by show (PyData.list _).eqv _ = _ ∧ PyData.eqv _ (PyData.list _) = _; simp [PyData.eqv]⟩
instance edtO [S : Edt τ n] [Nnn τ n] : Edt (tOpt τ) n := ⟨fun x => match x with
    | none => .none
    | some y => S.ed y, fun hh r => by
    rcases r with ⟨rfl, rfl⟩ | ⟨y, rfl, _, r⟩
    · exact .non
    · exact S.dp hh r, fun x => by cases x with
    | none => exact Nat.zero_le _
    | some y => exact S.dep y, fun x y => by cases x with
    | none => cases y with
      | none => simp [PyData.eqv]
      | some y =>
        show PyData.eqv .none (S.ed y) = true ↔ _
        rw [(Nnn.no y).2]
        simp
    | some x => cases y with
      | none =>
        show PyData.eqv (S.ed x) .none = true ↔ _
        rw [(Nnn.no x).1]
        simp
      | some y =>
        show PyData.eqv (S.ed x) (S.ed y) = true ↔ _
        rw [S.eqv]
        simp⟩
instance edtS : Edt (tSum tInt tStr) 0 := ⟨fun x => match x with
    | .inl i => .int i
    | .inr z => .str z, fun hh r => by
    rcases r with ⟨y, rfl, r⟩ | ⟨y, rfl, r⟩
    · have r : _ = V.int y := r
      subst r
      exact .int _
    · have r : _ = V.str y := r
      subst r
      exact .str _, fun x => by cases x <;> exact Nat.le_refl _, fun x y => by
    cases x <;> cases y <;> simp [PyData.eqv]⟩
def edat {α : Type} {n : Nat} (τ : Ty α) [S : Edt τ n] (x : α) : PyData := S.ed x
def Lay (d : PyData) : Prop := d.canLay0 = true
instance (d : PyData) : Decidable (Lay d) := inferInstanceAs (Decidable (_ = true))
/-- data that holds no text -/
class EdtF {α : Type} (τ : Ty α) (n : outParam Nat) [S : Edt τ n] : Prop where
  lay : ∀ x, Lay (edat τ x)
instance : EdtF tInt 0 := ⟨fun x => by show PyData.canLay0 (.int x) = true; simp [PyData.canLay0]⟩
instance : EdtF tBool 0 := ⟨fun x => by show PyData.canLay0 (.bool x) = true; simp [PyData.canLay0]⟩
instance : EdtF tNon 0 := ⟨fun x => by show PyData.canLay0 .none = true; simp [PyData.canLay0]⟩
theorem lay_all [S : Edt τ n] : ∀ {xs : List α}, (∀ x ∈ xs, Lay (edat τ x)) → PyData.canLayAll0 (xs.map S.ed) = true
  | [], _ => by simp [PyData.canLayAll0]
  | x :: xs, h => by
    show PyData.canLayAll0 (S.ed x :: xs.map S.ed) = true
    rw [PyData.canLayAll0, lay_all fun y hy => h y (List.mem_cons_of_mem _ hy), Bool.and_true]
    exact h x (List.mem_cons_self ..)
theorem lay_list [S : Edt τ n] {xs : List α} (h : ∀ x ∈ xs, Lay (edat τ x)) : Lay (edat (tList τ) xs) := by
  show PyData.canLay0 (.list (xs.map S.ed)) = true
  rw [PyData.canLay0]
  exact lay_all h
instance [S : Edt τ n] [EdtF τ n] : EdtF (tList τ) (n + 1) := ⟨fun xs => lay_list fun x _ => EdtF.lay x⟩
instance [S : Edt τ n] [EdtF τ n] : EdtF (tTup τ) (n + 1) := ⟨fun xs => by
  show PyData.canLay0 (.tuple (xs.map S.ed)) = true
  rw [PyData.canLay0]
  exact lay_all fun x _ => EdtF.lay x⟩
instance [S1 : Edt τ1 n1] [EdtF τ1 n1] : EdtF (tP1 τ1) (n1 + 1) := ⟨fun x => by
  show PyData.canLay0 (.tuple [S1.ed x]) = true
  rw [PyData.canLay0, PyData.canLayAll0, PyData.canLayAll0, Bool.and_true]
  exact EdtF.lay (τ := τ1) _⟩
theorem lay_p2 [S1 : Edt τ1 n1] [S2 : Edt τ2 n2] {x : α × β} (h1 : Lay (edat τ1 x.1)) (h2 : Lay (edat τ2 x.2)) : Lay (edat (tP2 τ1 τ2) x) := by
  show PyData.canLay0 (.tuple [S1.ed x.1, S2.ed x.2]) = true
  rw [PyData.canLay0, PyData.canLayAll0, PyData.canLayAll0, PyData.canLayAll0, Bool.and_true, Bool.and_eq_true]
  exact ⟨h1, h2⟩
instance [S1 : Edt τ1 n1] [S2 : Edt τ2 n2] [EdtF τ1 n1] [EdtF τ2 n2] : EdtF (tP2 τ1 τ2) (max n1 n2 + 1) := ⟨fun x => lay_p2 (EdtF.lay _) (EdtF.lay _)⟩
theorem lay_p3 [S1 : Edt τ1 n1] [S2 : Edt τ2 n2] [S3 : Edt τ3 n3] {x : α × β × γ} (h1 : Lay (edat τ1 x.1)) (h2 : Lay (edat τ2 x.2.1)) (h3 : Lay (edat τ3 x.2.2)) : Lay (edat (tP3 τ1 τ2 τ3) x) := by
  show PyData.canLay0 (.tuple [S1.ed x.1, S2.ed x.2.1, S3.ed x.2.2]) = true
  rw [PyData.canLay0, PyData.canLayAll0, PyData.canLayAll0, PyData.canLayAll0, PyData.canLayAll0, Bool.and_true, Bool.and_eq_true, Bool.and_eq_true]
  exact ⟨h1, h2, h3⟩
instance [S1 : Edt τ1 n1] [S2 : Edt τ2 n2] [S3 : Edt τ3 n3] [EdtF τ1 n1] [EdtF τ2 n2] [EdtF τ3 n3] : EdtF (tP3 τ1 τ2 τ3) (max n1 (max n2 n3) + 1) := ⟨fun x => lay_p3 (EdtF.lay _) (EdtF.lay _) (EdtF.lay _)⟩
instance [S : Edt τ n] [Nnn τ n] [EdtF τ n] : EdtF (tOpt τ) n := ⟨fun x => by cases x with
  | none => show PyData.canLay0 .none = true; simp [PyData.canLay0]
  | some y => exact EdtF.lay (τ := τ) y⟩
theorem edt_shaped [S : Edt τ n] (hn : n ≤ 60) {x : α} (l : Lay (edat τ x)) : SeqAt.shaped (S.ed x) = true := by
  unfold SeqAt.shaped
  rw [show (S.ed x).canLay0 = true from l, Bool.true_and]
  have := S.dep x
  exact decide_eq_true (by omega)
theorem edt_dec [S : Edt τ n] [DecidableEq α] (x y : α) : (S.ed x).eqv (S.ed y) = decide (x = y) := by
  rw [Bool.eq_iff_iff, S.eqv, decide_eq_true_iff]
theorem v2_neQ [S : Edt τ n] [DecidableEq α] {x y : α} (lx : Lay (edat τ x)) (ly : Lay (edat τ y)) (hn : n ≤ 60) : V2 (fz τ x) τ y (fz tBool (!decide (x = y))) (rNeD K) := fun v w G H os o Q at_ ⟨_, r1⟩ r2 k =>
  ⟨S.ed x, S.ed y, S.dp at_.1 r1, S.dp at_.1 r2, edt_shaped hn lx, edt_shaped hn ly, by rw [edt_dec]; exact k.fz at_.1 rfl⟩
theorem edt_any [S : Edt τ n] [DecidableEq α] (x : α) : ∀ xs : List α, (xs.map S.ed).any (fun z => z.eqv (S.ed x)) = decide (x ∈ xs)
  | [] => by simp
  | y :: ys => by
    rw [List.map_cons, List.any_cons, edt_any x ys, edt_dec]
    by_cases h : y = x
    · subst h; simp
    · simp [h, Ne.symm h]
theorem v2_ninQ [S : Edt τ n] [DecidableEq α] {x : α} {xs : List α} (lx : Lay (edat τ x)) (ly : Lay (edat (tList τ) xs)) (hn : n ≤ 59) : V2 (fz τ x) (tList τ) xs (fz tBool (!decide (x ∈ xs))) (rNotInD K) := fun v w G H os o Q at_ ⟨_, r1⟩ r2 k =>
  ⟨S.ed x, xs.map S.ed, S.dp at_.1 r1, (edtL (S := S)).dp at_.1 r2, edt_shaped (Nat.le_succ_of_le hn) lx, edt_shaped (S := edtL (S := S)) (Nat.succ_le_succ hn) ly, by rw [edt_any]; exact k.fz at_.1 rfl⟩
end
section
variable {X : Cx} {Γ : Ct} {m1 m2 : Option Ct} {α : Type} {τ : Ty α} {n k : Nat} {pos : Pos} {a b : Expr}
theorem hr65 {A : Around} {k : Nat} (hr : RoomG k A) : A.units + 65 < cLine := by
  have := hr.room.un
  omega
theorem ej_neQ [Edt τ n] [DecidableEq α] {x y : α} (hr : RoomG k X.A) (lx : Lay (edat τ x)) (ly : Lay (edat τ y)) (ha : EJ X a Γ m1 (fz τ x)) (hb : EJ X b (out Γ m1) m2 (fz τ y)) (hn : n ≤ 60 := by decide) : EJ X (.Compare a [.NotEq] [b] pos) Γ (cmb m1 m2) (fz tBool (!decide (x = y))) := ej_cmp (op_neD hr.units) (v2_neQ lx ly hn) ha hb (nomark _)
theorem ej_ninQ [Edt τ n] [DecidableEq α] {x : α} {xs : List α} (hr : RoomG k X.A) (lx : Lay (edat τ x)) (ly : Lay (edat (tList τ) xs)) (ha : EJ X a Γ m1 (fz τ x)) (hb : EJ X b (out Γ m1) m2 (fz (tList τ) xs)) (hn : n ≤ 59 := by decide) (hm : behindInMarks .NotIn b = false := by rfl) : EJ X (.Compare a [.NotIn] [b] pos) Γ (cmb m1 m2) (fz tBool (!decide (x ∈ xs))) := ej_cmp (op_notInD (hr65 hr)) (v2_ninQ lx ly hn) ha hb hm
end
end Sl

set_option Elab.async false
set_option linter.all false
set_option maxRecDepth 100000
namespace Sl
open PySem PySem.Spec PyProof.Rows L2 Dl
/-! ### slices, chains, x += e, is None -/
def cutL {α : Type} (xs : List α) (lo hi : Option Int) : List α := (xs.drop (HT.sIx xs.length 0 lo)).take (HT.sIx xs.length xs.length hi - HT.sIx xs.length 0 lo)
theorem pr_drop {α β : Type} {F : α → β → Prop} : ∀ {n : Nat} {vs : List α} {xs : List β}, Paired F vs xs → Paired F (vs.drop n) (xs.drop n)
  | 0, _, _, h => h
  | _ + 1, _, _, .nil => .nil
  | n + 1, _, _, .cons _ t => pr_drop (n := n) t
theorem pr_take {α β : Type} {F : α → β → Prop} : ∀ {n : Nat} {vs : List α} {xs : List β}, Paired F vs xs → Paired F (vs.take n) (xs.take n)
  | 0, _, _, _ => by rw [List.take_zero, List.take_zero]; exact .nil
  | _ + 1, _, _, .nil => .nil
  | n + 1, _, _, .cons r t => .cons r (pr_take (n := n) t)
theorem pr_cut {α β : Type} {F : α → β → Prop} {vs : List α} {xs : List β} {lo hi : Option Int} (h : Paired F vs xs) : Paired F ((vs.drop (HT.sIx vs.length 0 lo)).take (HT.sIx vs.length vs.length hi - HT.sIx vs.length 0 lo)) (cutL xs lo hi) := by
  unfold cutL
  rw [pr_len h]
  exact pr_take (pr_drop h)
def tSO (Γ : Ct) (o : Option Int) : TO := fun σ H Q => ∃ G os F, HH G (os ++ F) H ∧ StA Γ σ G os ∧ ∀ G' H', Same G G' → HH G' (os ++ F) H' → Q o H'
abbrev OJ (X : Cx) (e : Option Expr) (Γ : Ct) (o : Option Int) : Prop := PO X e (tSO Γ o)
theorem po_to {X : Cx} {e : Option Expr} {t t' : TO} (h : PO X e t) (w : ∀ σ H Q, t' σ H Q → t σ H Q) : PO X e t' := ⟨fun pins s σ H Q I q => h.run pins s σ H Q I (w σ H Q q)⟩
section
variable {X : Cx} {P : Pn} {Γ : Ct} {m m1 : Option Ct} {α β γ : Type} {τ τ1 : Ty α} {τ2 : Ty β} {τ3 : Ty γ} {s : Sh} {pos p1 p2 p3 p : Pos} {a b c e : Expr} {lo hi : Option Expr} {xs : List α} {l u : Option Int} {R : Po} {rest : List Stmt} {i : Nat} {x : Str}
theorem oj_none : OJ X none Γ none := po_to po_none fun σ H Q ⟨G, os, F, hh, st, k⟩ => k G H (Same.refl _) hh
theorem oj_some {i : Int} (h : EJ X e Γ none (fz tInt i)) : OJ X (some e) Γ (some i) := po_to (po_some h) fun σ H Q ⟨G, os, F, hh, st, k⟩ =>
  tT.one ⟨G, os, F, hh, st, fun v G' os' H' sm h' (e : os' = os) (r : v = .int i) => ⟨i, r, k G' H' sm (by subst e; exact h')⟩⟩
theorem ej_slice (he : EJ X e Γ m (fz (tList τ) xs)) (hl : OJ X lo (out Γ m) l) (hh : OJ X hi (out Γ m) u) : EJ X (.Subscript e (.Slice lo hi none p2) pos) Γ m (oL τ (cutL xs l u)) :=
  pe_to (pe_slice sl_list he hl hh) fun σ H Q ⟨G, os, F, hh, st, k⟩ => by
    refine tT.one ⟨G, os, F, hh, st, fun v G1 os1 H1 sm1 h1 af r1 => ?_⟩
    have st1 := af.st st sm1
    refine ⟨G1, os1, F, h1, st1, fun G2 H2 sm2 h2 => ⟨G2, os1, F, h2, st1.mono sm2, fun G3 H3 sm3 h3 => ?_⟩⟩
    obtain ⟨ad, vs, e0, g, pr⟩ := (tList τ).mono (sm2.trans sm3) r1
    refine ⟨ad, vs, e0, SqL.of (h3.lst g), fun q nq => k (.ref q) G3 [(q, _)] os1 _ ((sm1.trans sm2).trans sm3) (h3.push nq) (af.mono (sm2.trans sm3)) ⟨q, _, rfl, rfl, pr_cut pr⟩⟩
/-! ### None or more -/
/-- what is never None -/
class Som {α : Type} (τ : Ty α) : Prop where
  no : ∀ G x, ¬ τ.rep G .non x
instance : Som tInt := ⟨fun _ _ h => by cases h⟩
instance : Som tStr := ⟨fun _ _ h => by cases h⟩
instance : Som tBool := ⟨fun _ _ h => by cases h⟩
instance : Som (tList τ) := ⟨fun _ _ ⟨_, _, h, _⟩ => by cases h⟩
instance : Som (tTup τ) := ⟨fun _ _ ⟨_, _, h, _⟩ => by cases h⟩
instance {κ : Type} {kd : Kd κ} : Som (tDic kd τ) := ⟨fun _ _ ⟨_, _, h, _⟩ => by cases h⟩
instance : Som (tP1 τ) := ⟨fun _ _ ⟨_, _, h, _⟩ => by cases h⟩
instance : Som (tP2 τ1 τ2) := ⟨fun _ _ ⟨_, _, _, h, _⟩ => by cases h⟩
instance : Som (tP3 τ1 τ2 τ3) := ⟨fun _ _ ⟨_, _, _, _, h, _⟩ => by cases h⟩
instance : Som (tL2 τ1 τ2) := ⟨fun _ _ ⟨_, _, _, h, _⟩ => by cases h⟩
instance {C : Addr} {ns : List Str} {sh : α → List Sh} : Som (tOb C ns sh) := ⟨fun _ _ ⟨_, _, _, h, _⟩ => by cases h⟩
instance [Som τ1] [Som τ2] : Som (tSum τ1 τ2) := ⟨fun G _ h => by
  rcases h with ⟨y, _, r⟩ | ⟨y, _, r⟩
  · exact Som.no G y r
  · exact Som.no G y r⟩
/-- it is the second kind -/
def asR {α β : Type} : α ⊕ β → Option β
  | .inr x => some x
  | .inl _ => none
/-! x += e -/
end
end Sl

set_option Elab.async false
set_option linter.all false
set_option maxRecDepth 100000
namespace Sl
open PySem PySem.Spec PyProof.Rows L2 Dl
/-! ### dicts that are walked stand locked meanwhile -/
section
variable {G H : Hp} {os F : Ow} {d : Addr} {u : HO} {od : Obj}
end
/-! ### where a thing stands -/
def tD (Γ : Ct) (W : L2.St → Hp → Ow → V → Prop) : TE := fun σ H Q => ∃ G os F v, HH G (os ++ F) H ∧ StA Γ σ G os ∧ W σ G os v ∧ ∀ G' H', Same G G' → HH G' (os ++ F) H' → Q v H'
structure DJ (X : Cx) (e : Expr) (Γ : Ct) (s : Sh) : Prop where
  ex : ∃ W : L2.St → Hp → Ow → V → Prop, PE X e (tD Γ W) ∧ ∀ σ G os, StA Γ σ G os → ∃ v o rest, W σ G os v ∧ s.p G o v ∧ os.Perm (o ++ rest)
section
variable {X : Cx} {P : Pn} {Γ : Ct} {α β γ κ : Type} {τ : Ty α} {τ2 : Ty β} {s : Sh} {pos p : Pos} {o e idx : Expr} {i j : Nat} {x f : Str} {C : Addr} {ns : List Str} {ss : List Sh} {xs : List α}
end
/-! ### a dict that is walked -/
def iD {κ : Type} (kd : Kd κ) (J : Addr → Obj → List (kd.KT × V) → It) (td : TE) : TI := fun σ H R => td σ H fun x H1 => ∃ d o kvs, x = V.ref d ∧ H1 d = some (.frz o (kd.ho kvs)) ∧ R (J d o kvs) H1
/-- e walks a dict -/
structure KJ {β : Type} (X : Cx) (tg e : Expr) (Γ : Ct) (items : List β) (sh : β → Sh) : Prop where
  ex : ∃ (κ α : Type) (kd : Kd κ) (τ : Ty α) (x : List (κ × α)) (e0 : Expr) (J : Addr → Obj → List (kd.KT × V) → It), DJ X e0 Γ (fz (tDic kd τ) x) ∧ (∀ W, PE X e0 (tD Γ W) → PI X tg e (iD kd J (tD Γ W))) ∧
    ∀ G kvs d o, Paired (KR kd τ G) kvs x → ∀ F, (d, HO.frz o (kd.ho kvs)) ∈ F → WkF F (J d o kvs) G items sh
section
variable {X : Cx} {P : Pn} {Γ Γ1 : Ct} {m : Option Ct} {α β γ κ ρ S : Type} {τ τ3 : Ty α} {τ2 : Ty β} {s : Sh} {pos p : Pos} {a e tg iter elt : Expr} {us vs : List Nat} {rest body : List Stmt} {R : Po} {rs : ρ → Sh} {ls : ρ → List Sh}
end
end Sl

set_option Elab.async false
set_option linter.all false
set_option maxRecDepth 100000
namespace Sl
open PySem PySem.Spec PyProof.Rows L2 Dl
/-! ### dicts by keys, values, items -/
class FkR {κ : Type} (f : outParam (Fk κ)) (τ : Ty κ) : Prop where
  rp : ∀ G k, τ.rep G (kV (f.enc k)) k
instance : FkR fStr tStr := ⟨fun _ _ => rfl⟩
instance : FkR fInt tInt := ⟨fun _ _ => rfl⟩
instance : FkR fSum (tSum tInt tStr) := ⟨fun _ k => by
  cases k with
  | inl i => exact .inl ⟨i, rfl, rfl⟩
  | inr z => exact .inr ⟨z, rfl, rfl⟩⟩
/-- a key that is a tuple -/
class KtR {κ : Type} (enc : κ → List Key) (τ : Ty κ) : Prop where
  rp : ∀ G q k, G q = some (.tup ((enc k).map kV)) → τ.rep G (.ref q) k
instance {α β : Type} {f : Fk α} {g : Fk β} {τ1 : Ty α} {τ2 : Ty β} [FkR f τ1] [FkR g τ2] : KtR (fun p : α × β => [f.enc p.1, g.enc p.2]) (tP2 τ1 τ2) := ⟨fun G q k h => ⟨q, _, _, rfl, h, FkR.rp G k.1, FkR.rp G k.2⟩⟩
theorem pr_enc {α : Type} {f : Fk α} {τ : Ty α} [FkR f τ] {G : Hp} : ∀ xs : List α, Paired (τ.rep G) ((xs.map f.enc).map kV) xs
  | [] => .nil
  | x :: xs => .cons (FkR.rp G x) (pr_enc xs)
instance {α : Type} {f : Fk α} {τ : Ty α} [FkR f τ] : KtR (fun xs : List α => xs.map f.enc) (tTup τ) := ⟨fun G q k h => ⟨q, _, rfl, h, pr_enc k⟩⟩
section
variable {G H : Hp} {os : Ow}
end
section
variable {X : Cx} {P : Pn} {Γ : Ct} {α β γ κ : Type} {τ : Ty α} {τk : Ty κ} {pos p apos cpos : Pos} {e tg : Expr} {d : List (κ × α)}
end
/-! ### comprehensions over dicts -/
section
variable {X : Cx} {Γ : Ct} {α β γ κ S : Type} {τ3 : Ty γ} {pos : Pos} {elt tg iter kx vx : Expr} {ifs : List Expr}
section
variable {scope : Scope} {own : List (Str × Nat)} {items : List β} {sh : β → Sh} {f : β → Option (Option γ)} {zs : List γ} {Γy : β → Ct}
    (hg : ∀ (s : Shared) (H : Hp) (C : Addr) (cl : List (Str × Addr)) (fp : List Addr) y, GJ0 (Bk X s H scope C cl fp) tg (own.map (·.2)) (nones (own.map (·.2)) (out Γ none)) (Γy y) (sh y))
    (ht : ∀ (s : Shared) (H : Hp) (C : Addr) (cl : List (Str × Addr)) (fp : List Addr) y oz, y ∈ items → f y = some oz → TsJ (Bk X s H scope C cl fp) ifs (Γy y) none oz.isSome)
include hg ht
end
end
end Sl

set_option Elab.async false
set_option linter.all false
set_option maxRecDepth 100000
namespace Sl
open PySem PySem.Spec PyProof.Rows L2 Dl
/-! ### methods of things that are owned, their fields -/
section
variable {X : Cx} {P : Pn} {Γ : Ct} {m m1 : Option Ct} {α β κ : Type} {τ : Ty α} {τ2 : Ty β} {s s' r sj : Sh} {pos p apos nm cpos : Pos} {a b e o value : Expr} {es : List Expr} {ss ss0 : List Sh} {x f : Str} {kd : Kd κ} {C : Addr} {ns : List Str} {xs ys : List α} {i j k n : Nat} {rest : List Stmt} {R : Po} {u : Sh → Ct} {CX : CXT} {ps : List Str} {E : XK} {Φ : Phi}
/-! ### lists, dicts at places -/
/-- of one thing at a place -/
theorem fj_args (h : FJ X a Γ s u) (hs : starEach [a] X.env = (false, eval a X.env) :: starEach [] X.env := by rfl) : PA X [a] (fun σ H Q => ∃ G os F, HH G (os ++ F) H ∧ StA Γ σ G os ∧ ∀ v G' H' o rest, Same G G' → HH G' (os ++ F) H' → os.Perm (o ++ rest) → s.p G' o v → Q [v] H') :=
  pa_to (pa_cons h pa_nil hs) fun σ H Q ⟨G, os, F, hh, st, k⟩ => go_cons ⟨G, os, F, hh, st, fun v G1 H1 sm1 h1 ⟨o, rest, pm, ps, _⟩ => go_nil (k v G1 H1 o rest sm1 h1 pm ps)⟩
theorem ej_bF {id : String} {rv : List V → Hp → VK → Prop} (cr : CallR X (.builtin id) rv) (sp : VA [s] r rv) (hg : Gl X x) (hm : X.mg x = none) (hv : bootBuiltins x = some (.builtin id)) (ha : FJ X a Γ s u) (hn : x ≠ "__name__" := by decide) (hdb : (x == ("__debug__" : Str)) = false := by decide)
    (he : starEach [a] X.env = (false, eval a X.env) :: starEach [] X.env := by rfl) (hpl : (backTo pos (starEach [] X.env)).any (·.1) = false := by rfl) : EJ X (.Call (.Name x p) [a] [] pos) Γ none r :=
  pe_to (pe_callB cr hg hm hv (fj_args ha he) hn hdb he hpl) fun σ H Q ⟨G, os, F, hh, st, k⟩ => go_tcb ⟨G, os, F, hh, st, fun v G1 H1 o rest sm1 h1 pm ps =>
    sp [v] G1 H1 (os ++ F) o Q ⟨h1, rest ++ F, by rw [← List.append_assoc]; exact List.Perm.append_right F pm⟩ ⟨v, [], o, [], rfl, by rw [List.append_nil], ps, rfl, rfl⟩ fun w G2 o2 H2 sm2 h2 p2 => k w G2 o2 os H2 (sm1.trans sm2) h2 rfl p2⟩
/-- k in o, k not in o -/
theorem key_thenF {k' : β} {R : V → V → Hp → Prop} {σ : L2.St} {H : Hp} (h : ∃ G os F, HH G (os ++ F) H ∧ StA Γ σ G os ∧ ∀ w v G' H' o rest, Same G G' → os.Perm (o ++ rest) → HH G' (os ++ F) H' → s.p G' o v → τ2.rep G' w k' → R w v H') :
    tT Γ none (fz τ2 k') σ H fun w H1 => tF Γ s u σ H1 fun v H2 => R w v H2 := by
  obtain ⟨G, os, F, hh, st, kk⟩ := h
  refine tT.one ⟨G, os, F, hh, st, fun w G' os' H' sm h' (af : os' = os) rw_ => ?_⟩
  subst af
  exact ⟨G', os', F, h', st.mono sm, fun v G2 H2 sm2 h2 ⟨o, rest, pm, hs, _⟩ => kk w v G2 H2 o rest (sm.trans sm2) pm h2 hs (τ2.mono sm2 rw_)⟩
section
variable [DecidableEq κ] {d : List (κ × α)} {kk : κ} {τk : Ty κ} [KeyTy kd τk]
theorem ej_dninF (hu : X.A.units + 1 < cLine) (h : RdD s kd τ d) (hi : EJ X e Γ none (fz τk kk)) (ho : FJ X o Γ s u) (hm : behindInMarks .NotIn o = false := by rfl) : EJ X (.Compare e [.NotIn] [o] pos) Γ none (fz tBool (!ahas d kk)) :=
  pe_to (pe_cmp (pc_dnotin hu hi ho) hm) fun σ H Q ⟨G, os, F, hh, st, q⟩ => go_dnotin (key_thenF ⟨G, os, F, hh, st, fun w v G' H' o2 rest sm pm h' rv rw_ => dnin_core h ⟨h', rest ++ F, by rw [← List.append_assoc]; exact List.Perm.append_right F pm⟩ rv rw_ fun z G2 o2 H2 s2 h2 p2 => q z G2 o2 os H2 (sm.trans s2) h2 rfl p2⟩)
end
end
end Sl

set_option Elab.async false
set_option linter.all false
set_option maxRecDepth 100000
namespace Sl
open PySem PySem.Spec PyProof.Rows L2 Dl
/-! ### defs that only look -/
abbrev Phr := List Sh → Sh → Prop
def spR (n : Nat) (Φ : Phr) : Sp := fun vs H Q _ => ∃ G ow F ss r, vs.length = n ∧ HH G (ow ++ F) H ∧ Shs ss G ow vs ∧ Φ ss r ∧ ∀ v G' H', Same G G' → HH G' (ow ++ F) H' → r.p G' [] v → Q v H'
def tR (Γ : Ct) (s : Sh) : TS := fun D σ H => ∃ G os F, HH G (os ++ F) H ∧ StA Γ σ G os ∧ ∀ v G' H', Same G G' → HH G' (os ++ F) H' → s.p G' [] v → D.rt v H'
abbrev RJ (X : Cx) (st : List Stmt) (Γ : Ct) (s : Sh) : Prop := PSs X st (tR Γ s)
section
variable {Pg : Program} {w : World} {K : PySem.W.Frag} {mg : Str → Option Value} {base : Heap}
theorem Fun.okR {x q : Str} {st : Stmt} {f0 : Addr} {fd : FuncData} {N ps : List Str} {k n : Nat} {Φ : Phr} (D : Fun K x q st f0 fd) (S : FnScope N ps (defScope st)) (hn : n = ps.length) (hN : n ≤ N.length)
    (hbody : ∀ (X : Cx) (s : Shared) (H : Hp) (A : Around) (outer : List Env) (cdv : Value) (E : XK) (ss : List Sh) (r : Sh) (vs : List V),
      RoomG k (A.deeper (envOfC q (defScope st) s.heap.objs.size f0 cdv)) → vs.length = n → Φ ss r →
      RJ (cxOf CX0 Pg w K mg base N q (defScope st) f0 cdv A outer s H E).nox (defBody st) (ss.map some ++ List.replicate (N.length - n) none) r) : FnG Pg w K mg base CX0 (k + 1) f0 fd ps (spR n Φ) := by
  refine Fun.okG D S (fun vs H Q E h => ?_) fun cdv A outer s H vs Q E hr h => ?_
  · obtain ⟨_, _, _, _, _, e, _⟩ := h
    rw [e, hn]
  · obtain ⟨G, ow, F, ss, r, e, hh, hs, hΦ, k⟩ := h
    have hb := hbody (cxOf CX0 Pg w K mg base N q (defScope st) f0 cdv A outer s H E).nox s H A outer cdv E ss r vs hr e hΦ
    refine ⟨_, hb, G, ow, F, hh, ?_, fun v G' H' sm h' p => k v G' H' sm h' p⟩
    have := StA.start (n := N.length - n) hs
    unfold L2.start
    rw [e]
    exact this
end
section
variable {X : Cx} {P : Pn} {Γ : Ct} {m m1 : Option Ct} {α β κ : Type} {τ : Ty α} {τ2 : Ty β} {s s' r sj s1 s2 s1' s2' : Sh} {pos p apos nm cpos p1 p2 q1 q2 : Pos} {a b e o value : Expr} {es : List Expr} {ss ss0 : List Sh} {x y f f1 f2 : Str} {kd : Kd κ} {C : Addr} {ns : List Str} {xs ys : List α} {i j j1 j2 k n : Nat} {rest : List Stmt} {R : Po} {u : Sh → Ct} {CX : CXT} {ps : List Str} {E : XK} {Φ : Phr}
theorem rj_ret {z : α} (he : EJ X e Γ none (fz τ z)) : RJ X [.Return (some e) pos] Γ (fz τ z) :=
  pss_to (pss_cons (ps_ret he) pss_never) fun D σ H ⟨G, os, F, hh, st, k⟩ => go_seq (go_ret (tT.one ⟨G, os, F, hh, st, fun v G' os' H' sm h' (e : os' = os) ps => k v G' H' sm (by subst e; exact h') ⟨rfl, ps⟩⟩))
theorem ej_mrP0 {z : α} {pl : Sem Bool} (M : Met X.prog X.w X.K X.mg X.base k C f ps (spR n Φ)) (ho : FJ X o Γ (oIns C ns ss0) u) (hc : Cls X.K C) (hr : RoomG k X.A) (hx : Passes CX0 X E) (hf : ixOf f ns = none)
    (hΦ : Φ [oIns C ns ss0] (fz τ z)) (hn : 1 = n := by rfl)
    (ht : eval (.Call (.Attribute o f apos) [] [] pos) X.env = (do
      let ov ← eval o X.env
      standAt apos.atName
      let (f, first) ← holding [ov] (getMethod ov f pl)
      callWith pos f first (backTo pos (starEach [] X.env)) (backToKw pos (keywordEach [] X.env))) := by rfl) : EJ X (.Call (.Attribute o f apos) [] [] pos) Γ none (fz τ z) := by
  obtain ⟨fi, fd, hm, Fn, hb⟩ := M.ex
  refine pe_to (pe_methG0 (pl := pl) ho hc hm Fn hr hb hx ht) fun σ H Q ⟨G, os, F, hh, st, kk⟩ => ⟨G, os, F, hh, st, fun v G1 H1 sm1 h1 ⟨oself, ro, pm, a2, back⟩ => ?_⟩
  obtain ⟨ad, dx, vs, o6, e0, eo, l, sh⟩ := id a2
  subst e0 eo
  refine ⟨ad, dx, _, rfl, (at_of h1 pm).own, zip_lookup_none hf, ?_⟩
  have pF : (os ++ F).Perm (((ad, HO.ins C dx (ns.zip vs)) :: o6) ++ (ro ++ F)) := by
    rw [← List.append_assoc]
    exact List.Perm.append_right F pm
  refine ⟨G1, _, ro ++ F, [oIns C ns ss0], _, by simp [← hn], h1.perm pF, ⟨_, [], _, [], rfl, (List.append_nil _).symm, a2, rfl, rfl⟩, hΦ, fun w G' H' sm h' pr => ?_⟩
  exact kk w G' [] os H' (sm1.trans sm) (h'.perm pF.symm) rfl pr
end
end Sl

set_option Elab.async false
set_option linter.all false
set_option maxRecDepth 100000
namespace Sl
open PySem PySem.Spec PyProof.Rows L2 Dl
/-! ### truth of lists, texts -/
section
variable {X : Cx} {P : Pn} {Γ : Ct} {m m1 : Option Ct} {α β κ : Type} {τ : Ty α} {τ2 : Ty β} {s r : Sh} {pos p : Pos} {a b e o : Expr} {xs : List α} {u : Sh → Ct} {t : Bool}
/-- what truth a thing has -/
def Trs (s : Sh) (t : Bool) : Prop := ∀ (K : PySem.W.Frag) G H os o v, At G H os o → s.p G o v → TruV K v H t
end
end Sl

set_option Elab.async false
set_option linter.all false
set_option maxRecDepth 100000
namespace Sl
open PySem PySem.Spec PyProof.Rows L2 Dl
instance : Nnn (tSum tInt tStr) 0 := ⟨fun x => by cases x <;> simp [Edt.ed, PyData.eqv]⟩
section
variable {α β : Type} {τ : Ty α} {τ1 : Ty α} {τ2 : Ty β} {n n1 n2 : Nat}
instance [S1 : Edt τ1 n1] [S2 : Edt τ2 n2] : Nnn (tP2 τ1 τ2) (max n1 n2 + 1) := ⟨fun x => by show (PyData.tuple _).eqv _ = _ ∧ PyData.eqv _ (PyData.tuple _) = _; simp [PyData.eqv]⟩
end
section
variable {X : Cx} {P : Pn} {Γ : Ct} {m m1 : Option Ct} {α β κ : Type} {τ : Ty α} {τ2 : Ty β} {s r : Sh} {pos p : Pos} {a b e o tg : Expr} {xs : List α} {u : Sh → Ct} {t : Bool} {n k : Nat}
/-- texts, tuples that are walked -/
def signs (z : Str) : List Str := z.cps.toList.map fun c => ⟨#[c]⟩
end
/-! x in o, o a place of a list -/
section
variable {X : Cx} {Γ : Ct} {α : Type} {τ : Ty α} {n k : Nat} {pos : Pos} {a b : Expr} {u : Sh → Ct}
end
end Sl

set_option Elab.async false
set_option linter.all false
set_option maxRecDepth 100000
namespace Sl
open PySem PySem.Spec PyProof.Rows L2 Dl
/-! ### name = {k: v for ..} -/
theorem ps_setDc {X : Cx} {n : Nat} {z : Str} {pz : Pos} {kx vx tg iter : Expr} {ifs : List Expr} {sc : Scope} {own : List (Str × Nat)} {q1 q2 : Pos} {wi : TI} {g : TG} {tt : TT} {tk tv : TE} (hc : X.calm = true) (hN : X.N.Nodup) (hz : X.N[n]? = some z) (hzl : X.env.scope.names.lookup z = some .local) (hsw : swapsWith (.DictComp kx vx [⟨tg, iter, ifs, 0⟩] sc q1) (some (.Name z pz)) q2.line X.env = pure true) (hi : PI X tg iter wi) (ok : BlkOk X.N X.env.scope sc own)
    (hg : ∀ (s : Shared) (H : Hp) (C : Addr) (cl : List (Str × Addr)) (fp : List Addr), PG (Bk X s H sc C cl fp) tg g) (ht : ∀ (s : Shared) (H : Hp) (C : Addr) (cl : List (Str × Addr)) (fp : List Addr), PTs (Bk X s H sc C cl fp) ifs tt) (hk : ∀ (s : Shared) (H : Hp) (C : Addr) (cl : List (Str × Addr)) (fp : List Addr), PE (Bk X s H sc C cl fp) kx tk) (he : ∀ (s : Shared) (H : Hp) (C : Addr) (cl : List (Str × Addr)) (fp : List Addr), PE (Bk X s H sc C cl fp) vx tv) (hs : ∀ x, foldedSetIterable iter X.env x = pure x := by intro _; rfl) :
    PS X (.Assign [.Name z pz] (.DictComp kx vx [⟨tg, iter, ifs, 0⟩] sc q1) q2) (tAsg (tDc wi g tt tk tv (own.map (·.2))) (gName n)) := ⟨fun pins s σ H D I h => by
  rw [exec_Assign_Name_used _ _ _ _ hsw]
  have h' : tDc wi g tt tk tv (own.map (·.2)) σ H (fun x H1 => gName n x σ H1 D.nx) := h
  refine wpAny_bind (wpAny_standAt (wpAny_bind (?_ : wpAny _ X.A (do let _ ← comprehension (.DictComp kx vx [⟨tg, iter, ifs, 0⟩] sc q1) sc X.env (firstIterPos [⟨tg, iter, ifs, 0⟩] q1) newDict false (eval iter X.env) (some (assign (.Name z pz) X.env))) _ _ s)))
  refine wpAny_bind (thn (dc_core (Qf := fun _ s2 => SP X pins D .next s2) hc hN I hi ok hg ht hk he hs h' fun dd C s2 m H2 I2 q hn ff => (?_ : wpAny _ _ (assign (.Name z pz) X.env (.ref dd)) _ _ _)) fun _ s2 hq => wpAny_pure (wpAny_pure hq))
  obtain ⟨f0, f1, f2, f3, f4, f5⟩ := ff
  refine wpAny_assign_Name (store_ok2 (v := V.ref dd) I2 hN hz (.inl hzl) rfl (fun s3 I3 ⟨a, sb, ha⟩ => ⟨m, hn.sameBut sb ?_, fun h3 sb3 => ⟨_, H2, I3.turned (t' := s3.toks) (fun b o hb e => (sb3.2 b hb).trans e) f0 f1 f3 f4 f5, q⟩⟩) (.inr hzl))
  rcases ha with e | e
  · exact e ▸ f1
  · exact fun e2 => f4 z a e e2.symm⟩
def DcJ (X : Cx) (e : Expr) (Γ : Ct) (m : Option Ct) (s : Sh) : Prop := LcJ X e Γ m s
section
variable {X : Cx} {Γ : Ct} {m0 : Option Ct} {β γ κ : Type} {τ3 : Ty γ} {pos : Pos} {tg iter kx vx : Expr} [DecidableEq κ] {kd : Fk κ} {τk : Ty κ} [FkTy kd τk] {scope : Scope} {own : List (Str × Nat)} {items : List β} {sh : β → Sh} {f : β → Option (κ × γ)} {d : List (κ × γ)} {Γy : β → Ct}
    (he : ∀ (s : Shared) (H : Hp) (C : Addr) (cl : List (Str × Addr)) (fp : List Addr) y k z, y ∈ items → f y = some (k, z) → EJ (Bk X s H scope C cl fp) vx (Γy y) none (fz τ3 z))
theorem dcP (hg : ∀ (s : Shared) (H : Hp) (C : Addr) (cl : List (Str × Addr)) (fp : List Addr) y, GJ0 (Bk X s H scope C cl fp) tg (own.map (·.2)) (nones (own.map (·.2)) (out Γ m0)) (Γy y) (sh y))
    (hk : ∀ (s : Shared) (H : Hp) (C : Addr) (cl : List (Str × Addr)) (fp : List Addr) y k z, y ∈ items → f y = some (k, z) → EJ (Bk X s H scope C cl fp) kx (Γy y) none (fz τk k))
    (he : ∀ (s : Shared) (H : Hp) (C : Addr) (cl : List (Str × Addr)) (fp : List Addr) y k z, y ∈ items → f y = some (k, z) → EJ (Bk X s H scope C cl fp) vx (Γy y) none (fz τ3 z))
    (h : dicC f [] items = some d) (hsm : Sm items.length) (hc : X.calm = true) (hN : X.N.Nodup) (hi : IJ X tg iter Γ m0 items sh) (ok : BlkOk X.N X.env.scope scope own) (hz : Zs (own.map (·.2)) (out Γ m0))
    (hs : ∀ x, foldedSetIterable iter X.env x = pure x := by intro _; rfl) : LcJ X (.DictComp kx vx [⟨tg, iter, [], 0⟩] scope pos) Γ m0 (oD (kF kd) τ3 d) := by
  have g1 : ∀ (s : Shared) (H : Hp) (C : Addr) (cl : List (Str × Addr)) (fp : List Addr), PG (Bk X s H scope C cl fp) tg (fun v σ H Q => ∃ t, (∃ y, t = tG0 (own.map (·.2)) (nones (own.map (·.2)) (out Γ m0)) (Γy y) (sh y)) ∧ t v σ H Q) := fun s H C cl fp => pg_ex fun t ⟨y, e⟩ => by subst e; exact hg s H C cl fp y
  have k1 : ∀ (s : Shared) (H : Hp) (C : Addr) (cl : List (Str × Addr)) (fp : List Addr), PE (Bk X s H scope C cl fp) kx (fun σ H Q => ∃ t, (∃ y k z, y ∈ items ∧ f y = some (k, z) ∧ t = tT (Γy y) none (fz τk k)) ∧ t σ H Q) := fun s H C cl fp => pe_ex fun t ⟨y, k, z, hm, hf, e⟩ => by subst e; exact hk s H C cl fp y k z hm hf
  have v1 : ∀ (s : Shared) (H : Hp) (C : Addr) (cl : List (Str × Addr)) (fp : List Addr), PE (Bk X s H scope C cl fp) vx (fun σ H Q => ∃ t, (∃ y k z, y ∈ items ∧ f y = some (k, z) ∧ t = tT (Γy y) none (fz τ3 z)) ∧ t σ H Q) := fun s H C cl fp => pe_ex fun t ⟨y, k, z, hm, hf, e⟩ => by subst e; exact he s H C cl fp y k z hm hf
  have run : ∀ σ H Q, tT Γ m0 (oD (kF kd) τ3 d) σ H Q → tDc (tI Γ m0 items sh) (fun v σ H Q => ∃ t, (∃ y, t = tG0 (own.map (·.2)) (nones (own.map (·.2)) (out Γ m0)) (Γy y) (sh y)) ∧ t v σ H Q) tYes (fun σ H Q => ∃ t, (∃ y k z, y ∈ items ∧ f y = some (k, z) ∧ t = tT (Γy y) none (fz τk k)) ∧ t σ H Q) (fun σ H Q => ∃ t, (∃ y k z, y ∈ items ∧ f y = some (k, z) ∧ t = tT (Γy y) none (fz τ3 z)) ∧ t σ H Q) (own.map (·.2)) σ H Q := fun σ H Q ⟨G, os, F, hh, st, k⟩ => ⟨G, os, F, hh, st, fun J G1 os1 H1 sm1 h1 af wk =>
    dcP_run (own.map fun x : Str × Nat => x.2) h hsm hz (af.st st sm1) h1 wk.toF fun v G' o H' sm h' p => k v G' o os1 H' (sm1.trans sm) h' (af.mono sm) p⟩
  exact ⟨pe_to (pe_dc hc hN hi ok g1 (fun _ _ _ _ _ => pts_nil) k1 v1 hs) run, fun hy hyl hsw => ps_to (ps_setDc hc hN hy hyl hsw hi ok g1 (fun _ _ _ _ _ => pts_nil) k1 v1 hs) fun D σ H q => run _ _ _ q⟩
end
end Sl

set_option Elab.async false
set_option linter.all false
set_option maxRecDepth 100000
namespace Sl
open PySem PySem.Spec PyProof.Rows L2 Dl
/-! ### sorted(xs), xs of data -/
/-- d is not behind e -/
def dLe (d e : PyData) : Bool := PySem.W.sortLe (listOrd itemOrd) false PySem.W.keyToks d e
/-- v reads as d -/
def RdV (X : Cx) (H : Hp) (v : V) (d : PyData) : Prop := ∀ (pins : List (Addr × Obj)) (σ : L2.St) (st : Shared) (u : Value), Inv X pins σ H st → RelV v u → ∃ as, Reads st.heap u d as
def rSortedD (X : Cx) : List V → Hp → VK → Prop := fun vs H Q => ∃ (a : Addr) (xs : List V) (ds : List PyData), vs = [V.ref a] ∧ SqL X.K H a xs ∧ Paired (RdV X H) xs ds ∧ PySem.W.AllAlike ds ∧ PySem.W.Sortable ds ∧ (∀ d ∈ ds, d.depth ≤ 60) ∧
  ∀ p, H p = none → Q (.ref p) (upd H p (.lst (((xs.zip ds).mergeSort fun p q => dLe p.2 q.2).map Prod.fst)))
/-! which data can be sorted -/
class Alk {α : Type} (τ : Ty α) {n : Nat} [S : Sho τ n] : Prop where
  alike : ∀ x y : α, PySem.W.alike (S.dat x) (S.dat y) = true
class Srb {α : Type} (τ : Ty α) {n : Nat} [S : Sho τ n] : Prop where
  sortable : ∀ xs : List α, PySem.W.Sortable (xs.map S.dat)
section
variable {α β γ : Type} {τ : Ty α} {τ1 : Ty α} {τ2 : Ty β} {τ3 : Ty γ} {n n1 n2 n3 : Nat}
instance : Alk tInt := ⟨fun x y => by show PySem.W.alike (.int x) (.int y) = true; rw [PySem.W.alike]⟩
instance : Alk tStr := ⟨fun x y => by show PySem.W.alike (.str x) (.str y) = true; rw [PySem.W.alike]⟩
instance [S1 : Sho τ1 n1] [S2 : Sho τ2 n2] [A1 : Alk τ1] [A2 : Alk τ2] : Alk (tP2 τ1 τ2) := ⟨fun x y => by
  show PySem.W.alike (.tuple [S1.dat x.1, S2.dat x.2]) (.tuple [S1.dat y.1, S2.dat y.2]) = true
  simp only [PySem.W.alike, PySem.W.alikeAll, A1.alike, A2.alike]
  rfl⟩
instance [S1 : Sho τ1 n1] [S2 : Sho τ2 n2] [S3 : Sho τ3 n3] [A1 : Alk τ1] [A2 : Alk τ2] [A3 : Alk τ3] : Alk (tP3 τ1 τ2 τ3) := ⟨fun x y => by
  show PySem.W.alike (.tuple [S1.dat x.1, S2.dat x.2.1, S3.dat x.2.2]) (.tuple [S1.dat y.1, S2.dat y.2.1, S3.dat y.2.2]) = true
  simp only [PySem.W.alike, PySem.W.alikeAll, A1.alike, A2.alike, A3.alike]
  rfl⟩
instance : Srb tInt := ⟨fun xs => .inr fun d hd => by
  obtain ⟨x, _, rfl⟩ := List.mem_map.mp hd
  exact ⟨(fun e => nomatch e), fun ys e => nomatch e⟩⟩
instance : Srb tStr := ⟨fun xs => .inr fun d hd => by
  obtain ⟨x, _, rfl⟩ := List.mem_map.mp hd
  exact ⟨(fun e => nomatch e), fun ys e => nomatch e⟩⟩
instance [S1 : Sho τ1 n1] [S2 : Sho τ2 n2] : Srb (tP2 τ1 τ2) := ⟨fun xs => .inl fun d hd => by
  obtain ⟨x, _, rfl⟩ := List.mem_map.mp hd
  exact ⟨_, _, rfl⟩⟩
instance [S1 : Sho τ1 n1] [S2 : Sho τ2 n2] [S3 : Sho τ3 n3] : Srb (tP3 τ1 τ2 τ3) := ⟨fun xs => .inl fun d hd => by
  obtain ⟨x, _, rfl⟩ := List.mem_map.mp hd
  exact ⟨_, _, rfl⟩⟩
/-- the data of xs can be told apart by < -/
def Sor (τ : Ty α) [S : Sho τ n] (xs : List α) : Prop := PySem.W.AllAlike (xs.map S.dat)
instance (τ : Ty α) [S : Sho τ n] (xs : List α) : Decidable (Sor τ xs) := inferInstanceAs (Decidable (∀ d, d ∈ xs.map S.dat → ∀ d', d' ∈ xs.map S.dat → PySem.W.alike d d' = true))
/-- the sorted list -/
def srt (τ : Ty α) [S : Sho τ n] (xs : List α) : List α := xs.mergeSort fun x y => dLe (S.dat x) (S.dat y)
end
section
variable {X : Cx} {Γ : Ct} {m : Option Ct} {α : Type} {τ : Ty α} {n k : Nat} {pos p cpos : Pos} {e : Expr} {xs : List α} {s : Sh}
end
end Sl

set_option Elab.async false
set_option linter.all false
set_option maxRecDepth 100000
namespace Sl
open PySem PySem.Spec PyProof.Rows L2 Dl
/-! ### dicts by tuples: displays, and dicts of lists of pairs -/
def mergeT (acc more : List (List Key × V)) : List (List Key × V) := more.foldl (fun d p => putK d p.1 p.2) acc
/-- q is a key (a tuple) and a value -/
def KvT (H : Hp) (q : V × V) (kv : List Key × V) : Prop := ∃ b, q = (V.ref b, kv.2) ∧ H b = some (.tup (kv.1.map kV))
def tDispT (trs : List (TE × TE)) : TE := fun σ H Q => ∀ p, H p = none → tPairs trs σ (upd H p (.dT [])) fun ps H2 => H2 p = some (.dT []) ∧ ∃ kvs, Paired (KvT H2) ps kvs ∧ kvs.length ≤ 15 ∧ Q (.ref p) (upd H2 p (.dT (mergeT [] kvs)))
/-- dict(xs) of a list of pairs (tuple, value) -/
def rDictPT (K : PySem.W.Frag) : List V → Hp → VK → Prop := fun xs H Q => ∃ (a : Addr) (ps bs : List Addr) (kvs : List (List Key × V)), xs = [.ref a] ∧ SqL K H a (ps.map V.ref) ∧ bs.length = kvs.length ∧ Paired (fun p (bk : Addr × List Key × V) => SqT K H p [.ref bk.1, bk.2.2] ∧ H bk.1 = some (.tup (bk.2.1.map kV))) ps (bs.zip kvs) ∧
  ∀ p, H p = none → Q (.ref p) (upd H p (.dT (mergeT [] kvs)))
end Sl

set_option Elab.async false
set_option linter.all false
set_option maxRecDepth 100000
namespace Sl
open PySem PySem.Spec PyProof.Rows L2 Dl
/-! ### {k: v}, dict(pairs), sorted(d): as slots and values -/
section
variable {X : Cx} {Γ : Ct} {κ α : Type} [DecidableEq κ] {τk : Ty κ} {τ : Ty α} {ek ev : Expr} {pos : Pos} {x : κ} {y : α}
end
section
variable {X : Cx} {κ α : Type} [DecidableEq κ] {τk : Ty κ} {τ : Ty α} {K : PySem.W.Frag} {s : Sh}
/-! sorted(d) of a dict by ints -/
def rSortedDI : List V → Hp → VK → Prop := fun xs H Q => ∃ (a : Addr) (kvs : List (Key × V)) (ks : List Int), xs = [.ref a] ∧ Rd H a (.dK kvs) ∧ kvs.map (·.1) = ks.map Sum.inl ∧ ks.length < 64 ∧
    ∀ (ys : List Int) (p : Addr), ys.Perm ks → ys.Pairwise (· ≤ ·) → H p = none → Q (.ref p) (upd H p (.lst (ys.map V.int)))
end
end Sl

set_option Elab.async false
set_option linter.all false
set_option maxRecDepth 100000
namespace Sl
open PySem PySem.Spec PyProof.Rows L2 Dl
/-! ### names of the module's own numbers and texts; lists of lists -/
def Glb (mg : Str → Option Value) (x : Str) (v : V) : Prop := ∃ u, mg x = some u ∧ RelV v u
section
variable {X : Cx} {P : Pn} {Γ : Ct} {m : Option Ct} {α : Type} {τ : Ty α} {x : Str} {pos : Pos}
end
section
variable {X : Cx} {P : Pn} {Γ : Ct} {α : Type} {τ : Ty α} {o idx e : Expr} {rest : List Stmt} {R : Po} {u : Sh → Ct} {q apos pos p2 : Pos}
end
/-! x in xs, by one name -/
def isin {α : Type} [DecidableEq α] (x : α) (xs : List α) : Bool := decide (x ∈ xs)
section
variable {X : Cx} {Γ : Ct} {m1 m2 : Option Ct} {α : Type} {τ : Ty α} {n k : Nat} {pos : Pos} {a b : Expr} {u : Sh → Ct}
theorem ej_ninQi [Edt τ n] [DecidableEq α] {x : α} {xs : List α} (hr : RoomG k X.A) (lx : Lay (edat τ x)) (ly : Lay (edat (tList τ) xs)) (ha : EJ X a Γ m1 (fz τ x)) (hb : EJ X b (out Γ m1) m2 (fz (tList τ) xs)) (hn : n ≤ 59 := by decide) (hm : behindInMarks .NotIn b = false := by rfl) : EJ X (.Compare a [.NotIn] [b] pos) Γ (cmb m1 m2) (fz tBool (!isin x xs)) := ej_ninQ hr lx ly ha hb hn hm
/-! an owned list of things as one of perhaps things -/
class Nov {α : Type} (τ : Ty α) : Prop where
  no : ∀ G v x, τ.rep G v x → v ≠ .non
instance : Nov tInt := ⟨fun G v x (h : v = .int x) => by rw [h]; exact fun z => nomatch z⟩
instance : Nov tStr := ⟨fun G v x (h : v = .str x) => by rw [h]; exact fun z => nomatch z⟩
instance {τ : Ty α} : Nov (tList τ) := ⟨fun G v x ⟨a, vs, e, _⟩ => by rw [e]; exact fun z => nomatch z⟩
end
end Sl

set_option Elab.async false
set_option linter.all false
set_option maxRecDepth 100000
namespace Sl
open PySem PySem.Spec PySem.W PySem.Calls PyProof.Rows L2 Dl
/-! ### what a zip gives, as a list: its tuples stay -/
/-- the first k tuples -/
def ZItems (h : Heap) (N : Nat) (xs ys acc : Array Value) (i : Nat) : Prop := acc.size = i ∧ (∀ j, j < i → ∃ (T : Addr) (x y : Value), acc[j]? = some (.ref T) ∧ xs[j]? = some x ∧ ys[j]? = some y ∧ IsPair h T x y ∧ N ≤ T) ∧ ∀ j k, j < k → k < i → acc[j]? ≠ acc[k]?
/-- a zip behind i turns -/
structure ZSt (h : Heap) (N : Nat) (z TI TO i1 i2 l1 l2 : Addr) (xs ys : Array Value) (i : Nat) : Prop where
  ti : IsPair h TI (.ref i1) (.ref i2)
  it1 : h.IsListIter i1 l1 i
  it2 : h.IsListIter i2 l2 i
  li1 : h.IsList l1 xs
  li2 : h.IsList l2 ys
  zip : (IsZip h z TI TO .none ∧ ∃ a b, IsPair h TO a b) ∨ ∃ T f oT, IsZipHeld h z TI TO T f ∧ h.get? T = some oT ∧ N ≤ T
/-- all below N but the list and what the zip changes stays, and what is above stays -/
def ZKeep (S z TO i1 i2 : Addr) (h h' : Heap) : Prop := ∀ c o, c ≠ S → c ≠ z → c ≠ TO → c ≠ i1 → c ≠ i2 → h.get? c = some o → h'.get? c = some o
section
variable {prog : Program} {w : World} {A : Around} {R : Result → Shared → Prop} {N : Nat} {S z TI TO i1 i2 l1 l2 : Addr} {xs ys : Array Value}
theorem ZSt.push {h h' : Heap} {i : Nat} (Z : ZSt h N z TI TO i1 i2 l1 l2 xs ys i) (k : ∀ c o, c ≠ S → h.get? c = some o → h'.get? c = some o) (s1 : S ≠ TI) (s2 : S ≠ i1) (s3 : S ≠ i2) (s4 : S ≠ l1) (s5 : S ≠ l2) (s6 : S ≠ z) (s7 : S ≠ TO) (s8 : S < N) : ZSt h' N z TI TO i1 i2 l1 l2 xs ys i := by
  refine ⟨k _ _ s1.symm Z.ti, Z.it1.at fun o e => k _ o s2.symm e, Z.it2.at fun o e => k _ o s3.symm e, Z.li1.at fun o e => k _ o s4.symm e, Z.li2.at fun o e => k _ o s5.symm e, ?_⟩
  rcases Z.zip with ⟨h1, a, b, h2⟩ | ⟨T, f, oT, h1, h2, h3⟩
  · exact .inl ⟨k _ _ s6.symm h1, a, b, k _ _ s7.symm h2⟩
  · exact .inr ⟨T, f, oT, k _ _ s6.symm h1, k _ _ (Nat.ne_of_gt (Nat.lt_of_lt_of_le s8 h3)) h2, h3⟩
end
section
variable {prog : Program} {w : World} {A : Around} {E : Value → Shared → Prop} {s : Shared} {z TI TO i1 i2 l1 l2 : Addr} {xs ys : Array Value}
end
/-! ### sorted(zip(xs, ys)) -/
section
variable {prog : Program} {w : World} {A : Around} {E : Value → Shared → Prop} {s : Shared} {z TI TO i1 i2 l1 l2 : Addr} {xs ys : Array Value}
end
/-- tuples laid one by one -/
def tupsH : Hp → List Addr → List V → List V → Hp
  | H, T :: Ts, x :: xs, y :: ys => tupsH (upd H T (.tup [x, y])) Ts xs ys
  | H, _, _, _ => H
/-- what is asked of the two lists' tuples -/
def tSortZip (X : Cx) (ta : TA) : TE := fun σ H Q => ta σ H fun vs H1 => ∃ (a b : Addr) (xs ys : List V) (ds : List PyData), vs = [.ref a, .ref b] ∧ SqL X.K H1 a xs ∧ SqL X.K H1 b ys ∧ xs.length = ys.length ∧ PySem.W.AllAlike ds ∧ PySem.W.Sortable ds ∧ (∀ d ∈ ds, d.depth ≤ 60) ∧
  ∀ Ts : List Addr, Ts.length = xs.length → Ts.Nodup → (∀ T ∈ Ts, H1 T = none) → Paired (RdV X (tupsH H1 Ts xs ys)) (Ts.map V.ref) ds ∧
    ∀ p, tupsH H1 Ts xs ys p = none → Q (.ref p) (upd (tupsH H1 Ts xs ys) p (.lst ((((Ts.map V.ref).zip ds).mergeSort fun p q => dLe p.2 q.2).map Prod.fst)))
section
variable {X : Cx} {Γ : Ct} {m : Option Ct} {α β : Type} {τ1 : Ty α} {τ2 : Ty β} {n1 n2 k : Nat} {p p2 q pos : Pos} {e e2 : Expr} {xs : List α} {ys : List β}
end
end Sl

set_option Elab.async false
set_option linter.all false
set_option maxRecDepth 100000
namespace Sl
open PySem PySem.Spec PyProof.Rows L2 Dl
/-! ### data told as another kind -/
section
variable {X : Cx} {Γ : Ct} {m : Option Ct} {α β : Type} {τ : Ty α} {τ' : Ty β} {e : Expr} {x : α} {y : β}
def Cv (τ : Ty α) (τ' : Ty β) (x : α) (y : β) : Prop := ∀ G v, τ.rep G v x → τ'.rep G v y
theorem Cv.trans {γ : Type} {τ3 : Ty γ} {z : γ} (h : Cv τ τ' x y) (h2 : Cv τ' τ3 y z) : Cv τ τ3 x z := fun G v r => h2 G v (h G v r)
/-- each of a list, if all can be -/
def allC (f : α → Option β) : List α → Option (List β)
  | [] => some []
  | x :: xs => (f x).bind fun y => (allC f xs).bind fun ys => some (y :: ys)
def lossI (z : Option (α ⊕ β)) : Option α := z.bind asL
end
/-! ### a op b op' c as a test -/
/-! ### methods of built-ins, of data -/
section
variable {X : Cx} {Γ : Ct} {α β : Type} {τ : Ty α} {τ2 : Ty β} {s : Sh} {ss : List Sh} {o e : Expr} {es : List Expr} {name : Str} {apos cpos : Pos} {T id : String} {r : V → List V → Hp → VK → Prop}
def VM (K : PySem.W.Frag) (T : String) (τ : Ty α) (x : α) (ss : List Sh) (s : Sh) (r : V → List V → Hp → VK → Prop) : Prop :=
  ∀ v vs G H os Q, HH G os H → τ.rep G v x → Shs ss G [] vs → Out s G os Q → r v vs H Q
/-! xs.index(x) of a list of ints or texts -/
class Flv {α : Type} (τ : Ty α) [Scl τ] : Prop where
  flat : ∀ x : α, flatV (Scl.enc τ x) = true
  eqv : ∀ x y : α, eqV (Scl.enc τ x) (Scl.enc τ y) = true ↔ x = y
instance : Flv tInt := ⟨fun _ => rfl, fun x y => by show (x == y) = true ↔ _; exact beq_iff_eq⟩
instance : Flv tStr := ⟨fun _ => rfl, fun x y => by show (x == y) = true ↔ _; exact beq_iff_eq⟩
end
/-! ### min, max of lists of data -/
class Inj {α : Type} (τ : Ty α) {n : Nat} [S : Sho τ n] : Prop where
  inj : ∀ x y : α, S.dat x = S.dat y → x = y
instance : Inj tInt := ⟨fun x y h => by cases (show PyData.int x = PyData.int y from h); rfl⟩
instance : Inj tStr := ⟨fun x y h => by cases (show PyData.str x = PyData.str y from h); rfl⟩
instance {α β : Type} {τ1 : Ty α} {τ2 : Ty β} {n1 n2 : Nat} [S1 : Sho τ1 n1] [S2 : Sho τ2 n2] [I1 : Inj τ1] [I2 : Inj τ2] : Inj (tP2 τ1 τ2) := ⟨fun x y h => by
  have h : PyData.tuple [S1.dat x.1, S2.dat x.2] = PyData.tuple [S1.dat y.1, S2.dat y.2] := h
  injection h with h
  injection h with h1 h
  injection h with h2 h
  exact Prod.ext (I1.inj _ _ h1) (I2.inj _ _ h2)⟩
theorem inj_map {α : Type} {τ : Ty α} {n : Nat} [S : Sho τ n] [I : Inj τ] : ∀ {xs ys : List α}, xs.map S.dat = ys.map S.dat → xs = ys
  | [], [], _ => rfl
  | [], _ :: _, h => nomatch h
  | _ :: _, [], h => nomatch h
  | x :: xs, y :: ys, h => by
    rw [List.map_cons, List.map_cons] at h
    injection h with h1 h2
    rw [I.inj _ _ h1, inj_map h2]
instance {α : Type} {τ : Ty α} {n : Nat} [S : Sho τ n] [I : Inj τ] : Inj (tList τ) := ⟨fun xs ys h => by
  have h : PyData.list (xs.map S.dat) = PyData.list (ys.map S.dat) := h
  injection h with h
  exact inj_map h⟩
theorem alikeAll_of {α : Type} {τ : Ty α} {n : Nat} [S : Sho τ n] [A : Alk τ] : ∀ xs ys : List α, PySem.W.alikeAll (xs.map S.dat) (ys.map S.dat) = true
  | [], _ => by rw [List.map_nil, PySem.W.alikeAll]
  | x :: xs, [] => by rw [List.map_cons, List.map_nil, PySem.W.alikeAll]
  | x :: xs, y :: ys => by rw [List.map_cons, List.map_cons, PySem.W.alikeAll, A.alike, alikeAll_of xs ys]; rfl
instance {α : Type} {τ : Ty α} {n : Nat} [S : Sho τ n] [A : Alk τ] : Alk (tList τ) := ⟨fun xs ys => by
  show PySem.W.alike (.list (xs.map S.dat)) (.list (ys.map S.dat)) = true
  rw [PySem.W.alike]
  exact alikeAll_of xs ys⟩
class Nno {α : Type} (τ : Ty α) {n : Nat} [S : Sho τ n] : Prop where
  nn : ∀ x : α, S.dat x ≠ .none
instance : Nno tInt := ⟨fun x h => nomatch (show PyData.int x = .none from h)⟩
instance : Nno tStr := ⟨fun x h => nomatch (show PyData.str x = .none from h)⟩
instance {α β : Type} {τ1 : Ty α} {τ2 : Ty β} {n1 n2 : Nat} [S1 : Sho τ1 n1] [S2 : Sho τ2 n2] : Nno (tP2 τ1 τ2) := ⟨fun x h => nomatch (show PyData.tuple [S1.dat x.1, S2.dat x.2] = .none from h)⟩
instance {α : Type} {τ : Ty α} {n : Nat} [S : Sho τ n] : Nno (tList τ) := ⟨fun x h => nomatch (show PyData.list (x.map S.dat) = .none from h)⟩
/-- the first of the least; of the greatest -/
def minS {α : Type} (τ : Ty α) {n : Nat} [S : Sho τ n] (x : α) (xs : List α) : α := xs.foldl (fun a y => if PySem.W.dataLt (S.dat y) (S.dat a) = true then y else a) x
def maxS {α : Type} (τ : Ty α) {n : Nat} [S : Sho τ n] (x : α) (xs : List α) : α := xs.foldl (fun a y => if PySem.W.dataLt (S.dat a) (S.dat y) = true then y else a) x
section
variable {α : Type} {τ : Ty α} {n : Nat} [S : Sho τ n]
def mnL (τ : Ty α) [Sho τ n] : List α → Option α
  | [] => none
  | x :: xs => some (minS τ x xs)
def mxL (τ : Ty α) [Sho τ n] : List α → Option α
  | [] => none
  | x :: xs => some (maxS τ x xs)
end
def rBestD (X : Cx) (f : PyData → List PyData → PyData) : List V → Hp → VK → Prop := fun vs H Q => ∃ (a : Addr) (xs : List V) (d : PyData) (ds : List PyData), vs = [V.ref a] ∧ SqL X.K H a xs ∧ Paired (RdV X H) xs (d :: ds) ∧ PySem.W.AlikeAll (d :: ds) ∧ (∀ e ∈ d :: ds, e.depth ≤ 60) ∧ f d ds ∈ d :: ds ∧
  ∀ (i : Nat) v, xs[i]? = some v → (d :: ds)[i]? = some (f d ds) → Q v H
theorem vals_at : ∀ {xs : List V} {us : List Value}, Vals xs us → ∀ {i : Nat} {u : Value}, us[i]? = some u → ∃ v, xs[i]? = some v ∧ RelV v u
  | _, _, .nil, i, u, h => by simp at h
  | _, _, .cons r t, 0, u, h => by
    obtain rfl := Option.some.inj (show some _ = some u from h)
    exact ⟨_, rfl, r⟩
  | _, _, .cons r t, i + 1, u, h => by
    obtain ⟨b, h1, h2⟩ := vals_at t (i := i) (u := u) (by simpa using h)
    exact ⟨b, by simpa using h1, h2⟩
section
variable {X : Cx} {α : Type} {τ : Ty α} {n k : Nat} [S : Sho τ n] [A : Alk τ] [J : Inj τ] [N : Nno τ] {s : Sh}
end
end Sl

set_option Elab.async false
set_option linter.all false
set_option maxRecDepth 100000
namespace Sl
open PySem PySem.Spec PyProof.Rows L2 Dl
/-! ### xs * k of data; a < b < c < d; try that catches nothing -/
section
variable {X : Cx} {P : Pn} {Γ : Ct} {m m1 m2 : Option Ct} {α β : Type} {τ : Ty α} {pos : Pos} {a b e : Expr} {xs : List α} {R : Po} {body : List Stmt} {h₀ : ExceptHandler} {hs : List ExceptHandler}
end
def sndO {α β : Type} (z : α × Option β) : Option (α × β) := z.2.map fun b => (z.1, b)
/-! tuple(list) -/
def three {α : Type} : List α → Option (α × α × α)
  | [a, b, c] => some (a, b, c)
  | _ => none
def rTupOf (K : PySem.W.Frag) : List V → Hp → VK → Prop := fun xs H Q => ∃ p ys, xs = [V.ref p] ∧ ((SqL K H p ys ∧ ∀ l, H l = none → Q (.ref l) (upd H l (.tup ys))) ∨ (SqT K H p ys ∧ Q (.ref p) H))
theorem cl_tupOf {X : Cx} : CallR X (.type "tuple") (rTupOf X.K) := call_tuple_of
section
variable {α : Type} {τ : Ty α} {s : Sh} {xs : List α} {K : PySem.W.Frag}
theorem va_tupV (rd : RdL s τ xs) : VA [s] (fz (tTup τ) xs) (rTupOf K) := va_one fun v G H os o Q at_ hs k => by
  obtain ⟨a, vs, e, g, pr⟩ := rd G H os o v at_ hs
  subst e
  refine ⟨a, _, rfl, .inl ⟨SqL.of g, fun q nq => ?_⟩⟩
  have sg : ∀ u, Same G (upd G q u) := fun u => at_.1.sameG nq
  exact k (.ref q) _ [] _ (sg _) (at_.1.alloc nq) ⟨rfl, q, _, rfl, upd_same, pair_mono (sg _) pr⟩
end
/-! a < b < c < d -/
def tChain3 (r r' r2 : R2) (ta tb tc td : TE) : TE := fun σ H Q => ta σ H fun x H1 => tb σ H1 fun y H2 => r x y H2 fun z H3 => ∃ k, z = .bl k ∧
  (if k = true then tc σ H3 fun w H4 => r' y w H4 fun z' H5 => ∃ k', z' = .bl k' ∧ (if k' = true then td σ H5 fun w' H6 => r2 w w' H6 Q else Q (.bl false) H5) else Q (.bl false) H3)
section
variable {X : Cx} {Γ : Ct} {α β γ δ : Type} {τ1 : Ty α} {τ2 : Ty β} {τ3 : Ty γ} {τ4 : Ty δ} {pos : Pos} {a b c d : Expr}
end
/-! ### a dict that a call answers is walked -/
def tAf (t : TE) : TE := fun σ H Q => t σ H fun v H1 => Q v H1 ∨ ∃ d u, v = V.ref d ∧ H1 d = some u ∧ Mut (some u) ∧ ∀ od, Q v (upd H1 d (.frz od u))
abbrev tAT {κ α : Type} (Γ : Ct) (kd : Kd κ) (τ : Ty α) (x : List (κ × α)) : TE := tAf (tT Γ none (fz (tDic kd τ) x))
structure KE {β : Type} (X : Cx) (tg e : Expr) (Γ : Ct) (items : List β) (sh : β → Sh) : Prop where
  ex : ∃ (κ α : Type) (kd : Kd κ) (τ : Ty α) (x : List (κ × α)) (e0 : Expr) (J : Addr → Obj → List (kd.KT × V) → It), EJ X e0 Γ none (fz (tDic kd τ) x) ∧ (PE X e0 (tAT Γ kd τ x) → PI X tg e (iD kd J (tAT Γ kd τ x))) ∧
    ∀ G kvs d o, Paired (KR kd τ G) kvs x → ∀ F, (d, HO.frz o (kd.ho kvs)) ∈ F → WkF F (J d o kvs) G items sh
section
variable {X : Cx} {P : Pn} {Γ : Ct} {α β γ κ : Type} {τ : Ty α} {τk : Ty κ} {pos p apos cpos : Pos} {e tg : Expr} {d : List (κ × α)}
end
section
variable {X : Cx} {P : Pn} {Γ Γ1 : Ct} {m : Option Ct} {α β γ κ ρ S : Type} {τ τ3 : Ty α} {τ2 : Ty β} {s : Sh} {pos p : Pos} {a e tg iter elt : Expr} {us vs : List Nat} {rest body : List Stmt} {R : Po} {rs : ρ → Sh} {ls : ρ → List Sh}
end
section
variable {X : Cx} {Γ : Ct} {α β γ κ S : Type} {τ3 : Ty γ} {pos : Pos} {elt tg iter kx vx : Expr} {ifs : List Expr}
section
variable {scope : Scope} {own : List (Str × Nat)} {items : List β} {sh : β → Sh} {f : β → Option (Option γ)} {zs : List γ} {Γy : β → Ct}
    (hg : ∀ (s : Shared) (H : Hp) (C : Addr) (cl : List (Str × Addr)) (fp : List Addr) y, GJ0 (Bk X s H scope C cl fp) tg (own.map (·.2)) (nones (own.map (·.2)) (out Γ none)) (Γy y) (sh y))
    (ht : ∀ (s : Shared) (H : Hp) (C : Addr) (cl : List (Str × Addr)) (fp : List Addr) y oz, y ∈ items → f y = some oz → TsJ (Bk X s H scope C cl fp) ifs (Γy y) none oz.isSome)
include hg ht
end
end
end Sl

set_option Elab.async false
set_option linter.all false
set_option maxRecDepth 100000
set_option maxHeartbeats 2000000
namespace Dl
open PySem PySem.W PySem.Calls PySem.Spec PyProof.Rows L2
/-! ### an own exception's __init__ that says super().__init__(e) first -/
/-- the context of its body -/
def cxS (CX : CXT) (P : Program) (w : World) (K : PySem.W.Frag) (mg : Str → Option Value) (base : Heap) (N : List Str) (qual : Str) (scope : Scope) (f cda cc : Addr) (A : Around) (outer : List Env) (s : Shared) (H : Hp) (E : XK) : Cx where
  prog := P
  w := w
  K := K
  mg := mg
  base := base
  A := A.deeper (ksEnv qual scope s.heap.objs.size f (.ref cda) cc)
  N := N
  s_0 := s
  H_0 := H
  env := ksEnv qual scope s.heap.objs.size f (.ref cda) cc
  outer := outer
  stack := ksEnv qual scope s.heap.objs.size f (.ref cda) cc :: outer
  ex := []
  calm := true
  fn := fun _ => false
  pn := []
  xe := fun e s' => wpAny (model P w) (A.deeper (ksEnv qual scope s.heap.objs.size f (.ref cda) cc)) (leaving (ksEnv qual scope s.heap.objs.size f (.ref cda) cc) e) (fun _ s'' => CX outer H s E e s'') (fun e' s'' => CX outer H s E e' s'') s'
/-- its names -/
structure SupScope (N ps : List Str) (sc : Scope) : Prop where
  kind : sc.kind = .function
  co : sc.isCoroutine = false
  gen : sc.isGenerator = false
  nd : N.Nodup
  pre : N.take ps.length = ps
  par : ∀ x ∈ ps, sc.names.lookup x = some .local
  nocell : ∀ y ∈ sc.names, y.2 ≠ .cell
  free : ∀ y ∈ sc.names, y.2 = .free → y.1 = "__class__"
  sup : sc.names.lookup ("super" : Str) = some .globalImplicit
  cls : sc.names.lookup ("__class__" : Str) = some .free
  noc : ∀ x ∈ N, x ≠ "__class__"
/-- what the written part says of it -/
structure SupTxt (P : Program) (K : PySem.W.Frag) (mg : Str → Option Value) (C cda cc : Addr) : Prop where
  oex : OexC K C
  code : ∃ ccl cdd vs ccs file tf, K.lookup cda = some ⟨ccl, cdd, .fields vs, ccs⟩ ∧ vs[2]? = some (.str file tf) ∧ ((P.main.file : Str) == file) = true
  cell : ∃ cl cld csl, K.lookup cc = some ⟨cl, cld, .cell (some (.ref C)), csl⟩
  sub : mroIn K C (.ref C) = some true
  sup : mg "super" = none
  opq : nsIn K cStatics "thirdparty.any" = some none
  next : ks_superIn K C C "__init__" = some (some (.builtin "ValueError.__init__"))
  ve : subIn K (.ref C) (.type "ValueError") = some true
  top : (P.main.scope.names.lookup ("super" : Str)).isSome = false
theorem lookup_rev_zip : ∀ {ps : List Str} {us : List Value} {i : Nat} {x : Str} {u : Value}, ps.Nodup → ps[i]? = some x → us[i]? = some u → (ps.zip us).reverse.lookup x = some u
  | [], _, _, _, _, _, h, _ => by simp at h
  | p :: ps, [], _, _, _, _, _, h => by simp at h
  | p :: ps, v :: us, 0, x, u, nd, h1, h2 => by
    have e1 : p = x := by simpa using h1
    have e2 : v = u := by simpa using h2
    subst e1 e2
    rw [List.zip_cons_cons, List.reverse_cons, List.lookup_append]
    have no : (ps.zip us).reverse.lookup p = none := by
      cases q : (ps.zip us).reverse.lookup p with
      | none => rfl
      | some z =>
        have m := PySem.mem_of_lookup q
        rw [List.mem_reverse] at m
        exact absurd (List.of_mem_zip m).1 (List.nodup_cons.mp nd).1
    rw [no]
    simp
  | p :: ps, v :: us, i + 1, x, u, nd, h1, h2 => by
    have ih := lookup_rev_zip (ps := ps) (us := us) (i := i) (List.nodup_cons.mp nd).2 (by simpa using h1) (by simpa using h2)
    rw [List.zip_cons_cons, List.reverse_cons, List.lookup_append, ih]
    rfl
section
variable {CX : CXT} {P : Program} {w : World} {K : PySem.W.Frag} {mg : Str → Option Value} {base : Heap} {N ps : List Str} {qual : Str} {scope : Scope} {f cda cc : Addr} {A : Around} {outer : List Env} {s : Shared} {H : Hp} {E : XK} {us : List Value} {vs : List V}
theorem inv_startS {h1 : Heap} {tk : Nat} {oc : Obj} (S : SupScope N ps scope) (hd : A.handled = none) (e0 : Env0 P w K mg base A outer s H) (hl : vs.length = ps.length) (r : Vals vs us) (hcc : base.get? cc = some oc) (hcd : ∃ v, oc.data = .cell v)
    (hns : h1.Ns s.heap.objs.size fun x => (ps.zip us).reverse.lookup x) (hk : ∀ b o, s.heap.get? b = some o → h1.get? b = some o) :
    Inv (cxS CX P w K mg base N qual scope f cda cc A outer s H E) [] (L2.start N vs) H { s with heap := h1, toks := tk } := by
  have hpl : ps.length ≤ N.length := by have := congrArg List.length S.pre; rw [List.length_take] at this; omega
  have noA : ∀ b : Addr, b ∉ (cxS CX P w K mg base N qual scope f cda cc A outer s H E).ex := fun b z => absurd (show b ∈ ([] : List Addr) from z) (by simp)
  have cel : ∀ x c, (cxS CX P w K mg base N qual scope f cda cc A outer s H E).env.cells.lookup x = some c → x = "__class__" ∧ c = cc := fun x c h => by
    have h : ([("__class__", cc)] : List (Str × Addr)).lookup x = some c := h
    rw [List.lookup_cons] at h
    split at h
    · rename_i e
      exact ⟨by simpa using e, (Option.some.inj h).symm⟩
    · cases h
  refine ⟨⟨e0.mod, S.kind, rfl, rfl, Nat.le_refl _, fun y z c h1 h2 => ?_, fun y hy => ?_, fun y c z _ => (Bool.noConfusion z), fun _ => hd, Around.frames_deeper e0.frames, .inr ⟨rfl, rfl⟩, fun b z => absurd z (noA b), e0.bs, e0.bsz, fun b _ _ => noA b, fun b z => absurd z (noA b), e0.funs, e0.frf⟩,
    rfl, e0.bare, Un.kept hk, ⟨_, hns, fun i y v h1 h2 h3 => ?_⟩, fun y c h => ?_, e0.hok.fresh (Nat.le_refl _), fun y c h => ?_, fun p hp => absurd (show p ∈ ([] : List (Addr × Obj)) from hp) (by simp), e0.hok.kept hk, ?_⟩
  · rw [(cel _ _ h1).1, (cel _ _ h2).1]
  · have hy : scope.names.lookup y = some .cell ∨ scope.names.lookup y = some .free := hy
    rcases hy with hy | hy
    · exact absurd rfl (S.nocell _ (PySem.mem_of_lookup hy))
    · have e := S.free _ (PySem.mem_of_lookup hy) rfl
      have e : y = "__class__" := e
      subst e
      exact ⟨cc, rfl⟩
  · have hi : i < vs.length := by
      unfold L2.start at h2
      by_cases hi : i < vs.length
      · exact hi
      · rw [List.getElem?_append_right (by simpa using hi)] at h2
        rw [List.getElem?_replicate] at h2
        split at h2 <;> cases h2
    have ha : vs[i]? = some v := by
      unfold L2.start at h2
      rw [List.getElem?_append_left (by simpa using hi), List.getElem?_map] at h2
      cases e : vs[i]? with
      | none => rw [e] at h2; cases h2
      | some a => rw [e] at h2; cases h2; rfl
    obtain ⟨u, hu, rv⟩ := r.get ha
    have hp : ps[i]? = some y := by
      rw [← S.pre, List.getElem?_take_of_lt (by omega)]; exact h1
    have ndP : ps.Nodup := by rw [← S.pre]; exact S.nd.sublist (List.take_sublist _ _)
    exact ⟨u, rv, .inl ⟨S.par y (List.mem_of_getElem? hp), lookup_rev_zip ndP hp hu⟩⟩
  · obtain ⟨rfl, rfl⟩ := cel _ _ h
    obtain ⟨v, hv⟩ := hcd
    exact ⟨v, oc, hk _ _ (e0.bs _ _ hcc).1, hv⟩
  · obtain ⟨rfl, rfl⟩ := cel _ _ h
    exact (e0.bs _ _ hcc).2
  · unfold L2.start
    show _ = N.length
    rw [List.length_append, List.length_map, List.length_replicate]
    omega

theorem kxs_call1 {M : Model} {A : Around} {E : Value → Shared → Prop} {s : Shared} {i : String} {u x : Addr} {pos : Pos} {env : Env} {e : Expr} {Q : Value → Shared → Prop} (he : starEach [e] env = (false, eval e env) :: starEach [] env) (hpl : (backTo pos (starEach [] env)).any (·.1) = false)
    (h : wpAny M A (spliced (backTo pos (starEach [e] env))) (fun vs s₁ => KxsAt i u x s₁.heap ∧ wpAny M A (call (.ref u) vs) Q E s₁) E s) : wpAny M A (callWith pos (.ref u) [] (backTo pos (starEach [e] env)) []) Q E s := by
  rw [he] at h ⊢
  refine kxs_callWith (i := i) (x := x) (by show (false || (backTo pos (starEach [] env)).any (·.1)) = false; rw [hpl]; rfl) ?_
  exact evalArgs_plain h
/-- THE RULE: such an __init__ keeps its promise -/
theorem fn_sup {k : Nat} {name : Str} {params : Arguments} {rest : List Stmt} {kV doc pm ct oc : Value} {an od : Option Addr} {osl : Array (Option Value)} {sp : Sp} {C : Addr} {e : Expr} {p0 p1 p2 p3 p4 : Pos} {ar : Arg}
    (lk : K.lookup f = some ⟨oc, od, .func (ksFn name qual params (.Expr (.Call (.Attribute (.Call (.Name "super" p0) [] [] p1) "__init__" p2) [e] [] p3) p4 :: rest) scope .none kV doc pm an (.ref cda) ct cc), osl⟩)
    (hcd : codeIn K (.ref cda) qual = true) (S : SupScope N ps scope) (T : SupTxt P K mg C cda cc) (hp : (params.posonlyargs ++ params.args).head? = some ar) (hp0 : ps[0]? = some ar.arg)
    (he : ∀ env : Env, starEach [e] env = (false, eval e env) :: starEach [] env) (hpl : ∀ env : Env, (backTo p3 (starEach [] env)).any (·.1) = false)
    (hev : ∀ env : Env, ∃ pl : Sem Bool, eval (.Call (.Attribute (.Call (.Name "super" p0) [] [] p1) "__init__" p2) [e] [] p3) env = (do
      let ov ← attributeBase (.Call (.Name "super" p0) [] [] p1) "__init__" env (eval (.Call (.Name "super" p0) [] [] p1) env)
      standAt p2.atName
      let (f, first) ← holding [ov] (getMethod ov "__init__" pl)
      callWith p3 f first (backTo p3 (starEach [e] env)) []))
    (hsw : ∀ env : Env, swapsWith (.Call (.Attribute (.Call (.Name "super" p0) [] [] p1) "__init__" p2) [e] [] p3) none p4.line env = pure false)
    (len : ∀ vs H Q E, sp vs H Q E → vs.length = ps.length)
    (hbody : ∀ (A : Around) (outer : List Env) (s : Shared) (H : Hp) (vs : List V) (Q : VK) (E : XK), Room k (A.deeper (ksEnv qual scope s.heap.objs.size f (.ref cda) cc)) → sp vs H Q E →
      ∃ (a : Addr) (vr : List V) (te : TE) (t : TS), vs = .ref a :: vr ∧ H a = some (exo a C none) ∧ PE (cxS CX P w K mg base N qual scope f cda cc A outer s H E) e te ∧ PSs (cxS CX P w K mg base N qual scope f cda cc A outer s H E) rest t ∧
        tCons te tNil (L2.start N vs) H fun vs4 H1 => (∃ z, vs4 = [z]) ∧ H1 a = some (exo a C none) ∧ t { nx := fun _ H' => Q .non H', rt := Q } (L2.start N vs) H1) :
    FnOk P w K mg base CX (k + 1) f (ksFn name qual params (.Expr (.Call (.Attribute (.Call (.Name "super" p0) [] [] p1) "__init__" p2) [e] [] p3) p4 :: rest) scope .none kV doc pm an (.ref cda) ct cc) ps sp := by
  refine ⟨len, fun A outer s H args us vs Q E hr e0 hb r hsp => ?_⟩
  have hl := len _ _ _ _ hsp
  have KX : K.In s.heap := e0.mod.kin.keeps fun b o e => (e0.bs b o e).1
  have lim : s.heap.NoLimit := e0.mod.nolimit.keeps fun b o e => (e0.bs b o e).1
  obtain ⟨cl, cld, csl, hcell⟩ := T.cell
  obtain ⟨ccl, cdd, vsc, ccs, file, tf, hcode, hvs, hfile⟩ := T.code
  obtain ⟨nm, qn, NN, bs, bm, sn, sub, ab, col, dd, k0, k1, k2, k3, k5, hC, hbm⟩ := T.oex.cls
  have hcl : clsIn K C = some { name := nm, bases := bs, mro := .ref C :: bm, ns := NN, qualname := qn, hasDict := true, slotNames := sn, subclasses := sub, abstract := ab, collection := col, hasDel := false } := by unfold clsIn; rw [hC] <;> rfl
  refine ks_codeAny_call_defAt (fd := ksFn name qual params (.Expr (.Call (.Attribute (.Call (.Name "super" p0) [] [] p1) "__init__" p2) [e] [] p3) p4 :: rest) scope .none kV doc pm an (.ref cda) ct cc) hr.depth (KX _ _ lk) rfl lim (codeRec_of KX hcd) rfl hb S.nocell (fun ⟨n, v⟩ hy => S.par n (List.of_mem_zip hy).1) (fun h1 hns hk => ?_) S.co S.gen S.kind
  obtain ⟨a, vr, te, t, rfl, ea, hte, ht, hread⟩ := hbody A outer s H vs Q E (hr.deeper _) hsp
  have I : Inv (cxS CX P w K mg base N qual scope f cda cc A outer s H E) [] (L2.start N (.ref a :: vr)) H { s with heap := h1, toks := s.toks + (ps.zip us).length } :=
    inv_startS S hr.hd e0 hl r (e0.mod.kin _ _ hcell) ⟨_, rfl⟩ hns hk
  obtain ⟨pl, hev⟩ := hev (ksEnv qual scope s.heap.objs.size f (.ref cda) cc)
  refine ks_wpAt_execs_cons (ks_wpAt_Expr_any (ks_wpAt_MethodCall (pl := pl) ?_ hev) ?_ (hsw _))
  · have KX1 := I.kIn
    refine ks_wpAt_super_base (env := ksEnv qual scope s.heap.objs.size f (.ref cda) cc) S.sup S.cls (by decide) rfl (KX1 _ _ lk) rfl hp rfl (KX1 _ _ hcode) rfl hvs hfile T.top ?_
    obtain ⟨mb, hmb1, hmb2⟩ := I.mod.blt
    refine ks_loadName_global S.kind S.sup (loadGlobal_builtin (env := ksEnv qual scope s.heap.objs.size f (.ref cda) cc) (I.mod.glob.keeps I.bk) T.sup (hmb1.keeps I.bk) ((hmb2 "super" (by decide)).trans (by decide +kernel : bootBuiltins "super" = some (.type "super"))) ⟨rfl, ?_⟩)
    refine wpAny_loadName_free S.kind S.cls (show ([(("__class__" : Str), cc)] : List (Str × Addr)).lookup ("__class__" : Str) = some cc from rfl) ⟨_, KX1 _ _ hcell, rfl⟩ ?_
    obtain ⟨m, hnm, hlm⟩ := I.loc
    have hN0 : N[0]? = some ar.arg := by
      have e1 := S.pre
      have e2 : (N.take ps.length)[0]? = some ar.arg := by rw [e1]; exact hp0
      rw [List.getElem?_take_of_lt (by cases ps with | nil => simp at hp0 | cons _ _ => simp)] at e2
      exact e2
    have hmem : ar.arg ∈ ps := List.mem_of_getElem? hp0
    obtain ⟨u, ru, look⟩ := hlm 0 ar.arg (.ref a) hN0 rfl (.inl (S.par _ hmem))
    have eu : u = .ref a := ru
    subst eu
    have hma : m ar.arg = some (.ref a) := by
      rcases look with ⟨_, q⟩ | ⟨q, _⟩
      · exact q
      · have q2 : scope.names.lookup ar.arg = some .local := S.par _ hmem
        rcases q with q | q
        · have q : scope.names.lookup ar.arg = some .cell := q
          rw [q2] at q; cases q
        · have q : scope.names.lookup ar.arg = some .free := q
          rw [q2] at q; cases q
    refine wpAny_loadName_local S.kind (S.par _ hmem) hnm hma ?_
    obtain ⟨oD, hD1, hD2⟩ : ∃ oD, h1.get? C = some oD ∧ oD.data = .cls { name := nm, bases := bs, mro := .ref C :: bm, ns := NN, qualname := qn, hasDict := true, slotNames := sn, subclasses := sub, abstract := ab, collection := col, hasDel := false } := by
      have h0 := hcl
      unfold clsIn at h0
      split at h0
      · rename_i c d cd' sl ho
        cases h0
        exact ⟨_, KX1 _ _ ho, rfl⟩
      · cases h0
    refine ks_wpAny_isType_cls hD1 hD2 ⟨rfl, ?_⟩
    obtain ⟨t1, hoa⟩ := exo_at I.hok ea
    refine ks_wpAny_call_super hD1 hD2 hoa rfl (fun c z => by cases z) (looks_mroIn KX1 T.sub) (fun h2 e2 k2 => ?_)
    have I1 : Inv (cxS CX P w K mg base N qual scope f cda cc A outer s H E) [] (L2.start N (.ref a :: vr)) H { s with heap := h2, toks := s.toks + (ps.zip us).length } := I.kept (t' := s.toks + (ps.zip us).length) k2
    have KX2 := I1.kIn
    obtain ⟨t2, hoa2⟩ := exo_at I1.hok ea
    have IA : InstAt h2 a { cls := .ref C, dict := none, data := .fields #[.ref t2, .none, .none, .none, .bool false, .none] } C none := ⟨hoa2, rfl, rfl, trivial⟩
    have hnext : alongIn K "__init__" (((.ref C :: bm).dropWhile (· != .ref C)).drop 1) = some (some (.builtin "ValueError.__init__")) := by
      have q := T.next
      unfold ks_superIn at q
      rw [hcl] at q
      exact q
    refine kxs_getMethod kxs_ValueError e2 (looks_opaque KX2 T.opq) (l₀ := .ref C :: bm) (fun A Q E s k q => wpAny_bind ((looks_clsIn KX2 hcl) A _ E s k (wpAny_pure q))) rfl KX2 hnext (IA.type.andThen (looks_subIn KX2 T.ve)) (ks_ne KX2 IA hcl) (by decide) ?_
    have I2 : Inv (cxS CX P w K mg base N qual scope f cda cc A outer s H E) [] (L2.start N (.ref a :: vr)) H { s with heap := h2.push (kxs_mw "ValueError.__init__" a), toks := s.toks + (ps.zip us).length + 1 } := I1.kept (t' := s.toks + (ps.zip us).length + 1) fun b o z => Heap.get?_push_of_some _ z
    obtain ⟨f0, f1, f2, f3, f4, f5⟩ := I1.fpOk (H' := H) (b := h2.objs.size) (Nat.le_refl _) (I1.hok.fresh (Nat.le_refl _))
    have hmw : (h2.push (kxs_mw "ValueError.__init__" a)).get? h2.objs.size = some (kxs_mw "ValueError.__init__" a) := Heap.get?_push_at rfl rfl
    have I3 : Inv (cxS CX P w K mg base N qual scope f cda cc A outer s H E) [(h2.objs.size, kxs_mw "ValueError.__init__" a)] (L2.start N (.ref a :: vr)) H { s with heap := h2.push (kxs_mw "ValueError.__init__" a), toks := s.toks + (ps.zip us).length + 1 } :=
      I2.pins_of fun p hp => by
        have e := List.mem_singleton.mp hp
        subst e
        exact ⟨hmw, f0, f1, f2, fun v z => by cases z⟩
    show wpAny _ _ (callWith p3 (.ref h2.objs.size) [] (backTo p3 (starEach [e] (ksEnv qual scope s.heap.objs.size f (.ref cda) cc))) []) _ _ _
    refine kxs_call1 (i := "ValueError.__init__") (e := e) (x := a) (he _) (hpl _) ?_
    refine thn ((pa_cons hte pa_nil (he _)).run p3 _ _ _ H _ I3 hread) fun us4 s4 ⟨vs4, H4, I4, r4, ⟨z4, ez4⟩, ea4, hq4⟩ => ?_
    have hu4 : s4.heap.get? h2.objs.size = some (kxs_mw "ValueError.__init__" a) := (I4.pin (h2.objs.size, kxs_mw "ValueError.__init__" a) (by simp)).1
    refine ⟨hu4, ?_⟩
    obtain ⟨t3, hoa4⟩ := exo_at I4.hok ea4
    have KX4 := I4.kIn
    have hlen4 : us4.length ≤ sizeLine := by
      rw [← Paired.length r4, ez4]
      exact Nat.le_of_lt (small1000 (n := 1) (by decide))
    refine wpAny_call (codeAny_of_tree ?_)
    show wpAny _ _ (callAny (.ref h2.objs.size) ⟨us4, []⟩) _ _ _
    simp only [callAny]
    refine wpAny_bind (wpAny_load hu4 ?_)
    simp only [kxs_mw, show (Value.type "method-wrapper" == Value.type "method" || Value.type "method-wrapper" == Value.type "builtin_function_or_method" || Value.type "method-wrapper" == Value.type "method-wrapper") = true by decide, if_true]
    refine KFB.if_so (by decide) ?_
    obtain ⟨hp4, g4, d4, tk4, os4⟩ := s4
    refine wpAny_bind (check_bound_init F.excBase_ValueError.toExcCallFacts (KX4 _ _ hC) hoa4 rfl ?_)
    refine wpAny_bind (wpAny_pure (wpAny_pure ?_))
    refine ⟨plainId_quiet F.excBase_ValueError.init.plain _, codeAny_builtin F.excBase_ValueError.initEntry ?_⟩
    refine exc_init_tree (cls := .ref C) (t0 := t3) (dv := none) (c2 := .none) (c3 := .none) (b4 := .bool false) hoa4 hlen4 (fun h5 k5 e5 _ => ?_)
    have J := I4.write (t' := tk4) (x := a) (e := a) (o := exo a C none) (by rw [ea4]; exact True.intro) (.inl rfl) k5 ⟨_, e5⟩ (exo_ok e5)
    have eu : upd H4 a (exo a C none) = H4 := by
      funext b
      by_cases hb : b = a
      · rw [hb, upd_same, ea4]
      · rw [upd_ne hb]
    rw [eu] at J
    refine wpAt_of_wpAny (wpAny_mono (ht.run [] _ _ _ _ (J.pins_of fun p z => absurd z (by simp)) hq4) (fun fl s' hs => ?_) fun e s' hs => hs)
    have fin : ∀ {σ' : L2.St} {H' : Hp} {v : V} {u : Value}, Inv (cxS CX P w K mg base N qual scope f cda cc A outer s H E) [] σ' H' s' → RelV v u → Q v H' → CE outer P w H s Q u s' :=
      fun {σ' H' v u} J rv q => ⟨v, H', J.os, J.bare, J.base, J.hok, rv, q⟩
    cases fl with
    | ret u =>
      obtain ⟨v, σ', H', J, rv, q⟩ := hs
      exact fin J rv q
    | next =>
      obtain ⟨σ', H', J, q⟩ := hs
      exact fin (v := V.non) (u := Value.none) J rfl q
    | brk =>
      obtain ⟨_, _, _, q⟩ := hs
      exact False.elim q
    | cont =>
      obtain ⟨_, _, _, q⟩ := hs
      exact False.elim q
  · exact I.quiet
end
end Dl

set_option Elab.async false
set_option linter.all false
set_option maxRecDepth 100000
set_option maxHeartbeats 4000000
namespace Sl
open PySem PySem.Spec PyProof.Rows L2 Dl
/-! ### what is raised -/
structure Xh where
  p : Hp → Value → Option Addr → Prop
  mono : ∀ {G G' : Hp} {c : Value} {d : Option Addr}, Same G G' → p G c d → p G' c d
/-- an exception of the class at C with such fields -/
def xEr (C : Addr) (fs : List (Str × V)) : Xh := ⟨fun G cls d => cls = .ref C ∧ ((fs = [] ∧ d = none) ∨ ∃ dd xs, d = some dd ∧ G dd = some (.xd xs) ∧ ∀ f v, fs.lookup f = some v → xs.lookup f = some v),
  fun sm ⟨e, h⟩ => ⟨e, h.imp id fun ⟨dd, xs, a, b, c⟩ => ⟨dd, xs, a, sm _ _ b, c⟩⟩⟩
abbrev Er : Type := Str × List (Str × (Int ⊕ Str))
def eV : Int ⊕ Str → V
  | .inl i => .int i
  | .inr s => .str s
def erx (cs : Str → Addr) (e : Er) : Xh := xEr (cs e.1) (e.2.map fun p => (p.1, eV p.2))
/-- an answer, or an exception -/
inductive Rs (ε ρ : Type) where
  | er (e : ε)
  | ok (r : ρ)
def xrO (x : Xh) (ls : List Sh) (P : Pn) : Value → Option Addr → Hp → Ow → Prop := fun cls d G os => ∃ dead o, os.Perm (dead ++ o) ∧ x.p G cls d ∧ Shs ls G o (P.map Prod.snd)
/-- a def that may raise -/
def PoX {ε ρ : Type} (rs : ρ → Sh) (ls : ρ → List Sh) (xs : ε → Xh) (xl : ε → List Sh) (P : Pn) (o : Rs ε ρ) : Po where
  nx := fun σ G os => ∃ y, o = .ok y ∧ ∃ dead o', os.Perm (dead ++ o') ∧ rtO (rs y) (ls y) P .non G o'
  rt := fun v G ow => ∃ y, o = .ok y ∧ rtO (rs y) (ls y) P v G ow
  ct := fun _ _ _ => False
  xr := fun cls d _ G os => ∃ e, o = .er e ∧ xrO (xs e) (xl e) P cls d G os
/-- a block within it -/
def PoY {ε ρ S : Type} (rs : ρ → Sh) (ls : ρ → List Sh) (xs : ε → Xh) (xl : ε → List Sh) (P : Pn) (Γs : S → Ct) (o : Oc (Rs ε ρ) S) : Po where
  nx := fun σ G os => ∃ s, o = .nx s ∧ StA (Γs s) σ G os
  rt := fun v G ow => ∃ y, o = .ret (.ok y) ∧ rtO (rs y) (ls y) P v G ow
  ct := fun _ _ _ => False
  xr := fun cls d _ G os => ∃ e, o = .ret (.er e) ∧ xrO (xs e) (xl e) P cls d G os
section
variable {X : Cx} {P : Pn} {Γ Γ' Γ0 Γh Γ1 Γ2 Γm : Ct} {m m1 m2 : Option Ct} {α β γ δ κ ρ ε S : Type} {τ τ1 : Ty α} {τ2 : Ty β} {τ3 : Ty γ} {s s1 s2 : Sh} {pos p : Pos} {a b e tg : Expr} {es : List Expr} {us vs : List Nat} {st : Stmt} {rest thn els body : List Stmt} {R R' : Po} {rs : ρ → Sh} {ls : ρ → List Sh} {xs : ε → Xh} {xl : ε → List Sh} {y : ρ} {as : List As} {ss : List Sh} {x f : Str} {k n : Nat} {ps : List Str} {r : Sh} {L : List (Nat × Sh)} {z : Xh}
theorem sj_retX (he : EJ X e Γ m s) (hs : rs y = s) (hl : lentAt P (out Γ m) = (ls y).map (fun s => some (some s))) (nd : (P.map Prod.fst).Nodup := by decide) : SJ X P (.Return (some e) pos :: rest) Γ (PoX rs ls xs xl P (.ok y)) :=
  sj_retG (ls := ls) (y := y) he (fun v G o h => by subst hs; exact ⟨y, rfl, h⟩) hl nd
theorem sj_finX (hs : ∀ G, (rs y).p G [] .non) (hl : lentAt P Γ = (ls y).map (fun s => some (some s))) (nd : (P.map Prod.fst).Nodup := by decide) : SJ X P [] Γ (PoX rs ls xs xl P (.ok y)) :=
  sj_nil fun σ G os st pn => by
    obtain ⟨o2, dead, b1, b2⟩ := StA.lent st pn nd hl
    exact ⟨y, rfl, dead, o2, b1.trans List.perm_append_comm, [], o2, rfl, hs G, b2⟩
theorem sj_endY {Γs : S → Ct} {q : S} {fl : List Bool} (hl : fl.length = Γ.length) (e : mask fl Γ = Γs q) : SJ X P [] Γ (PoY rs ls xs xl P Γs (.nx q)) := pss_to pss_nil fun D σ H ⟨G, os, F, hh, st, pn, k1, k2, k3⟩ => by
  obtain ⟨os', h', st'⟩ := HH.masked hh st hl
  rw [e] at st'
  exact k1 σ G os' H (Same.refl _) h' pn ⟨q, rfl, st'⟩
theorem xr_of {ll : List Sh} {σ : L2.St} {G : Hp} {os : Ow} {cls : Value} {d : Option Addr} (st : StA Γ σ G os) (pn : PinA P σ) (h : z.p G cls d) (nd : (P.map Prod.fst).Nodup) (hl : lentAt P Γ = ll.map (fun s => some (some s))) : xrO z ll P cls d G os := by
  obtain ⟨o2, dead, b1, b2⟩ := StA.lent st pn nd hl
  exact ⟨dead, o2, b1.trans List.perm_append_comm, h, b2⟩
/-! ### expressions that raise -/
def tX (X : Cx) (Γ : Ct) (z : Xh) (Γh : Ct) : TE := fun σ H _ => ∃ G os F, HH G (os ++ F) H ∧ StA Γ σ G os ∧ ∀ cls d G' os' H', Same G G' → HH G' (os' ++ F) H' → StA Γh σ G' os' → z.p G' cls d → WkX X cls d σ H'
abbrev EX (X : Cx) (e : Expr) (Γ : Ct) (z : Xh) (Γh : Ct) : Prop := PE X e (tX X Γ z Γh)
theorem sj_xset {i : Nat} {pos' : Pos} (he : EX X e Γ z Γh) (hx : ∀ cls d σ G os, StA Γh σ G os → PinA P σ → z.p G cls d → R.xr cls d σ G os) (hN : X.N.Nodup) (hi : X.N[i]? = some x) (hx' : Loc X.env.scope x)
    (hs : swapsWith e (some (.Name x pos')) pos.line X.env = pure false := by rfl) (hf : X.fn x = true ∨ X.env.scope.names.lookup x = some .local := by first | exact .inl rfl | exact .inr rfl | assumption) : SJ X P (.Assign [.Name x pos'] e pos :: rest) Γ R :=
  pss_to (pss_cons (ps_set hN hi hx' he hs hf) pss_never) fun D σ H ⟨G, os, F, hh, st, pn, k1, k2, k3⟩ => go_seq (go_asg ⟨G, os, F, hh, st, fun cls d G' os' H' sm h' st' q => (k3 σ G' os' H' sm h' pn).2 cls d (hx cls d σ G' os' st' pn q)⟩)
theorem sj_xexpr (he : EX X e Γ z Γh) (hx : ∀ cls d σ G os, StA Γh σ G os → PinA P σ → z.p G cls d → R.xr cls d σ G os) (hs : swapsWith e none pos.line X.env = pure false := by rfl) : SJ X P (.Expr e pos :: rest) Γ R :=
  pss_to (pss_cons (ps_expr he hs) pss_never) fun D σ H ⟨G, os, F, hh, st, pn, k1, k2, k3⟩ => go_seq (go_drop ⟨G, os, F, hh, st, fun cls d G' os' H' sm h' st' q => (k3 σ G' os' H' sm h' pn).2 cls d (hx cls d σ G' os' st' pn q)⟩)
theorem sj_xret (he : EX X e Γ z Γh) (hx : ∀ cls d σ G os, StA Γh σ G os → PinA P σ → z.p G cls d → R.xr cls d σ G os) : SJ X P (.Return (some e) pos :: rest) Γ R :=
  pss_to (pss_cons (ps_ret he) pss_never) fun D σ H ⟨G, os, F, hh, st, pn, k1, k2, k3⟩ => go_seq (go_ret ⟨G, os, F, hh, st, fun cls d G' os' H' sm h' st' q => (k3 σ G' os' H' sm h' pn).2 cls d (hx cls d σ G' os' st' pn q)⟩)
/-- what an expression raises within others -/
theorem ex_opL {op : Operator} {r2 : R2} {tb : TE} (ho : OpR X (binaryOp op) r2) (ha : EX X a Γ z Γh) (hb : PE X b tb) : EX X (.BinOp a op b pos) Γ z Γh := pe_to (pe_op ho ha hb) fun σ H Q h => go_op h
theorem ex_opR {op : Operator} {r2 : R2} (ho : OpR X (binaryOp op) r2) (ha : EJ X a Γ m s) (hb : EX X b (out Γ m) z Γh) : EX X (.BinOp a op b pos) Γ z Γh := pe_to (pe_op ho ha hb) fun σ H Q ⟨G, os, F, hh, st, k⟩ => go_op ⟨G, os, F, hh, st, fun v G1 o1 os1 H1 sm1 h1 af1 p1 =>
  ⟨G1, os1, F, HH.drops (d := o1) h1, af1.st st sm1, fun cls d G' os' H' sm h' st' q => k cls d G' os' H' (sm1.trans sm) h' st' q⟩⟩
theorem ex_ix {r2 : R2} {tb : TE} (ho : IxR X r2) (ha : EX X a Γ z Γh) (hb : PE X b tb) (hs : PlainIx b) : EX X (.Subscript a b pos) Γ z Γh := pe_to (pe_ix ho ha hb hs) fun σ H Q h => go_op h
theorem ex_b {id : String} {rv : List V → Hp → VK → Prop} (cr : CallR X (.builtin id) rv) (hg : Gl X x) (hm : X.mg x = none) (hv : bootBuiltins x = some (.builtin id)) (ha : EX X e Γ z Γh) (hn : x ≠ "__name__" := by decide) (hdb : (x == ("__debug__" : Str)) = false := by decide)
    (he : starEach [e] X.env = (false, eval e X.env) :: starEach [] X.env := by rfl) (hpl : (backTo pos (starEach [] X.env)).any (·.1) = false := by rfl) : EX X (.Call (.Name x p) [e] [] pos) Γ z Γh :=
  pe_to (pe_callB cr hg hm hv (pa_cons ha pa_nil he) hn hdb he hpl) fun σ H Q h => go_tcb (go_cons h)
/-! ### defs that may raise, as their callers see them -/
abbrev Rz := (Sh × List (Nat × Sh)) ⊕ (Xh × List (Nat × Sh))
abbrev Phx := List Sh → Rz → Prop
def spX (n : Nat) (Υ : Phx) : Sp := fun vs H Q E => ∃ G ow F ss q, vs.length = n ∧ HH G (ow ++ F) H ∧ Shs ss G ow vs ∧ Υ ss q ∧ match q with
  | .inl (r, L) => ∀ v G' o ow' H', Same G G' → HH G' (o ++ (ow' ++ F)) H' → r.p G' o v → Lent L vs G' ow' → Q v H'
  | .inr (z, L) => ∀ cls d G' ow' H', Same G G' → HH G' (ow' ++ F) H' → z.p G' cls d → Lent L vs G' ow' → E cls d H'
variable {Υ : Phx}
theorem runSG {CX : CXT} {pins : List (Addr × Obj)} {σ : L2.St} {H : Hp} {s : Shared} {Q : VK} {us : List Value} {vs : List V} {sp : Sp} {E : XK} {f : Addr} {fd : FuncData} (F : FnG X.prog X.w X.K X.mg X.base CX k f fd ps sp) (hr : RoomG k X.A)
    (hb : Binds X.K fd ps []) (hx : PassesAt CX X σ E) (I : Inv X pins σ H s) (r : Vals vs us) (h : sp vs H Q E) : wpAny (model X.prog X.w) X.A (call (.ref f) us) (EP X pins σ Q) X.xe s := by
  have hl : us.length = ps.length := r.length ▸ F.len _ _ _ _ h
  have hbind := hb s us I.kIn (by rw [List.append_nil]; exact hl)
  rw [List.append_nil] at hbind
  refine wpAny_call (codeAny_mono (F.go X.A X.stack s H ⟨us, []⟩ us vs Q E hr I.env0 hbind r h) fun z t hq => ?_)
  match z, hq with
  | .ok (.ret u), hq => exact I.after hq
  | .ok .next, hq => exact hq.elim
  | .ok .brk, hq => exact hq.elim
  | .ok .cont, hq => exact hq.elim
  | .error d, hq => exact hx pins H s d t I hq
theorem pe_callSG {CX : CXT} {sp : Sp} {E : L2.St → XK} {t : TA} (c : CalG X.prog X.w X.K X.mg X.base CX k x ps sp) (hr : RoomG k X.A) (hg : Gl X x) (hx : ∀ σ, PassesAt CX X σ (E σ)) (ha : PA X (e :: es) t) (hdb : (x == ("__debug__" : Str)) = false := by decide)
    (he : starEach (e :: es) X.env = (false, eval e X.env) :: starEach es X.env := by rfl) (hpl : (backTo pos (starEach es X.env)).any (·.1) = false := by rfl) : PE X (.Call (.Name x p) (e :: es) [] pos) (tCallS sp E t) := by
  obtain ⟨f, fd, F, g, kp, b⟩ := c.ex
  constructor
  intro pins s σ H Q I h
  exact wpAny_Call_Name_kw (ld_glob I hg g (PySem.W.callWith_K (h₀ := X.base) I.ok.mod.kin kp (thn (ha.run pos pins s σ H _ I h) fun us s1 ⟨vs, H1, I1, r, q⟩ =>
    ⟨I1.kIn, runSG F hr b (hx σ) I1 r q⟩) he hpl) hdb)
theorem callX_er {σ : L2.St} {H : Hp} {Q : VK} {E : XK} {vs : List V} {G : Hp} {o os F : Ow} (hl : lshp as Γ = some (ss, Γ0)) (hΥ : Υ ss (.inr (z, L))) (hn : ss.length = n) (hh : HH G (o ++ (os ++ F)) H) (st : StA Γ σ G os) (ap : AsP as σ G o vs)
    (k : ∀ cls d G' os' H', Same G G' → HH G' (os' ++ F) H' → StA (lback as L Γ0) σ G' os' → z.p G' cls d → E cls d H') : spX n Υ vs H Q E := by
  obtain ⟨ow, rest, pm, q1, q2⟩ := lshp_run hl ap st
  refine ⟨G, ow, rest ++ F, ss, .inr (z, L), by rw [q1.len, hn], hh.perm ?_, q1, hΥ, fun cls d G' ow' H' sm h' pz lt => ?_⟩
  · rw [← List.append_assoc, ← List.append_assoc]
    exact List.Perm.append_right F pm
  · obtain ⟨dead, os', pm2, st'⟩ := lback_run ap lt (q2.mono sm)
    refine k cls d G' os' H' sm (HH.drops (d := dead) (h'.perm ?_)) st' pz
    rw [← List.append_assoc, ← List.append_assoc]
    exact List.Perm.append_right F pm2
theorem ejx_callP (C : CalG X.prog X.w X.K X.mg X.base (L2.CX X.prog X.w) k x ps (spX n Υ)) (hr : RoomG k X.A) (hg : Gl X x) (ha : AJ X (e :: es) Γ m (ss.map As.val)) (hΥ : Υ ss (.inl (r, []))) (hn : ss.length = n := by rfl) (hdb : (x == ("__debug__" : Str)) = false := by decide)
    (he : starEach (e :: es) X.env = (false, eval e X.env) :: starEach es X.env := by rfl) (hpl : (backTo pos (starEach es X.env)).any (·.1) = false := by rfl) : EJ X (.Call (.Name x p) (e :: es) [] pos) Γ m r :=
  pe_to (pe_callCG C hr hg passL ha hdb he hpl) fun σ H Q ⟨G, os, F, hh, st, k⟩ => go_call ⟨G, os, F, hh, st, fun vs G1 o1 os1 H1 sm1 h1 af1 ap1 =>
    ⟨G1, o1, os1 ++ F, ss, .inl (r, []), by rw [(asp_vals ap1).len, hn], h1, asp_vals ap1, hΥ, fun v G' o' ow' H' sm h' pr (lt : ow' = []) => k v G' o' os1 H' (sm1.trans sm) (by subst lt; exact h') (af1.mono sm) pr⟩⟩
theorem ex_call (C : CalG X.prog X.w X.K X.mg X.base (L2.CX X.prog X.w) k x ps (spX n Υ)) (hr : RoomG k X.A) (hg : Gl X x) (ha : AJ X (e :: es) Γ m as) (hl : lshp as (out Γ m) = some (ss, Γ0)) (hΥ : Υ ss (.inr (z, L))) (hn : ss.length = n := by rfl) (hdb : (x == ("__debug__" : Str)) = false := by decide)
    (he : starEach (e :: es) X.env = (false, eval e X.env) :: starEach es X.env := by rfl) (hpl : (backTo pos (starEach es X.env)).any (·.1) = false := by rfl) : EX X (.Call (.Name x p) (e :: es) [] pos) Γ z (lback as L Γ0) :=
  pe_to (pe_callSG (E := WE (WkX X)) C hr hg (fun σ => passAt takes_wk σ) ha hdb he hpl) fun σ H Q ⟨G, os, F, hh, st, k⟩ => ⟨G, os, F, hh, st, fun vs G1 o1 os1 H1 sm1 h1 af1 ap1 =>
    callX_er hl hΥ hn h1 (af1.st st sm1) ap1 fun cls d G' os' H' sm h' st' pz => k cls d G' os' H' (sm1.trans sm) h' st' pz⟩
/-! ### for, while, if whose blocks may raise -/
end
end Sl

set_option Elab.async false
set_option linter.all false
set_option maxRecDepth 100000
set_option maxHeartbeats 4000000
namespace Sl
open PySem PySem.Spec PyProof.Rows L2 Dl
/-! ### loops and ifs whose blocks may raise -/
section
variable {X : Cx} {P : Pn} {Γ Γ' Γ0 Γh Γ1 Γ2 Γm : Ct} {m m1 m2 : Option Ct} {α β γ δ κ ρ ε S : Type} {τ τ1 : Ty α} {τ2 : Ty β} {τ3 : Ty γ} {s s1 s2 : Sh} {pos p : Pos} {a b e tg : Expr} {es : List Expr} {us vs : List Nat} {st : Stmt} {rest thn els body : List Stmt} {R R' : Po} {rs : ρ → Sh} {ls : ρ → List Sh} {xs : ε → Xh} {xl : ε → List Sh} {y : ρ}
theorem sj_forY {items : List β} {sh : β → Sh} {f : S → β → Option (Oc (Rs ε ρ) S)} {s0 : S} {o : Oc (Rs ε ρ) S} {Γs : S → Ct} {Γy : S → β → Ct} {fl : List Bool} (h : foldX f s0 items = some o) (hi : IJ X tg e Γ m items sh) (hl : fl.length = (out Γ m).length) (h0 : mask fl (out Γ m) = Γs s0)
    (hg : ∀ s y, GJ X tg vs (Γs s) (Γy s y) (sh y)) (hb : ∀ s y o', y ∈ items → f s y = some o' → SJ X P body (Γy s y) (PoY rs ls xs xl P Γs o'))
    (hn : ∀ s1, o = .nx s1 → SJ X P rest (Γs s1) R) (hr : ∀ r, o = .ret (.ok r) → ∀ v G ow, rtO (rs r) (ls r) P v G ow → R.rt v G ow) (hx : ∀ e, o = .ret (.er e) → ∀ cls d σ G os, xrO (xs e) (xl e) P cls d G os → R.xr cls d σ G os) (hp : PassesOwn (model X.prog X.w) X.A X.env X.xe) (hc : X.calm = true) (d : (P.all fun p => decide (p.1 ∉ vs)) = true := by rfl)
    (hs : ∀ x, foldedSetIterable e X.env x = pure x := by intro _; rfl) : SJ X P (.For tg e body [] pos :: rest) Γ R := by
  have hg' : PG X tg (fun v σ H Q => ∃ t, (∃ s y, t = tG vs (Γs s) (Γy s y) (sh y)) ∧ t v σ H Q) := pg_ex fun t ⟨s, y, e⟩ => by subst e; exact hg s y
  have hb' : PSs X body (fun D σ H => ∃ t, (∃ s y o', y ∈ items ∧ f s y = some o' ∧ t = tS X P (Γy s y) (PoY rs ls xs xl P Γs o')) ∧ t D σ H) := pss_ex fun t ⟨s, y, o', hm, hf, e⟩ => by subst e; exact hb s y o' hm hf
  have hrest : PSs X rest (fun D σ H => ∃ t, (∃ s1, o = .nx s1 ∧ t = tS X P (Γs s1) R) ∧ t D σ H) := pss_ex fun t ⟨s1, e1, e⟩ => by subst e; exact hn s1 e1
  refine pss_to (pss_cons (ps_for hp hc hi hg' hb' hs) hrest) fun D σ H ⟨G, os, F, hh, st, pn, k1, k2, k3⟩ => go_seq (go_for ⟨G, os, F, hh, st, fun J G1 os1 H1 sm1 h1 af wk => ?_⟩)
  obtain ⟨os1, h1, st1⟩ := HH.masked h1 (af.st st sm1) hl
  rw [h0] at st1
  refine ⟨fun i mm σ H => mm = items.length - i ∧ i ≤ items.length ∧ ∃ s G' os', Same G1 G' ∧ HH G' (os' ++ F) H ∧ StA (Γs s) σ G' os' ∧ PinA P σ ∧ foldX f s (items.drop i) = some o, ⟨_, rfl, Nat.zero_le _, s0, G1, os1, Same.refl _, h1, st1, pn, h⟩, ?_⟩
  rintro i mm σ2 H2 ⟨rfl, hle, s2, G2, os2, sm2, h2, st2, pn2, hf⟩
  obtain ⟨ws, wi⟩ := wk G2 _ H2 sm2 h2
  by_cases hlt : i < items.length
  · obtain ⟨y, hy, hd⟩ := drop_get hlt
    rw [hd] at hf
    obtain ⟨o', ho', hf'⟩ := Option.bind_eq_some_iff.mp (show (f s2 y).bind _ = some o from hf)
    obtain ⟨go, yl⟩ := wi i y hy
    refine .inr ⟨go, fun σ' H' => ∃ s' G' os', Same G1 G' ∧ HH G' (os' ++ F) H' ∧ StA (Γs s') σ' G' os' ∧ PinA P σ' ∧ foldX f s' (items.drop (i + 1)) = some o, fun σ' H' ⟨s', G', os', a1, a2, a3, a4, a5⟩ => ⟨items.length - (i + 1), by omega, rfl, hlt, s', G', os', a1, a2, a3, a4, a5⟩, fun x H3 y3 => ?_⟩
    obtain ⟨G3, sm3, h3, py⟩ := yl x H3 y3
    refine ⟨_, ⟨s2, y, rfl⟩, G3, [], os2, F, h3, st2.mono sm3, py, fun σ4 os4 w4 h4 st4 => ?_⟩
    have pn4 : PinA P σ4 := pn2.wipe w4 d
    have nxt : ∀ σ' G' os' H', Same G3 G' → HH G' (os' ++ F) H' → PinA P σ' → (PoY rs ls xs xl P Γs o').nx σ' G' os' → ∃ s' G' os', Same G1 G' ∧ HH G' (os' ++ F) H' ∧ StA (Γs s') σ' G' os' ∧ PinA P σ' ∧ foldX f s' (items.drop (i + 1)) = some o := fun σ' G' os' H' sm' h' pn' ⟨s', e', st'⟩ => by
      subst e'
      exact ⟨s', G', os', (sm2.trans sm3).trans sm', h', st', pn', hf'⟩
    refine ⟨_, ⟨s2, y, o', List.mem_of_getElem? hy, ho', rfl⟩, G3, os4, F, h4, st4, pn4, nxt, fun v G' ow H' sm' h' ⟨r, e', q⟩ => ?_, fun σ' G' os' H' sm' h' pn' => ⟨fun h => h.elim, fun cls d ⟨r, e', q⟩ => ?_⟩⟩
    · subst e'
      have eo : o = .ret (.ok r) := (Option.some.inj hf').symm
      exact k2 v G' ow H' (sm1.trans ((sm2.trans sm3).trans sm')) h' (hr r eo v G' ow q)
    · subst e'
      have eo : o = .ret (.er r) := (Option.some.inj hf').symm
      exact (k3 σ' G' os' H' (sm1.trans ((sm2.trans sm3).trans sm')) h' pn').2 cls d (hx r eo cls d σ' G' os' q)
  · have e : i = items.length := by omega
    subst e
    rw [List.drop_length] at hf
    have eo : o = .nx s2 := (Option.some.inj hf).symm
    have smA := sm1.trans sm2
    exact .inl ⟨ws, _, ⟨s2, eo, rfl⟩, G2, os2, F, h2, st2, pn2, fun σ3 G3 os3 H3 sm3 => k1 σ3 G3 os3 H3 (smA.trans sm3), fun v G3 o H3 sm3 => k2 v G3 o H3 (smA.trans sm3), fun σ3 G3 os3 H3 sm3 => k3 σ3 G3 os3 H3 (smA.trans sm3)⟩
/-! ### try -/
def tW (W : L2.WX) (P : Pn) (Γ : Ct) (R : Po) : TS := fun D σ H => ∃ G os F, HH G (os ++ F) H ∧ StA Γ σ G os ∧ PinA P σ ∧
  (∀ σ' G' os' H', Same G G' → HH G' (os' ++ F) H' → PinA P σ' → R.nx σ' G' os' → D.nx σ' H') ∧
  (∀ v G' o H', Same G G' → HH G' (o ++ F) H' → R.rt v G' o → D.rt v H') ∧
  (∀ σ' G' os' H', Same G G' → HH G' (os' ++ F) H' → PinA P σ' → (R.ct σ' G' os' → D.ct σ' H') ∧ ∀ cls d, R.xr cls d σ' G' os' → W cls d σ' H')
theorem tw_of {W : L2.WX} {st : List Stmt} (tk : L2.Takes X W) (h : SJ X P st Γ R) : PSs X st (tW W P Γ R) := pss_to h fun D σ H ⟨G, os, F, hh, st, pn, k1, k2, k3⟩ => ⟨G, os, F, hh, st, pn, k1, k2, fun σ' G' os' H' sm h' pn' => ⟨(k3 σ' G' os' H' sm h' pn').1, fun cls d q => wk_of tk ((k3 σ' G' os' H' sm h' pn').2 cls d q)⟩⟩
/-- what ends as R, but raises nothing -/
abbrev Po.tr (R : Po) (Γm : Ct) : Po := { nx := fun σ G os => StA Γm σ G os, rt := R.rt, ct := R.ct }
/-- what raises only -/
abbrev PoR (z : Xh) (Γh : Ct) : Po := { nx := fun _ _ _ => False, rt := fun _ _ _ => False, ct := fun _ _ _ => False, xr := fun cls d σ G os => StA Γh σ G os ∧ z.p G cls d }
def shE (a : Addr) (cls : Value) (d : Option Addr) (z : Xh) : Sh := ⟨fun G o v => o = [] ∧ v = .ref a ∧ z.p G cls d, fun sm ⟨e1, e2, h⟩ => ⟨e1, e2, z.mono sm h⟩, fun h c hc => by rw [h.1] at hc; cases hc⟩
variable {x n : Str} {c : Value} {np pos' : Pos} {suite : List Stmt} {b₀ : Stmt} {z : Xh} {i : Nat}
theorem sj_try_okN (hs : X.stack = X.env :: X.outer) (hf : X.env.frame = some X.env.locals) (hN : X.N.Nodup) (hi : X.N[i]? = some n) (hln : X.env.kindOf n = some .local) (hc : Names X x c) (hb : ∀ (pn : List (Addr × Obj)) (xe : Value → Shared → Prop), PassesOwn (model X.prog X.w) X.A X.env xe → SJ (X.tr pn xe) P body Γ (R.tr Γm)) (hr : SJ X P rest Γm R) :
    SJ X P (.Try body [.ExceptHandler (some (.Name x np)) (some n) (b₀ :: suite) pos'] [] [] pos :: rest) Γ R :=
  pss_to (pss_cons (ps_try_as (tb := fun W => tW W P Γ (R.tr Γm)) (ts := fun _ _ _ => fun _ _ _ => False) hs hf hN hi hln hc takes0 (fun W pn xe tk hp => tw_of tk (hb pn xe hp)) fun a oe cls d pn hz hf => pss_never) hr)
    fun D σ H ⟨G, os, F, hh, st, pn, k1, k2, k3⟩ => go_seq ⟨G, os, F, hh, st, pn, fun σ' G' os' H' sm h' pn' st' => ⟨G', os', F, h', st', pn', fun σ3 G3 os3 H3 sm3 => k1 σ3 G3 os3 H3 (sm.trans sm3), fun v G3 o H3 sm3 => k2 v G3 o H3 (sm.trans sm3), fun σ3 G3 os3 H3 sm3 => k3 σ3 G3 os3 H3 (sm.trans sm3)⟩, k2, fun σ' G' os' H' sm h' pn' => ⟨(k3 σ' G' os' H' sm h' pn').1, fun _ _ q => q.elim⟩⟩
theorem pin_none {σ : L2.St} {v : Option V} (h : PinA P σ) (d : (P.all fun p => decide (p.1 ∉ [i])) = true) : PinA P (σ.set i v) := fun p hp => by
  have := of_decide_eq_true (List.all_eq_true.mp d p hp)
  rw [List.getElem?_set_ne fun e => this (by rw [e]; exact List.mem_singleton.mpr rfl)]
  exact h p hp
theorem sj_try_erN (hs : X.stack = X.env :: X.outer) (hf : X.env.frame = some X.env.locals) (hN : X.N.Nodup) (hi : X.N[i]? = some n) (hln : X.env.kindOf n = some .local) (hc : Names X x c) (hm : ∀ G cls d, z.p G cls d → PySem.W.exmOne X.K cls c = some true) (hb : ∀ (pn : List (Addr × Obj)) (xe : Value → Shared → Prop), PassesOwn (model X.prog X.w) X.A X.env xe → SJ (X.tr pn xe) P body Γ (PoR z Γh))
    (hsu : ∀ (a : Addr) (oe : Obj) (cls : Value) (d : Option Addr) (pn : List (Addr × Obj)), Zc cls d oe → (∃ vs, oe.data = .fields vs) → SJ (X.suite a ((a, oe) :: pn)) P (b₀ :: suite) (Γh.set i (some (shE a cls d z))) (R.tr Γm)) (hr : SJ X P rest (Γm.set i none) R)
    (hct : ∀ σ G os, ¬ R.ct σ G os) (hz : ZeroAt Γh i) (hzm : ZeroAt Γm i) (hli : (decide (i < Γh.length)) = true := by rfl) (hd : (P.all fun p => decide (p.1 ∉ [i])) = true := by rfl) :
    SJ X P (.Try body [.ExceptHandler (some (.Name x np)) (some n) (b₀ :: suite) pos'] [] [] pos :: rest) Γ R :=
  pss_to (pss_cons (ps_try_as (tb := fun W => tW W P Γ (PoR z Γh)) (ts := fun a cls d => tW (fun _ _ _ _ => False) P (Γh.set i (some (shE a cls d z))) (R.tr Γm)) hs hf hN hi hln hc takes0 (fun W pn xe tk hp => tw_of tk (hb pn xe hp)) fun a oe cls d pn hz hf => tw_of takes0 (hsu a oe cls d pn hz hf)) hr)
    fun D σ H ⟨G, os, F, hh, st, pn, k1, k2, k3⟩ => go_seq ⟨G, os, F, hh, st, pn, fun _ _ _ _ _ _ _ q => q.elim, fun _ _ _ _ _ _ q => q.elim, fun σ' G' os' H' sm h' pn' => ⟨fun q => q.elim, fun cls d ⟨st', pz⟩ => ⟨true, hm G' cls d pz, fun _ a na =>
      ⟨G', os', F, h', StA.set0 (s := shE a cls d z) ⟨rfl, rfl, pz⟩ st' hz (of_decide_eq_true hli), pin_none pn' hd, fun σ2 G2 os2 H2 sm2 h2 pn2 st2 => ⟨G2, os2, F, h2, StA.none1 st2 hzm, pin_none pn2 hd, fun σ3 G3 os3 H3 sm3 => k1 σ3 G3 os3 H3 ((sm.trans sm2).trans sm3), fun v G3 o H3 sm3 => k2 v G3 o H3 ((sm.trans sm2).trans sm3), fun σ3 G3 os3 H3 sm3 => k3 σ3 G3 os3 H3 ((sm.trans sm2).trans sm3)⟩,
        fun v G2 o H2 sm2 => k2 v G2 o H2 (sm.trans sm2), fun σ2 G2 os2 H2 sm2 h2 pn2 => ⟨fun q => (hct _ _ _ q).elim, fun _ _ q => q.elim⟩⟩, fun q => nomatch q⟩⟩⟩
/-- e.f of what was caught -/
theorem hh_xd {G H : Hp} {os : Ow} {a : Addr} {xs : List (Str × V)} (h : HH G os H) (e : G a = some (.xd xs)) : H a = some (.xd xs) := by
  rcases h.sub a _ e with q | ⟨k, _⟩
  · exact q
  · cases k
theorem ej_xfld {f : Str} {C a : Addr} {oe : Obj} {cls : Value} {d : Option Addr} {pn : List (Addr × Obj)} {fs : List (Str × V)} {v : V} {y : α} (T : XfC X.K C) (hno : PySem.W.findIn X.K (.ref C) f = some none) (hz : Zc cls d oe) (hf : ∃ vs, oe.data = .fields vs)
    (hN : X.N[i]? = some n) (hv : Vis X.env.scope n) (hi : Γ[i]? = some (some (shE a cls d (xEr C fs)))) (hl : fs.lookup f = some v) (hy : ∀ G, τ.rep G v y) (hd : (n == ("__debug__" : Str)) = false := by decide) (hcd : (n == ("__classdict__" : Str)) = false := by decide)
    (hb : attributeBase (.Name n np) f X.env (eval (.Name n np) X.env) = eval (.Name n np) X.env := by rfl) : EJ (X.suite a ((a, oe) :: pn)) (.Attribute (.Name n np) f pos) Γ none (fz τ y) :=
  pe_to (pe_xf T hno hz hf (pe_var (X := X.suite a ((a, oe) :: pn)) (i := i) hN hv hd hcd) hb) fun σ H Q ⟨G, os, F, hh, st, k⟩ => by
    obtain ⟨w, o, ro, a1, ⟨e1, e2, e3, e4⟩, a3, a4, a5⟩ := st.take hi
    subst e1 e2
    rcases e4 with e4 | ⟨dd, xs, e4, e5, e6⟩
    · rw [e4.1] at hl
      cases hl
    · exact ⟨.ref a, a1, rfl, e3, dd, xs, v, e4, hh_xd hh e5, e6 f v hl, k v G [] os H (Same.refl _) hh rfl ⟨rfl, hy G⟩⟩
end
end Sl

set_option Elab.async false
set_option linter.all false
set_option maxRecDepth 100000
set_option maxHeartbeats 4000000
namespace Sl
open PySem PySem.Spec PyProof.Rows L2 Dl
/-! ### exceptions that are made -/
section
variable {X : Cx} {e : Expr} {es : List Expr} {ta : TA} {p pos : Pos}
def tMk0 (C : Addr) (sp : Sp) : L2.St → Hp → XK → Prop := fun σ H Q => ∀ a, H a = none → sp [.ref a] (upd H a (exo a C none)) (fun v H2 => v = .non ∧ H2 a = some (exo a C none) ∧ Q (.ref C) none (del H2 a)) (fun _ _ _ => False)
end
/-- what the fields may be -/
def Sc (v : V) : Prop := (∃ i : Int, v = .int i ∧ i.natAbs < 10 ^ 9) ∨ ∃ s : Str, v = .str s ∧ s.length ≤ 1000
/-- the promise of an own exception's __init__ -/
def spE (C : Addr) : List Str → Sp
  | [] => fun vs H Q _ => ∃ a, vs = [.ref a] ∧ H a = some (exo a C none) ∧ Q .non H
  | [f] => fun vs H Q _ => ∃ a v, vs = [.ref a, v] ∧ Sc v ∧ H a = some (exo a C none) ∧ ∀ d, H d = none → d ≠ a → Q .non (upd (upd H d (exd d [(f, v)])) a (exo a C (some d)))
  | [f, g] => fun vs H Q _ => ∃ a v w, vs = [.ref a, v, w] ∧ Sc v ∧ Sc w ∧ H a = some (exo a C none) ∧ ∀ d, H d = none → d ≠ a → Q .non (upd (upd (upd H d (exd d [(f, v)])) a (exo a C (some d))) d (exd d [(g, w), (f, v)]))
  | _ => fun _ _ _ _ => False
structure ExMk (P : Program) (w : World) (K : PySem.W.Frag) (mg : Str → Option Value) (base : Heap) (x : Str) (C : Addr) (flds : List Str) : Prop where
  gC : mg x = some (.ref C)
  T : OexC K C
  ini : ∃ fI fd, PySem.W.findIn K (.ref C) "__init__" = some (some (.ref fI)) ∧ PySem.W.typeIn K (.ref fI) = some (.type "function") ∧ FnOk P w K mg base CX0 1 fI fd ("self" :: flds) (spE C flds) ∧ Binds K fd ("self" :: flds) []
section
variable {X : Cx} {P : Pn} {Γ Γh Γm : Ct} {m m1 m2 : Option Ct} {e e2 : Expr} {es : List Expr} {p pos : Pos} {z : Xh} {rest : List Stmt} {R : Po} {x f g : Str} {C : Addr} {cs : Str → Addr}
def tM (Γ : Ct) (z : Xh) : L2.St → Hp → XK → Prop := fun σ H Q => ∃ G os F, HH G (os ++ F) H ∧ StA Γ σ G os ∧ ∀ cls d G' H', Same G G' → HH G' (os ++ F) H' → z.p G' cls d → Q cls d H'
abbrev MJ (X : Cx) (e : Expr) (Γ : Ct) (z : Xh) : Prop := PMk X e (tM Γ z)
theorem sj_raise (hc : X.calm = true) (hm : MJ X e Γ z) (hx : ∀ cls d σ G os, StA Γ σ G os → PinA P σ → z.p G cls d → R.xr cls d σ G os) : SJ X P (.Raise (some e) none pos :: rest) Γ R :=
  pss_to (pss_cons (ps_raise hc takes_wk hm) pss_never) fun D σ H ⟨G, os, F, hh, st, pn, k1, k2, k3⟩ => go_seq ⟨G, os, F, hh, st, fun cls d G' H' sm h' q => (k3 σ G' os H' sm h' pn).2 cls d (hx cls d σ G' os (st.mono sm) pn q)⟩
theorem pmk_to {e : Expr} {t t' : L2.St → Hp → XK → Prop} (h : PMk X e t) (w : ∀ σ H Q, t' σ H Q → t σ H Q) : PMk X e t' := fun pins s σ H Q I q => h pins s σ H Q I (w σ H Q q)
theorem fin_1 {H : Hp} {a d : Addr} {C : Addr} {fs : List (Str × V)} (ha : H a = none) (hd : H d = none) (ne : d ≠ a) {o1 : HO} : upd (del (upd (upd (upd H a (exo a C none)) d o1) a (exo a C (some d))) a) d (.xd fs) = upd H d (.xd fs) := by
  funext b
  by_cases h1 : b = d
  · rw [h1, upd_same, upd_same]
  · rw [upd_ne h1, upd_ne h1]
    by_cases h2 : b = a
    · rw [h2, del_same, ha]
    · rw [del_ne h2, upd_ne h2, upd_ne h1, upd_ne h2]
theorem mj_1 {α : Type} {τ : Ty α} {y : α} {v : Int ⊕ Str} (M : ExMk X.prog X.w X.K X.mg X.base x (cs x) [f]) (hr : RoomG 2 X.A) (hg : Gl X x) (he : EJ X e Γ none (fz τ y)) (hy : ∀ G u, τ.rep G u y → u = eV v) (hs : Sc (eV v)) (hdb : (x == ("__debug__" : Str)) = false := by decide)
    (hst : starEach [e] X.env = (false, eval e X.env) :: starEach [] X.env := by rfl) (hpl : (backTo pos (starEach [] X.env)).any (·.1) = false := by rfl) : MJ X (.Call (.Name x p) [e] [] pos) Γ (erx cs (x, [(f, v)])) := by
  obtain ⟨fI, fd, i1, i2, F1, b⟩ := M.ini
  refine pmk_to (pmk_oex (dvs := []) M.T i1 i2 F1 hr.room b .nil pass0 hg M.gC (pa_cons he pa_nil hst) hdb hst hpl) fun σ H Q ⟨G, os, F, hh, st, k⟩ => go_cons (tT.one ⟨G, os, F, hh, st, fun u G' os' H' sm h' (af : os' = os) ru => go_nil ?_⟩)
  subst af
  have eu := hy G' u ru
  subst eu
  refine ⟨by show 1 ≤ 1000; decide, fun a na => ⟨a, eV v, rfl, hs, upd_same, fun d nd ne => ⟨rfl, d, [(f, eV v)], upd_same, ?_, ?_, ?_⟩⟩⟩
  · rw [upd_ne ne, upd_same]
  · rwa [upd_ne ne] at nd
  · have hd : H' d = none := by rwa [upd_ne ne] at nd
    rw [fin_1 na hd ne]
    exact k _ _ (upd G' d (.xd [(f, eV v)])) _ (sm.trans (h'.sameG hd)) (h'.alloc hd) ⟨rfl, .inr ⟨d, _, rfl, upd_same, fun _ _ q => q⟩⟩
end
/-! ### defs that may raise -/
section
variable {Pg : Program} {w : World} {K : PySem.W.Frag} {mg : Str → Option Value} {base : Heap}
theorem Fun.okGX {x q : Str} {st : Stmt} {f : Addr} {fd : FuncData} {N ps : List Str} {k : Nat} {sp : Sp} (D : Fun K x q st f fd) (S : FnScope N ps (defScope st)) (len : ∀ vs H Q E, sp vs H Q E → vs.length = ps.length)
    (body : ∀ (cdv : Value) (A : Around) (outer : List Env) (s : Shared) (H : Hp) (vs : List V) (Q : VK) (E : XK), RoomG k (A.deeper (envOfC q (defScope st) s.heap.objs.size f cdv)) → sp vs H Q E →
      ∃ t, PSs (cxOf (L2.CX Pg w) Pg w K mg base N q (defScope st) f cdv A outer s H E) (defBody st) t ∧ t { nx := fun _ H' => Q .non H', rt := Q } (start N vs) H) : FnG Pg w K mg base (L2.CX Pg w) (k + 1) f fd ps sp := by
  obtain ⟨oc, od, kV, doc, pm, an, cdv, ct, osl, rfl, lk, hcd⟩ := D.ex
  refine ⟨len, fun A outer s H args us vs Q E hr e0 hb r hsp => ?_⟩
  have inK : K.In s.heap := e0.mod.kin.keeps fun b o z => (e0.bs b o z).1
  have lim : s.heap.NoLimit := e0.mod.nolimit.keeps fun b o z => (e0.bs b o z).1
  refine codeAny_call_function hr.room.depth (inK _ _ lk) rfl S.co S.gen rfl (PySem.W.codeRec_of inK hcd) (hb _ _ _ _ (wpAny_newFunctionEnv_cells S.kind (fun ⟨n, v⟩ hy => ?_) fun env he s1 y => ?_))
  · rcases S.par n (List.of_mem_zip hy).1 with z | z
    · exact .inl z
    · exact .inr ⟨z, PySem.W.cellsFrom_some _ _ _ (.inl z)⟩
  subst he
  obtain ⟨t, ht, hq⟩ := body cdv A outer s H vs Q E (hr.deeper _) hsp
  refine ⟨lim.keeps y.toInCall.keep, codeAny_func (wpAny_mono (ht.run [] s1 (start N vs) H _ (inv_start S hr.room.hd e0 (len _ _ _ _ hsp) r y) hq) (fun fl s' hs => ?_) fun _ _ z => z)⟩
  match fl, hs with
  | .ret u, ⟨v, σ', H', J, rv, z⟩ => exact ⟨v, H', J.os, J.bare, J.base, J.hok, rv, z⟩
  | .next, ⟨σ', H', J, z⟩ => exact ⟨.non, H', J.os, J.bare, J.base, J.hok, rfl, z⟩
  | .brk, ⟨_, _, _, z⟩ => exact z.elim
  | .cont, ⟨_, _, _, z⟩ => exact z.elim
theorem Fun.okX {x q : Str} {st : Stmt} {f0 : Addr} {fd : FuncData} {N ps : List Str} {k n : Nat} {Υ : Phx} (D : Fun K x q st f0 fd) (S : FnScope N ps (defScope st)) (hn : n = ps.length) (hN : n ≤ N.length)
    (hbody : ∀ (s : Shared) (H : Hp) (A : Around) (outer : List Env) (cdv : Value) (E : XK) (ss : List Sh) (z : Rz) (vs : List V),
      RoomG k (A.deeper (envOfC q (defScope st) s.heap.objs.size f0 cdv)) → vs.length = n → Υ ss z →
      PassesOwn (model Pg w) (A.deeper (envOfC q (defScope st) s.heap.objs.size f0 cdv)) (envOfC q (defScope st) s.heap.objs.size f0 cdv) (cxOf (L2.CX Pg w) Pg w K mg base N q (defScope st) f0 cdv A outer s H E).xe →
      ∃ (ε ρ : Type) (rs : ρ → Sh) (ls : ρ → List Sh) (xs : ε → Xh) (xl : ε → List Sh) (o : Rs ε ρ) (P : Pn), (match o, z with
          | .ok y, .inl (r, L) => rs y = r ∧ ls y = L.map Prod.snd ∧ P.map Prod.fst = L.map Prod.fst
          | .er e, .inr (t, L) => xs e = t ∧ xl e = L.map Prod.snd ∧ P.map Prod.fst = L.map Prod.fst
          | _, _ => False) ∧ (∀ p ∈ P, vs[p.1]? = some p.2) ∧
        SJ (cxOf (L2.CX Pg w) Pg w K mg base N q (defScope st) f0 cdv A outer s H E) P (defBody st) (ss.map some ++ List.replicate (N.length - n) none) (PoX rs ls xs xl P o)) : FnG Pg w K mg base (L2.CX Pg w) (k + 1) f0 fd ps (spX n Υ) := by
  refine Fun.okGX D S (fun vs H Q E h => ?_) fun cdv A outer s H vs Q E hr h => ?_
  · obtain ⟨_, _, _, _, _, e, _⟩ := h
    rw [e, hn]
  · obtain ⟨G, ow, F, ss, z, e, hh, hs, hΥ, k⟩ := h
    obtain ⟨ε, ρ, rs, ls, xs, xl, o, P, ho, hP, hb⟩ := hbody s H A outer cdv E ss z vs hr e hΥ (passes_of (X := cxOf (L2.CX Pg w) Pg w K mg base N q (defScope st) f0 cdv A outer s H E) rfl)
    have h1 : StA (ss.map some ++ List.replicate (N.length - n) none) (start N vs) G ow := by
      have := StA.start (n := N.length - n) hs
      unfold L2.start
      rw [e]
      exact this
    have h2 : PinA P (start N vs) := fun p hp => by
      have h1 := hP p hp
      unfold L2.start
      have hl : p.1 < vs.length := (List.getElem?_eq_some_iff.mp h1).1
      rw [List.getElem?_append_left (by simpa using hl), List.getElem?_map, h1]
      rfl
    refine ⟨_, hb, G, ow, F, hh, h1, h2, ?_⟩
    match o, z, ho with
    | .ok y, .inl (r, L), ⟨er, el, hPL⟩ =>
      have fin : ∀ (v : V) (G' : Hp) (o1 o2 : Ow) (H' : Hp), Same G G' → HH G' (o1 ++ o2 ++ F) H' → (rs y).p G' o1 v → Shs (ls y) G' o2 (P.map Prod.snd) → Q v H' := fun v G' o1 o2 H' sm h' p1 p2 => by
        rw [el] at p2
        rw [er] at p1
        exact k v G' o1 o2 H' sm (by rw [← List.append_assoc]; exact h') p1 (lent_of hPL hP p2)
      refine ⟨fun σ' G' os' H' sm h' pn ⟨y', ey, dead, o, pm, o1, o2, eo, p1, p2⟩ => ?_, fun v G' o H' sm h' ⟨y', ey, o1, o2, eo, p1, p2⟩ => ?_, fun _ _ _ _ _ _ _ => ⟨fun z => z.elim, fun _ _ ⟨e', q, _⟩ => nomatch q⟩⟩
      · cases ey
        subst eo
        exact fin .non G' o1 o2 H' sm (HH.drops (d := dead) (h'.perm (by rw [← List.append_assoc]; exact List.Perm.append_right F pm))) p1 p2
      · cases ey
        subst eo
        exact fin v G' o1 o2 H' sm h' p1 p2
    | .er y, .inr (t, L), ⟨er, el, hPL⟩ =>
      refine ⟨fun σ' G' os' H' sm h' pn ⟨y', ey, _⟩ => (nomatch ey), fun v G' o H' sm h' ⟨y', ey, _⟩ => (nomatch ey), fun σ' G' os' H' sm h' pn => ⟨fun z => z.elim, fun cls d ⟨e', q, dead, o, pm, p1, p2⟩ => ?_⟩⟩
      cases q
      rw [el] at p2
      rw [er] at p1
      refine wk_of (takes_of (X := cxOf (L2.CX Pg w) Pg w K mg base N _ (defScope st) f0 cdv A outer s H E) (E := E) rfl rfl rfl rfl) (k cls d G' o H' sm (HH.drops (d := dead) (h'.perm (by rw [← List.append_assoc]; exact List.Perm.append_right F pm))) p1 (lent_of hPL hP p2))
end
end Sl

set_option Elab.async false
set_option linter.all false
set_option maxRecDepth 100000
set_option maxHeartbeats 4000000
namespace Sl
open PySem PySem.Spec PyProof.Rows L2 Dl
/-! ### what never is -/
def shF : Sh := ⟨fun _ _ _ => False, fun _ h => h, fun h => h.elim⟩
theorem sj_nev {X : Cx} {P : Pn} {Γ : Ct} {st : List Stmt} {R : Po} : SJ X P st (some shF :: Γ) R := pss_to pss_never fun D σ H ⟨G, os, F, hh, stt, _⟩ => by
  cases σ with
  | nil => exact stt.elim
  | cons x σ =>
    obtain ⟨v, o1, o2, e1, e2, p, h⟩ := stt
    exact p.elim
theorem pe_none {X : Cx} {e : Expr} : PE X e (fun _ _ _ => False) := ⟨fun pins s σ H Q I h => h.elim⟩
/-! ### what an exception tells -/
/-- the classes of the errors by their names: which is one of which -/
def isX (c t : Str) : Bool := decide (t = "MovedyearsError") || decide (c = t)
def erI (e : Er) (f : Str) : Option Int := (e.2.lookup f).bind fun w => match w with
  | .inl i => some i
  | .inr _ => none
def erS (e : Er) (f : Str) : Option Str := (e.2.lookup f).bind fun w => match w with
  | .inl _ => none
  | .inr s => some s
theorem er_map {f : Str} : ∀ {l : List (Str × (Int ⊕ Str))} {w : Int ⊕ Str}, l.lookup f = some w → (l.map fun p => (p.1, eV p.2)).lookup f = some (eV w)
  | p :: l, w, h => by
    rw [List.lookup_cons] at h
    rw [List.map_cons, List.lookup_cons]
    cases q : f == p.1 with
    | true =>
      rw [q] at h
      cases h
      rfl
    | false =>
      rw [q] at h
      exact er_map h
theorem erS_lk {e : Er} {f : Str} {i : Str} (h : erS e f = some i) : (e.2.map fun p => (p.1, eV p.2)).lookup f = some (.str i) := by
  obtain ⟨w, h1, h2⟩ := Option.bind_eq_some_iff.mp (show (e.2.lookup f).bind _ = some i from h)
  cases w with
  | inl j => cases h2
  | inr s => cases h2; exact er_map h1
/-- what a class must say, so that isinstance asks its instances rightly -/
structure ExI (K : PySem.W.Frag) (C : Addr) : Prop where
  cl : (PySem.W.clsIn K C).isSome = true
  ga : PySem.W.findIn K (.ref C) "__getattribute__" = some (some (.builtin "BaseException.__getattribute__"))
  gt : PySem.W.findIn K (.ref C) "__getattr__" = some none
  hs : PySem.W.subIn K (.ref C) (.type "BaseException") = some true
  ha : PySem.W.findIn K (.ref C) "__class__" = some (some (.builtin "object.__class__"))
  hn : PySem.W.specialIn K (.builtin "object.__class__") "__get__" = some (some (.builtin "getset_descriptor.__get__"))
  ht : PySem.W.takesIn K (.builtin "object.__class__") = some true
  hm : PySem.W.mroIn K C (.type "object") = some true
def rIsX (K : PySem.W.Frag) (C a : Addr) (cls : Value) (d : Option Addr) : List V → Hp → VK → Prop := fun xs H Q => ∃ (c : V) (cv : Value) (b : Bool), xs = [.ref a, c] ∧ (∀ u, RelV c u → u = cv) ∧ cls = .ref C ∧ PySem.W.kitOne K (.ref C) cv = some b ∧ (d = none ∨ ∃ dd fs, d = some dd ∧ H dd = some (.xd fs)) ∧ Q (.bl b) H
theorem call_isX {X : Cx} {a C : Addr} {oe : Obj} {cls : Value} {d : Option Addr} {pn : List (Addr × Obj)} (I0 : ExI X.K C) (hz : Zc cls d oe) (hf : ∃ vs, oe.data = .fields vs) : CallR (X.suite a ((a, oe) :: pn)) (.builtin "isinstance") (rIsX X.K C a cls d) := by
  intro pins s σ H xs us Q I r h
  obtain ⟨c, cv, b, rfl, hcv, ec, e, hd, q⟩ := h
  subst ec
  cases r with
  | cons rx rr =>
    cases rr with
    | cons rt rr =>
      cases rr
      cases rx
      have ec := hcv _ rt
      subst ec
      obtain ⟨ha, _⟩ := I.pin (a, oe) (List.mem_append_left _ List.mem_cons_self)
      obtain ⟨vs, hv⟩ := hf
      have J : ∃ od : Option Obj, PySem.W.InstAt s.heap a oe C od := by
        rcases hd with hd | ⟨dd, fs, hd, ea⟩
        · exact ⟨none, ha, hz.1, by unfold PySem.W.notCls; rw [hv] <;> rfl, by rw [hz.2, hd]; exact True.intro⟩
        · have hx : ObjOk X.prog X.w H s.heap dd (.xd fs) := I.hok dd _ ea
          obtain ⟨mA, hns, hr⟩ := hx
          obtain ⟨od, ho, hl⟩ := lookIn_ns hns
          exact ⟨some od, ha, hz.1, by unfold PySem.W.notCls; rw [hv] <;> rfl, by rw [hz.2, hd]; exact ho⟩
      obtain ⟨od, J⟩ := J
      exact PySem.W.kia_one (PySem.W.kitx_exc I0.cl I0.ga I0.gt I0.hs I0.ha I0.hn I0.ht I0.hm) I.kIn J e (fun z => nomatch z) fun tk => ⟨.bl b, H, I.kept (t' := tk) fun _ _ z => z, rfl, q⟩
section
variable {X : Cx} {Γ : Ct} {a : Addr} {oe : Obj} {cls : Value} {d : Option Addr} {pn : List (Addr × Obj)} {er : Er} {cs : Str → Addr} {T x n : Str} {b : Bool} {i : Nat} {p p1 p2 pos : Pos}
theorem ej_xis (I0 : ExI X.K (cs er.1)) (hk : PySem.W.kitOne X.K (.ref (cs er.1)) (.ref (cs T)) = some b) (gT : X.mg T = some (.ref (cs T))) (hg : Gl X x) (hm : X.mg x = none) (hv : bootBuiltins x = some (.builtin "isinstance")) (hz : Zc cls d oe) (hf : ∃ vs, oe.data = .fields vs)
    (hN : X.N[i]? = some n) (hv2 : Vis X.env.scope n) (hi : Γ[i]? = some (some (shE a cls d (erx cs er)))) (hgT : Gl X T) (hn : x ≠ "__name__" := by decide) (hdb : (x == ("__debug__" : Str)) = false := by decide) (hdT : (T == ("__debug__" : Str)) = false := by decide) (hd : (n == ("__debug__" : Str)) = false := by decide) (hcd : (n == ("__classdict__" : Str)) = false := by decide)
    (he : starEach [.Name n p1, .Name T p2] X.env = (false, eval (.Name n p1) X.env) :: starEach [.Name T p2] X.env := by rfl) (he2 : starEach [.Name T p2] X.env = (false, eval (.Name T p2) X.env) :: starEach [] X.env := by rfl) (hpl : (backTo pos (starEach [.Name T p2] X.env)).any (·.1) = false := by rfl) :
    EJ (X.suite a ((a, oe) :: pn)) (.Call (.Name x p) [.Name n p1, .Name T p2] [] pos) Γ none (fz tBool b) :=
  pe_to (pe_callB (X := X.suite a ((a, oe) :: pn)) (call_isX I0 hz hf) hg hm hv (pa_cons (pe_var (X := X.suite a ((a, oe) :: pn)) (i := i) hN hv2 hd hcd) (pa_cons (pe_glob (X := X.suite a ((a, oe) :: pn)) (v := .ref (cs T)) hgT gT rfl hdT) pa_nil he2) he) hn hdb he hpl) fun σ H Q ⟨G, os, F, hh, st, k⟩ => by
    obtain ⟨w, o, ro, a1, ⟨e1, e2, e3, e4⟩, a3, a4, a5⟩ := st.take hi
    subst e1 e2
    refine go_tcb (go_cons ⟨.ref a, a1, go_cons ?_⟩)
    unfold tC
    refine go_nil ?_
    refine ⟨.ref (cs T), .ref (cs T), b, rfl, fun u r => r, e3, hk, ?_, k (.bl b) G [] os H (Same.refl _) hh rfl ⟨rfl, rfl⟩⟩
    rcases e4 with e4 | ⟨dd, xs, e4, e5, e6⟩
    · exact .inl e4.2
    · exact .inr ⟨dd, xs, e4, hh_xd hh e5⟩
end
end Sl

set_option Elab.async false
set_option linter.all false
set_option maxRecDepth 100000
set_option maxHeartbeats 4000000
namespace Sl
open PySem PySem.Spec PyProof.Rows L2 Dl PySem.W
/-! ### own exceptions' __init__ -/
theorem app_len (a b : Str) : (a ++ b).length = a.length + b.length := by
  first
    | exact Str.length_append a b
    | (show (a.cps ++ b.cps).size = a.cps.size + b.cps.size; exact Array.size_append)
theorem fmt_in {i : Nat} {v : V} {σ : L2.St} {H : Hp} {R : V → Hp → Prop} (hs : Sc v) (hi : σ[i]? = some (some v)) (k : ∀ y : Str, y.length ≤ 1000 → R (.str y) H) : tFmt (tVar i) σ H R := by
  rcases hs with ⟨j, rfl, hj⟩ | ⟨s, rfl, hs⟩
  · refine ⟨_, hi, .inr ⟨j, rfl, ?_, k _ ?_⟩⟩
    · by_cases z : j.natAbs = 0
      · rw [z]
        decide
      · exact (Nat.log2_lt z (k := 1920)).mpr (Nat.lt_trans hj (Nat.lt_of_lt_of_le (by decide : 10 ^ 9 < 2 ^ 30) (Nat.pow_le_pow_right (by decide) (by decide))))
    · have := int_text_length_le10 (a := j) (k := 9) (by decide) hj
      have e : (Str.ofString (toString j)).length = (toString j).length := PySem.ofString_length _
      show (Str.ofString (toString j)).length ≤ 1000
      omega
  · exact ⟨_, hi, .inl ⟨s, rfl, Nat.le_trans hs (Nat.le_of_lt (small15k (by decide))), k s hs⟩⟩
/-- a text of several parts at most -/
inductive Txt (X : Cx) (n : Nat) : List Expr → List TE → Prop where
  | nil : Txt X n [] []
  | con {s : Str} {j} {p : Pos} {es : List Expr} {ts : List TE} (h : s.length ≤ 1000) (r : Txt X n es ts) : Txt X n (.Constant (.str s) j p :: es) (tC (.str s) :: ts)
  | fmt {i : Nat} {x : Str} {p q : Pos} {es : List Expr} {ts : List TE} (h0 : 0 < i) (hi : i < n) (hx : PE X (.Name x p) (tVar i)) (r : Txt X n es ts) : Txt X n (.FormattedValue (.Name x p) (-1) none q :: es) (tFmt (tVar i) :: ts)
theorem Txt.pj {X : Cx} {n : Nat} {es : List Expr} {ts : List TE} (h : Txt X n es ts) : L2.PJ X es ts := by
  induction h with
  | nil => exact .nil
  | con _ _ ih => exact .cons pe_str ih
  | fmt _ _ hx _ ih => exact .cons (pe_fmt hx) ih
theorem Txt.run {X : Cx} {n : Nat} {es : List Expr} {ts : List TE} {σ : L2.St} {H : Hp} {Q : Str → Hp → Prop} (hσ : ∀ i, 0 < i → i < n → ∃ v, σ[i]? = some (some v) ∧ Sc v) (k : ∀ s, Q s H) : ∀ (h : Txt X n es ts) (acc : Str), acc.length + 1000 * es.length ≤ 15000 → tJs ts acc σ H Q := by
  intro h
  induction h with
  | nil => exact fun acc _ => k acc
  | @con s j p es ts h r ih =>
    intro acc ha
    rw [List.length_cons] at ha
    have := app_len acc s
    exact ⟨s, rfl, Nat.le_of_lt (small15k (by omega)), ih _ (by omega)⟩
  | @fmt i x p q es ts h0 hi hx r ih =>
    intro acc ha
    rw [List.length_cons] at ha
    obtain ⟨v, hv, hs⟩ := hσ i h0 hi
    refine fmt_in hs hv fun y hy => ?_
    have := app_len acc y
    exact ⟨y, rfl, Nat.le_of_lt (small15k (by omega)), ih _ (by omega)⟩
section
variable {P : Program} {w : World} {K : PySem.W.Frag} {mg : Str → Option Value} {base : Heap} {N : List Str} {qual name : Str} {scope : Scope} {f cda cc C : Addr} {params : Arguments} {kV doc pm ct oc : Value} {an od : Option Addr} {osl : Array (Option Value)} {p0 p1 p2 p3 p4 : Pos} {ar : Arg}
/-- what is written of an own exception's __init__ -/
structure IniTxt (P : Program) (K : PySem.W.Frag) (mg : Str → Option Value) (C f cda cc : Addr) (name qual : Str) (params : Arguments) (body : List Stmt) (scope : Scope) : Prop where
  lk : ∃ oc od kV doc pm an ct osl, K.lookup f = some ⟨oc, od, .func (ksFn name qual params body scope .none kV doc pm an (.ref cda) ct cc), osl⟩
  hcd : codeIn K (.ref cda) qual = true
  T : SupTxt P K mg C cda cc
theorem start_at {vs : List V} {i : Nat} {v : V} (h : vs[i]? = some v) : (L2.start N vs)[i]? = some (some v) := by
  unfold L2.start
  have hl : i < vs.length := (List.getElem?_eq_some_iff.mp h).1
  rw [List.getElem?_append_left (by simpa using hl), List.getElem?_map, h]
  rfl
abbrev supC (p0 p1 p2 p3 : Pos) (e : Expr) : Expr := .Call (.Attribute (.Call (.Name "super" p0) [] [] p1) "__init__" p2) [e] [] p3
abbrev SupEv (p0 p1 p2 p3 : Pos) (e : Expr) : Prop := ∀ env : Env, ∃ pl : Sem Bool, eval (supC p0 p1 p2 p3 e) env = (do
      let ov ← attributeBase (.Call (.Name "super" p0) [] [] p1) "__init__" env (eval (.Call (.Name "super" p0) [] [] p1) env)
      standAt p2.atName
      let (f, first) ← holding [ov] (getMethod ov "__init__" pl)
      callWith p3 f first (backTo p3 (starEach [e] env)) [])
section
variable {parts : List Expr} {v1 v2 : Expr} {p9 q1 q2 q3 q4 r1 r2 r3 r4 : Pos} {x y : Str}
/-- self.x = x -/
theorem ini_1 (I : IniTxt P K mg C f cda cc name qual params (.Expr (supC p0 p1 p2 p3 (.JoinedStr (v1 :: v2 :: parts) p9)) p4 :: [.Assign [.Attribute (.Name "self" q1) x q2] (.Name x q3) q4]) scope) (S : SupScope N ["self", x] scope) (hp : (params.posonlyargs ++ params.args).head? = some ar) (ha : ar.arg = "self")
    (hev : SupEv p0 p1 p2 p3 (.JoinedStr (v1 :: v2 :: parts) p9)) (hb : ∀ kV doc pm an ct, Binds K (ksFn name qual params (.Expr (supC p0 p1 p2 p3 (.JoinedStr (v1 :: v2 :: parts) p9)) p4 :: [.Assign [.Attribute (.Name "self" q1) x q2] (.Name x q3) q4]) scope .none kV doc pm an (.ref cda) ct cc) ["self", x] []) (hno : PySem.W.findIn K (.ref C) x = some none) (hl : parts.length ≤ 8) (hN : N[1]? = some x) (hN0 : N[0]? = some ("self" : Str))
    (ht : ∀ X : Cx, (∀ i z p, N[i]? = some z → i < 2 → PE X (.Name z p) (tVar i)) → ∃ ts, Txt X 2 (v1 :: v2 :: parts) ts) (hd : (x == ("__debug__" : Str)) = false) (hcd : (x == ("__classdict__" : Str)) = false) :
    ∃ fd : FuncData, FnOk P w K mg base CX0 1 f fd ["self", x] (spE C [x]) ∧ Binds K fd ["self", x] [] := by
  obtain ⟨oc, od, kV, doc, pm, an, ct, osl, lk⟩ := I.lk
  refine ⟨_, fn_sup (k := 0) lk I.hcd S I.T hp (by rw [ha]; rfl) (fun _ => rfl) (fun _ => rfl) hev (fun _ => rfl) (fun vs H Q E ⟨a, v, e, _⟩ => by rw [e]; rfl) fun A outer s0 H vs Q E hr ⟨a, v, e1, hs, e2, k⟩ => ?_, hb _ _ _ _ _⟩
  subst e1
  have n0 : ∀ p, PE (cxS CX0 P w K mg base N qual scope f cda cc A outer s0 H E) (.Name "self" p) (tVar 0) := fun p => pe_var (i := 0) hN0 (.inl (S.par _ (by simp))) (by decide) (by decide)
  have n1 : ∀ p, PE (cxS CX0 P w K mg base N qual scope f cda cc A outer s0 H E) (.Name x p) (tVar 1) := fun p => pe_var (i := 1) hN (.inl (S.par _ (by simp))) hd hcd
  obtain ⟨ts, tx⟩ := ht (cxS CX0 P w K mg base N qual scope f cda cc A outer s0 H E) fun i z p hz hi => by
    match i, hi with
    | 0, _ => rw [hN0] at hz; cases hz; exact n0 p
    | 1, _ => rw [hN] at hz; cases hz; exact n1 p
  refine ⟨a, [v], _, _, rfl, e2, pe_joined tx.pj, pss_cons (ps_ost (n0 _) (n1 _)) pss_nil, go_cons ?_⟩
  refine Txt.run (σ := L2.start N [.ref a, v]) (fun i h0 hi => ?_) (fun s => ?_) tx Str.empty ?_
  · have : i = 1 := by omega
    subst this
    exact ⟨v, start_at rfl, hs⟩
  · refine go_nil ⟨⟨_, rfl⟩, e2, go_seq ⟨v, start_at rfl, .ref a, start_at rfl, a, C, rfl, I.T.oex, hno, .inl ⟨e2, fun d nd ne => go_next (k d nd ne)⟩⟩⟩
  · show 0 + 1000 * (parts.length + 1 + 1) ≤ 15000
    omega
end
end
end Sl

set_option Elab.async false
set_option linter.all false
set_option maxRecDepth 100000
set_option maxHeartbeats 4000000
namespace Sl
open PySem PySem.Spec PyProof.Rows L2 Dl
/-! ### instances whose making may raise -/
structure MkrX (P : Program) (w : World) (K : PySem.W.Frag) (mg : Str → Option Value) (base : Heap) (k : Nat) (C : Addr) (x : Str) (ps : List Str) (sp : Sp) : Prop where
  ex : ∃ fi fd, Mk K C fi ∧ FnG P w K mg base (L2.CX P w) k fi fd ps sp ∧ Binds K fd ps [] ∧ mg x = some (.ref C)
section
variable {X : Cx} {P : Pn} {Γ Γ0 : Ct} {m : Option Ct} {s : Sh} {pos p : Pos} {e : Expr} {es : List Expr} {ss : List Sh} {x : Str} {k n : Nat} {ps : List Str} {L : List (Nat × Sh)} {z : Xh} {Υ : Phx} {C f : Addr} {fd : FuncData} {sp : Sp} {t : TA}
def tMakeS (C : Addr) (sp : Sp) (E : L2.St → XK) (t : TA) : TE := fun σ H Q => t σ H fun vs H1 => ∀ x dx, H1 x = none → H1 dx = none → dx ≠ x →
  sp (.ref x :: vs) (upd (upd H1 dx (.own x)) x (.ins C dx [])) (fun v H2 => v = .non ∧ Q (.ref x) H2) (E σ)
end
end Sl

set_option Elab.async false
set_option linter.all false
set_option maxRecDepth 100000
set_option maxHeartbeats 4000000
namespace Sl
open PySem PySem.Spec PyProof.Rows L2 Dl
section
variable {X : Cx} {P : Pn} {Γ Γ0 : Ct} {m : Option Ct} {s : Sh} {pos p : Pos} {a b e : Expr} {es : List Expr}
/-! and, or whose first changes something -/
end
end Sl

set_option Elab.async false
set_option linter.all false
set_option maxRecDepth 100000
set_option maxHeartbeats 4000000
namespace Sl
open PySem PySem.Spec PyProof.Rows L2 Dl
/-! ### max and min of two things that are alike -/
section
variable {prog : Program} {w : World} {A : Around} {E : Value → Shared → Prop} {s : Shared} {a b : Value} {Q : Value → Shared → Prop}
/-- what is asked of the walk over the two -/
def Two (prog : Program) (w : World) (A : Around) (op : CmpOp) (Q : Value → Shared → Prop) (it : Value) (s₂ : Shared) : Prop :=
  ∃ I fp wr G n P St H bt, it = .ref I ∧ WalksS prog w A.in1 I fp wr G n P St ∧ St 0 s₂ ∧ (∀ b ∈ fp, b < s₂.heap.objs.size) ∧ 0 < n ∧ (∀ b o, H.get? b = some o → b ∉ wr) ∧ (∀ b o, H.get? b = some o → s₂.heap.get? b = some o) ∧ CmpIn prog w A.in1 op H P bt ∧
    ∀ v s', P (argBest bt (n - 1)) v → Moved wr G s₂ s' → Q v s'
end
/-- the second, where it is more -/
def rTwoD (X : Cx) (lt : PyData → PyData → Bool) : List V → Hp → VK → Prop := fun vs H Q => ∃ (v1 v2 : V) (d1 d2 : PyData), vs = [v1, v2] ∧ RdV X H v1 d1 ∧ RdV X H v2 d2 ∧ PySem.W.AlikeAll [d1, d2] ∧ d1.depth ≤ 60 ∧ d2.depth ≤ 60 ∧ Q (if lt d1 d2 = true then v2 else v1) H
section
variable {X : Cx} {pins : List (Addr × Obj)} {σ : L2.St} {H : Hp} {st : Shared} {Q : VK}
end
section
variable {X : Cx} {α : Type} {n : Nat} (τ : Ty α) [S : Sho τ n]
def mx2 (x y : α) : α := if PySem.W.dataLt (S.dat x) (S.dat y) = true then y else x
def mn2 (x y : α) : α := if PySem.W.dataLt (S.dat y) (S.dat x) = true then y else x
variable {τ} [A : Alk τ] [N : Nno τ]
end
end Sl

set_option Elab.async false
set_option linter.all false
set_option maxRecDepth 100000
set_option maxHeartbeats 4000000
namespace Sl
open PySem PySem.Spec PyProof.Rows L2 Dl
/-! ### d.get(..) where d stands; and, whose second is of another kind -/
section
variable {X : Cx} {Γ : Ct} {m : Option Ct} {α β κ : Type} {τ : Ty α} {s : Sh} {pos p apos cpos : Pos} {a b e e2 o : Expr} {es : List Expr} {kd : Kd κ} {u : Sh → Ct}
section
variable [DecidableEq κ] {d : List (κ × α)} {kk : κ} {τk : Ty κ} [KeyTy kd τk]
end
end
instance edtSB : Edt (tSum tBool tStr) 0 := ⟨fun x => match x with
    | .inl i => .bool i
    | .inr z => .str z, fun hh r => by
    rcases r with ⟨y, rfl, (r : _ = V.bl y)⟩ | ⟨y, rfl, (r : _ = V.str y)⟩ <;> subst r
    · exact .bl _
    · exact .str _, fun x => by cases x <;> exact Nat.le_refl _, fun x y => by
    cases x <;> cases y <;> simp [PyData.eqv]⟩
end Sl

set_option Elab.async false
set_option linter.all false
set_option maxRecDepth 100000
set_option maxHeartbeats 4000000
namespace Sl
open PySem PySem.Spec PyProof.Rows L2 Dl
/-! ### [e for x in xs if c for y in ys if d] -/
def lc2C {β δ γ : Type} (f : β → Option (Option (List δ))) (g : β → δ → Option (Option γ)) : List β → Option (List γ)
  | [] => some []
  | y :: ys => (f y).bind fun o => ((match o with | none => some [] | some xs => mapC (g y) xs).bind fun zs => (lc2C f g ys).bind fun r => some (zs ++ r))
section
variable {X : Cx} {Γ Γ1 : Ct} {m0 : Option Ct} {β δ γ : Type} {τ3 : Ty γ} {tg tg1 elt iter iter1 : Expr} {ifs ifs1 : List Expr} {pos : Pos}
section
variable {scope : Scope} {own : List (Str × Nat)} {items : List β} {sh : β → Sh} {sh1 : β → δ → Sh} {f : β → Option (Option (List δ))} {g : β → δ → Option (Option γ)} {zs : List γ} {Γy : β → Ct} {Γz : β → δ → Ct} {vs0 vs1 : List Nat}
    (hg : ∀ (s : Shared) (H : Hp) (C : Addr) (cl : List (Str × Addr)) (fp : List Addr) y, GJ0 (Bk X s H scope C cl fp) tg vs0 (nones (own.map (·.2)) (out Γ m0)) (Γy y) (sh y))
    (ht : ∀ (s : Shared) (H : Hp) (C : Addr) (cl : List (Str × Addr)) (fp : List Addr) y oz, y ∈ items → f y = some oz → TsJ (Bk X s H scope C cl fp) ifs (Γy y) none oz.isSome)
    (hi1 : ∀ (s : Shared) (H : Hp) (C : Addr) (cl : List (Str × Addr)) (fp : List Addr) y xs, y ∈ items → f y = some (some xs) → IJ (Bk X s H scope C cl fp) tg1 iter1 (Γy y) none xs (sh1 y))
    (hg1 : ∀ (s : Shared) (H : Hp) (C : Addr) (cl : List (Str × Addr)) (fp : List Addr) y x, GJ0 (Bk X s H scope C cl fp) tg1 vs1 (nones vs1 (Γy y)) (Γz y x) (sh1 y x))
    (ht1 : ∀ (s : Shared) (H : Hp) (C : Addr) (cl : List (Str × Addr)) (fp : List Addr) y xs x oz, y ∈ items → f y = some (some xs) → x ∈ xs → g y x = some oz → TsJ (Bk X s H scope C cl fp) ifs1 (Γz y x) none oz.isSome)
    (he : ∀ (s : Shared) (H : Hp) (C : Addr) (cl : List (Str × Addr)) (fp : List Addr) y xs x z, y ∈ items → f y = some (some xs) → x ∈ xs → g y x = some (some z) → EJ (Bk X s H scope C cl fp) elt (Γz y x) none (fz τ3 z))
include hg ht hi1 hg1 ht1 he
end
end
end Sl

set_option Elab.async false
set_option linter.all false
set_option maxRecDepth 100000
set_option maxHeartbeats 4000000
namespace Sl
open PySem PySem.Spec PyProof.Rows L2 Dl
/-! ### {k: v for x in xs} whose v changes something -/
section
variable {X : Cx} {Γ : Ct} {m0 : Option Ct} {β γ κ S : Type} {τk : Ty κ} {τ3 : Ty γ} {tg iter kx vx : Expr} {pos : Pos}
end
/-! ### o.append(e), where e changes what other names own -/
def sole (n i : Nat) (s : Sh) : Ct := (List.replicate n none).set i (some s)
theorem StA.merge {G : Hp} {s : Sh} {o : Ow} {v : V} (p : s.p G o v) : ∀ {Γ : Ct} {σ : L2.St} {os : Ow} {i : Nat}, StA Γ σ G os → Γ[i]? = some none → σ[i]? = some (some v) → ∃ os', os'.Perm (o ++ os) ∧ StA (Γ.set i (some s)) σ G os'
  | [], _, _, i, _, e, _ => by simp at e
  | none :: Γ, x :: σ, os, 0, h, _, e => ⟨o ++ os, .refl _, v, o, os, by simpa using e, rfl, p, h⟩
  | some s1 :: Γ, x :: σ, os, 0, _, e, _ => by simp at e
  | none :: Γ, x :: σ, os, i + 1, h, hi, e => by
    obtain ⟨os', pm, st⟩ := StA.merge p (Γ := Γ) (i := i) h (by simpa using hi) (by simpa using e)
    exact ⟨os', pm, st⟩
  | some s1 :: Γ, x :: σ, os, i + 1, ⟨w, o1, o2, e1, e2, p1, h⟩, hi, e => by
    obtain ⟨os', pm, st⟩ := StA.merge p (Γ := Γ) (i := i) h (by simpa using hi) (by simpa using e)
    subst e2
    refine ⟨o1 ++ os', (List.Perm.append_left o1 pm).trans ?_, w, o1, os', e1, rfl, p1, st⟩
    rw [← List.append_assoc, ← List.append_assoc]
    exact List.Perm.append_right o2 List.perm_append_comm
  | none :: _, [], _, _ + 1, h, _, _ => h.elim
  | some _ :: _, [], _, _ + 1, h, _, _ => h.elim
  | none :: _, [], _, 0, h, _, _ => h.elim
section
variable {X : Cx} {Γ Γ1 : Ct} {α : Type} {τ : Ty α} {xs : List α} {e o : Expr} {pos apos : Pos} {u : Sh → Ct} {i : Nat} {s0 s1 : Sh}
end
end Sl

set_option Elab.async false
set_option linter.all false
set_option maxRecDepth 100000
set_option maxHeartbeats 4000000
namespace Sl
open PySem PySem.Spec PyProof.Rows L2 Dl
/-! ### range(n), kept in a name and walked later -/
/-- n stands for range(0, n) -/
def tRng : Ty Int := ⟨fun G v n => ∃ a, v = .ref a ∧ G a = some (.rng 0 n), fun s ⟨a, e, h⟩ => ⟨a, e, s _ _ h⟩⟩
def rRng1 : List V → Hp → VK → Prop := fun vs H Q => ∃ j, vs = [V.int j] ∧ ∀ p, H p = none → Q (.ref p) (upd H p (.rng 0 j))
/-- what an expression gives is walked, a range object -/
def iRng (te : TE) : TI := fun σ H R => te σ H fun x H1 => ∃ a hi, x = .ref a ∧ H1 a = some (.rng 0 hi) ∧ -(2 ^ 62) ≤ hi ∧ hi < 2 ^ 62 ∧ R (Itr 0 hi.toNat) H1
end Sl

set_option Elab.async false
set_option linter.all false
set_option maxRecDepth 100000
set_option maxHeartbeats 4000000
namespace Sl
open PySem PySem.Spec PyProof.Rows L2 Dl
/-! ### min(xs, default=None) -/
def rMinN (X : Cx) : List V → Hp → VK → Prop := fun vs H Q => ∃ (a : Addr) (xs : List V) (ds : List PyData), vs = [V.ref a] ∧ SqL X.K H a xs ∧ Paired (RdV X H) xs ds ∧ PySem.W.AlikeAll ds ∧ (∀ e ∈ ds, e.depth ≤ 60) ∧ (ds = [] → Q .non H) ∧
  ∀ y ys, ds = y :: ys → PySem.W.minD y ys ∈ ds ∧ ∀ (i : Nat) v, xs[i]? = some v → ds[i]? = some (PySem.W.minD y ys) → Q v H
section
variable {X : Cx} {e : Expr} {p pos : Pos} {t : TA}
end
end Sl

set_option Elab.async false
set_option linter.all false
set_option maxRecDepth 100000
set_option maxHeartbeats 4000000
namespace Sl
open PySem PySem.Spec PyProof.Rows L2 Dl
/-! ### texts: len, ord, one sign in a text, join; deeds: tuples of unlike kinds -/
/-- the sign of a text of one sign -/
def sgn (z : Str) : Option Nat := if z.cps.size = 1 then some (z.cps.getD 0 0) else none
abbrev Deed : Type := Str ⊕ ((Str × Int) ⊕ (Str × Str))
abbrev tDeed : Ty Deed := tSum (tP1 tStr) (tSum (tP2 tStr tInt) (tP2 tStr tStr))
def dknd : Deed → Str
  | .inl k => k
  | .inr (.inl p) => p.1
  | .inr (.inr p) => p.1
def darg : Deed → Option (Int ⊕ Str)
  | .inl _ => none
  | .inr (.inl p) => some (.inl p.2)
  | .inr (.inr p) => some (.inr p.2)
section
variable {α : Type} {τ : Ty α} {n : Nat}
instance sho1 [S : Sho τ n] : Sho (tP1 τ) (n + 1) := ⟨fun x => .tuple [S.dat x], fun x => by
    rw [PyData.depth, PyData.depthAll, PyData.depthAll]
    have := S.dep x
    omega, fun x => by
    rw [PyData.hasDict, PyData.hasDictAll, PyData.hasDictAll, S.noD]
    rfl, fun {X pins σ H G st os v x u} I hh ⟨a, v1, e, g, r1⟩ h => by
    subst e
    cases (show u = Value.ref a from h)
    obtain ⟨us, r, q, _⟩ := I.tuple (SqT.of (hh.tup g))
    cases r with
    | cons q1 r =>
      cases r
      obtain ⟨as, ra⟩ := S.rd I hh r1 q1
      obtain ⟨o, h1, h2, m, h3⟩ := q
      exact ⟨_, .tuple h1 h2 h3 (.cons ra .nil)⟩⟩
end
section
variable {X : Cx} {Γ : Ct} {m m1 m2 : Option Ct} {α β γ : Type} {τ : Ty α} {τ1 : Ty α} {τ2 : Ty β} {s : Sh} {pos p apos : Pos} {a b e o : Expr} {es : List Expr}
end
end Sl

set_option Elab.async false
set_option linter.all false
set_option maxRecDepth 100000
set_option maxHeartbeats 4000000
namespace Sl
open PySem PySem.Spec PyProof.Rows L2 Dl
/-! ### min(xs, default=None); a def as an argument -/
/-- the def at f -/
def tFn (f : Addr) : Ty Unit := ⟨fun _ v _ => v = .ref f, fun _ h => h⟩
structure CalL (P : Program) (w : World) (K : PySem.W.Frag) (mg : Str → Option Value) (base : Heap) (CX : CXT) (k : Nat) (f : Addr) (ps : List Str) (sp : Sp) : Prop where
  ex : ∃ fd, FnG P w K mg base CX k f fd ps sp ∧ PySem.W.keepIn K (.ref f) = true ∧ Binds K fd ps []
def tCallLS (i : Nat) (f : Addr) (sp : Sp) (E : L2.St → XK) (t : TA) : TE := fun σ H Q => σ[i]? = some (some (.ref f)) ∧ t σ H fun vs H1 => sp vs H1 Q (E σ)
section
variable {X : Cx} {Γ Γ0 : Ct} {m : Option Ct} {α : Type} {τ : Ty α} {s r : Sh} {pos p apos kp cp : Pos} {a b e o : Expr} {es : List Expr} {ss : List Sh} {x : Str} {k n i : Nat} {ps : List Str} {L : List (Nat × Sh)} {z : Xh} {Υ : Phx} {f : Addr} {as : List As}
theorem pe_callLS {sp : Sp} {CX : CXT} {E : L2.St → XK} {t : TA} (c : CalL X.prog X.w X.K X.mg X.base CX k f ps sp) (hr : RoomG k X.A) (hN : X.N[i]? = some x) (hv : Vis X.env.scope x) (hx : ∀ σ, PassesAt CX X σ (E σ)) (ha : PA X (e :: es) t)
    (hdb : (x == ("__debug__" : Str)) = false := by decide) (hcd : (x == ("__classdict__" : Str)) = false := by decide)
    (he : starEach (e :: es) X.env = (false, eval e X.env) :: starEach es X.env := by rfl) (hpl : (backTo pos (starEach es X.env)).any (·.1) = false := by rfl) : PE X (.Call (.Name x p) (e :: es) [] pos) (tCallLS i f sp E t) := by
  obtain ⟨fd, F, kp, b⟩ := c.ex
  refine ⟨fun pins s σ H Q I h => ?_⟩
  obtain ⟨hs, ht⟩ := h
  refine wpAny_Call_Name_kw (thn ((pe_var (pos := p) hN hv hdb hcd).run pins s σ H (fun v H1 => v = .ref f ∧ H1 = H) I ⟨.ref f, hs, rfl, rfl⟩) fun u s1 ⟨v, H1, I1, r1, q1⟩ => ?_)
  obtain ⟨rfl, rfl⟩ := q1
  cases r1
  refine PySem.W.callWith_K (h₀ := X.base) I.ok.mod.kin kp (thn (ha.run pos pins s1 σ _ _ I1 ht) fun us s2 ⟨vs, H2, I2, r, q⟩ => ⟨I2.kIn, ?_⟩) he hpl
  exact runSG F hr b (hx σ) I2 r q
theorem slot_fn {σ : L2.St} {G : Hp} {os : Ow} (st : StA Γ σ G os) (hi : Γ[i]? = some (some (fz (tFn f) ()))) : σ[i]? = some (some (.ref f)) := by
  obtain ⟨v, o, rest, a1, ⟨_, (a2 : v = .ref f)⟩, _⟩ := st.take hi
  rw [a1, a2]
theorem ejx_callL (C : CalL X.prog X.w X.K X.mg X.base (L2.CX X.prog X.w) k f ps (spX n Υ)) (hr : RoomG k X.A) (hN : X.N[i]? = some x) (hv : Vis X.env.scope x) (hi : Γ[i]? = some (some (fz (tFn f) ()))) (ha : AJ X (e :: es) Γ m (ss.map As.val)) (hΥ : Υ ss (.inl (r, []))) (hn : ss.length = n := by rfl)
    (hdb : (x == ("__debug__" : Str)) = false := by decide) (hcd : (x == ("__classdict__" : Str)) = false := by decide)
    (he : starEach (e :: es) X.env = (false, eval e X.env) :: starEach es X.env := by rfl) (hpl : (backTo pos (starEach es X.env)).any (·.1) = false := by rfl) : EJ X (.Call (.Name x p) (e :: es) [] pos) Γ m r :=
  pe_to (pe_callLS (E := WE (WkX X)) C hr hN hv (fun σ => passAt takes_wk σ) ha hdb hcd he hpl) fun σ H Q ⟨G, os, F, hh, st, k⟩ => ⟨slot_fn st hi, G, os, F, hh, st, fun vs G1 o1 os1 H1 sm1 h1 af1 ap1 =>
    ⟨G1, o1, os1 ++ F, ss, .inl (r, []), by rw [(asp_vals ap1).len, hn], h1, asp_vals ap1, hΥ, fun v G' o' ow' H' sm h' pr (lt : ow' = []) => k v G' o' os1 H' (sm1.trans sm) (by subst lt; exact h') (af1.mono sm) pr⟩⟩
theorem ex_callL (C : CalL X.prog X.w X.K X.mg X.base (L2.CX X.prog X.w) k f ps (spX n Υ)) (hr : RoomG k X.A) (hN : X.N[i]? = some x) (hv : Vis X.env.scope x) (hi : Γ[i]? = some (some (fz (tFn f) ()))) (ha : AJ X (e :: es) Γ m as) (hl : lshp as (out Γ m) = some (ss, Γ0)) (hΥ : Υ ss (.inr (z, L))) (hn : ss.length = n := by rfl)
    (hdb : (x == ("__debug__" : Str)) = false := by decide) (hcd : (x == ("__classdict__" : Str)) = false := by decide)
    (he : starEach (e :: es) X.env = (false, eval e X.env) :: starEach es X.env := by rfl) (hpl : (backTo pos (starEach es X.env)).any (·.1) = false := by rfl) : EX X (.Call (.Name x p) (e :: es) [] pos) Γ z (lback as L Γ0) :=
  pe_to (pe_callLS (E := WE (WkX X)) C hr hN hv (fun σ => passAt takes_wk σ) ha hdb hcd he hpl) fun σ H Q ⟨G, os, F, hh, st, k⟩ => ⟨slot_fn st hi, G, os, F, hh, st, fun vs G1 o1 os1 H1 sm1 h1 af1 ap1 =>
    callX_er hl hΥ hn h1 (af1.st st sm1) ap1 fun cls d G' os' H' sm h' st' pz => k cls d G' os' H' (sm1.trans sm) h' st' pz⟩
/-! min with a default -/
end
end Sl

set_option Elab.async false
set_option linter.all false
set_option maxRecDepth 100000
set_option maxHeartbeats 4000000
namespace Sl
open PySem PySem.Spec PyProof.Rows L2 Dl
/-! ### xs.index(x) of perhaps ints; repr of lists of dicts -/
instance sclO : Scl (tOpt tInt) := ⟨fun x => match x with
  | none => .non
  | some i => .int i, fun x y h => by cases x <;> cases y <;> simp_all, fun G v x h => by
  rcases h with ⟨rfl, e⟩ | ⟨y, rfl, _, (e : v = .int y)⟩
  · exact e
  · exact e, fun x y => by cases x <;> cases y <;> rfl⟩
instance : Flv (tOpt tInt) := ⟨fun x => by cases x <;> rfl, fun x y => by
  cases x with
  | none => cases y with
    | none => exact ⟨fun _ => rfl, fun _ => rfl⟩
    | some j => exact ⟨fun h => (nomatch (show false = true from h)), fun h => nomatch h⟩
  | some i => cases y with
    | none => exact ⟨fun h => (nomatch (show false = true from h)), fun h => nomatch h⟩
    | some j => exact ⟨fun h => congrArg some (beq_iff_eq.mp (show (i == j) = true from h)), fun h => by cases h; exact beq_iff_eq.mpr rfl⟩⟩
/-- it can be read, and shown where others are shown -/
structure Rk (P : Program) (w : World) (h : Heap) (v : Value) (d : PyData) : Prop where
  rd : ∃ as, Reads h v d as
  rk : d.showable = true → d.shown.length ≤ sizeLine → ∃ bs, ReadAtMost h d.depth bs ∧ ReprK P w bs h d.depth v d.shown
theorem Rk.of {P : Program} {w : World} {h : Heap} {v : Value} {d : PyData} {as : List Addr} (r : Reads h v d as) (hs : d.hasDict = true → sysModules ∉ as) : Rk P w h v d :=
  ⟨⟨as, r⟩, fun h1 h2 => ReprK.of_reads r h1 hs h2⟩
theorem rk_all {P : Program} {w : World} {h : Heap} : ∀ {vs : List Value} {ds : List PyData}, Paired (Rk P w h) vs ds → (∃ as, ReadsAll h vs ds as) ∧ (PyData.showableAll ds = true → (∀ t ∈ PyData.shownAll ds, t.length ≤ sizeLine) →
    ∃ bs, ReadAtMost h (PyData.depthAll ds) bs ∧ ReprAllK P w bs h (PyData.depthAll ds) vs (PyData.shownAll ds))
  | _, _, .nil => ⟨⟨_, .nil⟩, fun _ _ => ⟨[], (fun _ h => nomatch h), by simp only [PyData.shownAll]; exact .nil⟩⟩
  | _, _, .cons (b := d) (l₂ := ds) r rs => by
    obtain ⟨⟨as, h1⟩, h2⟩ := rk_all rs
    obtain ⟨as0, r0⟩ := r.rd
    refine ⟨⟨_, .cons r0 h1⟩, fun hs hz => ?_⟩
    have hs' : d.showable = true ∧ PyData.showableAll ds = true := by simpa [PyData.showableAll] using hs
    obtain ⟨b1, hb1, k1⟩ := r.rk hs'.1 (hz _ (by simp only [PyData.shownAll]; exact List.mem_cons_self ..))
    obtain ⟨b2, hb2, k2⟩ := h2 hs'.2 (fun t ht => hz t (by simp only [PyData.shownAll]; exact List.mem_cons_of_mem _ ht))
    refine ⟨b1 ++ b2, ?_, ?_⟩
    · intro b hm
      simp only [PyData.depthAll]
      rcases List.mem_append.mp hm with hm | hm
      · obtain ⟨d', as', r', hd'⟩ := hb1 b hm
        exact ⟨d', as', r', Nat.le_trans hd' (Nat.le_max_left _ _)⟩
      · obtain ⟨d', as', r', hd'⟩ := hb2 b hm
        exact ⟨d', as', r', Nat.le_trans hd' (Nat.le_max_right _ _)⟩
    · simp only [PyData.depthAll, PyData.shownAll]
      exact .cons ((k1.more fun b hb => List.mem_append_left _ hb).level_le (Nat.le_max_left _ _)) (k2.more_le (fun b hb => List.mem_append_right _ hb) (Nat.le_max_right _ _))
theorem rk_list {P : Program} {w : World} {h : Heap} {a : Addr} {o : Obj} {vs : Array Value} {n : Nat} {xs : List PyData} (h1 : h.get? a = some o) (h2 : o.cls = .type "list") (h3 : o.data = .seq vs n) (hp : Paired (Rk P w h) vs.toList xs) : Rk P w h (.ref a) (.list xs) := by
  obtain ⟨⟨as, h4⟩, k⟩ := rk_all hp
  have r : Reads h (.ref a) (.list xs) _ := .list h1 h2 h3 h4
  refine ⟨⟨_, r⟩, fun hs hz => ?_⟩
  have hz' : (listText (PyData.shownAll xs)).length ≤ sizeLine := by simpa only [PyData.shown] using hz
  obtain ⟨bs, hb, hk⟩ := k (by simpa [PyData.showable] using hs) (fun t ht => Nat.le_trans (listText_mem_le ht) hz')
  have hna : a ∉ bs := not_mem_of_deeper r (by simp only [PyData.depth]; omega) hb
  refine ⟨a :: bs, ReadAtMost.cons r (by simp only [PyData.depth]; omega) hb, ?_⟩
  simp only [PyData.depth, PyData.shown]
  obtain ⟨l⟩ := vs
  cases l with
  | nil =>
    have hp' : Paired (Rk P w h) [] xs := hp
    cases hp'
    simp only [PyData.shownAll, listText_nil]
    exact ReprK.listEmpty h1 h2 h3
  | cons x l => exact ReprK.list h1 h2 h3 hna (by simpa using hk.length_eq) (fun i y e => hk.item i y (by simpa using e))
/-- data that may hold dicts -/
class ShoD {α : Type} (τ : Ty α) (n : outParam Nat) where
  dat : α → PyData
  dep : ∀ x, (dat x).depth ≤ n
  rk : ∀ {X : Cx} {pins : List (Addr × Obj)} {σ : L2.St} {H G : Hp} {st : Shared} {os : Ow} {v : V} {x : α} {u : Value}, Inv X pins σ H st → HH G os H → τ.rep G v x → RelV v u → Rk X.prog X.w st.heap u (dat x)
instance shodI : ShoD tInt 0 := ⟨PyData.int, fun _ => Nat.le_refl _, fun I hh r h => by
  obtain ⟨as, ra⟩ := Sho.rd (τ := tInt) I hh r h
  exact .of ra (PyData.noDict_hsm (Sho.noD (τ := tInt) _))⟩
instance shodD : ShoD (tDic kStr tInt) 1 := ⟨fun kvs => .dict (kvs.map fun p => (.str p.1, .int p.2)), fun kvs => by
    rw [PyData.depth]
    have : ∀ kvs : List (Str × Int), PyData.depthKv (kvs.map fun p => (PyData.str p.1, PyData.int p.2)) = 0 := by
      intro kvs
      induction kvs with
      | nil => rfl
      | cons p r ih => rw [List.map_cons, PyData.depthKv, ih]; rfl
    rw [this]
    exact Nat.le_refl _, fun {X pins σ H G st os v x u} I hh r h => by
    obtain ⟨a, vs, rfl, g, pr, nd⟩ := rdd_fz (kd := kStr) (τ := tInt) G H os [] v ⟨hh, _, .refl _⟩ ⟨rfl, r⟩
    cases (show u = Value.ref a from h)
    obtain ⟨z, hd, ws, rel, dd⟩ := dk_rd I.hok g
    obtain ⟨o, es, ep, ho, hx, hdat, _, hp, _⟩ := dd
    have key : ∀ {vs : List (Key × V)} {x : List (Str × Int)}, Paired (KR kStr tInt G) vs x → ∀ {ws : List (Key × Value)} {es : List DictEntry}, KV vs ws → Pairs (mixKind X.prog X.w) es ws →
        ReadsAll st.heap (es.map (·.key)) (x.map fun p => PyData.str p.1) [] ∧ ReadsAll st.heap (es.map (·.val)) (x.map fun p => PyData.int p.2) [] := by
      intro vs x pr
      induction pr with
      | nil =>
        intro ws es k p
        cases k
        cases p
        exact ⟨.nil, .nil⟩
      | @cons kv q l1 l2 r1 _ ih =>
        intro ws es k p
        cases k with
        | @cons _ qv _ ws' k1 k2 =>
          cases p with
          | @cons e _ es' _ p1 p2 p3 =>
            obtain ⟨i1, i2⟩ := ih k2 p3
            have ek : kv.1 = Sum.inr q.1 := r1.1
            have ev : kv.2 = .int q.2 := r1.2
            rw [← k1.1, ek] at p1
            have k12 := k1.2
            rw [ev] at k12
            obtain ⟨t, et⟩ := (show ∃ t, qv.2 = Value.int q.2 t from k12)
            rcases keyIs_shape (show keyIs (Sum.inr q.1) e.key = true from p1) with ⟨i, t', e1, _⟩ | ⟨y, t', e1, e2⟩
            · cases e1
            · cases e1
              refine ⟨?_, ?_⟩
              · rw [List.map_cons, List.map_cons, e2]
                exact .cons (as := []) (bs := []) (.str _ _) i1
              · rw [List.map_cons, List.map_cons, p2, et]
                exact .cons (as := []) (bs := []) (.int _ _) i2
    obtain ⟨r1, r2⟩ := key pr rel hp
    have rr : Reads st.heap (.ref a) (.dict (x.map fun p => (PyData.str p.1, PyData.int p.2))) (a :: [] ++ []) := by
      refine Reads.dict ho hx.1 hdat ?_ ?_
      · rw [List.map_map]; exact r1
      · rw [List.map_map]; exact r2
    exact .of rr fun _ hm => by
      have : sysModules = a := by simpa using hm
      rw [this] at hd
      simp at hd⟩
section
variable {α β γ δ ε ζ : Type} {τ : Ty α} {τ1 : Ty α} {τ2 : Ty β} {τ3 : Ty γ} {τ4 : Ty δ} {τ5 : Ty ε} {τ6 : Ty ζ} {n n1 n2 n3 n4 n5 n6 : Nat}
theorem shod_all [S : ShoD τ n] {X : Cx} {pins : List (Addr × Obj)} {σ : L2.St} {H G : Hp} {st : Shared} {os : Ow} (I : Inv X pins σ H st) (hh : HH G os H) {vs : List V} {xs : List α} (p : Paired (τ.rep G) vs xs) : ∀ {us : List Value}, Vals vs us → Paired (Rk X.prog X.w st.heap) us (xs.map S.dat) := by
  induction p with
  | nil =>
    intro us r
    cases r
    exact .nil
  | cons r1 _ ih =>
    intro us r
    cases r with
    | cons q1 q2 => exact .cons (S.rk I hh r1 q1) (ih q2)
theorem depAllD [S : ShoD τ n] : ∀ xs : List α, PyData.depthAll (xs.map S.dat) ≤ n
  | [] => by simp [PyData.depthAll]
  | x :: xs => by
    show PyData.depthAll (S.dat x :: xs.map S.dat) ≤ n
    rw [PyData.depthAll]
    exact Nat.max_le.mpr ⟨S.dep x, depAllD xs⟩
instance shodL [S : ShoD τ n] : ShoD (tList τ) (n + 1) := ⟨fun xs => .list (xs.map S.dat), fun xs => by
    rw [PyData.depth]
    exact Nat.succ_le_succ (depAllD xs), fun {X pins σ H G st os v x u} I hh ⟨a, vs, e, g, p⟩ h => by
    subst e
    cases (show u = Value.ref a from h)
    obtain ⟨us, r, q, _⟩ := I.list (SqL.of (hh.lst g))
    obtain ⟨o, h1, h2, m, h3⟩ := q.isList
    exact rk_list h1 h2 h3 (by simpa using shod_all I hh p r)⟩
def tL6 (τ1 : Ty α) (τ2 : Ty β) (τ3 : Ty γ) (τ4 : Ty δ) (τ5 : Ty ε) (τ6 : Ty ζ) : Ty (α × β × γ × δ × ε × ζ) := ⟨fun G v x => ∃ a v1 v2 v3 v4 v5 v6, v = .ref a ∧ G a = some (.lst [v1, v2, v3, v4, v5, v6]) ∧ τ1.rep G v1 x.1 ∧ τ2.rep G v2 x.2.1 ∧ τ3.rep G v3 x.2.2.1 ∧ τ4.rep G v4 x.2.2.2.1 ∧ τ5.rep G v5 x.2.2.2.2.1 ∧ τ6.rep G v6 x.2.2.2.2.2,
  fun s ⟨a, v1, v2, v3, v4, v5, v6, e, h, r1, r2, r3, r4, r5, r6⟩ => ⟨a, v1, v2, v3, v4, v5, v6, e, s _ _ h, τ1.mono s r1, τ2.mono s r2, τ3.mono s r3, τ4.mono s r4, τ5.mono s r5, τ6.mono s r6⟩⟩
instance shodL6 [S1 : ShoD τ1 n1] [S2 : ShoD τ2 n2] [S3 : ShoD τ3 n3] [S4 : ShoD τ4 n4] [S5 : ShoD τ5 n5] [S6 : ShoD τ6 n6] : ShoD (tL6 τ1 τ2 τ3 τ4 τ5 τ6) (max n1 (max n2 (max n3 (max n4 (max n5 n6)))) + 1) :=
  ⟨fun x => .list [S1.dat x.1, S2.dat x.2.1, S3.dat x.2.2.1, S4.dat x.2.2.2.1, S5.dat x.2.2.2.2.1, S6.dat x.2.2.2.2.2], fun x => by
    simp only [PyData.depth, PyData.depthAll]
    have := S1.dep x.1
    have := S2.dep x.2.1
    have := S3.dep x.2.2.1
    have := S4.dep x.2.2.2.1
    have := S5.dep x.2.2.2.2.1
    have := S6.dep x.2.2.2.2.2
    omega, fun {X pins σ H G st os v x u} I hh ⟨a, v1, v2, v3, v4, v5, v6, e, g, r1, r2, r3, r4, r5, r6⟩ h => by
    subst e
    cases (show u = Value.ref a from h)
    obtain ⟨us, r, q, _⟩ := I.list (SqL.of (hh.lst g))
    obtain ⟨o, h1, h2, m, h3⟩ := q.isList
    refine rk_list h1 h2 h3 ?_
    cases r with
    | cons q1 r => cases r with
      | cons q2 r => cases r with
        | cons q3 r => cases r with
          | cons q4 r => cases r with
            | cons q5 r => cases r with
              | cons q6 r =>
                cases r
                exact .cons (S1.rk I hh r1 q1) (.cons (S2.rk I hh r2 q2) (.cons (S3.rk I hh r3 q3) (.cons (S4.rk I hh r4 q4) (.cons (S5.rk I hh r5 q5) (.cons (S6.rk I hh r6 q6) .nil)))))⟩
end
def datD {α : Type} {n : Nat} (τ : Ty α) [S : ShoD τ n] (x : α) : PyData := S.dat x
section
variable {X : Cx} {Γ : Ct} {m : Option Ct} {α β γ δ ε ζ : Type} {τ1 : Ty α} {τ2 : Ty β} {τ3 : Ty γ} {τ4 : Ty δ} {τ5 : Ty ε} {τ6 : Ty ζ} {n1 n2 n3 n4 n5 n6 : Nat} {pos p : Pos} {e : Expr}
def rRepr6 (τ1 : Ty α) (τ2 : Ty β) (τ3 : Ty γ) (τ4 : Ty δ) (τ5 : Ty ε) (τ6 : Ty ζ) [ShoD τ1 n1] [ShoD τ2 n2] [ShoD τ3 n3] [ShoD τ4 n4] [ShoD τ5 n5] [ShoD τ6 n6] : List V → Hp → VK → Prop := fun xs H Q => ∃ G os v x, xs = [v] ∧ HH G os H ∧ (tL6 τ1 τ2 τ3 τ4 τ5 τ6).rep G v x ∧ Shw (datD (tL6 τ1 τ2 τ3 τ4 τ5 τ6) x) ∧ Q (.str (datD (tL6 τ1 τ2 τ3 τ4 τ5 τ6) x).shown) H
end
end Sl

set_option Elab.async false
set_option linter.all false
set_option maxRecDepth 100000
set_option maxHeartbeats 4000000
namespace Sl
open PySem PySem.Spec PyProof.Rows L2 Dl
/-! ### what is owned is handed over as data for one expression -/
/-- no dicts -/
def NoDk (o : Ow) : Prop := ∀ c ∈ o, isDk c.2 = false ∧ isFr c.2 = false
def upds (G : Hp) : Ow → Hp
  | [] => G
  | c :: o => upds (upd G c.1 c.2) o
def downs (G : Hp) (o : Ow) : Hp := fun a => if a ∈ o.map Prod.fst then none else G a
/-- s may stand as data s' for a while -/
def Bz (s s' : Sh) : Prop := ∀ G o v, s.p G o v → NoDk o ∧ ∀ G1, Same G G1 → (∀ c ∈ o, G1 c.1 = some c.2) → s'.p G1 [] v
/-- it hangs on no heap -/
def Flat (r : Sh) : Prop := ∀ G G' o v, r.p G o v → r.p G' o v
def Bzs : List Sh → List Sh → Prop
  | [], [] => True
  | s :: ss, t :: ts => Bz s t ∧ Bzs ss ts
  | _, _ => False
theorem Bzs.run : ∀ {ss ts : List Sh} {G : Hp} {o : Ow} {vs : List V}, Bzs ss ts → Shs ss G o vs → NoDk o ∧ ∀ G1, Same G G1 → (∀ c ∈ o, G1 c.1 = some c.2) → Shs ts G1 [] vs
  | [], [], G, o, vs, _, ⟨e1, e2⟩ => ⟨(fun c hc => by rw [e2] at hc; cases hc), fun G1 _ _ => ⟨e1, rfl⟩⟩
  | s :: ss, t :: ts, G, o, vs, ⟨b1, b2⟩, ⟨v, vr, o1, o2, e1, e2, h1, h2⟩ => by
    subst e1 e2
    obtain ⟨n1, k1⟩ := b1 G o1 v h1
    obtain ⟨n2, k2⟩ := Bzs.run b2 h2
    refine ⟨fun c hc => (List.mem_append.mp hc).elim (n1 c) (n2 c), fun G1 sm k => ⟨v, vr, [], [], rfl, rfl, k1 G1 sm fun c hc => k c (List.mem_append_left _ hc), k2 G1 sm fun c hc => k c (List.mem_append_right _ hc)⟩⟩
  | [], _ :: _, _, _, _, h, _ => h.elim
  | _ :: _, [], _, _, _, h, _ => h.elim
section
variable {α β γ : Type} {τ : Ty α}
end
section
variable {X : Cx} {P : Pn} {Γ Γ' Γ2 : Ct} {m m1 : Option Ct} {α β : Type} {τ τ1 : Ty α} {τ2 : Ty β} {s s' r sj : Sh} {pos p apos nm q1 tpos : Pos} {a b e o value tg : Expr} {es : List Expr} {ss ss0 : List Sh} {x f : Str} {C : Addr} {ns : List Str} {xs : List α} {i j k n : Nat} {rest : List Stmt} {R : Po} {u : Sh → Ct} {CX : CXT} {ps : List Str} {E : XK} {vs us : List Nat} {t ta : Bool}
/-! ### f(x.f, e, ..), a place lent -/
/-! ### a and b, where b changes something -/
/-! ### x.f op= e -/
/-! ### tuples whose parts are owned -/
def oTp (ss : List Sh) : Sh := ⟨fun G o v => ∃ a vs, v = .ref a ∧ G a = some (.tup vs) ∧ Shs ss G o vs, fun s ⟨a, vs, e, g, h⟩ => ⟨a, vs, e, s _ _ g, h.mono s⟩, fun ⟨a, vs, e, g, h⟩ => h.nf⟩
/-! unpacking what has owned parts -/
def tGo (vs : List Nat) (Γ Γ' : Ct) (ss : List Sh) : TGs := fun us σ H R => ∃ G o os F, HH G (o ++ (os ++ F)) H ∧ StA Γ σ G os ∧ Shs ss G o us ∧ ∀ σ' os', wipe σ' vs = wipe σ vs → HH G (os' ++ F) H → StA Γ' σ' G os' → R σ' H
abbrev GoJ (X : Cx) (e : List Expr) (vs : List Nat) (Γ Γ' : Ct) (ss : List Sh) : Prop := PGs X e (tGo vs Γ Γ' ss)
/-- five unlike things -/
def tL5 {α β γ δ ε : Type} (τ1 : Ty α) (τ2 : Ty β) (τ3 : Ty γ) (τ4 : Ty δ) (τ5 : Ty ε) : Ty (α × β × γ × δ × ε) := ⟨fun G v x => ∃ a v1 v2 v3 v4 v5, v = .ref a ∧ G a = some (.lst [v1, v2, v3, v4, v5]) ∧ τ1.rep G v1 x.1 ∧ τ2.rep G v2 x.2.1 ∧ τ3.rep G v3 x.2.2.1 ∧ τ4.rep G v4 x.2.2.2.1 ∧ τ5.rep G v5 x.2.2.2.2,
  fun s ⟨a, v1, v2, v3, v4, v5, e, h, r1, r2, r3, r4, r5⟩ => ⟨a, v1, v2, v3, v4, v5, e, s _ _ h, τ1.mono s r1, τ2.mono s r2, τ3.mono s r3, τ4.mono s r4, τ5.mono s r5⟩⟩
end
section
variable {α β γ δ ε : Type} {τ1 : Ty α} {τ2 : Ty β} {τ3 : Ty γ} {τ4 : Ty δ} {τ5 : Ty ε} {n1 n2 n3 n4 n5 : Nat}
instance shoL5 [S1 : Sho τ1 n1] [S2 : Sho τ2 n2] [S3 : Sho τ3 n3] [S4 : Sho τ4 n4] [S5 : Sho τ5 n5] : Sho (tL5 τ1 τ2 τ3 τ4 τ5) (max n1 (max n2 (max n3 (max n4 n5))) + 1) := ⟨fun x => .list [S1.dat x.1, S2.dat x.2.1, S3.dat x.2.2.1, S4.dat x.2.2.2.1, S5.dat x.2.2.2.2], fun x => by
    simp only [PyData.depth, PyData.depthAll]
    have := S1.dep x.1
    have := S2.dep x.2.1
    have := S3.dep x.2.2.1
    have := S4.dep x.2.2.2.1
    have := S5.dep x.2.2.2.2
    omega, fun x => by
    simp only [PyData.hasDict, PyData.hasDictAll, S1.noD, S2.noD, S3.noD, S4.noD, S5.noD]
    rfl, fun {X pins σ H G st os v x u} I hh ⟨a, v1, v2, v3, v4, v5, e, g, r1, r2, r3, r4, r5⟩ h => by
    subst e
    cases (show u = Value.ref a from h)
    obtain ⟨us, r, q, _⟩ := I.list (SqL.of (hh.lst g))
    obtain ⟨o, h1, h2, m, h3⟩ := q.isList
    cases r with
    | cons q1 r => cases r with
      | cons q2 r => cases r with
        | cons q3 r => cases r with
          | cons q4 r => cases r with
            | cons q5 r =>
              cases r
              obtain ⟨as, ra⟩ := S1.rd I hh r1 q1
              obtain ⟨bs, rb⟩ := S2.rd I hh r2 q2
              obtain ⟨cs, rc⟩ := S3.rd I hh r3 q3
              obtain ⟨ds, rd⟩ := S4.rd I hh r4 q4
              obtain ⟨es, re⟩ := S5.rd I hh r5 q5
              exact ⟨_, .list h1 h2 h3 (.cons ra (.cons rb (.cons rc (.cons rd (.cons re .nil)))))⟩⟩
end
end Sl

set_option Elab.async false
set_option linter.all false
set_option maxRecDepth 100000
set_option maxHeartbeats 4000000
namespace Sl
open PySem PySem.Spec PyProof.Rows L2 Dl
/-! ### borrowing for results that hang on no more than tuples -/
def TupK (G G' : Hp) : Prop := ∀ a vs, G a = some (.tup vs) → G' a = some (.tup vs)
def Tf (r : Sh) : Prop := ∀ G G' o v, TupK G G' → r.p G o v → r.p G' o v
def TfT {α : Type} (τ : Ty α) : Prop := ∀ G G' v x, TupK G G' → τ.rep G v x → τ.rep G' v x
section
variable {α β γ : Type} {τ : Ty α} {τ1 : Ty α} {τ2 : Ty β} {τ3 : Ty γ}
def Tfs : List Sh → Prop
  | [] => True
  | s :: ss => Tf s ∧ Tfs ss
theorem Tfs.run {G G' : Hp} (k : TupK G G') : ∀ {ss : List Sh} {o : Ow} {vs : List V}, Tfs ss → Shs ss G o vs → Shs ss G' o vs
  | [], _, _, _, h => h
  | s :: ss, _, _, ⟨t1, t2⟩, ⟨v, vr, o1, o2, e1, e2, h1, h2⟩ => ⟨v, vr, o1, o2, e1, e2, t1 _ _ _ _ k h1, Tfs.run k t2 h2⟩
end
section
variable {X : Cx} {P : Pn} {Γ Γ' Γ2 : Ct} {s s' r : Sh} {e : Expr} {i : Nat}
end
end Sl

set_option Elab.async false
set_option linter.all false
set_option maxRecDepth 100000
set_option maxHeartbeats 4000000
namespace Sl
open PySem PySem.Spec PyProof.Rows L2 Dl
/-! ### methods that may raise -/
structure MetX (P : Program) (w : World) (K : PySem.W.Frag) (mg : Str → Option Value) (base : Heap) (k : Nat) (C : Addr) (m : Str) (ps : List Str) (sp : Sp) : Prop where
  ex : ∃ fi fd, Meth K C m fi ∧ FnG P w K mg base (L2.CX P w) k fi fd ps sp ∧ Binds K fd ps []
section
variable {X : Cx} {P : Pn} {Γ Γ0 : Ct} {m : Option Ct} {s s' r : Sh} {pos p apos : Pos} {e o : Expr} {es : List Expr} {ss ss0 : List Sh} {x f : Str} {k n : Nat} {ps : List Str} {L : List (Nat × Sh)} {z : Xh} {Υ : Phx} {C : Addr} {ns : List Str} {fd : FuncData} {sp : Sp} {t : TA} {ta : TE} {u : Sh → Ct}
def tMethS (C : Addr) (m : Str) (sp : Sp) (E : L2.St → XK) (ta : TE) (t : TA) : TE := fun σ H Q => ta σ H fun v H1 => ∃ a dx fs, v = .ref a ∧ H1 a = some (.ins C dx fs) ∧ fs.lookup m = none ∧ t σ H1 fun vs H2 => sp (.ref a :: vs) H2 Q (E σ)
/-! ### f(PLACE, e, ..) that may raise -/
end
end Sl

set_option Elab.async false
set_option linter.all false
set_option maxRecDepth 100000
set_option maxHeartbeats 4000000
namespace Sl
open PySem PySem.Spec PyProof.Rows L2 Dl
/-! ### defs with defaults -/
structure FunV (K : PySem.W.Frag) (x qual : Str) (st : Stmt) (f : Addr) (fd : FuncData) : Prop where
  ex : ∃ (oc : Value) (od : Option Addr) (dV kV doc pm : Value) (an : Option Addr) (cdv ct : Value) (osl : Array (Option Value)),
    fd = PySem.W.fnOf x qual (defArgs st) (defBody st) (defScope st) dV kV doc pm an cdv ct ∧ K.lookup f = some ⟨oc, od, .func fd, osl⟩ ∧ PySem.W.codeIn K cdv qual = true
  kp : PySem.W.keepIn K (.ref f) = true
section
variable {P Pg : Program} {w : World} {K : PySem.W.Frag} {mg : Str → Option Value} {base : Heap}
theorem FunV.okG {x q : Str} {st : Stmt} {f : Addr} {fd : FuncData} {N ps : List Str} {k : Nat} {sp : Sp} (D : FunV K x q st f fd) (S : FnScope N ps (defScope st)) (len : ∀ vs H Q E, sp vs H Q E → vs.length = ps.length)
    (body : ∀ (cdv : Value) (A : Around) (outer : List Env) (s : Shared) (H : Hp) (vs : List V) (Q : VK) (E : XK), RoomG k (A.deeper (envOfC q (defScope st) s.heap.objs.size f cdv)) → sp vs H Q E →
      ∃ t, PSs (cxOf CX0 P w K mg base N q (defScope st) f cdv A outer s H E).nox (defBody st) t ∧ t { nx := fun _ H' => Q .non H', rt := Q } (start N vs) H) : FnG P w K mg base CX0 (k + 1) f fd ps sp := by
  obtain ⟨oc, od, dV, kV, doc, pm, an, cdv, ct, osl, rfl, lk, hcd⟩ := D.ex
  refine ⟨len, fun A outer s H args us vs Q E hr e0 hb r hsp => ?_⟩
  have inK : K.In s.heap := e0.mod.kin.keeps fun b o z => (e0.bs b o z).1
  have lim : s.heap.NoLimit := e0.mod.nolimit.keeps fun b o z => (e0.bs b o z).1
  refine codeAny_call_function hr.room.depth (inK _ _ lk) rfl S.co S.gen rfl (PySem.W.codeRec_of inK hcd) (hb _ _ _ _ (wpAny_newFunctionEnv_cells S.kind (fun ⟨n, v⟩ hy => ?_) fun env he s1 y => ?_))
  · rcases S.par n (List.of_mem_zip hy).1 with z | z
    · exact .inl z
    · exact .inr ⟨z, PySem.W.cellsFrom_some _ _ _ (.inl z)⟩
  subst he
  obtain ⟨t, ht, hq⟩ := body cdv A outer s H vs Q E (hr.deeper _) hsp
  refine ⟨lim.keeps y.toInCall.keep, codeAny_func (wpAny_mono (ht.nox.run [] s1 (start N vs) H _ (inv_start S hr.room.hd e0 (len _ _ _ _ hsp) r y) hq) (fun fl s' hs => ?_) fun _ _ z => z)⟩
  match fl, hs with
  | .ret u, ⟨v, σ', H', J, rv, z⟩ => exact ⟨v, H', J.os, J.bare, J.base, J.hok, rv, z⟩
  | .next, ⟨σ', H', J, z⟩ => exact ⟨.non, H', J.os, J.bare, J.base, J.hok, rfl, z⟩
  | .brk, ⟨_, _, _, z⟩ => exact z.elim
  | .cont, ⟨_, _, _, z⟩ => exact z.elim
theorem FunV.okS {x q : Str} {st : Stmt} {f0 : Addr} {fd : FuncData} {N ps : List Str} {k n : Nat} {Φ : Phi} (D : FunV K x q st f0 fd) (S : FnScope N ps (defScope st)) (hn : n = ps.length) (hN : n ≤ N.length)
    (hbody : ∀ (X : Cx) (s : Shared) (H : Hp) (A : Around) (outer : List Env) (cdv : Value) (E : XK) (ss : List Sh) (r : Sh) (L : List (Nat × Sh)) (vs : List V),
      RoomG k (A.deeper (envOfC q (defScope st) s.heap.objs.size f0 cdv)) → vs.length = n → Φ ss r L →
      ∃ (ρ : Type) (rs : ρ → Sh) (ls : ρ → List Sh) (y : ρ) (P : Pn), rs y = r ∧ ls y = L.map Prod.snd ∧ (∀ p ∈ P, vs[p.1]? = some p.2) ∧ (P.map Prod.fst) = L.map Prod.fst ∧
        SJ (cxOf CX0 Pg w K mg base N q (defScope st) f0 cdv A outer s H E).nox P (defBody st) (ss.map some ++ List.replicate (N.length - n) none) (PoF rs ls P y)) : FnG Pg w K mg base CX0 (k + 1) f0 fd ps (spS n Φ) := by
  refine FunV.okG D S (fun vs H Q E h => ?_) fun cdv A outer s H vs Q E hr h => ?_
  · obtain ⟨_, _, _, _, _, _, e, _⟩ := h
    rw [e, hn]
  · obtain ⟨G, ow, F, ss, r, L, e, hh, hs, hΦ, k⟩ := h
    obtain ⟨ρ, rs, ls, y, P, er, el, hP, hPL, hb⟩ := hbody (cxOf CX0 Pg w K mg base N q (defScope st) f0 cdv A outer s H E).nox s H A outer cdv E ss r L vs hr e hΦ
    have fin : ∀ (v : V) (G' : Hp) (o1 o2 : Ow) (H' : Hp), Same G G' → HH G' (o1 ++ o2 ++ F) H' → (rs y).p G' o1 v → Shs (ls y) G' o2 (P.map Prod.snd) → Q v H' := fun v G' o1 o2 H' sm h' p1 p2 => by
      rw [el] at p2
      rw [er] at p1
      exact k v G' o1 o2 H' sm (by rw [← List.append_assoc]; exact h') p1 (lent_of hPL hP p2)
    refine ⟨_, hb, G, ow, F, hh, ?_, fun p hp => ?_, fun σ' G' os' H' sm h' pn ⟨dead, o, pm, o1, o2, eo, p1, p2⟩ => ?_, fun v G' o H' sm h' ⟨o1, o2, eo, p1, p2⟩ => ?_, fun _ _ _ _ _ _ _ => ⟨fun z => z.elim, fun _ _ z => z.elim⟩⟩
    · have := StA.start (n := N.length - n) hs
      unfold L2.start
      rw [e]
      exact this
    · have h1 := hP p hp
      unfold L2.start
      have hl : p.1 < vs.length := (List.getElem?_eq_some_iff.mp h1).1
      rw [List.getElem?_append_left (by simpa using hl), List.getElem?_map, h1]
      rfl
    · subst eo
      exact fin .non G' o1 o2 H' sm (HH.drops (d := dead) (h'.perm (by rw [← List.append_assoc]; exact List.Perm.append_right F pm))) p1 p2
    · subst eo
      exact fin v G' o1 o2 H' sm h' p1 p2
/-- a def called with its last parameters at their defaults -/
structure CalD (P : Program) (w : World) (K : PySem.W.Frag) (mg : Str → Option Value) (base : Heap) (k : Nat) (x : Str) (ps : List Str) (sp : Sp) (dvs : List V) : Prop where
  ex : ∃ f fd ds, FnG P w K mg base CX0 k f fd ps sp ∧ mg x = some (.ref f) ∧ PySem.W.keepIn K (.ref f) = true ∧ Binds K fd ps ds ∧ Vals dvs ds
end
/-- a default that is one known place -/
def tDf (a : Addr) : Ty Unit := ⟨fun _ v _ => v = .ref a, fun _ h => h⟩
section
variable {X : Cx} {P : Pn} {Γ Γ0 : Ct} {m m1 m2 : Option Ct} {α : Type} {τ : Ty α} {s r : Sh} {pos p : Pos} {e o : Expr} {es : List Expr} {ss dss : List Sh} {x f : Str} {k n : Nat} {ps : List Str} {L : List (Nat × Sh)} {Φ : Phi} {fd : FuncData} {sp : Sp} {t : TA} {dvs : List V} {ds : List Value} {CX : CXT} {E : XK}
theorem runGd {pins : List (Addr × Obj)} {σ : L2.St} {H : Hp} {s : Shared} {Q : VK} {us : List Value} {vs : List V} {g : Addr} (F : FnG X.prog X.w X.K X.mg X.base CX k g fd ps sp) (hr : RoomG k X.A)
    (hb : Binds X.K fd ps ds) (hd : Vals dvs ds) (hx : Passes CX X E) (I : Inv X pins σ H s) (rl : Vals vs us) (h : sp (vs ++ dvs) H Q E) : wpAny (model X.prog X.w) X.A (call (.ref g) us) (EP X pins σ Q) X.xe s := by
  have r2 : Vals (vs ++ dvs) (us ++ ds) := rl.append hd
  have hl : (us ++ ds).length = ps.length := by rw [← r2.length]; exact F.len _ _ _ _ h
  refine wpAny_call (codeAny_mono (F.go X.A X.stack s H ⟨us, []⟩ (us ++ ds) (vs ++ dvs) Q E hr I.env0 (hb s us I.kIn hl) r2 h) fun z t hq => ?_)
  match z, hq with
  | .ok (.ret u), hq => exact I.after hq
  | .ok .next, hq => exact hq.elim
  | .ok .brk, hq => exact hq.elim
  | .ok .cont, hq => exact hq.elim
  | .error d, hq => exact hx pins σ H s d t I hq
theorem pe_callD (c : CalD X.prog X.w X.K X.mg X.base k x ps sp dvs) (hr : RoomG k X.A) (hg : Gl X x) (hx : Passes CX0 X E) (ha : PA X (e :: es) t) (hdb : (x == ("__debug__" : Str)) = false := by decide)
    (he : starEach (e :: es) X.env = (false, eval e X.env) :: starEach es X.env := by rfl) (hpl : (backTo pos (starEach es X.env)).any (·.1) = false := by rfl) : PE X (.Call (.Name x p) (e :: es) [] pos) (tCall sp dvs E t) := by
  obtain ⟨f, fd, ds, F, g, kp, b, vd⟩ := c.ex
  constructor
  intro pins s σ H Q I h
  exact wpAny_Call_Name_kw (ld_glob I hg g (PySem.W.callWith_K (h₀ := X.base) I.ok.mod.kin kp (thn (ha.run pos pins s σ H _ I h) fun us s1 ⟨vs, H1, I1, r, q⟩ =>
    ⟨I1.kIn, runGd F hr b vd hx I1 r q⟩) he hpl) hdb)
theorem shs_app {G : Hp} : ∀ {ss : List Sh} {o : Ow} {vs : List V} {ds : List Sh} {ws : List V}, Shs ss G o vs → Shs ds G [] ws → Shs (ss ++ ds) G o (vs ++ ws)
  | [], o, vs, ds, ws, ⟨e1, e2⟩, h => by
    subst e1 e2
    exact h
  | s :: ss, o, vs, ds, ws, ⟨v, vr, o1, o2, e1, e2, p1, p2⟩, h => by
    subst e1 e2
    exact ⟨v, vr ++ ws, o1, o2, rfl, rfl, p1, shs_app p2 h⟩
/-- x(e, ..), the rest at its defaults; nothing is lent -/
theorem ej_callD (C : CalD X.prog X.w X.K X.mg X.base k x ps (spS n Φ) dvs) (hr : RoomG k X.A) (hg : Gl X x) (hx : Passes CX0 X E) (ha : AJ X (e :: es) Γ m (ss.map As.val)) (hd : ∀ G, Shs dss G [] dvs) (hΦ : Φ (ss ++ dss) r []) (hn : ss.length + dvs.length = n := by rfl) (hdb : (x == ("__debug__" : Str)) = false := by decide)
    (he : starEach (e :: es) X.env = (false, eval e X.env) :: starEach es X.env := by rfl) (hpl : (backTo pos (starEach es X.env)).any (·.1) = false := by rfl) : EJ X (.Call (.Name x p) (e :: es) [] pos) Γ m r :=
  pe_to (pe_callD C hr hg hx ha hdb he hpl) fun σ H Q ⟨G, os, F, hh, st, k⟩ => ⟨G, os, F, hh, st, fun vs G1 o1 os1 H1 sm1 h1 af1 ap1 =>
    ⟨G1, o1, os1 ++ F, ss ++ dss, r, [], by rw [List.length_append, (asp_vals ap1).len, hn], h1, shs_app (asp_vals ap1) (hd G1), hΦ, fun v G' o' ow' H' sm h' pr (lt : ow' = []) => k v G' o' os1 H' (sm1.trans sm) (by subst lt; exact h') (af1.mono sm) pr⟩⟩
theorem shs_df {a : Addr} {G : Hp} : Shs [fz (tDf a) ()] G [] [.ref a] := ⟨.ref a, [], [], [], rfl, rfl, ⟨rfl, rfl⟩, rfl, rfl⟩
/-! ### [e, *x] -/
theorem ej_starD {a : Addr} {q : Pos} {y : α} (hK : ∀ H : Hp, SqT X.K H a []) (he : EJ X e Γ m1 (fz τ y)) (ho : EJ X o (out Γ m1) none (fz (tDf a) ())) (hs1 : starEach (e :: [.Starred o q]) X.env = (false, eval e X.env) :: starEach [.Starred o q] X.env := by rfl) (hs2 : starEach (.Starred o q :: []) X.env = (true, eval o X.env) :: starEach [] X.env := by rfl) : EJ X (.List [e, .Starred o q] pos) Γ m1 (oL τ [y]) :=
  pe_to (pe_lst (pa_cons he (StX.pa_star ho pa_nil hs2) hs1)) fun σ H Q ⟨G, os, F, hh, st, k⟩ => go_tlst (go_cons ⟨G, os, F, hh, st, fun v G1 o1 os1 H1 sm1 h1 af1 ⟨eo, p1⟩ => by
    subst eo
    exact ⟨G1, os1, F, h1, af1.st st sm1, fun v2 G2 o2 os2 H2 sm2 h2 (e2 : os2 = os1) ⟨eo2, (ev2 : v2 = .ref a)⟩ => by
      subst e2 eo2
      refine ⟨a, [], ev2, .inl (hK H2), go_nil ⟨Nat.le_trans (show ([v] : List V).length ≤ 40 from by simp) (by decide), fun z nz => ?_⟩⟩
      have h2' : HH G2 (os2 ++ F) H2 := h2
      exact k (.ref z) G2 [(z, .lst [v])] os2 _ (sm1.trans sm2) (h2'.push nz) (af1.mono sm2) ⟨z, [v], rfl, rfl, .cons (τ.mono sm2 p1) .nil⟩⟩⟩)
end
end Sl

set_option Elab.async false
set_option linter.all false
set_option maxRecDepth 100000
set_option maxHeartbeats 4000000
namespace Sl
open PySem PySem.Spec PySem.W PySem.Calls PyProof.Rows L2 Dl
/-! ### zip over two sources of any kind -/
/-- what a list and its iterator have in common with a tuple and its -/
structure ItK (prog : Program) (w : World) where
  It : Heap → Addr → Addr → Nat → Prop
  Sq : Heap → Addr → Array Value → Prop
  itAt : ∀ {h h' : Heap} {i l : Addr} {k : Nat}, It h i l k → (∀ o, h.get? i = some o → h'.get? i = some o) → It h' i l k
  sqAt : ∀ {h h' : Heap} {l : Addr} {xs : Array Value}, Sq h l xs → (∀ o, h.get? l = some o → h'.get? l = some o) → Sq h' l xs
  itTh : ∀ {h : Heap} {i l : Addr} {k : Nat}, It h i l k → ∃ o, h.get? i = some o
  sqTh : ∀ {h : Heap} {l : Addr} {xs : Array Value}, Sq h l xs → ∃ o, h.get? l = some o
  item : ∀ {A : Around} {E : Value → Shared → Prop} {s : Shared} {i l : Addr} {k : Nat} {xs : Array Value} {x : Value} {Q : Value → Shared → Prop}, It s.heap i l k → Sq s.heap l xs → xs[k]? = some x →
    (∀ h', It h' i l (k + 1) → Heap.SameBut i s.heap h' → Q x { s with heap := h' }) → wpAny (model prog w) A (Builtin.SmallTypes.nextOf (.ref i)) Q E s
  fin : ∀ {A : Around} {E : Value → Shared → Prop} {s : Shared} {i l : Addr} {k : Nat} {xs : Array Value} {Q : Value → Shared → Prop}, A.handled = none → It s.heap i l k → Sq s.heap l xs → xs[k]? = none →
    (∀ h' e, Heap.ExtBut i s.heap h' → (∃ o, h'.get? e = some o ∧ o.cls = .type "StopIteration") → E (.ref e) { s with heap := h' }) → wpAny (model prog w) A (Builtin.SmallTypes.nextOf (.ref i)) Q E s
def itL (prog : Program) (w : World) : ItK prog w := ⟨Heap.IsListIter, Heap.IsList, fun x e => x.at e, fun x e => x.at e, fun ⟨_, e, _⟩ => ⟨_, e⟩, fun ⟨_, e, _⟩ => ⟨_, e⟩, wpAny_nextOf_list_item, wpAny_nextOf_list_end⟩
def itT (prog : Program) (w : World) : ItK prog w := ⟨Heap.IsTupleIter, Heap.IsTuple, fun x e => x.at e, fun x e => x.at e, fun ⟨_, e, _⟩ => ⟨_, e⟩, fun ⟨_, e, _⟩ => ⟨_, e⟩, RZ.nextOf_tuple_item, RZ.nextOf_tuple_end⟩
section
variable {prog : Program} {w : World} (K1 K2 : ItK prog w) {A : Around} {E : Value → Shared → Prop} {s : Shared} {z TI TO i1 i2 l1 l2 T : Addr} {k1 k2 : Nat} {xs ys : Array Value}
/-- where a zip stands: its two sources -/
structure ZSrc (h : Heap) (TI i1 i2 l1 l2 : Addr) (xs ys : Array Value) (k1 k2 : Nat) : Prop where
  ti : IsPair h TI (.ref i1) (.ref i2)
  a : K1.It h i1 l1 k1
  b : K2.It h i2 l2 k2
  la : K1.Sq h l1 xs
  lb : K2.Sq h l2 ys
variable {K1 K2}
theorem ZSrc.at {h h' : Heap} (Z : ZSrc K1 K2 h TI i1 i2 l1 l2 xs ys k1 k2) (D : ZipApart z TI TO i1 i2 l1 l2) (k : ∀ c o, c ≠ z → c ≠ TO → h.get? c = some o → h'.get? c = some o) : ZSrc K1 K2 h' TI i1 i2 l1 l2 xs ys k1 k2 :=
  ⟨k _ _ D.TIz D.TITO Z.ti, K1.itAt Z.a fun o => k _ o D.i1z D.TOi1.symm, K2.itAt Z.b fun o => k _ o D.i2z D.TOi2.symm, K1.sqAt Z.la fun o => k _ o D.l1z D.l1TO, K2.sqAt Z.lb fun o => k _ o D.l2z D.l2TO⟩
/-- the first source is asked -/
theorem ZSrc.one {h : Heap} {x : Value} {R : Value → Shared → Prop} (D : ZipApart z TI TO i1 i2 l1 l2) (Z : ZSrc K1 K2 s.heap TI i1 i2 l1 l2 xs ys k1 k2) (hx : xs[k1]? = some x)
    (q : ∀ h', ZSrc K1 K2 h' TI i1 i2 l1 l2 xs ys (k1 + 1) k2 → Heap.SameBut i1 s.heap h' → R x { s with heap := h' }) : wpAny (model prog w) A (Builtin.SmallTypes.nextOf (.ref i1)) R E s :=
  K1.item Z.a Z.la hx fun h' a' sb => q h' ⟨sb.extBut _ _ D.TIi1 Z.ti, a', K2.itAt Z.b fun o => sb.extBut _ o D.i12.symm, K1.sqAt Z.la fun o => sb.extBut _ o D.l1i1, K2.sqAt Z.lb fun o => sb.extBut _ o D.l2i1⟩ sb
theorem ZSrc.two {y : Value} {R : Value → Shared → Prop} (D : ZipApart z TI TO i1 i2 l1 l2) (Z : ZSrc K1 K2 s.heap TI i1 i2 l1 l2 xs ys k1 k2) (hy : ys[k2]? = some y)
    (q : ∀ h', ZSrc K1 K2 h' TI i1 i2 l1 l2 xs ys k1 (k2 + 1) → Heap.SameBut i2 s.heap h' → R y { s with heap := h' }) : wpAny (model prog w) A (Builtin.SmallTypes.nextOf (.ref i2)) R E s :=
  K2.item Z.b Z.lb hy fun h' b' sb => q h' ⟨sb.extBut _ _ D.TIi2 Z.ti, K1.itAt Z.a fun o => sb.extBut _ o D.i12, b', K1.sqAt Z.la fun o => sb.extBut _ o D.l1i2, K2.sqAt Z.lb fun o => sb.extBut _ o D.l2i2⟩ sb
/-- all but what a zip turns stays -/
def ZKp (z TO i1 i2 : Addr) (h h' : Heap) : Prop := ∀ c o, c ≠ z → c ≠ TO → c ≠ i1 → c ≠ i2 → h.get? c = some o → h'.get? c = some o
/-- a fresh zip gives its first pair -/
theorem zipG_item {x y a b : Value} {Q : Value → Shared → Prop} (D : ZipApart z TI TO i1 i2 l1 l2) (hz : IsZip s.heap z TI TO .none) (hTO : IsPair s.heap TO a b) (Z : ZSrc K1 K2 s.heap TI i1 i2 l1 l2 xs ys k1 k2) (hx : xs[k1]? = some x) (hy : ys[k2]? = some y)
    (hQ : ∀ h', IsZip h' z TI TO (rawInt s.heap.objs.size) → ZSrc K1 K2 h' TI i1 i2 l1 l2 xs ys (k1 + 1) (k2 + 1) → IsPair h' s.heap.objs.size x y → ZKp z TO i1 i2 s.heap h' → Q (.ref s.heap.objs.size) { s with heap := h' }) :
    wpAny (model prog w) A (Builtin.«zip.__next__» ⟨[.ref z], []⟩) (fun fin s' => ∃ v, fin = .done (.ret v) ∧ Q v s') E s := by
  show wpAny _ _ (field (.ref z) 2 >>= _) _ _ _
  refine wpAny_bind (wpAny_field hz rfl (x := .bool false) rfl ?_)
  show wpAny _ _ (field (.ref z) 3 >>= _) _ _ _
  refine wpAny_bind (wpAny_field hz rfl (x := .ref TI) rfl (wpAny_bind (wpAny_seqItems Z.ti rfl ?_)))
  show wpAny _ _ (Builtin.SmallTypes.ownedTupleIsFree (.ref z) >>= _) _ _ _
  refine wpAny_bind ?_
  unfold Builtin.SmallTypes.ownedTupleIsFree
  refine wpAny_bind (wpAny_field hz rfl (x := .none) rfl (wpAny_pure ?_))
  simp only [if_true]
  refine wpAny_bind (wpAny_rule (wpAny_bind (wpAny_field hz rfl (x := .ref TO) rfl ?_)))
  refine wpAny_bind (wpAny_setField_rec hz (by simp) fun ha za sa => wpAny_bind ?_)
  replace za : IsZip ha z TI TO .ellipsis := za
  have Za := Z.at (h' := ha) D fun c o c1 _ => sa.extBut c o c1
  simp only [List.zipIdx_cons, List.zipIdx_nil, List.forIn_cons, List.forIn_nil]
  refine wpAny_bind (wpAny_bind (wpAny_onRaise ?_))
  show wpAny _ _ (Builtin.SmallTypes.nextOf (.ref i1) >>= _) _ _ _
  refine wpAny_bind (ZSrc.one (s := { s with heap := ha }) (h := ha) D Za hx fun hb Zb sb => wpAny_pure ?_)
  have tb : IsPair hb TO a b := sb.extBut _ _ D.TOi1 (sa.extBut _ _ D.TOz hTO)
  refine wpAny_bind (wpAny_seqItems tb rfl (wpAny_bind (wpAny_updateSeq_pair tb fun hc tc sc => wpAny_bind (wpAny_letGo (wpAny_pure ?_)))))
  replace tc : IsPair hc TO x b := tc
  have Zc := Zb.at (h' := hc) D fun c o _ c2 => sc.extBut c o c2
  refine wpAny_bind (wpAny_bind (wpAny_onRaise ?_))
  show wpAny _ _ (Builtin.SmallTypes.nextOf (.ref i2) >>= _) _ _ _
  refine wpAny_bind (ZSrc.two (s := { s with heap := hc }) D Zc hy fun hd Zd sd => wpAny_pure ?_)
  have td : IsPair hd TO x b := sd.extBut _ _ D.TOi2 tc
  refine wpAny_bind (wpAny_seqItems td rfl (wpAny_bind (wpAny_updateSeq_pair td fun he te se => wpAny_bind (wpAny_letGo (wpAny_pure (wpAny_pure ?_))))))
  replace te : IsPair he TO x y := te
  have Ze := Zd.at (h' := he) D fun c o _ c2 => se.extBut c o c2
  have ze : IsZip he z TI TO .ellipsis := se.extBut _ _ D.TOz.symm (sd.extBut _ _ D.i2z.symm (sc.extBut _ _ D.TOz.symm (sb.extBut _ _ D.i1z.symm za)))
  have ne : he.objs.size = s.heap.objs.size := by rw [se.1, sd.1, sc.1, sb.1, sa.1]
  have ke : ZKp z TO i1 i2 s.heap he := fun c o c1 c2 c3 c4 e => se.extBut _ _ c2 (sd.extBut _ _ c4 (sc.extBut _ _ c2 (sb.extBut _ _ c3 (sa.extBut _ _ c1 e))))
  refine wpAny_bind (wpAny_seqItems te rfl (wpAny_bind (wpAny_newTuple ?_)))
  show wpAny _ _ (Builtin.SmallTypes.ownedTupleHandOut (.ref z) (.ref he.objs.size) >>= _) _ _ _
  refine wpAny_bind ?_
  unfold Builtin.SmallTypes.ownedTupleHandOut
  have zp : IsZip (he.push { cls := .type "tuple", data := .seq #[x, y] }) z TI TO .ellipsis := Heap.get?_push_of_some _ ze
  refine wpAny_bind (wpAny_setField_rec zp (by simp) fun hf zf sf => ?_)
  replace zf : IsZip hf z TI TO (rawInt he.objs.size) := zf
  refine wpAny_setField_rec zf (by simp) fun hg zg sg => wpAny_pure ⟨_, rfl, ?_⟩
  replace zg : IsZip hg z TI TO (rawInt he.objs.size) := zg
  have up : ∀ c o, c ≠ z → he.get? c = some o → hg.get? c = some o := fun c o c1 e => sg.extBut _ _ c1 (sf.extBut _ _ c1 (Heap.get?_push_of_some _ e))
  have lz : he.objs.size ≠ z := Nat.ne_of_gt (Heap.lt_size ze)
  have tg : IsPair hg he.objs.size x y := sg.extBut _ _ lz (sf.extBut _ _ lz (Heap.get?_push_size _ rfl))
  show Q (.ref he.objs.size) _
  rw [ne] at zg tg ⊢
  exact hQ hg zg (Ze.at D fun c o c1 _ e => up c o c1 e) tg fun c o c1 c2 c3 c4 e => up c o c1 (ke c o c1 c2 c3 c4 e)
/-- a zip whose pair is still held gives a new one -/
theorem zipG_itemH {x y : Value} {f : Bool} {oT : Obj} {Q : Value → Shared → Prop} (D : ZipApart z TI TO i1 i2 l1 l2) (hz : IsZipHeld s.heap z TI TO T f) (hT : s.heap.get? T = some oT) (Z : ZSrc K1 K2 s.heap TI i1 i2 l1 l2 xs ys k1 k2) (hx : xs[k1]? = some x) (hy : ys[k2]? = some y)
    (hQ : ∀ h', IsZipHeld h' z TI TO T true → ZSrc K1 K2 h' TI i1 i2 l1 l2 xs ys (k1 + 1) (k2 + 1) → IsPair h' s.heap.objs.size x y → ZKp z z i1 i2 s.heap h' → Q (.ref s.heap.objs.size) { s with heap := h' }) :
    wpAny (model prog w) A (Builtin.«zip.__next__» ⟨[.ref z], []⟩) (fun fin s' => ∃ v, fin = .done (.ret v) ∧ Q v s') E s := by
  show wpAny _ _ (field (.ref z) 2 >>= _) _ _ _
  refine wpAny_bind (wpAny_field hz rfl (x := .bool false) rfl ?_)
  show wpAny _ _ (field (.ref z) 3 >>= _) _ _ _
  refine wpAny_bind (wpAny_field hz rfl (x := .ref TI) rfl (wpAny_bind (wpAny_seqItems Z.ti rfl ?_)))
  show wpAny _ _ (Builtin.SmallTypes.ownedTupleIsFree (.ref z) >>= _) _ _ _
  refine wpAny_bind (wpAny_tupleHeld_zip hz hT fun ha za sa => ?_)
  have Za := Z.at (h' := ha) D fun c o c1 _ => sa.extBut c o c1
  simp only [Bool.false_eq_true, if_false]
  refine wpAny_bind ?_
  rw [← Array.forIn_toList]
  simp only [List.forIn_cons, List.forIn_nil]
  refine wpAny_bind (wpAny_bind (wpAny_holding ?_))
  show wpAny _ _ (Builtin.SmallTypes.nextOf (.ref i1) >>= _) _ _ _
  refine wpAny_bind (ZSrc.one (s := { s with heap := ha }) (h := ha) D Za hx fun hb Zb sb => wpAny_pure (wpAny_pure ?_))
  refine wpAny_bind (wpAny_bind (wpAny_holding ?_))
  show wpAny _ _ (Builtin.SmallTypes.nextOf (.ref i2) >>= _) _ _ _
  refine wpAny_bind (ZSrc.two (s := { s with heap := hb }) D Zb hy fun hc Zc sc => wpAny_pure (wpAny_pure (wpAny_pure ?_)))
  show wpAny _ _ (newTuple [x, y] >>= _) _ _ _
  refine wpAny_bind (wpAny_newTuple (wpAny_pure ⟨_, rfl, ?_⟩))
  have ne : hc.objs.size = s.heap.objs.size := by rw [sc.1, sb.1, sa.1]
  have zc : IsZipHeld hc z TI TO T true := sc.extBut _ _ D.i2z.symm (sb.extBut _ _ D.i1z.symm za)
  have tp : IsPair (hc.push { cls := .type "tuple", data := .seq #[x, y] }) hc.objs.size x y := Heap.get?_push_size _ rfl
  show Q (.ref hc.objs.size) _
  rw [ne] at tp ⊢
  exact hQ _ (Heap.get?_push_of_some _ zc) (Zc.at D fun c o _ _ e => Heap.get?_push_of_some _ e) tp fun c o c1 _ c3 c4 e => Heap.get?_push_of_some _ (sc.extBut _ _ c4 (sb.extBut _ _ c3 (sa.extBut _ _ c1 e)))
/-- a fresh zip that is at its end -/
theorem zipG_end {a b : Value} {Q : Fin → Shared → Prop} (hh : A.handled = none) (D : ZipApart z TI TO i1 i2 l1 l2) (hz : IsZip s.heap z TI TO .none) (hTO : IsPair s.heap TO a b) (Z : ZSrc K1 K2 s.heap TI i1 i2 l1 l2 xs ys k1 k2) (hend : xs[k1]? = none ∨ ys[k2]? = none)
    (hE : ∀ h' e, ZKp z TO i1 i2 s.heap h' → (∃ o, h'.get? e = some o ∧ o.cls = .type "StopIteration") → E (.ref e) { s with heap := h' }) :
    wpAny (model prog w) A (Builtin.«zip.__next__» ⟨[.ref z], []⟩) Q E s := by
  show wpAny _ _ (field (.ref z) 2 >>= _) _ _ _
  refine wpAny_bind (wpAny_field hz rfl (x := .bool false) rfl ?_)
  show wpAny _ _ (field (.ref z) 3 >>= _) _ _ _
  refine wpAny_bind (wpAny_field hz rfl (x := .ref TI) rfl (wpAny_bind (wpAny_seqItems Z.ti rfl ?_)))
  show wpAny _ _ (Builtin.SmallTypes.ownedTupleIsFree (.ref z) >>= _) _ _ _
  refine wpAny_bind ?_
  unfold Builtin.SmallTypes.ownedTupleIsFree
  refine wpAny_bind (wpAny_field hz rfl (x := .none) rfl (wpAny_pure ?_))
  simp only [if_true]
  refine wpAny_bind (wpAny_rule (wpAny_bind (wpAny_field hz rfl (x := .ref TO) rfl ?_)))
  refine wpAny_bind (wpAny_setField_rec hz (by simp) fun ha za sa => wpAny_bind ?_)
  replace za : IsZip ha z TI TO .ellipsis := za
  have Za := Z.at (h' := ha) D fun c o c1 _ => sa.extBut c o c1
  simp only [List.zipIdx_cons, List.zipIdx_nil, List.forIn_cons, List.forIn_nil]
  refine wpAny_bind (wpAny_bind (wpAny_onRaise ?_))
  show wpAny _ _ (Builtin.SmallTypes.nextOf (.ref i1) >>= _) _ _ _
  have stop : ∀ {h' : Heap} {e : Addr}, IsZip h' z TI TO .ellipsis → ZKp z TO i1 i2 s.heap h' → (∃ o, h'.get? e = some o ∧ o.cls = .type "StopIteration") → ∀ {R : Unit → Shared → Prop}, (∀ h2, ZKp z TO i1 i2 s.heap h2 → (∃ o, h2.get? e = some o ∧ o.cls = .type "StopIteration") → R () { s with heap := h2 }) →
      wpAny (model prog w) A (setField (.ref z) 0 .none) R E { s with heap := h' } := fun {h' e} zz kk ⟨oe, he, ce⟩ {R} q => by
    have ne : e ≠ z := fun x => by
      subst x
      rw [zz] at he
      cases he
      simp at ce
    exact wpAny_setField_rec zz (by simp) fun h3 _ s3 => q h3 (fun c o c1 c2 c3 c4 x => s3.extBut _ _ c1 (kk c o c1 c2 c3 c4 x)) ⟨oe, s3.extBut _ _ ne he, ce⟩
  cases hx : xs[k1]? with
  | none =>
    refine wpAny_bind (K1.fin (s := { s with heap := ha }) hh Za.a Za.la hx fun hb e sb he => ?_)
    exact stop (sb _ _ D.i1z.symm za) (fun c o c1 _ c3 _ x => sb _ _ c3 (sa.extBut _ _ c1 x)) he fun h2 k2 q2 => hE h2 e k2 q2
  | some x =>
    have hy : ys[k2]? = none := by
      rcases hend with q | q
      · rw [hx] at q
        cases q
      · exact q
    refine wpAny_bind (ZSrc.one (s := { s with heap := ha }) (h := ha) D Za hx fun hb Zb sb => wpAny_pure ?_)
    have tb : IsPair hb TO a b := sb.extBut _ _ D.TOi1 (sa.extBut _ _ D.TOz hTO)
    refine wpAny_bind (wpAny_seqItems tb rfl (wpAny_bind (wpAny_updateSeq_pair tb fun hc tc sc => wpAny_bind (wpAny_letGo (wpAny_pure ?_)))))
    have Zc := Zb.at (h' := hc) D fun c o _ c2 => sc.extBut c o c2
    refine wpAny_bind (wpAny_bind (wpAny_onRaise ?_))
    show wpAny _ _ (Builtin.SmallTypes.nextOf (.ref i2) >>= _) _ _ _
    refine wpAny_bind (K2.fin (s := { s with heap := hc }) hh Zc.b Zc.lb hy fun hd e sd he => ?_)
    exact stop (sd _ _ D.i2z.symm (sc.extBut _ _ D.TOz.symm (sb.extBut _ _ D.i1z.symm za))) (fun c o c1 c2 c3 c4 x => sd _ _ c4 (sc.extBut _ _ c2 (sb.extBut _ _ c3 (sa.extBut _ _ c1 x)))) he fun h2 k2 q2 => hE h2 e k2 q2
theorem zipG_endH {f : Bool} {oT : Obj} {Q : Fin → Shared → Prop} (hh : A.handled = none) (D : ZipApart z TI TO i1 i2 l1 l2) (hz : IsZipHeld s.heap z TI TO T f) (hT : s.heap.get? T = some oT) (Z : ZSrc K1 K2 s.heap TI i1 i2 l1 l2 xs ys k1 k2) (hend : xs[k1]? = none ∨ ys[k2]? = none)
    (hE : ∀ h' e, ZKp z z i1 i2 s.heap h' → (∃ o, h'.get? e = some o ∧ o.cls = .type "StopIteration") → E (.ref e) { s with heap := h' }) :
    wpAny (model prog w) A (Builtin.«zip.__next__» ⟨[.ref z], []⟩) Q E s := by
  show wpAny _ _ (field (.ref z) 2 >>= _) _ _ _
  refine wpAny_bind (wpAny_field hz rfl (x := .bool false) rfl ?_)
  show wpAny _ _ (field (.ref z) 3 >>= _) _ _ _
  refine wpAny_bind (wpAny_field hz rfl (x := .ref TI) rfl (wpAny_bind (wpAny_seqItems Z.ti rfl ?_)))
  show wpAny _ _ (Builtin.SmallTypes.ownedTupleIsFree (.ref z) >>= _) _ _ _
  refine wpAny_bind (wpAny_tupleHeld_zip hz hT fun ha za sa => ?_)
  have Za := Z.at (h' := ha) D fun c o c1 _ => sa.extBut c o c1
  simp only [Bool.false_eq_true, if_false]
  refine wpAny_bind ?_
  rw [← Array.forIn_toList]
  simp only [List.forIn_cons, List.forIn_nil]
  refine wpAny_bind (wpAny_bind (wpAny_holding ?_))
  show wpAny _ _ (Builtin.SmallTypes.nextOf (.ref i1) >>= _) _ _ _
  cases hx : xs[k1]? with
  | none => exact wpAny_bind (K1.fin (s := { s with heap := ha }) hh Za.a Za.la hx fun hb e sb he => hE hb e (fun c o c1 _ c3 _ x => sb _ _ c3 (sa.extBut _ _ c1 x)) he)
  | some x =>
    have hy : ys[k2]? = none := by
      rcases hend with q | q
      · rw [hx] at q
        cases q
      · exact q
    refine wpAny_bind (ZSrc.one (s := { s with heap := ha }) (h := ha) D Za hx fun hb Zb sb => wpAny_pure (wpAny_pure ?_))
    refine wpAny_bind (wpAny_bind (wpAny_holding ?_))
    show wpAny _ _ (Builtin.SmallTypes.nextOf (.ref i2) >>= _) _ _ _
    exact wpAny_bind (K2.fin (s := { s with heap := hb }) hh Zb.b Zb.lb hy fun hc e sc he => hE hc e (fun c o c1 _ c3 c4 x => sc _ _ c4 (sb.extBut _ _ c3 (sa.extBut _ _ c1 x))) he)
/-- what dict(), list(), .. take of a zip -/
theorem pairG (prog : Program) (w : World) (K1 K2 : ItK prog w) (z TI TO i1 i2 l1 l2 : Addr) (D : ZipApart z TI TO i1 i2 l1 l2) (xs ys : Array Value) :
    PairArg prog w "zip" z [z, TI, TO, i1, i2, l1, l2] [z, TO, i1, i2] (min xs.size ys.size) (fun i k v => xs[i]? = some k ∧ ys[i]? = some v)
      (fun h => IsZip h z TI TO .none ∧ (∃ a b, IsPair h TO a b) ∧ ZSrc K1 K2 h TI i1 i2 l1 l2 xs ys 0 0) where
  type := fun s ok => ⟨_, ok.1, rfl⟩
  notDict := by decide
  keep := fun h h' ok hk => by
    obtain ⟨hz, ⟨a, b, hTO⟩, Z⟩ := ok
    exact ⟨hk _ _ hz, ⟨a, b, hk _ _ hTO⟩, Z.at D fun c o _ _ => hk c o⟩
  there := fun h ok b hb => by
    obtain ⟨hz, ⟨a, c, hTO⟩, Z⟩ := ok
    simp only [List.mem_cons, List.not_mem_nil, or_false] at hb
    rcases hb with rfl | rfl | rfl | rfl | rfl | rfl | rfl
    · exact ⟨_, hz⟩
    · exact ⟨_, Z.ti⟩
    · exact ⟨_, hTO⟩
    · exact K1.itTh Z.a
    · exact K2.itTh Z.b
    · exact K1.sqTh Z.la
    · exact K2.sqTh Z.lb
  sub := fun b hb => by
    simp at hb ⊢
    rcases hb with rfl | rfl | rfl | rfl <;> simp
  noKeys := fun A s Q E hA ok h => getAttrOr_miss_zip ok.1 rfl rfl rfl zip_no_keys (by decide +kernel) hA h
  iter := fun A s d Q E hA ok hd hdf h => by
    obtain ⟨hz, ⟨a, b, hTO⟩, Z⟩ := ok
    simp only [List.mem_cons, List.not_mem_nil, or_false, not_or] at hdf
    obtain ⟨dz, dTI, dTO, di1, di2, dl1, dl2⟩ := hdf
    refine wpAny_pyIter_zip hz (h z [z, TO, i1, i2] (fun i h => ZSrc K1 K2 h TI i1 i2 l1 l2 xs ys i i ∧ ((IsZip h z TI TO .none ∧ ∃ a b, IsPair h TO a b) ∨ ∃ T f oT, IsZipHeld h z TI TO T f ∧ h.get? T = some oT ∧ T ≠ z ∧ T ≠ i1 ∧ T ≠ i2 ∧ T ≠ d)) s.heap s.toks ?_
      ⟨Z, .inl ⟨hz, a, b, hTO⟩⟩ (fun _ _ e => e) fun b hb => .inl hb)
    refine ⟨fun hm => ?_, fun i g1 g2 st hk => ?_, fun i s1 Q1 E1 hi st hds hQ => ?_, fun s1 Q1 E1 st hQ => ?_⟩
    · simp only [List.mem_cons, List.not_mem_nil, or_false] at hm
      rcases hm with e | e | e | e
      · exact dz e
      · exact dTO e
      · exact di1 e
      · exact di2 e
    · obtain ⟨Z1, hz1⟩ := st
      refine ⟨⟨hk _ _ (Ne.symm dTI) Z1.ti, K1.itAt Z1.a fun o => hk _ o (Ne.symm di1), K2.itAt Z1.b fun o => hk _ o (Ne.symm di2), K1.sqAt Z1.la fun o => hk _ o (Ne.symm dl1), K2.sqAt Z1.lb fun o => hk _ o (Ne.symm dl2)⟩, ?_⟩
      rcases hz1 with ⟨q, a1, b1, q2⟩ | ⟨T1, f1, o1, q, q2, r1, r2, r3, r4⟩
      · exact .inl ⟨hk _ _ (Ne.symm dz) q, a1, b1, hk _ _ (Ne.symm dTO) q2⟩
      · exact .inr ⟨T1, f1, o1, hk _ _ (Ne.symm dz) q, hk _ _ r4 q2, r1, r2, r3, r4⟩
    · obtain ⟨Z1, hz1⟩ := st
      have ex := Array.getElem?_eq_getElem (xs := xs) (i := i) (Nat.lt_of_lt_of_le hi (Nat.min_le_left ..))
      have ey := Array.getElem?_eq_getElem (xs := ys) (i := i) (Nat.lt_of_lt_of_le hi (Nat.min_le_right ..))
      have lt : ∀ {c : Addr}, (∃ o, s1.heap.get? c = some o) → s1.heap.objs.size ≠ c := fun ⟨_, e⟩ => Nat.ne_of_gt (Heap.lt_size e)
      have n1 := lt (K1.itTh Z1.a)
      have n2 := lt (K2.itTh Z1.b)
      rcases hz1 with ⟨q, a1, b1, q2⟩ | ⟨T1, f1, o1, q, q2, r1, r2, r3, r4⟩
      · have hT : s1.TypeIs (.ref z) "zip" := ⟨_, q, rfl⟩
        unfold pyNext
        refine wpAny_bind (wpAny_attempt (wpAny_callSpecial?_slot (name := Str.ofString "__next__") hT F.slot_zip_next (wpAny_call_entry F.slot_zip_next hT F.entry_zip_next
          (zipG_item D q q2 Z1 ex ey fun h' c1 c2 c3 c4 => wpAny_pure ?_) (F.args_zip_next_1 _))))
        exact hQ s1.heap.objs.size _ _ h' s1.toks ⟨ex, ey⟩ (.inl ⟨_, c3, rfl, _, rfl⟩) ⟨c2, .inr ⟨s1.heap.objs.size, false, _, c1, c3, lt ⟨_, q⟩, n1, n2, Nat.ne_of_gt hds⟩⟩
          fun c o hc e => c4 c o (fun x => hc (by simp [x])) (fun x => hc (by simp [x])) (fun x => hc (by simp [x])) (fun x => hc (by simp [x])) e
      · have hT : s1.TypeIs (.ref z) "zip" := ⟨_, q, rfl⟩
        unfold pyNext
        refine wpAny_bind (wpAny_attempt (wpAny_callSpecial?_slot (name := Str.ofString "__next__") hT F.slot_zip_next (wpAny_call_entry F.slot_zip_next hT F.entry_zip_next
          (zipG_itemH D q q2 Z1 ex ey fun h' c1 c2 c3 c4 => wpAny_pure ?_) (F.args_zip_next_1 _))))
        exact hQ s1.heap.objs.size _ _ h' s1.toks ⟨ex, ey⟩ (.inl ⟨_, c3, rfl, _, rfl⟩) ⟨c2, .inr ⟨T1, true, o1, c1, c4 _ _ r1 r1 r2 r3 q2, r1, r2, r3, r4⟩⟩
          fun c o hc e => c4 c o (fun x => hc (by simp [x])) (fun x => hc (by simp [x])) (fun x => hc (by simp [x])) (fun x => hc (by simp [x])) e
    · obtain ⟨Z1, hz1⟩ := st
      have hend : xs[min xs.size ys.size]? = none ∨ ys[min xs.size ys.size]? = none := by
        rcases Nat.le_total xs.size ys.size with q | q
        · exact .inl (Array.getElem?_eq_none (by rw [Nat.min_eq_left q]; exact Nat.le_refl _))
        · exact .inr (Array.getElem?_eq_none (by rw [Nat.min_eq_right q]; exact Nat.le_refl _))
      rcases hz1 with ⟨q, a1, b1, q2⟩ | ⟨T1, f1, o1, q, q2, r1, r2, r3, r4⟩
      · have hT : s1.TypeIs (.ref z) "zip" := ⟨_, q, rfl⟩
        unfold pyNext
        refine wpAny_bind (wpAny_attempt (wpAny_callSpecial?_slot (name := Str.ofString "__next__") hT F.slot_zip_next (wpAny_call_entry F.slot_zip_next hT F.entry_zip_next
          (zipG_end hA D q q2 Z1 hend fun h' e hk he => ?_) (F.args_zip_next_1 _))))
        obtain ⟨o, ho, hc⟩ := he
        refine wpAny_bind (wpAny_isInstance (T := "StopIteration") (b := true) ⟨o, ho, hc⟩ isSubtype_stop (wpAny_pure (hQ _ s1.toks fun c o hc e => hk c o (fun x => hc (by simp [x])) (fun x => hc (by simp [x])) (fun x => hc (by simp [x])) (fun x => hc (by simp [x])) e)))
      · have hT : s1.TypeIs (.ref z) "zip" := ⟨_, q, rfl⟩
        unfold pyNext
        refine wpAny_bind (wpAny_attempt (wpAny_callSpecial?_slot (name := Str.ofString "__next__") hT F.slot_zip_next (wpAny_call_entry F.slot_zip_next hT F.entry_zip_next
          (zipG_endH hA D q q2 Z1 hend fun h' e hk he => ?_) (F.args_zip_next_1 _))))
        obtain ⟨o, ho, hc⟩ := he
        refine wpAny_bind (wpAny_isInstance (T := "StopIteration") (b := true) ⟨o, ho, hc⟩ isSubtype_stop (wpAny_pure (hQ _ s1.toks fun c o hc e => hk c o (fun x => hc (by simp [x])) (fun x => hc (by simp [x])) (fun x => hc (by simp [x])) (fun x => hc (by simp [x])) e)))
end
end Sl

set_option Elab.async false
set_option linter.all false
set_option maxRecDepth 100000
set_option maxHeartbeats 4000000
namespace Sl
open PySem PySem.Spec PySem.W PySem.Calls PyProof.Rows L2 Dl
/-! ### dict(zip(list, tuple)) -/
abbrev zmH1 (h : Heap) (l1 : Addr) : Heap := h.push { cls := .type "list_iterator", data := .fields #[.ref l1, .int 0 0] }
abbrev zmH2 (h : Heap) (l1 l2 : Addr) : Heap := (zmH1 h l1).push { cls := .type "tuple_iterator", data := .fields #[.ref l2, .int 0 0] }
abbrev zmH3 (h : Heap) (l1 l2 : Addr) : Heap := (zmH2 h l1 l2).push { cls := .type "tuple", data := .seq #[.ref h.objs.size, .ref (zmH1 h l1).objs.size] }
abbrev zmH4 (h : Heap) (l1 l2 : Addr) : Heap := (zmH3 h l1 l2).push { cls := .type "tuple", data := .seq #[.none, .none] }
abbrev zmH5 (h : Heap) (l1 l2 : Addr) : Heap := (zmH4 h l1 l2).push { cls := .type "zip", data := .fields #[.none, .bool false, .bool false, .ref (zmH2 h l1 l2).objs.size, .ref (zmH3 h l1 l2).objs.size] }
theorem meets_zipM (l1 l2 : Addr) (xs ys : Array Value) :
    Meets (Builtin.«zip.__new__» ⟨[.type "zip", .ref l1, .ref l2], []⟩) (fun _ R s => s.heap.IsList l1 xs ∧ s.heap.IsTuple l2 ys ∧ R (.ok (.ret (.ref (zmH4 s.heap l1 l2).objs.size))) { s with heap := zmH5 s.heap l1 l2 }) :=
  .of_wp fun prog w A R s h => by
    obtain ⟨hp, g, d, tk, os⟩ := s
    obtain ⟨a1, a2, h⟩ := h
    have hsub := sub_zip
    have b1 : Heap.IsList (Shared.heap ⟨hp, g, d, tk, os⟩) l1 xs := a1
    have b2 : Heap.IsTuple (Shared.heap ⟨hp.push { cls := .type "list_iterator", data := .fields #[.ref l1, .int 0 0] }, g, d, tk, os⟩) l2 ys := a2.at fun o e => Heap.get?_push_of_some _ e
    wp_walk using wpAny_pyIter_list b1, wpAny_pyIter_tuple b2
    exact ⟨_, rfl, h⟩
section
variable {prog : Program} {w : World} {A : Around} {E : Value → Shared → Prop} {s : Shared}
theorem call_zipM {l1 l2 : Addr} {xs ys : Array Value} {Q : Value → Shared → Prop} (a1 : s.heap.IsList l1 xs) (a2 : s.heap.IsTuple l2 ys)
    (h : ∀ h', IsZip h' (s.heap.objs.size + 4) (s.heap.objs.size + 2) (s.heap.objs.size + 3) .none → (∃ a b, IsPair h' (s.heap.objs.size + 3) a b) →
      ZSrc (itL prog w) (itT prog w) h' (s.heap.objs.size + 2) s.heap.objs.size (s.heap.objs.size + 1) l1 l2 xs ys 0 0 → h'.objs.size = s.heap.objs.size + 5 →
      (∀ c o, s.heap.get? c = some o → h'.get? c = some o) → Q (.ref (s.heap.objs.size + 4)) { s with heap := h' }) :
    wpAny (model prog w) A (call (.type "zip") [.ref l1, .ref l2]) Q E s := by
  refine callType_new F.called_zip (by decide) (F.typeCall_zip_2 _ _) (F.newCall_zip_2 _ _) (fun obj => F.args_object_init_3 obj _ _) F.entry_zip_new (meets_zipM l1 l2 xs ys) ⟨a1, a2, ?_⟩
  have z1 : (zmH1 s.heap l1).objs.size = s.heap.objs.size + 1 := Heap.size_push ..
  have z2 : (zmH2 s.heap l1 l2).objs.size = s.heap.objs.size + 2 := by rw [Heap.size_push, z1]
  have z3 : (zmH3 s.heap l1 l2).objs.size = s.heap.objs.size + 3 := by rw [Heap.size_push, z2]
  have z4 : (zmH4 s.heap l1 l2).objs.size = s.heap.objs.size + 4 := by rw [Heap.size_push, z3]
  have z5 : (zmH5 s.heap l1 l2).objs.size = s.heap.objs.size + 5 := by rw [Heap.size_push, z4]
  have old : ∀ c o, s.heap.get? c = some o → (zmH5 s.heap l1 l2).get? c = some o := fun c o x => Heap.get?_push_of_some _ (Heap.get?_push_of_some _ (Heap.get?_push_of_some _ (Heap.get?_push_of_some _ (Heap.get?_push_of_some _ x))))
  have g5 : (zmH5 s.heap l1 l2).get? (zmH4 s.heap l1 l2).objs.size = some _ := Heap.get?_push_size _ rfl
  have g4 : (zmH5 s.heap l1 l2).get? (zmH3 s.heap l1 l2).objs.size = some _ := Heap.get?_push_of_some _ (Heap.get?_push_size _ rfl)
  have g3 : (zmH5 s.heap l1 l2).get? (zmH2 s.heap l1 l2).objs.size = some _ := Heap.get?_push_of_some _ (Heap.get?_push_of_some _ (Heap.get?_push_size _ rfl))
  have g2 : (zmH5 s.heap l1 l2).get? (zmH1 s.heap l1).objs.size = some _ := Heap.get?_push_of_some _ (Heap.get?_push_of_some _ (Heap.get?_push_of_some _ (Heap.get?_push_size _ rfl)))
  have g1 : (zmH5 s.heap l1 l2).get? s.heap.objs.size = some _ := Heap.get?_push_of_some _ (Heap.get?_push_of_some _ (Heap.get?_push_of_some _ (Heap.get?_push_of_some _ (Heap.get?_push_size _ rfl))))
  show _ ∧ _
  rw [z2, z3, z4] at g5
  rw [z1, z2] at g3
  rw [z3] at g4
  rw [z1] at g2
  rw [z4]
  exact ⟨⟨_, g5, rfl⟩, h _ g5 ⟨_, _, g4⟩ ⟨g3, ⟨_, g1, rfl, rfl⟩, ⟨_, g2, rfl, rfl⟩, a1.at fun o => old _ o, a2.at fun o => old _ o⟩ z5 old⟩
end
/-- what zip gives to dict: keys, values -/
def tDictZip (X : Cx) (ta : TA) : TE := fun σ H Q => ta σ H fun xs H1 => ∃ (a b : Addr) (ks : List Key) (ys : List V), xs = [.ref a, .ref b] ∧ SqL X.K H1 a (ks.map kV) ∧ SqT X.K H1 b ys ∧ ∀ p, H1 p = none → Q (.ref p) (upd H1 p (.dK (mergeK [] (ks.zip ys))))
theorem kv_zip : ∀ {ks : List Key} {ys : List V} {us ws : List Value}, Vals (ks.map kV) us → Vals ys ws → KV (ks.zip ys) (ks.zip ws)
  | [], _, _, _, _, _ => .nil
  | k :: ks, [], _, _, _, r => by
    cases r
    exact .nil
  | k :: ks, y :: ys, _, _, .cons _ t, .cons r t' => .cons ⟨rfl, r⟩ (kv_zip t t')
theorem pe_dictZip {X : Cx} {e e2 : Expr} {ta : TA} {p p2 q pos : Pos} (hc : X.calm = true) (hg : Gl X "dict") (hm : X.mg "dict" = none) (hg2 : Gl X "zip") (hm2 : X.mg "zip" = none) (ha : PA X [e, e2] ta)
    (hs : starEach [e, e2] X.env = (false, eval e X.env) :: starEach [e2] X.env := by rfl) (hpl : (backTo q (starEach [e2] X.env)).any (·.1) = false := by rfl) :
    PE X (.Call (.Name "dict" p) [.Call (.Name "zip" p2) [e, e2] [] q] [] pos) (tDictZip X ta) := by
  refine ⟨fun pins s σ H Q I h => ?_⟩
  refine Call_ (ld_blt I hg hm bt_dict ?_)
  refine PyProof.Rows.callWith_type1 (PyProof.Rows.args_cons ?_ rfl) rfl rfl
  refine Call_ (ld_blt I hg2 hm2 PyProof.Rows.boot_zip ?_)
  refine PyProof.Rows.callWith_type1 (thn (ha.run q pins s σ H _ I h) fun us s1 ⟨vs, H1, I1, r1, q1⟩ => ?_) hs hpl
  obtain ⟨a, b, ks, ys, rfl, hqx, hqy, q1⟩ := q1
  cases r1 with
  | cons r rr =>
    cases rr with
    | cons r' rr =>
      cases rr
      cases r
      cases r'
      obtain ⟨its, rv, p1, hz1⟩ := I1.list hqx
      obtain ⟨its2, rv2, p2', _⟩ := I1.tuple hqy
      have la : a < s1.heap.objs.size := p1.lt
      have lb : b < s1.heap.objs.size := let ⟨_, e, _⟩ := p2'; Heap.lt_size e
      refine call_zipM p1.isList p2' fun h' hz hTO Z hsz hk => ?_
      refine PyProof.Rows.args_nil ?_
      have D : ZipApart (s1.heap.objs.size + 4) (s1.heap.objs.size + 2) (s1.heap.objs.size + 3) s1.heap.objs.size (s1.heap.objs.size + 1) a b := PySem.W.ktu_apart s1.heap.objs.size a b la lb
      have hh : X.A.handled = none := I1.ok.hd hc
      have e1 : its.length = ks.length := by rw [← rv.length, List.length_map]
      have e2 : its2.length = ys.length := rv2.length.symm
      rw [List.length_map] at hz1
      have kl : (ks.zip its2).length = min its.toArray.size its2.toArray.size := by rw [List.length_zip, List.size_toArray, List.size_toArray, e1]
      refine PySem.call_dict_pairs (s := { s1 with heap := h' }) (knd := mixKind X.prog X.w) (kvs := ks.zip its2) (pairG X.prog X.w (itL X.prog X.w) (itT X.prog X.w) (s1.heap.objs.size + 4) (s1.heap.objs.size + 2) (s1.heap.objs.size + 3) s1.heap.objs.size (s1.heap.objs.size + 1) a b D its.toArray its2.toArray) hh ⟨hz, hTO, Z⟩ ⟨kl, fun i key v hr => ?_⟩ (Nat.le_trans (Nat.min_le_left ..) (by rw [List.size_toArray, e1]; exact hz1)) fun h2 tk hd2 k2 => ?_
      · obtain ⟨x1, x2⟩ := hr
        rw [List.getElem?_toArray] at x1 x2
        obtain ⟨v1, hv1, rv1⟩ := vals_at rv x1
        rw [List.getElem?_map] at hv1
        obtain ⟨k, hk1, hk2⟩ := Option.map_eq_some_iff.mp hv1
        subst hk2
        exact ⟨k, List.getElem?_zip_eq_some.mpr ⟨hk1, x2⟩, kV_is (P := X.prog) (w := X.w) rv1⟩
      · have hd3 : h2.DictOf (mixKind X.prog X.w) h'.objs.size (merged [] (ks.zip its2)) := hd2
        rw [hsz] at hd3
        have rel := kv_zip rv rv2
        have old : ∀ c o, s1.heap.get? c = some o → h2.get? c = some o := fun c o e => by
          have hlt := Heap.lt_size e
          refine k2 c o (fun hm => ?_) (hk c o e)
          simp only [List.mem_cons, List.not_mem_nil, or_false] at hm
          rcases hm with q | q | q | q
          · exact absurd (q ▸ hlt) (Nat.not_lt_of_le (Nat.le_add_right _ _))
          · exact absurd (q ▸ hlt) (Nat.not_lt_of_le (Nat.le_add_right _ _))
          · exact absurd (q ▸ hlt) (Nat.lt_irrefl _)
          · exact absurd (q ▸ hlt) (Nat.not_lt_of_le (Nat.le_add_right _ _))
        have hlen : (mergeK [] (ks.zip ys)).length ≤ sizeLine := by
          refine Nat.le_trans (length_mergeK _ []) ?_
          rw [List.length_nil, Nat.zero_add, List.length_zip]
          exact Nat.le_trans (Nat.min_le_left ..) hz1
        have hb : (s1.heap.objs.size + 5 == sysModules) = false := beq_eq_false_iff_ne.mpr (Nat.ne_of_gt (Nat.lt_of_lt_of_le I1.big (Nat.le_add_right _ _)))
        show EP X pins σ Q (.ref h'.objs.size) _
        rw [hsz]
        exact ⟨.ref (s1.heap.objs.size + 5), _, I1.laid (t' := tk) old (Nat.le_add_right _ _) (show ObjOk X.prog X.w _ _ _ (.dK (mergeK [] (ks.zip ys))) from ⟨hlen, hb, merged [] (ks.zip its2), KV.merge rel .nil, hd3⟩), rfl, q1 _ (I1.hok.fresh (Nat.le_add_right _ _))⟩
section
variable {X : Cx} {Γ : Ct} {m : Option Ct} {α β κ : Type} {τ : Ty β} {p p2 q pos : Pos} {e e2 : Expr} {ys : List β}
theorem kr_zip {kd : Fk κ} {τk : Ty κ} [FkTy kd τk] {G : Hp} : ∀ {vs ws : List V} {xs : List κ} {ys : List β}, Paired (τk.rep G) vs xs → Paired (τ.rep G) ws ys → vs = (xs.map kd.enc).map kV ∧ Paired (KR (kF kd) τ G) ((xs.map kd.enc).zip ws) (xs.zip ys)
  | _, _, _, _, .nil, _ => ⟨rfl, .nil⟩
  | v :: vs, [], x :: xs, _, .cons r t, .nil => by
    have e1 := FkTy.is G v x r
    obtain ⟨h1, _⟩ := kr_zip (ys := ([] : List β)) t .nil
    subst e1 h1
    exact ⟨rfl, .nil⟩
  | v :: vs, w :: ws, x :: xs, y :: ys, .cons r t, .cons r' t' => by
    have e1 := FkTy.is G v x r
    obtain ⟨h1, h2⟩ := kr_zip t t'
    subst e1 h1
    exact ⟨rfl, .cons ⟨rfl, r'⟩ h2⟩
theorem ej_dictZip [DecidableEq κ] {kd : Fk κ} {τk : Ty κ} [FkTy kd τk] {xs : List κ} (hg : Gl X "dict") (hm : X.mg "dict" = none) (hg2 : Gl X "zip") (hm2 : X.mg "zip" = none) (ha : AJ X [e, e2] Γ m [.val (fz (tList τk) xs), .val (fz (tTup τ) ys)]) (hc : X.calm = true := by rfl)
    (hs : starEach [e, e2] X.env = (false, eval e X.env) :: starEach [e2] X.env := by rfl) (hpl : (backTo q (starEach [e2] X.env)).any (·.1) = false := by rfl) :
    EJ X (.Call (.Name "dict" p) [.Call (.Name "zip" p2) [e, e2] [] q] [] pos) Γ m (oD (kF kd) τ (ofPairs (xs.zip ys))) :=
  pe_to (pe_dictZip hc hg hm hg2 hm2 ha hs hpl) fun σ H Q ⟨G, os, F, hh, st, k⟩ => ⟨G, os, F, hh, st, fun vs G1 o os1 H1 sm h1 af ap => by
    obtain ⟨v, vr, o1, o2, rfl, rfl, ⟨rfl, a, us, rfl, ga, pa⟩, w, wr, o3, o4, rfl, rfl, ⟨rfl, b, ws, rfl, gb, pb⟩, rfl, rfl⟩ := ap
    have h1' : HH G1 (os1 ++ F) H1 := h1
    obtain ⟨e1, h2⟩ := kr_zip (kd := kd) pa pb
    obtain ⟨q1, q2⟩ := kr_merge (d := []) h2 .nil List.nodup_nil
    exact ⟨a, b, xs.map kd.enc, ws, rfl, by rw [← e1]; exact SqL.of (h1'.lst ga), SqT.of (h1'.tup gb), fun z nz => k (.ref z) G1 [(z, .dK (mergeK [] ((xs.map kd.enc).zip ws)))] os1 _ sm (h1'.push nz) af ⟨z, _, rfl, rfl, q1, q2⟩⟩⟩
end
end Sl

set_option Elab.async false
set_option linter.all false
set_option maxRecDepth 100000
set_option maxHeartbeats 4000000
namespace Sl
open PySem PySem.Spec PyProof.Rows L2 Dl
/-! ### == and != of lists of dicts that are the same -/
section
open PySem.SeqAt PySem.W AutoSeq1 MeetsSeq MeetsSeq2 MeetsSeq3 SeqRoads2
variable {prog : Program} {w : World}
theorem nl_loop (l b : Addr) (xs ys : Array Value) (n n2 : Nat) (dd dd2 : Option Addr) (sl sl2 : Array (Option Value)) (hsz : xs.size = ys.size) (k : Nat) :
    ∀ i : Nat, xs.size - i = k → MeetsIn prog w (Builtin.«list.__eq__.loop» ⟨[.ref l, .ref b, rawInt i, rawInt 3], []⟩)
      (fun A R s => s.heap.get? l = some { cls := .type "list", dict := dd, data := .seq xs n, slots := sl } ∧ s.heap.get? b = some { cls := .type "list", dict := dd2, data := .seq ys n2, slots := sl2 } ∧
        (∀ j (h1 : j < xs.size) (h2 : j < ys.size), EqIn prog w A.in1 s xs[j] ys[j] true) ∧ R (.ok (.ret (.bool false))) s) := by
  induction k with
  | zero =>
    intro i hk A R s h
    obtain ⟨hp, g, d, tk, os⟩ := s
    obtain ⟨a1, a2, he, h⟩ := h
    wp_walk using wpAny_loadPart' a1, wpAny_loadPart' a2
    have q1 : xs[((i : Nat) : Int).toNat]? = none := by simp; omega
    have q2 : ys[((i : Nat) : Int).toNat]? = none := by simp; omega
    rw [q1, q2]
    wp_walk using wpAny_loadPart' a1, wpAny_loadPart' a2
    show R (.ok (.ret (.bool (xs.size != ys.size)))) _
    rw [hsz]
    simpa using h
  | succ k ih =>
    intro i hk A R s h
    obtain ⟨hp, g, d, tk, os⟩ := s
    obtain ⟨a1, a2, he, h⟩ := h
    wp_walk using wpAny_loadPart' a1, wpAny_loadPart' a2
    have l1 : i < xs.size := by omega
    have l2 : i < ys.size := by omega
    have q1 : xs[((i : Nat) : Int).toNat]? = some xs[i] := by simp [l1]
    have q2 : ys[((i : Nat) : Int).toNat]? = some ys[i] := by simp [l2]
    have hc : ((i : Int) + 1) = ((i + 1 : Nat) : Int) := by push_cast; rfl
    rw [q1, q2]
    refine wpAny_bind (he i l1 l2 _ _ ?_)
    wp_walk
    rw [hc]
    exact ⟨plainId_quiet plain_eq_loop _, codeAny_builtin entry_eq_loop (by
      rw [Around.under_plainId plain_eq_loop _]
      exact ih (i + 1) (by omega) A R _ ⟨a1, a2, he, h⟩)⟩
theorem nl_list (l b : Addr) (xs ys : Array Value) (n n2 : Nat) (dd dd2 : Option Addr) (sl sl2 : Array (Option Value)) (hsz : xs.size = ys.size) :
    MeetsIn prog w (Builtin.«list.__ne__» ⟨[.ref l, .ref b], []⟩)
      (fun A R s => s.heap.get? l = some { cls := .type "list", dict := dd, data := .seq xs n, slots := sl } ∧ s.heap.get? b = some { cls := .type "list", dict := dd2, data := .seq ys n2, slots := sl2 } ∧
        (∀ j (h1 : j < xs.size) (h2 : j < ys.size), EqIn prog w A.in1 s xs[j] ys[j] true) ∧ R (.ok (.ret (.bool false))) s) := by
  intro A R s h
  obtain ⟨hp, g, d, tk, os⟩ := s
  obtain ⟨a1, a2, he, h⟩ := h
  have f3 := AutoSeq1.sub_list_list
  have hne : ¬ (xs.size != ys.size) = true := by simp [hsz]
  wp_walk using wpAny_loadPart' a1, wpAny_loadPart' a2
  exact ⟨plainId_quiet plain_eq_loop _, codeAny_builtin entry_eq_loop (by
    rw [Around.under_plainId plain_eq_loop _]
    exact nl_loop l b xs ys n n2 dd dd2 sl sl2 hsz _ 0 rfl A R _ ⟨a1, a2, he, h⟩)⟩
theorem nl_ne {A : Around} {s : Shared} {E : Value → Shared → Prop} {l b : Addr} {xs ys : Array Value} {Q : Value → Shared → Prop} (a1 : s.heap.IsList l xs) (a2 : s.heap.IsList b ys) (hsz : xs.size = ys.size) (hu : A.units < cLine)
    (he : ∀ j (h1 : j < xs.size) (h2 : j < ys.size), EqIn prog w A.in1 s xs[j] ys[j] true) (h : Q (.bool false) s) : wpAny (model prog w) A (richCompare .NotEq (.ref l) (.ref b)) Q E s := by
  obtain ⟨⟨cls, dd, data, sl⟩, ho, hc, n, hd⟩ := id a1
  obtain ⟨⟨cls2, dd2, data2, sl2⟩, ho2, hc2, n2, hd2⟩ := id a2
  simp only at hc hd hc2 hd2
  subst hc hd hc2 hd2
  exact wpAny_richCompare_same_room (T := "list") (op := .NotEq) ⟨_, ho, rfl⟩ ⟨_, ho2, rfl⟩ F.slot_list_ne (call_meetsIn F.slot_list_ne ⟨_, ho, rfl⟩ F.entry_list_ne (F.args_list_ne_2 _ _) (nl_list l b xs ys n n2 dd dd2 sl sl2 hsz)
    ⟨ho, ho2, he, show Value.bool false ≠ Value.notImplemented ∧ Q (.bool false) s from ⟨(fun x => nomatch x), h⟩⟩) hu
end
/-- two lists whose dicts hold the same -/
def rEqLD (ne : Bool) : R2 := fun x y H Q => ∃ a b vs ws, x = .ref a ∧ y = .ref b ∧ H a = some (.lst vs) ∧ H b = some (.lst ws) ∧ vs.length = ws.length ∧
  (∀ (j : Nat) (u t : V), vs[j]? = some u → ws[j]? = some t → ∃ c d ks, u = .ref c ∧ t = .ref d ∧ Rd H c (.dK ks) ∧ Rd H d (.dK ks) ∧ ∀ p ∈ ks, valV ks p.1 = some p.2 ∧ flatB p.2 = true) ∧ Q (.bl (!ne)) H
section
variable {X : Cx} {pins : List (Addr × Obj)} {σ : L2.St} {H : Hp} {s : Shared}
theorem ld_items {A : Around} {vs ws : List V} {us ts : List Value} (I : Inv X pins σ H s) (hu : A.units < cLine) (r1 : Vals vs us) (r2 : Vals ws ts)
    (hp : ∀ (j : Nat) (u t : V), vs[j]? = some u → ws[j]? = some t → ∃ c d ks, u = .ref c ∧ t = .ref d ∧ Rd H c (.dK ks) ∧ Rd H d (.dK ks) ∧ ∀ p ∈ ks, valV ks p.1 = some p.2 ∧ flatB p.2 = true) :
    ∀ j (h1 : j < us.toArray.size) (h2 : j < ts.toArray.size), SeqAt.EqIn X.prog X.w A s us.toArray[j] ts.toArray[j] true := fun j h1 h2 => by
  have x1 : us[j]? = some us.toArray[j] := by
    have := Array.getElem?_eq_getElem h1
    rwa [List.getElem?_toArray] at this
  have x2 : ts[j]? = some ts.toArray[j] := by
    have := Array.getElem?_eq_getElem h2
    rwa [List.getElem?_toArray] at this
  obtain ⟨u, e1, f1⟩ := vals_at r1 x1
  obtain ⟨t, e2, f2⟩ := vals_at r2 x2
  obtain ⟨c, d, ks, g1, g2, ea, eb, hk⟩ := hp j u t e1 e2
  subst g1 g2
  have f1 : us.toArray[j] = Value.ref c := f1
  have f2 : ts.toArray[j] = Value.ref d := f2
  rw [f1, f2]
  by_cases e : c = d
  · subst e
    exact SeqAt.EqAt.inModel (SeqAt.EqAt.same _) _ _
  · refine SeqAt.EqIn.of_refs e fun E Q q => ?_
    obtain ⟨_, ya, va, ra, da⟩ := dk_rd I.hok ea
    obtain ⟨_, yb, vb, rb, db⟩ := dk_rd I.hok eb
    have hl : va.length = vb.length := by rw [← ra.length, ← rb.length]
    exact PySem.W.keq_eq (knd := mixKind X.prog X.w) (r := true) ya yb da db hu (fun _ => hits_all rb ra hk) (by simpa [hl] using q)
theorem op_neLD (hu : X.A.units + 1 < cLine) : OpR X (compareOp .NotEq) (rEqLD true) := by
  intro pins s σ H x y v u Q I rx ry h
  obtain ⟨a, b, vs, ws, rfl, rfl, ga, gb, hl, hp, q⟩ := h
  cases (show v = Value.ref a from rx)
  cases (show u = Value.ref b from ry)
  obtain ⟨us, r1, q1, _⟩ := I.list (SqL.of ga)
  obtain ⟨ts, r2, q2, _⟩ := I.list (SqL.of gb)
  have sz : us.toArray.size = ts.toArray.size := by rw [List.size_toArray, List.size_toArray, ← r1.length, ← r2.length, hl]
  exact nl_ne q1.isList q2.isList sz (by omega) (ld_items I (show X.A.units + 1 < cLine from hu) r1 r2 hp) ⟨.bl false, H, I, rfl, q⟩
end
section
variable {X : Cx} {Γ : Ct} {m1 m2 : Option Ct} {α κ : Type} {τ : Ty α} {s : Sh} {pos : Pos} {a b : Expr}
theorem kr_flat [DecidableEq κ] [Scl τ] {fk : Fk κ} (hf : ∀ y, flatB (Scl.enc τ y) = true) {G : Hp} : ∀ {vs : List (Key × V)} {x : List (κ × α)}, Paired (KR (kF fk) τ G) vs x → (x.map Prod.fst).Nodup → ∀ p ∈ vs, valV vs p.1 = some p.2 ∧ flatB p.2 = true := by
  intro vs x pr
  induction pr with
  | nil => intro _ p hp; cases hp
  | @cons q y vs x r t ih =>
    intro nd p hp
    rw [List.map_cons] at nd
    obtain ⟨n1, n2⟩ := List.nodup_cons.mp nd
    rcases List.mem_cons.mp hp with e | hp
    · subst e
      refine ⟨by simp [valV], ?_⟩
      rw [Scl.is _ _ _ r.2]
      exact hf _
    · have ne : ¬ q.1 = p.1 := fun e => by
        obtain ⟨i, hi⟩ := List.mem_iff_getElem?.mp hp
        obtain ⟨z, hz, rz⟩ := pr_get t hi
        have e1 : fk.enc y.1 = fk.enc z.1 := r.1.symm.trans (e.trans rz.1)
        exact n1 (by rw [fk.inj _ _ e1]; exact List.mem_map_of_mem (List.mem_of_getElem? hz))
      obtain ⟨h1, h2⟩ := ih n2 p hp
      refine ⟨?_, h2⟩
      simp only [valV, List.find?_cons] at h1 ⊢
      rw [decide_eq_false ne]
      exact h1
theorem v2_eqLD [DecidableEq κ] [Scl τ] {ne : Bool} {fk : Fk κ} {xs : List (List (κ × α))} (hf : ∀ y, flatB (Scl.enc τ y) = true) (h : RdL s (tDic (kF fk) τ) xs) : V2 s (tList (tDic (kF fk) τ)) xs (fz tBool (!ne)) (rEqLD ne) := by
  rintro v w G H os o Q at_ hs ⟨b, ws, e2, g2, p2⟩ k
  obtain ⟨a, vs, e1, g1, p1⟩ := h G H os o v at_ hs
  refine ⟨a, b, vs, ws, e1, e2, g1, at_.1.lst g2, by rw [pr_len p1, pr_len p2], fun j u t hu ht => ?_, k.fz at_.1 rfl⟩
  obtain ⟨x, hx, c, ks, ec, gc, pc, nc⟩ := pr_get p1 hu
  obtain ⟨y, hy, d, ls, ed, gd, pd, nd⟩ := pr_get p2 ht
  rw [hx] at hy
  cases hy
  have e := kr_val pc pd
  subst e
  exact ⟨c, d, ks, ec, ed, at_.1.rd gc, at_.1.rd gd, kr_flat hf pc nc⟩
theorem ej_neLD [DecidableEq κ] [Scl τ] {kd : Fk κ} {x : List (List (κ × α))} (hu : X.A.units + 1 < cLine) (ha : EJ X a Γ m1 (fz (tList (tDic (kF kd) τ)) x)) (hb : EJ X b (out Γ m1) m2 (fz (tList (tDic (kF kd) τ)) x)) (hf : ∀ y, flatB (Scl.enc τ y) = true := by intro _; rfl) : EJ X (.Compare a [.NotEq] [b] pos) Γ (cmb m1 m2) (fz tBool false) := ej_cmp (op_neLD hu) (v2_eqLD (ne := true) hf rd_fz) ha hb (nomark _)
end
end Sl

set_option Elab.async false
set_option linter.all false
set_option maxRecDepth 100000
set_option maxHeartbeats 4000000
namespace Sl
open PySem PySem.Spec PyProof.Rows L2 Dl
/-! ### a list of defs -/
/-- the k-th of some defs -/
def tWays (as : List Addr) : Ty Int := ⟨fun _ v k => ∃ a, as[k.toNat]? = some a ∧ v = .ref a, fun _ h => h⟩
section
variable {X : Cx} {Γ : Ct} {as : List Addr} {f : Addr} {x : Str} {pos : Pos} {k : Int}
theorem ej_way (hg : Gl X x) (hm : X.mg x = some (.ref f)) (hk : as[k.toNat]? = some f) (hd : (x == ("__debug__" : Str)) = false := by decide) : EJ X (.Name x pos) Γ none (fz (tWays as) k) := ej_c (pe_glob (v := .ref f) hg hm rfl hd) fun _ => ⟨f, hk, rfl⟩
theorem fz_way (hk : as[k.toNat]? = some f) : Fz (fz (tWays as) k) (fz (tFn f) ()) := fun G H o F v ⟨eo, a, h1, h2⟩ hh => by
  rw [hk] at h1
  cases h1
  subst eo
  exact ⟨G, Same.refl _, hh, rfl, h2⟩
end
section
variable {X : Cx} {Γ Γh : Ct} {m : Option Ct} {s : Sh} {z : Xh} {pos : Pos} {a b : Expr}
/-- a[b], b raises -/
theorem ex_ixI {r2 : R2} (ho : IxR X r2) (ha : EJ X a Γ m s) (hb : EX X b (out Γ m) z Γh) (hs : PlainIx b := by exact fun _ _ => rfl) : EX X (.Subscript a b pos) Γ z Γh := pe_to (pe_ix ho ha hb hs) fun σ H Q ⟨G, os, F, hh, st, k⟩ => go_op ⟨G, os, F, hh, st, fun v G1 o1 os1 H1 sm1 h1 af1 p1 =>
  ⟨G1, os1, o1 ++ F, h1.perm (perm_mid _ _ _), af1.st st sm1, fun cls d G2 os2 H2 sm2 h2 st2 pz => k cls d G2 os2 H2 (sm1.trans sm2) (HH.drops (d := o1) (h2.perm (perm_mid _ _ _))) st2 pz⟩⟩
end
end Sl

set_option Elab.async false
set_option linter.all false
set_option maxRecDepth 100000
namespace Sl
open PySem L2
/-! ### what a partial function gives -/
def Sat {α : Type} (m : Option α) (P : α → Prop) : Prop := ∃ a, m = some a ∧ P a
section
variable {α β γ S ρ κ : Type} {P : α → Prop} {Q : β → Prop} {m : Option α} {f : α → Option β}
theorem sat_bind (h : Sat m P) (k : ∀ a, P a → Sat (f a) Q) : Sat (m.bind f) Q := by
  obtain ⟨a, rfl, p⟩ := h
  exact k a p
theorem sat_some {a : α} (h : P a) : Sat (some a) P := ⟨a, rfl, h⟩
theorem sat_grd {p : Prop} [Decidable p] {f : Unit → Option β} (hp : p) (k : Sat (f ()) Q) : Sat ((grd p ()).bind f) Q := by
  unfold grd
  rw [if_pos hp]
  exact k
theorem sat_ite {c : Bool} {a b : Option α} (h1 : c = true → Sat a P) (h2 : c = false → Sat b P) : Sat (if c = true then a else b) P := by
  cases c with
  | true => exact h1 rfl
  | false => exact h2 rfl
theorem sat_eq {a : α} (h : m = some a) (p : P a) : Sat m P := ⟨a, h, p⟩
theorem sat_foldOn {f : S → β → Option S} (I : Nat → S → Prop) : ∀ {xs : List β} {s0 : S}, I 0 s0 → (∀ i s y, xs[i]? = some y → I i s → Sat (f s y) (I (i + 1))) → Sat (foldO f s0 xs) (I xs.length)
  | [], s0, h0, _ => ⟨s0, rfl, h0⟩
  | x :: xs, s0, h0, hs => by
    refine sat_bind (hs 0 s0 x rfl h0) fun s1 h1 => ?_
    exact sat_foldOn (fun i => I (i + 1)) (xs := xs) h1 fun i s y hy hi => hs (i + 1) s y (by simpa using hy) hi
theorem sat_foldX {f : S → β → Option (Oc ρ S)} (I : S → Prop) : ∀ {xs : List β} {s0 : S}, I s0 → (∀ s y, y ∈ xs → I s → Sat (f s y) fun o => ∃ s', o = .nx s' ∧ I s') → Sat (foldX f s0 xs) fun o => ∃ s', o = .nx s' ∧ I s'
  | [], s0, h0, _ => ⟨.nx s0, rfl, s0, rfl, h0⟩
  | x :: xs, s0, h0, hs => by
    refine sat_bind (hs s0 x (List.mem_cons_self ..) h0) fun o ⟨s1, e, h1⟩ => ?_
    subst e
    exact sat_foldX I h1 fun s y hy hi => hs s y (List.mem_cons_of_mem _ hy) hi
theorem sat_foldC {f : S → β → Option (Option γ × S)} (I : S → Prop) (J : γ → Prop) : ∀ {xs : List β} {s0 : S}, I s0 → (∀ s y, y ∈ xs → I s → Sat (f s y) fun p => (∀ z, p.1 = some z → J z) ∧ I p.2) → Sat (foldC f s0 xs) fun p => (∀ z ∈ p.1, J z) ∧ p.1.length ≤ xs.length ∧ I p.2
  | [], s0, h0, _ => ⟨([], s0), rfl, fun _ h => (nomatch h), Nat.le_refl _, h0⟩
  | x :: xs, s0, h0, hs => by
    refine sat_bind (hs s0 x (List.mem_cons_self ..) h0) fun p ⟨h1, h2⟩ => ?_
    refine sat_bind (sat_foldC I J h2 fun s y hy hi => hs s y (List.mem_cons_of_mem _ hy) hi) fun q ⟨h3, h4, h5⟩ => ?_
    refine sat_some ⟨fun z hz => ?_, ?_, h5⟩
    · rcases List.mem_append.mp hz with hz | hz
      · cases e : p.1 with
        | none => rw [e] at hz; cases hz
        | some w => rw [e] at hz; simp at hz; subst hz; exact h1 _ e
      · exact h3 z hz
    · show (p.1.toList ++ q.1).length ≤ (x :: xs).length
      rw [List.length_append, List.length_cons]
      have : p.1.toList.length ≤ 1 := by cases p.1 <;> simp
      omega
theorem mapC_eq {f : β → Option (Option γ)} {g : β → Option γ} : ∀ {xs : List β}, (∀ y, y ∈ xs → f y = some (g y)) → mapC f xs = some (xs.filterMap g)
  | [], _ => rfl
  | x :: xs, h => by
    show (f x).bind _ = _
    rw [h x (List.mem_cons_self ..)]
    show ((mapC f xs).bind _) = _
    rw [mapC_eq fun y hy => h y (List.mem_cons_of_mem _ hy)]
    show some ((g x).toList ++ xs.filterMap g) = _
    cases e : g x with
    | none => rw [List.filterMap_cons_none e]; rfl
    | some z => rw [List.filterMap_cons_some e]; rfl
theorem mapC_map {f : β → Option (Option γ)} {g : β → γ} {xs : List β} (h : ∀ y, y ∈ xs → f y = some (some (g y))) : mapC f xs = some (xs.map g) := by
  rw [mapC_eq (g := fun y => some (g y)) h, List.filterMap_eq_map' ]
theorem foldO_eq {f : S → β → Option S} {g : S → β → S} (I : S → Prop) : ∀ {xs : List β} {s : S}, I s → (∀ s y, y ∈ xs → I s → f s y = some (g s y) ∧ I (g s y)) → foldO f s xs = some (xs.foldl g s)
  | [], _, _, _ => rfl
  | x :: xs, s, h0, h => by
    show (f s x).bind _ = _
    rw [(h s x (List.mem_cons_self ..) h0).1]
    exact foldO_eq I (h s x (List.mem_cons_self ..) h0).2 fun s y hy hi => h s y (List.mem_cons_of_mem _ hy) hi
theorem dicC_eq [DecidableEq κ] {f : β → Option (κ × γ)} {g : β → κ × γ} : ∀ {xs : List β} {d : List (κ × γ)}, (∀ y, y ∈ xs → f y = some (g y)) → dicC f d xs = some (xs.foldl (fun d y => aput d (g y).1 (g y).2) d)
  | [], _, _ => rfl
  | x :: xs, d, h => by
    show (f x).bind _ = _
    rw [h x (List.mem_cons_self ..)]
    exact dicC_eq fun y hy => h y (List.mem_cons_of_mem _ hy)
/-! tables -/
section
variable [DecidableEq κ]
theorem ahas_iff {d : List (κ × γ)} {k : κ} : ahas d k = true ↔ k ∈ d.map Prod.fst := by
  unfold ahas
  rw [List.any_eq_true]
  constructor
  · rintro ⟨p, hp, e⟩
    exact List.mem_map.mpr ⟨p, hp, of_decide_eq_true e⟩
  · intro h
    obtain ⟨p, hp, e⟩ := List.mem_map.mp h
    exact ⟨p, hp, decide_eq_true e⟩
theorem aget_some {d : List (κ × γ)} {k : κ} (h : k ∈ d.map Prod.fst) : ∃ v, aget d k = some v ∧ (k, v) ∈ d := by
  induction d with
  | nil => cases h
  | cons p r ih =>
    by_cases e : p.1 = k
    · exact ⟨p.2, aget_pos e, by rw [← e]; exact List.mem_cons_self ..⟩
    · rw [List.map_cons] at h
      obtain ⟨v, h1, h2⟩ := ih ((List.mem_cons.mp h).resolve_left fun z => e z.symm)
      exact ⟨v, by rw [aget_neg e]; exact h1, List.mem_cons_of_mem _ h2⟩
theorem aget_mem {d : List (κ × γ)} {k : κ} {v : γ} (h : aget d k = some v) : (k, v) ∈ d := by
  induction d with
  | nil => cases h
  | cons p r ih =>
    by_cases e : p.1 = k
    · rw [aget_pos e] at h
      cases h
      rw [← e]
      exact List.mem_cons_self ..
    · rw [aget_neg e] at h
      exact List.mem_cons_of_mem _ (ih h)
theorem aput_new {d : List (κ × γ)} {k : κ} {v : γ} (h : k ∉ d.map Prod.fst) : aput d k v = d ++ [(k, v)] := by
  unfold aput
  rw [if_neg (fun z => h (ahas_iff.mp z))]
theorem aput_fresh {g : β → κ × γ} : ∀ {xs : List β} {d : List (κ × γ)}, (d.map Prod.fst ++ xs.map fun y => (g y).1).Nodup → xs.foldl (fun d y => aput d (g y).1 (g y).2) d = d ++ xs.map g
  | [], d, _ => by simp
  | x :: xs, d, h => by
    have h1 : (g x).1 ∉ d.map Prod.fst := by
      intro z
      rw [List.map_cons] at h
      exact (List.nodup_append.mp h).2.2 _ z _ (List.mem_cons_self ..) rfl
    rw [List.foldl_cons, aput_new h1, aput_fresh (by
      rw [List.map_append, List.append_assoc]
      exact h), List.append_assoc]
    rfl
theorem aput_aput {d : List (κ × γ)} {k : κ} {v v' : γ} : aput (aput d k v) k v' = aput d k v' := by
  by_cases h : k ∈ d.map Prod.fst
  · have h1 : ahas d k = true := ahas_iff.mpr h
    have h2 : ahas (aput d k v) k = true := ahas_iff.mpr (by rw [aput_keys d k v h1]; exact h)
    unfold aput at h2 ⊢
    rw [if_pos h1] at h2 ⊢
    rw [if_pos h2, if_pos h1, List.map_map]
    refine List.map_congr_left fun p _ => ?_
    show (if (if p.1 = k then (p.1, v) else p).1 = k then _ else _) = _
    by_cases e : p.1 = k
    · simp [e]
    · simp [e]
  · rw [aput_new h, aput_new h]
    unfold aput
    have h2 : ahas (d ++ [(k, v)]) k = true := ahas_iff.mpr (by simp)
    rw [if_pos h2, List.map_append]
    have : d.map (fun p => if p.1 = k then (p.1, v') else p) = d := by
      rw [List.map_congr_left (g := id)]
      · simp
      · intro p hp
        have : p.1 ≠ k := fun z => h (z ▸ List.mem_map_of_mem hp)
        simp [this]
    rw [this]
    simp
end
/-! places -/
theorem atI_ok {xs : List α} {i : Int} (h0 : 0 ≤ i) (h1 : i < xs.length) : ∃ y, atI xs i = some y ∧ xs[i.toNat]? = some y := by
  have hl : i.toNat < xs.length := by omega
  refine ⟨xs[i.toNat], ?_, List.getElem?_eq_getElem hl⟩
  have := atI_nat (List.getElem?_eq_getElem hl)
  rw [Int.toNat_of_nonneg h0] at this
  exact this
theorem sat_atI {xs : List α} {i : Int} (h0 : 0 ≤ i) (h1 : i < xs.length) (h : ∀ y, y ∈ xs → P y) : Sat (atI xs i) P := by
  obtain ⟨y, e, hy⟩ := atI_ok h0 h1
  exact ⟨y, e, h y (List.mem_of_getElem? hy)⟩
theorem rng_mem {n : Nat} {lo y : Int} (h : y ∈ rng lo n) : lo ≤ y ∧ y < lo + n := by
  obtain ⟨i, hi⟩ := List.mem_iff_getElem?.mp h
  obtain ⟨h1, h2⟩ := rng_get hi
  omega
theorem range1_len (j : Int) : (range1 j).length = j.toNat := rng_len _ _
theorem range1_get {j y : Int} {i : Nat} (h : (range1 j)[i]? = some y) : i < j.toNat ∧ y = i := by
  have := rng_get h
  omega
theorem range2_get {a j y : Int} {i : Nat} (h : (range2 a j)[i]? = some y) : i < (j - a).toNat ∧ y = a + i := rng_get h
end
end Sl

set_option Elab.async false
set_option linter.all false
set_option maxRecDepth 100000
namespace Sl
open PySem L2
section
variable {α β γ S ρ κ : Type} {P : α → Prop} {Q : β → Prop} {m : Option α} {f : α → Option β}
theorem fmod_lt' {a n : Int} (h : 0 < n) : 0 ≤ Int.fmod a n ∧ Int.fmod a n < n := ⟨Int.fmod_nonneg_of_pos a h, Int.fmod_lt_of_pos a h⟩
theorem aput_mem [DecidableEq κ] {d : List (κ × γ)} {k : κ} {v : γ} {p : κ × γ} (h : p ∈ aput d k v) : p ∈ d ∨ p = (k, v) := by
  unfold aput at h
  split at h
  · obtain ⟨q, hq, e⟩ := List.mem_map.mp h
    by_cases z : q.1 = k
    · rw [if_pos z] at e
      exact .inr (by rw [← e, z])
    · rw [if_neg z] at e
      exact .inl (e ▸ hq)
  · rcases List.mem_append.mp h with h | h
    · exact .inl h
    · exact .inr (List.mem_singleton.mp h)
theorem foldO_eqn {f : S → β → Option S} {g : S → β → S} (I : Nat → S → Prop) : ∀ {xs : List β} {s : S}, I 0 s → (∀ i s y, xs[i]? = some y → I i s → f s y = some (g s y) ∧ I (i + 1) (g s y)) → foldO f s xs = some (xs.foldl g s) ∧ I xs.length (xs.foldl g s)
  | [], _, h, _ => ⟨rfl, h⟩
  | x :: xs, s, h0, h => by
    have h1 := h 0 s x rfl h0
    show (f s x).bind _ = _ ∧ _
    rw [h1.1]
    exact foldO_eqn (fun i => I (i + 1)) h1.2 fun i s y hy hi => h (i + 1) s y (by simpa using hy) hi
theorem foldX_all {f : Unit → β → Option (Oc Bool Unit)} {p : β → Bool} : ∀ {xs : List β}, (∀ y, y ∈ xs → f () y = some (if p y = true then Oc.nx () else Oc.ret false)) → foldX f () xs = some (if xs.all p = true then Oc.nx () else Oc.ret false)
  | [], _ => rfl
  | x :: xs, h => by
    show (f () x).bind _ = _
    rw [h x (List.mem_cons_self ..)]
    cases e : p x with
    | true =>
      rw [List.all_cons, e, Bool.true_and]
      exact foldX_all fun y hy => h y (List.mem_cons_of_mem _ hy)
    | false =>
      rw [List.all_cons, e, Bool.false_and]
      rfl
theorem foldl_sum {p : β → Bool} {a : β → Int} : ∀ {xs : List β} {s : Int}, xs.foldl (fun s y => if p y = true then s + a y else s) s = s + (xs.filterMap fun y => if p y = true then some (a y) else none).sum
  | [], s => by simp
  | x :: xs, s => by
    rw [List.foldl_cons, foldl_sum]
    cases e : p x with
    | true => rw [if_pos rfl, List.filterMap_cons_some (by rw [e]; rfl), List.sum_cons, Int.add_assoc]
    | false => rw [if_neg (by decide), List.filterMap_cons_none (by rw [e]; rfl)]
theorem grd_t {p : Prop} [Decidable p] {a : α} (h : p) : grd p a = some a := if_pos h
theorem mem_len {xs : List β} {i : Nat} {y : β} (h : xs[i]? = some y) : i < xs.length := (List.getElem?_eq_some_iff.mp h).1
end
end Sl

set_option Elab.async false
set_option linter.all false
set_option maxRecDepth 100000
namespace Sl
open PySem L2
/-! ### what can be shown -/
end Sl

set_option Elab.async false
set_option linter.all false
set_option maxRecDepth 100000
namespace Sl
open PySem L2
end Sl

set_option Elab.async false
set_option linter.all false
set_option maxRecDepth 100000
set_option maxHeartbeats 4000000
namespace Sl
open PySem L2 Dl
/-! ### the shorter ones first, each length in the order of the facts -/
def lx : List Nat → List Nat → Prop
  | x :: a, y :: b => x < y ∨ (x = y ∧ lx a b)
  | _, _ => False
theorem lx_irr : ∀ a : List Nat, ¬ lx a a
  | [], h => h
  | x :: a, h => by
    rcases h with h | ⟨_, h⟩
    · omega
    · exact lx_irr a h
theorem lx_trans : ∀ {a b c : List Nat}, lx a b → lx b c → lx a c
  | x :: a, y :: b, z :: c, h1, h2 => by
    rcases h1 with h1 | ⟨e1, h1⟩
    · rcases h2 with h2 | ⟨e2, h2⟩
      · exact .inl (by omega)
      · exact .inl (by omega)
    · rcases h2 with h2 | ⟨e2, h2⟩
      · exact .inl (by omega)
      · exact .inr ⟨e1.trans e2, lx_trans h1 h2⟩
  | [], _, _, h, _ => h.elim
  | _ :: _, [], _, h, _ => h.elim
  | _ :: _, _ :: _, [], _, h => h.elim
theorem lx_app {x y : Nat} : ∀ {a b : List Nat}, lx a b → lx (a ++ [x]) (b ++ [y])
  | x1 :: a, y1 :: b, h => by
    rcases h with h | ⟨e, h⟩
    · exact .inl h
    · exact .inr ⟨e, lx_app h⟩
  | [], _, h => h.elim
  | _ :: _, [], h => h.elim
theorem lx_last {x y : Nat} (h : x < y) : ∀ {a : List Nat}, lx (a ++ [x]) (a ++ [y])
  | [] => .inl h
  | _ :: a => .inr ⟨rfl, lx_last h⟩
def sl (a b : List Nat) : Prop := a.length < b.length ∨ (a.length = b.length ∧ lx a b)
theorem sl_irr (a : List Nat) : ¬ sl a a := fun h => by
  rcases h with h | ⟨_, h⟩
  · omega
  · exact lx_irr a h
theorem sl_trans {a b c : List Nat} (h1 : sl a b) (h2 : sl b c) : sl a c := by
  rcases h1 with h1 | ⟨e1, h1⟩
  · rcases h2 with h2 | ⟨e2, h2⟩
    · exact .inl (by omega)
    · exact .inl (by omega)
  · rcases h2 with h2 | ⟨e2, h2⟩
    · exact .inl (by omega)
    · exact .inr ⟨e1.trans e2, lx_trans h1 h2⟩
theorem sl_app {x y : Nat} {a b : List Nat} (h : sl a b) : sl (a ++ [x]) (b ++ [y]) := by
  rcases h with h | ⟨e, h⟩
  · exact .inl (by simp; omega)
  · exact .inr ⟨by simp; omega, lx_app h⟩
theorem sl_last {x y : Nat} (h : x < y) {a : List Nat} : sl (a ++ [x]) (a ++ [y]) := .inr ⟨by simp, lx_last h⟩
/-- careers by the places of their facts -/
def ky (fs : List Str) (c : List Str) : List Nat := c.map fun f => fs.idxOf f
theorem ky_snoc {fs : List Str} {a : List Str} {f : Str} : ky fs (a ++ [f]) = ky fs a ++ [fs.idxOf f] := by
  unfold ky
  rw [List.map_append]
  rfl
def cl (fs : List Str) (a b : List Str) : Prop := sl (ky fs a) (ky fs b)
/-! ### the search in breadth -/
abbrev Ent (σ : Type) := σ × σ × List Str
section
variable {σ : Type} [DecidableEq σ] (step : σ → Str → σ) (fs : List Str)
def ins (met : List (Ent σ)) (e : Ent σ) : List (Ent σ) := if e.1 ∈ met.map Prod.fst then met else met ++ [e]
def nxt (e : Ent σ) (f : Str) : Ent σ := (step e.1 f, e.2.1, e.2.2 ++ [f])
def grow (gs : List Str) (met : List (Ent σ)) (e : Ent σ) : List (Ent σ) := gs.foldl (fun met f => ins met (nxt step e f)) met
inductive Bfs : Nat → List (Ent σ) → List (Ent σ) → Prop
  | done {met : List (Ent σ)} : Bfs met.length met met
  | turn {i : Nat} {met r : List (Ent σ)} {e : Ent σ} : met[i]? = some e → Bfs (i + 1) (grow step fs met e) r → Bfs i met r
variable {step fs}
theorem ins_pre (met : List (Ent σ)) (e : Ent σ) : met <+: ins met e := by
  unfold ins
  split
  · exact List.prefix_refl _
  · exact List.prefix_append _ _
theorem ins_mem (met : List (Ent σ)) (e : Ent σ) : e.1 ∈ (ins met e).map Prod.fst := by
  unfold ins
  split
  · assumption
  · simp
theorem ins_sub {met : List (Ent σ)} {e x : Ent σ} (h : x ∈ ins met e) : x ∈ met ∨ x = e := by
  unfold ins at h
  split at h
  · exact .inl h
  · rcases List.mem_append.mp h with h | h
    · exact .inl h
    · exact .inr (List.mem_singleton.mp h)
theorem ins_nd {met : List (Ent σ)} {e : Ent σ} (h : (met.map Prod.fst).Nodup) : ((ins met e).map Prod.fst).Nodup := by
  unfold ins
  split
  · exact h
  · rename_i hn
    rw [List.map_append]
    refine List.nodup_append.mpr ⟨h, by simp, fun a ha b hb => ?_⟩
    simp at hb
    subst hb
    exact fun e2 => hn (e2 ▸ ha)
theorem grow_pre (e : Ent σ) : ∀ (gs : List Str) (met : List (Ent σ)), met <+: grow step gs met e
  | [], met => List.prefix_refl _
  | f :: gs, met => (ins_pre met (nxt step e f)).trans (grow_pre e gs _)
theorem grow_sub (e : Ent σ) : ∀ {gs : List Str} {met : List (Ent σ)} {x : Ent σ}, x ∈ grow step gs met e → x ∈ met ∨ ∃ f ∈ gs, x = nxt step e f
  | [], met, x, h => .inl h
  | g :: gs, met, x, h => by
    rcases grow_sub e (gs := gs) h with h | ⟨f, hf, ef⟩
    · rcases ins_sub h with h | h
      · exact .inl h
      · exact .inr ⟨g, List.mem_cons_self .., h⟩
    · exact .inr ⟨f, List.mem_cons_of_mem _ hf, ef⟩
theorem grow_nd (e : Ent σ) : ∀ {gs : List Str} {met : List (Ent σ)}, (met.map Prod.fst).Nodup → ((grow step gs met e).map Prod.fst).Nodup
  | [], _, h => h
  | g :: gs, met, h => grow_nd e (gs := gs) (ins_nd h)
theorem Bfs.le {i : Nat} {met r : List (Ent σ)} (h : Bfs step fs i met r) : i ≤ met.length := by
  cases h with
  | done => exact Nat.le_refl _
  | turn e _ => exact Nat.le_of_lt (List.getElem?_eq_some_iff.mp e).1
theorem Bfs.pre {i : Nat} {met r : List (Ent σ)} (h : Bfs step fs i met r) : met <+: r := by
  induction h with
  | done => exact List.prefix_refl _
  | turn _ _ ih => exact (grow_pre _ _ _).trans ih
theorem Bfs.at {i : Nat} {met r : List (Ent σ)} {e : Ent σ} (h : Bfs step fs i met r) (he : met[i]? = some e) : Bfs step fs (i + 1) (grow step fs met e) r := by
  cases h with
  | done => simp at he
  | turn e2 q =>
    rw [he] at e2
    cases e2
    exact q
theorem Bfs.end_ {i : Nat} {met r : List (Ent σ)} (h : Bfs step fs i met r) (he : met.length ≤ i) : met = r := by
  cases h with
  | done => rfl
  | turn e2 q =>
    have := (List.getElem?_eq_some_iff.mp e2).1
    omega
theorem Bfs.nd {i : Nat} {met r : List (Ent σ)} (h : Bfs step fs i met r) (n : (met.map Prod.fst).Nodup) : (r.map Prod.fst).Nodup := by
  induction h with
  | done => exact n
  | turn _ _ ih => exact ih (grow_nd _ n)
theorem Bfs.all {Q : Ent σ → Prop} (hq : ∀ e, Q e → ∀ f ∈ fs, Q (nxt step e f)) {i : Nat} {met r : List (Ent σ)} (h : Bfs step fs i met r) (n : ∀ e ∈ met, Q e) : ∀ e ∈ r, Q e := by
  induction h with
  | done => exact n
  | turn he _ ih =>
    refine ih fun x hx => ?_
    rcases grow_sub _ hx with hx | ⟨f, hf, ef⟩
    · exact n x hx
    · rw [ef]
      exact hq _ (n _ (List.mem_of_getElem? he)) f hf
/-- it comes to an end -/
theorem nd_le : ∀ {xs U : List σ}, xs.Nodup → (∀ x ∈ xs, x ∈ U) → xs.length ≤ U.length
  | [], _, _, _ => Nat.zero_le _
  | x :: xs, U, n, s => by
    have hx := s x (List.mem_cons_self ..)
    obtain ⟨n1, n2⟩ := List.nodup_cons.mp n
    have := nd_le (xs := xs) (U := U.erase x) n2 fun y hy => (List.mem_erase_of_ne (show y ≠ x from fun e => n1 (e ▸ hy))).mpr (s y (List.mem_cons_of_mem _ hy))
    have h2 := List.length_erase_of_mem hx
    have h3 := List.length_pos_of_mem hx
    rw [List.length_cons]
    omega
end
/-- where a career leads -/
def run {σ φ : Type} (step : σ → φ → σ) : σ → List φ → σ
  | s, [] => s
  | s, f :: c => run step (step s f) c
theorem run_snoc {σ φ : Type} {step : σ → φ → σ} {f : φ} : ∀ {c : List φ} {s : σ}, run step s (c ++ [f]) = step (run step s c) f
  | [], _ => rfl
  | _ :: c, _ => run_snoc (c := c)
/-! ### the order of the search -/
def beg {σ : Type} (bs : List σ) : List (Ent σ) := bs.map fun b => (b, b, [])
def ek {σ : Type} [DecidableEq σ] (bs : List σ) (fs : List Str) (e : Ent σ) : List Nat := bs.idxOf e.2.1 :: ky fs e.2.2
theorem idx_ne {α : Type} [DecidableEq α] {x y : α} {l : List α} (h : x ≠ y) : (x :: l).idxOf y = l.idxOf y + 1 := by
  rw [List.idxOf_cons]
  have : (x == y) = false := by simpa using h
  rw [this]
  rfl
section
variable {σ : Type} [DecidableEq σ] {step : σ → Str → σ} {fs : List Str} {bs : List σ}
def Ri (fs : List Str) (f g : Str) : Prop := fs.idxOf f < fs.idxOf g
theorem inc_of_nd : ∀ {fs : List Str}, fs.Nodup → fs.Pairwise (Ri fs)
  | [], _ => .nil
  | f :: fs, h => by
    obtain ⟨h1, h2⟩ := List.nodup_cons.mp h
    refine .cons (fun g hg => ?_) ((inc_of_nd h2).imp_of_mem fun {a b} ha hb r => ?_)
    · have : f ≠ g := fun e => h1 (e ▸ hg)
      show List.idxOf f (f :: fs) < List.idxOf g (f :: fs)
      rw [List.idxOf_cons_self, idx_ne this]
      omega
    · have na : f ≠ a := fun e => h1 (e ▸ ha)
      have nb : f ≠ b := fun e => h1 (e ▸ hb)
      show List.idxOf a (f :: fs) < List.idxOf b (f :: fs)
      rw [idx_ne na, idx_ne nb]
      have : List.idxOf a fs < List.idxOf b fs := r
      omega
theorem ek_nxt {e : Ent σ} {f : Str} : ek bs fs (nxt step e f) = ek bs fs e ++ [fs.idxOf f] := by
  unfold ek nxt
  rw [ky_snoc]
  rfl
def Lk (bs : List σ) (fs : List Str) (x y : Ent σ) : Prop := sl (ek bs fs x) (ek bs fs y)
def Le (bs : List σ) (fs : List Str) (x y : Ent σ) : Prop := Lk bs fs x y ∨ ek bs fs x = ek bs fs y
theorem grow_ord {e : Ent σ} : ∀ {gs : List Str} {met : List (Ent σ)}, gs.Pairwise (Ri fs) → met.Pairwise (Lk bs fs) → (∀ x ∈ met, ∀ g ∈ gs, Lk bs fs x (nxt step e g)) →
    (grow step gs met e).Pairwise (Lk bs fs) ∧ ∀ g ∈ gs, ∃ x ∈ grow step gs met e, x.1 = step e.1 g ∧ Le bs fs x (nxt step e g)
  | [], met, _, h, _ => ⟨h, fun _ hg => nomatch hg⟩
  | g :: gs, met, hi, h, hl => by
    obtain ⟨i1, i2⟩ := List.pairwise_cons.mp hi
    have hp : (ins met (nxt step e g)).Pairwise (Lk bs fs) := by
      unfold ins
      split
      · exact h
      · refine List.pairwise_append.mpr ⟨h, List.pairwise_singleton _ _, fun a ha b hb => ?_⟩
        rw [List.mem_singleton.mp hb]
        exact hl a ha g (List.mem_cons_self ..)
    obtain ⟨h1, h2⟩ := grow_ord (gs := gs) (met := ins met (nxt step e g)) i2 hp fun x hx g' hg' => by
      rcases ins_sub hx with hx | hx
      · exact hl x hx g' (List.mem_cons_of_mem _ hg')
      · rw [hx]
        unfold Lk
        rw [ek_nxt, ek_nxt]
        exact sl_last (i1 g' hg')
    refine ⟨h1, fun g' hg' => ?_⟩
    rcases List.mem_cons.mp hg' with rfl | hg'
    · obtain ⟨x, hx, ex⟩ := List.mem_map.mp (ins_mem met (nxt step e g'))
      refine ⟨x, (grow_pre e gs _).subset hx, ex, ?_⟩
      rcases ins_sub hx with hx | hx
      · exact .inl (hl x hx _ (List.mem_cons_self ..))
      · exact .inr (by rw [hx])
    · exact h2 g' hg'
/-- where each comes from -/
def From (step : σ → Str → σ) (fs : List Str) (met : List (Ent σ)) (i : Nat) (x : Ent σ) : Prop := x.2.2 = [] ∧ x.2.1 = x.1 ∨ ∃ j e f, j < i ∧ met[j]? = some e ∧ f ∈ fs ∧ x = nxt step e f
theorem From.mono {met met' : List (Ent σ)} {i i' : Nat} {x : Ent σ} (h : From step fs met i x) (p : met <+: met') (l : i ≤ i') : From step fs met' i' x := by
  rcases h with h | ⟨j, e, f, h1, h2, h3, h4⟩
  · exact .inl h
  · refine .inr ⟨j, e, f, by omega, ?_, h3, h4⟩
    obtain ⟨t, ht⟩ := p
    rw [← ht, List.getElem?_append_left (List.getElem?_eq_some_iff.mp h2).1, h2]
theorem pw_at {α : Type} {R : α → α → Prop} {xs : List α} (h : xs.Pairwise R) {i j : Nat} {x y : α} (hi : xs[i]? = some x) (hj : xs[j]? = some y) (l : i < j) : R x y := by
  obtain ⟨h1, e1⟩ := List.getElem?_eq_some_iff.mp hi
  obtain ⟨h2, e2⟩ := List.getElem?_eq_some_iff.mp hj
  have := List.pairwise_iff_getElem.mp h i j h1 h2 l
  rw [e1, e2] at this
  exact this
theorem Bfs.ord (hf : fs.Nodup) {i : Nat} {met r : List (Ent σ)} (h : Bfs step fs i met r) (p : met.Pairwise (Lk bs fs)) (fr : ∀ x ∈ met, From step fs met i x)
    (cl : ∀ j e, j < i → met[j]? = some e → ∀ f ∈ fs, ∃ x ∈ met, x.1 = step e.1 f ∧ Le bs fs x (nxt step e f)) :
    r.Pairwise (Lk bs fs) ∧ (∀ x ∈ r, From step fs r r.length x) ∧ ∀ e ∈ r, ∀ f ∈ fs, ∃ x ∈ r, x.1 = step e.1 f ∧ Le bs fs x (nxt step e f) := by
  induction h with
  | done =>
    refine ⟨p, fr, fun e he f hf => ?_⟩
    obtain ⟨j, hj⟩ := List.mem_iff_getElem?.mp he
    exact cl j e (List.getElem?_eq_some_iff.mp hj).1 hj f hf
  | @turn i met r e he _ ih =>
    have hlt := (List.getElem?_eq_some_iff.mp he).1
    have pre := grow_pre (step := step) e fs met
    obtain ⟨g1, g2⟩ := grow_ord (bs := bs) (step := step) (e := e) (inc_of_nd hf) p fun x hx g hg => by
      unfold Lk
      rw [ek_nxt]
      rcases fr x hx with ⟨h1, _⟩ | ⟨j, e', f', h1, h2, h3, h4⟩
      · refine .inl ?_
        unfold ek
        rw [h1]
        simp [ky]
      · rw [h4, ek_nxt]
        exact sl_app (pw_at p h2 he h1)
    refine ih g1 (fun x hx => ?_) fun j x hj hx f hf => ?_
    · rcases grow_sub _ hx with hx | ⟨f, hf, ef⟩
      · exact (fr x hx).mono pre (Nat.le_succ _)
      · refine .inr ⟨i, e, f, Nat.lt_succ_self _, ?_, hf, ef⟩
        obtain ⟨t, ht⟩ := pre
        rw [← ht, List.getElem?_append_left hlt, he]
    · have hx2 : met[j]? = some x := by
        rw [← hx]
        obtain ⟨t, ht⟩ := pre
        rw [← ht, List.getElem?_append_left (by omega)]
      by_cases hji : j = i
      · subst hji
        rw [he] at hx2
        cases hx2
        exact g2 f hf
      · obtain ⟨y, hy, h1, h2⟩ := cl j x (by omega) hx2 f hf
        exact ⟨y, pre.subset hy, h1, h2⟩
theorem beg_fst : (beg bs).map Prod.fst = bs := by
  unfold beg
  rw [List.map_map]
  simp [Function.comp_def]
/-- what is so at the end, from some beginnings on -/
structure Fini (step : σ → Str → σ) (fs : List Str) (bs : List σ) (r : List (Ent σ)) : Prop where
  pre : beg bs <+: r
  nd : (r.map Prod.fst).Nodup
  ord : r.Pairwise (Lk bs fs)
  from_ : ∀ x ∈ r, From step fs r r.length x
  next : ∀ e ∈ r, ∀ f ∈ fs, ∃ x ∈ r, x.1 = step e.1 f ∧ Le bs fs x (nxt step e f)
  at_ : ∀ e ∈ r, e.2.1 ∈ bs ∧ (∀ f ∈ e.2.2, f ∈ fs) ∧ run step e.2.1 e.2.2 = e.1
theorem Bfs.fin (hf : fs.Nodup) (hb : bs.Nodup) {r : List (Ent σ)} (h : Bfs step fs 0 (beg bs) r) : Fini step fs bs r := by
  have pb : (beg bs).Pairwise (Lk bs fs) := by
    refine List.pairwise_map.mpr ?_
    have : ∀ (pre bs' : List σ), (pre ++ bs').Nodup → bs'.Pairwise fun a b => (pre ++ bs').idxOf a < (pre ++ bs').idxOf b := by
      intro pre bs'
      induction bs' generalizing pre with
      | nil => exact fun _ => .nil
      | cons b bs' ih =>
        intro n
        have e : pre ++ b :: bs' = (pre ++ [b]) ++ bs' := by simp
        refine .cons (fun c hc => ?_) ?_
        · obtain ⟨n1, n2, n3⟩ := List.nodup_append.mp n
          have hb : b ∉ pre := fun z => n3 b z b (List.mem_cons_self ..) rfl
          have hc2 : c ∉ pre := fun z => n3 c z c (List.mem_cons_of_mem _ hc) rfl
          have hne : b ≠ c := fun e => (List.nodup_cons.mp n2).1 (e ▸ hc)
          rw [List.idxOf_append, List.idxOf_append, if_neg hb, if_neg hc2, List.idxOf_cons_self, idx_ne hne]
          omega
        · rw [e] at n ⊢
          exact ih (pre ++ [b]) n
    exact (this [] bs hb).imp fun {a b} l => .inr ⟨rfl, .inl l⟩
  obtain ⟨h1, h2, h3⟩ := h.ord hf pb (fun x hx => by
    obtain ⟨b, hb, rfl⟩ := List.mem_map.mp hx
    exact .inl ⟨rfl, rfl⟩) fun j e hj => absurd hj (Nat.not_lt_zero _)
  refine ⟨h.pre, h.nd (by rw [beg_fst]; exact hb), h1, h2, h3, h.all (Q := fun e => e.2.1 ∈ bs ∧ (∀ f ∈ e.2.2, f ∈ fs) ∧ run step e.2.1 e.2.2 = e.1) (fun e ⟨q1, q2, q3⟩ f hf => ⟨q1, fun g hg => ?_, ?_⟩) fun e he => ?_⟩
  · rcases List.mem_append.mp (show g ∈ e.2.2 ++ [f] from hg) with hg | hg
    · exact q2 g hg
    · rw [List.mem_singleton.mp hg]
      exact hf
  · show run step e.2.1 (e.2.2 ++ [f]) = step e.1 f
    rw [run_snoc, q3]
  · obtain ⟨b, hb, rfl⟩ := List.mem_map.mp he
    exact ⟨hb, (fun _ h => nomatch h), rfl⟩
theorem Fini.uniq {r : List (Ent σ)} (F : Fini step fs bs r) {x y : Ent σ} (hx : x ∈ r) (hy : y ∈ r) (e : x.1 = y.1) : x = y := by
  obtain ⟨i, hi⟩ := List.mem_iff_getElem?.mp hx
  obtain ⟨j, hj⟩ := List.mem_iff_getElem?.mp hy
  have h1 : (r.map Prod.fst)[i]? = some x.1 := by rw [List.getElem?_map, hi]; rfl
  have h2 : (r.map Prod.fst)[j]? = some x.1 := by rw [List.getElem?_map, hj, e]; rfl
  have := (List.getElem?_inj (List.getElem?_eq_some_iff.mp h1).1 F.nd).mp (h1.trans h2.symm)
  subst this
  exact Option.some.inj (hi.symm.trans hj)
theorem Fini.idx {r : List (Ent σ)} (F : Fini step fs bs r) {x y : Ent σ} {i j : Nat} (hi : r[i]? = some x) (hj : r[j]? = some y) (h : Lk bs fs x y) : i < j := by
  rcases Nat.lt_trichotomy i j with q | q | q
  · exact q
  · subst q
    rw [hi] at hj
    cases hj
    exact (sl_irr _ h).elim
  · exact (sl_irr _ (sl_trans h (pw_at F.ord hj hi q))).elim
/-! from one beginning -/
end
/-! ### the same search under other names -/
section
variable {σ τ : Type} [DecidableEq σ] [DecidableEq τ]
def rn (φ : σ → τ) (e : Ent σ) : Ent τ := (φ e.1, φ e.2.1, e.2.2)
theorem Bfs.map {step : σ → Str → σ} {step' : τ → Str → τ} {fs : List Str} (φ : σ → τ) {U : List σ} (hU : ∀ q ∈ U, ∀ f ∈ fs, step q f ∈ U) (hi : ∀ a ∈ U, ∀ b ∈ U, φ a = φ b → a = b) (hs : ∀ q ∈ U, ∀ f ∈ fs, step' (φ q) f = φ (step q f))
    {i : Nat} {met r : List (Ent σ)} (h : Bfs step fs i met r) (hm : ∀ e ∈ met, e.1 ∈ U) : Bfs step' fs i (met.map (rn φ)) (r.map (rn φ)) := by
  induction h with
  | done =>
    rename_i met
    have : (met.map (rn φ)).length = met.length := List.length_map ..
    exact this ▸ Bfs.done (step := step') (fs := fs) (met := met.map (rn φ))
  | @turn i met r e he _ ih =>
    have heU := hm e (List.mem_of_getElem? he)
    have hg : ∀ x ∈ grow step fs met e, x.1 ∈ U := fun x hx => by
      rcases grow_sub _ hx with hx | ⟨f, hf, ef⟩
      · exact hm x hx
      · rw [ef]
        exact hU _ heU f hf
    have key : ∀ (gs : List Str) (met : List (Ent σ)), (∀ g ∈ gs, g ∈ fs) → (∀ e ∈ met, e.1 ∈ U) → (grow step gs met e).map (rn φ) = grow step' gs (met.map (rn φ)) (rn φ e) := by
      intro gs
      induction gs with
      | nil => exact fun _ _ _ => rfl
      | cons g gs ih2 =>
        intro met hgs hm
        have hgf := hgs g (List.mem_cons_self ..)
        have e1 : nxt step' (rn φ e) g = rn φ (nxt step e g) := by
          show (step' (φ e.1) g, φ e.2.1, e.2.2 ++ [g]) = (φ (step e.1 g), φ e.2.1, e.2.2 ++ [g])
          rw [hs _ heU g hgf]
        have e2 : (ins met (nxt step e g)).map (rn φ) = ins (met.map (rn φ)) (nxt step' (rn φ e) g) := by
          rw [e1]
          unfold ins
          have iff1 : (rn φ (nxt step e g)).1 ∈ (met.map (rn φ)).map Prod.fst ↔ (nxt step e g).1 ∈ met.map Prod.fst := by
            constructor
            · intro h
              obtain ⟨y, hy, ey⟩ := List.mem_map.mp h
              obtain ⟨x, hx, rfl⟩ := List.mem_map.mp hy
              have := hi _ (hm x hx) _ (hU _ heU g hgf) (show φ x.1 = φ (step e.1 g) from ey)
              exact List.mem_map.mpr ⟨x, hx, this⟩
            · intro h
              obtain ⟨x, hx, ex⟩ := List.mem_map.mp h
              exact List.mem_map.mpr ⟨rn φ x, List.mem_map.mpr ⟨x, hx, rfl⟩, by show φ x.1 = φ (nxt step e g).1; rw [ex]⟩
          by_cases q : (nxt step e g).1 ∈ met.map Prod.fst
          · rw [if_pos q, if_pos (iff1.mpr q)]
          · rw [if_neg q, if_neg fun z => q (iff1.mp z), List.map_append]
            rfl
        show (grow step gs (ins met (nxt step e g)) e).map (rn φ) = grow step' gs (ins (met.map (rn φ)) (nxt step' (rn φ e) g)) (rn φ e)
        rw [ih2 _ (fun f hf => hgs f (List.mem_cons_of_mem _ hf)) fun x hx => by
          rcases ins_sub hx with hx | hx
          · exact hm x hx
          · rw [hx]
            exact hU _ heU g hgf, e2]
    refine .turn (e := rn φ e) (by rw [List.getElem?_map, he]; rfl) ?_
    rw [← key fs met (fun _ h => h) hm]
    exact ih hg
theorem Bfs.det {step : σ → Str → σ} {fs : List Str} {i : Nat} {met r r' : List (Ent σ)} (h : Bfs step fs i met r) (h' : Bfs step fs i met r') : r = r' := by
  induction h with
  | done => exact h'.end_ (Nat.le_refl _)
  | turn he _ ih => exact ih (h'.at he)
end
end Sl

set_option Elab.async false
set_option linter.all false
set_option maxRecDepth 100000
namespace Sl
open PySem L2 Dl
/-! ### tables by the places of a list -/
section
variable {κ γ : Type} [DecidableEq κ]
theorem aget_at : ∀ {d : List (κ × γ)} {i : Nat} {k : κ} {v : γ}, (d.map Prod.fst).Nodup → d[i]? = some (k, v) → aget d k = some v
  | p :: r, 0, k, v, _, h => by
    obtain rfl := Option.some.inj (show some p = some (k, v) from h)
    exact aget_pos rfl
  | p :: r, i + 1, k, v, n, h => by
    rw [List.map_cons] at n
    obtain ⟨n1, n2⟩ := List.nodup_cons.mp n
    have h : r[i]? = some (k, v) := h
    rw [aget_neg fun e => n1 (e ▸ List.mem_map_of_mem (List.mem_of_getElem? h))]
    exact aget_at n2 h
  | [], _, _, _, _, h => by simp at h
/-- the table of places of a list -/
structure Tab (met : List κ) (d : List (κ × Int)) : Prop where
  keys : d.map Prod.fst = met
  vals : d.map Prod.snd = (List.range met.length).map Int.ofNat
theorem Tab.nil : Tab ([] : List κ) [] := ⟨rfl, rfl⟩
theorem Tab.get {met : List κ} {d : List (κ × Int)} (T : Tab met d) (n : met.Nodup) {i : Nat} {k : κ} (h : met[i]? = some k) : aget d k = some (i : Int) := by
  have h1 : (d[i]?).map Prod.fst = some k := by rw [← List.getElem?_map, T.keys]; exact h
  have h2 : (d[i]?).map Prod.snd = some (i : Int) := by
    rw [← List.getElem?_map, T.vals, List.getElem?_map, List.getElem?_range (List.getElem?_eq_some_iff.mp h).1]
    rfl
  cases e : d[i]? with
  | none => rw [e] at h1; cases h1
  | some p =>
    rw [e] at h1 h2
    refine aget_at (i := i) (by rw [T.keys]; exact n) ?_
    rw [e]
    exact congrArg some (Prod.ext (Option.some.inj h1) (Option.some.inj h2))
theorem Tab.put {met : List κ} {d : List (κ × Int)} (T : Tab met d) {k : κ} (h : k ∉ met) : Tab (met ++ [k]) (aput d k met.length) := by
  rw [aput_new (by rw [T.keys]; exact h)]
  refine ⟨by rw [List.map_append, T.keys]; rfl, ?_⟩
  rw [List.map_append, T.vals, List.length_append, List.length_singleton, List.range_succ, List.map_append]
  rfl
theorem Tab.len {met : List κ} {d : List (κ × Int)} (T : Tab met d) : d.length = met.length := by
  have := congrArg List.length T.keys
  rwa [List.length_map] at this
end
end Sl

set_option Elab.async false
set_option linter.all false
set_option maxRecDepth 100000
namespace Sl
open PySem L2 Dl
/-! ### short texts, and rows of what is short, can be shown -/
def Shd (n : Nat) (d : PyData) : Prop := d.shown.length ≤ n ∧ d.showable = true
theorem Shd.mono {n n' : Nat} {d : PyData} (h : Shd n d) (hn : n ≤ n') : Shd n' d := ⟨Nat.le_trans h.1 hn, h.2⟩
end Sl

set_option Elab.async false
set_option linter.all false
set_option maxRecDepth 100000
namespace Sl
open PySem L2 Dl
/-! ### careers in a graph: what they gain -/
section
variable {σ φ : Type}
def gsum (step : σ → φ → σ) (gain : σ → φ → Int) : σ → List φ → Int
  | _, [] => 0
  | p, f :: c => gain p f + gsum step gain (step p f) c
end
/-- a graph whose edges gain -/
structure Gr (σ φ : Type) where
  U : List σ
  fs : List φ
  st : σ → φ → σ
  ga : σ → φ → Int
  en : σ → Int
  cl : ∀ p ∈ U, ∀ f ∈ fs, st p f ∈ U
namespace Gr
variable {σ φ : Type} [DecidableEq σ] [DecidableEq φ] (g : Gr σ φ)
abbrev rn (p : σ) (c : List φ) : σ := run g.st p c
abbrev gs (p : σ) (c : List φ) : Int := gsum g.st g.ga p c
def val (p : σ) (c : List φ) : Int := g.gs p c + g.en (g.rn p c)
def Ok (c : List φ) : Prop := ∀ f ∈ c, f ∈ g.fs
variable {g}
theorem Ok.cons {f : φ} {c : List φ} (h : g.Ok (f :: c)) : f ∈ g.fs ∧ g.Ok c := ⟨h f (List.mem_cons_self ..), fun x hx => h x (List.mem_cons_of_mem _ hx)⟩
theorem Ok.mk {f : φ} {c : List φ} (h : f ∈ g.fs) (h2 : g.Ok c) : g.Ok (f :: c) := fun x hx => by
  rcases List.mem_cons.mp hx with rfl | hx
  · exact h
  · exact h2 x hx
theorem Ok.nil : g.Ok ([] : List φ) := fun _ h => nomatch h
/-! the places that a career passes -/
variable (g)
def nodes : σ → List φ → List σ
  | p, [] => [p]
  | p, f :: c => p :: nodes (g.st p f) c
variable {g}
theorem nodes_mem : ∀ {c : List φ} {p x : σ}, x ∈ g.nodes p c → ∃ a b, c = a ++ b ∧ g.rn p a = x
  | [], p, x, h => ⟨[], [], rfl, (List.mem_singleton.mp h).symm⟩
  | f :: c, p, x, h => by
    rcases List.mem_cons.mp h with rfl | h
    · exact ⟨[], f :: c, rfl, rfl⟩
    · obtain ⟨a, b, rfl, e⟩ := nodes_mem h
      exact ⟨f :: a, b, rfl, e⟩
variable (g)
def Ring (r : σ) (c : List φ) : Prop := g.Ok c ∧ g.rn r c = r ∧ 0 < g.gs r c
/-- a ring above nought can be come to -/
def Grows (p : σ) : Prop := ∃ a c, g.Ok a ∧ g.Ring (g.rn p a) c ∧ c.length ≤ g.U.length
def NoRing (p : σ) : Prop := ∀ a c, g.Ok a → ¬ g.Ring (g.rn p a) c
variable {g}
theorem Ring.in_ {r : σ} {c : List φ} (h : g.Ring r c) : c ≠ [] := fun e => by
  have := h.2.2
  rw [e] at this
  exact absurd this (by show ¬ (0 : Int) < 0; omega)
variable (g)
/-- the greatest sum from a place on -/
def Best (p : σ) : Option Int → Prop
  | some x => (∃ c, g.Ok c ∧ g.val p c = x) ∧ (∀ c, g.Ok c → g.val p c ≤ x) ∧ g.NoRing p
  | none => g.Grows p
variable {g}
theorem Best.uniq {p : σ} : ∀ {a b : Option Int}, g.Best p a → g.Best p b → a = b
  | none, none, _, _ => rfl
  | some x, some y, ⟨⟨c, h1, h2⟩, h3, _⟩, ⟨⟨d, k1, k2⟩, k3, _⟩ => by
    have := h3 d k1
    have := k3 c h1
    rw [h2] at this
    rw [k2] at *
    exact congrArg some (by omega)
  | none, some x, ⟨a, c, h1, h2, _⟩, ⟨_, _, k⟩ => absurd h2 (k a c h1)
  | some x, none, ⟨_, _, k⟩, ⟨a, c, h1, h2, _⟩ => absurd h2 (k a c h1)
/-! ### climbing: sums that are raised, and the years that raised them -/
variable (g)
def Wk (r : σ → Option φ) : σ → List φ → σ → Prop
  | p, [], q => p = q
  | p, f :: c, q => r p = some f ∧ Wk r (g.st p f) c q
/-- an edge of the walk on which the sum can be raised -/
def Slk (s : σ → Option Int) : σ → List φ → Prop
  | _, [] => False
  | p, f :: c => (∃ x y, s p = some x ∧ s (g.st p f) = some y ∧ x < g.ga p f + y) ∨ Slk s (g.st p f) c
structure Inv (s : σ → Option Int) (r : σ → Option φ) : Prop where
  val : ∀ p x, p ∈ g.U → s p = some x → (∃ c, g.Ok c ∧ g.val p c = x) ∧ g.en p ≤ x
  grow : ∀ p, p ∈ g.U → s p = none → g.Grows p ∧ r p = none
  fst : ∀ p f, p ∈ g.U → r p = some f → f ∈ g.fs ∧ ∀ x y, s p = some x → s (g.st p f) = some y → x ≤ g.ga p f + y
  end_ : ∀ p x, p ∈ g.U → s p = some x → r p = none → x = g.en p
  cyc : ∀ p c, p ∈ g.U → c ≠ [] → g.Wk r p c p → g.Slk s p c
variable {g}
def upd1 {β : Type} (s : σ → β) (p : σ) (v : β) : σ → β := fun q => if q = p then v else s q
theorem upd1_same {β : Type} {s : σ → β} {p : σ} {v : β} : upd1 s p v p = v := if_pos rfl
theorem upd1_ne {β : Type} {s : σ → β} {p q : σ} {v : β} (h : q ≠ p) : upd1 s p v q = s q := if_neg h
section
variable {s : σ → Option Int} {r : σ → Option φ}
theorem Wk.rn : ∀ {c : List φ} {p q : σ}, g.Wk r p c q → g.rn p c = q
  | [], _, _, h => h
  | _ :: c, _, _, h => Wk.rn (c := c) h.2
theorem Wk.split : ∀ {a b : List φ} {p t : σ}, g.Wk r p (a ++ b) t → ∃ q, g.Wk r p a q ∧ g.Wk r q b t
  | [], _, p, _, h => ⟨p, rfl, h⟩
  | _ :: a, _, _, _, h => by
    obtain ⟨q, h1, h2⟩ := Wk.split (a := a) h.2
    exact ⟨q, ⟨h.1, h1⟩, h2⟩
theorem Inv.ok (I : g.Inv s r) : ∀ {c : List φ} {p q : σ}, p ∈ g.U → g.Wk r p c q → g.Ok c ∧ q ∈ g.U
  | [], p, q, hp, h => ⟨Ok.nil, by have h : p = q := h; rw [← h]; exact hp⟩
  | f :: c, p, q, hp, h => by
    have hf := (I.fst p f hp h.1).1
    obtain ⟨h1, h2⟩ := Inv.ok I (c := c) (g.cl p hp f hf) h.2
    exact ⟨.mk hf h1, h2⟩
theorem Slk.at : ∀ {a b : List φ} {f : φ} {p : σ} {x y : Int}, s (g.rn p a) = some x → s (g.st (g.rn p a) f) = some y → x < g.ga (g.rn p a) f + y → g.Slk s p (a ++ f :: b)
  | [], b, f, p, x, y, h1, h2, h3 => .inl ⟨x, y, h1, h2, h3⟩
  | _ :: a, b, f, p, x, y, h1, h2, h3 => .inr (Slk.at (a := a) h1 h2 h3)
/-- a walk with one first year set anew: it passes there, or it is as before -/
theorem Wk.upd {p : σ} {v : Option φ} : ∀ {c : List φ} {q t : σ}, q ≠ p → g.Wk (upd1 r p v) q c t →
    (g.Wk r q c t ∧ (∀ s : σ → Option Int, ∀ w : Option Int, (∀ x y, s p = some x → w = some y → x ≤ y) → (s p = none ∨ w ≠ none) → g.Slk s q c → g.Slk (upd1 s p w) q c)) ∨
    ∃ a f b, c = a ++ f :: b ∧ g.Wk (upd1 r p v) q a (g.rn q a) ∧ upd1 r p v (g.rn q a) = some f ∧ g.st (g.rn q a) f = p
  | [], q, t, hq, h => .inl ⟨h, fun _ _ _ _ z => z.elim⟩
  | f :: c, q, t, hq, h => by
    have h1 : r q = some f := by
      have := h.1
      rwa [upd1_ne hq] at this
    by_cases e : g.st q f = p
    · exact .inr ⟨[], f, c, rfl, rfl, h.1, e⟩
    · rcases Wk.upd (c := c) e h.2 with ⟨k1, k2⟩ | ⟨a, f2, b, k1, k2, k3, k4⟩
      · refine .inl ⟨⟨h1, k1⟩, fun s w hw hw2 z => ?_⟩
        rcases z with ⟨x, y, z1, z2, z3⟩ | z
        · exact .inl ⟨x, y, by rw [upd1_ne hq]; exact z1, by rw [upd1_ne e]; exact z2, z3⟩
        · exact .inr (k2 s w hw hw2 z)
      · exact .inr ⟨f :: a, f2, b, by rw [k1]; rfl, ⟨h.1, k2⟩, k3, k4⟩
/-- a walk that does not pass -/
theorem Wk.past {p : σ} : ∀ {c : List φ} {q t : σ}, g.Wk (upd1 r p none) q c t → t ≠ p → g.Wk r q c t ∧ (g.Slk s q c → g.Slk (upd1 s p none) q c)
  | [], q, t, h, ht => ⟨h, fun z => z.elim⟩
  | f :: c, q, t, h, ht => by
    have hq : q ≠ p := fun e => by
      have := h.1
      rw [e, upd1_same] at this
      cases this
    have h1 := h.1
    rw [upd1_ne hq] at h1
    obtain ⟨k1, k2⟩ := Wk.past (c := c) h.2 ht
    have hv : g.st q f ≠ p := by
      cases c with
      | nil =>
        have e : g.st q f = t := h.2
        rw [e]
        exact ht
      | cons f2 c2 =>
        intro e
        have := h.2.1
        rw [e, upd1_same] at this
        cases this
    refine ⟨⟨h1, k1⟩, fun z => ?_⟩
    rcases z with ⟨x, y, z1, z2, z3⟩ | z
    · exact .inl ⟨x, y, by rw [upd1_ne hq]; exact z1, by rw [upd1_ne hv]; exact z2, z3⟩
    · exact .inr (k2 z)
/-- a sum that grows without end -/
theorem Inv.let (I : g.Inv s r) {p : σ} (hg : g.Grows p) : g.Inv (upd1 s p none) (upd1 r p none) := by
  constructor
  · intro q z hq hz
    by_cases e : q = p
    · subst e
      rw [upd1_same] at hz
      cases hz
    · rw [upd1_ne e] at hz
      exact I.val q z hq hz
  · intro q hq hz
    by_cases e : q = p
    · subst e
      exact ⟨hg, upd1_same⟩
    · rw [upd1_ne e] at hz ⊢
      exact I.grow q hq hz
  · intro q f' hq e1
    have e : q ≠ p := fun e => by
      rw [e, upd1_same] at e1
      cases e1
    rw [upd1_ne e] at e1
    obtain ⟨k1, k2⟩ := I.fst q f' hq e1
    refine ⟨k1, fun x y h1 h2 => ?_⟩
    have e2 : g.st q f' ≠ p := fun e => by
      rw [e, upd1_same] at h2
      cases h2
    rw [upd1_ne e] at h1
    rw [upd1_ne e2] at h2
    exact k2 x y h1 h2
  · intro q z hq h1 h2
    have e : q ≠ p := fun e => by
      rw [e, upd1_same] at h1
      cases h1
    rw [upd1_ne e] at h1 h2
    exact I.end_ q z hq h1 h2
  · intro q c hq hc hw
    have e : q ≠ p := fun e => by
      cases c with
      | nil => exact hc rfl
      | cons f c =>
        have := hw.1
        rw [e, upd1_same] at this
        cases this
    obtain ⟨k1, k2⟩ := Wk.past (s := s) hw e
    exact k2 (I.cyc q c hq hc k1)
/-! walks that come to an end -/
variable (g)
def Ends (r : σ → Option φ) (u : σ) : Prop := ∃ c q, g.Wk r u c q ∧ r q = none
variable {g}
theorem Wk.det : ∀ {c d : List φ} {u t q : σ}, g.Wk r u c t → g.Wk r u d q → r q = none → ∃ d', d = c ++ d' ∧ g.Wk r t d' q
  | [], d, u, t, q, h, h2, _ => ⟨d, rfl, by have h : u = t := h; rw [← h]; exact h2⟩
  | f :: c, [], u, t, q, h, h2, h3 => by
    have h2 : u = q := h2
    rw [← h2, h.1] at h3
    cases h3
  | f :: c, f2 :: d, u, t, q, h, h2, h3 => by
    have e := h.1.symm.trans h2.1
    cases e
    obtain ⟨d', e, w⟩ := Wk.det (c := c) h.2 h2.2 h3
    exact ⟨d', by rw [e]; rfl, w⟩
theorem Ends.no {u : σ} (h : g.Ends r u) {c : List φ} (hc : c ≠ []) (hw : g.Wk r u c u) : False := by
  obtain ⟨d, q, h1, h2⟩ := h
  have : ∀ (n : Nat) (d : List φ), d.length ≤ n → ¬ g.Wk r u d q := by
    intro n
    induction n with
    | zero =>
      intro d hd h1
      obtain ⟨d', e, w⟩ := hw.det h1 h2
      have := congrArg List.length e
      rw [List.length_append] at this
      have := List.length_pos_iff.mpr hc
      omega
    | succ n ih =>
      intro d hd h1
      obtain ⟨d', e, w⟩ := hw.det h1 h2
      have := congrArg List.length e
      rw [List.length_append] at this
      have := List.length_pos_iff.mpr hc
      exact ih d' (by omega) w
  exact this _ d (Nat.le_refl _) h1
theorem Ends.upd {u p : σ} (h : g.Ends r u) : g.Ends (upd1 r p none) u := by
  obtain ⟨c, q, h1, h2⟩ := h
  induction c generalizing u with
  | nil =>
    have h1 : u = q := h1
    refine ⟨[], u, rfl, ?_⟩
    rw [h1]
    unfold upd1
    split
    · rfl
    · exact h2
  | cons f c ih =>
    by_cases e : u = p
    · exact ⟨[], u, rfl, by rw [e]; exact upd1_same⟩
    · obtain ⟨c', q', w, e'⟩ := ih h1.2
      exact ⟨f :: c', q', ⟨by rw [upd1_ne e]; exact h1.1, w⟩, e'⟩
theorem Ends.step {u : σ} {f : φ} (h : g.Ends r (g.st u f)) (hr : r u = some f) : g.Ends r u := by
  obtain ⟨c, q, h1, h2⟩ := h
  exact ⟨f :: c, q, ⟨hr, h1⟩, h2⟩
/-- where no walk leads round, walks are short -/
theorem Ends.nd {u q : σ} {c : List φ} (hw : g.Wk r u c q) (hq : r q = none) : (g.nodes u c).Nodup := by
  induction c generalizing u with
  | nil => exact List.nodup_cons.mpr ⟨List.not_mem_nil, List.nodup_nil⟩
  | cons f c ih =>
    refine List.nodup_cons.mpr ⟨fun hm => ?_, ih hw.2⟩
    obtain ⟨a, b, e, h2⟩ := nodes_mem hm
    have w2 := hw.2
    rw [e] at w2
    obtain ⟨t, w3, w4⟩ := w2.split
    have et : t = u := w3.rn.symm.trans h2
    rw [et] at w3
    exact Ends.no ⟨f :: c, q, hw, hq⟩ (List.cons_ne_nil f a) ⟨hw.1, w3⟩
/-! ### at the end of the climb -/
end
end Gr
end Sl

set_option Elab.async false
set_option linter.all false
set_option maxRecDepth 100000
namespace Sl
open PySem L2 Dl
/-! ### lists as functions of their places -/
def sf {α : Type} (xs : List (Option α)) (p : Int) : Option α := if 0 ≤ p then (xs[p.toNat]?).getD none else none
theorem atI_end {α : Type} {xs : List α} {i : Nat} {y : α} (hl : xs.length = i + 1) (h : xs[i]? = some y) : atI xs (-1) = some y := by
  unfold atI ixN
  rw [if_neg (by decide), if_pos (by omega)]
  show xs[((-1 : Int) + xs.length).toNat]? = _
  rw [show ((-1 : Int) + xs.length).toNat = i by omega]
  exact h
def idx (n : Nat) : List Int := (List.range n).map Int.ofNat
theorem mem_rng {n : Nat} {x : Int} : x ∈ rng 0 n ↔ 0 ≤ x ∧ x < (n : Int) := by
  have e : ∀ (n : Nat) (lo : Int) (x : Int), lo ≤ x → x < lo + n → x ∈ rng lo n := by
    intro n
    induction n with
    | zero => intro lo x h1 h2; omega
    | succ n ih =>
      intro lo x h1 h2
      rw [rng]
      by_cases hx : x = lo
      · rw [hx]; exact List.mem_cons_self ..
      · exact List.mem_cons_of_mem _ (ih (lo + 1) x (by omega) (by omega))
  constructor
  · intro h
    have := rng_mem h
    omega
  · exact fun h => e n 0 x h.1 (by omega)
/-! sums that grow less -/
/-- a measure of a list: the sum of its weights -/
def wt {α : Type} (w : α → Nat) (xs : List α) : Nat := (xs.map w).sum
theorem sat_while {S ρ : Type} {c : S → Option (Bool × S)} {f : S → Option (Oc ρ S)} (I : S → Prop) (μ : S → Nat) (D : Oc ρ S → Prop) {s0 : S} (h0 : I s0)
    (hs : ∀ s, I s → Sat (c s) fun t => t.2 = s ∧ (t.1 = false → D (.nx s)) ∧ (t.1 = true → Sat (f s) fun o => match o with
      | .nx s' => I s' ∧ μ s' < μ s
      | .ret r => D (.ret r))) : Sat (whileX c f s0) D :=
  sat_whileX I μ D (fun s hI => by
    obtain ⟨⟨t, s1⟩, e, e1, h1, h2⟩ := hs s hI
    have e1 : s1 = s := e1
    subst e1
    exact ⟨t, e, h1, h2⟩) h0
theorem sat_to {α β : Type} {m : Option α} {F : α → Option β} {a : α} {Q : β → Prop} (h : m = some a) (k : Sat (F a) Q) : Sat (m.bind F) Q := by
  rw [h]
  exact k
section
variable {α γ : Type} {x : α} {a b : γ}
end
/-! ### more of climbing: what is cut -/
namespace Gr
variable {σ φ : Type} [DecidableEq σ] [DecidableEq φ] {g : Gr σ φ} {s s' s'' : σ → Option Int} {r : σ → Option φ}
/-- the places from which the years of a career start -/
def srcs (g : Gr σ φ) : σ → List φ → List σ
  | _, [] => []
  | p, f :: c => p :: srcs g (g.st p f) c
theorem srcs_mem : ∀ {c : List φ} {p x : σ}, x ∈ g.srcs p c → ∃ a b, c = a ++ b ∧ b ≠ [] ∧ g.rn p a = x
  | [], p, x, h => nomatch h
  | f :: c, p, x, h => by
    rcases List.mem_cons.mp h with rfl | h
    · exact ⟨[], f :: c, rfl, List.cons_ne_nil _ _, rfl⟩
    · obtain ⟨a, b, rfl, hb, e⟩ := srcs_mem h
      exact ⟨f :: a, b, rfl, hb, e⟩
/-- sums that were raised, or grow without end -/
def Up (g : Gr σ φ) (s s' : σ → Option Int) : Prop := ∀ p ∈ g.U, ∀ x', s' p = some x' → ∃ x, s p = some x ∧ x ≤ x'
theorem Up.refl : g.Up s s := fun p _ x' h => ⟨x', h, Int.le_refl _⟩
theorem Up.trans (h : g.Up s s') (h2 : g.Up s' s'') : g.Up s s'' := fun p hp x' e => by
  obtain ⟨x, e1, l1⟩ := h2 p hp x' e
  obtain ⟨y, e2, l2⟩ := h p hp x e1
  exact ⟨y, e2, Int.le_trans l2 l1⟩
def Moved (g : Gr σ φ) (s s' : σ → Option Int) : Prop := ∃ q ∈ g.U, ∃ x, s q = some x ∧ ∀ x', s' q = some x' → x < x'
theorem Moved.up (h : g.Moved s s') (h2 : g.Up s' s'') : g.Moved s s'' := by
  obtain ⟨q, hq, x, hx, h1⟩ := h
  refine ⟨q, hq, x, hx, fun x' e => ?_⟩
  obtain ⟨y, hy, l⟩ := h2 q hq x' e
  have := h1 y hy
  omega
/-- places taken out -/
def cut {β : Type} (S : List σ) (f : σ → Option β) : σ → Option β := fun q => if q ∈ S then none else f q
theorem Ends.cut {S : List σ} {u : σ} (h : g.Ends r u) : g.Ends (cut S r) u := by
  obtain ⟨c, q, h1, h2⟩ := h
  induction c generalizing u with
  | nil =>
    have h1 : u = q := h1
    refine ⟨[], u, rfl, ?_⟩
    rw [h1]
    unfold Gr.cut
    split
    · rfl
    · exact h2
  | cons f c ih =>
    by_cases e : u ∈ S
    · exact ⟨[], u, rfl, if_pos e⟩
    · obtain ⟨c', q', w, e'⟩ := ih h1.2
      exact ⟨f :: c', q', ⟨by unfold Gr.cut; rw [if_neg e]; exact h1.1, w⟩, e'⟩
theorem Ends.to {S : List σ} {d : List φ} {u q : σ} (h : g.Wk r u d q) (hq : q ∈ S) : g.Ends (Gr.cut S r) u := by
  induction d generalizing u with
  | nil =>
    have h : u = q := h
    exact ⟨[], u, rfl, by rw [h]; exact if_pos hq⟩
  | cons f c ih =>
    by_cases e : u ∈ S
    · exact ⟨[], u, rfl, if_pos e⟩
    · obtain ⟨c', q', w, e'⟩ := ih h.2
      exact ⟨f :: c', q', ⟨by unfold Gr.cut; rw [if_neg e]; exact h.1, w⟩, e'⟩
theorem Wk.from {c : List φ} {p q u : σ} (h : g.Wk r p c q) (hu : u ∈ g.srcs p c) : ∃ d, g.Wk r u d q ∧ d ≠ [] := by
  obtain ⟨a, b, e, hb, e2⟩ := srcs_mem hu
  rw [e] at h
  obtain ⟨t, w1, w2⟩ := h.split
  have : t = u := w1.rn.symm.trans e2
  rw [this] at w2
  exact ⟨b, w2, hb⟩
end Gr
end Sl

set_option Elab.async false
set_option linter.all false
set_option maxRecDepth 100000
namespace Sl
open PySem L2 Dl PyProof.Rows
/-! ### the first of the least lists of numbers -/
abbrev nI (xs : List Nat) : List Int := List.map (fun (n : Nat) => (n : Int)) xs
abbrev dI (xs : List Int) : PyData := .list (xs.map PyData.int)
end Sl

set_option Elab.async false
set_option linter.all false
set_option maxRecDepth 100000
set_option maxHeartbeats 4000000
namespace K06
open PySem PySem.Spec PyProof.Rows L2 Dl Sl
def topS (i : Nat) : Stmt := PySem.Challenge.pw_movedyears_k06_runs_are_sums.main.body.getD i (.Pass ⟨0, 0, 0, 0⟩)
abbrev s_check_facts : Stmt := topS 4
abbrev n_check_facts : List Str := ["machine", "career", "fact"]
theorem sc_check_facts : FnScope n_check_facts ["machine", "career"] (defScope s_check_facts) := ⟨rfl, rfl, rfl, by decide +kernel, rfl, by decide +kernel, by decide +kernel⟩
abbrev s_states_along : Stmt := topS 5
abbrev n_states_along : List Str := ["machine", "state", "career", "states", "fact"]
theorem sc_states_along : FnScope n_states_along ["machine", "state", "career"] (defScope s_states_along) := ⟨rfl, rfl, rfl, by decide +kernel, rfl, by decide +kernel, by decide +kernel⟩
abbrev s_state_after : Stmt := topS 6
abbrev n_state_after : List Str := ["machine", "state", "career"]
theorem sc_state_after : FnScope n_state_after ["machine", "state", "career"] (defScope s_state_after) := ⟨rfl, rfl, rfl, by decide +kernel, rfl, by decide +kernel, by decide +kernel⟩
abbrev s_gains_of : Stmt := topS 7
abbrev n_gains_of : List Str := ["machine", "state", "career", "states", "at", "fact"]
theorem sc_gains_of : FnScope n_gains_of ["machine", "state", "career"] (defScope s_gains_of) := ⟨rfl, rfl, rfl, by decide +kernel, rfl, by decide +kernel, by decide +kernel⟩
abbrev s_total : Stmt := topS 8
abbrev n_total : List Str := ["machine", "state", "career"]
theorem sc_total : FnScope n_total ["machine", "state", "career"] (defScope s_total) := ⟨rfl, rfl, rfl, by decide +kernel, rfl, by decide +kernel, by decide +kernel⟩
abbrev s_passes : Stmt := topS 10
abbrev n_passes : List Str := ["test", "counts", "counter", "sign", "number"]
theorem sc_passes : FnScope n_passes ["test", "counts"] (defScope s_passes) := ⟨rfl, rfl, rfl, by decide +kernel, rfl, by decide +kernel, by decide +kernel⟩
abbrev s_holds : Stmt := topS 11
abbrev n_holds : List Str := ["condition", "counts", "test"]
theorem sc_holds : FnScope n_holds ["condition", "counts"] (defScope s_holds) := ⟨rfl, rfl, rfl, by decide +kernel, rfl, by decide +kernel, by decide +kernel⟩
abbrev s_Machine_init : Stmt := inClass (topS 13) 0
abbrev n_Machine_init : List Str := ["self", "facts", "step", "gain", "leave", "row"]
theorem sc_Machine_init : FnScope n_Machine_init ["self", "facts", "step", "gain", "leave"] (defScope s_Machine_init) := ⟨rfl, rfl, rfl, by decide +kernel, rfl, by decide +kernel, by decide +kernel⟩
abbrev s_Machine_many : Stmt := inClass (topS 13) 1
abbrev n_Machine_many : List Str := ["self"]
theorem sc_Machine_many : FnScope n_Machine_many ["self"] (defScope s_Machine_many) := ⟨rfl, rfl, rfl, by decide +kernel, rfl, by decide +kernel, by decide +kernel⟩
abbrev s_first_counts : Stmt := topS 14
abbrev n_first_counts : List Str := ["rules", "name"]
theorem sc_first_counts : FnScope n_first_counts ["rules"] (defScope s_first_counts) := ⟨rfl, rfl, rfl, by decide +kernel, rfl, by decide +kernel, by decide +kernel⟩
abbrev s_counted_on : Stmt := topS 15
abbrev n_counted_on : List Str := ["counter", "value", "fact", "_", "cap", "steps"]
theorem sc_counted_on : FnScope n_counted_on ["counter", "value", "fact"] (defScope s_counted_on) := ⟨rfl, rfl, rfl, by decide +kernel, rfl, by decide +kernel, by decide +kernel⟩
abbrev s_year_counts : Stmt := topS 16
abbrev n_year_counts : List Str := ["rules", "counts", "fact", "counter"]
theorem sc_year_counts : FnScope n_year_counts ["rules", "counts", "fact"] (defScope s_year_counts) := ⟨rfl, rfl, rfl, by decide +kernel, rfl, by decide +kernel, by decide +kernel⟩
abbrev s_paid_sum : Stmt := topS 17
abbrev n_paid_sum : List Str := ["payments", "counts", "amount", "condition"]
theorem sc_paid_sum : FnScope n_paid_sum ["payments", "counts"] (defScope s_paid_sum) := ⟨rfl, rfl, rfl, by decide +kernel, rfl, by decide +kernel, by decide +kernel⟩
abbrev s_year_gain : Stmt := topS 18
abbrev n_year_gain : List Str := ["rules", "counts", "fact", "amount", "wanted", "condition"]
theorem sc_year_gain : FnScope n_year_gain ["rules", "counts", "fact"] (defScope s_year_gain) := ⟨rfl, rfl, rfl, by decide +kernel, rfl, by decide +kernel, by decide +kernel⟩
abbrev s_leave_gain : Stmt := topS 19
abbrev n_leave_gain : List Str := ["rules", "counts"]
theorem sc_leave_gain : FnScope n_leave_gain ["rules", "counts"] (defScope s_leave_gain) := ⟨rfl, rfl, rfl, by decide +kernel, rfl, by decide +kernel, by decide +kernel⟩
abbrev s_row_of : Stmt := topS 20
abbrev n_row_of : List Str := ["rules", "counts", "name"]
theorem sc_row_of : FnScope n_row_of ["rules", "counts"] (defScope s_row_of) := ⟨rfl, rfl, rfl, by decide +kernel, rfl, by decide +kernel, by decide +kernel⟩
abbrev s_counts_of : Stmt := topS 21
abbrev n_counts_of : List Str := ["rules", "row"]
theorem sc_counts_of : FnScope n_counts_of ["rules", "row"] (defScope s_counts_of) := ⟨rfl, rfl, rfl, by decide +kernel, rfl, by decide +kernel, by decide +kernel⟩
abbrev s_place_of : Stmt := topS 22
abbrev n_place_of : List Str := ["key", "met", "places"]
theorem sc_place_of : FnScope n_place_of ["key", "met", "places"] (defScope s_place_of) := ⟨rfl, rfl, rfl, by decide +kernel, rfl, by decide +kernel, by decide +kernel⟩
abbrev s_add_states : Stmt := topS 23
abbrev n_add_states : List Str := ["rules", "machine", "met", "places", "counts", "step", "fact"]
theorem sc_add_states : FnScope n_add_states ["rules", "machine", "met", "places"] (defScope s_add_states) := ⟨rfl, rfl, rfl, by decide +kernel, rfl, by decide +kernel, by decide +kernel⟩
abbrev s_made : Stmt := topS 24
abbrev n_made : List Str := ["rules", "more", "machine", "met", "places", "counts", "row"]
theorem sc_made : FnScope n_made ["rules", "more"] (defScope s_made) := ⟨rfl, rfl, rfl, by decide +kernel, rfl, by decide +kernel, by decide +kernel⟩
abbrev s_Rules_init : Stmt := inClass (topS 26) 0
abbrev n_Rules_init : List Str := ["self", "facts", "counters", "gains", "leaves"]
theorem sc_Rules_init : FnScope n_Rules_init ["self", "facts", "counters", "gains", "leaves"] (defScope s_Rules_init) := ⟨rfl, rfl, rfl, by decide +kernel, rfl, by decide +kernel, by decide +kernel⟩
abbrev s_Rules_names : Stmt := inClass (topS 26) 1
abbrev n_Rules_names : List Str := ["self", "counter"]
theorem sc_Rules_names : FnScope n_Rules_names ["self"] (defScope s_Rules_names) := ⟨rfl, rfl, rfl, by decide +kernel, rfl, by decide +kernel, by decide +kernel⟩
abbrev s_law_cell : Stmt := topS 28
abbrev n_law_cell : List Str := ["script", "k"]
theorem sc_law_cell : FnScope n_law_cell ["script", "k"] (defScope s_law_cell) := ⟨rfl, rfl, rfl, by decide +kernel, rfl, by decide +kernel, by decide +kernel⟩
abbrev s_law_digits : Stmt := topS 29
abbrev n_law_digits : List Str := ["script", "first", "last", "digits", "k", "cell", "turn", "seed"]
theorem sc_law_digits : FnScope n_law_digits ["script", "first", "last"] (defScope s_law_digits) := ⟨rfl, rfl, rfl, by decide +kernel, rfl, by decide +kernel, by decide +kernel⟩
abbrev s_law_draw : Stmt := topS 30
abbrev n_law_draw : List Str := ["box", "many", "at"]
theorem sc_law_draw : FnScope n_law_draw ["box", "many"] (defScope s_law_draw) := ⟨rfl, rfl, rfl, by decide +kernel, rfl, by decide +kernel, by decide +kernel⟩
abbrev s_law_condition : Stmt := topS 31
abbrev n_law_condition : List Str := ["box", "names", "condition", "k"]
theorem sc_law_condition : FnScope n_law_condition ["box", "names"] (defScope s_law_condition) := ⟨rfl, rfl, rfl, by decide +kernel, rfl, by decide +kernel, by decide +kernel⟩
abbrev s_law_amount : Stmt := topS 32
abbrev n_law_amount : List Str := ["box"]
theorem sc_law_amount : FnScope n_law_amount ["box"] (defScope s_law_amount) := ⟨rfl, rfl, rfl, by decide +kernel, rfl, by decide +kernel, by decide +kernel⟩
abbrev s_law_facts : Stmt := topS 33
abbrev n_law_facts : List Str := ["box"]
theorem sc_law_facts : FnScope n_law_facts ["box"] (defScope s_law_facts) := ⟨rfl, rfl, rfl, by decide +kernel, rfl, by decide +kernel, by decide +kernel⟩
abbrev s_law_counters : Stmt := topS 34
abbrev n_law_counters : List Str := ["box", "facts", "counters", "k", "cap", "steps", "fact", "way"]
theorem sc_law_counters : FnScope n_law_counters ["box", "facts"] (defScope s_law_counters) := ⟨rfl, rfl, rfl, by decide +kernel, rfl, by decide +kernel, by decide +kernel⟩
abbrev s_law_scheme : Stmt := topS 35
abbrev n_law_scheme : List Str := ["box", "facts", "counters", "names", "gains", "k", "leaves", "counter"]
theorem sc_law_scheme : FnScope n_law_scheme ["box", "facts"] (defScope s_law_scheme) := ⟨rfl, rfl, rfl, by decide +kernel, rfl, by decide +kernel, by decide +kernel⟩
abbrev s_law_holds : Stmt := topS 36
abbrev n_law_holds : List Str := ["condition", "counts", "test"]
theorem sc_law_holds : FnScope n_law_holds ["condition", "counts"] (defScope s_law_holds) := ⟨rfl, rfl, rfl, by decide +kernel, rfl, by decide +kernel, by decide +kernel⟩
abbrev s_law_year : Stmt := topS 38
abbrev n_law_year : List Str := ["scheme", "counts", "fact", "later", "name", "cap", "steps"]
theorem sc_law_year : FnScope n_law_year ["scheme", "counts", "fact"] (defScope s_law_year) := ⟨rfl, rfl, rfl, by decide +kernel, rfl, by decide +kernel, by decide +kernel⟩
abbrev s_law_gain : Stmt := topS 39
abbrev n_law_gain : List Str := ["scheme", "counts", "fact", "found", "amount", "other", "condition"]
theorem sc_law_gain : FnScope n_law_gain ["scheme", "counts", "fact"] (defScope s_law_gain) := ⟨rfl, rfl, rfl, by decide +kernel, rfl, by decide +kernel, by decide +kernel⟩
abbrev s_law_leave : Stmt := topS 40
abbrev n_law_leave : List Str := ["scheme", "counts", "found", "amount", "condition"]
theorem sc_law_leave : FnScope n_law_leave ["scheme", "counts"] (defScope s_law_leave) := ⟨rfl, rfl, rfl, by decide +kernel, rfl, by decide +kernel, by decide +kernel⟩
abbrev s_law_career : Stmt := topS 41
abbrev n_law_career : List Str := ["box", "facts", "most", "k"]
theorem sc_law_career : FnScope n_law_career ["box", "facts", "most"] (defScope s_law_career) := ⟨rfl, rfl, rfl, by decide +kernel, rfl, by decide +kernel, by decide +kernel⟩
abbrev s_law_told : Stmt := topS 42
abbrev n_law_told : List Str := ["way", "machine", "state", "career", "e"]
theorem sc_law_told : FnScope n_law_told ["way", "machine", "state", "career"] (defScope s_law_told) := ⟨rfl, rfl, rfl, by decide +kernel, rfl, by decide +kernel, by decide +kernel⟩
abbrev s_law : Stmt := topS 43
abbrev n_law : List Str := ["script", "box", "scheme", "career", "state", "counts", "rows", "gains", "fact", "states", "at", "wrong", "way", "machine", "known", "name", "cap", "steps", "one"]
theorem sc_law : FnScope n_law ["script"] (defScope s_law) := ⟨rfl, rfl, rfl, by decide +kernel, rfl, by decide +kernel, by decide +kernel⟩
abbrev s_UnknownFact_init : Stmt := inClass (topS 2) 0
abbrev n_UnknownFact_init : List Str := ["self", "fact"]
theorem sup_UnknownFact : SupScope n_UnknownFact_init ["self", "fact"] (defScope s_UnknownFact_init) := ⟨rfl, rfl, rfl, by decide +kernel, rfl, by decide +kernel, by decide +kernel, by decide +kernel, rfl, rfl, by decide +kernel⟩
structure D_Machine where
  facts : (List Str)
  step : (List (List (Str × Int)))
  gain : (List (List (Str × Int)))
  leave : (List Int)
def sh_Machine (x : D_Machine) : List Sh := [fz (tList tStr) x.facts, fz (tList (tDic kStr tInt)) x.step, fz (tList (tDic kStr tInt)) x.gain, fz (tList tInt) x.leave]
abbrev t_Machine (C_Machine : Addr) : Ty D_Machine := tOb C_Machine ["facts", "step", "gain", "leave"] sh_Machine
structure D_Rules where
  facts : (List Str)
  counters : (List (Str × Int × (List (Str × (Int ⊕ Str)))))
  gains : (List (Int × Str × (List (Str × Str × Int))))
  leaves : (List (Int × (List (Str × Str × Int))))
def sh_Rules (x : D_Rules) : List Sh := [fz (tList tStr) x.facts, fz (tList (tP3 tStr tInt (tDic kStr (tSum tInt tStr)))) x.counters, fz (tList (tP3 tInt tStr (tList (tP3 tStr tStr tInt)))) x.gains, fz (tList (tP2 tInt (tList (tP3 tStr tStr tInt)))) x.leaves]
abbrev t_Rules (C_Rules : Addr) : Ty D_Rules := tOb C_Rules ["facts", "counters", "gains", "leaves"] sh_Rules
section
variable {P : Program} {w : World} {K : PySem.W.Frag} {mg : Str → Option Value} {base : Heap}
abbrev O_law_cell : Type := Int
def m_law_cell (x_script : List Int) (x_k : Int) : Option O_law_cell := ((if (decide (x_k < ((x_script).length : Int))) = true then ((atI x_script x_k).bind fun t2 => some t2) else (some (0 : Int))))
def rs_law_cell (K : PySem.W.Frag) : O_law_cell → Sh := fun o => (fz tInt o)
def ls_law_cell (K : PySem.W.Frag) : O_law_cell → List Sh := fun o => []
def P_law_cell (K : PySem.W.Frag) : Phi := fun ss r L => ∃ (x_script : List Int) (x_k : Int) (o : O_law_cell), m_law_cell x_script x_k = some o ∧ ss = [(fz (tScr K) x_script), (fz tInt x_k)] ∧ r = rs_law_cell K o ∧ L = []
theorem ok_law_cell (m_len : mg "len" = none) {f0 : Addr} {fd : FuncData} (D : Fun K "_law_cell" "_law_cell" s_law_cell f0 fd) : FnG P w K mg base CX0 1 f0 fd ["script", "k"] (spS 2 (P_law_cell K)) := by
  refine Fun.okS D sc_law_cell rfl (by decide) fun X0 s H A outer cdv E ss r L vs hr hlen hP => ?_
  obtain ⟨x_script, x_k, o_, h, rfl, rfl, rfl⟩ := hP
  obtain ⟨v0, v1, rfl⟩ : ∃ v0 v1, vs = [v0, v1] := by
    match vs, hlen with
    | [v0, v1], _ => exact ⟨v0, v1, rfl⟩
  refine ⟨_, rs_law_cell K, ls_law_cell K, o_, [], rfl, rfl, (fun _ h => nomatch h), rfl, ?_⟩
  clear X0
  unfold m_law_cell at h
  show SJ _ _ _ [some (fz (tScr K) x_script), some (fz tInt x_k)] _
  refine sj_ifT (t := (decide (x_k < ((x_script).length : Int)))) (tj_cmp (ej_lt (ej_var (i := 1) rfl (by first | exact Or.inl rfl | exact Or.inr (Or.inl rfl) | exact Or.inr (Or.inr rfl)) rfl) (ej_b (ss := [_]) Dl.cl_len va_lenScr (by rfl) m_len bt_len (aj_cons (ej_var (i := 0) rfl (by first | exact Or.inl rfl | exact Or.inr (Or.inl rfl) | exact Or.inr (Or.inr rfl)) rfl) aj_nil)))) ?_ ?_
  · intro h_b1
    replace h := ifT h_b1 h
    show SJ _ _ _ [some (fz (tScr K) x_script), some (fz tInt x_k)] _
    obtain ⟨t2, h_t2, h⟩ := bnd h
    (simp only [Option.some.injEq, Prod.mk.injEq] at h; first | subst h | (obtain ⟨_, _⟩ := h; subst_vars))
    exact sj_ret (rs := rs_law_cell K) (ls := ls_law_cell K) (y := t2) (ej_ix ix_list (v2_ixScr h_t2) (ej_var (i := 0) rfl (by first | exact Or.inl rfl | exact Or.inr (Or.inl rfl) | exact Or.inr (Or.inr rfl)) rfl) (ej_var (i := 1) rfl (by first | exact Or.inl rfl | exact Or.inr (Or.inl rfl) | exact Or.inr (Or.inr rfl)) rfl) (fun _ _ => rfl)) rfl rfl (show List.Nodup ([] : List Nat) by decide) rfl
  intro h_b1
  replace h := ifF h_b1 h
  show SJ _ _ _ [some (fz (tScr K) x_script), some (fz tInt x_k)] _
  (simp only [Option.some.injEq, Prod.mk.injEq] at h; first | subst h | (obtain ⟨_, _⟩ := h; subst_vars))
  exact sj_ret (rs := rs_law_cell K) (ls := ls_law_cell K) (y := (0 : Int)) ej_int rfl rfl (show List.Nodup ([] : List Nat) by decide) rfl

abbrev O_law_digits : Type := (List Int)
def m_law_digits (x_script : List Int) (x_first : Int) (x_last : Int) : Option O_law_digits := (((grd (-1000000000 ≤ x_first ∧ x_first ≤ 1000000000 ∧ -1000000000 ≤ x_last ∧ x_last ≤ 1000000000) ()).bind fun g1 => (foldO (S := (List Int)) (fun (s2 : (List Int)) (y3 : Int) => ((m_law_cell x_script y3).bind fun t4 => ((if (decide (t4 < (0 : Int))) = true then ((some ((1 : Int) - ((2 : Int) * t4))).bind fun cell_7 => some (cell_7)) else some (t4) : Option (Int)).bind fun j6 => ((if (decide (((10 : Int) ^ ((18 : Int)).toNat) ≤ j6)) = true then ((foldO (S := (List Int) × Int) (fun (s10 : (List Int) × Int) (y11 : Int) => ((if (decide ((0 : Int) < s10.2)) = true then ((grd (Sm (s10.1).length) ()).bind fun g14 => ((some (Int.fdiv s10.2 (1000 : Int))).bind fun cell_15 => some ((s10.1 ++ [(Int.fmod s10.2 (1000 : Int))]), cell_15))) else some (s10.1, s10.2) : Option ((List Int) × Int)).bind fun j13 => some (j13.1, j13.2))) (s2, j6) (range1 (60 : Int))).bind fun j16 => some (j16.1, j16.2)) else ((some (Int.fmod (((j6 * (48271 : Int)) + (y3 * (69621 : Int))) + (11 : Int)) (2147483647 : Int))).bind fun seed_18 => ((foldO (S := (List Int) × Int) (fun (s19 : (List Int) × Int) (y20 : Int) => ((some (Int.fmod (((s19.2 * (16807 : Int)) + ((7 : Int) * y20)) + (1 : Int)) (2147483647 : Int))).bind fun seed_21 => ((grd (Sm (s19.1).length) ()).bind fun g22 => some ((s19.1 ++ [(Int.fmod (Int.fdiv seed_21 (997 : Int)) (1000 : Int))]), seed_21)))) (s2, seed_18) (range1 (12 : Int))).bind fun j23 => some (j23.1, j6))) : Option ((List Int) × Int)).bind fun j9 => some (j9.1))))) (([] : List Int)) (range2 x_first x_last)).bind fun j25 => (some j25)))
def rs_law_digits (K : PySem.W.Frag) : O_law_digits → Sh := fun o => (fz (tList tInt) o)
def ls_law_digits (K : PySem.W.Frag) : O_law_digits → List Sh := fun o => []
def P_law_digits (K : PySem.W.Frag) : Phi := fun ss r L => ∃ (x_script : List Int) (x_first : Int) (x_last : Int) (o : O_law_digits), m_law_digits x_script x_first x_last = some o ∧ ss = [(fz (tScr K) x_script), (fz tInt x_first), (fz tInt x_last)] ∧ r = rs_law_digits K o ∧ L = []
theorem ok_law_digits (m_range : mg "range" = none) (C_law_cell : CalG P w K mg base CX0 1 "_law_cell" ["script", "k"] (spS 2 (P_law_cell K))) (m_int : mg "int" = none) {f0 : Addr} {fd : FuncData} (D : Fun K "_law_digits" "_law_digits" s_law_digits f0 fd) : FnG P w K mg base CX0 2 f0 fd ["script", "first", "last"] (spS 3 (P_law_digits K)) := by
  refine Fun.okS D sc_law_digits rfl (by decide) fun X0 s H A outer cdv E ss r L vs hr hlen hP => ?_
  obtain ⟨x_script, x_first, x_last, o_, h, rfl, rfl, rfl⟩ := hP
  obtain ⟨v0, v1, v2, rfl⟩ : ∃ v0 v1 v2, vs = [v0, v1, v2] := by
    match vs, hlen with
    | [v0, v1, v2], _ => exact ⟨v0, v1, v2, rfl⟩
  refine ⟨_, rs_law_digits K, ls_law_digits K, o_, [], rfl, rfl, (fun _ h => nomatch h), rfl, ?_⟩
  clear X0
  unfold m_law_digits at h
  show SJ _ _ _ [some (fz (tScr K) x_script), some (fz tInt x_first), some (fz tInt x_last), none, none, none, none, none] _
  refine sj_set (i := 3) (s := (oL tInt ([] : List Int))) sc_law_digits.nd rfl (by first | exact Or.inl rfl | exact Or.inr rfl) (ej_oL (τ := tInt) (xs := ([] : List Int)) (ej_lst (ss := []) aj_nil)) ?_
  show SJ _ _ _ [some (fz (tScr K) x_script), some (fz tInt x_first), some (fz tInt x_last), some (oL tInt ([] : List Int)), none, none, none, none] _
  obtain ⟨g1, h_g1, h⟩ := bnd h
  obtain ⟨j25, h_j25, h⟩ := bnd h
  refine sj_for (sh := fz tInt) (Γs := fun (s2 : (List Int)) => [some (fz (tScr K) x_script), some (fz tInt x_first), some (fz tInt x_last), some (oL tInt s2), none, none, none, none]) (Γy := fun (s2 : (List Int)) y3 => [some (fz (tScr K) x_script), some (fz tInt x_first), some (fz tInt x_last), some (oL tInt s2), some (fz tInt y3), none, none, none]) (fl := [true, true, true, true, true, true, true, true]) (rs_law_digits K) (ls_law_digits K) h_j25 (ij_rg2 (by rfl) m_range (aj_cons (ej_var (i := 1) rfl (by first | exact Or.inl rfl | exact Or.inr (Or.inl rfl) | exact Or.inr (Or.inr rfl)) rfl) (aj_cons (ej_var (i := 2) rfl (by first | exact Or.inl rfl | exact Or.inr (Or.inl rfl) | exact Or.inr (Or.inr rfl)) rfl) aj_nil)) (grd_iff h_g1).1) rfl rfl (fun s2 y3 => (gj_name (i := 4) sc_law_digits.nd rfl (by first | exact Or.inl rfl | exact Or.inr rfl))) ?_ ?_ PassesOwn.never rfl
  · intro s2 y3 o_ h_hy26 h
    clear h_j25; have h := h
    show SJ _ _ _ [some (fz (tScr K) x_script), some (fz tInt x_first), some (fz tInt x_last), some (oL tInt s2), some (fz tInt y3), none, none, none] _
    obtain ⟨t4, h_t4, h⟩ := bnd h
    refine sj_set (i := 5) (s := (fz tInt t4)) sc_law_digits.nd rfl (by first | exact Or.inl rfl | exact Or.inr rfl) (ej_callP (ss := [_, _]) C_law_cell (hr.mono (by decide)) (by rfl) pass0 (aj_cons (ej_var (i := 0) rfl (by first | exact Or.inl rfl | exact Or.inr (Or.inl rfl) | exact Or.inr (Or.inr rfl)) rfl) (aj_cons (ej_var (i := 4) rfl (by first | exact Or.inl rfl | exact Or.inr (Or.inl rfl) | exact Or.inr (Or.inr rfl)) rfl) aj_nil)) ⟨x_script, y3, t4, h_t4, rfl, rfl, rfl⟩) ?_
    show SJ _ _ _ [some (fz (tScr K) x_script), some (fz tInt x_first), some (fz tInt x_last), some (oL tInt s2), some (fz tInt y3), some (fz tInt t4), none, none] _
    obtain ⟨j6, h_j6, h⟩ := bnd h
    refine sj_if (t := (decide (t4 < (0 : Int)))) (Γm := [some (fz (tScr K) x_script), some (fz tInt x_first), some (fz tInt x_last), some (oL tInt s2), some (fz tInt y3), some (fz tInt j6), none, none]) (tj_cmp (ej_lt (ej_var (i := 5) rfl (by first | exact Or.inl rfl | exact Or.inr (Or.inl rfl) | exact Or.inr (Or.inr rfl)) rfl) ej_int)) ?_ ?_ ?_
    · intro h_b5
      clear h; have h := ifT h_b5 h_j6; clear h_j6
      show SJ _ _ _ [some (fz (tScr K) x_script), some (fz tInt x_first), some (fz tInt x_last), some (oL tInt s2), some (fz tInt y3), some (fz tInt t4), none, none] _
      obtain ⟨cell_7, h_cell_7, h⟩ := bnd h
      have h_cell_7 := Option.some.inj h_cell_7
      refine sj_set (i := 5) (s := (fz tInt cell_7)) sc_law_digits.nd rfl (by first | exact Or.inl rfl | exact Or.inr rfl) (ej_is h_cell_7 (ej_sub ej_int (ej_mul ej_int (ej_var (i := 5) rfl (by first | exact Or.inl rfl | exact Or.inr (Or.inl rfl) | exact Or.inr (Or.inr rfl)) rfl) (.inl ⟨by decide, by decide⟩)))) ?_
      show SJ _ _ _ [some (fz (tScr K) x_script), some (fz tInt x_first), some (fz tInt x_last), some (oL tInt s2), some (fz tInt y3), some (fz tInt cell_7), none, none] _
      (simp only [Option.some.injEq, Prod.mk.injEq] at h; first | subst h | (obtain ⟨_, _⟩ := h; subst_vars))
      exact sj_join (fl := [true, true, true, true, true, true, true, true]) rfl rfl (fun _ _ _ h => h)
    · intro h_b5
      clear h; have h := ifF h_b5 h_j6; clear h_j6
      show SJ _ _ _ [some (fz (tScr K) x_script), some (fz tInt x_first), some (fz tInt x_last), some (oL tInt s2), some (fz tInt y3), some (fz tInt t4), none, none] _
      (simp only [Option.some.injEq, Prod.mk.injEq] at h; first | subst h | (obtain ⟨_, _⟩ := h; subst_vars))
      exact sj_join (fl := [true, true, true, true, true, true, true, true]) rfl rfl (fun _ _ _ h => h)
    obtain ⟨j9, h_j9, h⟩ := bnd h
    refine sj_if (t := (decide (((10 : Int) ^ ((18 : Int)).toNat) ≤ j6))) (Γm := [some (fz (tScr K) x_script), some (fz tInt x_first), some (fz tInt x_last), some (oL tInt j9.1), some (fz tInt y3), some (fz tInt j9.2), none, none]) (tj_cmp (ej_ge (ej_var (i := 5) rfl (by first | exact Or.inl rfl | exact Or.inr (Or.inl rfl) | exact Or.inr (Or.inr rfl)) rfl) (ej_pow ej_int ej_int ⟨by decide, by decide, by decide⟩))) ?_ ?_ ?_
    · intro h_b8
      clear h; have h := ifT h_b8 h_j9; clear h_j9
      show SJ _ _ _ [some (fz (tScr K) x_script), some (fz tInt x_first), some (fz tInt x_last), some (oL tInt s2), some (fz tInt y3), some (fz tInt j6), none, none] _
      obtain ⟨j16, h_j16, h⟩ := bnd h
      refine sj_for (sh := fz tInt) (Γs := fun (s10 : (List Int) × Int) => [some (fz (tScr K) x_script), some (fz tInt x_first), some (fz tInt x_last), some (oL tInt s10.1), some (fz tInt y3), some (fz tInt s10.2), none, none]) (Γy := fun (s10 : (List Int) × Int) y11 => [some (fz (tScr K) x_script), some (fz tInt x_first), some (fz tInt x_last), some (oL tInt s10.1), some (fz tInt y3), some (fz tInt s10.2), some (fz tInt y11), none]) (fl := [true, true, true, true, true, true, true, true]) (rs_law_digits K) (ls_law_digits K) h_j16 (ij_rg1 (by rfl) m_range (aj_cons ej_int aj_nil) ⟨by decide, by decide⟩) rfl rfl (fun s10 y11 => (gj_name (i := 6) sc_law_digits.nd rfl (by first | exact Or.inl rfl | exact Or.inr rfl))) ?_ ?_ PassesOwn.never rfl
      · intro s10 y11 o_ h_hy17 h
        clear h_j16; have h := h
        show SJ _ _ _ [some (fz (tScr K) x_script), some (fz tInt x_first), some (fz tInt x_last), some (oL tInt s10.1), some (fz tInt y3), some (fz tInt s10.2), some (fz tInt y11), none] _
        obtain ⟨j13, h_j13, h⟩ := bnd h
        refine sj_if (t := (decide ((0 : Int) < s10.2))) (Γm := [some (fz (tScr K) x_script), some (fz tInt x_first), some (fz tInt x_last), some (oL tInt j13.1), some (fz tInt y3), some (fz tInt j13.2), some (fz tInt y11), none]) (tj_cmp (ej_gt (ej_var (i := 5) rfl (by first | exact Or.inl rfl | exact Or.inr (Or.inl rfl) | exact Or.inr (Or.inr rfl)) rfl) ej_int)) ?_ ?_ ?_
        · intro h_b12
          clear h; have h := ifT h_b12 h_j13; clear h_j13
          show SJ _ _ _ [some (fz (tScr K) x_script), some (fz tInt x_first), some (fz tInt x_last), some (oL tInt s10.1), some (fz tInt y3), some (fz tInt s10.2), some (fz tInt y11), none] _
          obtain ⟨g14, h_g14, h⟩ := bnd h
          refine sj_expr (ej_app (i := 3) rfl (by first | exact Or.inl rfl | exact Or.inr (Or.inl rfl) | exact Or.inr (Or.inr rfl)) rfl (aj_cons (ej_mod (ej_ty (ss := [_]) Dl.cl_int va_int (by rfl) m_int bt_int (aj_cons (ej_var (i := 5) rfl (by first | exact Or.inl rfl | exact Or.inr (Or.inl rfl) | exact Or.inr (Or.inr rfl)) rfl) aj_nil)) ej_int (by decide)) aj_nil) rfl (grd_iff h_g14).1) ?_
          show SJ _ _ _ [some (fz (tScr K) x_script), some (fz tInt x_first), some (fz tInt x_last), some (oL tInt (s10.1 ++ [(Int.fmod s10.2 (1000 : Int))])), some (fz tInt y3), some (fz tInt s10.2), some (fz tInt y11), none] _
          obtain ⟨cell_15, h_cell_15, h⟩ := bnd h
          have h_cell_15 := Option.some.inj h_cell_15
          refine sj_set (i := 5) (s := (fz tInt cell_15)) sc_law_digits.nd rfl (by first | exact Or.inl rfl | exact Or.inr rfl) (ej_is h_cell_15 (ej_div (ej_var (i := 5) rfl (by first | exact Or.inl rfl | exact Or.inr (Or.inl rfl) | exact Or.inr (Or.inr rfl)) rfl) ej_int ⟨by decide, by decide⟩)) ?_
          show SJ _ _ _ [some (fz (tScr K) x_script), some (fz tInt x_first), some (fz tInt x_last), some (oL tInt (s10.1 ++ [(Int.fmod s10.2 (1000 : Int))])), some (fz tInt y3), some (fz tInt cell_15), some (fz tInt y11), none] _
          (simp only [Option.some.injEq, Prod.mk.injEq] at h; first | subst h | (obtain ⟨_, _⟩ := h; subst_vars))
          exact sj_join (fl := [true, true, true, true, true, true, true, true]) rfl rfl (fun _ _ _ h => h)
        · intro h_b12
          clear h; have h := ifF h_b12 h_j13; clear h_j13
          show SJ _ _ _ [some (fz (tScr K) x_script), some (fz tInt x_first), some (fz tInt x_last), some (oL tInt s10.1), some (fz tInt y3), some (fz tInt s10.2), some (fz tInt y11), none] _
          (simp only [Option.some.injEq, Prod.mk.injEq] at h; first | subst h | (obtain ⟨_, _⟩ := h; subst_vars))
          exact sj_join (fl := [true, true, true, true, true, true, true, true]) rfl rfl (fun _ _ _ h => h)
        (simp only [Option.some.injEq, Prod.mk.injEq] at h; first | subst h | (obtain ⟨_, _⟩ := h; subst_vars))
        exact sj_end (fl := [true, true, true, true, true, true, false, true]) rfl rfl
      show SJ _ _ _ [some (fz (tScr K) x_script), some (fz tInt x_first), some (fz tInt x_last), some (oL tInt j16.1), some (fz tInt y3), some (fz tInt j16.2), none, none] _
      (simp only [Option.some.injEq, Prod.mk.injEq] at h; first | subst h | (obtain ⟨_, _⟩ := h; subst_vars))
      exact sj_join (fl := [true, true, true, true, true, true, true, true]) rfl rfl (fun _ _ _ h => h)
    · intro h_b8
      clear h; have h := ifF h_b8 h_j9; clear h_j9
      show SJ _ _ _ [some (fz (tScr K) x_script), some (fz tInt x_first), some (fz tInt x_last), some (oL tInt s2), some (fz tInt y3), some (fz tInt j6), none, none] _
      obtain ⟨seed_18, h_seed_18, h⟩ := bnd h
      have h_seed_18 := Option.some.inj h_seed_18
      refine sj_set (i := 7) (s := (fz tInt seed_18)) sc_law_digits.nd rfl (by first | exact Or.inl rfl | exact Or.inr rfl) (ej_is h_seed_18 (ej_mod (ej_ty (ss := [_]) Dl.cl_int va_int (by rfl) m_int bt_int (aj_cons (ej_add (ej_add (ej_mul (ej_var (i := 5) rfl (by first | exact Or.inl rfl | exact Or.inr (Or.inl rfl) | exact Or.inr (Or.inr rfl)) rfl) ej_int (.inr ⟨by decide, by decide⟩)) (ej_mul (ej_var (i := 4) rfl (by first | exact Or.inl rfl | exact Or.inr (Or.inl rfl) | exact Or.inr (Or.inr rfl)) rfl) ej_int (.inr ⟨by decide, by decide⟩))) ej_int) aj_nil)) ej_int (by decide))) ?_
      show SJ _ _ _ [some (fz (tScr K) x_script), some (fz tInt x_first), some (fz tInt x_last), some (oL tInt s2), some (fz tInt y3), some (fz tInt j6), none, some (fz tInt seed_18)] _
      obtain ⟨j23, h_j23, h⟩ := bnd h
      refine sj_for (sh := fz tInt) (Γs := fun (s19 : (List Int) × Int) => [some (fz (tScr K) x_script), some (fz tInt x_first), some (fz tInt x_last), some (oL tInt s19.1), some (fz tInt y3), some (fz tInt j6), none, some (fz tInt s19.2)]) (Γy := fun (s19 : (List Int) × Int) y20 => [some (fz (tScr K) x_script), some (fz tInt x_first), some (fz tInt x_last), some (oL tInt s19.1), some (fz tInt y3), some (fz tInt j6), some (fz tInt y20), some (fz tInt s19.2)]) (fl := [true, true, true, true, true, true, true, true]) (rs_law_digits K) (ls_law_digits K) h_j23 (ij_rg1 (by rfl) m_range (aj_cons ej_int aj_nil) ⟨by decide, by decide⟩) rfl rfl (fun s19 y20 => (gj_name (i := 6) sc_law_digits.nd rfl (by first | exact Or.inl rfl | exact Or.inr rfl))) ?_ ?_ PassesOwn.never rfl
      · intro s19 y20 o_ h_hy24 h
        clear h_j23; have h := h
        show SJ _ _ _ [some (fz (tScr K) x_script), some (fz tInt x_first), some (fz tInt x_last), some (oL tInt s19.1), some (fz tInt y3), some (fz tInt j6), some (fz tInt y20), some (fz tInt s19.2)] _
        obtain ⟨seed_21, h_seed_21, h⟩ := bnd h
        have h_seed_21 := Option.some.inj h_seed_21
        refine sj_set (i := 7) (s := (fz tInt seed_21)) sc_law_digits.nd rfl (by first | exact Or.inl rfl | exact Or.inr rfl) (ej_is h_seed_21 (ej_mod (ej_ty (ss := [_]) Dl.cl_int va_int (by rfl) m_int bt_int (aj_cons (ej_add (ej_add (ej_mul (ej_var (i := 7) rfl (by first | exact Or.inl rfl | exact Or.inr (Or.inl rfl) | exact Or.inr (Or.inr rfl)) rfl) ej_int (.inr ⟨by decide, by decide⟩)) (ej_mul ej_int (ej_var (i := 6) rfl (by first | exact Or.inl rfl | exact Or.inr (Or.inl rfl) | exact Or.inr (Or.inr rfl)) rfl) (.inl ⟨by decide, by decide⟩))) ej_int) aj_nil)) ej_int (by decide))) ?_
        show SJ _ _ _ [some (fz (tScr K) x_script), some (fz tInt x_first), some (fz tInt x_last), some (oL tInt s19.1), some (fz tInt y3), some (fz tInt j6), some (fz tInt y20), some (fz tInt seed_21)] _
        obtain ⟨g22, h_g22, h⟩ := bnd h
        refine sj_expr (ej_app (i := 3) rfl (by first | exact Or.inl rfl | exact Or.inr (Or.inl rfl) | exact Or.inr (Or.inr rfl)) rfl (aj_cons (ej_mod (ej_ty (ss := [_]) Dl.cl_int va_int (by rfl) m_int bt_int (aj_cons (ej_div (ej_var (i := 7) rfl (by first | exact Or.inl rfl | exact Or.inr (Or.inl rfl) | exact Or.inr (Or.inr rfl)) rfl) ej_int ⟨by decide, by decide⟩) aj_nil)) ej_int (by decide)) aj_nil) rfl (grd_iff h_g22).1) ?_
        show SJ _ _ _ [some (fz (tScr K) x_script), some (fz tInt x_first), some (fz tInt x_last), some (oL tInt (s19.1 ++ [(Int.fmod (Int.fdiv seed_21 (997 : Int)) (1000 : Int))])), some (fz tInt y3), some (fz tInt j6), some (fz tInt y20), some (fz tInt seed_21)] _
        (simp only [Option.some.injEq, Prod.mk.injEq] at h; first | subst h | (obtain ⟨_, _⟩ := h; subst_vars))
        exact sj_end (fl := [true, true, true, true, true, true, false, true]) rfl rfl
      show SJ _ _ _ [some (fz (tScr K) x_script), some (fz tInt x_first), some (fz tInt x_last), some (oL tInt j23.1), some (fz tInt y3), some (fz tInt j6), none, some (fz tInt j23.2)] _
      (simp only [Option.some.injEq, Prod.mk.injEq] at h; first | subst h | (obtain ⟨_, _⟩ := h; subst_vars))
      exact sj_join (fl := [true, true, true, true, true, true, true, false]) rfl rfl (fun _ _ _ h => h)
    (simp only [Option.some.injEq, Prod.mk.injEq] at h; first | subst h | (obtain ⟨_, _⟩ := h; subst_vars))
    exact sj_end (fl := [true, true, true, true, false, false, true, true]) rfl rfl
  show SJ _ _ _ [some (fz (tScr K) x_script), some (fz tInt x_first), some (fz tInt x_last), some (oL tInt j25), none, none, none, none] _
  (simp only [Option.some.injEq, Prod.mk.injEq] at h; first | subst h | (obtain ⟨_, _⟩ := h; subst_vars))
  exact sj_ret (rs := rs_law_digits K) (ls := ls_law_digits K) (y := j25) (ej_fz (ej_mov (i := 3) rfl (by first | exact Or.inl rfl | exact Or.inr (Or.inl rfl) | exact Or.inr (Or.inr rfl)) rfl) fz_oL) rfl rfl (show List.Nodup ([] : List Nat) by decide) rfl

abbrev O_law_draw : Type := Int × ((List Int) × Int)
def m_law_draw (x_box : ((List Int) × Int)) (x_many : Int) : Option O_law_draw := ((((if (decide (x_box.2 < ((x_box.1).length : Int))) = true then ((atI x_box.1 x_box.2).bind fun t2 => (grd (x_many ≠ 0) ()).bind fun g3 => some ((Int.fmod t2 x_many), (x_box.1, (x_box.2 + (1 : Int))))) else (some ((0 : Int), (x_box.1, (x_box.2 + (1 : Int)))))))))
def rs_law_draw : O_law_draw → Sh := fun o => (fz tInt o.1)
def ls_law_draw : O_law_draw → List Sh := fun o => [(oLst [(fz (tList tInt) o.2.1), (fz tInt o.2.2)])]
def P_law_draw : Phi := fun ss r L => ∃ (x_box : ((List Int) × Int)) (x_many : Int) (o : O_law_draw), m_law_draw x_box x_many = some o ∧ ss = [(oLst [(fz (tList tInt) x_box.1), (fz tInt x_box.2)]), (fz tInt x_many)] ∧ r = rs_law_draw o ∧ L = [(0, (oLst [(fz (tList tInt) o.2.1), (fz tInt o.2.2)]))]
theorem ok_law_draw (m_len : mg "len" = none) (m_int : mg "int" = none) {f0 : Addr} {fd : FuncData} (D : Fun K "_law_draw" "_law_draw" s_law_draw f0 fd) : FnG P w K mg base CX0 1 f0 fd ["box", "many"] (spS 2 P_law_draw) := by
  refine Fun.okS D sc_law_draw rfl (by decide) fun X0 s H A outer cdv E ss r L vs hr hlen hP => ?_
  obtain ⟨x_box, x_many, o_, h, rfl, rfl, rfl⟩ := hP
  obtain ⟨v0, v1, rfl⟩ : ∃ v0 v1, vs = [v0, v1] := by
    match vs, hlen with
    | [v0, v1], _ => exact ⟨v0, v1, rfl⟩
  refine ⟨_, rs_law_draw, ls_law_draw, o_, [(0, v0)], rfl, rfl, by intro p hp; simp only [List.mem_cons, List.not_mem_nil, or_false] at hp; subst hp; rfl, rfl, ?_⟩
  clear X0
  unfold m_law_draw at h
  show SJ _ _ _ [some (oLst [(fz (tList tInt) x_box.1), (fz tInt x_box.2)]), some (fz tInt x_many), none] _
  refine sj_set (i := 2) (s := (fz tInt x_box.2)) sc_law_draw.nd rfl (by first | exact Or.inl rfl | exact Or.inr rfl) (ej_ixP ix_list (v2_ixO (j := 1) rdo_o rfl rfl) (pj_var (i := 0) rfl (by first | exact Or.inl rfl | exact Or.inr (Or.inl rfl) | exact Or.inr (Or.inr rfl)) rfl) ej_int (fun _ _ => rfl)) ?_
  show SJ _ _ _ [some (oLst [(fz (tList tInt) x_box.1), (fz tInt x_box.2)]), some (fz tInt x_many), some (fz tInt x_box.2)] _
  refine sj_setO (i := 0) (j := 1) rfl (by first | exact Or.inl rfl | exact Or.inr (Or.inl rfl) | exact Or.inr (Or.inr rfl)) (ej_add (ej_var (i := 2) rfl (by first | exact Or.inl rfl | exact Or.inr (Or.inl rfl) | exact Or.inr (Or.inr rfl)) rfl) ej_int) rfl ej_int rfl (fun _ q => by cases q; exact fun _ _ _ h => h.1) ?_
  show SJ _ _ _ [some (oLst [(fz (tList tInt) x_box.1), (fz tInt (x_box.2 + (1 : Int)))]), some (fz tInt x_many), some (fz tInt x_box.2)] _
  refine sj_ifT (t := (decide (x_box.2 < ((x_box.1).length : Int)))) (tj_cmp (ej_lt (ej_var (i := 2) rfl (by first | exact Or.inl rfl | exact Or.inr (Or.inl rfl) | exact Or.inr (Or.inr rfl)) rfl) (ej_b (ss := [_]) Dl.cl_len (va_len rd_fz) (by rfl) m_len bt_len (aj_cons (ej_ixP ix_list (v2_ixO (j := 0) rdo_o rfl rfl) (pj_var (i := 0) rfl (by first | exact Or.inl rfl | exact Or.inr (Or.inl rfl) | exact Or.inr (Or.inr rfl)) rfl) ej_int (fun _ _ => rfl)) aj_nil)))) ?_ ?_
  · intro h_b1
    replace h := ifT h_b1 h
    show SJ _ _ _ [some (oLst [(fz (tList tInt) x_box.1), (fz tInt (x_box.2 + (1 : Int)))]), some (fz tInt x_many), some (fz tInt x_box.2)] _
    obtain ⟨t2, h_t2, h⟩ := bnd h
    obtain ⟨g3, h_g3, h⟩ := bnd h
    (simp only [Option.some.injEq, Prod.mk.injEq] at h; first | subst h | (obtain ⟨_, _⟩ := h; subst_vars))
    exact sj_ret (rs := rs_law_draw) (ls := ls_law_draw) (y := ((Int.fmod t2 x_many), (x_box.1, (x_box.2 + (1 : Int))))) (ej_mod (ej_ty (ss := [_]) Dl.cl_int va_int (by rfl) m_int bt_int (aj_cons (ej_ix ix_list (v2_ixL rd_fz h_t2) (ej_ixP ix_list (v2_ixO (j := 0) rdo_o rfl rfl) (pj_var (i := 0) rfl (by first | exact Or.inl rfl | exact Or.inr (Or.inl rfl) | exact Or.inr (Or.inr rfl)) rfl) ej_int (fun _ _ => rfl)) (ej_var (i := 2) rfl (by first | exact Or.inl rfl | exact Or.inr (Or.inl rfl) | exact Or.inr (Or.inr rfl)) rfl) (fun _ _ => rfl)) aj_nil)) (ej_var (i := 1) rfl (by first | exact Or.inl rfl | exact Or.inr (Or.inl rfl) | exact Or.inr (Or.inr rfl)) rfl) (grd_iff h_g3).1) rfl rfl (show List.Nodup ([0] : List Nat) by decide) rfl
  intro h_b1
  replace h := ifF h_b1 h
  show SJ _ _ _ [some (oLst [(fz (tList tInt) x_box.1), (fz tInt (x_box.2 + (1 : Int)))]), some (fz tInt x_many), some (fz tInt x_box.2)] _
  (simp only [Option.some.injEq, Prod.mk.injEq] at h; first | subst h | (obtain ⟨_, _⟩ := h; subst_vars))
  exact sj_ret (rs := rs_law_draw) (ls := ls_law_draw) (y := ((0 : Int), (x_box.1, (x_box.2 + (1 : Int))))) ej_int rfl rfl (show List.Nodup ([0] : List Nat) by decide) rfl

abbrev O_law_counters : Type := (List (Str × Int × (List (Str × (Int ⊕ Str))))) × ((List Int) × Int)
def m_law_counters (x_box : ((List Int) × Int)) (x_facts : (List Str)) : Option O_law_counters := (((m_law_draw (x_box.1, x_box.2) (4 : Int)).bind fun t1 => (grd (-1000000000 ≤ t1.1 ∧ t1.1 ≤ 1000000000) ()).bind fun g2 => (foldO (S := ((List Int) × Int) × (List (Str × Int × (List (Str × (Int ⊕ Str)))))) (fun (s3 : ((List Int) × Int) × (List (Str × Int × (List (Str × (Int ⊕ Str)))))) (y4 : Int) => ((m_law_draw (s3.1.1, s3.1.2) (5 : Int)).bind fun t5 => (atI [(1 : Int), (2 : Int), (3 : Int), (4 : Int), (20 : Int)] t5.1).bind fun t6 => (((foldO (S := ((List Int) × Int) × (List (Str × (Int ⊕ Str)))) (fun (s7 : ((List Int) × Int) × (List (Str × (Int ⊕ Str)))) (y8 : Str) => ((m_law_draw (s7.1.1, s7.1.2) (4 : Int)).bind fun t9 => ((if (decide (t9.1 < (2 : Int))) = true then ((m_law_draw (t9.2.1, t9.2.2) (min t6 (3 : Int))).bind fun t12 => (grd (Sm (s7.2).length) ()).bind fun g13 => some ((t12.2.1, t12.2.2), (aput s7.2 y8 (Sum.inl ((1 : Int) + t12.1) : (Int ⊕ Str))))) else some ((t9.2.1, t9.2.2), s7.2) : Option (((List Int) × Int) × (List (Str × (Int ⊕ Str))))).bind fun j11 => ((if (decide (t9.1 = (2 : Int))) = true then ((grd (Sm (j11.2).length) ()).bind fun g16 => some ((aput j11.2 y8 (Sum.inr ("reset" : Str) : (Int ⊕ Str))))) else some (j11.2) : Option ((List (Str × (Int ⊕ Str))))).bind fun j15 => some ((j11.1.1, j11.1.2), j15))))) ((t5.2.1, t5.2.2), ([] : (List (Str × (Int ⊕ Str))))) x_facts).bind fun j17 => ((atI [("years" : Str), ("gap" : Str), ("and" : Str)] y4).bind fun t19 => (grd (Sm (s3.2).length) ()).bind fun g20 => some ((j17.1.1, j17.1.2), (s3.2 ++ [(t19, t6, j17.2)]))))))) ((t1.2.1, t1.2.2), ([] : List (Str × Int × (List (Str × (Int ⊕ Str)))))) (range1 t1.1)).bind fun j21 => (some (j21.2, (j21.1.1, j21.1.2)))))
def rs_law_counters : O_law_counters → Sh := fun o => (fz (tList (tP3 tStr tInt (tDic kStr (tSum tInt tStr)))) o.1)
def ls_law_counters : O_law_counters → List Sh := fun o => [(oLst [(fz (tList tInt) o.2.1), (fz tInt o.2.2)])]
def P_law_counters : Phi := fun ss r L => ∃ (x_box : ((List Int) × Int)) (x_facts : (List Str)) (o : O_law_counters), m_law_counters x_box x_facts = some o ∧ ss = [(oLst [(fz (tList tInt) x_box.1), (fz tInt x_box.2)]), (fz (tList tStr) x_facts)] ∧ r = rs_law_counters o ∧ L = [(0, (oLst [(fz (tList tInt) o.2.1), (fz tInt o.2.2)]))]
theorem ok_law_counters (C_law_draw : CalG P w K mg base CX0 1 "_law_draw" ["box", "many"] (spS 2 P_law_draw)) (m_range : mg "range" = none) (m_min : mg "min" = none) {f0 : Addr} {fd : FuncData} (D : Fun K "_law_counters" "_law_counters" s_law_counters f0 fd) : FnG P w K mg base CX0 2 f0 fd ["box", "facts"] (spS 2 P_law_counters) := by
  refine Fun.okS D sc_law_counters rfl (by decide) fun X0 s H A outer cdv E ss r L vs hr hlen hP => ?_
  obtain ⟨x_box, x_facts, o_, h, rfl, rfl, rfl⟩ := hP
  obtain ⟨v0, v1, rfl⟩ : ∃ v0 v1, vs = [v0, v1] := by
    match vs, hlen with
    | [v0, v1], _ => exact ⟨v0, v1, rfl⟩
  refine ⟨_, rs_law_counters, ls_law_counters, o_, [(0, v0)], rfl, rfl, by intro p hp; simp only [List.mem_cons, List.not_mem_nil, or_false] at hp; subst hp; rfl, rfl, ?_⟩
  clear X0
  unfold m_law_counters at h
  show SJ _ _ _ [some (oLst [(fz (tList tInt) x_box.1), (fz tInt x_box.2)]), some (fz (tList tStr) x_facts), none, none, none, none, none, none] _
  refine sj_set (i := 2) (s := (oL (tP3 tStr tInt (tDic kStr (tSum tInt tStr))) ([] : List (Str × Int × (List (Str × (Int ⊕ Str))))))) sc_law_counters.nd rfl (by first | exact Or.inl rfl | exact Or.inr rfl) (ej_oL (τ := (tP3 tStr tInt (tDic kStr (tSum tInt tStr)))) (xs := ([] : List (Str × Int × (List (Str × (Int ⊕ Str)))))) (ej_lst (ss := []) aj_nil)) ?_
  show SJ _ _ _ [some (oLst [(fz (tList tInt) x_box.1), (fz tInt x_box.2)]), some (fz (tList tStr) x_facts), some (oL (tP3 tStr tInt (tDic kStr (tSum tInt tStr))) ([] : List (Str × Int × (List (Str × (Int ⊕ Str)))))), none, none, none, none, none] _
  obtain ⟨t1, h_t1, h⟩ := bnd h
  obtain ⟨g2, h_g2, h⟩ := bnd h
  obtain ⟨j21, h_j21, h⟩ := bnd h
  refine sj_for (sh := fz tInt) (Γs := fun (s3 : ((List Int) × Int) × (List (Str × Int × (List (Str × (Int ⊕ Str)))))) => [some (oLst [(fz (tList tInt) s3.1.1), (fz tInt s3.1.2)]), some (fz (tList tStr) x_facts), some (oL (tP3 tStr tInt (tDic kStr (tSum tInt tStr))) s3.2), none, none, none, none, none]) (Γy := fun (s3 : ((List Int) × Int) × (List (Str × Int × (List (Str × (Int ⊕ Str)))))) y4 => [some (oLst [(fz (tList tInt) s3.1.1), (fz tInt s3.1.2)]), some (fz (tList tStr) x_facts), some (oL (tP3 tStr tInt (tDic kStr (tSum tInt tStr))) s3.2), some (fz tInt y4), none, none, none, none]) (fl := [true, true, true, true, true, true, true, true]) (rs_law_counters) (ls_law_counters) h_j21 (ij_rg1 (by rfl) m_range (aj_cons (ej_call C_law_draw (hr.mono (by decide)) (by rfl) pass0 (aj_lend (i := 0) rfl (by first | exact Or.inl rfl | exact Or.inr (Or.inl rfl) | exact Or.inr (Or.inr rfl)) rfl (aj_cons ej_int aj_nil)) rfl ⟨(x_box.1, x_box.2), (4 : Int), t1, h_t1, rfl, rfl, rfl⟩) aj_nil) (grd_iff h_g2).1) rfl rfl (fun s3 y4 => (gj_name (i := 3) sc_law_counters.nd rfl (by first | exact Or.inl rfl | exact Or.inr rfl))) ?_ ?_ PassesOwn.never rfl
  · intro s3 y4 o_ h_hy22 h
    clear h_j21; have h := h
    show SJ _ _ _ [some (oLst [(fz (tList tInt) s3.1.1), (fz tInt s3.1.2)]), some (fz (tList tStr) x_facts), some (oL (tP3 tStr tInt (tDic kStr (tSum tInt tStr))) s3.2), some (fz tInt y4), none, none, none, none] _
    obtain ⟨t5, h_t5, h⟩ := bnd h
    obtain ⟨t6, h_t6, h⟩ := bnd h
    refine sj_set (i := 4) (s := (fz tInt t6)) sc_law_counters.nd rfl (by first | exact Or.inl rfl | exact Or.inr rfl) (ej_ix ix_list (v2_ixL rd_fz h_t6) (ej_fz (ej_lst (ss := [(fz tInt (1 : Int)), (fz tInt (2 : Int)), (fz tInt (3 : Int)), (fz tInt (4 : Int)), (fz tInt (20 : Int))]) (aj_cons ej_int (aj_cons ej_int (aj_cons ej_int (aj_cons ej_int (aj_cons ej_int aj_nil)))))) (fz_lm (τ := tInt) (xs := [(1 : Int), (2 : Int), (3 : Int), (4 : Int), (20 : Int)]))) (ej_call C_law_draw (hr.mono (by decide)) (by rfl) pass0 (aj_lend (i := 0) rfl (by first | exact Or.inl rfl | exact Or.inr (Or.inl rfl) | exact Or.inr (Or.inr rfl)) rfl (aj_cons ej_int aj_nil)) rfl ⟨(s3.1.1, s3.1.2), (5 : Int), t5, h_t5, rfl, rfl, rfl⟩) (fun _ _ => rfl)) ?_
    show SJ _ _ _ [some (oLst [(fz (tList tInt) t5.2.1), (fz tInt t5.2.2)]), some (fz (tList tStr) x_facts), some (oL (tP3 tStr tInt (tDic kStr (tSum tInt tStr))) s3.2), some (fz tInt y4), some (fz tInt t6), none, none, none] _
    refine sj_set (i := 5) (s := (oD kStr (tSum tInt tStr) ([] : (List (Str × (Int ⊕ Str)))))) sc_law_counters.nd rfl (by first | exact Or.inl rfl | exact Or.inr rfl) (ej_dnew (kd := fStr) (τ := (tSum tInt tStr))) ?_
    show SJ _ _ _ [some (oLst [(fz (tList tInt) t5.2.1), (fz tInt t5.2.2)]), some (fz (tList tStr) x_facts), some (oL (tP3 tStr tInt (tDic kStr (tSum tInt tStr))) s3.2), some (fz tInt y4), some (fz tInt t6), some (oD kStr (tSum tInt tStr) ([] : (List (Str × (Int ⊕ Str))))), none, none] _
    obtain ⟨j17, h_j17, h⟩ := bnd h
    refine sj_for (sh := fz tStr) (Γs := fun (s7 : ((List Int) × Int) × (List (Str × (Int ⊕ Str)))) => [some (oLst [(fz (tList tInt) s7.1.1), (fz tInt s7.1.2)]), some (fz (tList tStr) x_facts), some (oL (tP3 tStr tInt (tDic kStr (tSum tInt tStr))) s3.2), some (fz tInt y4), some (fz tInt t6), some (oD kStr (tSum tInt tStr) s7.2), none, none]) (Γy := fun (s7 : ((List Int) × Int) × (List (Str × (Int ⊕ Str)))) y8 => [some (oLst [(fz (tList tInt) s7.1.1), (fz tInt s7.1.2)]), some (fz (tList tStr) x_facts), some (oL (tP3 tStr tInt (tDic kStr (tSum tInt tStr))) s3.2), some (fz tInt y4), some (fz tInt t6), some (oD kStr (tSum tInt tStr) s7.2), some (fz tStr y8), none]) (fl := [true, true, true, true, true, true, true, true]) (rs_law_counters) (ls_law_counters) h_j17 (ij_lst (ej_var (i := 1) rfl (by first | exact Or.inl rfl | exact Or.inr (Or.inl rfl) | exact Or.inr (Or.inr rfl)) rfl)) rfl rfl (fun s7 y8 => (gj_name (i := 6) sc_law_counters.nd rfl (by first | exact Or.inl rfl | exact Or.inr rfl))) ?_ ?_ PassesOwn.never rfl
    · intro s7 y8 o_ h_hy18 h
      clear h_j17; have h := h
      show SJ _ _ _ [some (oLst [(fz (tList tInt) s7.1.1), (fz tInt s7.1.2)]), some (fz (tList tStr) x_facts), some (oL (tP3 tStr tInt (tDic kStr (tSum tInt tStr))) s3.2), some (fz tInt y4), some (fz tInt t6), some (oD kStr (tSum tInt tStr) s7.2), some (fz tStr y8), none] _
      obtain ⟨t9, h_t9, h⟩ := bnd h
      refine sj_set (i := 7) (s := (fz tInt t9.1)) sc_law_counters.nd rfl (by first | exact Or.inl rfl | exact Or.inr rfl) (ej_call C_law_draw (hr.mono (by decide)) (by rfl) pass0 (aj_lend (i := 0) rfl (by first | exact Or.inl rfl | exact Or.inr (Or.inl rfl) | exact Or.inr (Or.inr rfl)) rfl (aj_cons ej_int aj_nil)) rfl ⟨(s7.1.1, s7.1.2), (4 : Int), t9, h_t9, rfl, rfl, rfl⟩) ?_
      show SJ _ _ _ [some (oLst [(fz (tList tInt) t9.2.1), (fz tInt t9.2.2)]), some (fz (tList tStr) x_facts), some (oL (tP3 tStr tInt (tDic kStr (tSum tInt tStr))) s3.2), some (fz tInt y4), some (fz tInt t6), some (oD kStr (tSum tInt tStr) s7.2), some (fz tStr y8), some (fz tInt t9.1)] _
      obtain ⟨j11, h_j11, h⟩ := bnd h
      refine sj_if (t := (decide (t9.1 < (2 : Int)))) (Γm := [some (oLst [(fz (tList tInt) j11.1.1), (fz tInt j11.1.2)]), some (fz (tList tStr) x_facts), some (oL (tP3 tStr tInt (tDic kStr (tSum tInt tStr))) s3.2), some (fz tInt y4), some (fz tInt t6), some (oD kStr (tSum tInt tStr) j11.2), some (fz tStr y8), some (fz tInt t9.1)]) (tj_cmp (ej_lt (ej_var (i := 7) rfl (by first | exact Or.inl rfl | exact Or.inr (Or.inl rfl) | exact Or.inr (Or.inr rfl)) rfl) ej_int)) ?_ ?_ ?_
      · intro h_b10
        clear h; have h := ifT h_b10 h_j11; clear h_j11
        show SJ _ _ _ [some (oLst [(fz (tList tInt) t9.2.1), (fz tInt t9.2.2)]), some (fz (tList tStr) x_facts), some (oL (tP3 tStr tInt (tDic kStr (tSum tInt tStr))) s3.2), some (fz tInt y4), some (fz tInt t6), some (oD kStr (tSum tInt tStr) s7.2), some (fz tStr y8), some (fz tInt t9.1)] _
        obtain ⟨t12, h_t12, h⟩ := bnd h
        obtain ⟨g13, h_g13, h⟩ := bnd h
        refine sj_dput (i := 5) (hu_of hr.room) rfl (by first | exact Or.inl rfl | exact Or.inr (Or.inl rfl) | exact Or.inr (Or.inr rfl)) (ej_inl (ej_add ej_int (ej_call C_law_draw (hr.mono (by decide)) (by rfl) pass0 (aj_lend (i := 0) rfl (by first | exact Or.inl rfl | exact Or.inr (Or.inl rfl) | exact Or.inr (Or.inr rfl)) rfl (aj_cons (ej_b (ss := [_, _]) (Dl.cl_min2 rfl) va_min (by rfl) m_min bt_min (aj_cons (ej_var (i := 4) rfl (by first | exact Or.inl rfl | exact Or.inr (Or.inl rfl) | exact Or.inr (Or.inr rfl)) rfl) (aj_cons ej_int aj_nil))) aj_nil)) rfl ⟨(t9.2.1, t9.2.2), (min t6 (3 : Int)), t12, h_t12, rfl, rfl, rfl⟩))) rfl (ej_var (i := 6) rfl (by first | exact Or.inl rfl | exact Or.inr (Or.inl rfl) | exact Or.inr (Or.inr rfl)) rfl) (grd_iff h_g13).1 ?_
        show SJ _ _ _ [some (oLst [(fz (tList tInt) t12.2.1), (fz tInt t12.2.2)]), some (fz (tList tStr) x_facts), some (oL (tP3 tStr tInt (tDic kStr (tSum tInt tStr))) s3.2), some (fz tInt y4), some (fz tInt t6), some (oD kStr (tSum tInt tStr) (aput s7.2 y8 (Sum.inl ((1 : Int) + t12.1) : (Int ⊕ Str)))), some (fz tStr y8), some (fz tInt t9.1)] _
        (simp only [Option.some.injEq, Prod.mk.injEq] at h; first | subst h | (obtain ⟨_, _⟩ := h; subst_vars))
        exact sj_join (fl := [true, true, true, true, true, true, true, true]) rfl rfl (fun _ _ _ h => h)
      · intro h_b10
        clear h; have h := ifF h_b10 h_j11; clear h_j11
        show SJ _ _ _ [some (oLst [(fz (tList tInt) t9.2.1), (fz tInt t9.2.2)]), some (fz (tList tStr) x_facts), some (oL (tP3 tStr tInt (tDic kStr (tSum tInt tStr))) s3.2), some (fz tInt y4), some (fz tInt t6), some (oD kStr (tSum tInt tStr) s7.2), some (fz tStr y8), some (fz tInt t9.1)] _
        (simp only [Option.some.injEq, Prod.mk.injEq] at h; first | subst h | (obtain ⟨_, _⟩ := h; subst_vars))
        exact sj_join (fl := [true, true, true, true, true, true, true, true]) rfl rfl (fun _ _ _ h => h)
      obtain ⟨j15, h_j15, h⟩ := bnd h
      refine sj_if (t := (decide (t9.1 = (2 : Int)))) (Γm := [some (oLst [(fz (tList tInt) j11.1.1), (fz tInt j11.1.2)]), some (fz (tList tStr) x_facts), some (oL (tP3 tStr tInt (tDic kStr (tSum tInt tStr))) s3.2), some (fz tInt y4), some (fz tInt t6), some (oD kStr (tSum tInt tStr) j15), some (fz tStr y8), some (fz tInt t9.1)]) (tj_cmp (ej_eq (ej_var (i := 7) rfl (by first | exact Or.inl rfl | exact Or.inr (Or.inl rfl) | exact Or.inr (Or.inr rfl)) rfl) ej_int)) ?_ ?_ ?_
      · intro h_b14
        clear h; have h := ifT h_b14 h_j15; clear h_j15
        show SJ _ _ _ [some (oLst [(fz (tList tInt) j11.1.1), (fz tInt j11.1.2)]), some (fz (tList tStr) x_facts), some (oL (tP3 tStr tInt (tDic kStr (tSum tInt tStr))) s3.2), some (fz tInt y4), some (fz tInt t6), some (oD kStr (tSum tInt tStr) j11.2), some (fz tStr y8), some (fz tInt t9.1)] _
        obtain ⟨g16, h_g16, h⟩ := bnd h
        refine sj_dput (i := 5) (hu_of hr.room) rfl (by first | exact Or.inl rfl | exact Or.inr (Or.inl rfl) | exact Or.inr (Or.inr rfl)) (ej_inr ej_str) rfl (ej_var (i := 6) rfl (by first | exact Or.inl rfl | exact Or.inr (Or.inl rfl) | exact Or.inr (Or.inr rfl)) rfl) (grd_iff h_g16).1 ?_
        show SJ _ _ _ [some (oLst [(fz (tList tInt) j11.1.1), (fz tInt j11.1.2)]), some (fz (tList tStr) x_facts), some (oL (tP3 tStr tInt (tDic kStr (tSum tInt tStr))) s3.2), some (fz tInt y4), some (fz tInt t6), some (oD kStr (tSum tInt tStr) (aput j11.2 y8 (Sum.inr ("reset" : Str) : (Int ⊕ Str)))), some (fz tStr y8), some (fz tInt t9.1)] _
        (simp only [Option.some.injEq, Prod.mk.injEq] at h; first | subst h | (obtain ⟨_, _⟩ := h; subst_vars))
        exact sj_join (fl := [true, true, true, true, true, true, true, true]) rfl rfl (fun _ _ _ h => h)
      · intro h_b14
        clear h; have h := ifF h_b14 h_j15; clear h_j15
        show SJ _ _ _ [some (oLst [(fz (tList tInt) j11.1.1), (fz tInt j11.1.2)]), some (fz (tList tStr) x_facts), some (oL (tP3 tStr tInt (tDic kStr (tSum tInt tStr))) s3.2), some (fz tInt y4), some (fz tInt t6), some (oD kStr (tSum tInt tStr) j11.2), some (fz tStr y8), some (fz tInt t9.1)] _
        (simp only [Option.some.injEq, Prod.mk.injEq] at h; first | subst h | (obtain ⟨_, _⟩ := h; subst_vars))
        exact sj_join (fl := [true, true, true, true, true, true, true, true]) rfl rfl (fun _ _ _ h => h)
      (simp only [Option.some.injEq, Prod.mk.injEq] at h; first | subst h | (obtain ⟨_, _⟩ := h; subst_vars))
      exact sj_end (fl := [true, true, true, true, true, true, false, false]) rfl rfl
    show SJ _ _ _ [some (oLst [(fz (tList tInt) j17.1.1), (fz tInt j17.1.2)]), some (fz (tList tStr) x_facts), some (oL (tP3 tStr tInt (tDic kStr (tSum tInt tStr))) s3.2), some (fz tInt y4), some (fz tInt t6), some (oD kStr (tSum tInt tStr) j17.2), none, none] _
    refine sj_fz (i := 5) rfl fz_oD ?_
    show SJ _ _ _ [some (oLst [(fz (tList tInt) j17.1.1), (fz tInt j17.1.2)]), some (fz (tList tStr) x_facts), some (oL (tP3 tStr tInt (tDic kStr (tSum tInt tStr))) s3.2), some (fz tInt y4), some (fz tInt t6), some (fz (tDic kStr (tSum tInt tStr)) j17.2), none, none] _
    obtain ⟨t19, h_t19, h⟩ := bnd h
    obtain ⟨g20, h_g20, h⟩ := bnd h
    refine sj_expr (ej_app (i := 2) rfl (by first | exact Or.inl rfl | exact Or.inr (Or.inl rfl) | exact Or.inr (Or.inr rfl)) rfl (aj_cons (ej_tup3 (aj_cons (ej_ix ix_list (v2_ixL rd_fz h_t19) (ej_fz (ej_lst (ss := [(fz tStr ("years" : Str)), (fz tStr ("gap" : Str)), (fz tStr ("and" : Str))]) (aj_cons ej_str (aj_cons ej_str (aj_cons ej_str aj_nil)))) (fz_lm (τ := tStr) (xs := [("years" : Str), ("gap" : Str), ("and" : Str)]))) (ej_var (i := 3) rfl (by first | exact Or.inl rfl | exact Or.inr (Or.inl rfl) | exact Or.inr (Or.inr rfl)) rfl) (fun _ _ => rfl)) (aj_cons (ej_var (i := 4) rfl (by first | exact Or.inl rfl | exact Or.inr (Or.inl rfl) | exact Or.inr (Or.inr rfl)) rfl) (aj_cons (ej_var (i := 5) rfl (by first | exact Or.inl rfl | exact Or.inr (Or.inl rfl) | exact Or.inr (Or.inr rfl)) rfl) aj_nil)))) aj_nil) rfl (grd_iff h_g20).1) ?_
    show SJ _ _ _ [some (oLst [(fz (tList tInt) j17.1.1), (fz tInt j17.1.2)]), some (fz (tList tStr) x_facts), some (oL (tP3 tStr tInt (tDic kStr (tSum tInt tStr))) (s3.2 ++ [(t19, t6, j17.2)])), some (fz tInt y4), some (fz tInt t6), some (fz (tDic kStr (tSum tInt tStr)) j17.2), none, none] _
    (simp only [Option.some.injEq, Prod.mk.injEq] at h; first | subst h | (obtain ⟨_, _⟩ := h; subst_vars))
    exact sj_end (fl := [true, true, true, false, false, false, true, true]) rfl rfl
  show SJ _ _ _ [some (oLst [(fz (tList tInt) j21.1.1), (fz tInt j21.1.2)]), some (fz (tList tStr) x_facts), some (oL (tP3 tStr tInt (tDic kStr (tSum tInt tStr))) j21.2), none, none, none, none, none] _
  (simp only [Option.some.injEq, Prod.mk.injEq] at h; first | subst h | (obtain ⟨_, _⟩ := h; subst_vars))
  exact sj_ret (rs := rs_law_counters) (ls := ls_law_counters) (y := (j21.2, (j21.1.1, j21.1.2))) (ej_fz (ej_mov (i := 2) rfl (by first | exact Or.inl rfl | exact Or.inr (Or.inl rfl) | exact Or.inr (Or.inr rfl)) rfl) fz_oL) rfl rfl (show List.Nodup ([0] : List Nat) by decide) rfl

abbrev O_law_amount : Type := Int × ((List Int) × Int)
def m_law_amount (x_box : ((List Int) × Int)) : Option O_law_amount := ((m_law_draw (x_box.1, x_box.2) (21 : Int)).bind fun t1 => (m_law_draw (t1.2.1, t1.2.2) (4 : Int)).bind fun t2 => (atI [(0 : Int), (1000 : Int), (-(1000 : Int)), (7 : Int)] t2.1).bind fun t3 => (m_law_draw (t2.2.1, t2.2.2) (6 : Int)).bind fun t4 => (atI [(t1.1 - (10 : Int)), t3] (if (decide (t4.1 = (0 : Int))) = true then (1 : Int) else 0)).bind fun t5 => some (t5, (t4.2.1, t4.2.2)))
def rs_law_amount : O_law_amount → Sh := fun o => (fz tInt o.1)
def ls_law_amount : O_law_amount → List Sh := fun o => [(oLst [(fz (tList tInt) o.2.1), (fz tInt o.2.2)])]
def P_law_amount : Phi := fun ss r L => ∃ (x_box : ((List Int) × Int)) (o : O_law_amount), m_law_amount x_box = some o ∧ ss = [(oLst [(fz (tList tInt) x_box.1), (fz tInt x_box.2)])] ∧ r = rs_law_amount o ∧ L = [(0, (oLst [(fz (tList tInt) o.2.1), (fz tInt o.2.2)]))]
theorem ok_law_amount (C_law_draw : CalG P w K mg base CX0 1 "_law_draw" ["box", "many"] (spS 2 P_law_draw)) (m_int : mg "int" = none) {f0 : Addr} {fd : FuncData} (D : Fun K "_law_amount" "_law_amount" s_law_amount f0 fd) : FnG P w K mg base CX0 2 f0 fd ["box"] (spS 1 P_law_amount) := by
  refine Fun.okS D sc_law_amount rfl (by decide) fun X0 s H A outer cdv E ss r L vs hr hlen hP => ?_
  obtain ⟨x_box, o_, h, rfl, rfl, rfl⟩ := hP
  obtain ⟨v0, rfl⟩ : ∃ v0, vs = [v0] := by
    match vs, hlen with
    | [v0], _ => exact ⟨v0, rfl⟩
  refine ⟨_, rs_law_amount, ls_law_amount, o_, [(0, v0)], rfl, rfl, by intro p hp; simp only [List.mem_cons, List.not_mem_nil, or_false] at hp; subst hp; rfl, rfl, ?_⟩
  clear X0
  unfold m_law_amount at h
  show SJ _ _ _ [some (oLst [(fz (tList tInt) x_box.1), (fz tInt x_box.2)])] _
  obtain ⟨t1, h_t1, h⟩ := bnd h
  obtain ⟨t2, h_t2, h⟩ := bnd h
  obtain ⟨t3, h_t3, h⟩ := bnd h
  obtain ⟨t4, h_t4, h⟩ := bnd h
  obtain ⟨t5, h_t5, h⟩ := bnd h
  (simp only [Option.some.injEq, Prod.mk.injEq] at h; first | subst h | (obtain ⟨_, _⟩ := h; subst_vars))
  exact sj_ret (rs := rs_law_amount) (ls := ls_law_amount) (y := (t5, (t4.2.1, t4.2.2))) (ej_ix ix_list (v2_ixL rd_fz h_t5) (ej_fz (ej_lst (ss := [(fz tInt (t1.1 - (10 : Int))), (fz tInt t3)]) (aj_cons (ej_sub (ej_call C_law_draw (hr.mono (by decide)) (by rfl) pass0 (aj_lend (i := 0) rfl (by first | exact Or.inl rfl | exact Or.inr (Or.inl rfl) | exact Or.inr (Or.inr rfl)) rfl (aj_cons ej_int aj_nil)) rfl ⟨(x_box.1, x_box.2), (21 : Int), t1, h_t1, rfl, rfl, rfl⟩) ej_int) (aj_cons (ej_ix ix_list (v2_ixL rd_fz h_t3) (ej_fz (ej_lst (ss := [(fz tInt (0 : Int)), (fz tInt (1000 : Int)), (fz tInt (-(1000 : Int))), (fz tInt (7 : Int))]) (aj_cons ej_int (aj_cons ej_int (aj_cons (ej_neg ej_int) (aj_cons ej_int aj_nil))))) (fz_lm (τ := tInt) (xs := [(0 : Int), (1000 : Int), (-(1000 : Int)), (7 : Int)]))) (ej_call C_law_draw (hr.mono (by decide)) (by rfl) pass0 (aj_lend (i := 0) rfl (by first | exact Or.inl rfl | exact Or.inr (Or.inl rfl) | exact Or.inr (Or.inr rfl)) rfl (aj_cons ej_int aj_nil)) rfl ⟨(t1.2.1, t1.2.2), (4 : Int), t2, h_t2, rfl, rfl, rfl⟩) (fun _ _ => rfl)) aj_nil))) (fz_lm (τ := tInt) (xs := [(t1.1 - (10 : Int)), t3]))) (ej_ty (ss := [_]) Dl.cl_intB va_intB (by rfl) m_int bt_int (aj_cons (ej_eq (ej_call C_law_draw (hr.mono (by decide)) (by rfl) pass0 (aj_lend (i := 0) rfl (by first | exact Or.inl rfl | exact Or.inr (Or.inl rfl) | exact Or.inr (Or.inr rfl)) rfl (aj_cons ej_int aj_nil)) rfl ⟨(t2.2.1, t2.2.2), (6 : Int), t4, h_t4, rfl, rfl, rfl⟩) ej_int) aj_nil)) (fun _ _ => rfl)) rfl rfl (show List.Nodup ([0] : List Nat) by decide) rfl

abbrev O_law_condition : Type := (List (Str × Str × Int)) × ((List Int) × Int)
def m_law_condition (x_box : ((List Int) × Int)) (x_names : (List Str)) : Option O_law_condition := (((if (!(decide (x_names = ([] : List Str)))) = true then ((m_law_draw (x_box.1, x_box.2) (3 : Int)).bind fun t3 => (grd (-1000000000 ≤ t3.1 ∧ t3.1 ≤ 1000000000) ()).bind fun g4 => (foldO (S := ((List Int) × Int) × (List (Str × Str × Int))) (fun (s5 : ((List Int) × Int) × (List (Str × Str × Int))) (y6 : Int) => ((m_law_draw (s5.1.1, s5.1.2) ((x_names).length : Int)).bind fun t7 => (atI x_names t7.1).bind fun t8 => (m_law_draw (t7.2.1, t7.2.2) (2 : Int)).bind fun t9 => (atI [(">=" : Str), ("<" : Str)] t9.1).bind fun t10 => (m_law_draw (t9.2.1, t9.2.2) (5 : Int)).bind fun t11 => (grd (Sm (s5.2).length) ()).bind fun g12 => some ((t11.2.1, t11.2.2), (s5.2 ++ [(t8, t10, t11.1)])))) ((t3.2.1, t3.2.2), ([] : List (Str × Str × Int))) (range1 t3.1)).bind fun j13 => some ((j13.1.1, j13.1.2), j13.2)) else some ((x_box.1, x_box.2), ([] : List (Str × Str × Int))) : Option (((List Int) × Int) × (List (Str × Str × Int)))).bind fun j2 => (some (j2.2, (j2.1.1, j2.1.2)))))
def rs_law_condition : O_law_condition → Sh := fun o => (fz (tList (tP3 tStr tStr tInt)) o.1)
def ls_law_condition : O_law_condition → List Sh := fun o => [(oLst [(fz (tList tInt) o.2.1), (fz tInt o.2.2)])]
def P_law_condition : Phi := fun ss r L => ∃ (x_box : ((List Int) × Int)) (x_names : (List Str)) (o : O_law_condition), m_law_condition x_box x_names = some o ∧ ss = [(oLst [(fz (tList tInt) x_box.1), (fz tInt x_box.2)]), (fz (tList tStr) x_names)] ∧ r = rs_law_condition o ∧ L = [(0, (oLst [(fz (tList tInt) o.2.1), (fz tInt o.2.2)]))]
theorem ok_law_condition (C_law_draw : CalG P w K mg base CX0 1 "_law_draw" ["box", "many"] (spS 2 P_law_draw)) (m_range : mg "range" = none) (m_len : mg "len" = none) {f0 : Addr} {fd : FuncData} (D : Fun K "_law_condition" "_law_condition" s_law_condition f0 fd) : FnG P w K mg base CX0 2 f0 fd ["box", "names"] (spS 2 P_law_condition) := by
  refine Fun.okS D sc_law_condition rfl (by decide) fun X0 s H A outer cdv E ss r L vs hr hlen hP => ?_
  obtain ⟨x_box, x_names, o_, h, rfl, rfl, rfl⟩ := hP
  obtain ⟨v0, v1, rfl⟩ : ∃ v0 v1, vs = [v0, v1] := by
    match vs, hlen with
    | [v0, v1], _ => exact ⟨v0, v1, rfl⟩
  refine ⟨_, rs_law_condition, ls_law_condition, o_, [(0, v0)], rfl, rfl, by intro p hp; simp only [List.mem_cons, List.not_mem_nil, or_false] at hp; subst hp; rfl, rfl, ?_⟩
  clear X0
  unfold m_law_condition at h
  show SJ _ _ _ [some (oLst [(fz (tList tInt) x_box.1), (fz tInt x_box.2)]), some (fz (tList tStr) x_names), none, none] _
  refine sj_set (i := 2) (s := (oL (tP3 tStr tStr tInt) ([] : List (Str × Str × Int)))) sc_law_condition.nd rfl (by first | exact Or.inl rfl | exact Or.inr rfl) (ej_oL (τ := (tP3 tStr tStr tInt)) (xs := ([] : List (Str × Str × Int))) (ej_lst (ss := []) aj_nil)) ?_
  show SJ _ _ _ [some (oLst [(fz (tList tInt) x_box.1), (fz tInt x_box.2)]), some (fz (tList tStr) x_names), some (oL (tP3 tStr tStr tInt) ([] : List (Str × Str × Int))), none] _
  obtain ⟨j2, h_j2, h⟩ := bnd h
  refine sj_if (t := (!(decide (x_names = ([] : List Str))))) (Γm := [some (oLst [(fz (tList tInt) j2.1.1), (fz tInt j2.1.2)]), some (fz (tList tStr) x_names), some (oL (tP3 tStr tStr tInt) j2.2), none]) (tj_cmp (ej_neL (hu1 hr) (ej_var (i := 1) rfl (by first | exact Or.inl rfl | exact Or.inr (Or.inl rfl) | exact Or.inr (Or.inr rfl)) rfl) (ej_fz (ej_lst (ss := []) aj_nil) (fz_lm (τ := tStr) (xs := []))))) ?_ ?_ ?_
  · intro h_b1
    clear h; have h := ifT h_b1 h_j2; clear h_j2
    show SJ _ _ _ [some (oLst [(fz (tList tInt) x_box.1), (fz tInt x_box.2)]), some (fz (tList tStr) x_names), some (oL (tP3 tStr tStr tInt) ([] : List (Str × Str × Int))), none] _
    obtain ⟨t3, h_t3, h⟩ := bnd h
    obtain ⟨g4, h_g4, h⟩ := bnd h
    obtain ⟨j13, h_j13, h⟩ := bnd h
    refine sj_for (sh := fz tInt) (Γs := fun (s5 : ((List Int) × Int) × (List (Str × Str × Int))) => [some (oLst [(fz (tList tInt) s5.1.1), (fz tInt s5.1.2)]), some (fz (tList tStr) x_names), some (oL (tP3 tStr tStr tInt) s5.2), none]) (Γy := fun (s5 : ((List Int) × Int) × (List (Str × Str × Int))) y6 => [some (oLst [(fz (tList tInt) s5.1.1), (fz tInt s5.1.2)]), some (fz (tList tStr) x_names), some (oL (tP3 tStr tStr tInt) s5.2), some (fz tInt y6)]) (fl := [true, true, true, true]) (rs_law_condition) (ls_law_condition) h_j13 (ij_rg1 (by rfl) m_range (aj_cons (ej_call C_law_draw (hr.mono (by decide)) (by rfl) pass0 (aj_lend (i := 0) rfl (by first | exact Or.inl rfl | exact Or.inr (Or.inl rfl) | exact Or.inr (Or.inr rfl)) rfl (aj_cons ej_int aj_nil)) rfl ⟨(x_box.1, x_box.2), (3 : Int), t3, h_t3, rfl, rfl, rfl⟩) aj_nil) (grd_iff h_g4).1) rfl rfl (fun s5 y6 => (gj_name (i := 3) sc_law_condition.nd rfl (by first | exact Or.inl rfl | exact Or.inr rfl))) ?_ ?_ PassesOwn.never rfl
    · intro s5 y6 o_ h_hy14 h
      clear h_j13; have h := h
      show SJ _ _ _ [some (oLst [(fz (tList tInt) s5.1.1), (fz tInt s5.1.2)]), some (fz (tList tStr) x_names), some (oL (tP3 tStr tStr tInt) s5.2), some (fz tInt y6)] _
      obtain ⟨t7, h_t7, h⟩ := bnd h
      obtain ⟨t8, h_t8, h⟩ := bnd h
      obtain ⟨t9, h_t9, h⟩ := bnd h
      obtain ⟨t10, h_t10, h⟩ := bnd h
      obtain ⟨t11, h_t11, h⟩ := bnd h
      obtain ⟨g12, h_g12, h⟩ := bnd h
      refine sj_expr (ej_app (i := 2) rfl (by first | exact Or.inl rfl | exact Or.inr (Or.inl rfl) | exact Or.inr (Or.inr rfl)) rfl (aj_cons (ej_tup3 (aj_cons (ej_ix ix_list (v2_ixL rd_fz h_t8) (ej_var (i := 1) rfl (by first | exact Or.inl rfl | exact Or.inr (Or.inl rfl) | exact Or.inr (Or.inr rfl)) rfl) (ej_call C_law_draw (hr.mono (by decide)) (by rfl) pass0 (aj_lend (i := 0) rfl (by first | exact Or.inl rfl | exact Or.inr (Or.inl rfl) | exact Or.inr (Or.inr rfl)) rfl (aj_cons (ej_b (ss := [_]) Dl.cl_len (va_len rd_fz) (by rfl) m_len bt_len (aj_cons (ej_var (i := 1) rfl (by first | exact Or.inl rfl | exact Or.inr (Or.inl rfl) | exact Or.inr (Or.inr rfl)) rfl) aj_nil)) aj_nil)) rfl ⟨(s5.1.1, s5.1.2), ((x_names).length : Int), t7, h_t7, rfl, rfl, rfl⟩) (fun _ _ => rfl)) (aj_cons (ej_ix ix_list (v2_ixL rd_fz h_t10) (ej_fz (ej_lst (ss := [(fz tStr (">=" : Str)), (fz tStr ("<" : Str))]) (aj_cons ej_str (aj_cons ej_str aj_nil))) (fz_lm (τ := tStr) (xs := [(">=" : Str), ("<" : Str)]))) (ej_call C_law_draw (hr.mono (by decide)) (by rfl) pass0 (aj_lend (i := 0) rfl (by first | exact Or.inl rfl | exact Or.inr (Or.inl rfl) | exact Or.inr (Or.inr rfl)) rfl (aj_cons ej_int aj_nil)) rfl ⟨(t7.2.1, t7.2.2), (2 : Int), t9, h_t9, rfl, rfl, rfl⟩) (fun _ _ => rfl)) (aj_cons (ej_call C_law_draw (hr.mono (by decide)) (by rfl) pass0 (aj_lend (i := 0) rfl (by first | exact Or.inl rfl | exact Or.inr (Or.inl rfl) | exact Or.inr (Or.inr rfl)) rfl (aj_cons ej_int aj_nil)) rfl ⟨(t9.2.1, t9.2.2), (5 : Int), t11, h_t11, rfl, rfl, rfl⟩) aj_nil)))) aj_nil) rfl (grd_iff h_g12).1) ?_
      show SJ _ _ _ [some (oLst [(fz (tList tInt) t11.2.1), (fz tInt t11.2.2)]), some (fz (tList tStr) x_names), some (oL (tP3 tStr tStr tInt) (s5.2 ++ [(t8, t10, t11.1)])), some (fz tInt y6)] _
      (simp only [Option.some.injEq, Prod.mk.injEq] at h; first | subst h | (obtain ⟨_, _⟩ := h; subst_vars))
      exact sj_end (fl := [true, true, true, false]) rfl rfl
    show SJ _ _ _ [some (oLst [(fz (tList tInt) j13.1.1), (fz tInt j13.1.2)]), some (fz (tList tStr) x_names), some (oL (tP3 tStr tStr tInt) j13.2), none] _
    (simp only [Option.some.injEq, Prod.mk.injEq] at h; first | subst h | (obtain ⟨_, _⟩ := h; subst_vars))
    exact sj_join (fl := [true, true, true, true]) rfl rfl (fun _ _ _ h => h)
  · intro h_b1
    clear h; have h := ifF h_b1 h_j2; clear h_j2
    show SJ _ _ _ [some (oLst [(fz (tList tInt) x_box.1), (fz tInt x_box.2)]), some (fz (tList tStr) x_names), some (oL (tP3 tStr tStr tInt) ([] : List (Str × Str × Int))), none] _
    (simp only [Option.some.injEq, Prod.mk.injEq] at h; first | subst h | (obtain ⟨_, _⟩ := h; subst_vars))
    exact sj_join (fl := [true, true, true, true]) rfl rfl (fun _ _ _ h => h)
  (simp only [Option.some.injEq, Prod.mk.injEq] at h; first | subst h | (obtain ⟨_, _⟩ := h; subst_vars))
  exact sj_ret (rs := rs_law_condition) (ls := ls_law_condition) (y := (j2.2, (j2.1.1, j2.1.2))) (ej_fz (ej_mov (i := 2) rfl (by first | exact Or.inl rfl | exact Or.inr (Or.inl rfl) | exact Or.inr (Or.inr rfl)) rfl) fz_oL) rfl rfl (show List.Nodup ([0] : List Nat) by decide) rfl

abbrev O_law_scheme : Type := ((List Str) × (List (Str × Int × (List (Str × (Int ⊕ Str))))) × (List (Int × Str × (List (Str × Str × Int)))) × (List (Int × (List (Str × Str × Int))))) × ((List Int) × Int)
def m_law_scheme (x_box : ((List Int) × Int)) (x_facts : (List Str)) : Option O_law_scheme := ((m_law_counters (x_box.1, x_box.2) x_facts).bind fun t1 => ((grd (Sm (t1.1).length) ()).bind fun g3 => (mapC (fun (y2 : (Str × Int × (List (Str × (Int ⊕ Str))))) => (some (some y2.1))) t1.1).bind fun t4 => (((m_law_draw (t1.2.1, t1.2.2) (4 : Int)).bind fun t5 => (grd (-1000000000 ≤ t5.1 ∧ t5.1 ≤ 1000000000) ()).bind fun g6 => (foldO (S := ((List Int) × Int) × (List (Int × Str × (List (Str × Str × Int))))) (fun (s7 : ((List Int) × Int) × (List (Int × Str × (List (Str × Str × Int))))) (y8 : Int) => ((m_law_amount (s7.1.1, s7.1.2)).bind fun t9 => (m_law_draw (t9.2.1, t9.2.2) ((x_facts).length : Int)).bind fun t10 => (atI x_facts t10.1).bind fun t11 => (m_law_condition (t10.2.1, t10.2.2) t4).bind fun t12 => (grd (Sm (s7.2).length) ()).bind fun g13 => some ((t12.2.1, t12.2.2), (s7.2 ++ [(t9.1, t11, t12.1)])))) ((t5.2.1, t5.2.2), ([] : List (Int × Str × (List (Str × Str × Int))))) (range1 t5.1)).bind fun j14 => (((m_law_draw (j14.1.1, j14.1.2) (3 : Int)).bind fun t16 => (grd (-1000000000 ≤ t16.1 ∧ t16.1 ≤ 1000000000) ()).bind fun g17 => (foldO (S := ((List Int) × Int) × (List (Int × (List (Str × Str × Int))))) (fun (s18 : ((List Int) × Int) × (List (Int × (List (Str × Str × Int))))) (y19 : Int) => ((m_law_amount (s18.1.1, s18.1.2)).bind fun t20 => (m_law_condition (t20.2.1, t20.2.2) t4).bind fun t21 => (grd (Sm (s18.2).length) ()).bind fun g22 => some ((t21.2.1, t21.2.2), (s18.2 ++ [(t20.1, t21.1)])))) ((t16.2.1, t16.2.2), ([] : List (Int × (List (Str × Str × Int))))) (range1 t16.1)).bind fun j23 => (some ((x_facts, t1.1, j14.2, j23.2), (j23.1.1, j23.1.2)))))))))
def rs_law_scheme : O_law_scheme → Sh := fun o => (oLst [(fz (tList tStr) o.1.1), (fz (tList (tP3 tStr tInt (tDic kStr (tSum tInt tStr)))) o.1.2.1), (fz (tList (tP3 tInt tStr (tList (tP3 tStr tStr tInt)))) o.1.2.2.1), (fz (tList (tP2 tInt (tList (tP3 tStr tStr tInt)))) o.1.2.2.2)])
def ls_law_scheme : O_law_scheme → List Sh := fun o => [(oLst [(fz (tList tInt) o.2.1), (fz tInt o.2.2)])]
def P_law_scheme : Phi := fun ss r L => ∃ (x_box : ((List Int) × Int)) (x_facts : (List Str)) (o : O_law_scheme), m_law_scheme x_box x_facts = some o ∧ ss = [(oLst [(fz (tList tInt) x_box.1), (fz tInt x_box.2)]), (fz (tList tStr) x_facts)] ∧ r = rs_law_scheme o ∧ L = [(0, (oLst [(fz (tList tInt) o.2.1), (fz tInt o.2.2)]))]
theorem ok_law_scheme (C_law_counters : CalG P w K mg base CX0 2 "_law_counters" ["box", "facts"] (spS 2 P_law_counters)) (C_law_draw : CalG P w K mg base CX0 1 "_law_draw" ["box", "many"] (spS 2 P_law_draw)) (m_range : mg "range" = none) (C_law_amount : CalG P w K mg base CX0 2 "_law_amount" ["box"] (spS 1 P_law_amount)) (m_len : mg "len" = none) (C_law_condition : CalG P w K mg base CX0 2 "_law_condition" ["box", "names"] (spS 2 P_law_condition)) {f0 : Addr} {fd : FuncData} (D : Fun K "_law_scheme" "_law_scheme" s_law_scheme f0 fd) : FnG P w K mg base CX0 3 f0 fd ["box", "facts"] (spS 2 P_law_scheme) := by
  refine Fun.okS D sc_law_scheme rfl (by decide) fun X0 s H A outer cdv E ss r L vs hr hlen hP => ?_
  obtain ⟨x_box, x_facts, o_, h, rfl, rfl, rfl⟩ := hP
  obtain ⟨v0, v1, rfl⟩ : ∃ v0 v1, vs = [v0, v1] := by
    match vs, hlen with
    | [v0, v1], _ => exact ⟨v0, v1, rfl⟩
  refine ⟨_, rs_law_scheme, ls_law_scheme, o_, [(0, v0)], rfl, rfl, by intro p hp; simp only [List.mem_cons, List.not_mem_nil, or_false] at hp; subst hp; rfl, rfl, ?_⟩
  clear X0
  unfold m_law_scheme at h
  show SJ _ _ _ [some (oLst [(fz (tList tInt) x_box.1), (fz tInt x_box.2)]), some (fz (tList tStr) x_facts), none, none, none, none, none, none] _
  obtain ⟨t1, h_t1, h⟩ := bnd h
  refine sj_set (i := 2) (s := (fz (tList (tP3 tStr tInt (tDic kStr (tSum tInt tStr)))) t1.1)) sc_law_scheme.nd rfl (by first | exact Or.inl rfl | exact Or.inr rfl) (ej_call C_law_counters (hr.mono (by decide)) (by rfl) pass0 (aj_lend (i := 0) rfl (by first | exact Or.inl rfl | exact Or.inr (Or.inl rfl) | exact Or.inr (Or.inr rfl)) rfl (aj_cons (ej_var (i := 1) rfl (by first | exact Or.inl rfl | exact Or.inr (Or.inl rfl) | exact Or.inr (Or.inr rfl)) rfl) aj_nil)) rfl ⟨(x_box.1, x_box.2), x_facts, t1, h_t1, rfl, rfl, rfl⟩) ?_
  show SJ _ _ _ [some (oLst [(fz (tList tInt) t1.2.1), (fz tInt t1.2.2)]), some (fz (tList tStr) x_facts), some (fz (tList (tP3 tStr tInt (tDic kStr (tSum tInt tStr)))) t1.1), none, none, none, none, none] _
  obtain ⟨g3, h_g3, h⟩ := bnd h
  obtain ⟨t4, h_t4, h⟩ := bnd h
  refine sj_setLc (i := 3) (s := (oL tStr t4)) (lcj_s (lcP (Γy := fun y2 => [some (oLst [(fz (tList tInt) t1.2.1), (fz tInt t1.2.2)]), some (fz (tList tStr) x_facts), some (fz (tList (tP3 tStr tInt (tDic kStr (tSum tInt tStr)))) t1.1), none, none, none, none, some (fz (tP3 tStr tInt (tDic kStr (tSum tInt tStr))) y2)]) (own := [("counter", 7)]) (fun _ _ _ _ _ y2 => (gj0_name (i := 7) sc_law_scheme.nd rfl (by first | exact Or.inl rfl | exact Or.inr rfl) (z_none rfl))) (fun _ _ _ _ _ y2 oz hm h => (by have h := h;  (simp only [Option.some.injEq, Prod.mk.injEq] at h; first | subst h | (obtain ⟨_, _⟩ := h; subst_vars)); exact ts_nil)) (fun _ _ _ _ _ y2 z hm h => (by have h := h;  (simp only [Option.some.injEq, Prod.mk.injEq] at h; first | subst h | (obtain ⟨_, _⟩ := h; subst_vars)); exact (ej_ix ix_tup (v2_ixT (j := 0) rdt_3 rfl rfl) (ej_var (i := 7) rfl (by first | exact Or.inl rfl | exact Or.inr (Or.inl rfl) | exact Or.inr (Or.inr rfl)) rfl) ej_int (fun _ _ => rfl)))) h_t4 (grd_iff h_g3).1 rfl sc_law_scheme.nd (ij_lst (ej_var (i := 2) rfl (by first | exact Or.inl rfl | exact Or.inr (Or.inl rfl) | exact Or.inr (Or.inr rfl)) rfl)) (blkOk_by (own := [("counter", 7)]) (N := n_law_scheme) (sc := defScope s_law_scheme) (by decide +kernel)) ⟨z_none rfl, trivial⟩) rfl rfl (sw_true rfl rfl rfl (by decide +kernel))) ?_
  show SJ _ _ _ [some (oLst [(fz (tList tInt) t1.2.1), (fz tInt t1.2.2)]), some (fz (tList tStr) x_facts), some (fz (tList (tP3 tStr tInt (tDic kStr (tSum tInt tStr)))) t1.1), some (oL tStr t4), none, none, none, none] _
  refine sj_fz (i := 3) rfl fz_oL ?_
  show SJ _ _ _ [some (oLst [(fz (tList tInt) t1.2.1), (fz tInt t1.2.2)]), some (fz (tList tStr) x_facts), some (fz (tList (tP3 tStr tInt (tDic kStr (tSum tInt tStr)))) t1.1), some (fz (tList tStr) t4), none, none, none, none] _
  refine sj_set (i := 4) (s := (oL (tP3 tInt tStr (tList (tP3 tStr tStr tInt))) ([] : List (Int × Str × (List (Str × Str × Int)))))) sc_law_scheme.nd rfl (by first | exact Or.inl rfl | exact Or.inr rfl) (ej_oL (τ := (tP3 tInt tStr (tList (tP3 tStr tStr tInt)))) (xs := ([] : List (Int × Str × (List (Str × Str × Int))))) (ej_lst (ss := []) aj_nil)) ?_
  show SJ _ _ _ [some (oLst [(fz (tList tInt) t1.2.1), (fz tInt t1.2.2)]), some (fz (tList tStr) x_facts), some (fz (tList (tP3 tStr tInt (tDic kStr (tSum tInt tStr)))) t1.1), some (fz (tList tStr) t4), some (oL (tP3 tInt tStr (tList (tP3 tStr tStr tInt))) ([] : List (Int × Str × (List (Str × Str × Int))))), none, none, none] _
  obtain ⟨t5, h_t5, h⟩ := bnd h
  obtain ⟨g6, h_g6, h⟩ := bnd h
  obtain ⟨j14, h_j14, h⟩ := bnd h
  refine sj_for (sh := fz tInt) (Γs := fun (s7 : ((List Int) × Int) × (List (Int × Str × (List (Str × Str × Int))))) => [some (oLst [(fz (tList tInt) s7.1.1), (fz tInt s7.1.2)]), some (fz (tList tStr) x_facts), some (fz (tList (tP3 tStr tInt (tDic kStr (tSum tInt tStr)))) t1.1), some (fz (tList tStr) t4), some (oL (tP3 tInt tStr (tList (tP3 tStr tStr tInt))) s7.2), none, none, none]) (Γy := fun (s7 : ((List Int) × Int) × (List (Int × Str × (List (Str × Str × Int))))) y8 => [some (oLst [(fz (tList tInt) s7.1.1), (fz tInt s7.1.2)]), some (fz (tList tStr) x_facts), some (fz (tList (tP3 tStr tInt (tDic kStr (tSum tInt tStr)))) t1.1), some (fz (tList tStr) t4), some (oL (tP3 tInt tStr (tList (tP3 tStr tStr tInt))) s7.2), some (fz tInt y8), none, none]) (fl := [true, true, true, true, true, true, true, true]) (rs_law_scheme) (ls_law_scheme) h_j14 (ij_rg1 (by rfl) m_range (aj_cons (ej_call C_law_draw (hr.mono (by decide)) (by rfl) pass0 (aj_lend (i := 0) rfl (by first | exact Or.inl rfl | exact Or.inr (Or.inl rfl) | exact Or.inr (Or.inr rfl)) rfl (aj_cons ej_int aj_nil)) rfl ⟨(t1.2.1, t1.2.2), (4 : Int), t5, h_t5, rfl, rfl, rfl⟩) aj_nil) (grd_iff h_g6).1) rfl rfl (fun s7 y8 => (gj_name (i := 5) sc_law_scheme.nd rfl (by first | exact Or.inl rfl | exact Or.inr rfl))) ?_ ?_ PassesOwn.never rfl
  · intro s7 y8 o_ h_hy15 h
    clear h_j14; have h := h
    show SJ _ _ _ [some (oLst [(fz (tList tInt) s7.1.1), (fz tInt s7.1.2)]), some (fz (tList tStr) x_facts), some (fz (tList (tP3 tStr tInt (tDic kStr (tSum tInt tStr)))) t1.1), some (fz (tList tStr) t4), some (oL (tP3 tInt tStr (tList (tP3 tStr tStr tInt))) s7.2), some (fz tInt y8), none, none] _
    obtain ⟨t9, h_t9, h⟩ := bnd h
    obtain ⟨t10, h_t10, h⟩ := bnd h
    obtain ⟨t11, h_t11, h⟩ := bnd h
    obtain ⟨t12, h_t12, h⟩ := bnd h
    obtain ⟨g13, h_g13, h⟩ := bnd h
    refine sj_expr (ej_app (i := 4) rfl (by first | exact Or.inl rfl | exact Or.inr (Or.inl rfl) | exact Or.inr (Or.inr rfl)) rfl (aj_cons (ej_tup3 (aj_cons (ej_call C_law_amount (hr.mono (by decide)) (by rfl) pass0 (aj_lend (i := 0) rfl (by first | exact Or.inl rfl | exact Or.inr (Or.inl rfl) | exact Or.inr (Or.inr rfl)) rfl aj_nil) rfl ⟨(s7.1.1, s7.1.2), t9, h_t9, rfl, rfl, rfl⟩) (aj_cons (ej_ix ix_list (v2_ixL rd_fz h_t11) (ej_var (i := 1) rfl (by first | exact Or.inl rfl | exact Or.inr (Or.inl rfl) | exact Or.inr (Or.inr rfl)) rfl) (ej_call C_law_draw (hr.mono (by decide)) (by rfl) pass0 (aj_lend (i := 0) rfl (by first | exact Or.inl rfl | exact Or.inr (Or.inl rfl) | exact Or.inr (Or.inr rfl)) rfl (aj_cons (ej_b (ss := [_]) Dl.cl_len (va_len rd_fz) (by rfl) m_len bt_len (aj_cons (ej_var (i := 1) rfl (by first | exact Or.inl rfl | exact Or.inr (Or.inl rfl) | exact Or.inr (Or.inr rfl)) rfl) aj_nil)) aj_nil)) rfl ⟨(t9.2.1, t9.2.2), ((x_facts).length : Int), t10, h_t10, rfl, rfl, rfl⟩) (fun _ _ => rfl)) (aj_cons (ej_call C_law_condition (hr.mono (by decide)) (by rfl) pass0 (aj_lend (i := 0) rfl (by first | exact Or.inl rfl | exact Or.inr (Or.inl rfl) | exact Or.inr (Or.inr rfl)) rfl (aj_cons (ej_var (i := 3) rfl (by first | exact Or.inl rfl | exact Or.inr (Or.inl rfl) | exact Or.inr (Or.inr rfl)) rfl) aj_nil)) rfl ⟨(t10.2.1, t10.2.2), t4, t12, h_t12, rfl, rfl, rfl⟩) aj_nil)))) aj_nil) rfl (grd_iff h_g13).1) ?_
    show SJ _ _ _ [some (oLst [(fz (tList tInt) t12.2.1), (fz tInt t12.2.2)]), some (fz (tList tStr) x_facts), some (fz (tList (tP3 tStr tInt (tDic kStr (tSum tInt tStr)))) t1.1), some (fz (tList tStr) t4), some (oL (tP3 tInt tStr (tList (tP3 tStr tStr tInt))) (s7.2 ++ [(t9.1, t11, t12.1)])), some (fz tInt y8), none, none] _
    (simp only [Option.some.injEq, Prod.mk.injEq] at h; first | subst h | (obtain ⟨_, _⟩ := h; subst_vars))
    exact sj_end (fl := [true, true, true, true, true, false, true, true]) rfl rfl
  show SJ _ _ _ [some (oLst [(fz (tList tInt) j14.1.1), (fz tInt j14.1.2)]), some (fz (tList tStr) x_facts), some (fz (tList (tP3 tStr tInt (tDic kStr (tSum tInt tStr)))) t1.1), some (fz (tList tStr) t4), some (oL (tP3 tInt tStr (tList (tP3 tStr tStr tInt))) j14.2), none, none, none] _
  refine sj_set (i := 6) (s := (oL (tP2 tInt (tList (tP3 tStr tStr tInt))) ([] : List (Int × (List (Str × Str × Int)))))) sc_law_scheme.nd rfl (by first | exact Or.inl rfl | exact Or.inr rfl) (ej_oL (τ := (tP2 tInt (tList (tP3 tStr tStr tInt)))) (xs := ([] : List (Int × (List (Str × Str × Int))))) (ej_lst (ss := []) aj_nil)) ?_
  show SJ _ _ _ [some (oLst [(fz (tList tInt) j14.1.1), (fz tInt j14.1.2)]), some (fz (tList tStr) x_facts), some (fz (tList (tP3 tStr tInt (tDic kStr (tSum tInt tStr)))) t1.1), some (fz (tList tStr) t4), some (oL (tP3 tInt tStr (tList (tP3 tStr tStr tInt))) j14.2), none, some (oL (tP2 tInt (tList (tP3 tStr tStr tInt))) ([] : List (Int × (List (Str × Str × Int))))), none] _
  obtain ⟨t16, h_t16, h⟩ := bnd h
  obtain ⟨g17, h_g17, h⟩ := bnd h
  obtain ⟨j23, h_j23, h⟩ := bnd h
  refine sj_for (sh := fz tInt) (Γs := fun (s18 : ((List Int) × Int) × (List (Int × (List (Str × Str × Int))))) => [some (oLst [(fz (tList tInt) s18.1.1), (fz tInt s18.1.2)]), some (fz (tList tStr) x_facts), some (fz (tList (tP3 tStr tInt (tDic kStr (tSum tInt tStr)))) t1.1), some (fz (tList tStr) t4), some (oL (tP3 tInt tStr (tList (tP3 tStr tStr tInt))) j14.2), none, some (oL (tP2 tInt (tList (tP3 tStr tStr tInt))) s18.2), none]) (Γy := fun (s18 : ((List Int) × Int) × (List (Int × (List (Str × Str × Int))))) y19 => [some (oLst [(fz (tList tInt) s18.1.1), (fz tInt s18.1.2)]), some (fz (tList tStr) x_facts), some (fz (tList (tP3 tStr tInt (tDic kStr (tSum tInt tStr)))) t1.1), some (fz (tList tStr) t4), some (oL (tP3 tInt tStr (tList (tP3 tStr tStr tInt))) j14.2), some (fz tInt y19), some (oL (tP2 tInt (tList (tP3 tStr tStr tInt))) s18.2), none]) (fl := [true, true, true, true, true, true, true, true]) (rs_law_scheme) (ls_law_scheme) h_j23 (ij_rg1 (by rfl) m_range (aj_cons (ej_call C_law_draw (hr.mono (by decide)) (by rfl) pass0 (aj_lend (i := 0) rfl (by first | exact Or.inl rfl | exact Or.inr (Or.inl rfl) | exact Or.inr (Or.inr rfl)) rfl (aj_cons ej_int aj_nil)) rfl ⟨(j14.1.1, j14.1.2), (3 : Int), t16, h_t16, rfl, rfl, rfl⟩) aj_nil) (grd_iff h_g17).1) rfl rfl (fun s18 y19 => (gj_name (i := 5) sc_law_scheme.nd rfl (by first | exact Or.inl rfl | exact Or.inr rfl))) ?_ ?_ PassesOwn.never rfl
  · intro s18 y19 o_ h_hy24 h
    clear h_j23; have h := h
    show SJ _ _ _ [some (oLst [(fz (tList tInt) s18.1.1), (fz tInt s18.1.2)]), some (fz (tList tStr) x_facts), some (fz (tList (tP3 tStr tInt (tDic kStr (tSum tInt tStr)))) t1.1), some (fz (tList tStr) t4), some (oL (tP3 tInt tStr (tList (tP3 tStr tStr tInt))) j14.2), some (fz tInt y19), some (oL (tP2 tInt (tList (tP3 tStr tStr tInt))) s18.2), none] _
    obtain ⟨t20, h_t20, h⟩ := bnd h
    obtain ⟨t21, h_t21, h⟩ := bnd h
    obtain ⟨g22, h_g22, h⟩ := bnd h
    refine sj_expr (ej_app (i := 6) rfl (by first | exact Or.inl rfl | exact Or.inr (Or.inl rfl) | exact Or.inr (Or.inr rfl)) rfl (aj_cons (ej_tup2 (aj_cons (ej_call C_law_amount (hr.mono (by decide)) (by rfl) pass0 (aj_lend (i := 0) rfl (by first | exact Or.inl rfl | exact Or.inr (Or.inl rfl) | exact Or.inr (Or.inr rfl)) rfl aj_nil) rfl ⟨(s18.1.1, s18.1.2), t20, h_t20, rfl, rfl, rfl⟩) (aj_cons (ej_call C_law_condition (hr.mono (by decide)) (by rfl) pass0 (aj_lend (i := 0) rfl (by first | exact Or.inl rfl | exact Or.inr (Or.inl rfl) | exact Or.inr (Or.inr rfl)) rfl (aj_cons (ej_var (i := 3) rfl (by first | exact Or.inl rfl | exact Or.inr (Or.inl rfl) | exact Or.inr (Or.inr rfl)) rfl) aj_nil)) rfl ⟨(t20.2.1, t20.2.2), t4, t21, h_t21, rfl, rfl, rfl⟩) aj_nil))) aj_nil) rfl (grd_iff h_g22).1) ?_
    show SJ _ _ _ [some (oLst [(fz (tList tInt) t21.2.1), (fz tInt t21.2.2)]), some (fz (tList tStr) x_facts), some (fz (tList (tP3 tStr tInt (tDic kStr (tSum tInt tStr)))) t1.1), some (fz (tList tStr) t4), some (oL (tP3 tInt tStr (tList (tP3 tStr tStr tInt))) j14.2), some (fz tInt y19), some (oL (tP2 tInt (tList (tP3 tStr tStr tInt))) (s18.2 ++ [(t20.1, t21.1)])), none] _
    (simp only [Option.some.injEq, Prod.mk.injEq] at h; first | subst h | (obtain ⟨_, _⟩ := h; subst_vars))
    exact sj_end (fl := [true, true, true, true, true, false, true, true]) rfl rfl
  show SJ _ _ _ [some (oLst [(fz (tList tInt) j23.1.1), (fz tInt j23.1.2)]), some (fz (tList tStr) x_facts), some (fz (tList (tP3 tStr tInt (tDic kStr (tSum tInt tStr)))) t1.1), some (fz (tList tStr) t4), some (oL (tP3 tInt tStr (tList (tP3 tStr tStr tInt))) j14.2), none, some (oL (tP2 tInt (tList (tP3 tStr tStr tInt))) j23.2), none] _
  (simp only [Option.some.injEq, Prod.mk.injEq] at h; first | subst h | (obtain ⟨_, _⟩ := h; subst_vars))
  exact sj_ret (rs := rs_law_scheme) (ls := ls_law_scheme) (y := ((x_facts, t1.1, j14.2, j23.2), (j23.1.1, j23.1.2))) (ej_lst (ss := [(fz (tList tStr) x_facts), (fz (tList (tP3 tStr tInt (tDic kStr (tSum tInt tStr)))) t1.1), (fz (tList (tP3 tInt tStr (tList (tP3 tStr tStr tInt)))) j14.2), (fz (tList (tP2 tInt (tList (tP3 tStr tStr tInt)))) j23.2)]) (aj_cons (ej_var (i := 1) rfl (by first | exact Or.inl rfl | exact Or.inr (Or.inl rfl) | exact Or.inr (Or.inr rfl)) rfl) (aj_cons (ej_var (i := 2) rfl (by first | exact Or.inl rfl | exact Or.inr (Or.inl rfl) | exact Or.inr (Or.inr rfl)) rfl) (aj_cons (ej_fz (ej_mov (i := 4) rfl (by first | exact Or.inl rfl | exact Or.inr (Or.inl rfl) | exact Or.inr (Or.inr rfl)) rfl) fz_oL) (aj_cons (ej_fz (ej_mov (i := 6) rfl (by first | exact Or.inl rfl | exact Or.inr (Or.inl rfl) | exact Or.inr (Or.inr rfl)) rfl) fz_oL) aj_nil))))) rfl rfl (show List.Nodup ([0] : List Nat) by decide) rfl

abbrev O_law_facts : Type := (List Str) × ((List Int) × Int)
def m_law_facts (x_box : ((List Int) × Int)) : Option O_law_facts := ((m_law_draw (x_box.1, x_box.2) (4 : Int)).bind fun t1 => (atI [[("full" : Str)], [("full" : Str), ("half" : Str)], [("none" : Str), ("full" : Str), ("half" : Str)], [("if" : Str), ("reset" : Str)]] t1.1).bind fun t2 => some (t2, (t1.2.1, t1.2.2)))
def rs_law_facts : O_law_facts → Sh := fun o => (fz (tList tStr) o.1)
def ls_law_facts : O_law_facts → List Sh := fun o => [(oLst [(fz (tList tInt) o.2.1), (fz tInt o.2.2)])]
def P_law_facts : Phi := fun ss r L => ∃ (x_box : ((List Int) × Int)) (o : O_law_facts), m_law_facts x_box = some o ∧ ss = [(oLst [(fz (tList tInt) x_box.1), (fz tInt x_box.2)])] ∧ r = rs_law_facts o ∧ L = [(0, (oLst [(fz (tList tInt) o.2.1), (fz tInt o.2.2)]))]
theorem ok_law_facts (C_law_draw : CalG P w K mg base CX0 1 "_law_draw" ["box", "many"] (spS 2 P_law_draw)) {f0 : Addr} {fd : FuncData} (D : Fun K "_law_facts" "_law_facts" s_law_facts f0 fd) : FnG P w K mg base CX0 2 f0 fd ["box"] (spS 1 P_law_facts) := by
  refine Fun.okS D sc_law_facts rfl (by decide) fun X0 s H A outer cdv E ss r L vs hr hlen hP => ?_
  obtain ⟨x_box, o_, h, rfl, rfl, rfl⟩ := hP
  obtain ⟨v0, rfl⟩ : ∃ v0, vs = [v0] := by
    match vs, hlen with
    | [v0], _ => exact ⟨v0, rfl⟩
  refine ⟨_, rs_law_facts, ls_law_facts, o_, [(0, v0)], rfl, rfl, by intro p hp; simp only [List.mem_cons, List.not_mem_nil, or_false] at hp; subst hp; rfl, rfl, ?_⟩
  clear X0
  unfold m_law_facts at h
  show SJ _ _ _ [some (oLst [(fz (tList tInt) x_box.1), (fz tInt x_box.2)])] _
  obtain ⟨t1, h_t1, h⟩ := bnd h
  obtain ⟨t2, h_t2, h⟩ := bnd h
  (simp only [Option.some.injEq, Prod.mk.injEq] at h; first | subst h | (obtain ⟨_, _⟩ := h; subst_vars))
  exact sj_ret (rs := rs_law_facts) (ls := ls_law_facts) (y := (t2, (t1.2.1, t1.2.2))) (ej_ix ix_list (v2_ixL rd_fz h_t2) (ej_fz (ej_lst (ss := [(fz (tList tStr) [("full" : Str)]), (fz (tList tStr) [("full" : Str), ("half" : Str)]), (fz (tList tStr) [("none" : Str), ("full" : Str), ("half" : Str)]), (fz (tList tStr) [("if" : Str), ("reset" : Str)])]) (aj_cons (ej_fz (ej_lst (ss := [(fz tStr ("full" : Str))]) (aj_cons ej_str aj_nil)) (fz_lm (τ := tStr) (xs := [("full" : Str)]))) (aj_cons (ej_fz (ej_lst (ss := [(fz tStr ("full" : Str)), (fz tStr ("half" : Str))]) (aj_cons ej_str (aj_cons ej_str aj_nil))) (fz_lm (τ := tStr) (xs := [("full" : Str), ("half" : Str)]))) (aj_cons (ej_fz (ej_lst (ss := [(fz tStr ("none" : Str)), (fz tStr ("full" : Str)), (fz tStr ("half" : Str))]) (aj_cons ej_str (aj_cons ej_str (aj_cons ej_str aj_nil)))) (fz_lm (τ := tStr) (xs := [("none" : Str), ("full" : Str), ("half" : Str)]))) (aj_cons (ej_fz (ej_lst (ss := [(fz tStr ("if" : Str)), (fz tStr ("reset" : Str))]) (aj_cons ej_str (aj_cons ej_str aj_nil))) (fz_lm (τ := tStr) (xs := [("if" : Str), ("reset" : Str)]))) aj_nil))))) (fz_lm (τ := (tList tStr)) (xs := [[("full" : Str)], [("full" : Str), ("half" : Str)], [("none" : Str), ("full" : Str), ("half" : Str)], [("if" : Str), ("reset" : Str)]]))) (ej_call C_law_draw (hr.mono (by decide)) (by rfl) pass0 (aj_lend (i := 0) rfl (by first | exact Or.inl rfl | exact Or.inr (Or.inl rfl) | exact Or.inr (Or.inr rfl)) rfl (aj_cons ej_int aj_nil)) rfl ⟨(x_box.1, x_box.2), (4 : Int), t1, h_t1, rfl, rfl, rfl⟩) (fun _ _ => rfl)) rfl rfl (show List.Nodup ([0] : List Nat) by decide) rfl

abbrev O_Machine_init : Type := D_Machine
def m_Machine_init (x_facts : (List Str)) (x_step : (List (List (Str × Int)))) (x_gain : (List (List (Str × Int)))) (x_leave : (List Int)) : Option O_Machine_init := (((grd (Sm (x_step).length) ()).bind fun g2 => (mapC (fun (y1 : (List (Str × Int))) => (some (some y1))) x_step).bind fun t3 => ((grd (Sm (x_gain).length) ()).bind fun g5 => (mapC (fun (y4 : (List (Str × Int))) => (some (some y4))) x_gain).bind fun t6 => (some (D_Machine.mk x_facts t3 t6 x_leave)))))
def rs_Machine_init (C_Machine : Addr) : O_Machine_init → Sh := fun _ => fz tNon ()
def ls_Machine_init (C_Machine : Addr) : O_Machine_init → List Sh := fun o => [(oIns C_Machine ["facts", "step", "gain", "leave"] [(fz (tList tStr) o.facts), (oL (tDic kStr tInt) o.step), (oL (tDic kStr tInt) o.gain), (oL tInt o.leave)])]
def P_Machine_init (C_Machine : Addr) : Phi := fun ss r L => ∃ (x_facts : (List Str)) (x_step : (List (List (Str × Int)))) (x_gain : (List (List (Str × Int)))) (x_leave : (List Int)) (o : O_Machine_init), m_Machine_init x_facts x_step x_gain x_leave = some o ∧ ss = [(oIns C_Machine [] []), (fz (tList tStr) x_facts), (fz (tList (tDic kStr tInt)) x_step), (fz (tList (tDic kStr tInt)) x_gain), (fz (tList tInt) x_leave)] ∧ r = rs_Machine_init C_Machine o ∧ L = [(0, (oIns C_Machine ["facts", "step", "gain", "leave"] [(fz (tList tStr) o.facts), (oL (tDic kStr tInt) o.step), (oL (tDic kStr tInt) o.gain), (oL tInt o.leave)]))]
theorem ok_Machine_init {C_Machine : Addr} (m_list : mg "list" = none) (cl_Machine : Cls K C_Machine) (na_Machine_facts : NoAttr K C_Machine "facts") (m_dict : mg "dict" = none) (na_Machine_step : NoAttr K C_Machine "step") (na_Machine_gain : NoAttr K C_Machine "gain") (na_Machine_leave : NoAttr K C_Machine "leave") {f0 : Addr} {fd : FuncData} (D : Fun K "__init__" "Machine.__init__" s_Machine_init f0 fd) : FnG P w K mg base CX0 1 f0 fd ["self", "facts", "step", "gain", "leave"] (spS 5 (P_Machine_init C_Machine)) := by
  refine Fun.okS D sc_Machine_init rfl (by decide) fun X0 s H A outer cdv E ss r L vs hr hlen hP => ?_
  obtain ⟨x_facts, x_step, x_gain, x_leave, o_, h, rfl, rfl, rfl⟩ := hP
  obtain ⟨v0, v1, v2, v3, v4, rfl⟩ : ∃ v0 v1 v2 v3 v4, vs = [v0, v1, v2, v3, v4] := by
    match vs, hlen with
    | [v0, v1, v2, v3, v4], _ => exact ⟨v0, v1, v2, v3, v4, rfl⟩
  refine ⟨_, rs_Machine_init C_Machine, ls_Machine_init C_Machine, o_, [(0, v0)], rfl, rfl, by intro p hp; simp only [List.mem_cons, List.not_mem_nil, or_false] at hp; subst hp; rfl, rfl, ?_⟩
  clear X0
  unfold m_Machine_init at h
  show SJ _ _ _ [some (oIns C_Machine [] []), some (fz (tList tStr) x_facts), some (fz (tList (tDic kStr tInt)) x_step), some (fz (tList (tDic kStr tInt)) x_gain), some (fz (tList tInt) x_leave), none] _
  refine sj_fldnew (i := 0) (s := (fz (tList tStr) x_facts)) rfl (by first | exact Or.inl rfl | exact Or.inr (Or.inl rfl) | exact Or.inr (Or.inr rfl)) (ej_fz (ej_ty (ss := [_]) Dl.cl_list (va_listL rd_fz) (by rfl) m_list bt_list (aj_cons (ej_var (i := 1) rfl (by first | exact Or.inl rfl | exact Or.inr (Or.inl rfl) | exact Or.inr (Or.inr rfl)) rfl) aj_nil)) fz_oL) rfl cl_Machine na_Machine_facts (by decide) (by decide) ?_
  show SJ _ _ _ [some (oIns C_Machine ["facts"] [(fz (tList tStr) x_facts)]), some (fz (tList tStr) x_facts), some (fz (tList (tDic kStr tInt)) x_step), some (fz (tList (tDic kStr tInt)) x_gain), some (fz (tList tInt) x_leave), none] _
  obtain ⟨g2, h_g2, h⟩ := bnd h
  obtain ⟨t3, h_t3, h⟩ := bnd h
  refine sj_fldnew (i := 0) (s := (oL (tDic kStr tInt) t3)) rfl (by first | exact Or.inl rfl | exact Or.inr (Or.inl rfl) | exact Or.inr (Or.inr rfl)) (lcj_e (lcP (Γy := fun y1 => [some (oIns C_Machine ["facts"] [(fz (tList tStr) x_facts)]), some (fz (tList tStr) x_facts), some (fz (tList (tDic kStr tInt)) x_step), some (fz (tList (tDic kStr tInt)) x_gain), some (fz (tList tInt) x_leave), some (fz (tDic kStr tInt) y1)]) (own := [("row", 5)]) (fun _ _ _ _ _ y1 => (gj0_name (i := 5) sc_Machine_init.nd rfl (by first | exact Or.inl rfl | exact Or.inr rfl) (z_none rfl))) (fun _ _ _ _ _ y1 oz hm h => (by have h := h;  (simp only [Option.some.injEq, Prod.mk.injEq] at h; first | subst h | (obtain ⟨_, _⟩ := h; subst_vars)); exact ts_nil)) (fun _ _ _ _ _ y1 z hm h => (by have h := h;  (simp only [Option.some.injEq, Prod.mk.injEq] at h; first | subst h | (obtain ⟨_, _⟩ := h; subst_vars)); exact (ej_fz (ej_ty (ss := [_]) cl_dict (va_dict rdd_fz) (by rfl) m_dict bt_dict (aj_cons (ej_var (i := 5) rfl (by first | exact Or.inl rfl | exact Or.inr (Or.inl rfl) | exact Or.inr (Or.inr rfl)) rfl) aj_nil)) fz_oD))) h_t3 (grd_iff h_g2).1 rfl sc_Machine_init.nd (ij_lst (ej_var (i := 2) rfl (by first | exact Or.inl rfl | exact Or.inr (Or.inl rfl) | exact Or.inr (Or.inr rfl)) rfl)) (blkOk_by (own := [("row", 5)]) (N := n_Machine_init) (sc := defScope s_Machine_init) (by decide +kernel)) ⟨z_none rfl, trivial⟩)) rfl cl_Machine na_Machine_step (by decide) (by decide) ?_
  show SJ _ _ _ [some (oIns C_Machine ["facts", "step"] [(fz (tList tStr) x_facts), (oL (tDic kStr tInt) t3)]), some (fz (tList tStr) x_facts), some (fz (tList (tDic kStr tInt)) x_step), some (fz (tList (tDic kStr tInt)) x_gain), some (fz (tList tInt) x_leave), none] _
  obtain ⟨g5, h_g5, h⟩ := bnd h
  obtain ⟨t6, h_t6, h⟩ := bnd h
  refine sj_fldnew (i := 0) (s := (oL (tDic kStr tInt) t6)) rfl (by first | exact Or.inl rfl | exact Or.inr (Or.inl rfl) | exact Or.inr (Or.inr rfl)) (lcj_e (lcP (Γy := fun y4 => [some (oIns C_Machine ["facts", "step"] [(fz (tList tStr) x_facts), (oL (tDic kStr tInt) t3)]), some (fz (tList tStr) x_facts), some (fz (tList (tDic kStr tInt)) x_step), some (fz (tList (tDic kStr tInt)) x_gain), some (fz (tList tInt) x_leave), some (fz (tDic kStr tInt) y4)]) (own := [("row", 5)]) (fun _ _ _ _ _ y4 => (gj0_name (i := 5) sc_Machine_init.nd rfl (by first | exact Or.inl rfl | exact Or.inr rfl) (z_none rfl))) (fun _ _ _ _ _ y4 oz hm h => (by have h := h;  (simp only [Option.some.injEq, Prod.mk.injEq] at h; first | subst h | (obtain ⟨_, _⟩ := h; subst_vars)); exact ts_nil)) (fun _ _ _ _ _ y4 z hm h => (by have h := h;  (simp only [Option.some.injEq, Prod.mk.injEq] at h; first | subst h | (obtain ⟨_, _⟩ := h; subst_vars)); exact (ej_fz (ej_ty (ss := [_]) cl_dict (va_dict rdd_fz) (by rfl) m_dict bt_dict (aj_cons (ej_var (i := 5) rfl (by first | exact Or.inl rfl | exact Or.inr (Or.inl rfl) | exact Or.inr (Or.inr rfl)) rfl) aj_nil)) fz_oD))) h_t6 (grd_iff h_g5).1 rfl sc_Machine_init.nd (ij_lst (ej_var (i := 3) rfl (by first | exact Or.inl rfl | exact Or.inr (Or.inl rfl) | exact Or.inr (Or.inr rfl)) rfl)) (blkOk_by (own := [("row", 5)]) (N := n_Machine_init) (sc := defScope s_Machine_init) (by decide +kernel)) ⟨z_none rfl, trivial⟩)) rfl cl_Machine na_Machine_gain (by decide) (by decide) ?_
  show SJ _ _ _ [some (oIns C_Machine ["facts", "step", "gain"] [(fz (tList tStr) x_facts), (oL (tDic kStr tInt) t3), (oL (tDic kStr tInt) t6)]), some (fz (tList tStr) x_facts), some (fz (tList (tDic kStr tInt)) x_step), some (fz (tList (tDic kStr tInt)) x_gain), some (fz (tList tInt) x_leave), none] _
  refine sj_fldnew (i := 0) (s := (oL tInt x_leave)) rfl (by first | exact Or.inl rfl | exact Or.inr (Or.inl rfl) | exact Or.inr (Or.inr rfl)) (ej_ty (ss := [_]) Dl.cl_list (va_listL rd_fz) (by rfl) m_list bt_list (aj_cons (ej_var (i := 4) rfl (by first | exact Or.inl rfl | exact Or.inr (Or.inl rfl) | exact Or.inr (Or.inr rfl)) rfl) aj_nil)) rfl cl_Machine na_Machine_leave (by decide) (by decide) ?_
  show SJ _ _ _ [some (oIns C_Machine ["facts", "step", "gain", "leave"] [(fz (tList tStr) x_facts), (oL (tDic kStr tInt) t3), (oL (tDic kStr tInt) t6), (oL tInt x_leave)]), some (fz (tList tStr) x_facts), some (fz (tList (tDic kStr tInt)) x_step), some (fz (tList (tDic kStr tInt)) x_gain), some (fz (tList tInt) x_leave), none] _
  (simp only [Option.some.injEq, Prod.mk.injEq] at h; first | subst h | (obtain ⟨_, _⟩ := h; subst_vars))
  exact sj_fin (rs := rs_Machine_init C_Machine) (ls := ls_Machine_init C_Machine) (fun _ => ⟨rfl, rfl⟩) rfl (show List.Nodup ([0] : List Nat) by decide)

abbrev O_Rules_names : Type := (List Str)
def m_Rules_names (x_self : D_Rules) : Option O_Rules_names := ((grd (Sm (x_self.counters).length) ()).bind fun g2 => (mapC (fun (y1 : (Str × Int × (List (Str × (Int ⊕ Str))))) => (some (some y1.1))) x_self.counters).bind fun t3 => some t3)
def rs_Rules_names (C_Rules : Addr) : O_Rules_names → Sh := fun o => (fz (tList tStr) o)
def ls_Rules_names (C_Rules : Addr) : O_Rules_names → List Sh := fun o => []
def P_Rules_names (C_Rules : Addr) : Phi := fun ss r L => ∃ (x_self : D_Rules) (o : O_Rules_names), m_Rules_names x_self = some o ∧ ss = [(fz (t_Rules C_Rules) x_self)] ∧ r = rs_Rules_names C_Rules o ∧ L = []
theorem ok_Rules_names {C_Rules : Addr} (cl_Rules : Cls K C_Rules) (na_Rules_counters : NoAttr K C_Rules "counters") {f0 : Addr} {fd : FuncData} (D : Fun K "names" "Rules.names" s_Rules_names f0 fd) : FnG P w K mg base CX0 1 f0 fd ["self"] (spS 1 (P_Rules_names C_Rules)) := by
  refine Fun.okS D sc_Rules_names rfl (by decide) fun X0 s H A outer cdv E ss r L vs hr hlen hP => ?_
  obtain ⟨x_self, o_, h, rfl, rfl, rfl⟩ := hP
  obtain ⟨v0, rfl⟩ : ∃ v0, vs = [v0] := by
    match vs, hlen with
    | [v0], _ => exact ⟨v0, rfl⟩
  refine ⟨_, rs_Rules_names C_Rules, ls_Rules_names C_Rules, o_, [], rfl, rfl, (fun _ h => nomatch h), rfl, ?_⟩
  clear X0
  unfold m_Rules_names at h
  show SJ _ _ _ [some (fz (t_Rules C_Rules) x_self), none] _
  obtain ⟨g2, h_g2, h⟩ := bnd h
  obtain ⟨t3, h_t3, h⟩ := bnd h
  (simp only [Option.some.injEq, Prod.mk.injEq] at h; first | subst h | (obtain ⟨_, _⟩ := h; subst_vars))
  exact sj_ret (rs := rs_Rules_names C_Rules) (ls := ls_Rules_names C_Rules) (y := t3) (ej_fz (lcj_e (lcP (Γy := fun y1 => [some (fz (t_Rules C_Rules) x_self), some (fz (tP3 tStr tInt (tDic kStr (tSum tInt tStr))) y1)]) (own := [("counter", 1)]) (fun _ _ _ _ _ y1 => (gj0_name (i := 1) sc_Rules_names.nd rfl (by first | exact Or.inl rfl | exact Or.inr rfl) (z_none rfl))) (fun _ _ _ _ _ y1 oz hm h => (by have h := h;  (simp only [Option.some.injEq, Prod.mk.injEq] at h; first | subst h | (obtain ⟨_, _⟩ := h; subst_vars)); exact ts_nil)) (fun _ _ _ _ _ y1 z hm h => (by have h := h;  (simp only [Option.some.injEq, Prod.mk.injEq] at h; first | subst h | (obtain ⟨_, _⟩ := h; subst_vars)); exact (ej_ix ix_tup (v2_ixT (j := 0) rdt_3 rfl rfl) (ej_var (i := 1) rfl (by first | exact Or.inl rfl | exact Or.inr (Or.inl rfl) | exact Or.inr (Or.inr rfl)) rfl) ej_int (fun _ _ => rfl)))) h_t3 (grd_iff h_g2).1 rfl sc_Rules_names.nd (ij_lst (ej_fld (j := 1) (ej_var (i := 0) rfl (by first | exact Or.inl rfl | exact Or.inr (Or.inl rfl) | exact Or.inr (Or.inr rfl)) rfl) cl_Rules na_Rules_counters rfl rfl)) (blkOk_by (own := [("counter", 1)]) (N := n_Rules_names) (sc := defScope s_Rules_names) (by decide +kernel)) ⟨z_none rfl, trivial⟩)) fz_oL) rfl rfl (show List.Nodup ([] : List Nat) by decide) rfl

abbrev O_first_counts : Type := (List (Str × Int))
def m_first_counts (x_rules : D_Rules) : Option O_first_counts := ((m_Rules_names x_rules).bind fun t1 => (grd (Sm (t1).length) ()).bind fun g3 => (dicC (fun (y2 : Str) => (some (y2, (0 : Int)))) [] t1).bind fun t4 => some t4)
def rs_first_counts (C_Rules : Addr) : O_first_counts → Sh := fun o => (fz (tDic kStr tInt) o)
def ls_first_counts (C_Rules : Addr) : O_first_counts → List Sh := fun o => []
def P_first_counts (C_Rules : Addr) : Phi := fun ss r L => ∃ (x_rules : D_Rules) (o : O_first_counts), m_first_counts x_rules = some o ∧ ss = [(fz (t_Rules C_Rules) x_rules)] ∧ r = rs_first_counts C_Rules o ∧ L = []
theorem ok_first_counts {C_Rules : Addr} (cl_Rules : Cls K C_Rules) (N_Rules_names : Met P w K mg base 1 C_Rules "names" ["self"] (spS 1 (P_Rules_names C_Rules))) {f0 : Addr} {fd : FuncData} (D : Fun K "first_counts" "first_counts" s_first_counts f0 fd) : FnG P w K mg base CX0 2 f0 fd ["rules"] (spS 1 (P_first_counts C_Rules)) := by
  refine Fun.okS D sc_first_counts rfl (by decide) fun X0 s H A outer cdv E ss r L vs hr hlen hP => ?_
  obtain ⟨x_rules, o_, h, rfl, rfl, rfl⟩ := hP
  obtain ⟨v0, rfl⟩ : ∃ v0, vs = [v0] := by
    match vs, hlen with
    | [v0], _ => exact ⟨v0, rfl⟩
  refine ⟨_, rs_first_counts C_Rules, ls_first_counts C_Rules, o_, [], rfl, rfl, (fun _ h => nomatch h), rfl, ?_⟩
  clear X0
  unfold m_first_counts at h
  show SJ _ _ _ [some (fz (t_Rules C_Rules) x_rules), none] _
  obtain ⟨t1, h_t1, h⟩ := bnd h
  obtain ⟨g3, h_g3, h⟩ := bnd h
  obtain ⟨t4, h_t4, h⟩ := bnd h
  (simp only [Option.some.injEq, Prod.mk.injEq] at h; first | subst h | (obtain ⟨_, _⟩ := h; subst_vars))
  exact sj_ret (rs := rs_first_counts C_Rules) (ls := ls_first_counts C_Rules) (y := t4) (ej_fz (lcj_e (dcP (Γy := fun y2 => [some (fz (t_Rules C_Rules) x_rules), some (fz tStr y2)]) (own := [("name", 1)]) (kd := fStr) (fun _ _ _ _ _ y2 => (gj0_name (i := 1) sc_first_counts.nd rfl (by first | exact Or.inl rfl | exact Or.inr rfl) (z_none rfl))) (fun _ _ _ _ _ y2 k z hm h => (by have h := h;  simp only [Option.some.injEq, Prod.mk.injEq] at h; obtain ⟨rfl, rfl⟩ := h; exact (ej_var (i := 1) rfl (by first | exact Or.inl rfl | exact Or.inr (Or.inl rfl) | exact Or.inr (Or.inr rfl)) rfl))) (fun _ _ _ _ _ y2 k z hm h => (by have h := h;  simp only [Option.some.injEq, Prod.mk.injEq] at h; obtain ⟨rfl, rfl⟩ := h; exact ej_int)) h_t4 (grd_iff h_g3).1 rfl sc_first_counts.nd (ij_lst (ej_mtF0 N_Rules_names (ej_var (i := 0) rfl (by first | exact Or.inl rfl | exact Or.inr (Or.inl rfl) | exact Or.inr (Or.inr rfl)) rfl) cl_Rules (hr.mono (by decide)) pass0 (by decide) ⟨x_rules, t1, h_t1, rfl, rfl, rfl⟩)) (blkOk_by (own := [("name", 1)]) (N := n_first_counts) (sc := defScope s_first_counts) (by decide +kernel)) ⟨z_none rfl, trivial⟩)) fz_oD) rfl rfl (show List.Nodup ([] : List Nat) by decide) rfl

abbrev O_place_of : Type := Int × (List (List Int)) × (List ((List Int) × Int))
def m_place_of (x_key : (List Int)) (x_met : (List (List Int))) (x_places : (List ((List Int) × Int))) : Option O_place_of := ((if (!(ahas x_places x_key)) = true then ((grd (Sm (x_places).length) ()).bind fun g3 => ((grd (Sm (x_met).length) ()).bind fun g4 => some ((x_met ++ [x_key]), (aput x_places x_key ((x_met).length : Int))))) else some (x_met, x_places) : Option ((List (List Int)) × (List ((List Int) × Int)))).bind fun j2 => ((aget j2.2 x_key).bind fun t5 => some (t5, j2.1, j2.2)))
def rs_place_of : O_place_of → Sh := fun o => (fz tInt o.1)
def ls_place_of : O_place_of → List Sh := fun o => [(oL (tTup tInt) o.2.1), (oD (kTu fInt) tInt o.2.2)]
def P_place_of : Phi := fun ss r L => ∃ (x_key : (List Int)) (x_met : (List (List Int))) (x_places : (List ((List Int) × Int))) (o : O_place_of), m_place_of x_key x_met x_places = some o ∧ ss = [(fz (tTup tInt) x_key), (oL (tTup tInt) x_met), (oD (kTu fInt) tInt x_places)] ∧ r = rs_place_of o ∧ L = [(1, (oL (tTup tInt) o.2.1)), (2, (oD (kTu fInt) tInt o.2.2))]
theorem ok_place_of (m_len : mg "len" = none) {f0 : Addr} {fd : FuncData} (D : Fun K "place_of" "place_of" s_place_of f0 fd) : FnG P w K mg base CX0 1 f0 fd ["key", "met", "places"] (spS 3 P_place_of) := by
  refine Fun.okS D sc_place_of rfl (by decide) fun X0 s H A outer cdv E ss r L vs hr hlen hP => ?_
  obtain ⟨x_key, x_met, x_places, o_, h, rfl, rfl, rfl⟩ := hP
  obtain ⟨v0, v1, v2, rfl⟩ : ∃ v0 v1 v2, vs = [v0, v1, v2] := by
    match vs, hlen with
    | [v0, v1, v2], _ => exact ⟨v0, v1, v2, rfl⟩
  refine ⟨_, rs_place_of, ls_place_of, o_, [(1, v1), (2, v2)], rfl, rfl, by intro p hp; simp only [List.mem_cons, List.not_mem_nil, or_false] at hp; rcases hp with rfl | rfl <;> rfl, rfl, ?_⟩
  clear X0
  unfold m_place_of at h
  show SJ _ _ _ [some (fz (tTup tInt) x_key), some (oL (tTup tInt) x_met), some (oD (kTu fInt) tInt x_places)] _
  obtain ⟨j2, h_j2, h⟩ := bnd h
  refine sj_if (t := (!(ahas x_places x_key))) (Γm := [some (fz (tTup tInt) x_key), some (oL (tTup tInt) j2.1), some (oD (kTu fInt) tInt j2.2)]) (tj_cmp (ej_dninF (hu_of hr.room) rdd_oD (ej_var (i := 0) rfl (by first | exact Or.inl rfl | exact Or.inr (Or.inl rfl) | exact Or.inr (Or.inr rfl)) rfl) (fj_var (i := 2) rfl (by first | exact Or.inl rfl | exact Or.inr (Or.inl rfl) | exact Or.inr (Or.inr rfl)) rfl))) ?_ ?_ ?_
  · intro h_b1
    clear h; have h := ifT h_b1 h_j2; clear h_j2
    show SJ _ _ _ [some (fz (tTup tInt) x_key), some (oL (tTup tInt) x_met), some (oD (kTu fInt) tInt x_places)] _
    obtain ⟨g3, h_g3, h⟩ := bnd h
    refine sj_dput (i := 2) (hu_of hr.room) rfl (by first | exact Or.inl rfl | exact Or.inr (Or.inl rfl) | exact Or.inr (Or.inr rfl)) (ej_bP Dl.cl_len (va_len rd_oL) (by rfl) m_len bt_len (pj_var (i := 1) rfl (by first | exact Or.inl rfl | exact Or.inr (Or.inl rfl) | exact Or.inr (Or.inr rfl)) rfl)) rfl (ej_var (i := 0) rfl (by first | exact Or.inl rfl | exact Or.inr (Or.inl rfl) | exact Or.inr (Or.inr rfl)) rfl) (grd_iff h_g3).1 ?_
    show SJ _ _ _ [some (fz (tTup tInt) x_key), some (oL (tTup tInt) x_met), some (oD (kTu fInt) tInt (aput x_places x_key ((x_met).length : Int)))] _
    obtain ⟨g4, h_g4, h⟩ := bnd h
    refine sj_expr (ej_app (i := 1) rfl (by first | exact Or.inl rfl | exact Or.inr (Or.inl rfl) | exact Or.inr (Or.inr rfl)) rfl (aj_cons (ej_var (i := 0) rfl (by first | exact Or.inl rfl | exact Or.inr (Or.inl rfl) | exact Or.inr (Or.inr rfl)) rfl) aj_nil) rfl (grd_iff h_g4).1) ?_
    show SJ _ _ _ [some (fz (tTup tInt) x_key), some (oL (tTup tInt) (x_met ++ [x_key])), some (oD (kTu fInt) tInt (aput x_places x_key ((x_met).length : Int)))] _
    (simp only [Option.some.injEq, Prod.mk.injEq] at h; first | subst h | (obtain ⟨_, _⟩ := h; subst_vars))
    exact sj_join (fl := [true, true, true]) rfl rfl (fun _ _ _ h => h)
  · intro h_b1
    clear h; have h := ifF h_b1 h_j2; clear h_j2
    show SJ _ _ _ [some (fz (tTup tInt) x_key), some (oL (tTup tInt) x_met), some (oD (kTu fInt) tInt x_places)] _
    (simp only [Option.some.injEq, Prod.mk.injEq] at h; first | subst h | (obtain ⟨_, _⟩ := h; subst_vars))
    exact sj_join (fl := [true, true, true]) rfl rfl (fun _ _ _ h => h)
  obtain ⟨t5, h_t5, h⟩ := bnd h
  (simp only [Option.some.injEq, Prod.mk.injEq] at h; first | subst h | (obtain ⟨_, _⟩ := h; subst_vars))
  exact sj_ret (rs := rs_place_of) (ls := ls_place_of) (y := (t5, j2.1, j2.2)) (ej_dgetP (hu_of hr.room) rdd_oD h_t5 (pj_var (i := 2) rfl (by first | exact Or.inl rfl | exact Or.inr (Or.inl rfl) | exact Or.inr (Or.inr rfl)) rfl) (ej_var (i := 0) rfl (by first | exact Or.inl rfl | exact Or.inr (Or.inl rfl) | exact Or.inr (Or.inr rfl)) rfl) (fun _ _ => rfl)) rfl rfl (show List.Nodup ([1, 2] : List Nat) by decide) rfl

abbrev O_row_of : Type := (List Int)
def m_row_of (x_rules : D_Rules) (x_counts : (List (Str × Int))) : Option O_row_of := ((m_Rules_names x_rules).bind fun t1 => (grd (Sm (t1).length) ()).bind fun g3 => (mapC (fun (y2 : Str) => ((aget x_counts y2).bind fun t4 => some (some t4))) t1).bind fun t5 => some t5)
def rs_row_of (C_Rules : Addr) : O_row_of → Sh := fun o => (fz (tTup tInt) o)
def ls_row_of (C_Rules : Addr) : O_row_of → List Sh := fun o => []
def P_row_of (C_Rules : Addr) : Phi := fun ss r L => ∃ (x_rules : D_Rules) (x_counts : (List (Str × Int))) (o : O_row_of), m_row_of x_rules x_counts = some o ∧ ss = [(fz (t_Rules C_Rules) x_rules), (fz (tDic kStr tInt) x_counts)] ∧ r = rs_row_of C_Rules o ∧ L = []
theorem ok_row_of {C_Rules : Addr} (cl_Rules : Cls K C_Rules) (N_Rules_names : Met P w K mg base 1 C_Rules "names" ["self"] (spS 1 (P_Rules_names C_Rules))) (m_tuple : mg "tuple" = none) {f0 : Addr} {fd : FuncData} (D : Fun K "row_of" "row_of" s_row_of f0 fd) : FnG P w K mg base CX0 2 f0 fd ["rules", "counts"] (spS 2 (P_row_of C_Rules)) := by
  refine Fun.okS D sc_row_of rfl (by decide) fun X0 s H A outer cdv E ss r L vs hr hlen hP => ?_
  obtain ⟨x_rules, x_counts, o_, h, rfl, rfl, rfl⟩ := hP
  obtain ⟨v0, v1, rfl⟩ : ∃ v0 v1, vs = [v0, v1] := by
    match vs, hlen with
    | [v0, v1], _ => exact ⟨v0, v1, rfl⟩
  refine ⟨_, rs_row_of C_Rules, ls_row_of C_Rules, o_, [], rfl, rfl, (fun _ h => nomatch h), rfl, ?_⟩
  clear X0
  unfold m_row_of at h
  show SJ _ _ _ [some (fz (t_Rules C_Rules) x_rules), some (fz (tDic kStr tInt) x_counts), none] _
  obtain ⟨t1, h_t1, h⟩ := bnd h
  obtain ⟨g3, h_g3, h⟩ := bnd h
  obtain ⟨t5, h_t5, h⟩ := bnd h
  (simp only [Option.some.injEq, Prod.mk.injEq] at h; first | subst h | (obtain ⟨_, _⟩ := h; subst_vars))
  exact sj_ret (rs := rs_row_of C_Rules) (ls := ls_row_of C_Rules) (y := t5) (ej_ty (ss := [_]) cl_tupOf (va_tupV rd_fz) (by rfl) m_tuple bt_tuple (aj_cons (ej_fz (lcj_e (lcP (Γy := fun y2 => [some (fz (t_Rules C_Rules) x_rules), some (fz (tDic kStr tInt) x_counts), some (fz tStr y2)]) (own := [("name", 2)]) (fun _ _ _ _ _ y2 => (gj0_name (i := 2) sc_row_of.nd rfl (by first | exact Or.inl rfl | exact Or.inr rfl) (z_none rfl))) (fun _ _ _ _ _ y2 oz hm h => (by have h := h; obtain ⟨t4, h_t4, h⟩ := bnd h;  (simp only [Option.some.injEq, Prod.mk.injEq] at h; first | subst h | (obtain ⟨_, _⟩ := h; subst_vars)); exact ts_nil)) (fun _ _ _ _ _ y2 z hm h => (by have h := h; obtain ⟨t4, h_t4, h⟩ := bnd h;  (simp only [Option.some.injEq, Prod.mk.injEq] at h; first | subst h | (obtain ⟨_, _⟩ := h; subst_vars)); exact (ej_dget (hu_of hr.room) rdd_fz h_t4 (ej_var (i := 1) rfl (by first | exact Or.inl rfl | exact Or.inr (Or.inl rfl) | exact Or.inr (Or.inr rfl)) rfl) (ej_var (i := 2) rfl (by first | exact Or.inl rfl | exact Or.inr (Or.inl rfl) | exact Or.inr (Or.inr rfl)) rfl) (fun _ _ => rfl)))) h_t5 (grd_iff h_g3).1 rfl sc_row_of.nd (ij_lst (ej_mtF0 N_Rules_names (ej_var (i := 0) rfl (by first | exact Or.inl rfl | exact Or.inr (Or.inl rfl) | exact Or.inr (Or.inr rfl)) rfl) cl_Rules (hr.mono (by decide)) pass0 (by decide) ⟨x_rules, t1, h_t1, rfl, rfl, rfl⟩)) (blkOk_by (own := [("name", 2)]) (N := n_row_of) (sc := defScope s_row_of) (by decide +kernel)) ⟨z_none rfl, trivial⟩)) fz_oL) aj_nil)) rfl rfl (show List.Nodup ([] : List Nat) by decide) rfl

abbrev O_Machine_manyR : Type := Int
def m_Machine_manyR (x_self : D_Machine) : Option O_Machine_manyR := (some ((x_self.leave).length : Int))
def rs_Machine_manyR (C_Machine : Addr) : O_Machine_manyR → Sh := fun o => (fz tInt o)
def P_Machine_manyR (C_Machine : Addr) : Phr := fun ss r => ∃ (x_self : D_Machine) (o : O_Machine_manyR), m_Machine_manyR x_self = some o ∧ ss = [(oIns C_Machine ["facts", "step", "gain", "leave"] [(fz (tList tStr) x_self.facts), (oL (tDic kStr tInt) x_self.step), (oL (tDic kStr tInt) x_self.gain), (oL tInt x_self.leave)])] ∧ r = rs_Machine_manyR C_Machine o
theorem ok_Machine_manyR {C_Machine : Addr} (cl_Machine : Cls K C_Machine) (na_Machine_leave : NoAttr K C_Machine "leave") (m_len : mg "len" = none) {f0 : Addr} {fd : FuncData} (D : Fun K "many" "Machine.many" s_Machine_many f0 fd) : FnG P w K mg base CX0 1 f0 fd ["self"] (spR 1 (P_Machine_manyR C_Machine)) := by
  refine Fun.okR D sc_Machine_many rfl (by decide) fun X0 s H A outer cdv E ss r vs hr hlen hP => ?_
  obtain ⟨x_self, o_, h, rfl, rfl⟩ := hP
  obtain ⟨v0, rfl⟩ : ∃ v0, vs = [v0] := by
    match vs, hlen with
    | [v0], _ => exact ⟨v0, rfl⟩
  clear X0
  unfold m_Machine_manyR at h
  show RJ _ _ [some (oIns C_Machine ["facts", "step", "gain", "leave"] [(fz (tList tStr) x_self.facts), (oL (tDic kStr tInt) x_self.step), (oL (tDic kStr tInt) x_self.gain), (oL tInt x_self.leave)])] _
  (simp only [Option.some.injEq, Prod.mk.injEq] at h; first | subst h | (obtain ⟨_, _⟩ := h; subst_vars))
  exact rj_ret (ej_bF Dl.cl_len (va_len rd_oL) (by rfl) m_len bt_len (fj_fld (fj_var (i := 0) rfl (by first | exact Or.inl rfl | exact Or.inr (Or.inl rfl) | exact Or.inr (Or.inr rfl)) rfl) cl_Machine na_Machine_leave rfl rfl))

abbrev O_counts_of : Type := (List (Str × Int))
def m_counts_of (x_rules : D_Rules) (x_row : (List Int)) : Option O_counts_of := ((m_Rules_names x_rules).bind fun t1 => some (ofPairs ((t1).zip x_row)))
def rs_counts_of (C_Rules : Addr) : O_counts_of → Sh := fun o => (fz (tDic kStr tInt) o)
def ls_counts_of (C_Rules : Addr) : O_counts_of → List Sh := fun o => []
def P_counts_of (C_Rules : Addr) : Phi := fun ss r L => ∃ (x_rules : D_Rules) (x_row : (List Int)) (o : O_counts_of), m_counts_of x_rules x_row = some o ∧ ss = [(fz (t_Rules C_Rules) x_rules), (fz (tTup tInt) x_row)] ∧ r = rs_counts_of C_Rules o ∧ L = []
theorem ok_counts_of {C_Rules : Addr} (cl_Rules : Cls K C_Rules) (N_Rules_names : Met P w K mg base 1 C_Rules "names" ["self"] (spS 1 (P_Rules_names C_Rules))) (m_dict : mg "dict" = none) (m_zip : mg "zip" = none) {f0 : Addr} {fd : FuncData} (D : Fun K "counts_of" "counts_of" s_counts_of f0 fd) : FnG P w K mg base CX0 2 f0 fd ["rules", "row"] (spS 2 (P_counts_of C_Rules)) := by
  refine Fun.okS D sc_counts_of rfl (by decide) fun X0 s H A outer cdv E ss r L vs hr hlen hP => ?_
  obtain ⟨x_rules, x_row, o_, h, rfl, rfl, rfl⟩ := hP
  obtain ⟨v0, v1, rfl⟩ : ∃ v0 v1, vs = [v0, v1] := by
    match vs, hlen with
    | [v0, v1], _ => exact ⟨v0, v1, rfl⟩
  refine ⟨_, rs_counts_of C_Rules, ls_counts_of C_Rules, o_, [], rfl, rfl, (fun _ h => nomatch h), rfl, ?_⟩
  clear X0
  unfold m_counts_of at h
  show SJ _ _ _ [some (fz (t_Rules C_Rules) x_rules), some (fz (tTup tInt) x_row)] _
  obtain ⟨t1, h_t1, h⟩ := bnd h
  (simp only [Option.some.injEq, Prod.mk.injEq] at h; first | subst h | (obtain ⟨_, _⟩ := h; subst_vars))
  exact sj_ret (rs := rs_counts_of C_Rules) (ls := ls_counts_of C_Rules) (y := (ofPairs ((t1).zip x_row))) (ej_fz (show EJ _ _ _ _ (oD kStr tInt _) from ej_dictZip (kd := fStr) (τk := tStr) (by rfl) m_dict (by rfl) m_zip (aj_cons (ej_mtF0 N_Rules_names (ej_var (i := 0) rfl (by first | exact Or.inl rfl | exact Or.inr (Or.inl rfl) | exact Or.inr (Or.inr rfl)) rfl) cl_Rules (hr.mono (by decide)) pass0 (by decide) ⟨x_rules, t1, h_t1, rfl, rfl, rfl⟩) (aj_cons (ej_var (i := 1) rfl (by first | exact Or.inl rfl | exact Or.inr (Or.inl rfl) | exact Or.inr (Or.inr rfl)) rfl) aj_nil))) fz_oD) rfl rfl (show List.Nodup ([] : List Nat) by decide) rfl

abbrev O_counted_on : Type := Int
def m_counted_on (x_counter : (Str × Int × (List (Str × (Int ⊕ Str))))) (x_value : Int) (x_fact : Str) : Option O_counted_on := (((if (!(ahas x_counter.2.2 x_fact)) = true then (some x_value) else ((aget x_counter.2.2 x_fact).bind fun t2 => (if (decide (t2 = Sum.inr ("reset" : Str))) = true then (some (0 : Int)) else ((aget x_counter.2.2 x_fact).bind fun t6 => (asL t6).bind fun t7 => some (min x_counter.2.1 (x_value + t7))))))))
def rs_counted_on : O_counted_on → Sh := fun o => (fz tInt o)
def ls_counted_on : O_counted_on → List Sh := fun o => []
def P_counted_on : Phi := fun ss r L => ∃ (x_counter : (Str × Int × (List (Str × (Int ⊕ Str))))) (x_value : Int) (x_fact : Str) (o : O_counted_on), m_counted_on x_counter x_value x_fact = some o ∧ ss = [(fz (tP3 tStr tInt (tDic kStr (tSum tInt tStr))) x_counter), (fz tInt x_value), (fz tStr x_fact)] ∧ r = rs_counted_on o ∧ L = []
theorem ok_counted_on (m_min : mg "min" = none) {f0 : Addr} {fd : FuncData} (D : Fun K "counted_on" "counted_on" s_counted_on f0 fd) : FnG P w K mg base CX0 1 f0 fd ["counter", "value", "fact"] (spS 3 P_counted_on) := by
  refine Fun.okS D sc_counted_on rfl (by decide) fun X0 s H A outer cdv E ss r L vs hr hlen hP => ?_
  obtain ⟨x_counter, x_value, x_fact, o_, h, rfl, rfl, rfl⟩ := hP
  obtain ⟨v0, v1, v2, rfl⟩ : ∃ v0 v1 v2, vs = [v0, v1, v2] := by
    match vs, hlen with
    | [v0, v1, v2], _ => exact ⟨v0, v1, v2, rfl⟩
  refine ⟨_, rs_counted_on, ls_counted_on, o_, [], rfl, rfl, (fun _ h => nomatch h), rfl, ?_⟩
  clear X0
  unfold m_counted_on at h
  show SJ _ _ _ [some (fz (tP3 tStr tInt (tDic kStr (tSum tInt tStr))) x_counter), some (fz tInt x_value), some (fz tStr x_fact), none, none, none] _
  refine sj_asg (ej_var (i := 0) rfl (by first | exact Or.inl rfl | exact Or.inr (Or.inl rfl) | exact Or.inr (Or.inr rfl)) rfl) (gj_p3 rfl (gs_cons (gj_name (i := 3) sc_counted_on.nd rfl (by first | exact Or.inl rfl | exact Or.inr rfl)) (gs_cons (gj_name (i := 4) sc_counted_on.nd rfl (by first | exact Or.inl rfl | exact Or.inr rfl)) (gs_cons (gj_name (i := 5) sc_counted_on.nd rfl (by first | exact Or.inl rfl | exact Or.inr rfl)) gs_nil)))) ?_
  show SJ _ _ _ [some (fz (tP3 tStr tInt (tDic kStr (tSum tInt tStr))) x_counter), some (fz tInt x_value), some (fz tStr x_fact), some (fz tStr x_counter.1), some (fz tInt x_counter.2.1), some (fz (tDic kStr (tSum tInt tStr)) x_counter.2.2)] _
  refine sj_ifT (t := (!(ahas x_counter.2.2 x_fact))) (tj_cmp (ej_dnin (hu_of hr.room) (ej_var (i := 2) rfl (by first | exact Or.inl rfl | exact Or.inr (Or.inl rfl) | exact Or.inr (Or.inr rfl)) rfl) (ej_var (i := 5) rfl (by first | exact Or.inl rfl | exact Or.inr (Or.inl rfl) | exact Or.inr (Or.inr rfl)) rfl))) ?_ ?_
  · intro h_b1
    replace h := ifT h_b1 h
    show SJ _ _ _ [some (fz (tP3 tStr tInt (tDic kStr (tSum tInt tStr))) x_counter), some (fz tInt x_value), some (fz tStr x_fact), some (fz tStr x_counter.1), some (fz tInt x_counter.2.1), some (fz (tDic kStr (tSum tInt tStr)) x_counter.2.2)] _
    (simp only [Option.some.injEq, Prod.mk.injEq] at h; first | subst h | (obtain ⟨_, _⟩ := h; subst_vars))
    exact sj_ret (rs := rs_counted_on) (ls := ls_counted_on) (y := x_value) (ej_var (i := 1) rfl (by first | exact Or.inl rfl | exact Or.inr (Or.inl rfl) | exact Or.inr (Or.inr rfl)) rfl) rfl rfl (show List.Nodup ([] : List Nat) by decide) rfl
  intro h_b1
  replace h := ifF h_b1 h
  show SJ _ _ _ [some (fz (tP3 tStr tInt (tDic kStr (tSum tInt tStr))) x_counter), some (fz tInt x_value), some (fz tStr x_fact), some (fz tStr x_counter.1), some (fz tInt x_counter.2.1), some (fz (tDic kStr (tSum tInt tStr)) x_counter.2.2)] _
  obtain ⟨t2, h_t2, h⟩ := bnd h
  refine sj_ifT (t := (decide (t2 = Sum.inr ("reset" : Str)))) (tj_cmp (ej_eqS (ej_dget (hu_of hr.room) rdd_fz h_t2 (ej_var (i := 5) rfl (by first | exact Or.inl rfl | exact Or.inr (Or.inl rfl) | exact Or.inr (Or.inr rfl)) rfl) (ej_var (i := 2) rfl (by first | exact Or.inl rfl | exact Or.inr (Or.inl rfl) | exact Or.inr (Or.inr rfl)) rfl) (fun _ _ => rfl)) ej_str)) ?_ ?_
  · intro h_b3
    replace h := ifT h_b3 h
    show SJ _ _ _ [some (fz (tP3 tStr tInt (tDic kStr (tSum tInt tStr))) x_counter), some (fz tInt x_value), some (fz tStr x_fact), some (fz tStr x_counter.1), some (fz tInt x_counter.2.1), some (fz (tDic kStr (tSum tInt tStr)) x_counter.2.2)] _
    (simp only [Option.some.injEq, Prod.mk.injEq] at h; first | subst h | (obtain ⟨_, _⟩ := h; subst_vars))
    exact sj_ret (rs := rs_counted_on) (ls := ls_counted_on) (y := (0 : Int)) ej_int rfl rfl (show List.Nodup ([] : List Nat) by decide) rfl
  intro h_b3
  replace h := ifF h_b3 h
  show SJ _ _ _ [some (fz (tP3 tStr tInt (tDic kStr (tSum tInt tStr))) x_counter), some (fz tInt x_value), some (fz tStr x_fact), some (fz tStr x_counter.1), some (fz tInt x_counter.2.1), some (fz (tDic kStr (tSum tInt tStr)) x_counter.2.2)] _
  obtain ⟨t6, h_t6, h⟩ := bnd h
  obtain ⟨t7, h_t7, h⟩ := bnd h
  (simp only [Option.some.injEq, Prod.mk.injEq] at h; first | subst h | (obtain ⟨_, _⟩ := h; subst_vars))
  exact sj_ret (rs := rs_counted_on) (ls := ls_counted_on) (y := (min x_counter.2.1 (x_value + t7))) (ej_b (ss := [_, _]) (Dl.cl_min2 rfl) va_min (by rfl) m_min bt_min (aj_cons (ej_var (i := 4) rfl (by first | exact Or.inl rfl | exact Or.inr (Or.inl rfl) | exact Or.inr (Or.inr rfl)) rfl) (aj_cons (ej_add (ej_var (i := 1) rfl (by first | exact Or.inl rfl | exact Or.inr (Or.inl rfl) | exact Or.inr (Or.inr rfl)) rfl) (ej_getl (ej_dget (hu_of hr.room) rdd_fz h_t6 (ej_var (i := 5) rfl (by first | exact Or.inl rfl | exact Or.inr (Or.inl rfl) | exact Or.inr (Or.inr rfl)) rfl) (ej_var (i := 2) rfl (by first | exact Or.inl rfl | exact Or.inr (Or.inl rfl) | exact Or.inr (Or.inr rfl)) rfl) (fun _ _ => rfl)) (asL_iff h_t7))) aj_nil))) rfl rfl (show List.Nodup ([] : List Nat) by decide) rfl

abbrev O_year_counts : Type := (List (Str × Int))
def m_year_counts (x_rules : D_Rules) (x_counts : (List (Str × Int))) (x_fact : Str) : Option O_year_counts := ((grd (Sm (x_rules.counters).length) ()).bind fun g2 => (dicC (fun (y1 : (Str × Int × (List (Str × (Int ⊕ Str))))) => ((aget x_counts y1.1).bind fun t3 => (m_counted_on y1 t3 x_fact).bind fun t4 => some (y1.1, t4))) [] x_rules.counters).bind fun t5 => some t5)
def rs_year_counts (C_Rules : Addr) : O_year_counts → Sh := fun o => (fz (tDic kStr tInt) o)
def ls_year_counts (C_Rules : Addr) : O_year_counts → List Sh := fun o => []
def P_year_counts (C_Rules : Addr) : Phi := fun ss r L => ∃ (x_rules : D_Rules) (x_counts : (List (Str × Int))) (x_fact : Str) (o : O_year_counts), m_year_counts x_rules x_counts x_fact = some o ∧ ss = [(fz (t_Rules C_Rules) x_rules), (fz (tDic kStr tInt) x_counts), (fz tStr x_fact)] ∧ r = rs_year_counts C_Rules o ∧ L = []
theorem ok_year_counts {C_Rules : Addr} (cl_Rules : Cls K C_Rules) (na_Rules_counters : NoAttr K C_Rules "counters") (C_counted_on : CalG P w K mg base CX0 1 "counted_on" ["counter", "value", "fact"] (spS 3 P_counted_on)) {f0 : Addr} {fd : FuncData} (D : Fun K "year_counts" "year_counts" s_year_counts f0 fd) : FnG P w K mg base CX0 2 f0 fd ["rules", "counts", "fact"] (spS 3 (P_year_counts C_Rules)) := by
  refine Fun.okS D sc_year_counts rfl (by decide) fun X0 s H A outer cdv E ss r L vs hr hlen hP => ?_
  obtain ⟨x_rules, x_counts, x_fact, o_, h, rfl, rfl, rfl⟩ := hP
  obtain ⟨v0, v1, v2, rfl⟩ : ∃ v0 v1 v2, vs = [v0, v1, v2] := by
    match vs, hlen with
    | [v0, v1, v2], _ => exact ⟨v0, v1, v2, rfl⟩
  refine ⟨_, rs_year_counts C_Rules, ls_year_counts C_Rules, o_, [], rfl, rfl, (fun _ h => nomatch h), rfl, ?_⟩
  clear X0
  unfold m_year_counts at h
  show SJ _ _ _ [some (fz (t_Rules C_Rules) x_rules), some (fz (tDic kStr tInt) x_counts), some (fz tStr x_fact), none] _
  obtain ⟨g2, h_g2, h⟩ := bnd h
  obtain ⟨t5, h_t5, h⟩ := bnd h
  (simp only [Option.some.injEq, Prod.mk.injEq] at h; first | subst h | (obtain ⟨_, _⟩ := h; subst_vars))
  exact sj_ret (rs := rs_year_counts C_Rules) (ls := ls_year_counts C_Rules) (y := t5) (ej_fz (lcj_e (dcP (Γy := fun y1 => [some (fz (t_Rules C_Rules) x_rules), some (fz (tDic kStr tInt) x_counts), some (fz tStr x_fact), some (fz (tP3 tStr tInt (tDic kStr (tSum tInt tStr))) y1)]) (own := [("counter", 3)]) (kd := fStr) (fun _ _ _ _ _ y1 => (gj0_name (i := 3) sc_year_counts.nd rfl (by first | exact Or.inl rfl | exact Or.inr rfl) (z_none rfl))) (fun _ _ _ _ _ y1 k z hm h => (by have h := h; obtain ⟨t3, h_t3, h⟩ := bnd h; obtain ⟨t4, h_t4, h⟩ := bnd h;  simp only [Option.some.injEq, Prod.mk.injEq] at h; obtain ⟨rfl, rfl⟩ := h; exact (ej_ix ix_tup (v2_ixT (j := 0) rdt_3 rfl rfl) (ej_var (i := 3) rfl (by first | exact Or.inl rfl | exact Or.inr (Or.inl rfl) | exact Or.inr (Or.inr rfl)) rfl) ej_int (fun _ _ => rfl)))) (fun _ _ _ _ _ y1 k z hm h => (by have h := h; obtain ⟨t3, h_t3, h⟩ := bnd h; obtain ⟨t4, h_t4, h⟩ := bnd h;  simp only [Option.some.injEq, Prod.mk.injEq] at h; obtain ⟨rfl, rfl⟩ := h; exact (ej_callP (ss := [_, _, _]) C_counted_on (hr.mono (by decide)) (by rfl) pass0 (aj_cons (ej_var (i := 3) rfl (by first | exact Or.inl rfl | exact Or.inr (Or.inl rfl) | exact Or.inr (Or.inr rfl)) rfl) (aj_cons (ej_dget (hu_of hr.room) rdd_fz h_t3 (ej_var (i := 1) rfl (by first | exact Or.inl rfl | exact Or.inr (Or.inl rfl) | exact Or.inr (Or.inr rfl)) rfl) (ej_ix ix_tup (v2_ixT (j := 0) rdt_3 rfl rfl) (ej_var (i := 3) rfl (by first | exact Or.inl rfl | exact Or.inr (Or.inl rfl) | exact Or.inr (Or.inr rfl)) rfl) ej_int (fun _ _ => rfl)) (fun _ _ => rfl)) (aj_cons (ej_var (i := 2) rfl (by first | exact Or.inl rfl | exact Or.inr (Or.inl rfl) | exact Or.inr (Or.inr rfl)) rfl) aj_nil))) ⟨y1, t3, x_fact, t4, h_t4, rfl, rfl, rfl⟩))) h_t5 (grd_iff h_g2).1 rfl sc_year_counts.nd (ij_lst (ej_fld (j := 1) (ej_var (i := 0) rfl (by first | exact Or.inl rfl | exact Or.inr (Or.inl rfl) | exact Or.inr (Or.inr rfl)) rfl) cl_Rules na_Rules_counters rfl rfl)) (blkOk_by (own := [("counter", 3)]) (N := n_year_counts) (sc := defScope s_year_counts) (by decide +kernel)) ⟨z_none rfl, trivial⟩)) fz_oD) rfl rfl (show List.Nodup ([] : List Nat) by decide) rfl

abbrev O_passes : Type := Bool
def m_passes (x_test : (Str × Str × Int)) (x_counts : (List (Str × Int))) : Option O_passes := (((if (decide (x_test.2.1 = (">=" : Str))) = true then ((aget x_counts x_test.1).bind fun t2 => some (decide (x_test.2.2 ≤ t2))) else ((aget x_counts x_test.1).bind fun t3 => some (decide (t3 < x_test.2.2))))))
def rs_passes : O_passes → Sh := fun o => (fz tBool o)
def ls_passes : O_passes → List Sh := fun o => []
def P_passes : Phi := fun ss r L => ∃ (x_test : (Str × Str × Int)) (x_counts : (List (Str × Int))) (o : O_passes), m_passes x_test x_counts = some o ∧ ss = [(fz (tP3 tStr tStr tInt) x_test), (fz (tDic kStr tInt) x_counts)] ∧ r = rs_passes o ∧ L = []
theorem ok_passes  {f0 : Addr} {fd : FuncData} (D : Fun K "passes" "passes" s_passes f0 fd) : FnG P w K mg base CX0 1 f0 fd ["test", "counts"] (spS 2 P_passes) := by
  refine Fun.okS D sc_passes rfl (by decide) fun X0 s H A outer cdv E ss r L vs hr hlen hP => ?_
  obtain ⟨x_test, x_counts, o_, h, rfl, rfl, rfl⟩ := hP
  obtain ⟨v0, v1, rfl⟩ : ∃ v0 v1, vs = [v0, v1] := by
    match vs, hlen with
    | [v0, v1], _ => exact ⟨v0, v1, rfl⟩
  refine ⟨_, rs_passes, ls_passes, o_, [], rfl, rfl, (fun _ h => nomatch h), rfl, ?_⟩
  clear X0
  unfold m_passes at h
  show SJ _ _ _ [some (fz (tP3 tStr tStr tInt) x_test), some (fz (tDic kStr tInt) x_counts), none, none, none] _
  refine sj_asg (ej_var (i := 0) rfl (by first | exact Or.inl rfl | exact Or.inr (Or.inl rfl) | exact Or.inr (Or.inr rfl)) rfl) (gj_p3 rfl (gs_cons (gj_name (i := 2) sc_passes.nd rfl (by first | exact Or.inl rfl | exact Or.inr rfl)) (gs_cons (gj_name (i := 3) sc_passes.nd rfl (by first | exact Or.inl rfl | exact Or.inr rfl)) (gs_cons (gj_name (i := 4) sc_passes.nd rfl (by first | exact Or.inl rfl | exact Or.inr rfl)) gs_nil)))) ?_
  show SJ _ _ _ [some (fz (tP3 tStr tStr tInt) x_test), some (fz (tDic kStr tInt) x_counts), some (fz tStr x_test.1), some (fz tStr x_test.2.1), some (fz tInt x_test.2.2)] _
  refine sj_ifT (t := (decide (x_test.2.1 = (">=" : Str)))) (tj_cmp (ej_eq (ej_var (i := 3) rfl (by first | exact Or.inl rfl | exact Or.inr (Or.inl rfl) | exact Or.inr (Or.inr rfl)) rfl) ej_str)) ?_ ?_
  · intro h_b1
    replace h := ifT h_b1 h
    show SJ _ _ _ [some (fz (tP3 tStr tStr tInt) x_test), some (fz (tDic kStr tInt) x_counts), some (fz tStr x_test.1), some (fz tStr x_test.2.1), some (fz tInt x_test.2.2)] _
    obtain ⟨t2, h_t2, h⟩ := bnd h
    (simp only [Option.some.injEq, Prod.mk.injEq] at h; first | subst h | (obtain ⟨_, _⟩ := h; subst_vars))
    exact sj_ret (rs := rs_passes) (ls := ls_passes) (y := (decide (x_test.2.2 ≤ t2))) (ej_ge (ej_dget (hu_of hr.room) rdd_fz h_t2 (ej_var (i := 1) rfl (by first | exact Or.inl rfl | exact Or.inr (Or.inl rfl) | exact Or.inr (Or.inr rfl)) rfl) (ej_var (i := 2) rfl (by first | exact Or.inl rfl | exact Or.inr (Or.inl rfl) | exact Or.inr (Or.inr rfl)) rfl) (fun _ _ => rfl)) (ej_var (i := 4) rfl (by first | exact Or.inl rfl | exact Or.inr (Or.inl rfl) | exact Or.inr (Or.inr rfl)) rfl)) rfl rfl (show List.Nodup ([] : List Nat) by decide) rfl
  intro h_b1
  replace h := ifF h_b1 h
  show SJ _ _ _ [some (fz (tP3 tStr tStr tInt) x_test), some (fz (tDic kStr tInt) x_counts), some (fz tStr x_test.1), some (fz tStr x_test.2.1), some (fz tInt x_test.2.2)] _
  obtain ⟨t3, h_t3, h⟩ := bnd h
  (simp only [Option.some.injEq, Prod.mk.injEq] at h; first | subst h | (obtain ⟨_, _⟩ := h; subst_vars))
  exact sj_ret (rs := rs_passes) (ls := ls_passes) (y := (decide (t3 < x_test.2.2))) (ej_lt (ej_dget (hu_of hr.room) rdd_fz h_t3 (ej_var (i := 1) rfl (by first | exact Or.inl rfl | exact Or.inr (Or.inl rfl) | exact Or.inr (Or.inr rfl)) rfl) (ej_var (i := 2) rfl (by first | exact Or.inl rfl | exact Or.inr (Or.inl rfl) | exact Or.inr (Or.inr rfl)) rfl) (fun _ _ => rfl)) (ej_var (i := 4) rfl (by first | exact Or.inl rfl | exact Or.inr (Or.inl rfl) | exact Or.inr (Or.inr rfl)) rfl)) rfl rfl (show List.Nodup ([] : List Nat) by decide) rfl

abbrev O_holds : Type := Bool
def m_holds (x_condition : (List (Str × Str × Int))) (x_counts : (List (Str × Int))) : Option O_holds := ((grd (Sm (x_condition).length) ()).bind fun g2 => (mapC (fun (y1 : (Str × Str × Int)) => ((m_passes y1 x_counts).bind fun t3 => some (some t3))) x_condition).bind fun t4 => some ((t4).all id))
def rs_holds : O_holds → Sh := fun o => (fz tBool o)
def ls_holds : O_holds → List Sh := fun o => []
def P_holds : Phi := fun ss r L => ∃ (x_condition : (List (Str × Str × Int))) (x_counts : (List (Str × Int))) (o : O_holds), m_holds x_condition x_counts = some o ∧ ss = [(fz (tList (tP3 tStr tStr tInt)) x_condition), (fz (tDic kStr tInt) x_counts)] ∧ r = rs_holds o ∧ L = []
theorem ok_holds (C_passes : CalG P w K mg base CX0 1 "passes" ["test", "counts"] (spS 2 P_passes)) (m_all : mg "all" = none) {f0 : Addr} {fd : FuncData} (D : Fun K "holds" "holds" s_holds f0 fd) : FnG P w K mg base CX0 2 f0 fd ["condition", "counts"] (spS 2 P_holds) := by
  refine Fun.okS D sc_holds rfl (by decide) fun X0 s H A outer cdv E ss r L vs hr hlen hP => ?_
  obtain ⟨x_condition, x_counts, o_, h, rfl, rfl, rfl⟩ := hP
  obtain ⟨v0, v1, rfl⟩ : ∃ v0 v1, vs = [v0, v1] := by
    match vs, hlen with
    | [v0, v1], _ => exact ⟨v0, v1, rfl⟩
  refine ⟨_, rs_holds, ls_holds, o_, [], rfl, rfl, (fun _ h => nomatch h), rfl, ?_⟩
  clear X0
  unfold m_holds at h
  show SJ _ _ _ [some (fz (tList (tP3 tStr tStr tInt)) x_condition), some (fz (tDic kStr tInt) x_counts), none] _
  obtain ⟨g2, h_g2, h⟩ := bnd h
  obtain ⟨t4, h_t4, h⟩ := bnd h
  (simp only [Option.some.injEq, Prod.mk.injEq] at h; first | subst h | (obtain ⟨_, _⟩ := h; subst_vars))
  exact sj_ret (rs := rs_holds) (ls := ls_holds) (y := ((t4).all id)) (ej_b (ss := [_]) (cr_all rfl) (va_all rd_oL) (by rfl) m_all bt_all (aj_cons (lcj_e (lcP (Γy := fun y1 => [some (fz (tList (tP3 tStr tStr tInt)) x_condition), some (fz (tDic kStr tInt) x_counts), some (fz (tP3 tStr tStr tInt) y1)]) (own := [("test", 2)]) (fun _ _ _ _ _ y1 => (gj0_name (i := 2) sc_holds.nd rfl (by first | exact Or.inl rfl | exact Or.inr rfl) (z_none rfl))) (fun _ _ _ _ _ y1 oz hm h => (by have h := h; obtain ⟨t3, h_t3, h⟩ := bnd h;  (simp only [Option.some.injEq, Prod.mk.injEq] at h; first | subst h | (obtain ⟨_, _⟩ := h; subst_vars)); exact ts_nil)) (fun _ _ _ _ _ y1 z hm h => (by have h := h; obtain ⟨t3, h_t3, h⟩ := bnd h;  (simp only [Option.some.injEq, Prod.mk.injEq] at h; first | subst h | (obtain ⟨_, _⟩ := h; subst_vars)); exact (ej_callP (ss := [_, _]) C_passes (hr.mono (by decide)) (by rfl) pass0 (aj_cons (ej_var (i := 2) rfl (by first | exact Or.inl rfl | exact Or.inr (Or.inl rfl) | exact Or.inr (Or.inr rfl)) rfl) (aj_cons (ej_var (i := 1) rfl (by first | exact Or.inl rfl | exact Or.inr (Or.inl rfl) | exact Or.inr (Or.inr rfl)) rfl) aj_nil)) ⟨y1, x_counts, t3, h_t3, rfl, rfl, rfl⟩))) h_t4 (grd_iff h_g2).1 rfl sc_holds.nd (ij_lst (ej_var (i := 0) rfl (by first | exact Or.inl rfl | exact Or.inr (Or.inl rfl) | exact Or.inr (Or.inr rfl)) rfl)) (blkOk_by (own := [("test", 2)]) (N := n_holds) (sc := defScope s_holds) (by decide +kernel)) ⟨z_none rfl, trivial⟩)) aj_nil)) rfl rfl (show List.Nodup ([] : List Nat) by decide) rfl

abbrev O_paid_sum : Type := Int
def m_paid_sum (x_payments : (List (Int × (List (Str × Str × Int))))) (x_counts : (List (Str × Int))) : Option O_paid_sum := ((grd (Sm (x_payments).length) ()).bind fun g2 => (mapC (fun (y1 : (Int × (List (Str × Str × Int)))) => ((m_holds y1.2 x_counts).bind fun t3 => (if t3 = true then (some (some y1.1)) else some none))) x_payments).bind fun t4 => some (t4).sum)
def rs_paid_sum : O_paid_sum → Sh := fun o => (fz tInt o)
def ls_paid_sum : O_paid_sum → List Sh := fun o => []
def P_paid_sum : Phi := fun ss r L => ∃ (x_payments : (List (Int × (List (Str × Str × Int))))) (x_counts : (List (Str × Int))) (o : O_paid_sum), m_paid_sum x_payments x_counts = some o ∧ ss = [(fz (tList (tP2 tInt (tList (tP3 tStr tStr tInt)))) x_payments), (fz (tDic kStr tInt) x_counts)] ∧ r = rs_paid_sum o ∧ L = []
theorem ok_paid_sum (C_holds : CalG P w K mg base CX0 2 "holds" ["condition", "counts"] (spS 2 P_holds)) (m_sum : mg "sum" = none) {f0 : Addr} {fd : FuncData} (D : Fun K "paid_sum" "paid_sum" s_paid_sum f0 fd) : FnG P w K mg base CX0 3 f0 fd ["payments", "counts"] (spS 2 P_paid_sum) := by
  refine Fun.okS D sc_paid_sum rfl (by decide) fun X0 s H A outer cdv E ss r L vs hr hlen hP => ?_
  obtain ⟨x_payments, x_counts, o_, h, rfl, rfl, rfl⟩ := hP
  obtain ⟨v0, v1, rfl⟩ : ∃ v0 v1, vs = [v0, v1] := by
    match vs, hlen with
    | [v0, v1], _ => exact ⟨v0, v1, rfl⟩
  refine ⟨_, rs_paid_sum, ls_paid_sum, o_, [], rfl, rfl, (fun _ h => nomatch h), rfl, ?_⟩
  clear X0
  unfold m_paid_sum at h
  show SJ _ _ _ [some (fz (tList (tP2 tInt (tList (tP3 tStr tStr tInt)))) x_payments), some (fz (tDic kStr tInt) x_counts), none, none] _
  obtain ⟨g2, h_g2, h⟩ := bnd h
  obtain ⟨t4, h_t4, h⟩ := bnd h
  (simp only [Option.some.injEq, Prod.mk.injEq] at h; first | subst h | (obtain ⟨_, _⟩ := h; subst_vars))
  exact sj_ret (rs := rs_paid_sum) (ls := ls_paid_sum) (y := (t4).sum) (ej_b (ss := [_]) (cr_sum rfl) (va_sum rd_oL) (by rfl) m_sum bt_sum (aj_cons (lcj_e (lcP (Γy := fun y1 => [some (fz (tList (tP2 tInt (tList (tP3 tStr tStr tInt)))) x_payments), some (fz (tDic kStr tInt) x_counts), some (fz tInt y1.1), some (fz (tList (tP3 tStr tStr tInt)) y1.2)]) (own := [("amount", 2), ("condition", 3)]) (fun _ _ _ _ _ y1 => (gj0_p2 rfl (gs0_cons (gj0_name (i := 2) sc_paid_sum.nd rfl (by first | exact Or.inl rfl | exact Or.inr rfl) (z_none rfl)) (gs0_cons (gj0_name (i := 3) sc_paid_sum.nd rfl (by first | exact Or.inl rfl | exact Or.inr rfl) (z_none rfl)) gs0_nil)))) (fun _ _ _ _ _ y1 oz hm h => (by have h := h; obtain ⟨t3, h_t3, h⟩ := bnd h;  refine ts_of (tj_val (ej_callP (ss := [_, _]) C_holds (hr.mono (by decide)) (by rfl) pass0 (aj_cons (ej_var (i := 3) rfl (by first | exact Or.inl rfl | exact Or.inr (Or.inl rfl) | exact Or.inr (Or.inr rfl)) rfl) (aj_cons (ej_var (i := 1) rfl (by first | exact Or.inl rfl | exact Or.inr (Or.inl rfl) | exact Or.inr (Or.inr rfl)) rfl) aj_nil)) ⟨y1.2, x_counts, t3, h_t3, rfl, rfl, rfl⟩)) ?_; exact Or.elim (Bool.eq_false_or_eq_true t3) (fun hb_ => by have h := ifT hb_ h;  (simp only [Option.some.injEq, Prod.mk.injEq] at h; first | subst h | (obtain ⟨_, _⟩ := h; subst_vars)); exact hb_) (fun hb_ => by have h := ifF hb_ h; (simp only [Option.some.injEq, Prod.mk.injEq] at h; first | subst h | (obtain ⟨_, _⟩ := h; subst_vars)); exact hb_))) (fun _ _ _ _ _ y1 z hm h => (by have h := h; obtain ⟨t3, h_t3, h⟩ := bnd h;  exact Or.elim (Bool.eq_false_or_eq_true t3) (fun hb_ => by have h := ifT hb_ h;  (simp only [Option.some.injEq, Prod.mk.injEq] at h; first | subst h | (obtain ⟨_, _⟩ := h; subst_vars)); exact (ej_var (i := 2) rfl (by first | exact Or.inl rfl | exact Or.inr (Or.inl rfl) | exact Or.inr (Or.inr rfl)) rfl)) (fun hb_ => by have h := ifF hb_ h; simp at h))) h_t4 (grd_iff h_g2).1 rfl sc_paid_sum.nd (ij_lst (ej_var (i := 0) rfl (by first | exact Or.inl rfl | exact Or.inr (Or.inl rfl) | exact Or.inr (Or.inr rfl)) rfl)) (blkOk_by (own := [("amount", 2), ("condition", 3)]) (N := n_paid_sum) (sc := defScope s_paid_sum) (by decide +kernel)) ⟨z_none rfl, z_none rfl, trivial⟩)) aj_nil)) rfl rfl (show List.Nodup ([] : List Nat) by decide) rfl

abbrev O_year_gain : Type := Int
def m_year_gain (x_rules : D_Rules) (x_counts : (List (Str × Int))) (x_fact : Str) : Option O_year_gain := ((grd (Sm (x_rules.gains).length) ()).bind fun g2 => (mapC (fun (y1 : (Int × Str × (List (Str × Str × Int)))) => ((if (decide (y1.2.1 = x_fact)) = true then (some (some (y1.1, y1.2.2))) else some none))) x_rules.gains).bind fun t3 => (m_paid_sum t3 x_counts).bind fun t4 => some t4)
def rs_year_gain (C_Rules : Addr) : O_year_gain → Sh := fun o => (fz tInt o)
def ls_year_gain (C_Rules : Addr) : O_year_gain → List Sh := fun o => []
def P_year_gain (C_Rules : Addr) : Phi := fun ss r L => ∃ (x_rules : D_Rules) (x_counts : (List (Str × Int))) (x_fact : Str) (o : O_year_gain), m_year_gain x_rules x_counts x_fact = some o ∧ ss = [(fz (t_Rules C_Rules) x_rules), (fz (tDic kStr tInt) x_counts), (fz tStr x_fact)] ∧ r = rs_year_gain C_Rules o ∧ L = []
theorem ok_year_gain {C_Rules : Addr} (cl_Rules : Cls K C_Rules) (na_Rules_gains : NoAttr K C_Rules "gains") (C_paid_sum : CalG P w K mg base CX0 3 "paid_sum" ["payments", "counts"] (spS 2 P_paid_sum)) {f0 : Addr} {fd : FuncData} (D : Fun K "year_gain" "year_gain" s_year_gain f0 fd) : FnG P w K mg base CX0 4 f0 fd ["rules", "counts", "fact"] (spS 3 (P_year_gain C_Rules)) := by
  refine Fun.okS D sc_year_gain rfl (by decide) fun X0 s H A outer cdv E ss r L vs hr hlen hP => ?_
  obtain ⟨x_rules, x_counts, x_fact, o_, h, rfl, rfl, rfl⟩ := hP
  obtain ⟨v0, v1, v2, rfl⟩ : ∃ v0 v1 v2, vs = [v0, v1, v2] := by
    match vs, hlen with
    | [v0, v1, v2], _ => exact ⟨v0, v1, v2, rfl⟩
  refine ⟨_, rs_year_gain C_Rules, ls_year_gain C_Rules, o_, [], rfl, rfl, (fun _ h => nomatch h), rfl, ?_⟩
  clear X0
  unfold m_year_gain at h
  show SJ _ _ _ [some (fz (t_Rules C_Rules) x_rules), some (fz (tDic kStr tInt) x_counts), some (fz tStr x_fact), none, none, none] _
  obtain ⟨g2, h_g2, h⟩ := bnd h
  obtain ⟨t3, h_t3, h⟩ := bnd h
  obtain ⟨t4, h_t4, h⟩ := bnd h
  (simp only [Option.some.injEq, Prod.mk.injEq] at h; first | subst h | (obtain ⟨_, _⟩ := h; subst_vars))
  exact sj_ret (rs := rs_year_gain C_Rules) (ls := ls_year_gain C_Rules) (y := t4) (ej_callP (ss := [_, _]) C_paid_sum (hr.mono (by decide)) (by rfl) pass0 (aj_cons (ej_fz (lcj_e (lcP (Γy := fun y1 => [some (fz (t_Rules C_Rules) x_rules), some (fz (tDic kStr tInt) x_counts), some (fz tStr x_fact), some (fz tInt y1.1), some (fz tStr y1.2.1), some (fz (tList (tP3 tStr tStr tInt)) y1.2.2)]) (own := [("amount", 3), ("wanted", 4), ("condition", 5)]) (fun _ _ _ _ _ y1 => (gj0_p3 rfl (gs0_cons (gj0_name (i := 3) sc_year_gain.nd rfl (by first | exact Or.inl rfl | exact Or.inr rfl) (z_none rfl)) (gs0_cons (gj0_name (i := 4) sc_year_gain.nd rfl (by first | exact Or.inl rfl | exact Or.inr rfl) (z_none rfl)) (gs0_cons (gj0_name (i := 5) sc_year_gain.nd rfl (by first | exact Or.inl rfl | exact Or.inr rfl) (z_none rfl)) gs0_nil))))) (fun _ _ _ _ _ y1 oz hm h => (by have h := h;  refine ts_of (tj_cmp (ej_eq (ej_var (i := 4) rfl (by first | exact Or.inl rfl | exact Or.inr (Or.inl rfl) | exact Or.inr (Or.inr rfl)) rfl) (ej_var (i := 2) rfl (by first | exact Or.inl rfl | exact Or.inr (Or.inl rfl) | exact Or.inr (Or.inr rfl)) rfl))) ?_; exact Or.elim (Bool.eq_false_or_eq_true (decide (y1.2.1 = x_fact))) (fun hb_ => by have h := ifT hb_ h;  (simp only [Option.some.injEq, Prod.mk.injEq] at h; first | subst h | (obtain ⟨_, _⟩ := h; subst_vars)); exact hb_) (fun hb_ => by have h := ifF hb_ h; (simp only [Option.some.injEq, Prod.mk.injEq] at h; first | subst h | (obtain ⟨_, _⟩ := h; subst_vars)); exact hb_))) (fun _ _ _ _ _ y1 z hm h => (by have h := h;  exact Or.elim (Bool.eq_false_or_eq_true (decide (y1.2.1 = x_fact))) (fun hb_ => by have h := ifT hb_ h;  (simp only [Option.some.injEq, Prod.mk.injEq] at h; first | subst h | (obtain ⟨_, _⟩ := h; subst_vars)); exact (ej_tup2 (aj_cons (ej_var (i := 3) rfl (by first | exact Or.inl rfl | exact Or.inr (Or.inl rfl) | exact Or.inr (Or.inr rfl)) rfl) (aj_cons (ej_var (i := 5) rfl (by first | exact Or.inl rfl | exact Or.inr (Or.inl rfl) | exact Or.inr (Or.inr rfl)) rfl) aj_nil)))) (fun hb_ => by have h := ifF hb_ h; simp at h))) h_t3 (grd_iff h_g2).1 rfl sc_year_gain.nd (ij_lst (ej_fld (j := 2) (ej_var (i := 0) rfl (by first | exact Or.inl rfl | exact Or.inr (Or.inl rfl) | exact Or.inr (Or.inr rfl)) rfl) cl_Rules na_Rules_gains rfl rfl)) (blkOk_by (own := [("amount", 3), ("wanted", 4), ("condition", 5)]) (N := n_year_gain) (sc := defScope s_year_gain) (by decide +kernel)) ⟨z_none rfl, z_none rfl, z_none rfl, trivial⟩)) fz_oL) (aj_cons (ej_var (i := 1) rfl (by first | exact Or.inl rfl | exact Or.inr (Or.inl rfl) | exact Or.inr (Or.inr rfl)) rfl) aj_nil)) ⟨t3, x_counts, t4, h_t4, rfl, rfl, rfl⟩) rfl rfl (show List.Nodup ([] : List Nat) by decide) rfl

abbrev O_leave_gain : Type := Int
def m_leave_gain (x_rules : D_Rules) (x_counts : (List (Str × Int))) : Option O_leave_gain := ((m_paid_sum x_rules.leaves x_counts).bind fun t1 => some t1)
def rs_leave_gain (C_Rules : Addr) : O_leave_gain → Sh := fun o => (fz tInt o)
def ls_leave_gain (C_Rules : Addr) : O_leave_gain → List Sh := fun o => []
def P_leave_gain (C_Rules : Addr) : Phi := fun ss r L => ∃ (x_rules : D_Rules) (x_counts : (List (Str × Int))) (o : O_leave_gain), m_leave_gain x_rules x_counts = some o ∧ ss = [(fz (t_Rules C_Rules) x_rules), (fz (tDic kStr tInt) x_counts)] ∧ r = rs_leave_gain C_Rules o ∧ L = []
theorem ok_leave_gain {C_Rules : Addr} (cl_Rules : Cls K C_Rules) (na_Rules_leaves : NoAttr K C_Rules "leaves") (C_paid_sum : CalG P w K mg base CX0 3 "paid_sum" ["payments", "counts"] (spS 2 P_paid_sum)) {f0 : Addr} {fd : FuncData} (D : Fun K "leave_gain" "leave_gain" s_leave_gain f0 fd) : FnG P w K mg base CX0 4 f0 fd ["rules", "counts"] (spS 2 (P_leave_gain C_Rules)) := by
  refine Fun.okS D sc_leave_gain rfl (by decide) fun X0 s H A outer cdv E ss r L vs hr hlen hP => ?_
  obtain ⟨x_rules, x_counts, o_, h, rfl, rfl, rfl⟩ := hP
  obtain ⟨v0, v1, rfl⟩ : ∃ v0 v1, vs = [v0, v1] := by
    match vs, hlen with
    | [v0, v1], _ => exact ⟨v0, v1, rfl⟩
  refine ⟨_, rs_leave_gain C_Rules, ls_leave_gain C_Rules, o_, [], rfl, rfl, (fun _ h => nomatch h), rfl, ?_⟩
  clear X0
  unfold m_leave_gain at h
  show SJ _ _ _ [some (fz (t_Rules C_Rules) x_rules), some (fz (tDic kStr tInt) x_counts)] _
  obtain ⟨t1, h_t1, h⟩ := bnd h
  (simp only [Option.some.injEq, Prod.mk.injEq] at h; first | subst h | (obtain ⟨_, _⟩ := h; subst_vars))
  exact sj_ret (rs := rs_leave_gain C_Rules) (ls := ls_leave_gain C_Rules) (y := t1) (ej_callP (ss := [_, _]) C_paid_sum (hr.mono (by decide)) (by rfl) pass0 (aj_cons (ej_fld (j := 3) (ej_var (i := 0) rfl (by first | exact Or.inl rfl | exact Or.inr (Or.inl rfl) | exact Or.inr (Or.inr rfl)) rfl) cl_Rules na_Rules_leaves rfl rfl) (aj_cons (ej_var (i := 1) rfl (by first | exact Or.inl rfl | exact Or.inr (Or.inl rfl) | exact Or.inr (Or.inr rfl)) rfl) aj_nil)) ⟨x_rules.leaves, x_counts, t1, h_t1, rfl, rfl, rfl⟩) rfl rfl (show List.Nodup ([] : List Nat) by decide) rfl

abbrev O_add_states : Type := Unit × D_Machine × (List (List Int)) × (List ((List Int) × Int))
noncomputable def m_add_states (x_rules : D_Rules) (x_machine : D_Machine) (x_met : (List (List Int))) (x_places : (List ((List Int) × Int))) : Option O_add_states := ((whileX (ρ := O_add_states) (S := D_Machine × (List (List Int)) × (List ((List Int) × Int))) (fun (s1 : D_Machine × (List (List Int)) × (List ((List Int) × Int))) => ((m_Machine_manyR (D_Machine.mk s1.1.facts s1.1.step s1.1.gain s1.1.leave)).bind fun t2 => some ((decide (t2 < ((s1.2.1).length : Int))), s1))) (fun (s1 : D_Machine × (List (List Int)) × (List ((List Int) × Int))) => ((m_Machine_manyR (D_Machine.mk s1.1.facts s1.1.step s1.1.gain s1.1.leave)).bind fun t3 => (atI s1.2.1 t3).bind fun t4 => (m_counts_of x_rules t4).bind fun t5 => (((foldO (S := (List (List Int)) × (List ((List Int) × Int)) × (List (Str × Int))) (fun (s6 : (List (List Int)) × (List ((List Int) × Int)) × (List (Str × Int))) (y7 : Str) => ((m_year_counts x_rules t5 y7).bind fun t8 => (m_row_of x_rules t8).bind fun t9 => (m_place_of t9 s6.1 s6.2.1).bind fun t10 => (grd (Sm (s6.2.2).length) ()).bind fun g11 => some (t10.2.1, t10.2.2, (aput s6.2.2 y7 t10.1)))) (s1.2.1, s1.2.2, ([] : (List (Str × Int)))) x_rules.facts).bind fun j12 => ((grd (Sm (s1.1.step).length) ()).bind fun g14 => ((grd (Sm (x_rules.facts).length) ()).bind fun g16 => (dicC (fun (y15 : Str) => ((m_year_gain x_rules t5 y15).bind fun t17 => some (y15, t17))) [] x_rules.facts).bind fun t18 => (grd (Sm (s1.1.gain).length) ()).bind fun g19 => ((m_leave_gain x_rules t5).bind fun t20 => (grd (Sm (s1.1.leave).length) ()).bind fun g21 => some (Oc.nx ((D_Machine.mk s1.1.facts (s1.1.step ++ [j12.2.2]) (s1.1.gain ++ [t18]) (s1.1.leave ++ [t20])), j12.1, j12.2.1))))))))) ((D_Machine.mk x_machine.facts x_machine.step x_machine.gain x_machine.leave), x_met, x_places)).bind fun j22 => match j22 with | .ret r24 => some r24 | .nx s23 => some ((), (D_Machine.mk s23.1.facts s23.1.step s23.1.gain s23.1.leave), s23.2.1, s23.2.2))
def rs_add_states (C_Machine : Addr) (C_Rules : Addr) : O_add_states → Sh := fun o => (fz tNon o.1)
def ls_add_states (C_Machine : Addr) (C_Rules : Addr) : O_add_states → List Sh := fun o => [(oIns C_Machine ["facts", "step", "gain", "leave"] [(fz (tList tStr) o.2.1.facts), (oL (tDic kStr tInt) o.2.1.step), (oL (tDic kStr tInt) o.2.1.gain), (oL tInt o.2.1.leave)]), (oL (tTup tInt) o.2.2.1), (oD (kTu fInt) tInt o.2.2.2)]
def P_add_states (C_Machine : Addr) (C_Rules : Addr) : Phi := fun ss r L => ∃ (x_rules : D_Rules) (x_machine : D_Machine) (x_met : (List (List Int))) (x_places : (List ((List Int) × Int))) (o : O_add_states), m_add_states x_rules x_machine x_met x_places = some o ∧ ss = [(fz (t_Rules C_Rules) x_rules), (oIns C_Machine ["facts", "step", "gain", "leave"] [(fz (tList tStr) x_machine.facts), (oL (tDic kStr tInt) x_machine.step), (oL (tDic kStr tInt) x_machine.gain), (oL tInt x_machine.leave)]), (oL (tTup tInt) x_met), (oD (kTu fInt) tInt x_places)] ∧ r = rs_add_states C_Machine C_Rules o ∧ L = [(1, (oIns C_Machine ["facts", "step", "gain", "leave"] [(fz (tList tStr) o.2.1.facts), (oL (tDic kStr tInt) o.2.1.step), (oL (tDic kStr tInt) o.2.1.gain), (oL tInt o.2.1.leave)])), (2, (oL (tTup tInt) o.2.2.1)), (3, (oD (kTu fInt) tInt o.2.2.2))]
theorem ok_add_states {C_Machine : Addr} {C_Rules : Addr} (cl_Machine : Cls K C_Machine) (N_Machine_manyR : Met P w K mg base 1 C_Machine "many" ["self"] (spR 1 (P_Machine_manyR C_Machine))) (m_len : mg "len" = none) (C_counts_of : CalG P w K mg base CX0 2 "counts_of" ["rules", "row"] (spS 2 (P_counts_of C_Rules))) (cl_Rules : Cls K C_Rules) (na_Rules_facts : NoAttr K C_Rules "facts") (C_year_counts : CalG P w K mg base CX0 2 "year_counts" ["rules", "counts", "fact"] (spS 3 (P_year_counts C_Rules))) (C_row_of : CalG P w K mg base CX0 2 "row_of" ["rules", "counts"] (spS 2 (P_row_of C_Rules))) (C_place_of : CalG P w K mg base CX0 1 "place_of" ["key", "met", "places"] (spS 3 P_place_of)) (na_Machine_step : NoAttr K C_Machine "step") (na_Machine_gain : NoAttr K C_Machine "gain") (C_year_gain : CalG P w K mg base CX0 4 "year_gain" ["rules", "counts", "fact"] (spS 3 (P_year_gain C_Rules))) (na_Machine_leave : NoAttr K C_Machine "leave") (C_leave_gain : CalG P w K mg base CX0 4 "leave_gain" ["rules", "counts"] (spS 2 (P_leave_gain C_Rules))) {f0 : Addr} {fd : FuncData} (D : Fun K "add_states" "add_states" s_add_states f0 fd) : FnG P w K mg base CX0 5 f0 fd ["rules", "machine", "met", "places"] (spS 4 (P_add_states C_Machine C_Rules)) := by
  refine Fun.okS D sc_add_states rfl (by decide) fun X0 s H A outer cdv E ss r L vs hr hlen hP => ?_
  obtain ⟨x_rules, x_machine, x_met, x_places, o_, h, rfl, rfl, rfl⟩ := hP
  obtain ⟨v0, v1, v2, v3, rfl⟩ : ∃ v0 v1 v2 v3, vs = [v0, v1, v2, v3] := by
    match vs, hlen with
    | [v0, v1, v2, v3], _ => exact ⟨v0, v1, v2, v3, rfl⟩
  refine ⟨_, rs_add_states C_Machine C_Rules, ls_add_states C_Machine C_Rules, o_, [(1, v1), (2, v2), (3, v3)], rfl, rfl, by intro p hp; simp only [List.mem_cons, List.not_mem_nil, or_false] at hp; rcases hp with rfl | rfl | rfl <;> rfl, rfl, ?_⟩
  clear X0
  unfold m_add_states at h
  show SJ _ _ _ [some (fz (t_Rules C_Rules) x_rules), some (oIns C_Machine ["facts", "step", "gain", "leave"] [(fz (tList tStr) x_machine.facts), (oL (tDic kStr tInt) x_machine.step), (oL (tDic kStr tInt) x_machine.gain), (oL tInt x_machine.leave)]), some (oL (tTup tInt) x_met), some (oD (kTu fInt) tInt x_places), none, none, none] _
  obtain ⟨j22, h_j22, h⟩ := bnd h
  refine sj_whileX (o := j22) (Γs := fun (s1 : D_Machine × (List (List Int)) × (List ((List Int) × Int))) => [some (fz (t_Rules C_Rules) x_rules), some (oIns C_Machine ["facts", "step", "gain", "leave"] [(fz (tList tStr) s1.1.facts), (oL (tDic kStr tInt) s1.1.step), (oL (tDic kStr tInt) s1.1.gain), (oL tInt s1.1.leave)]), some (oL (tTup tInt) s1.2.1), some (oD (kTu fInt) tInt s1.2.2), none, none, none]) (mt := fun _ s25 => some [some (fz (t_Rules C_Rules) x_rules), some (oIns C_Machine ["facts", "step", "gain", "leave"] [(fz (tList tStr) s25.1.facts), (oL (tDic kStr tInt) s25.1.step), (oL (tDic kStr tInt) s25.1.gain), (oL tInt s25.1.leave)]), some (oL (tTup tInt) s25.2.1), some (oD (kTu fInt) tInt s25.2.2), none, none, none]) (fl := [true, true, true, true, true, true, true]) (rs := rs_add_states C_Machine C_Rules) (ls := ls_add_states C_Machine C_Rules) h_j22 rfl rfl ?_ (fun _ _ => rfl) ?_ ?_ ?_ PassesOwn.never
  · intro s1 t_ s25 h
    obtain ⟨t2, h_t2, h⟩ := bnd h
    cases h
    exact tj_keep (tj_cmp (ej_lt (ej_mrP0 N_Machine_manyR (fj_var (i := 1) rfl (by first | exact Or.inl rfl | exact Or.inr (Or.inl rfl) | exact Or.inr (Or.inr rfl)) rfl) cl_Machine (hr.mono (by decide)) pass0 (by decide) ⟨(D_Machine.mk s1.1.facts s1.1.step s1.1.gain s1.1.leave), t2, h_t2, rfl, rfl⟩) (ej_bP Dl.cl_len (va_len rd_oL) (by rfl) m_len bt_len (pj_var (i := 2) rfl (by first | exact Or.inl rfl | exact Or.inr (Or.inl rfl) | exact Or.inr (Or.inr rfl)) rfl))))
  · intro s1 o_ h
    show SJ _ _ _ [some (fz (t_Rules C_Rules) x_rules), some (oIns C_Machine ["facts", "step", "gain", "leave"] [(fz (tList tStr) s1.1.facts), (oL (tDic kStr tInt) s1.1.step), (oL (tDic kStr tInt) s1.1.gain), (oL tInt s1.1.leave)]), some (oL (tTup tInt) s1.2.1), some (oD (kTu fInt) tInt s1.2.2), none, none, none] _
    obtain ⟨t3, h_t3, h⟩ := bnd h
    obtain ⟨t4, h_t4, h⟩ := bnd h
    obtain ⟨t5, h_t5, h⟩ := bnd h
    refine sj_set (i := 4) (s := (fz (tDic kStr tInt) t5)) sc_add_states.nd rfl (by first | exact Or.inl rfl | exact Or.inr rfl) (ej_callP (ss := [_, _]) C_counts_of (hr.mono (by decide)) (by rfl) pass0 (aj_cons (ej_var (i := 0) rfl (by first | exact Or.inl rfl | exact Or.inr (Or.inl rfl) | exact Or.inr (Or.inr rfl)) rfl) (aj_cons (ej_ixP ix_list (v2_ixL rd_oL h_t4) (pj_var (i := 2) rfl (by first | exact Or.inl rfl | exact Or.inr (Or.inl rfl) | exact Or.inr (Or.inr rfl)) rfl) (ej_mrP0 N_Machine_manyR (fj_var (i := 1) rfl (by first | exact Or.inl rfl | exact Or.inr (Or.inl rfl) | exact Or.inr (Or.inr rfl)) rfl) cl_Machine (hr.mono (by decide)) pass0 (by decide) ⟨(D_Machine.mk s1.1.facts s1.1.step s1.1.gain s1.1.leave), t3, h_t3, rfl, rfl⟩) (fun _ _ => rfl)) aj_nil)) ⟨x_rules, t4, t5, h_t5, rfl, rfl, rfl⟩) ?_
    show SJ _ _ _ [some (fz (t_Rules C_Rules) x_rules), some (oIns C_Machine ["facts", "step", "gain", "leave"] [(fz (tList tStr) s1.1.facts), (oL (tDic kStr tInt) s1.1.step), (oL (tDic kStr tInt) s1.1.gain), (oL tInt s1.1.leave)]), some (oL (tTup tInt) s1.2.1), some (oD (kTu fInt) tInt s1.2.2), some (fz (tDic kStr tInt) t5), none, none] _
    refine sj_set (i := 5) (s := (oD kStr tInt ([] : (List (Str × Int))))) sc_add_states.nd rfl (by first | exact Or.inl rfl | exact Or.inr rfl) (ej_dnew (kd := fStr) (τ := tInt)) ?_
    show SJ _ _ _ [some (fz (t_Rules C_Rules) x_rules), some (oIns C_Machine ["facts", "step", "gain", "leave"] [(fz (tList tStr) s1.1.facts), (oL (tDic kStr tInt) s1.1.step), (oL (tDic kStr tInt) s1.1.gain), (oL tInt s1.1.leave)]), some (oL (tTup tInt) s1.2.1), some (oD (kTu fInt) tInt s1.2.2), some (fz (tDic kStr tInt) t5), some (oD kStr tInt ([] : (List (Str × Int)))), none] _
    obtain ⟨j12, h_j12, h⟩ := bnd h
    refine sj_for (sh := fz tStr) (Γs := fun (s6 : (List (List Int)) × (List ((List Int) × Int)) × (List (Str × Int))) => [some (fz (t_Rules C_Rules) x_rules), some (oIns C_Machine ["facts", "step", "gain", "leave"] [(fz (tList tStr) s1.1.facts), (oL (tDic kStr tInt) s1.1.step), (oL (tDic kStr tInt) s1.1.gain), (oL tInt s1.1.leave)]), some (oL (tTup tInt) s6.1), some (oD (kTu fInt) tInt s6.2.1), some (fz (tDic kStr tInt) t5), some (oD kStr tInt s6.2.2), none]) (Γy := fun (s6 : (List (List Int)) × (List ((List Int) × Int)) × (List (Str × Int))) y7 => [some (fz (t_Rules C_Rules) x_rules), some (oIns C_Machine ["facts", "step", "gain", "leave"] [(fz (tList tStr) s1.1.facts), (oL (tDic kStr tInt) s1.1.step), (oL (tDic kStr tInt) s1.1.gain), (oL tInt s1.1.leave)]), some (oL (tTup tInt) s6.1), some (oD (kTu fInt) tInt s6.2.1), some (fz (tDic kStr tInt) t5), some (oD kStr tInt s6.2.2), some (fz tStr y7)]) (fl := [true, true, true, true, true, true, true]) (rs_add_states C_Machine C_Rules) (ls_add_states C_Machine C_Rules) h_j12 (ij_lst (ej_fld (j := 0) (ej_var (i := 0) rfl (by first | exact Or.inl rfl | exact Or.inr (Or.inl rfl) | exact Or.inr (Or.inr rfl)) rfl) cl_Rules na_Rules_facts rfl rfl)) rfl rfl (fun s6 y7 => (gj_name (i := 6) sc_add_states.nd rfl (by first | exact Or.inl rfl | exact Or.inr rfl))) ?_ ?_ PassesOwn.never rfl
    · intro s6 y7 o_ h_hy13 h
      clear h_j12; have h := h
      show SJ _ _ _ [some (fz (t_Rules C_Rules) x_rules), some (oIns C_Machine ["facts", "step", "gain", "leave"] [(fz (tList tStr) s1.1.facts), (oL (tDic kStr tInt) s1.1.step), (oL (tDic kStr tInt) s1.1.gain), (oL tInt s1.1.leave)]), some (oL (tTup tInt) s6.1), some (oD (kTu fInt) tInt s6.2.1), some (fz (tDic kStr tInt) t5), some (oD kStr tInt s6.2.2), some (fz tStr y7)] _
      obtain ⟨t8, h_t8, h⟩ := bnd h
      obtain ⟨t9, h_t9, h⟩ := bnd h
      obtain ⟨t10, h_t10, h⟩ := bnd h
      obtain ⟨g11, h_g11, h⟩ := bnd h
      refine sj_dput (i := 5) (hu_of hr.room) rfl (by first | exact Or.inl rfl | exact Or.inr (Or.inl rfl) | exact Or.inr (Or.inr rfl)) (ej_call C_place_of (hr.mono (by decide)) (by rfl) pass0 (aj_cons (ej_callP (ss := [_, _]) C_row_of (hr.mono (by decide)) (by rfl) pass0 (aj_cons (ej_var (i := 0) rfl (by first | exact Or.inl rfl | exact Or.inr (Or.inl rfl) | exact Or.inr (Or.inr rfl)) rfl) (aj_cons (ej_callP (ss := [_, _, _]) C_year_counts (hr.mono (by decide)) (by rfl) pass0 (aj_cons (ej_var (i := 0) rfl (by first | exact Or.inl rfl | exact Or.inr (Or.inl rfl) | exact Or.inr (Or.inr rfl)) rfl) (aj_cons (ej_var (i := 4) rfl (by first | exact Or.inl rfl | exact Or.inr (Or.inl rfl) | exact Or.inr (Or.inr rfl)) rfl) (aj_cons (ej_var (i := 6) rfl (by first | exact Or.inl rfl | exact Or.inr (Or.inl rfl) | exact Or.inr (Or.inr rfl)) rfl) aj_nil))) ⟨x_rules, t5, y7, t8, h_t8, rfl, rfl, rfl⟩) aj_nil)) ⟨x_rules, t8, t9, h_t9, rfl, rfl, rfl⟩) (aj_lend (i := 2) rfl (by first | exact Or.inl rfl | exact Or.inr (Or.inl rfl) | exact Or.inr (Or.inr rfl)) rfl (aj_lend (i := 3) rfl (by first | exact Or.inl rfl | exact Or.inr (Or.inl rfl) | exact Or.inr (Or.inr rfl)) rfl aj_nil))) rfl ⟨t9, s6.1, s6.2.1, t10, h_t10, rfl, rfl, rfl⟩) rfl (ej_var (i := 6) rfl (by first | exact Or.inl rfl | exact Or.inr (Or.inl rfl) | exact Or.inr (Or.inr rfl)) rfl) (grd_iff h_g11).1 ?_
      show SJ _ _ _ [some (fz (t_Rules C_Rules) x_rules), some (oIns C_Machine ["facts", "step", "gain", "leave"] [(fz (tList tStr) s1.1.facts), (oL (tDic kStr tInt) s1.1.step), (oL (tDic kStr tInt) s1.1.gain), (oL tInt s1.1.leave)]), some (oL (tTup tInt) t10.2.1), some (oD (kTu fInt) tInt t10.2.2), some (fz (tDic kStr tInt) t5), some (oD kStr tInt (aput s6.2.2 y7 t10.1)), some (fz tStr y7)] _
      (simp only [Option.some.injEq, Prod.mk.injEq] at h; first | subst h | (obtain ⟨_, _⟩ := h; subst_vars))
      exact sj_end (fl := [true, true, true, true, true, true, false]) rfl rfl
    show SJ _ _ _ [some (fz (t_Rules C_Rules) x_rules), some (oIns C_Machine ["facts", "step", "gain", "leave"] [(fz (tList tStr) s1.1.facts), (oL (tDic kStr tInt) s1.1.step), (oL (tDic kStr tInt) s1.1.gain), (oL tInt s1.1.leave)]), some (oL (tTup tInt) j12.1), some (oD (kTu fInt) tInt j12.2.1), some (fz (tDic kStr tInt) t5), some (oD kStr tInt j12.2.2), none] _
    refine sj_fz (i := 5) rfl fz_oD ?_
    show SJ _ _ _ [some (fz (t_Rules C_Rules) x_rules), some (oIns C_Machine ["facts", "step", "gain", "leave"] [(fz (tList tStr) s1.1.facts), (oL (tDic kStr tInt) s1.1.step), (oL (tDic kStr tInt) s1.1.gain), (oL tInt s1.1.leave)]), some (oL (tTup tInt) j12.1), some (oD (kTu fInt) tInt j12.2.1), some (fz (tDic kStr tInt) t5), some (fz (tDic kStr tInt) j12.2.2), none] _
    obtain ⟨g14, h_g14, h⟩ := bnd h
    refine sj_expr (ej_appF (fj_fld (fj_var (i := 1) rfl (by first | exact Or.inl rfl | exact Or.inr (Or.inl rfl) | exact Or.inr (Or.inr rfl)) rfl) cl_Machine na_Machine_step rfl rfl) (aj_cons (ej_var (i := 5) rfl (by first | exact Or.inl rfl | exact Or.inr (Or.inl rfl) | exact Or.inr (Or.inr rfl)) rfl) aj_nil) (grd_iff h_g14).1) ?_
    show SJ _ _ _ [some (fz (t_Rules C_Rules) x_rules), some (oIns C_Machine ["facts", "step", "gain", "leave"] [(fz (tList tStr) s1.1.facts), (oL (tDic kStr tInt) (s1.1.step ++ [j12.2.2])), (oL (tDic kStr tInt) s1.1.gain), (oL tInt s1.1.leave)]), some (oL (tTup tInt) j12.1), some (oD (kTu fInt) tInt j12.2.1), some (fz (tDic kStr tInt) t5), some (fz (tDic kStr tInt) j12.2.2), none] _
    obtain ⟨g16, h_g16, h⟩ := bnd h
    obtain ⟨t18, h_t18, h⟩ := bnd h
    obtain ⟨g19, h_g19, h⟩ := bnd h
    refine sj_expr (ej_appF (fj_fld (fj_var (i := 1) rfl (by first | exact Or.inl rfl | exact Or.inr (Or.inl rfl) | exact Or.inr (Or.inr rfl)) rfl) cl_Machine na_Machine_gain rfl rfl) (aj_cons (ej_fz (lcj_e (dcP (Γy := fun y15 => [some (fz (t_Rules C_Rules) x_rules), some (oIns C_Machine ["facts", "step", "gain", "leave"] [(fz (tList tStr) s1.1.facts), (oL (tDic kStr tInt) (s1.1.step ++ [j12.2.2])), (oL (tDic kStr tInt) s1.1.gain), (oL tInt s1.1.leave)]), some (oL (tTup tInt) j12.1), some (oD (kTu fInt) tInt j12.2.1), some (fz (tDic kStr tInt) t5), some (fz (tDic kStr tInt) j12.2.2), some (fz tStr y15)]) (own := [("fact", 6)]) (kd := fStr) (fun _ _ _ _ _ y15 => (gj0_name (i := 6) sc_add_states.nd rfl (by first | exact Or.inl rfl | exact Or.inr rfl) (z_none rfl))) (fun _ _ _ _ _ y15 k z hm h => (by have h := h; obtain ⟨t17, h_t17, h⟩ := bnd h;  simp only [Option.some.injEq, Prod.mk.injEq] at h; obtain ⟨rfl, rfl⟩ := h; exact (ej_var (i := 6) rfl (by first | exact Or.inl rfl | exact Or.inr (Or.inl rfl) | exact Or.inr (Or.inr rfl)) rfl))) (fun _ _ _ _ _ y15 k z hm h => (by have h := h; obtain ⟨t17, h_t17, h⟩ := bnd h;  simp only [Option.some.injEq, Prod.mk.injEq] at h; obtain ⟨rfl, rfl⟩ := h; exact (ej_callP (ss := [_, _, _]) C_year_gain (hr.mono (by decide)) (by rfl) pass0 (aj_cons (ej_var (i := 0) rfl (by first | exact Or.inl rfl | exact Or.inr (Or.inl rfl) | exact Or.inr (Or.inr rfl)) rfl) (aj_cons (ej_var (i := 4) rfl (by first | exact Or.inl rfl | exact Or.inr (Or.inl rfl) | exact Or.inr (Or.inr rfl)) rfl) (aj_cons (ej_var (i := 6) rfl (by first | exact Or.inl rfl | exact Or.inr (Or.inl rfl) | exact Or.inr (Or.inr rfl)) rfl) aj_nil))) ⟨x_rules, t5, y15, t17, h_t17, rfl, rfl, rfl⟩))) h_t18 (grd_iff h_g16).1 rfl sc_add_states.nd (ij_lst (ej_fld (j := 0) (ej_var (i := 0) rfl (by first | exact Or.inl rfl | exact Or.inr (Or.inl rfl) | exact Or.inr (Or.inr rfl)) rfl) cl_Rules na_Rules_facts rfl rfl)) (blkOk_by (own := [("fact", 6)]) (N := n_add_states) (sc := defScope s_add_states) (by decide +kernel)) ⟨z_none rfl, trivial⟩)) fz_oD) aj_nil) (grd_iff h_g19).1) ?_
    show SJ _ _ _ [some (fz (t_Rules C_Rules) x_rules), some (oIns C_Machine ["facts", "step", "gain", "leave"] [(fz (tList tStr) s1.1.facts), (oL (tDic kStr tInt) (s1.1.step ++ [j12.2.2])), (oL (tDic kStr tInt) (s1.1.gain ++ [t18])), (oL tInt s1.1.leave)]), some (oL (tTup tInt) j12.1), some (oD (kTu fInt) tInt j12.2.1), some (fz (tDic kStr tInt) t5), some (fz (tDic kStr tInt) j12.2.2), none] _
    obtain ⟨t20, h_t20, h⟩ := bnd h
    obtain ⟨g21, h_g21, h⟩ := bnd h
    refine sj_expr (ej_appF (fj_fld (fj_var (i := 1) rfl (by first | exact Or.inl rfl | exact Or.inr (Or.inl rfl) | exact Or.inr (Or.inr rfl)) rfl) cl_Machine na_Machine_leave rfl rfl) (aj_cons (ej_callP (ss := [_, _]) C_leave_gain (hr.mono (by decide)) (by rfl) pass0 (aj_cons (ej_var (i := 0) rfl (by first | exact Or.inl rfl | exact Or.inr (Or.inl rfl) | exact Or.inr (Or.inr rfl)) rfl) (aj_cons (ej_var (i := 4) rfl (by first | exact Or.inl rfl | exact Or.inr (Or.inl rfl) | exact Or.inr (Or.inr rfl)) rfl) aj_nil)) ⟨x_rules, t5, t20, h_t20, rfl, rfl, rfl⟩) aj_nil) (grd_iff h_g21).1) ?_
    show SJ _ _ _ [some (fz (t_Rules C_Rules) x_rules), some (oIns C_Machine ["facts", "step", "gain", "leave"] [(fz (tList tStr) s1.1.facts), (oL (tDic kStr tInt) (s1.1.step ++ [j12.2.2])), (oL (tDic kStr tInt) (s1.1.gain ++ [t18])), (oL tInt (s1.1.leave ++ [t20]))]), some (oL (tTup tInt) j12.1), some (oD (kTu fInt) tInt j12.2.1), some (fz (tDic kStr tInt) t5), some (fz (tDic kStr tInt) j12.2.2), none] _
    (simp only [Option.some.injEq, Prod.mk.injEq] at h; first | subst h | (obtain ⟨_, _⟩ := h; subst_vars))
    exact sj_end (fl := [true, true, true, true, false, false, true]) rfl rfl
  · intro s23 e_; subst e_
    show SJ _ _ _ [some (fz (t_Rules C_Rules) x_rules), some (oIns C_Machine ["facts", "step", "gain", "leave"] [(fz (tList tStr) s23.1.facts), (oL (tDic kStr tInt) s23.1.step), (oL (tDic kStr tInt) s23.1.gain), (oL tInt s23.1.leave)]), some (oL (tTup tInt) s23.2.1), some (oD (kTu fInt) tInt s23.2.2), none, none, none] _
    (simp only [Option.some.injEq, Prod.mk.injEq] at h; first | subst h | (obtain ⟨_, _⟩ := h; subst_vars))
    exact sj_fin (rs := rs_add_states C_Machine C_Rules) (ls := ls_add_states C_Machine C_Rules) (fun _ => ⟨rfl, rfl⟩) rfl (show List.Nodup ([1, 2, 3] : List Nat) by decide)
  · intro r24 e_; subst e_; cases h; exact fun _ _ _ h => h

abbrev O_made : Type := (D_Machine × (List (List (Str × Int))))
noncomputable def m_made (x_rules : D_Rules) (x_more : Unit) : Option O_made := ((m_Machine_init x_rules.facts ([] : List (List (Str × Int))) ([] : List (List (Str × Int))) ([] : List Int)).bind fun t1 => ((((m_first_counts x_rules).bind fun t2 => (foldO (S := D_Machine × (List (List Int)) × (List ((List Int) × Int))) (fun (s3 : D_Machine × (List (List Int)) × (List ((List Int) × Int))) (y4 : (List (Str × Int))) => ((m_row_of x_rules y4).bind fun t5 => (m_place_of t5 s3.2.1 s3.2.2).bind fun t6 => ((m_add_states x_rules (D_Machine.mk s3.1.facts s3.1.step s3.1.gain s3.1.leave) t6.2.1 t6.2.2).bind fun t7 => some ((D_Machine.mk t7.2.1.facts t7.2.1.step t7.2.1.gain t7.2.1.leave), t7.2.2.1, t7.2.2.2)))) ((D_Machine.mk t1.facts t1.step t1.gain t1.leave), ([] : List (List Int)), ([] : (List ((List Int) × Int)))) [t2]).bind fun j8 => ((grd (Sm (j8.2.1).length) ()).bind fun g11 => (mapC (fun (y10 : (List Int)) => ((m_counts_of x_rules y10).bind fun t12 => some (some t12))) j8.2.1).bind fun t13 => some ((D_Machine.mk j8.1.facts j8.1.step j8.1.gain j8.1.leave), t13))))))
def rs_made (C_Machine : Addr) (C_Rules : Addr) (C_df_made : Addr) : O_made → Sh := fun o => (fz (tP2 (t_Machine C_Machine) (tList (tDic kStr tInt))) o)
def ls_made (C_Machine : Addr) (C_Rules : Addr) (C_df_made : Addr) : O_made → List Sh := fun o => []
def P_made (C_Machine : Addr) (C_Rules : Addr) (C_df_made : Addr) : Phi := fun ss r L => ∃ (x_rules : D_Rules) (x_more : Unit) (o : O_made), m_made x_rules x_more = some o ∧ ss = [(fz (t_Rules C_Rules) x_rules), (fz (tDf C_df_made) x_more)] ∧ r = rs_made C_Machine C_Rules C_df_made o ∧ L = []
theorem ok_made {C_Machine : Addr} {C_Rules : Addr} {C_df_made : Addr} (cl_Rules : Cls K C_Rules) (na_Rules_facts : NoAttr K C_Rules "facts") (M_Machine : Mkr P w K mg base 1 C_Machine "Machine" ["self", "facts", "step", "gain", "leave"] (spS 5 (P_Machine_init C_Machine))) (C_first_counts : CalG P w K mg base CX0 2 "first_counts" ["rules"] (spS 1 (P_first_counts C_Rules))) (Ke_df_made : ∀ H : Hp, SqT K H C_df_made []) (C_row_of : CalG P w K mg base CX0 2 "row_of" ["rules", "counts"] (spS 2 (P_row_of C_Rules))) (C_place_of : CalG P w K mg base CX0 1 "place_of" ["key", "met", "places"] (spS 3 P_place_of)) (C_add_states : CalG P w K mg base CX0 5 "add_states" ["rules", "machine", "met", "places"] (spS 4 (P_add_states C_Machine C_Rules))) (C_counts_of : CalG P w K mg base CX0 2 "counts_of" ["rules", "row"] (spS 2 (P_counts_of C_Rules))) {f0 : Addr} {fd : FuncData} (D : FunV K "made" "made" s_made f0 fd) : FnG P w K mg base CX0 6 f0 fd ["rules", "more"] (spS 2 (P_made C_Machine C_Rules C_df_made)) := by
  refine FunV.okS D sc_made rfl (by decide) fun X0 s H A outer cdv E ss r L vs hr hlen hP => ?_
  obtain ⟨x_rules, x_more, o_, h, rfl, rfl, rfl⟩ := hP
  obtain ⟨v0, v1, rfl⟩ : ∃ v0 v1, vs = [v0, v1] := by
    match vs, hlen with
    | [v0, v1], _ => exact ⟨v0, v1, rfl⟩
  refine ⟨_, rs_made C_Machine C_Rules C_df_made, ls_made C_Machine C_Rules C_df_made, o_, [], rfl, rfl, (fun _ h => nomatch h), rfl, ?_⟩
  clear X0
  unfold m_made at h
  show SJ _ _ _ [some (fz (t_Rules C_Rules) x_rules), some (fz (tDf C_df_made) x_more), none, none, none, none, none] _
  obtain ⟨t1, h_t1, h⟩ := bnd h
  refine sj_set (i := 2) (s := (oIns C_Machine ["facts", "step", "gain", "leave"] [(fz (tList tStr) t1.facts), (oL (tDic kStr tInt) t1.step), (oL (tDic kStr tInt) t1.gain), (oL tInt t1.leave)])) sc_made.nd rfl (by first | exact Or.inl rfl | exact Or.inr rfl) (ej_mk (ss := [_, _, _, _]) M_Machine (hr.mono (by decide)) (by rfl) pass0 (aj_cons (ej_fld (j := 0) (ej_var (i := 0) rfl (by first | exact Or.inl rfl | exact Or.inr (Or.inl rfl) | exact Or.inr (Or.inr rfl)) rfl) cl_Rules na_Rules_facts rfl rfl) (aj_cons (ej_fz (ej_lst (ss := []) aj_nil) (fz_lm (τ := (tDic kStr tInt)) (xs := []))) (aj_cons (ej_fz (ej_lst (ss := []) aj_nil) (fz_lm (τ := (tDic kStr tInt)) (xs := []))) (aj_cons (ej_fz (ej_lst (ss := []) aj_nil) (fz_lm (τ := tInt) (xs := []))) aj_nil)))) ⟨x_rules.facts, ([] : List (List (Str × Int))), ([] : List (List (Str × Int))), ([] : List Int), t1, h_t1, rfl, rfl, rfl⟩) ?_
  show SJ _ _ _ [some (fz (t_Rules C_Rules) x_rules), some (fz (tDf C_df_made) x_more), some (oIns C_Machine ["facts", "step", "gain", "leave"] [(fz (tList tStr) t1.facts), (oL (tDic kStr tInt) t1.step), (oL (tDic kStr tInt) t1.gain), (oL tInt t1.leave)]), none, none, none, none] _
  refine sj_set (i := 3) (s := (oL (tTup tInt) ([] : List (List Int)))) sc_made.nd rfl (by first | exact Or.inl rfl | exact Or.inr rfl) (ej_oL (τ := (tTup tInt)) (xs := ([] : List (List Int))) (ej_lst (ss := []) aj_nil)) ?_
  show SJ _ _ _ [some (fz (t_Rules C_Rules) x_rules), some (fz (tDf C_df_made) x_more), some (oIns C_Machine ["facts", "step", "gain", "leave"] [(fz (tList tStr) t1.facts), (oL (tDic kStr tInt) t1.step), (oL (tDic kStr tInt) t1.gain), (oL tInt t1.leave)]), some (oL (tTup tInt) ([] : List (List Int))), none, none, none] _
  refine sj_set (i := 4) (s := (oD (kTu fInt) tInt ([] : (List ((List Int) × Int))))) sc_made.nd rfl (by first | exact Or.inl rfl | exact Or.inr rfl) (show EJ _ _ _ none (oD (kTu fInt) tInt []) from ej_dnewT) ?_
  show SJ _ _ _ [some (fz (t_Rules C_Rules) x_rules), some (fz (tDf C_df_made) x_more), some (oIns C_Machine ["facts", "step", "gain", "leave"] [(fz (tList tStr) t1.facts), (oL (tDic kStr tInt) t1.step), (oL (tDic kStr tInt) t1.gain), (oL tInt t1.leave)]), some (oL (tTup tInt) ([] : List (List Int))), some (oD (kTu fInt) tInt ([] : (List ((List Int) × Int)))), none, none] _
  obtain ⟨t2, h_t2, h⟩ := bnd h
  obtain ⟨j8, h_j8, h⟩ := bnd h
  refine sj_for (sh := fz (tDic kStr tInt)) (Γs := fun (s3 : D_Machine × (List (List Int)) × (List ((List Int) × Int))) => [some (fz (t_Rules C_Rules) x_rules), some (fz (tDf C_df_made) x_more), some (oIns C_Machine ["facts", "step", "gain", "leave"] [(fz (tList tStr) s3.1.facts), (oL (tDic kStr tInt) s3.1.step), (oL (tDic kStr tInt) s3.1.gain), (oL tInt s3.1.leave)]), some (oL (tTup tInt) s3.2.1), some (oD (kTu fInt) tInt s3.2.2), none, none]) (Γy := fun (s3 : D_Machine × (List (List Int)) × (List ((List Int) × Int))) y4 => [some (fz (t_Rules C_Rules) x_rules), some (fz (tDf C_df_made) x_more), some (oIns C_Machine ["facts", "step", "gain", "leave"] [(fz (tList tStr) s3.1.facts), (oL (tDic kStr tInt) s3.1.step), (oL (tDic kStr tInt) s3.1.gain), (oL tInt s3.1.leave)]), some (oL (tTup tInt) s3.2.1), some (oD (kTu fInt) tInt s3.2.2), some (fz (tDic kStr tInt) y4), none]) (fl := [true, true, true, true, true, true, true]) (rs_made C_Machine C_Rules C_df_made) (ls_made C_Machine C_Rules C_df_made) h_j8 (ij_lst (ej_fz (ej_starD Ke_df_made (ej_callP (ss := [_]) C_first_counts (hr.mono (by decide)) (by rfl) pass0 (aj_cons (ej_var (i := 0) rfl (by first | exact Or.inl rfl | exact Or.inr (Or.inl rfl) | exact Or.inr (Or.inr rfl)) rfl) aj_nil) ⟨x_rules, t2, h_t2, rfl, rfl, rfl⟩) (ej_var (i := 1) rfl (by first | exact Or.inl rfl | exact Or.inr (Or.inl rfl) | exact Or.inr (Or.inr rfl)) rfl)) fz_oL)) rfl rfl (fun s3 y4 => (gj_name (i := 5) sc_made.nd rfl (by first | exact Or.inl rfl | exact Or.inr rfl))) ?_ ?_ PassesOwn.never rfl
  · intro s3 y4 o_ h_hy9 h
    clear h_j8; have h := h
    show SJ _ _ _ [some (fz (t_Rules C_Rules) x_rules), some (fz (tDf C_df_made) x_more), some (oIns C_Machine ["facts", "step", "gain", "leave"] [(fz (tList tStr) s3.1.facts), (oL (tDic kStr tInt) s3.1.step), (oL (tDic kStr tInt) s3.1.gain), (oL tInt s3.1.leave)]), some (oL (tTup tInt) s3.2.1), some (oD (kTu fInt) tInt s3.2.2), some (fz (tDic kStr tInt) y4), none] _
    obtain ⟨t5, h_t5, h⟩ := bnd h
    obtain ⟨t6, h_t6, h⟩ := bnd h
    refine sj_expr (ej_call C_place_of (hr.mono (by decide)) (by rfl) pass0 (aj_cons (ej_callP (ss := [_, _]) C_row_of (hr.mono (by decide)) (by rfl) pass0 (aj_cons (ej_var (i := 0) rfl (by first | exact Or.inl rfl | exact Or.inr (Or.inl rfl) | exact Or.inr (Or.inr rfl)) rfl) (aj_cons (ej_var (i := 5) rfl (by first | exact Or.inl rfl | exact Or.inr (Or.inl rfl) | exact Or.inr (Or.inr rfl)) rfl) aj_nil)) ⟨x_rules, y4, t5, h_t5, rfl, rfl, rfl⟩) (aj_lend (i := 3) rfl (by first | exact Or.inl rfl | exact Or.inr (Or.inl rfl) | exact Or.inr (Or.inr rfl)) rfl (aj_lend (i := 4) rfl (by first | exact Or.inl rfl | exact Or.inr (Or.inl rfl) | exact Or.inr (Or.inr rfl)) rfl aj_nil))) rfl ⟨t5, s3.2.1, s3.2.2, t6, h_t6, rfl, rfl, rfl⟩) ?_
    show SJ _ _ _ [some (fz (t_Rules C_Rules) x_rules), some (fz (tDf C_df_made) x_more), some (oIns C_Machine ["facts", "step", "gain", "leave"] [(fz (tList tStr) s3.1.facts), (oL (tDic kStr tInt) s3.1.step), (oL (tDic kStr tInt) s3.1.gain), (oL tInt s3.1.leave)]), some (oL (tTup tInt) t6.2.1), some (oD (kTu fInt) tInt t6.2.2), some (fz (tDic kStr tInt) y4), none] _
    obtain ⟨t7, h_t7, h⟩ := bnd h
    refine sj_expr (ej_call C_add_states (hr.mono (by decide)) (by rfl) pass0 (aj_cons (ej_var (i := 0) rfl (by first | exact Or.inl rfl | exact Or.inr (Or.inl rfl) | exact Or.inr (Or.inr rfl)) rfl) (aj_lend (i := 2) rfl (by first | exact Or.inl rfl | exact Or.inr (Or.inl rfl) | exact Or.inr (Or.inr rfl)) rfl (aj_lend (i := 3) rfl (by first | exact Or.inl rfl | exact Or.inr (Or.inl rfl) | exact Or.inr (Or.inr rfl)) rfl (aj_lend (i := 4) rfl (by first | exact Or.inl rfl | exact Or.inr (Or.inl rfl) | exact Or.inr (Or.inr rfl)) rfl aj_nil)))) rfl ⟨x_rules, (D_Machine.mk s3.1.facts s3.1.step s3.1.gain s3.1.leave), t6.2.1, t6.2.2, t7, h_t7, rfl, rfl, rfl⟩) ?_
    show SJ _ _ _ [some (fz (t_Rules C_Rules) x_rules), some (fz (tDf C_df_made) x_more), some (oIns C_Machine ["facts", "step", "gain", "leave"] [(fz (tList tStr) t7.2.1.facts), (oL (tDic kStr tInt) t7.2.1.step), (oL (tDic kStr tInt) t7.2.1.gain), (oL tInt t7.2.1.leave)]), some (oL (tTup tInt) t7.2.2.1), some (oD (kTu fInt) tInt t7.2.2.2), some (fz (tDic kStr tInt) y4), none] _
    (simp only [Option.some.injEq, Prod.mk.injEq] at h; first | subst h | (obtain ⟨_, _⟩ := h; subst_vars))
    exact sj_end (fl := [true, true, true, true, true, false, true]) rfl rfl
  show SJ _ _ _ [some (fz (t_Rules C_Rules) x_rules), some (fz (tDf C_df_made) x_more), some (oIns C_Machine ["facts", "step", "gain", "leave"] [(fz (tList tStr) j8.1.facts), (oL (tDic kStr tInt) j8.1.step), (oL (tDic kStr tInt) j8.1.gain), (oL tInt j8.1.leave)]), some (oL (tTup tInt) j8.2.1), some (oD (kTu fInt) tInt j8.2.2), none, none] _
  obtain ⟨g11, h_g11, h⟩ := bnd h
  obtain ⟨t13, h_t13, h⟩ := bnd h
  (simp only [Option.some.injEq, Prod.mk.injEq] at h; first | subst h | (obtain ⟨_, _⟩ := h; subst_vars))
  exact sj_ret (rs := rs_made C_Machine C_Rules C_df_made) (ls := ls_made C_Machine C_Rules C_df_made) (y := ((D_Machine.mk j8.1.facts j8.1.step j8.1.gain j8.1.leave), t13)) (ej_tup2 (aj_cons (ej_fz (ej_mov (i := 2) rfl (by first | exact Or.inl rfl | exact Or.inr (Or.inl rfl) | exact Or.inr (Or.inr rfl)) rfl) (fz_ins (sh := sh_Machine) (y := (D_Machine.mk j8.1.facts j8.1.step j8.1.gain j8.1.leave)) ⟨fz_fz, fz_oL, fz_oL, fz_oL, trivial⟩)) (aj_cons (ej_fz (lcj_e (lcP (Γy := fun y10 => [some (fz (t_Rules C_Rules) x_rules), some (fz (tDf C_df_made) x_more), none, none, some (oD (kTu fInt) tInt j8.2.2), none, some (fz (tTup tInt) y10)]) (own := [("row", 6)]) (fun _ _ _ _ _ y10 => (gj0_name (i := 6) sc_made.nd rfl (by first | exact Or.inl rfl | exact Or.inr rfl) (z_none rfl))) (fun _ _ _ _ _ y10 oz hm h => (by have h := h; obtain ⟨t12, h_t12, h⟩ := bnd h;  (simp only [Option.some.injEq, Prod.mk.injEq] at h; first | subst h | (obtain ⟨_, _⟩ := h; subst_vars)); exact ts_nil)) (fun _ _ _ _ _ y10 z hm h => (by have h := h; obtain ⟨t12, h_t12, h⟩ := bnd h;  (simp only [Option.some.injEq, Prod.mk.injEq] at h; first | subst h | (obtain ⟨_, _⟩ := h; subst_vars)); exact (ej_callP (ss := [_, _]) C_counts_of (hr.mono (by decide)) (by rfl) pass0 (aj_cons (ej_var (i := 0) rfl (by first | exact Or.inl rfl | exact Or.inr (Or.inl rfl) | exact Or.inr (Or.inr rfl)) rfl) (aj_cons (ej_var (i := 6) rfl (by first | exact Or.inl rfl | exact Or.inr (Or.inl rfl) | exact Or.inr (Or.inr rfl)) rfl) aj_nil)) ⟨x_rules, y10, t12, h_t12, rfl, rfl, rfl⟩))) h_t13 (grd_iff h_g11).1 rfl sc_made.nd (ij_lst (ej_fz (ej_mov (i := 3) rfl (by first | exact Or.inl rfl | exact Or.inr (Or.inl rfl) | exact Or.inr (Or.inr rfl)) rfl) fz_oL)) (blkOk_by (own := [("row", 6)]) (N := n_made) (sc := defScope s_made) (by decide +kernel)) ⟨z_none rfl, trivial⟩)) fz_oL) aj_nil))) rfl rfl (show List.Nodup ([] : List Nat) by decide) rfl

abbrev O_Rules_init : Type := D_Rules
def m_Rules_init (x_facts : (List Str)) (x_counters : (List (Str × Int × (List (Str × (Int ⊕ Str)))))) (x_gains : (List (Int × Str × (List (Str × Str × Int))))) (x_leaves : (List (Int × (List (Str × Str × Int))))) : Option O_Rules_init := ((((some (D_Rules.mk x_facts x_counters x_gains x_leaves)))))
def rs_Rules_init (C_Rules : Addr) : O_Rules_init → Sh := fun _ => fz tNon ()
def ls_Rules_init (C_Rules : Addr) : O_Rules_init → List Sh := fun o => [(oIns C_Rules ["facts", "counters", "gains", "leaves"] [(fz (tList tStr) o.facts), (fz (tList (tP3 tStr tInt (tDic kStr (tSum tInt tStr)))) o.counters), (fz (tList (tP3 tInt tStr (tList (tP3 tStr tStr tInt)))) o.gains), (fz (tList (tP2 tInt (tList (tP3 tStr tStr tInt)))) o.leaves)])]
def P_Rules_init (C_Rules : Addr) : Phi := fun ss r L => ∃ (x_facts : (List Str)) (x_counters : (List (Str × Int × (List (Str × (Int ⊕ Str)))))) (x_gains : (List (Int × Str × (List (Str × Str × Int))))) (x_leaves : (List (Int × (List (Str × Str × Int))))) (o : O_Rules_init), m_Rules_init x_facts x_counters x_gains x_leaves = some o ∧ ss = [(oIns C_Rules [] []), (fz (tList tStr) x_facts), (fz (tList (tP3 tStr tInt (tDic kStr (tSum tInt tStr)))) x_counters), (fz (tList (tP3 tInt tStr (tList (tP3 tStr tStr tInt)))) x_gains), (fz (tList (tP2 tInt (tList (tP3 tStr tStr tInt)))) x_leaves)] ∧ r = rs_Rules_init C_Rules o ∧ L = [(0, (oIns C_Rules ["facts", "counters", "gains", "leaves"] [(fz (tList tStr) o.facts), (fz (tList (tP3 tStr tInt (tDic kStr (tSum tInt tStr)))) o.counters), (fz (tList (tP3 tInt tStr (tList (tP3 tStr tStr tInt)))) o.gains), (fz (tList (tP2 tInt (tList (tP3 tStr tStr tInt)))) o.leaves)]))]
theorem ok_Rules_init {C_Rules : Addr} (m_list : mg "list" = none) (cl_Rules : Cls K C_Rules) (na_Rules_facts : NoAttr K C_Rules "facts") (na_Rules_counters : NoAttr K C_Rules "counters") (na_Rules_gains : NoAttr K C_Rules "gains") (na_Rules_leaves : NoAttr K C_Rules "leaves") {f0 : Addr} {fd : FuncData} (D : Fun K "__init__" "Rules.__init__" s_Rules_init f0 fd) : FnG P w K mg base CX0 1 f0 fd ["self", "facts", "counters", "gains", "leaves"] (spS 5 (P_Rules_init C_Rules)) := by
  refine Fun.okS D sc_Rules_init rfl (by decide) fun X0 s H A outer cdv E ss r L vs hr hlen hP => ?_
  obtain ⟨x_facts, x_counters, x_gains, x_leaves, o_, h, rfl, rfl, rfl⟩ := hP
  obtain ⟨v0, v1, v2, v3, v4, rfl⟩ : ∃ v0 v1 v2 v3 v4, vs = [v0, v1, v2, v3, v4] := by
    match vs, hlen with
    | [v0, v1, v2, v3, v4], _ => exact ⟨v0, v1, v2, v3, v4, rfl⟩
  refine ⟨_, rs_Rules_init C_Rules, ls_Rules_init C_Rules, o_, [(0, v0)], rfl, rfl, by intro p hp; simp only [List.mem_cons, List.not_mem_nil, or_false] at hp; subst hp; rfl, rfl, ?_⟩
  clear X0
  unfold m_Rules_init at h
  show SJ _ _ _ [some (oIns C_Rules [] []), some (fz (tList tStr) x_facts), some (fz (tList (tP3 tStr tInt (tDic kStr (tSum tInt tStr)))) x_counters), some (fz (tList (tP3 tInt tStr (tList (tP3 tStr tStr tInt)))) x_gains), some (fz (tList (tP2 tInt (tList (tP3 tStr tStr tInt)))) x_leaves)] _
  refine sj_fldnew (i := 0) (s := (fz (tList tStr) x_facts)) rfl (by first | exact Or.inl rfl | exact Or.inr (Or.inl rfl) | exact Or.inr (Or.inr rfl)) (ej_fz (ej_ty (ss := [_]) Dl.cl_list (va_listL rd_fz) (by rfl) m_list bt_list (aj_cons (ej_var (i := 1) rfl (by first | exact Or.inl rfl | exact Or.inr (Or.inl rfl) | exact Or.inr (Or.inr rfl)) rfl) aj_nil)) fz_oL) rfl cl_Rules na_Rules_facts (by decide) (by decide) ?_
  show SJ _ _ _ [some (oIns C_Rules ["facts"] [(fz (tList tStr) x_facts)]), some (fz (tList tStr) x_facts), some (fz (tList (tP3 tStr tInt (tDic kStr (tSum tInt tStr)))) x_counters), some (fz (tList (tP3 tInt tStr (tList (tP3 tStr tStr tInt)))) x_gains), some (fz (tList (tP2 tInt (tList (tP3 tStr tStr tInt)))) x_leaves)] _
  refine sj_fldnew (i := 0) (s := (fz (tList (tP3 tStr tInt (tDic kStr (tSum tInt tStr)))) x_counters)) rfl (by first | exact Or.inl rfl | exact Or.inr (Or.inl rfl) | exact Or.inr (Or.inr rfl)) (ej_fz (ej_ty (ss := [_]) Dl.cl_list (va_listL rd_fz) (by rfl) m_list bt_list (aj_cons (ej_var (i := 2) rfl (by first | exact Or.inl rfl | exact Or.inr (Or.inl rfl) | exact Or.inr (Or.inr rfl)) rfl) aj_nil)) fz_oL) rfl cl_Rules na_Rules_counters (by decide) (by decide) ?_
  show SJ _ _ _ [some (oIns C_Rules ["facts", "counters"] [(fz (tList tStr) x_facts), (fz (tList (tP3 tStr tInt (tDic kStr (tSum tInt tStr)))) x_counters)]), some (fz (tList tStr) x_facts), some (fz (tList (tP3 tStr tInt (tDic kStr (tSum tInt tStr)))) x_counters), some (fz (tList (tP3 tInt tStr (tList (tP3 tStr tStr tInt)))) x_gains), some (fz (tList (tP2 tInt (tList (tP3 tStr tStr tInt)))) x_leaves)] _
  refine sj_fldnew (i := 0) (s := (fz (tList (tP3 tInt tStr (tList (tP3 tStr tStr tInt)))) x_gains)) rfl (by first | exact Or.inl rfl | exact Or.inr (Or.inl rfl) | exact Or.inr (Or.inr rfl)) (ej_fz (ej_ty (ss := [_]) Dl.cl_list (va_listL rd_fz) (by rfl) m_list bt_list (aj_cons (ej_var (i := 3) rfl (by first | exact Or.inl rfl | exact Or.inr (Or.inl rfl) | exact Or.inr (Or.inr rfl)) rfl) aj_nil)) fz_oL) rfl cl_Rules na_Rules_gains (by decide) (by decide) ?_
  show SJ _ _ _ [some (oIns C_Rules ["facts", "counters", "gains"] [(fz (tList tStr) x_facts), (fz (tList (tP3 tStr tInt (tDic kStr (tSum tInt tStr)))) x_counters), (fz (tList (tP3 tInt tStr (tList (tP3 tStr tStr tInt)))) x_gains)]), some (fz (tList tStr) x_facts), some (fz (tList (tP3 tStr tInt (tDic kStr (tSum tInt tStr)))) x_counters), some (fz (tList (tP3 tInt tStr (tList (tP3 tStr tStr tInt)))) x_gains), some (fz (tList (tP2 tInt (tList (tP3 tStr tStr tInt)))) x_leaves)] _
  refine sj_fldnew (i := 0) (s := (fz (tList (tP2 tInt (tList (tP3 tStr tStr tInt)))) x_leaves)) rfl (by first | exact Or.inl rfl | exact Or.inr (Or.inl rfl) | exact Or.inr (Or.inr rfl)) (ej_fz (ej_ty (ss := [_]) Dl.cl_list (va_listL rd_fz) (by rfl) m_list bt_list (aj_cons (ej_var (i := 4) rfl (by first | exact Or.inl rfl | exact Or.inr (Or.inl rfl) | exact Or.inr (Or.inr rfl)) rfl) aj_nil)) fz_oL) rfl cl_Rules na_Rules_leaves (by decide) (by decide) ?_
  show SJ _ _ _ [some (oIns C_Rules ["facts", "counters", "gains", "leaves"] [(fz (tList tStr) x_facts), (fz (tList (tP3 tStr tInt (tDic kStr (tSum tInt tStr)))) x_counters), (fz (tList (tP3 tInt tStr (tList (tP3 tStr tStr tInt)))) x_gains), (fz (tList (tP2 tInt (tList (tP3 tStr tStr tInt)))) x_leaves)]), some (fz (tList tStr) x_facts), some (fz (tList (tP3 tStr tInt (tDic kStr (tSum tInt tStr)))) x_counters), some (fz (tList (tP3 tInt tStr (tList (tP3 tStr tStr tInt)))) x_gains), some (fz (tList (tP2 tInt (tList (tP3 tStr tStr tInt)))) x_leaves)] _
  (simp only [Option.some.injEq, Prod.mk.injEq] at h; first | subst h | (obtain ⟨_, _⟩ := h; subst_vars))
  exact sj_fin (rs := rs_Rules_init C_Rules) (ls := ls_Rules_init C_Rules) (fun _ => ⟨rfl, rfl⟩) rfl (show List.Nodup ([0] : List Nat) by decide)

abbrev O_law_career : Type := (List Str) × ((List Int) × Int)
def m_law_career (x_box : ((List Int) × Int)) (x_facts : (List Str)) (x_most : Int) : Option O_law_career := ((m_law_draw (x_box.1, x_box.2) (x_most + (1 : Int))).bind fun t1 => (grd (-1000000000 ≤ t1.1 ∧ t1.1 ≤ 1000000000) ()).bind fun g2 => (grd (Sm ((range1 t1.1)).length) ()).bind fun g4 => (foldC (fun (s5 : ((List Int) × Int)) (y3 : Int) => ((m_law_draw (s5.1, s5.2) ((x_facts).length : Int)).bind fun t6 => (atI x_facts t6.1).bind fun t7 => some (some t7, ((t6.2.1, t6.2.2))))) ((t1.2.1, t1.2.2)) (range1 t1.1)).bind fun t8 => some (t8.1, (t8.2.1, t8.2.2)))
def rs_law_career : O_law_career → Sh := fun o => (fz (tList tStr) o.1)
def ls_law_career : O_law_career → List Sh := fun o => [(oLst [(fz (tList tInt) o.2.1), (fz tInt o.2.2)])]
def P_law_career : Phi := fun ss r L => ∃ (x_box : ((List Int) × Int)) (x_facts : (List Str)) (x_most : Int) (o : O_law_career), m_law_career x_box x_facts x_most = some o ∧ ss = [(oLst [(fz (tList tInt) x_box.1), (fz tInt x_box.2)]), (fz (tList tStr) x_facts), (fz tInt x_most)] ∧ r = rs_law_career o ∧ L = [(0, (oLst [(fz (tList tInt) o.2.1), (fz tInt o.2.2)]))]
theorem ok_law_career (C_law_draw : CalG P w K mg base CX0 1 "_law_draw" ["box", "many"] (spS 2 P_law_draw)) (m_range : mg "range" = none) (m_len : mg "len" = none) {f0 : Addr} {fd : FuncData} (D : Fun K "_law_career" "_law_career" s_law_career f0 fd) : FnG P w K mg base CX0 2 f0 fd ["box", "facts", "most"] (spS 3 P_law_career) := by
  refine Fun.okS D sc_law_career rfl (by decide) fun X0 s H A outer cdv E ss r L vs hr hlen hP => ?_
  obtain ⟨x_box, x_facts, x_most, o_, h, rfl, rfl, rfl⟩ := hP
  obtain ⟨v0, v1, v2, rfl⟩ : ∃ v0 v1 v2, vs = [v0, v1, v2] := by
    match vs, hlen with
    | [v0, v1, v2], _ => exact ⟨v0, v1, v2, rfl⟩
  refine ⟨_, rs_law_career, ls_law_career, o_, [(0, v0)], rfl, rfl, by intro p hp; simp only [List.mem_cons, List.not_mem_nil, or_false] at hp; subst hp; rfl, rfl, ?_⟩
  clear X0
  unfold m_law_career at h
  show SJ _ _ _ [some (oLst [(fz (tList tInt) x_box.1), (fz tInt x_box.2)]), some (fz (tList tStr) x_facts), some (fz tInt x_most), none] _
  obtain ⟨t1, h_t1, h⟩ := bnd h
  obtain ⟨g2, h_g2, h⟩ := bnd h
  obtain ⟨g4, h_g4, h⟩ := bnd h
  obtain ⟨t8, h_t8, h⟩ := bnd h
  (simp only [Option.some.injEq, Prod.mk.injEq] at h; first | subst h | (obtain ⟨_, _⟩ := h; subst_vars))
  exact sj_ret (rs := rs_law_career) (ls := ls_law_career) (y := (t8.1, (t8.2.1, t8.2.2))) (ej_fz (lcj_e (lcS (Γs := fun (s5 : ((List Int) × Int)) => [some (oLst [(fz (tList tInt) s5.1), (fz tInt s5.2)]), some (fz (tList tStr) x_facts), some (fz tInt x_most), none]) (Γy := fun s5 y3 => [some (oLst [(fz (tList tInt) s5.1), (fz tInt s5.2)]), some (fz (tList tStr) x_facts), some (fz tInt x_most), some (fz tInt y3)]) (me := (fun s5 y3 s9 => some [some (oLst [(fz (tList tInt) s9.1), (fz tInt s9.2)]), some (fz (tList tStr) x_facts), some (fz tInt x_most), some (fz tInt y3)])) (own := [("k", 3)]) (fl0 := [true, true, true, true]) (fl := [true, true, true, false]) (fun _ _ _ _ _ s5 y3 => (gj0_name (i := 3) sc_law_career.nd rfl (by first | exact Or.inl rfl | exact Or.inr rfl) (z_none rfl))) (fun _ _ _ _ _ s5 y3 oz w hm h => (by have h := h; obtain ⟨t6, h_t6, h⟩ := bnd h; obtain ⟨t7, h_t7, h⟩ := bnd h;  (simp only [Option.some.injEq, Prod.mk.injEq] at h; obtain ⟨hq1_, hq2_⟩ := h; subst hq1_; subst hq2_); exact ts_nil)) (fun _ _ _ _ _ s5 y3 z w hm h => (by have h := h; obtain ⟨t6, h_t6, h⟩ := bnd h; obtain ⟨t7, h_t7, h⟩ := bnd h;  (simp only [Option.some.injEq, Prod.mk.injEq] at h; obtain ⟨hq1_, hq2_⟩ := h; subst hq1_; subst hq2_); exact ej_m (ej_ix ix_list (v2_ixL rd_fz h_t7) (ej_var (i := 1) rfl (by first | exact Or.inl rfl | exact Or.inr (Or.inl rfl) | exact Or.inr (Or.inr rfl)) rfl) (ej_call C_law_draw (hr.mono (by decide)) (by rfl) pass0 (aj_lend (i := 0) rfl (by first | exact Or.inl rfl | exact Or.inr (Or.inl rfl) | exact Or.inr (Or.inr rfl)) rfl (aj_cons (ej_b (ss := [_]) Dl.cl_len (va_len rd_fz) (by rfl) m_len bt_len (aj_cons (ej_var (i := 1) rfl (by first | exact Or.inl rfl | exact Or.inr (Or.inl rfl) | exact Or.inr (Or.inr rfl)) rfl) aj_nil)) aj_nil)) rfl ⟨(s5.1, s5.2), ((x_facts).length : Int), t6, h_t6, rfl, rfl, rfl⟩) (fun _ _ => rfl)) rfl)) h_t8 (grd_iff h_g4).1 rfl sc_law_career.nd (ij_rg1 (by rfl) m_range (aj_cons (ej_call C_law_draw (hr.mono (by decide)) (by rfl) pass0 (aj_lend (i := 0) rfl (by first | exact Or.inl rfl | exact Or.inr (Or.inl rfl) | exact Or.inr (Or.inr rfl)) rfl (aj_cons (ej_add (ej_var (i := 2) rfl (by first | exact Or.inl rfl | exact Or.inr (Or.inl rfl) | exact Or.inr (Or.inr rfl)) rfl) ej_int) aj_nil)) rfl ⟨(x_box.1, x_box.2), (x_most + (1 : Int)), t1, h_t1, rfl, rfl, rfl⟩) aj_nil) (grd_iff h_g2).1) (blkOk_by (own := [("k", 3)]) (N := n_law_career) (sc := defScope s_law_career) (by decide +kernel)) rfl rfl (by intro s5 v hv; simp only [List.map_cons, List.map_nil, List.mem_cons, List.not_mem_nil, or_false] at hv; subst hv; exact .inl rfl) (fun _ _ _ => rfl) (fun _ _ _ => rfl) (fun _ _ => rfl) (fun _ _ => rfl) (by intro s5 y3 w h; have h := h; obtain ⟨t6, h_t6, h⟩ := bnd h; obtain ⟨t7, h_t7, h⟩ := bnd h;  cases h))) fz_oL) rfl rfl (show List.Nodup ([0] : List Nat) by decide) rfl

abbrev O_law_holds : Type := Bool
def m_law_holds (x_condition : (List (Str × Str × Int))) (x_counts : (List (Str × Int))) : Option O_law_holds := ((foldX (ρ := O_law_holds) (S := Unit) (fun (s1 : Unit) (y2 : (Str × Str × Int)) => ((aget x_counts y2.1).bind fun t3 => (if (!(decide ((decide (y2.2.2 ≤ t3)) = (decide (y2.2.1 = (">=" : Str)))))) = true then (some (Oc.ret false)) else some (Oc.nx ())))) () x_condition).bind fun j5 => match j5 with | .ret r8 => some r8 | .nx s7 => (some true))
def rs_law_holds : O_law_holds → Sh := fun o => (fz tBool o)
def ls_law_holds : O_law_holds → List Sh := fun o => []
def P_law_holds : Phi := fun ss r L => ∃ (x_condition : (List (Str × Str × Int))) (x_counts : (List (Str × Int))) (o : O_law_holds), m_law_holds x_condition x_counts = some o ∧ ss = [(fz (tList (tP3 tStr tStr tInt)) x_condition), (fz (tDic kStr tInt) x_counts)] ∧ r = rs_law_holds o ∧ L = []
theorem ok_law_holds  {f0 : Addr} {fd : FuncData} (D : Fun K "_law_holds" "_law_holds" s_law_holds f0 fd) : FnG P w K mg base CX0 1 f0 fd ["condition", "counts"] (spS 2 P_law_holds) := by
  refine Fun.okS D sc_law_holds rfl (by decide) fun X0 s H A outer cdv E ss r L vs hr hlen hP => ?_
  obtain ⟨x_condition, x_counts, o_, h, rfl, rfl, rfl⟩ := hP
  obtain ⟨v0, v1, rfl⟩ : ∃ v0 v1, vs = [v0, v1] := by
    match vs, hlen with
    | [v0, v1], _ => exact ⟨v0, v1, rfl⟩
  refine ⟨_, rs_law_holds, ls_law_holds, o_, [], rfl, rfl, (fun _ h => nomatch h), rfl, ?_⟩
  clear X0
  unfold m_law_holds at h
  show SJ _ _ _ [some (fz (tList (tP3 tStr tStr tInt)) x_condition), some (fz (tDic kStr tInt) x_counts), none] _
  obtain ⟨j5, h_j5, h⟩ := bnd h
  refine sj_forX (o := j5) (sh := fz (tP3 tStr tStr tInt)) (Γs := fun (s1 : Unit) => [some (fz (tList (tP3 tStr tStr tInt)) x_condition), some (fz (tDic kStr tInt) x_counts), none]) (Γy := fun (s1 : Unit) y2 => [some (fz (tList (tP3 tStr tStr tInt)) x_condition), some (fz (tDic kStr tInt) x_counts), some (fz (tP3 tStr tStr tInt) y2)]) (fl := [true, true, true]) (rs := rs_law_holds) (ls := ls_law_holds) h_j5 (ij_lst (ej_var (i := 0) rfl (by first | exact Or.inl rfl | exact Or.inr (Or.inl rfl) | exact Or.inr (Or.inr rfl)) rfl)) rfl rfl (fun s1 y2 => (gj_name (i := 2) sc_law_holds.nd rfl (by first | exact Or.inl rfl | exact Or.inr rfl))) ?_ ?_ ?_ PassesOwn.never rfl
  · intro s1 y2 o_ h_hy6 h
    clear h_j5; have h := h
    show SJ _ _ _ [some (fz (tList (tP3 tStr tStr tInt)) x_condition), some (fz (tDic kStr tInt) x_counts), some (fz (tP3 tStr tStr tInt) y2)] _
    obtain ⟨t3, h_t3, h⟩ := bnd h
    refine sj_ifT (t := (!(decide ((decide (y2.2.2 ≤ t3)) = (decide (y2.2.1 = (">=" : Str))))))) (tj_cmp (ej_ne (ej_ge (ej_dget (hu_of hr.room) rdd_fz h_t3 (ej_var (i := 1) rfl (by first | exact Or.inl rfl | exact Or.inr (Or.inl rfl) | exact Or.inr (Or.inr rfl)) rfl) (ej_ix ix_tup (v2_ixT (j := 0) rdt_3 rfl rfl) (ej_var (i := 2) rfl (by first | exact Or.inl rfl | exact Or.inr (Or.inl rfl) | exact Or.inr (Or.inr rfl)) rfl) ej_int (fun _ _ => rfl)) (fun _ _ => rfl)) (ej_ix ix_tup (v2_ixT (j := 2) rdt_3 rfl rfl) (ej_var (i := 2) rfl (by first | exact Or.inl rfl | exact Or.inr (Or.inl rfl) | exact Or.inr (Or.inr rfl)) rfl) ej_int (fun _ _ => rfl))) (ej_eq (ej_ix ix_tup (v2_ixT (j := 1) rdt_3 rfl rfl) (ej_var (i := 2) rfl (by first | exact Or.inl rfl | exact Or.inr (Or.inl rfl) | exact Or.inr (Or.inr rfl)) rfl) ej_int (fun _ _ => rfl)) ej_str))) ?_ ?_
    · intro h_b4
      replace h := ifT h_b4 h
      show SJ _ _ _ [some (fz (tList (tP3 tStr tStr tInt)) x_condition), some (fz (tDic kStr tInt) x_counts), some (fz (tP3 tStr tStr tInt) y2)] _
      (simp only [Option.some.injEq, Prod.mk.injEq] at h; first | subst h | (obtain ⟨_, _⟩ := h; subst_vars))
      exact sj_retO (rs := rs_law_holds) (ls := ls_law_holds) (y := false) ej_bl rfl rfl (show List.Nodup ([] : List Nat) by decide) rfl
    intro h_b4
    replace h := ifF h_b4 h
    show SJ _ _ _ [some (fz (tList (tP3 tStr tStr tInt)) x_condition), some (fz (tDic kStr tInt) x_counts), some (fz (tP3 tStr tStr tInt) y2)] _
    (simp only [Option.some.injEq, Prod.mk.injEq] at h; first | subst h | (obtain ⟨_, _⟩ := h; subst_vars))
    exact sj_end (fl := [true, true, false]) rfl rfl
  · intro s7 e_; subst e_
    show SJ _ _ _ [some (fz (tList (tP3 tStr tStr tInt)) x_condition), some (fz (tDic kStr tInt) x_counts), none] _
    (simp only [Option.some.injEq, Prod.mk.injEq] at h; first | subst h | (obtain ⟨_, _⟩ := h; subst_vars))
    exact sj_ret (rs := rs_law_holds) (ls := ls_law_holds) (y := true) ej_bl rfl rfl (show List.Nodup ([] : List Nat) by decide) rfl
  · intro r8 e_; subst e_; cases h; exact fun _ _ _ h => h

abbrev O_law_gain : Type := Int
def m_law_gain (x_scheme : ((List Str) × (List (Str × Int × (List (Str × (Int ⊕ Str))))) × (List (Int × Str × (List (Str × Str × Int)))) × (List (Int × (List (Str × Str × Int)))))) (x_counts : (List (Str × Int))) (x_fact : Str) : Option O_law_gain := (((foldO (S := Int) (fun (s1 : Int) (y2 : (Int × Str × (List (Str × Str × Int)))) => ((if (decide (y2.2.1 = x_fact)) = true then ((m_law_holds y2.2.2 x_counts).bind fun t3 => some t3) else some false).bind fun t4 => (if t4 = true then ((some (s1 + y2.1)).bind fun found_7 => some (found_7)) else some (s1) : Option (Int)).bind fun j6 => some (j6))) ((0 : Int)) x_scheme.2.2.1).bind fun j8 => (some j8)))
def rs_law_gain : O_law_gain → Sh := fun o => (fz tInt o)
def ls_law_gain : O_law_gain → List Sh := fun o => []
def P_law_gain : Phi := fun ss r L => ∃ (x_scheme : ((List Str) × (List (Str × Int × (List (Str × (Int ⊕ Str))))) × (List (Int × Str × (List (Str × Str × Int)))) × (List (Int × (List (Str × Str × Int)))))) (x_counts : (List (Str × Int))) (x_fact : Str) (o : O_law_gain), m_law_gain x_scheme x_counts x_fact = some o ∧ ss = [(fz (tL4 (tList tStr) (tList (tP3 tStr tInt (tDic kStr (tSum tInt tStr)))) (tList (tP3 tInt tStr (tList (tP3 tStr tStr tInt)))) (tList (tP2 tInt (tList (tP3 tStr tStr tInt))))) x_scheme), (fz (tDic kStr tInt) x_counts), (fz tStr x_fact)] ∧ r = rs_law_gain o ∧ L = []
theorem ok_law_gain (C_law_holds : CalG P w K mg base CX0 1 "_law_holds" ["condition", "counts"] (spS 2 P_law_holds)) {f0 : Addr} {fd : FuncData} (D : Fun K "_law_gain" "_law_gain" s_law_gain f0 fd) : FnG P w K mg base CX0 2 f0 fd ["scheme", "counts", "fact"] (spS 3 P_law_gain) := by
  refine Fun.okS D sc_law_gain rfl (by decide) fun X0 s H A outer cdv E ss r L vs hr hlen hP => ?_
  obtain ⟨x_scheme, x_counts, x_fact, o_, h, rfl, rfl, rfl⟩ := hP
  obtain ⟨v0, v1, v2, rfl⟩ : ∃ v0 v1 v2, vs = [v0, v1, v2] := by
    match vs, hlen with
    | [v0, v1, v2], _ => exact ⟨v0, v1, v2, rfl⟩
  refine ⟨_, rs_law_gain, ls_law_gain, o_, [], rfl, rfl, (fun _ h => nomatch h), rfl, ?_⟩
  clear X0
  unfold m_law_gain at h
  show SJ _ _ _ [some (fz (tL4 (tList tStr) (tList (tP3 tStr tInt (tDic kStr (tSum tInt tStr)))) (tList (tP3 tInt tStr (tList (tP3 tStr tStr tInt)))) (tList (tP2 tInt (tList (tP3 tStr tStr tInt))))) x_scheme), some (fz (tDic kStr tInt) x_counts), some (fz tStr x_fact), none, none, none, none] _
  refine sj_set (i := 3) (s := (fz tInt (0 : Int))) sc_law_gain.nd rfl (by first | exact Or.inl rfl | exact Or.inr rfl) ej_int ?_
  show SJ _ _ _ [some (fz (tL4 (tList tStr) (tList (tP3 tStr tInt (tDic kStr (tSum tInt tStr)))) (tList (tP3 tInt tStr (tList (tP3 tStr tStr tInt)))) (tList (tP2 tInt (tList (tP3 tStr tStr tInt))))) x_scheme), some (fz (tDic kStr tInt) x_counts), some (fz tStr x_fact), some (fz tInt (0 : Int)), none, none, none] _
  obtain ⟨j8, h_j8, h⟩ := bnd h
  refine sj_for (sh := fz (tP3 tInt tStr (tList (tP3 tStr tStr tInt)))) (Γs := fun (s1 : Int) => [some (fz (tL4 (tList tStr) (tList (tP3 tStr tInt (tDic kStr (tSum tInt tStr)))) (tList (tP3 tInt tStr (tList (tP3 tStr tStr tInt)))) (tList (tP2 tInt (tList (tP3 tStr tStr tInt))))) x_scheme), some (fz (tDic kStr tInt) x_counts), some (fz tStr x_fact), some (fz tInt s1), none, none, none]) (Γy := fun (s1 : Int) y2 => [some (fz (tL4 (tList tStr) (tList (tP3 tStr tInt (tDic kStr (tSum tInt tStr)))) (tList (tP3 tInt tStr (tList (tP3 tStr tStr tInt)))) (tList (tP2 tInt (tList (tP3 tStr tStr tInt))))) x_scheme), some (fz (tDic kStr tInt) x_counts), some (fz tStr x_fact), some (fz tInt s1), some (fz tInt y2.1), some (fz tStr y2.2.1), some (fz (tList (tP3 tStr tStr tInt)) y2.2.2)]) (fl := [true, true, true, true, true, true, true]) (rs_law_gain) (ls_law_gain) h_j8 (ij_lst (ej_ix ix_list (v2_ixO (j := 2) rdo_4 rfl rfl) (ej_var (i := 0) rfl (by first | exact Or.inl rfl | exact Or.inr (Or.inl rfl) | exact Or.inr (Or.inr rfl)) rfl) ej_int (fun _ _ => rfl))) rfl rfl (fun s1 y2 => (gj_p3 rfl (gs_cons (gj_name (i := 4) sc_law_gain.nd rfl (by first | exact Or.inl rfl | exact Or.inr rfl)) (gs_cons (gj_name (i := 5) sc_law_gain.nd rfl (by first | exact Or.inl rfl | exact Or.inr rfl)) (gs_cons (gj_name (i := 6) sc_law_gain.nd rfl (by first | exact Or.inl rfl | exact Or.inr rfl)) gs_nil))))) ?_ ?_ PassesOwn.never rfl
  · intro s1 y2 o_ h_hy9 h
    clear h_j8; have h := h
    show SJ _ _ _ [some (fz (tL4 (tList tStr) (tList (tP3 tStr tInt (tDic kStr (tSum tInt tStr)))) (tList (tP3 tInt tStr (tList (tP3 tStr tStr tInt)))) (tList (tP2 tInt (tList (tP3 tStr tStr tInt))))) x_scheme), some (fz (tDic kStr tInt) x_counts), some (fz tStr x_fact), some (fz tInt s1), some (fz tInt y2.1), some (fz tStr y2.2.1), some (fz (tList (tP3 tStr tStr tInt)) y2.2.2)] _
    obtain ⟨t4, h_t4, h⟩ := bnd h
    obtain ⟨j6, h_j6, h⟩ := bnd h
    refine sj_if (t := t4) (Γm := [some (fz (tL4 (tList tStr) (tList (tP3 tStr tInt (tDic kStr (tSum tInt tStr)))) (tList (tP3 tInt tStr (tList (tP3 tStr tStr tInt)))) (tList (tP2 tInt (tList (tP3 tStr tStr tInt))))) x_scheme), some (fz (tDic kStr tInt) x_counts), some (fz tStr x_fact), some (fz tInt j6), some (fz tInt y2.1), some (fz tStr y2.2.1), some (fz (tList (tP3 tStr tStr tInt)) y2.2.2)]) (tj_w (wj_and (tj_cmp (ej_eq (ej_var (i := 5) rfl (by first | exact Or.inl rfl | exact Or.inr (Or.inl rfl) | exact Or.inr (Or.inr rfl)) rfl) (ej_var (i := 2) rfl (by first | exact Or.inl rfl | exact Or.inr (Or.inl rfl) | exact Or.inr (Or.inr rfl)) rfl))) (by intro hb_; have h := ifT hb_ h_t4; obtain ⟨t3, h_t3, h⟩ := bnd h; (simp only [Option.some.injEq, Prod.mk.injEq] at h; first | subst h | (obtain ⟨_, _⟩ := h; subst_vars)); exact (wj_and1 (tj_val (ej_callP (ss := [_, _]) C_law_holds (hr.mono (by decide)) (by rfl) pass0 (aj_cons (ej_var (i := 6) rfl (by first | exact Or.inl rfl | exact Or.inr (Or.inl rfl) | exact Or.inr (Or.inr rfl)) rfl) (aj_cons (ej_var (i := 1) rfl (by first | exact Or.inl rfl | exact Or.inr (Or.inl rfl) | exact Or.inr (Or.inr rfl)) rfl) aj_nil)) ⟨y2.2.2, x_counts, t3, h_t3, rfl, rfl, rfl⟩)))) (fun hb_ => (Option.some.inj (ifF hb_ h_t4)).symm))) ?_ ?_ ?_
    · intro h_b5
      clear h; have h := ifT h_b5 h_j6; clear h_j6
      show SJ _ _ _ [some (fz (tL4 (tList tStr) (tList (tP3 tStr tInt (tDic kStr (tSum tInt tStr)))) (tList (tP3 tInt tStr (tList (tP3 tStr tStr tInt)))) (tList (tP2 tInt (tList (tP3 tStr tStr tInt))))) x_scheme), some (fz (tDic kStr tInt) x_counts), some (fz tStr x_fact), some (fz tInt s1), some (fz tInt y2.1), some (fz tStr y2.2.1), some (fz (tList (tP3 tStr tStr tInt)) y2.2.2)] _
      obtain ⟨found_7, h_found_7, h⟩ := bnd h
      have h_found_7 := Option.some.inj h_found_7
      refine sj_set (i := 3) (s := (fz tInt found_7)) sc_law_gain.nd rfl (by first | exact Or.inl rfl | exact Or.inr rfl) (ej_is h_found_7 (ej_add (ej_var (i := 3) rfl (by first | exact Or.inl rfl | exact Or.inr (Or.inl rfl) | exact Or.inr (Or.inr rfl)) rfl) (ej_var (i := 4) rfl (by first | exact Or.inl rfl | exact Or.inr (Or.inl rfl) | exact Or.inr (Or.inr rfl)) rfl))) ?_
      show SJ _ _ _ [some (fz (tL4 (tList tStr) (tList (tP3 tStr tInt (tDic kStr (tSum tInt tStr)))) (tList (tP3 tInt tStr (tList (tP3 tStr tStr tInt)))) (tList (tP2 tInt (tList (tP3 tStr tStr tInt))))) x_scheme), some (fz (tDic kStr tInt) x_counts), some (fz tStr x_fact), some (fz tInt found_7), some (fz tInt y2.1), some (fz tStr y2.2.1), some (fz (tList (tP3 tStr tStr tInt)) y2.2.2)] _
      (simp only [Option.some.injEq, Prod.mk.injEq] at h; first | subst h | (obtain ⟨_, _⟩ := h; subst_vars))
      exact sj_join (fl := [true, true, true, true, true, true, true]) rfl rfl (fun _ _ _ h => h)
    · intro h_b5
      clear h; have h := ifF h_b5 h_j6; clear h_j6
      show SJ _ _ _ [some (fz (tL4 (tList tStr) (tList (tP3 tStr tInt (tDic kStr (tSum tInt tStr)))) (tList (tP3 tInt tStr (tList (tP3 tStr tStr tInt)))) (tList (tP2 tInt (tList (tP3 tStr tStr tInt))))) x_scheme), some (fz (tDic kStr tInt) x_counts), some (fz tStr x_fact), some (fz tInt s1), some (fz tInt y2.1), some (fz tStr y2.2.1), some (fz (tList (tP3 tStr tStr tInt)) y2.2.2)] _
      (simp only [Option.some.injEq, Prod.mk.injEq] at h; first | subst h | (obtain ⟨_, _⟩ := h; subst_vars))
      exact sj_join (fl := [true, true, true, true, true, true, true]) rfl rfl (fun _ _ _ h => h)
    (simp only [Option.some.injEq, Prod.mk.injEq] at h; first | subst h | (obtain ⟨_, _⟩ := h; subst_vars))
    exact sj_end (fl := [true, true, true, true, false, false, false]) rfl rfl
  show SJ _ _ _ [some (fz (tL4 (tList tStr) (tList (tP3 tStr tInt (tDic kStr (tSum tInt tStr)))) (tList (tP3 tInt tStr (tList (tP3 tStr tStr tInt)))) (tList (tP2 tInt (tList (tP3 tStr tStr tInt))))) x_scheme), some (fz (tDic kStr tInt) x_counts), some (fz tStr x_fact), some (fz tInt j8), none, none, none] _
  (simp only [Option.some.injEq, Prod.mk.injEq] at h; first | subst h | (obtain ⟨_, _⟩ := h; subst_vars))
  exact sj_ret (rs := rs_law_gain) (ls := ls_law_gain) (y := j8) (ej_var (i := 3) rfl (by first | exact Or.inl rfl | exact Or.inr (Or.inl rfl) | exact Or.inr (Or.inr rfl)) rfl) rfl rfl (show List.Nodup ([] : List Nat) by decide) rfl

abbrev O_law_year : Type := (List (Str × Int))
def m_law_year (x_scheme : ((List Str) × (List (Str × Int × (List (Str × (Int ⊕ Str))))) × (List (Int × Str × (List (Str × Str × Int)))) × (List (Int × (List (Str × Str × Int)))))) (x_counts : (List (Str × Int))) (x_fact : Str) : Option O_law_year := (((foldO (S := (List (Str × Int))) (fun (s1 : (List (Str × Int))) (y2 : (Str × Int × (List (Str × (Int ⊕ Str))))) => ((aget x_counts y2.1).bind fun t3 => (grd (Sm (s1).length) ()).bind fun g4 => ((if (ahas y2.2.2 x_fact) = true then ((aget y2.2.2 x_fact).bind fun t5 => some (decide (t5 = Sum.inr ("reset" : Str)))) else some false).bind fun t6 => (if t6 = true then ((grd (Sm ((aput s1 y2.1 t3)).length) ()).bind fun g9 => some ((aput (aput s1 y2.1 t3) y2.1 (0 : Int)))) else ((if (ahas y2.2.2 x_fact) = true then ((aget x_counts y2.1).bind fun t15 => (aget y2.2.2 x_fact).bind fun t16 => (asL t16).bind fun t17 => (grd (Sm ((aput s1 y2.1 t3)).length) ()).bind fun g18 => some ((aput (aput s1 y2.1 t3) y2.1 (min y2.2.1 (t15 + t17))))) else some ((aput s1 y2.1 t3)) : Option ((List (Str × Int)))).bind fun j11 => some (j11)) : Option ((List (Str × Int)))).bind fun j8 => some (j8)))) (([] : (List (Str × Int)))) x_scheme.2.1).bind fun j19 => (some j19)))
def rs_law_year : O_law_year → Sh := fun o => (fz (tDic kStr tInt) o)
def ls_law_year : O_law_year → List Sh := fun o => []
def P_law_year : Phi := fun ss r L => ∃ (x_scheme : ((List Str) × (List (Str × Int × (List (Str × (Int ⊕ Str))))) × (List (Int × Str × (List (Str × Str × Int)))) × (List (Int × (List (Str × Str × Int)))))) (x_counts : (List (Str × Int))) (x_fact : Str) (o : O_law_year), m_law_year x_scheme x_counts x_fact = some o ∧ ss = [(fz (tL4 (tList tStr) (tList (tP3 tStr tInt (tDic kStr (tSum tInt tStr)))) (tList (tP3 tInt tStr (tList (tP3 tStr tStr tInt)))) (tList (tP2 tInt (tList (tP3 tStr tStr tInt))))) x_scheme), (fz (tDic kStr tInt) x_counts), (fz tStr x_fact)] ∧ r = rs_law_year o ∧ L = []
theorem ok_law_year (m_min : mg "min" = none) {f0 : Addr} {fd : FuncData} (D : Fun K "_law_year" "_law_year" s_law_year f0 fd) : FnG P w K mg base CX0 1 f0 fd ["scheme", "counts", "fact"] (spS 3 P_law_year) := by
  refine Fun.okS D sc_law_year rfl (by decide) fun X0 s H A outer cdv E ss r L vs hr hlen hP => ?_
  obtain ⟨x_scheme, x_counts, x_fact, o_, h, rfl, rfl, rfl⟩ := hP
  obtain ⟨v0, v1, v2, rfl⟩ : ∃ v0 v1 v2, vs = [v0, v1, v2] := by
    match vs, hlen with
    | [v0, v1, v2], _ => exact ⟨v0, v1, v2, rfl⟩
  refine ⟨_, rs_law_year, ls_law_year, o_, [], rfl, rfl, (fun _ h => nomatch h), rfl, ?_⟩
  clear X0
  unfold m_law_year at h
  show SJ _ _ _ [some (fz (tL4 (tList tStr) (tList (tP3 tStr tInt (tDic kStr (tSum tInt tStr)))) (tList (tP3 tInt tStr (tList (tP3 tStr tStr tInt)))) (tList (tP2 tInt (tList (tP3 tStr tStr tInt))))) x_scheme), some (fz (tDic kStr tInt) x_counts), some (fz tStr x_fact), none, none, none, none] _
  refine sj_set (i := 3) (s := (oD kStr tInt ([] : (List (Str × Int))))) sc_law_year.nd rfl (by first | exact Or.inl rfl | exact Or.inr rfl) (ej_dnew (kd := fStr) (τ := tInt)) ?_
  show SJ _ _ _ [some (fz (tL4 (tList tStr) (tList (tP3 tStr tInt (tDic kStr (tSum tInt tStr)))) (tList (tP3 tInt tStr (tList (tP3 tStr tStr tInt)))) (tList (tP2 tInt (tList (tP3 tStr tStr tInt))))) x_scheme), some (fz (tDic kStr tInt) x_counts), some (fz tStr x_fact), some (oD kStr tInt ([] : (List (Str × Int)))), none, none, none] _
  obtain ⟨j19, h_j19, h⟩ := bnd h
  refine sj_for (sh := fz (tP3 tStr tInt (tDic kStr (tSum tInt tStr)))) (Γs := fun (s1 : (List (Str × Int))) => [some (fz (tL4 (tList tStr) (tList (tP3 tStr tInt (tDic kStr (tSum tInt tStr)))) (tList (tP3 tInt tStr (tList (tP3 tStr tStr tInt)))) (tList (tP2 tInt (tList (tP3 tStr tStr tInt))))) x_scheme), some (fz (tDic kStr tInt) x_counts), some (fz tStr x_fact), some (oD kStr tInt s1), none, none, none]) (Γy := fun (s1 : (List (Str × Int))) y2 => [some (fz (tL4 (tList tStr) (tList (tP3 tStr tInt (tDic kStr (tSum tInt tStr)))) (tList (tP3 tInt tStr (tList (tP3 tStr tStr tInt)))) (tList (tP2 tInt (tList (tP3 tStr tStr tInt))))) x_scheme), some (fz (tDic kStr tInt) x_counts), some (fz tStr x_fact), some (oD kStr tInt s1), some (fz tStr y2.1), some (fz tInt y2.2.1), some (fz (tDic kStr (tSum tInt tStr)) y2.2.2)]) (fl := [true, true, true, true, true, true, true]) (rs_law_year) (ls_law_year) h_j19 (ij_lst (ej_ix ix_list (v2_ixO (j := 1) rdo_4 rfl rfl) (ej_var (i := 0) rfl (by first | exact Or.inl rfl | exact Or.inr (Or.inl rfl) | exact Or.inr (Or.inr rfl)) rfl) ej_int (fun _ _ => rfl))) rfl rfl (fun s1 y2 => (gj_p3 rfl (gs_cons (gj_name (i := 4) sc_law_year.nd rfl (by first | exact Or.inl rfl | exact Or.inr rfl)) (gs_cons (gj_name (i := 5) sc_law_year.nd rfl (by first | exact Or.inl rfl | exact Or.inr rfl)) (gs_cons (gj_name (i := 6) sc_law_year.nd rfl (by first | exact Or.inl rfl | exact Or.inr rfl)) gs_nil))))) ?_ ?_ PassesOwn.never rfl
  · intro s1 y2 o_ h_hy20 h
    clear h_j19; have h := h
    show SJ _ _ _ [some (fz (tL4 (tList tStr) (tList (tP3 tStr tInt (tDic kStr (tSum tInt tStr)))) (tList (tP3 tInt tStr (tList (tP3 tStr tStr tInt)))) (tList (tP2 tInt (tList (tP3 tStr tStr tInt))))) x_scheme), some (fz (tDic kStr tInt) x_counts), some (fz tStr x_fact), some (oD kStr tInt s1), some (fz tStr y2.1), some (fz tInt y2.2.1), some (fz (tDic kStr (tSum tInt tStr)) y2.2.2)] _
    obtain ⟨t3, h_t3, h⟩ := bnd h
    obtain ⟨g4, h_g4, h⟩ := bnd h
    refine sj_dput (i := 3) (hu_of hr.room) rfl (by first | exact Or.inl rfl | exact Or.inr (Or.inl rfl) | exact Or.inr (Or.inr rfl)) (ej_dget (hu_of hr.room) rdd_fz h_t3 (ej_var (i := 1) rfl (by first | exact Or.inl rfl | exact Or.inr (Or.inl rfl) | exact Or.inr (Or.inr rfl)) rfl) (ej_var (i := 4) rfl (by first | exact Or.inl rfl | exact Or.inr (Or.inl rfl) | exact Or.inr (Or.inr rfl)) rfl) (fun _ _ => rfl)) rfl (ej_var (i := 4) rfl (by first | exact Or.inl rfl | exact Or.inr (Or.inl rfl) | exact Or.inr (Or.inr rfl)) rfl) (grd_iff h_g4).1 ?_
    show SJ _ _ _ [some (fz (tL4 (tList tStr) (tList (tP3 tStr tInt (tDic kStr (tSum tInt tStr)))) (tList (tP3 tInt tStr (tList (tP3 tStr tStr tInt)))) (tList (tP2 tInt (tList (tP3 tStr tStr tInt))))) x_scheme), some (fz (tDic kStr tInt) x_counts), some (fz tStr x_fact), some (oD kStr tInt (aput s1 y2.1 t3)), some (fz tStr y2.1), some (fz tInt y2.2.1), some (fz (tDic kStr (tSum tInt tStr)) y2.2.2)] _
    obtain ⟨t6, h_t6, h⟩ := bnd h
    obtain ⟨j8, h_j8, h⟩ := bnd h
    refine sj_if (t := t6) (Γm := [some (fz (tL4 (tList tStr) (tList (tP3 tStr tInt (tDic kStr (tSum tInt tStr)))) (tList (tP3 tInt tStr (tList (tP3 tStr tStr tInt)))) (tList (tP2 tInt (tList (tP3 tStr tStr tInt))))) x_scheme), some (fz (tDic kStr tInt) x_counts), some (fz tStr x_fact), some (oD kStr tInt j8), some (fz tStr y2.1), some (fz tInt y2.2.1), some (fz (tDic kStr (tSum tInt tStr)) y2.2.2)]) (tj_w (wj_and (tj_cmp (ej_din (hu_of hr.room) (ej_var (i := 2) rfl (by first | exact Or.inl rfl | exact Or.inr (Or.inl rfl) | exact Or.inr (Or.inr rfl)) rfl) (ej_var (i := 6) rfl (by first | exact Or.inl rfl | exact Or.inr (Or.inl rfl) | exact Or.inr (Or.inr rfl)) rfl))) (by intro hb_; have h := ifT hb_ h_t6; obtain ⟨t5, h_t5, h⟩ := bnd h; (simp only [Option.some.injEq, Prod.mk.injEq] at h; first | subst h | (obtain ⟨_, _⟩ := h; subst_vars)); exact (wj_and1 (tj_cmp (ej_eqS (ej_dget (hu_of hr.room) rdd_fz h_t5 (ej_var (i := 6) rfl (by first | exact Or.inl rfl | exact Or.inr (Or.inl rfl) | exact Or.inr (Or.inr rfl)) rfl) (ej_var (i := 2) rfl (by first | exact Or.inl rfl | exact Or.inr (Or.inl rfl) | exact Or.inr (Or.inr rfl)) rfl) (fun _ _ => rfl)) ej_str)))) (fun hb_ => (Option.some.inj (ifF hb_ h_t6)).symm))) ?_ ?_ ?_
    · intro h_b7
      clear h; have h := ifT h_b7 h_j8; clear h_j8
      show SJ _ _ _ [some (fz (tL4 (tList tStr) (tList (tP3 tStr tInt (tDic kStr (tSum tInt tStr)))) (tList (tP3 tInt tStr (tList (tP3 tStr tStr tInt)))) (tList (tP2 tInt (tList (tP3 tStr tStr tInt))))) x_scheme), some (fz (tDic kStr tInt) x_counts), some (fz tStr x_fact), some (oD kStr tInt (aput s1 y2.1 t3)), some (fz tStr y2.1), some (fz tInt y2.2.1), some (fz (tDic kStr (tSum tInt tStr)) y2.2.2)] _
      obtain ⟨g9, h_g9, h⟩ := bnd h
      refine sj_dput (i := 3) (hu_of hr.room) rfl (by first | exact Or.inl rfl | exact Or.inr (Or.inl rfl) | exact Or.inr (Or.inr rfl)) ej_int rfl (ej_var (i := 4) rfl (by first | exact Or.inl rfl | exact Or.inr (Or.inl rfl) | exact Or.inr (Or.inr rfl)) rfl) (grd_iff h_g9).1 ?_
      show SJ _ _ _ [some (fz (tL4 (tList tStr) (tList (tP3 tStr tInt (tDic kStr (tSum tInt tStr)))) (tList (tP3 tInt tStr (tList (tP3 tStr tStr tInt)))) (tList (tP2 tInt (tList (tP3 tStr tStr tInt))))) x_scheme), some (fz (tDic kStr tInt) x_counts), some (fz tStr x_fact), some (oD kStr tInt (aput (aput s1 y2.1 t3) y2.1 (0 : Int))), some (fz tStr y2.1), some (fz tInt y2.2.1), some (fz (tDic kStr (tSum tInt tStr)) y2.2.2)] _
      (simp only [Option.some.injEq, Prod.mk.injEq] at h; first | subst h | (obtain ⟨_, _⟩ := h; subst_vars))
      exact sj_join (fl := [true, true, true, true, true, true, true]) rfl rfl (fun _ _ _ h => h)
    · intro h_b7
      clear h; have h := ifF h_b7 h_j8; clear h_j8
      show SJ _ _ _ [some (fz (tL4 (tList tStr) (tList (tP3 tStr tInt (tDic kStr (tSum tInt tStr)))) (tList (tP3 tInt tStr (tList (tP3 tStr tStr tInt)))) (tList (tP2 tInt (tList (tP3 tStr tStr tInt))))) x_scheme), some (fz (tDic kStr tInt) x_counts), some (fz tStr x_fact), some (oD kStr tInt (aput s1 y2.1 t3)), some (fz tStr y2.1), some (fz tInt y2.2.1), some (fz (tDic kStr (tSum tInt tStr)) y2.2.2)] _
      obtain ⟨j11, h_j11, h⟩ := bnd h
      refine sj_if (t := (ahas y2.2.2 x_fact)) (Γm := [some (fz (tL4 (tList tStr) (tList (tP3 tStr tInt (tDic kStr (tSum tInt tStr)))) (tList (tP3 tInt tStr (tList (tP3 tStr tStr tInt)))) (tList (tP2 tInt (tList (tP3 tStr tStr tInt))))) x_scheme), some (fz (tDic kStr tInt) x_counts), some (fz tStr x_fact), some (oD kStr tInt j11), some (fz tStr y2.1), some (fz tInt y2.2.1), some (fz (tDic kStr (tSum tInt tStr)) y2.2.2)]) (tj_cmp (ej_din (hu_of hr.room) (ej_var (i := 2) rfl (by first | exact Or.inl rfl | exact Or.inr (Or.inl rfl) | exact Or.inr (Or.inr rfl)) rfl) (ej_var (i := 6) rfl (by first | exact Or.inl rfl | exact Or.inr (Or.inl rfl) | exact Or.inr (Or.inr rfl)) rfl))) ?_ ?_ ?_
      · intro h_b10
        clear h; have h := ifT h_b10 h_j11; clear h_j11
        show SJ _ _ _ [some (fz (tL4 (tList tStr) (tList (tP3 tStr tInt (tDic kStr (tSum tInt tStr)))) (tList (tP3 tInt tStr (tList (tP3 tStr tStr tInt)))) (tList (tP2 tInt (tList (tP3 tStr tStr tInt))))) x_scheme), some (fz (tDic kStr tInt) x_counts), some (fz tStr x_fact), some (oD kStr tInt (aput s1 y2.1 t3)), some (fz tStr y2.1), some (fz tInt y2.2.1), some (fz (tDic kStr (tSum tInt tStr)) y2.2.2)] _
        obtain ⟨t15, h_t15, h⟩ := bnd h
        obtain ⟨t16, h_t16, h⟩ := bnd h
        obtain ⟨t17, h_t17, h⟩ := bnd h
        obtain ⟨g18, h_g18, h⟩ := bnd h
        refine sj_dput (i := 3) (hu_of hr.room) rfl (by first | exact Or.inl rfl | exact Or.inr (Or.inl rfl) | exact Or.inr (Or.inr rfl)) (ej_b (ss := [_, _]) (Dl.cl_min2 rfl) va_min (by rfl) m_min bt_min (aj_cons (ej_var (i := 5) rfl (by first | exact Or.inl rfl | exact Or.inr (Or.inl rfl) | exact Or.inr (Or.inr rfl)) rfl) (aj_cons (ej_add (ej_dget (hu_of hr.room) rdd_fz h_t15 (ej_var (i := 1) rfl (by first | exact Or.inl rfl | exact Or.inr (Or.inl rfl) | exact Or.inr (Or.inr rfl)) rfl) (ej_var (i := 4) rfl (by first | exact Or.inl rfl | exact Or.inr (Or.inl rfl) | exact Or.inr (Or.inr rfl)) rfl) (fun _ _ => rfl)) (ej_getl (ej_dget (hu_of hr.room) rdd_fz h_t16 (ej_var (i := 6) rfl (by first | exact Or.inl rfl | exact Or.inr (Or.inl rfl) | exact Or.inr (Or.inr rfl)) rfl) (ej_var (i := 2) rfl (by first | exact Or.inl rfl | exact Or.inr (Or.inl rfl) | exact Or.inr (Or.inr rfl)) rfl) (fun _ _ => rfl)) (asL_iff h_t17))) aj_nil))) rfl (ej_var (i := 4) rfl (by first | exact Or.inl rfl | exact Or.inr (Or.inl rfl) | exact Or.inr (Or.inr rfl)) rfl) (grd_iff h_g18).1 ?_
        show SJ _ _ _ [some (fz (tL4 (tList tStr) (tList (tP3 tStr tInt (tDic kStr (tSum tInt tStr)))) (tList (tP3 tInt tStr (tList (tP3 tStr tStr tInt)))) (tList (tP2 tInt (tList (tP3 tStr tStr tInt))))) x_scheme), some (fz (tDic kStr tInt) x_counts), some (fz tStr x_fact), some (oD kStr tInt (aput (aput s1 y2.1 t3) y2.1 (min y2.2.1 (t15 + t17)))), some (fz tStr y2.1), some (fz tInt y2.2.1), some (fz (tDic kStr (tSum tInt tStr)) y2.2.2)] _
        (simp only [Option.some.injEq, Prod.mk.injEq] at h; first | subst h | (obtain ⟨_, _⟩ := h; subst_vars))
        exact sj_join (fl := [true, true, true, true, true, true, true]) rfl rfl (fun _ _ _ h => h)
      · intro h_b10
        clear h; have h := ifF h_b10 h_j11; clear h_j11
        show SJ _ _ _ [some (fz (tL4 (tList tStr) (tList (tP3 tStr tInt (tDic kStr (tSum tInt tStr)))) (tList (tP3 tInt tStr (tList (tP3 tStr tStr tInt)))) (tList (tP2 tInt (tList (tP3 tStr tStr tInt))))) x_scheme), some (fz (tDic kStr tInt) x_counts), some (fz tStr x_fact), some (oD kStr tInt (aput s1 y2.1 t3)), some (fz tStr y2.1), some (fz tInt y2.2.1), some (fz (tDic kStr (tSum tInt tStr)) y2.2.2)] _
        (simp only [Option.some.injEq, Prod.mk.injEq] at h; first | subst h | (obtain ⟨_, _⟩ := h; subst_vars))
        exact sj_join (fl := [true, true, true, true, true, true, true]) rfl rfl (fun _ _ _ h => h)
      (simp only [Option.some.injEq, Prod.mk.injEq] at h; first | subst h | (obtain ⟨_, _⟩ := h; subst_vars))
      exact sj_join (fl := [true, true, true, true, true, true, true]) rfl rfl (fun _ _ _ h => h)
    (simp only [Option.some.injEq, Prod.mk.injEq] at h; first | subst h | (obtain ⟨_, _⟩ := h; subst_vars))
    exact sj_end (fl := [true, true, true, true, false, false, false]) rfl rfl
  show SJ _ _ _ [some (fz (tL4 (tList tStr) (tList (tP3 tStr tInt (tDic kStr (tSum tInt tStr)))) (tList (tP3 tInt tStr (tList (tP3 tStr tStr tInt)))) (tList (tP2 tInt (tList (tP3 tStr tStr tInt))))) x_scheme), some (fz (tDic kStr tInt) x_counts), some (fz tStr x_fact), some (oD kStr tInt j19), none, none, none] _
  (simp only [Option.some.injEq, Prod.mk.injEq] at h; first | subst h | (obtain ⟨_, _⟩ := h; subst_vars))
  exact sj_ret (rs := rs_law_year) (ls := ls_law_year) (y := j19) (ej_fz (ej_mov (i := 3) rfl (by first | exact Or.inl rfl | exact Or.inr (Or.inl rfl) | exact Or.inr (Or.inr rfl)) rfl) fz_oD) rfl rfl (show List.Nodup ([] : List Nat) by decide) rfl

abbrev O_check_facts : Type := Unit
def m_check_facts (x_machine : D_Machine) (x_career : (List Str)) : Option O_check_facts := ((foldO (S := Unit) (fun (s1 : Unit) (y2 : Str) => ((grd (Lay (edat tStr y2)) ()).bind fun g3 => (grd (Lay (edat (tList tStr) x_machine.facts)) ()).bind fun g4 => (if (!(isin y2 x_machine.facts)) = true then none else some ()))) () x_career).bind fun j6 => some (()))
def rs_check_facts (C_Machine : Addr) : O_check_facts → Sh := fun o => (fz tNon o)
def ls_check_facts (C_Machine : Addr) : O_check_facts → List Sh := fun o => []
def P_check_facts (C_Machine : Addr) : Phi := fun ss r L => ∃ (x_machine : D_Machine) (x_career : (List Str)) (o : O_check_facts), m_check_facts x_machine x_career = some o ∧ ss = [(fz (t_Machine C_Machine) x_machine), (fz (tList tStr) x_career)] ∧ r = rs_check_facts C_Machine o ∧ L = []
theorem ok_check_facts {C_Machine : Addr} (cl_Machine : Cls K C_Machine) (na_Machine_facts : NoAttr K C_Machine "facts") {f0 : Addr} {fd : FuncData} (D : Fun K "check_facts" "check_facts" s_check_facts f0 fd) : FnG P w K mg base CX0 1 f0 fd ["machine", "career"] (spS 2 (P_check_facts C_Machine)) := by
  refine Fun.okS D sc_check_facts rfl (by decide) fun X0 s H A outer cdv E ss r L vs hr hlen hP => ?_
  obtain ⟨x_machine, x_career, o_, h, rfl, rfl, rfl⟩ := hP
  obtain ⟨v0, v1, rfl⟩ : ∃ v0 v1, vs = [v0, v1] := by
    match vs, hlen with
    | [v0, v1], _ => exact ⟨v0, v1, rfl⟩
  refine ⟨_, rs_check_facts C_Machine, ls_check_facts C_Machine, o_, [], rfl, rfl, (fun _ h => nomatch h), rfl, ?_⟩
  clear X0
  unfold m_check_facts at h
  show SJ _ _ _ [some (fz (t_Machine C_Machine) x_machine), some (fz (tList tStr) x_career), none] _
  obtain ⟨j6, h_j6, h⟩ := bnd h
  refine sj_for (sh := fz tStr) (Γs := fun (s1 : Unit) => [some (fz (t_Machine C_Machine) x_machine), some (fz (tList tStr) x_career), none]) (Γy := fun (s1 : Unit) y2 => [some (fz (t_Machine C_Machine) x_machine), some (fz (tList tStr) x_career), some (fz tStr y2)]) (fl := [true, true, true]) (rs_check_facts C_Machine) (ls_check_facts C_Machine) h_j6 (ij_lst (ej_var (i := 1) rfl (by first | exact Or.inl rfl | exact Or.inr (Or.inl rfl) | exact Or.inr (Or.inr rfl)) rfl)) rfl rfl (fun s1 y2 => (gj_name (i := 2) sc_check_facts.nd rfl (by first | exact Or.inl rfl | exact Or.inr rfl))) ?_ ?_ PassesOwn.never rfl
  · intro s1 y2 o_ h_hy7 h
    clear h_j6; have h := h
    show SJ _ _ _ [some (fz (t_Machine C_Machine) x_machine), some (fz (tList tStr) x_career), some (fz tStr y2)] _
    obtain ⟨g3, h_g3, h⟩ := bnd h
    obtain ⟨g4, h_g4, h⟩ := bnd h
    refine sj_ifT (t := (!(isin y2 x_machine.facts))) (tj_cmp (ej_ninQi hr (grd_iff h_g3).1 (grd_iff h_g4).1 (ej_var (i := 2) rfl (by first | exact Or.inl rfl | exact Or.inr (Or.inl rfl) | exact Or.inr (Or.inr rfl)) rfl) (ej_fld (j := 0) (ej_var (i := 0) rfl (by first | exact Or.inl rfl | exact Or.inr (Or.inl rfl) | exact Or.inr (Or.inr rfl)) rfl) cl_Machine na_Machine_facts rfl rfl))) ?_ ?_
    · intro h_b5
      replace h := ifT h_b5 h
      show SJ _ _ _ [some (fz (t_Machine C_Machine) x_machine), some (fz (tList tStr) x_career), some (fz tStr y2)] _
      cases h
    intro h_b5
    replace h := ifF h_b5 h
    show SJ _ _ _ [some (fz (t_Machine C_Machine) x_machine), some (fz (tList tStr) x_career), some (fz tStr y2)] _
    (simp only [Option.some.injEq, Prod.mk.injEq] at h; first | subst h | (obtain ⟨_, _⟩ := h; subst_vars))
    exact sj_end (fl := [true, true, false]) rfl rfl
  show SJ _ _ _ [some (fz (t_Machine C_Machine) x_machine), some (fz (tList tStr) x_career), none] _
  (simp only [Option.some.injEq, Prod.mk.injEq] at h; first | subst h | (obtain ⟨_, _⟩ := h; subst_vars))
  exact sj_fin (rs := rs_check_facts C_Machine) (ls := ls_check_facts C_Machine) (fun _ => ⟨rfl, rfl⟩) rfl (show List.Nodup ([] : List Nat) by decide)

abbrev O_states_along : Type := (List Int)
def m_states_along (x_machine : D_Machine) (x_state : Int) (x_career : (List Str)) : Option O_states_along := ((m_check_facts x_machine x_career).bind fun t1 => (((foldO (S := (List Int)) (fun (s2 : (List Int)) (y3 : Str) => ((atI s2 (-(1 : Int))).bind fun t4 => (atI x_machine.step t4).bind fun t5 => (aget t5 y3).bind fun t6 => (grd (Sm (s2).length) ()).bind fun g7 => some ((s2 ++ [t6])))) ([x_state]) x_career).bind fun j8 => (some j8))))
def rs_states_along (C_Machine : Addr) : O_states_along → Sh := fun o => (fz (tList tInt) o)
def ls_states_along (C_Machine : Addr) : O_states_along → List Sh := fun o => []
def P_states_along (C_Machine : Addr) : Phi := fun ss r L => ∃ (x_machine : D_Machine) (x_state : Int) (x_career : (List Str)) (o : O_states_along), m_states_along x_machine x_state x_career = some o ∧ ss = [(fz (t_Machine C_Machine) x_machine), (fz tInt x_state), (fz (tList tStr) x_career)] ∧ r = rs_states_along C_Machine o ∧ L = []
theorem ok_states_along {C_Machine : Addr} (C_check_facts : CalG P w K mg base CX0 1 "check_facts" ["machine", "career"] (spS 2 (P_check_facts C_Machine))) (cl_Machine : Cls K C_Machine) (na_Machine_step : NoAttr K C_Machine "step") {f0 : Addr} {fd : FuncData} (D : Fun K "states_along" "states_along" s_states_along f0 fd) : FnG P w K mg base CX0 2 f0 fd ["machine", "state", "career"] (spS 3 (P_states_along C_Machine)) := by
  refine Fun.okS D sc_states_along rfl (by decide) fun X0 s H A outer cdv E ss r L vs hr hlen hP => ?_
  obtain ⟨x_machine, x_state, x_career, o_, h, rfl, rfl, rfl⟩ := hP
  obtain ⟨v0, v1, v2, rfl⟩ : ∃ v0 v1 v2, vs = [v0, v1, v2] := by
    match vs, hlen with
    | [v0, v1, v2], _ => exact ⟨v0, v1, v2, rfl⟩
  refine ⟨_, rs_states_along C_Machine, ls_states_along C_Machine, o_, [], rfl, rfl, (fun _ h => nomatch h), rfl, ?_⟩
  clear X0
  unfold m_states_along at h
  show SJ _ _ _ [some (fz (t_Machine C_Machine) x_machine), some (fz tInt x_state), some (fz (tList tStr) x_career), none, none] _
  obtain ⟨t1, h_t1, h⟩ := bnd h
  refine sj_expr (ej_callP (ss := [_, _]) C_check_facts (hr.mono (by decide)) (by rfl) pass0 (aj_cons (ej_var (i := 0) rfl (by first | exact Or.inl rfl | exact Or.inr (Or.inl rfl) | exact Or.inr (Or.inr rfl)) rfl) (aj_cons (ej_var (i := 2) rfl (by first | exact Or.inl rfl | exact Or.inr (Or.inl rfl) | exact Or.inr (Or.inr rfl)) rfl) aj_nil)) ⟨x_machine, x_career, t1, h_t1, rfl, rfl, rfl⟩) ?_
  show SJ _ _ _ [some (fz (t_Machine C_Machine) x_machine), some (fz tInt x_state), some (fz (tList tStr) x_career), none, none] _
  refine sj_set (i := 3) (s := (oL tInt [x_state])) sc_states_along.nd rfl (by first | exact Or.inl rfl | exact Or.inr rfl) (ej_oL (τ := tInt) (xs := [x_state]) (ej_lst (ss := [(fz tInt x_state)]) (aj_cons (ej_var (i := 1) rfl (by first | exact Or.inl rfl | exact Or.inr (Or.inl rfl) | exact Or.inr (Or.inr rfl)) rfl) aj_nil))) ?_
  show SJ _ _ _ [some (fz (t_Machine C_Machine) x_machine), some (fz tInt x_state), some (fz (tList tStr) x_career), some (oL tInt [x_state]), none] _
  obtain ⟨j8, h_j8, h⟩ := bnd h
  refine sj_for (sh := fz tStr) (Γs := fun (s2 : (List Int)) => [some (fz (t_Machine C_Machine) x_machine), some (fz tInt x_state), some (fz (tList tStr) x_career), some (oL tInt s2), none]) (Γy := fun (s2 : (List Int)) y3 => [some (fz (t_Machine C_Machine) x_machine), some (fz tInt x_state), some (fz (tList tStr) x_career), some (oL tInt s2), some (fz tStr y3)]) (fl := [true, true, true, true, true]) (rs_states_along C_Machine) (ls_states_along C_Machine) h_j8 (ij_lst (ej_var (i := 2) rfl (by first | exact Or.inl rfl | exact Or.inr (Or.inl rfl) | exact Or.inr (Or.inr rfl)) rfl)) rfl rfl (fun s2 y3 => (gj_name (i := 4) sc_states_along.nd rfl (by first | exact Or.inl rfl | exact Or.inr rfl))) ?_ ?_ PassesOwn.never rfl
  · intro s2 y3 o_ h_hy9 h
    clear h_j8; have h := h
    show SJ _ _ _ [some (fz (t_Machine C_Machine) x_machine), some (fz tInt x_state), some (fz (tList tStr) x_career), some (oL tInt s2), some (fz tStr y3)] _
    obtain ⟨t4, h_t4, h⟩ := bnd h
    obtain ⟨t5, h_t5, h⟩ := bnd h
    obtain ⟨t6, h_t6, h⟩ := bnd h
    obtain ⟨g7, h_g7, h⟩ := bnd h
    refine sj_expr (ej_app (i := 3) rfl (by first | exact Or.inl rfl | exact Or.inr (Or.inl rfl) | exact Or.inr (Or.inr rfl)) rfl (aj_cons (ej_dget (hu_of hr.room) rdd_fz h_t6 (ej_ix ix_list (v2_ixL rd_fz h_t5) (ej_fld (j := 1) (ej_var (i := 0) rfl (by first | exact Or.inl rfl | exact Or.inr (Or.inl rfl) | exact Or.inr (Or.inr rfl)) rfl) cl_Machine na_Machine_step rfl rfl) (ej_ixP ix_list (v2_ixL rd_oL h_t4) (pj_var (i := 3) rfl (by first | exact Or.inl rfl | exact Or.inr (Or.inl rfl) | exact Or.inr (Or.inr rfl)) rfl) (ej_neg ej_int) (fun _ _ => rfl)) (fun _ _ => rfl)) (ej_var (i := 4) rfl (by first | exact Or.inl rfl | exact Or.inr (Or.inl rfl) | exact Or.inr (Or.inr rfl)) rfl) (fun _ _ => rfl)) aj_nil) rfl (grd_iff h_g7).1) ?_
    show SJ _ _ _ [some (fz (t_Machine C_Machine) x_machine), some (fz tInt x_state), some (fz (tList tStr) x_career), some (oL tInt (s2 ++ [t6])), some (fz tStr y3)] _
    (simp only [Option.some.injEq, Prod.mk.injEq] at h; first | subst h | (obtain ⟨_, _⟩ := h; subst_vars))
    exact sj_end (fl := [true, true, true, true, false]) rfl rfl
  show SJ _ _ _ [some (fz (t_Machine C_Machine) x_machine), some (fz tInt x_state), some (fz (tList tStr) x_career), some (oL tInt j8), none] _
  (simp only [Option.some.injEq, Prod.mk.injEq] at h; first | subst h | (obtain ⟨_, _⟩ := h; subst_vars))
  exact sj_ret (rs := rs_states_along C_Machine) (ls := ls_states_along C_Machine) (y := j8) (ej_fz (ej_mov (i := 3) rfl (by first | exact Or.inl rfl | exact Or.inr (Or.inl rfl) | exact Or.inr (Or.inr rfl)) rfl) fz_oL) rfl rfl (show List.Nodup ([] : List Nat) by decide) rfl

abbrev O_state_after : Type := Int
def m_state_after (x_machine : D_Machine) (x_state : Int) (x_career : (List Str)) : Option O_state_after := ((m_states_along x_machine x_state x_career).bind fun t1 => (atI t1 (-(1 : Int))).bind fun t2 => some t2)
def rs_state_after (C_Machine : Addr) : O_state_after → Sh := fun o => (fz tInt o)
def ls_state_after (C_Machine : Addr) : O_state_after → List Sh := fun o => []
def P_state_after (C_Machine : Addr) : Phi := fun ss r L => ∃ (x_machine : D_Machine) (x_state : Int) (x_career : (List Str)) (o : O_state_after), m_state_after x_machine x_state x_career = some o ∧ ss = [(fz (t_Machine C_Machine) x_machine), (fz tInt x_state), (fz (tList tStr) x_career)] ∧ r = rs_state_after C_Machine o ∧ L = []
theorem ok_state_after {C_Machine : Addr} (C_states_along : CalG P w K mg base CX0 2 "states_along" ["machine", "state", "career"] (spS 3 (P_states_along C_Machine))) {f0 : Addr} {fd : FuncData} (D : Fun K "state_after" "state_after" s_state_after f0 fd) : FnG P w K mg base CX0 3 f0 fd ["machine", "state", "career"] (spS 3 (P_state_after C_Machine)) := by
  refine Fun.okS D sc_state_after rfl (by decide) fun X0 s H A outer cdv E ss r L vs hr hlen hP => ?_
  obtain ⟨x_machine, x_state, x_career, o_, h, rfl, rfl, rfl⟩ := hP
  obtain ⟨v0, v1, v2, rfl⟩ : ∃ v0 v1 v2, vs = [v0, v1, v2] := by
    match vs, hlen with
    | [v0, v1, v2], _ => exact ⟨v0, v1, v2, rfl⟩
  refine ⟨_, rs_state_after C_Machine, ls_state_after C_Machine, o_, [], rfl, rfl, (fun _ h => nomatch h), rfl, ?_⟩
  clear X0
  unfold m_state_after at h
  show SJ _ _ _ [some (fz (t_Machine C_Machine) x_machine), some (fz tInt x_state), some (fz (tList tStr) x_career)] _
  obtain ⟨t1, h_t1, h⟩ := bnd h
  obtain ⟨t2, h_t2, h⟩ := bnd h
  (simp only [Option.some.injEq, Prod.mk.injEq] at h; first | subst h | (obtain ⟨_, _⟩ := h; subst_vars))
  exact sj_ret (rs := rs_state_after C_Machine) (ls := ls_state_after C_Machine) (y := t2) (ej_ix ix_list (v2_ixL rd_fz h_t2) (ej_callP (ss := [_, _, _]) C_states_along (hr.mono (by decide)) (by rfl) pass0 (aj_cons (ej_var (i := 0) rfl (by first | exact Or.inl rfl | exact Or.inr (Or.inl rfl) | exact Or.inr (Or.inr rfl)) rfl) (aj_cons (ej_var (i := 1) rfl (by first | exact Or.inl rfl | exact Or.inr (Or.inl rfl) | exact Or.inr (Or.inr rfl)) rfl) (aj_cons (ej_var (i := 2) rfl (by first | exact Or.inl rfl | exact Or.inr (Or.inl rfl) | exact Or.inr (Or.inr rfl)) rfl) aj_nil))) ⟨x_machine, x_state, x_career, t1, h_t1, rfl, rfl, rfl⟩) (ej_neg ej_int) (fun _ _ => rfl)) rfl rfl (show List.Nodup ([] : List Nat) by decide) rfl

abbrev O_gains_of : Type := (List Int)
def m_gains_of (x_machine : D_Machine) (x_state : Int) (x_career : (List Str)) : Option O_gains_of := ((m_states_along x_machine x_state x_career).bind fun t1 => ((grd (Sm (((t1).zip x_career)).length) ()).bind fun g3 => (mapC (fun (y2 : (Int × Str)) => ((atI x_machine.gain y2.1).bind fun t4 => (aget t4 y2.2).bind fun t5 => some (some t5))) ((t1).zip x_career)).bind fun t6 => some t6))
def rs_gains_of (C_Machine : Addr) : O_gains_of → Sh := fun o => (fz (tList tInt) o)
def ls_gains_of (C_Machine : Addr) : O_gains_of → List Sh := fun o => []
def P_gains_of (C_Machine : Addr) : Phi := fun ss r L => ∃ (x_machine : D_Machine) (x_state : Int) (x_career : (List Str)) (o : O_gains_of), m_gains_of x_machine x_state x_career = some o ∧ ss = [(fz (t_Machine C_Machine) x_machine), (fz tInt x_state), (fz (tList tStr) x_career)] ∧ r = rs_gains_of C_Machine o ∧ L = []
theorem ok_gains_of {C_Machine : Addr} (C_states_along : CalG P w K mg base CX0 2 "states_along" ["machine", "state", "career"] (spS 3 (P_states_along C_Machine))) (m_zip : mg "zip" = none) (cl_Machine : Cls K C_Machine) (na_Machine_gain : NoAttr K C_Machine "gain") {f0 : Addr} {fd : FuncData} (D : Fun K "gains_of" "gains_of" s_gains_of f0 fd) : FnG P w K mg base CX0 3 f0 fd ["machine", "state", "career"] (spS 3 (P_gains_of C_Machine)) := by
  refine Fun.okS D sc_gains_of rfl (by decide) fun X0 s H A outer cdv E ss r L vs hr hlen hP => ?_
  obtain ⟨x_machine, x_state, x_career, o_, h, rfl, rfl, rfl⟩ := hP
  obtain ⟨v0, v1, v2, rfl⟩ : ∃ v0 v1 v2, vs = [v0, v1, v2] := by
    match vs, hlen with
    | [v0, v1, v2], _ => exact ⟨v0, v1, v2, rfl⟩
  refine ⟨_, rs_gains_of C_Machine, ls_gains_of C_Machine, o_, [], rfl, rfl, (fun _ h => nomatch h), rfl, ?_⟩
  clear X0
  unfold m_gains_of at h
  show SJ _ _ _ [some (fz (t_Machine C_Machine) x_machine), some (fz tInt x_state), some (fz (tList tStr) x_career), none, none, none] _
  obtain ⟨t1, h_t1, h⟩ := bnd h
  refine sj_set (i := 3) (s := (fz (tList tInt) t1)) sc_gains_of.nd rfl (by first | exact Or.inl rfl | exact Or.inr rfl) (ej_callP (ss := [_, _, _]) C_states_along (hr.mono (by decide)) (by rfl) pass0 (aj_cons (ej_var (i := 0) rfl (by first | exact Or.inl rfl | exact Or.inr (Or.inl rfl) | exact Or.inr (Or.inr rfl)) rfl) (aj_cons (ej_var (i := 1) rfl (by first | exact Or.inl rfl | exact Or.inr (Or.inl rfl) | exact Or.inr (Or.inr rfl)) rfl) (aj_cons (ej_var (i := 2) rfl (by first | exact Or.inl rfl | exact Or.inr (Or.inl rfl) | exact Or.inr (Or.inr rfl)) rfl) aj_nil))) ⟨x_machine, x_state, x_career, t1, h_t1, rfl, rfl, rfl⟩) ?_
  show SJ _ _ _ [some (fz (t_Machine C_Machine) x_machine), some (fz tInt x_state), some (fz (tList tStr) x_career), some (fz (tList tInt) t1), none, none] _
  obtain ⟨g3, h_g3, h⟩ := bnd h
  obtain ⟨t6, h_t6, h⟩ := bnd h
  (simp only [Option.some.injEq, Prod.mk.injEq] at h; first | subst h | (obtain ⟨_, _⟩ := h; subst_vars))
  exact sj_ret (rs := rs_gains_of C_Machine) (ls := ls_gains_of C_Machine) (y := t6) (ej_fz (lcj_e (lcP (Γy := fun y2 => [some (fz (t_Machine C_Machine) x_machine), some (fz tInt x_state), some (fz (tList tStr) x_career), some (fz (tList tInt) t1), some (fz tInt y2.1), some (fz tStr y2.2)]) (own := [("at", 4), ("fact", 5)]) (fun _ _ _ _ _ y2 => (gj0_p2 rfl (gs0_cons (gj0_name (i := 4) sc_gains_of.nd rfl (by first | exact Or.inl rfl | exact Or.inr rfl) (z_none rfl)) (gs0_cons (gj0_name (i := 5) sc_gains_of.nd rfl (by first | exact Or.inl rfl | exact Or.inr rfl) (z_none rfl)) gs0_nil)))) (fun _ _ _ _ _ y2 oz hm h => (by have h := h; obtain ⟨t4, h_t4, h⟩ := bnd h; obtain ⟨t5, h_t5, h⟩ := bnd h;  (simp only [Option.some.injEq, Prod.mk.injEq] at h; first | subst h | (obtain ⟨_, _⟩ := h; subst_vars)); exact ts_nil)) (fun _ _ _ _ _ y2 z hm h => (by have h := h; obtain ⟨t4, h_t4, h⟩ := bnd h; obtain ⟨t5, h_t5, h⟩ := bnd h;  (simp only [Option.some.injEq, Prod.mk.injEq] at h; first | subst h | (obtain ⟨_, _⟩ := h; subst_vars)); exact (ej_dget (hu_of hr.room) rdd_fz h_t5 (ej_ix ix_list (v2_ixL rd_fz h_t4) (ej_fld (j := 2) (ej_var (i := 0) rfl (by first | exact Or.inl rfl | exact Or.inr (Or.inl rfl) | exact Or.inr (Or.inr rfl)) rfl) cl_Machine na_Machine_gain rfl rfl) (ej_var (i := 4) rfl (by first | exact Or.inl rfl | exact Or.inr (Or.inl rfl) | exact Or.inr (Or.inr rfl)) rfl) (fun _ _ => rfl)) (ej_var (i := 5) rfl (by first | exact Or.inl rfl | exact Or.inr (Or.inl rfl) | exact Or.inr (Or.inr rfl)) rfl) (fun _ _ => rfl)))) h_t6 (grd_iff h_g3).1 rfl sc_gains_of.nd (ij_zip (by rfl) m_zip (aj_cons (ej_var (i := 3) rfl (by first | exact Or.inl rfl | exact Or.inr (Or.inl rfl) | exact Or.inr (Or.inr rfl)) rfl) (aj_cons (ej_var (i := 2) rfl (by first | exact Or.inl rfl | exact Or.inr (Or.inl rfl) | exact Or.inr (Or.inr rfl)) rfl) aj_nil))) (blkOk_by (own := [("at", 4), ("fact", 5)]) (N := n_gains_of) (sc := defScope s_gains_of) (by decide +kernel)) ⟨z_none rfl, z_none rfl, trivial⟩)) fz_oL) rfl rfl (show List.Nodup ([] : List Nat) by decide) rfl

abbrev O_total : Type := Int
def m_total (x_machine : D_Machine) (x_state : Int) (x_career : (List Str)) : Option O_total := ((m_gains_of x_machine x_state x_career).bind fun t1 => (m_state_after x_machine x_state x_career).bind fun t2 => (atI x_machine.leave t2).bind fun t3 => some ((t1).sum + t3))
def rs_total (C_Machine : Addr) : O_total → Sh := fun o => (fz tInt o)
def ls_total (C_Machine : Addr) : O_total → List Sh := fun o => []
def P_total (C_Machine : Addr) : Phi := fun ss r L => ∃ (x_machine : D_Machine) (x_state : Int) (x_career : (List Str)) (o : O_total), m_total x_machine x_state x_career = some o ∧ ss = [(fz (t_Machine C_Machine) x_machine), (fz tInt x_state), (fz (tList tStr) x_career)] ∧ r = rs_total C_Machine o ∧ L = []
theorem ok_total {C_Machine : Addr} (C_gains_of : CalG P w K mg base CX0 3 "gains_of" ["machine", "state", "career"] (spS 3 (P_gains_of C_Machine))) (m_sum : mg "sum" = none) (cl_Machine : Cls K C_Machine) (na_Machine_leave : NoAttr K C_Machine "leave") (C_state_after : CalG P w K mg base CX0 3 "state_after" ["machine", "state", "career"] (spS 3 (P_state_after C_Machine))) {f0 : Addr} {fd : FuncData} (D : Fun K "total" "total" s_total f0 fd) : FnG P w K mg base CX0 4 f0 fd ["machine", "state", "career"] (spS 3 (P_total C_Machine)) := by
  refine Fun.okS D sc_total rfl (by decide) fun X0 s H A outer cdv E ss r L vs hr hlen hP => ?_
  obtain ⟨x_machine, x_state, x_career, o_, h, rfl, rfl, rfl⟩ := hP
  obtain ⟨v0, v1, v2, rfl⟩ : ∃ v0 v1 v2, vs = [v0, v1, v2] := by
    match vs, hlen with
    | [v0, v1, v2], _ => exact ⟨v0, v1, v2, rfl⟩
  refine ⟨_, rs_total C_Machine, ls_total C_Machine, o_, [], rfl, rfl, (fun _ h => nomatch h), rfl, ?_⟩
  clear X0
  unfold m_total at h
  show SJ _ _ _ [some (fz (t_Machine C_Machine) x_machine), some (fz tInt x_state), some (fz (tList tStr) x_career)] _
  obtain ⟨t1, h_t1, h⟩ := bnd h
  obtain ⟨t2, h_t2, h⟩ := bnd h
  obtain ⟨t3, h_t3, h⟩ := bnd h
  (simp only [Option.some.injEq, Prod.mk.injEq] at h; first | subst h | (obtain ⟨_, _⟩ := h; subst_vars))
  exact sj_ret (rs := rs_total C_Machine) (ls := ls_total C_Machine) (y := ((t1).sum + t3)) (ej_add (ej_b (ss := [_]) (cr_sum rfl) (va_sum rd_fz) (by rfl) m_sum bt_sum (aj_cons (ej_callP (ss := [_, _, _]) C_gains_of (hr.mono (by decide)) (by rfl) pass0 (aj_cons (ej_var (i := 0) rfl (by first | exact Or.inl rfl | exact Or.inr (Or.inl rfl) | exact Or.inr (Or.inr rfl)) rfl) (aj_cons (ej_var (i := 1) rfl (by first | exact Or.inl rfl | exact Or.inr (Or.inl rfl) | exact Or.inr (Or.inr rfl)) rfl) (aj_cons (ej_var (i := 2) rfl (by first | exact Or.inl rfl | exact Or.inr (Or.inl rfl) | exact Or.inr (Or.inr rfl)) rfl) aj_nil))) ⟨x_machine, x_state, x_career, t1, h_t1, rfl, rfl, rfl⟩) aj_nil)) (ej_ix ix_list (v2_ixL rd_fz h_t3) (ej_fld (j := 3) (ej_var (i := 0) rfl (by first | exact Or.inl rfl | exact Or.inr (Or.inl rfl) | exact Or.inr (Or.inr rfl)) rfl) cl_Machine na_Machine_leave rfl rfl) (ej_callP (ss := [_, _, _]) C_state_after (hr.mono (by decide)) (by rfl) pass0 (aj_cons (ej_var (i := 0) rfl (by first | exact Or.inl rfl | exact Or.inr (Or.inl rfl) | exact Or.inr (Or.inr rfl)) rfl) (aj_cons (ej_var (i := 1) rfl (by first | exact Or.inl rfl | exact Or.inr (Or.inl rfl) | exact Or.inr (Or.inr rfl)) rfl) (aj_cons (ej_var (i := 2) rfl (by first | exact Or.inl rfl | exact Or.inr (Or.inl rfl) | exact Or.inr (Or.inr rfl)) rfl) aj_nil))) ⟨x_machine, x_state, x_career, t2, h_t2, rfl, rfl, rfl⟩) (fun _ _ => rfl))) rfl rfl (show List.Nodup ([] : List Nat) by decide) rfl

abbrev O_law_leave : Type := Int
def m_law_leave (x_scheme : ((List Str) × (List (Str × Int × (List (Str × (Int ⊕ Str))))) × (List (Int × Str × (List (Str × Str × Int)))) × (List (Int × (List (Str × Str × Int)))))) (x_counts : (List (Str × Int))) : Option O_law_leave := (((foldO (S := Int) (fun (s1 : Int) (y2 : (Int × (List (Str × Str × Int)))) => ((m_law_holds y2.2 x_counts).bind fun t3 => (if t3 = true then ((some (s1 + y2.1)).bind fun found_6 => some (found_6)) else some (s1) : Option (Int)).bind fun j5 => some (j5))) ((0 : Int)) x_scheme.2.2.2).bind fun j7 => (some j7)))
def rs_law_leave : O_law_leave → Sh := fun o => (fz tInt o)
def ls_law_leave : O_law_leave → List Sh := fun o => []
def P_law_leave : Phi := fun ss r L => ∃ (x_scheme : ((List Str) × (List (Str × Int × (List (Str × (Int ⊕ Str))))) × (List (Int × Str × (List (Str × Str × Int)))) × (List (Int × (List (Str × Str × Int)))))) (x_counts : (List (Str × Int))) (o : O_law_leave), m_law_leave x_scheme x_counts = some o ∧ ss = [(fz (tL4 (tList tStr) (tList (tP3 tStr tInt (tDic kStr (tSum tInt tStr)))) (tList (tP3 tInt tStr (tList (tP3 tStr tStr tInt)))) (tList (tP2 tInt (tList (tP3 tStr tStr tInt))))) x_scheme), (fz (tDic kStr tInt) x_counts)] ∧ r = rs_law_leave o ∧ L = []
theorem ok_law_leave (C_law_holds : CalG P w K mg base CX0 1 "_law_holds" ["condition", "counts"] (spS 2 P_law_holds)) {f0 : Addr} {fd : FuncData} (D : Fun K "_law_leave" "_law_leave" s_law_leave f0 fd) : FnG P w K mg base CX0 2 f0 fd ["scheme", "counts"] (spS 2 P_law_leave) := by
  refine Fun.okS D sc_law_leave rfl (by decide) fun X0 s H A outer cdv E ss r L vs hr hlen hP => ?_
  obtain ⟨x_scheme, x_counts, o_, h, rfl, rfl, rfl⟩ := hP
  obtain ⟨v0, v1, rfl⟩ : ∃ v0 v1, vs = [v0, v1] := by
    match vs, hlen with
    | [v0, v1], _ => exact ⟨v0, v1, rfl⟩
  refine ⟨_, rs_law_leave, ls_law_leave, o_, [], rfl, rfl, (fun _ h => nomatch h), rfl, ?_⟩
  clear X0
  unfold m_law_leave at h
  show SJ _ _ _ [some (fz (tL4 (tList tStr) (tList (tP3 tStr tInt (tDic kStr (tSum tInt tStr)))) (tList (tP3 tInt tStr (tList (tP3 tStr tStr tInt)))) (tList (tP2 tInt (tList (tP3 tStr tStr tInt))))) x_scheme), some (fz (tDic kStr tInt) x_counts), none, none, none] _
  refine sj_set (i := 2) (s := (fz tInt (0 : Int))) sc_law_leave.nd rfl (by first | exact Or.inl rfl | exact Or.inr rfl) ej_int ?_
  show SJ _ _ _ [some (fz (tL4 (tList tStr) (tList (tP3 tStr tInt (tDic kStr (tSum tInt tStr)))) (tList (tP3 tInt tStr (tList (tP3 tStr tStr tInt)))) (tList (tP2 tInt (tList (tP3 tStr tStr tInt))))) x_scheme), some (fz (tDic kStr tInt) x_counts), some (fz tInt (0 : Int)), none, none] _
  obtain ⟨j7, h_j7, h⟩ := bnd h
  refine sj_for (sh := fz (tP2 tInt (tList (tP3 tStr tStr tInt)))) (Γs := fun (s1 : Int) => [some (fz (tL4 (tList tStr) (tList (tP3 tStr tInt (tDic kStr (tSum tInt tStr)))) (tList (tP3 tInt tStr (tList (tP3 tStr tStr tInt)))) (tList (tP2 tInt (tList (tP3 tStr tStr tInt))))) x_scheme), some (fz (tDic kStr tInt) x_counts), some (fz tInt s1), none, none]) (Γy := fun (s1 : Int) y2 => [some (fz (tL4 (tList tStr) (tList (tP3 tStr tInt (tDic kStr (tSum tInt tStr)))) (tList (tP3 tInt tStr (tList (tP3 tStr tStr tInt)))) (tList (tP2 tInt (tList (tP3 tStr tStr tInt))))) x_scheme), some (fz (tDic kStr tInt) x_counts), some (fz tInt s1), some (fz tInt y2.1), some (fz (tList (tP3 tStr tStr tInt)) y2.2)]) (fl := [true, true, true, true, true]) (rs_law_leave) (ls_law_leave) h_j7 (ij_lst (ej_ix ix_list (v2_ixO (j := 3) rdo_4 rfl rfl) (ej_var (i := 0) rfl (by first | exact Or.inl rfl | exact Or.inr (Or.inl rfl) | exact Or.inr (Or.inr rfl)) rfl) ej_int (fun _ _ => rfl))) rfl rfl (fun s1 y2 => (gj_p2 rfl (gs_cons (gj_name (i := 3) sc_law_leave.nd rfl (by first | exact Or.inl rfl | exact Or.inr rfl)) (gs_cons (gj_name (i := 4) sc_law_leave.nd rfl (by first | exact Or.inl rfl | exact Or.inr rfl)) gs_nil)))) ?_ ?_ PassesOwn.never rfl
  · intro s1 y2 o_ h_hy8 h
    clear h_j7; have h := h
    show SJ _ _ _ [some (fz (tL4 (tList tStr) (tList (tP3 tStr tInt (tDic kStr (tSum tInt tStr)))) (tList (tP3 tInt tStr (tList (tP3 tStr tStr tInt)))) (tList (tP2 tInt (tList (tP3 tStr tStr tInt))))) x_scheme), some (fz (tDic kStr tInt) x_counts), some (fz tInt s1), some (fz tInt y2.1), some (fz (tList (tP3 tStr tStr tInt)) y2.2)] _
    obtain ⟨t3, h_t3, h⟩ := bnd h
    obtain ⟨j5, h_j5, h⟩ := bnd h
    refine sj_if (t := t3) (Γm := [some (fz (tL4 (tList tStr) (tList (tP3 tStr tInt (tDic kStr (tSum tInt tStr)))) (tList (tP3 tInt tStr (tList (tP3 tStr tStr tInt)))) (tList (tP2 tInt (tList (tP3 tStr tStr tInt))))) x_scheme), some (fz (tDic kStr tInt) x_counts), some (fz tInt j5), some (fz tInt y2.1), some (fz (tList (tP3 tStr tStr tInt)) y2.2)]) (tj_val (ej_callP (ss := [_, _]) C_law_holds (hr.mono (by decide)) (by rfl) pass0 (aj_cons (ej_var (i := 4) rfl (by first | exact Or.inl rfl | exact Or.inr (Or.inl rfl) | exact Or.inr (Or.inr rfl)) rfl) (aj_cons (ej_var (i := 1) rfl (by first | exact Or.inl rfl | exact Or.inr (Or.inl rfl) | exact Or.inr (Or.inr rfl)) rfl) aj_nil)) ⟨y2.2, x_counts, t3, h_t3, rfl, rfl, rfl⟩)) ?_ ?_ ?_
    · intro h_b4
      clear h; have h := ifT h_b4 h_j5; clear h_j5
      show SJ _ _ _ [some (fz (tL4 (tList tStr) (tList (tP3 tStr tInt (tDic kStr (tSum tInt tStr)))) (tList (tP3 tInt tStr (tList (tP3 tStr tStr tInt)))) (tList (tP2 tInt (tList (tP3 tStr tStr tInt))))) x_scheme), some (fz (tDic kStr tInt) x_counts), some (fz tInt s1), some (fz tInt y2.1), some (fz (tList (tP3 tStr tStr tInt)) y2.2)] _
      obtain ⟨found_6, h_found_6, h⟩ := bnd h
      have h_found_6 := Option.some.inj h_found_6
      refine sj_set (i := 2) (s := (fz tInt found_6)) sc_law_leave.nd rfl (by first | exact Or.inl rfl | exact Or.inr rfl) (ej_is h_found_6 (ej_add (ej_var (i := 2) rfl (by first | exact Or.inl rfl | exact Or.inr (Or.inl rfl) | exact Or.inr (Or.inr rfl)) rfl) (ej_var (i := 3) rfl (by first | exact Or.inl rfl | exact Or.inr (Or.inl rfl) | exact Or.inr (Or.inr rfl)) rfl))) ?_
      show SJ _ _ _ [some (fz (tL4 (tList tStr) (tList (tP3 tStr tInt (tDic kStr (tSum tInt tStr)))) (tList (tP3 tInt tStr (tList (tP3 tStr tStr tInt)))) (tList (tP2 tInt (tList (tP3 tStr tStr tInt))))) x_scheme), some (fz (tDic kStr tInt) x_counts), some (fz tInt found_6), some (fz tInt y2.1), some (fz (tList (tP3 tStr tStr tInt)) y2.2)] _
      (simp only [Option.some.injEq, Prod.mk.injEq] at h; first | subst h | (obtain ⟨_, _⟩ := h; subst_vars))
      exact sj_join (fl := [true, true, true, true, true]) rfl rfl (fun _ _ _ h => h)
    · intro h_b4
      clear h; have h := ifF h_b4 h_j5; clear h_j5
      show SJ _ _ _ [some (fz (tL4 (tList tStr) (tList (tP3 tStr tInt (tDic kStr (tSum tInt tStr)))) (tList (tP3 tInt tStr (tList (tP3 tStr tStr tInt)))) (tList (tP2 tInt (tList (tP3 tStr tStr tInt))))) x_scheme), some (fz (tDic kStr tInt) x_counts), some (fz tInt s1), some (fz tInt y2.1), some (fz (tList (tP3 tStr tStr tInt)) y2.2)] _
      (simp only [Option.some.injEq, Prod.mk.injEq] at h; first | subst h | (obtain ⟨_, _⟩ := h; subst_vars))
      exact sj_join (fl := [true, true, true, true, true]) rfl rfl (fun _ _ _ h => h)
    (simp only [Option.some.injEq, Prod.mk.injEq] at h; first | subst h | (obtain ⟨_, _⟩ := h; subst_vars))
    exact sj_end (fl := [true, true, true, false, false]) rfl rfl
  show SJ _ _ _ [some (fz (tL4 (tList tStr) (tList (tP3 tStr tInt (tDic kStr (tSum tInt tStr)))) (tList (tP3 tInt tStr (tList (tP3 tStr tStr tInt)))) (tList (tP2 tInt (tList (tP3 tStr tStr tInt))))) x_scheme), some (fz (tDic kStr tInt) x_counts), some (fz tInt j7), none, none] _
  (simp only [Option.some.injEq, Prod.mk.injEq] at h; first | subst h | (obtain ⟨_, _⟩ := h; subst_vars))
  exact sj_ret (rs := rs_law_leave) (ls := ls_law_leave) (y := j7) (ej_var (i := 2) rfl (by first | exact Or.inl rfl | exact Or.inr (Or.inl rfl) | exact Or.inr (Or.inr rfl)) rfl) rfl rfl (show List.Nodup ([] : List Nat) by decide) rfl

abbrev O_check_factsX : Type := Unit
abbrev E_check_factsX : Type := Er
def m_check_factsX (x_machine : D_Machine) (x_career : (List Str)) : Option (Rs E_check_factsX O_check_factsX) := ((foldX (ρ := (Rs E_check_factsX O_check_factsX)) (S := Unit) (fun (s1 : Unit) (y2 : Str) => ((grd (Lay (edat tStr y2)) ()).bind fun g3 => (grd (Lay (edat (tList tStr) x_machine.facts)) ()).bind fun g4 => (if (!(isin y2 x_machine.facts)) = true then ((grd (Str.length y2 ≤ 1000) ()).bind fun g6 => some (Oc.ret (Rs.er (("UnknownFact" : Str), [(("fact" : Str), (Sum.inr y2 : Int ⊕ Str))])))) else some (Oc.nx ())))) () x_career).bind fun j7 => match j7 with | .ret r10 => some r10 | .nx s9 => some (Rs.ok (())))
def rs_check_factsX (cs : Str → Addr) (C_Machine : Addr) : O_check_factsX → Sh := fun o => (fz tNon o)
def ls_check_factsX (cs : Str → Addr) (C_Machine : Addr) : O_check_factsX → List Sh := fun o => []
def xs_check_factsX (cs : Str → Addr) (C_Machine : Addr) : E_check_factsX → Xh := fun e => erx cs e
def xl_check_factsX (cs : Str → Addr) (C_Machine : Addr) : E_check_factsX → List Sh := fun e => []
def P_check_factsX (cs : Str → Addr) (C_Machine : Addr) : Phx := fun ss z => ∃ (x_machine : D_Machine) (x_career : (List Str)) (o : Rs E_check_factsX O_check_factsX), m_check_factsX x_machine x_career = some o ∧ ss = [(fz (t_Machine C_Machine) x_machine), (fz (tList tStr) x_career)] ∧ z = (match o with | .ok y => .inl (rs_check_factsX cs C_Machine y, []) | .er e => .inr (xs_check_factsX cs C_Machine e, []))
theorem ok_check_factsX {C_Machine : Addr} {cs : Str → Addr} (cl_Machine : Cls K C_Machine) (na_Machine_facts : NoAttr K C_Machine "facts") (M_UnknownFact : ExMk P w K mg base "UnknownFact" (cs "UnknownFact") ["fact"]) {f0 : Addr} {fd : FuncData} (D : Fun K "check_facts" "check_facts" s_check_facts f0 fd) : FnG P w K mg base (L2.CX P w) 3 f0 fd ["machine", "career"] (spX 2 (P_check_factsX cs C_Machine)) := by
  refine Fun.okX D sc_check_facts rfl (by decide) fun s H A outer cdv E ss z vs hr hlen hP pso => ?_
  obtain ⟨x_machine, x_career, o_, h, rfl, rfl⟩ := hP
  obtain ⟨v0, v1, rfl⟩ : ∃ v0 v1, vs = [v0, v1] := by
    match vs, hlen with
    | [v0, v1], _ => exact ⟨v0, v1, rfl⟩
  refine ⟨_, _, rs_check_factsX cs C_Machine, ls_check_factsX cs C_Machine, xs_check_factsX cs C_Machine, xl_check_factsX cs C_Machine, o_, [], (by cases o_ <;> exact ⟨rfl, rfl, rfl⟩), (fun _ h => nomatch h), ?_⟩
  unfold m_check_factsX at h
  show SJ _ _ _ [some (fz (t_Machine C_Machine) x_machine), some (fz (tList tStr) x_career), none] _
  obtain ⟨j7, h_j7, h⟩ := bnd h
  refine sj_forY (o := j7) (sh := fz tStr) (Γs := fun (s1 : Unit) => [some (fz (t_Machine C_Machine) x_machine), some (fz (tList tStr) x_career), none]) (Γy := fun (s1 : Unit) y2 => [some (fz (t_Machine C_Machine) x_machine), some (fz (tList tStr) x_career), some (fz tStr y2)]) (fl := [true, true, true]) (rs := rs_check_factsX cs C_Machine) (ls := ls_check_factsX cs C_Machine) (xs := xs_check_factsX cs C_Machine) (xl := xl_check_factsX cs C_Machine) h_j7 (ij_lst (ej_var (i := 1) rfl (by first | exact Or.inl rfl | exact Or.inr (Or.inl rfl) | exact Or.inr (Or.inr rfl)) rfl)) rfl rfl (fun s1 y2 => (gj_name (i := 2) sc_check_facts.nd rfl (by first | exact Or.inl rfl | exact Or.inr rfl))) ?_ ?_ ?_ ?_ pso rfl
  · intro s1 y2 o_ h_hy8 h
    clear h_j7; have h := h
    show SJ _ _ _ [some (fz (t_Machine C_Machine) x_machine), some (fz (tList tStr) x_career), some (fz tStr y2)] _
    obtain ⟨g3, h_g3, h⟩ := bnd h
    obtain ⟨g4, h_g4, h⟩ := bnd h
    refine sj_ifT (t := (!(isin y2 x_machine.facts))) (tj_cmp (ej_ninQi hr (grd_iff h_g3).1 (grd_iff h_g4).1 (ej_var (i := 2) rfl (by first | exact Or.inl rfl | exact Or.inr (Or.inl rfl) | exact Or.inr (Or.inr rfl)) rfl) (ej_fld (j := 0) (ej_var (i := 0) rfl (by first | exact Or.inl rfl | exact Or.inr (Or.inl rfl) | exact Or.inr (Or.inr rfl)) rfl) cl_Machine na_Machine_facts rfl rfl))) ?_ ?_
    · intro h_b5
      replace h := ifT h_b5 h
      show SJ _ _ _ [some (fz (t_Machine C_Machine) x_machine), some (fz (tList tStr) x_career), some (fz tStr y2)] _
      obtain ⟨g6, h_g6, h⟩ := bnd h
      (simp only [Option.some.injEq, Prod.mk.injEq] at h; first | subst h | (obtain ⟨_, _⟩ := h; subst_vars))
      exact sj_raise rfl (mj_1 (v := (Sum.inr y2 : Int ⊕ Str)) M_UnknownFact (hr.mono (by decide)) (by rfl) (ej_var (i := 2) rfl (by first | exact Or.inl rfl | exact Or.inr (Or.inl rfl) | exact Or.inr (Or.inr rfl)) rfl) (fun _ _ h => h) (.inr ⟨_, rfl, (grd_iff h_g6).1⟩)) (fun _ _ _ _ _ st_ pn_ q_ => ⟨_, rfl, xr_of st_ pn_ q_ (show List.Nodup ([] : List Nat) by decide) rfl⟩)
    intro h_b5
    replace h := ifF h_b5 h
    show SJ _ _ _ [some (fz (t_Machine C_Machine) x_machine), some (fz (tList tStr) x_career), some (fz tStr y2)] _
    (simp only [Option.some.injEq, Prod.mk.injEq] at h; first | subst h | (obtain ⟨_, _⟩ := h; subst_vars))
    exact sj_endY (fl := [true, true, false]) rfl rfl
  · intro s9 e_; subst e_
    show SJ _ _ _ [some (fz (t_Machine C_Machine) x_machine), some (fz (tList tStr) x_career), none] _
    (simp only [Option.some.injEq, Prod.mk.injEq] at h; first | subst h | (obtain ⟨_, _⟩ := h; subst_vars))
    exact sj_finX (rs := rs_check_factsX cs C_Machine) (ls := ls_check_factsX cs C_Machine) (fun _ => ⟨rfl, rfl⟩) rfl (show List.Nodup ([] : List Nat) by decide)
  · intro r10 e_; subst e_; cases h; exact fun _ _ _ h => ⟨_, rfl, h⟩
  · intro r10 e_; subst e_; cases h; exact fun _ _ _ _ _ h => ⟨_, rfl, h⟩

abbrev O_states_alongX : Type := (List Int)
abbrev E_states_alongX : Type := Er
def m_states_alongX (x_machine : D_Machine) (x_state : Int) (x_career : (List Str)) : Option (Rs E_states_alongX O_states_alongX) := ((m_check_factsX x_machine x_career).bind fun q1 => match q1 with | .er e3 => some (Rs.er e3) | .ok p2 => ((((foldO (S := (List Int)) (fun (s4 : (List Int)) (y5 : Str) => ((atI s4 (-(1 : Int))).bind fun t6 => (atI x_machine.step t6).bind fun t7 => (aget t7 y5).bind fun t8 => (grd (Sm (s4).length) ()).bind fun g9 => some ((s4 ++ [t8])))) ([x_state]) x_career).bind fun j10 => (some (Rs.ok j10))))))
def rs_states_alongX (cs : Str → Addr) (C_Machine : Addr) : O_states_alongX → Sh := fun o => (fz (tList tInt) o)
def ls_states_alongX (cs : Str → Addr) (C_Machine : Addr) : O_states_alongX → List Sh := fun o => []
def xs_states_alongX (cs : Str → Addr) (C_Machine : Addr) : E_states_alongX → Xh := fun e => erx cs e
def xl_states_alongX (cs : Str → Addr) (C_Machine : Addr) : E_states_alongX → List Sh := fun e => []
def P_states_alongX (cs : Str → Addr) (C_Machine : Addr) : Phx := fun ss z => ∃ (x_machine : D_Machine) (x_state : Int) (x_career : (List Str)) (o : Rs E_states_alongX O_states_alongX), m_states_alongX x_machine x_state x_career = some o ∧ ss = [(fz (t_Machine C_Machine) x_machine), (fz tInt x_state), (fz (tList tStr) x_career)] ∧ z = (match o with | .ok y => .inl (rs_states_alongX cs C_Machine y, []) | .er e => .inr (xs_states_alongX cs C_Machine e, []))
theorem ok_states_alongX {C_Machine : Addr} {cs : Str → Addr} (C_check_factsX : CalG P w K mg base (L2.CX P w) 3 "check_facts" ["machine", "career"] (spX 2 (P_check_factsX cs C_Machine))) (cl_Machine : Cls K C_Machine) (na_Machine_step : NoAttr K C_Machine "step") {f0 : Addr} {fd : FuncData} (D : Fun K "states_along" "states_along" s_states_along f0 fd) : FnG P w K mg base (L2.CX P w) 4 f0 fd ["machine", "state", "career"] (spX 3 (P_states_alongX cs C_Machine)) := by
  refine Fun.okX D sc_states_along rfl (by decide) fun s H A outer cdv E ss z vs hr hlen hP pso => ?_
  obtain ⟨x_machine, x_state, x_career, o_, h, rfl, rfl⟩ := hP
  obtain ⟨v0, v1, v2, rfl⟩ : ∃ v0 v1 v2, vs = [v0, v1, v2] := by
    match vs, hlen with
    | [v0, v1, v2], _ => exact ⟨v0, v1, v2, rfl⟩
  refine ⟨_, _, rs_states_alongX cs C_Machine, ls_states_alongX cs C_Machine, xs_states_alongX cs C_Machine, xl_states_alongX cs C_Machine, o_, [], (by cases o_ <;> exact ⟨rfl, rfl, rfl⟩), (fun _ h => nomatch h), ?_⟩
  unfold m_states_alongX at h
  show SJ _ _ _ [some (fz (t_Machine C_Machine) x_machine), some (fz tInt x_state), some (fz (tList tStr) x_career), none, none] _
  obtain ⟨q1, h_q1, h⟩ := bnd h
  cases q1 with
  | er e3 =>
    try dsimp only at h
    (simp only [Option.some.injEq, Prod.mk.injEq] at h; first | subst h | (obtain ⟨_, _⟩ := h; subst_vars))
    exact sj_xexpr (ex_call C_check_factsX (hr.mono (by decide)) (by rfl) (aj_cons (ej_var (i := 0) rfl (by first | exact Or.inl rfl | exact Or.inr (Or.inl rfl) | exact Or.inr (Or.inr rfl)) rfl) (aj_cons (ej_var (i := 2) rfl (by first | exact Or.inl rfl | exact Or.inr (Or.inl rfl) | exact Or.inr (Or.inr rfl)) rfl) aj_nil)) rfl ⟨x_machine, x_career, _, h_q1, rfl, rfl⟩) (fun _ _ _ _ _ st_ pn_ q_ => ⟨_, rfl, xr_of st_ pn_ q_ (show List.Nodup ([] : List Nat) by decide) rfl⟩)
  | ok p2 =>
    try dsimp only at h
    refine sj_expr (ejx_callP (ss := [_, _]) C_check_factsX (hr.mono (by decide)) (by rfl) (aj_cons (ej_var (i := 0) rfl (by first | exact Or.inl rfl | exact Or.inr (Or.inl rfl) | exact Or.inr (Or.inr rfl)) rfl) (aj_cons (ej_var (i := 2) rfl (by first | exact Or.inl rfl | exact Or.inr (Or.inl rfl) | exact Or.inr (Or.inr rfl)) rfl) aj_nil)) ⟨x_machine, x_career, _, h_q1, rfl, rfl⟩) ?_
    show SJ _ _ _ [some (fz (t_Machine C_Machine) x_machine), some (fz tInt x_state), some (fz (tList tStr) x_career), none, none] _
    refine sj_set (i := 3) (s := (oL tInt [x_state])) sc_states_along.nd rfl (by first | exact Or.inl rfl | exact Or.inr rfl) (ej_oL (τ := tInt) (xs := [x_state]) (ej_lst (ss := [(fz tInt x_state)]) (aj_cons (ej_var (i := 1) rfl (by first | exact Or.inl rfl | exact Or.inr (Or.inl rfl) | exact Or.inr (Or.inr rfl)) rfl) aj_nil))) ?_
    show SJ _ _ _ [some (fz (t_Machine C_Machine) x_machine), some (fz tInt x_state), some (fz (tList tStr) x_career), some (oL tInt [x_state]), none] _
    obtain ⟨j10, h_j10, h⟩ := bnd h
    refine sj_for (sh := fz tStr) (Γs := fun (s4 : (List Int)) => [some (fz (t_Machine C_Machine) x_machine), some (fz tInt x_state), some (fz (tList tStr) x_career), some (oL tInt s4), none]) (Γy := fun (s4 : (List Int)) y5 => [some (fz (t_Machine C_Machine) x_machine), some (fz tInt x_state), some (fz (tList tStr) x_career), some (oL tInt s4), some (fz tStr y5)]) (fl := [true, true, true, true, true]) (rs_states_alongX cs C_Machine) (ls_states_alongX cs C_Machine) h_j10 (ij_lst (ej_var (i := 2) rfl (by first | exact Or.inl rfl | exact Or.inr (Or.inl rfl) | exact Or.inr (Or.inr rfl)) rfl)) rfl rfl (fun s4 y5 => (gj_name (i := 4) sc_states_along.nd rfl (by first | exact Or.inl rfl | exact Or.inr rfl))) ?_ ?_ pso rfl
    · intro s4 y5 o_ h_hy11 h
      clear h_j10; have h := h
      show SJ _ _ _ [some (fz (t_Machine C_Machine) x_machine), some (fz tInt x_state), some (fz (tList tStr) x_career), some (oL tInt s4), some (fz tStr y5)] _
      obtain ⟨t6, h_t6, h⟩ := bnd h
      obtain ⟨t7, h_t7, h⟩ := bnd h
      obtain ⟨t8, h_t8, h⟩ := bnd h
      obtain ⟨g9, h_g9, h⟩ := bnd h
      refine sj_expr (ej_app (i := 3) rfl (by first | exact Or.inl rfl | exact Or.inr (Or.inl rfl) | exact Or.inr (Or.inr rfl)) rfl (aj_cons (ej_dget (hu_of hr.room) rdd_fz h_t8 (ej_ix ix_list (v2_ixL rd_fz h_t7) (ej_fld (j := 1) (ej_var (i := 0) rfl (by first | exact Or.inl rfl | exact Or.inr (Or.inl rfl) | exact Or.inr (Or.inr rfl)) rfl) cl_Machine na_Machine_step rfl rfl) (ej_ixP ix_list (v2_ixL rd_oL h_t6) (pj_var (i := 3) rfl (by first | exact Or.inl rfl | exact Or.inr (Or.inl rfl) | exact Or.inr (Or.inr rfl)) rfl) (ej_neg ej_int) (fun _ _ => rfl)) (fun _ _ => rfl)) (ej_var (i := 4) rfl (by first | exact Or.inl rfl | exact Or.inr (Or.inl rfl) | exact Or.inr (Or.inr rfl)) rfl) (fun _ _ => rfl)) aj_nil) rfl (grd_iff h_g9).1) ?_
      show SJ _ _ _ [some (fz (t_Machine C_Machine) x_machine), some (fz tInt x_state), some (fz (tList tStr) x_career), some (oL tInt (s4 ++ [t8])), some (fz tStr y5)] _
      (simp only [Option.some.injEq, Prod.mk.injEq] at h; first | subst h | (obtain ⟨_, _⟩ := h; subst_vars))
      exact sj_end (fl := [true, true, true, true, false]) rfl rfl
    show SJ _ _ _ [some (fz (t_Machine C_Machine) x_machine), some (fz tInt x_state), some (fz (tList tStr) x_career), some (oL tInt j10), none] _
    (simp only [Option.some.injEq, Prod.mk.injEq] at h; first | subst h | (obtain ⟨_, _⟩ := h; subst_vars))
    exact sj_retX (rs := rs_states_alongX cs C_Machine) (ls := ls_states_alongX cs C_Machine) (y := j10) (ej_fz (ej_mov (i := 3) rfl (by first | exact Or.inl rfl | exact Or.inr (Or.inl rfl) | exact Or.inr (Or.inr rfl)) rfl) fz_oL) rfl rfl (show List.Nodup ([] : List Nat) by decide)

abbrev O_law_told_a : Type := (Int ⊕ Str)
def m_law_told_a (x_way : Unit) (x_machine : D_Machine) (x_state : Int) (x_career : (List Str)) : Option O_law_told_a := ((m_states_alongX x_machine x_state x_career).bind fun q1 => match q1 with | .er e3 => (grd (e3.1 ∈ (["UnknownFact"] : List Str) ∧ isX e3.1 "MovedyearsError" = true) ()).bind fun g4 => ((if (isX e3.1 "UnknownFact") = true then ((erS e3 "fact").bind fun t6 => some (Sum.inr t6 : (Int ⊕ Str))) else (some (Sum.inl (0 : Int) : (Int ⊕ Str))))) | .ok p2 => (some (Sum.inl (1 : Int) : (Int ⊕ Str))))
def rs_law_told_a (C_Machine : Addr) (C_fn_states_along : Addr) : O_law_told_a → Sh := fun o => (fz (tSum tInt tStr) o)
def ls_law_told_a (C_Machine : Addr) (C_fn_states_along : Addr) : O_law_told_a → List Sh := fun o => []
def P_law_told_a (C_Machine : Addr) (C_fn_states_along : Addr) : Phi := fun ss r L => ∃ (x_way : Unit) (x_machine : D_Machine) (x_state : Int) (x_career : (List Str)) (o : O_law_told_a), m_law_told_a x_way x_machine x_state x_career = some o ∧ ss = [(fz (tFn C_fn_states_along) x_way), (fz (t_Machine C_Machine) x_machine), (fz tInt x_state), (fz (tList tStr) x_career)] ∧ r = rs_law_told_a C_Machine C_fn_states_along o ∧ L = []
theorem ok_law_told_a {C_Machine : Addr} {C_fn_states_along : Addr} {cs : Str → Addr} (L_states_alongX : CalL P w K mg base (L2.CX P w) 4 C_fn_states_along ["machine", "state", "career"] (spX 3 (P_states_alongX cs C_Machine))) (gX_MovedyearsError : mg "MovedyearsError" = some (.ref (cs "MovedyearsError"))) (xm_MovedyearsError : ∀ c ∈ (["UnknownFact"] : List Str), PySem.W.exmOne K (.ref (cs c)) (.ref (cs "MovedyearsError")) = some (isX c "MovedyearsError")) (xe : ∀ c ∈ (["UnknownFact"] : List Str), ExI K (cs c)) (xk_UnknownFact : ∀ c ∈ (["UnknownFact"] : List Str), PySem.W.kitOne K (.ref (cs c)) (.ref (cs "UnknownFact")) = some (isX c "UnknownFact")) (gX_UnknownFact : mg "UnknownFact" = some (.ref (cs "UnknownFact"))) (m_isinstance : mg "isinstance" = none) (xf : ∀ c ∈ (["UnknownFact"] : List Str), XfC K (cs c)) (xn_fact : ∀ c ∈ (["UnknownFact"] : List Str), PySem.W.findIn K (.ref (cs c)) "fact" = some none) {f0 : Addr} {fd : FuncData} (D : Fun K "_law_told" "_law_told" s_law_told f0 fd) : FnG P w K mg base CX0 5 f0 fd ["way", "machine", "state", "career"] (spS 4 (P_law_told_a C_Machine C_fn_states_along)) := by
  refine Fun.okS D sc_law_told rfl (by decide) fun X0 s H A outer cdv E ss r L vs hr hlen hP => ?_
  obtain ⟨x_way, x_machine, x_state, x_career, o_, h, rfl, rfl, rfl⟩ := hP
  obtain ⟨v0, v1, v2, v3, rfl⟩ : ∃ v0 v1 v2 v3, vs = [v0, v1, v2, v3] := by
    match vs, hlen with
    | [v0, v1, v2, v3], _ => exact ⟨v0, v1, v2, v3, rfl⟩
  refine ⟨_, rs_law_told_a C_Machine C_fn_states_along, ls_law_told_a C_Machine C_fn_states_along, o_, [], rfl, rfl, (fun _ h => nomatch h), rfl, ?_⟩
  clear X0
  unfold m_law_told_a at h
  show SJ _ _ _ [some (fz (tFn C_fn_states_along) x_way), some (fz (t_Machine C_Machine) x_machine), some (fz tInt x_state), some (fz (tList tStr) x_career), none] _
  obtain ⟨q1, h_q1, h⟩ := bnd h
  cases q1 with
  | er e3 =>
    try dsimp only at h
    obtain ⟨g4, h_g4, h⟩ := bnd h
    refine sj_try_erN (i := 4) (z := erx cs e3) (Γh := [some (fz (tFn C_fn_states_along) x_way), some (fz (t_Machine C_Machine) x_machine), some (fz tInt x_state), some (fz (tList tStr) x_career), none]) (Γm := [some shF, none, none, none, none]) rfl rfl sc_law_told.nd rfl rfl ⟨by rfl, by decide, .inl gX_MovedyearsError⟩ (fun _ _ _ q_ => by rw [q_.1]; exact (xm_MovedyearsError _ (grd_iff h_g4).1.1).trans (congrArg some (grd_iff h_g4).1.2)) (fun pn_ xe_ pso_ => ?_) (fun a_ oe_ cls_ d_ pn_ hz_ hf_ => ?_) sj_nev (fun _ _ _ h_ => h_) (z_none rfl) (z_none rfl)
    · show SJ _ _ _ [some (fz (tFn C_fn_states_along) x_way), some (fz (t_Machine C_Machine) x_machine), some (fz tInt x_state), some (fz (tList tStr) x_career), none] _
      exact sj_xexpr (ex_callL (i := 0) L_states_alongX (hr.mono (by decide)) rfl (by first | exact Or.inl rfl | exact Or.inr (Or.inl rfl) | exact Or.inr (Or.inr rfl)) rfl (aj_cons (ej_var (i := 1) rfl (by first | exact Or.inl rfl | exact Or.inr (Or.inl rfl) | exact Or.inr (Or.inr rfl)) rfl) (aj_cons (ej_var (i := 2) rfl (by first | exact Or.inl rfl | exact Or.inr (Or.inl rfl) | exact Or.inr (Or.inr rfl)) rfl) (aj_cons (ej_var (i := 3) rfl (by first | exact Or.inl rfl | exact Or.inr (Or.inl rfl) | exact Or.inr (Or.inr rfl)) rfl) aj_nil))) rfl ⟨x_machine, x_state, x_career, _, h_q1, rfl, rfl⟩) (fun _ _ _ _ _ st_ _ q_ => ⟨st_, q_⟩)
    · show SJ _ _ _ [some (fz (tFn C_fn_states_along) x_way), some (fz (t_Machine C_Machine) x_machine), some (fz tInt x_state), some (fz (tList tStr) x_career), some (shE a_ cls_ d_ (erx cs e3))] _
      refine sj_ifT (t := (isX e3.1 "UnknownFact")) (tj_val (ej_xis (i := 4) (xe _ (grd_iff h_g4).1.1) (xk_UnknownFact _ (grd_iff h_g4).1.1) gX_UnknownFact (by rfl) m_isinstance bt_isinstance hz_ hf_ rfl (by first | exact Or.inl rfl | exact Or.inr (Or.inl rfl) | exact Or.inr (Or.inr rfl)) rfl (by rfl))) ?_ ?_
      · intro h_b5
        replace h := ifT h_b5 h
        show SJ _ _ _ [some (fz (tFn C_fn_states_along) x_way), some (fz (t_Machine C_Machine) x_machine), some (fz tInt x_state), some (fz (tList tStr) x_career), some (shE a_ cls_ d_ (erx cs e3))] _
        obtain ⟨t6, h_t6, h⟩ := bnd h
        (simp only [Option.some.injEq, Prod.mk.injEq] at h; first | subst h | (obtain ⟨_, _⟩ := h; subst_vars))
        exact sj_ret (rs := rs_law_told_a C_Machine C_fn_states_along) (ls := ls_law_told_a C_Machine C_fn_states_along) (y := (Sum.inr t6 : (Int ⊕ Str))) (ej_inr (ej_xfld (i := 4) (xf _ (grd_iff h_g4).1.1) (xn_fact _ (grd_iff h_g4).1.1) hz_ hf_ rfl (by first | exact Or.inl rfl | exact Or.inr (Or.inl rfl) | exact Or.inr (Or.inr rfl)) rfl (erS_lk h_t6) (fun _ => rfl))) rfl rfl (show List.Nodup ([] : List Nat) by decide) rfl
      intro h_b5
      replace h := ifF h_b5 h
      show SJ _ _ _ [some (fz (tFn C_fn_states_along) x_way), some (fz (t_Machine C_Machine) x_machine), some (fz tInt x_state), some (fz (tList tStr) x_career), some (shE a_ cls_ d_ (erx cs e3))] _
      (simp only [Option.some.injEq, Prod.mk.injEq] at h; first | subst h | (obtain ⟨_, _⟩ := h; subst_vars))
      exact sj_ret (rs := rs_law_told_a C_Machine C_fn_states_along) (ls := ls_law_told_a C_Machine C_fn_states_along) (y := (Sum.inl (0 : Int) : (Int ⊕ Str))) (ej_inl ej_int) rfl rfl (show List.Nodup ([] : List Nat) by decide) rfl
  | ok p2 =>
    try dsimp only at h
    refine sj_try_okN (i := 4) (Γm := [some (fz (tFn C_fn_states_along) x_way), some (fz (t_Machine C_Machine) x_machine), some (fz tInt x_state), some (fz (tList tStr) x_career), none]) rfl rfl sc_law_told.nd rfl rfl ⟨by rfl, by decide, .inl gX_MovedyearsError⟩ (fun pn_ xe_ pso_ => ?_) ?_
    · show SJ _ _ _ [some (fz (tFn C_fn_states_along) x_way), some (fz (t_Machine C_Machine) x_machine), some (fz tInt x_state), some (fz (tList tStr) x_career), none] _
      exact sj_expr (ejx_callL (i := 0) (ss := [_, _, _]) L_states_alongX (hr.mono (by decide)) rfl (by first | exact Or.inl rfl | exact Or.inr (Or.inl rfl) | exact Or.inr (Or.inr rfl)) rfl (aj_cons (ej_var (i := 1) rfl (by first | exact Or.inl rfl | exact Or.inr (Or.inl rfl) | exact Or.inr (Or.inr rfl)) rfl) (aj_cons (ej_var (i := 2) rfl (by first | exact Or.inl rfl | exact Or.inr (Or.inl rfl) | exact Or.inr (Or.inr rfl)) rfl) (aj_cons (ej_var (i := 3) rfl (by first | exact Or.inl rfl | exact Or.inr (Or.inl rfl) | exact Or.inr (Or.inr rfl)) rfl) aj_nil))) ⟨x_machine, x_state, x_career, _, h_q1, rfl, rfl⟩) (sj_nil fun _ _ _ st_ _ => st_)
    show SJ _ _ _ [some (fz (tFn C_fn_states_along) x_way), some (fz (t_Machine C_Machine) x_machine), some (fz tInt x_state), some (fz (tList tStr) x_career), none] _
    (simp only [Option.some.injEq, Prod.mk.injEq] at h; first | subst h | (obtain ⟨_, _⟩ := h; subst_vars))
    exact sj_ret (rs := rs_law_told_a C_Machine C_fn_states_along) (ls := ls_law_told_a C_Machine C_fn_states_along) (y := (Sum.inl (1 : Int) : (Int ⊕ Str))) (ej_inl ej_int) rfl rfl (show List.Nodup ([] : List Nat) by decide) rfl

abbrev O_state_afterX : Type := Int
abbrev E_state_afterX : Type := Er
def m_state_afterX (x_machine : D_Machine) (x_state : Int) (x_career : (List Str)) : Option (Rs E_state_afterX O_state_afterX) := ((m_states_alongX x_machine x_state x_career).bind fun q1 => match q1 with | .er e3 => some (Rs.er e3) | .ok p2 => ((atI p2 (-(1 : Int))).bind fun t4 => some (Rs.ok t4)))
def rs_state_afterX (cs : Str → Addr) (C_Machine : Addr) : O_state_afterX → Sh := fun o => (fz tInt o)
def ls_state_afterX (cs : Str → Addr) (C_Machine : Addr) : O_state_afterX → List Sh := fun o => []
def xs_state_afterX (cs : Str → Addr) (C_Machine : Addr) : E_state_afterX → Xh := fun e => erx cs e
def xl_state_afterX (cs : Str → Addr) (C_Machine : Addr) : E_state_afterX → List Sh := fun e => []
def P_state_afterX (cs : Str → Addr) (C_Machine : Addr) : Phx := fun ss z => ∃ (x_machine : D_Machine) (x_state : Int) (x_career : (List Str)) (o : Rs E_state_afterX O_state_afterX), m_state_afterX x_machine x_state x_career = some o ∧ ss = [(fz (t_Machine C_Machine) x_machine), (fz tInt x_state), (fz (tList tStr) x_career)] ∧ z = (match o with | .ok y => .inl (rs_state_afterX cs C_Machine y, []) | .er e => .inr (xs_state_afterX cs C_Machine e, []))
theorem ok_state_afterX {C_Machine : Addr} {cs : Str → Addr} (C_states_alongX : CalG P w K mg base (L2.CX P w) 4 "states_along" ["machine", "state", "career"] (spX 3 (P_states_alongX cs C_Machine))) {f0 : Addr} {fd : FuncData} (D : Fun K "state_after" "state_after" s_state_after f0 fd) : FnG P w K mg base (L2.CX P w) 5 f0 fd ["machine", "state", "career"] (spX 3 (P_state_afterX cs C_Machine)) := by
  refine Fun.okX D sc_state_after rfl (by decide) fun s H A outer cdv E ss z vs hr hlen hP pso => ?_
  obtain ⟨x_machine, x_state, x_career, o_, h, rfl, rfl⟩ := hP
  obtain ⟨v0, v1, v2, rfl⟩ : ∃ v0 v1 v2, vs = [v0, v1, v2] := by
    match vs, hlen with
    | [v0, v1, v2], _ => exact ⟨v0, v1, v2, rfl⟩
  refine ⟨_, _, rs_state_afterX cs C_Machine, ls_state_afterX cs C_Machine, xs_state_afterX cs C_Machine, xl_state_afterX cs C_Machine, o_, [], (by cases o_ <;> exact ⟨rfl, rfl, rfl⟩), (fun _ h => nomatch h), ?_⟩
  unfold m_state_afterX at h
  show SJ _ _ _ [some (fz (t_Machine C_Machine) x_machine), some (fz tInt x_state), some (fz (tList tStr) x_career)] _
  obtain ⟨q1, h_q1, h⟩ := bnd h
  cases q1 with
  | er e3 =>
    try dsimp only at h
    (simp only [Option.some.injEq, Prod.mk.injEq] at h; first | subst h | (obtain ⟨_, _⟩ := h; subst_vars))
    exact sj_xret (ex_ix ix_list (ex_call C_states_alongX (hr.mono (by decide)) (by rfl) (aj_cons (ej_var (i := 0) rfl (by first | exact Or.inl rfl | exact Or.inr (Or.inl rfl) | exact Or.inr (Or.inr rfl)) rfl) (aj_cons (ej_var (i := 1) rfl (by first | exact Or.inl rfl | exact Or.inr (Or.inl rfl) | exact Or.inr (Or.inr rfl)) rfl) (aj_cons (ej_var (i := 2) rfl (by first | exact Or.inl rfl | exact Or.inr (Or.inl rfl) | exact Or.inr (Or.inr rfl)) rfl) aj_nil))) rfl ⟨x_machine, x_state, x_career, _, h_q1, rfl, rfl⟩) pe_none (fun _ _ => rfl)) (fun _ _ _ _ _ st_ pn_ q_ => ⟨_, rfl, xr_of st_ pn_ q_ (show List.Nodup ([] : List Nat) by decide) rfl⟩)
  | ok p2 =>
    try dsimp only at h
    obtain ⟨t4, h_t4, h⟩ := bnd h
    (simp only [Option.some.injEq, Prod.mk.injEq] at h; first | subst h | (obtain ⟨_, _⟩ := h; subst_vars))
    exact sj_retX (rs := rs_state_afterX cs C_Machine) (ls := ls_state_afterX cs C_Machine) (y := t4) (ej_ix ix_list (v2_ixL rd_fz h_t4) (ejx_callP (ss := [_, _, _]) C_states_alongX (hr.mono (by decide)) (by rfl) (aj_cons (ej_var (i := 0) rfl (by first | exact Or.inl rfl | exact Or.inr (Or.inl rfl) | exact Or.inr (Or.inr rfl)) rfl) (aj_cons (ej_var (i := 1) rfl (by first | exact Or.inl rfl | exact Or.inr (Or.inl rfl) | exact Or.inr (Or.inr rfl)) rfl) (aj_cons (ej_var (i := 2) rfl (by first | exact Or.inl rfl | exact Or.inr (Or.inl rfl) | exact Or.inr (Or.inr rfl)) rfl) aj_nil))) ⟨x_machine, x_state, x_career, _, h_q1, rfl, rfl⟩) (ej_neg ej_int) (fun _ _ => rfl)) rfl rfl (show List.Nodup ([] : List Nat) by decide)

abbrev O_law_told_b : Type := (Int ⊕ Str)
def m_law_told_b (x_way : Unit) (x_machine : D_Machine) (x_state : Int) (x_career : (List Str)) : Option O_law_told_b := ((m_state_afterX x_machine x_state x_career).bind fun q1 => match q1 with | .er e3 => (grd (e3.1 ∈ (["UnknownFact"] : List Str) ∧ isX e3.1 "MovedyearsError" = true) ()).bind fun g4 => ((if (isX e3.1 "UnknownFact") = true then ((erS e3 "fact").bind fun t6 => some (Sum.inr t6 : (Int ⊕ Str))) else (some (Sum.inl (0 : Int) : (Int ⊕ Str))))) | .ok p2 => (some (Sum.inl (1 : Int) : (Int ⊕ Str))))
def rs_law_told_b (C_Machine : Addr) (C_fn_state_after : Addr) : O_law_told_b → Sh := fun o => (fz (tSum tInt tStr) o)
def ls_law_told_b (C_Machine : Addr) (C_fn_state_after : Addr) : O_law_told_b → List Sh := fun o => []
def P_law_told_b (C_Machine : Addr) (C_fn_state_after : Addr) : Phi := fun ss r L => ∃ (x_way : Unit) (x_machine : D_Machine) (x_state : Int) (x_career : (List Str)) (o : O_law_told_b), m_law_told_b x_way x_machine x_state x_career = some o ∧ ss = [(fz (tFn C_fn_state_after) x_way), (fz (t_Machine C_Machine) x_machine), (fz tInt x_state), (fz (tList tStr) x_career)] ∧ r = rs_law_told_b C_Machine C_fn_state_after o ∧ L = []
theorem ok_law_told_b {C_Machine : Addr} {C_fn_state_after : Addr} {cs : Str → Addr} (L_state_afterX : CalL P w K mg base (L2.CX P w) 5 C_fn_state_after ["machine", "state", "career"] (spX 3 (P_state_afterX cs C_Machine))) (gX_MovedyearsError : mg "MovedyearsError" = some (.ref (cs "MovedyearsError"))) (xm_MovedyearsError : ∀ c ∈ (["UnknownFact"] : List Str), PySem.W.exmOne K (.ref (cs c)) (.ref (cs "MovedyearsError")) = some (isX c "MovedyearsError")) (xe : ∀ c ∈ (["UnknownFact"] : List Str), ExI K (cs c)) (xk_UnknownFact : ∀ c ∈ (["UnknownFact"] : List Str), PySem.W.kitOne K (.ref (cs c)) (.ref (cs "UnknownFact")) = some (isX c "UnknownFact")) (gX_UnknownFact : mg "UnknownFact" = some (.ref (cs "UnknownFact"))) (m_isinstance : mg "isinstance" = none) (xf : ∀ c ∈ (["UnknownFact"] : List Str), XfC K (cs c)) (xn_fact : ∀ c ∈ (["UnknownFact"] : List Str), PySem.W.findIn K (.ref (cs c)) "fact" = some none) {f0 : Addr} {fd : FuncData} (D : Fun K "_law_told" "_law_told" s_law_told f0 fd) : FnG P w K mg base CX0 6 f0 fd ["way", "machine", "state", "career"] (spS 4 (P_law_told_b C_Machine C_fn_state_after)) := by
  refine Fun.okS D sc_law_told rfl (by decide) fun X0 s H A outer cdv E ss r L vs hr hlen hP => ?_
  obtain ⟨x_way, x_machine, x_state, x_career, o_, h, rfl, rfl, rfl⟩ := hP
  obtain ⟨v0, v1, v2, v3, rfl⟩ : ∃ v0 v1 v2 v3, vs = [v0, v1, v2, v3] := by
    match vs, hlen with
    | [v0, v1, v2, v3], _ => exact ⟨v0, v1, v2, v3, rfl⟩
  refine ⟨_, rs_law_told_b C_Machine C_fn_state_after, ls_law_told_b C_Machine C_fn_state_after, o_, [], rfl, rfl, (fun _ h => nomatch h), rfl, ?_⟩
  clear X0
  unfold m_law_told_b at h
  show SJ _ _ _ [some (fz (tFn C_fn_state_after) x_way), some (fz (t_Machine C_Machine) x_machine), some (fz tInt x_state), some (fz (tList tStr) x_career), none] _
  obtain ⟨q1, h_q1, h⟩ := bnd h
  cases q1 with
  | er e3 =>
    try dsimp only at h
    obtain ⟨g4, h_g4, h⟩ := bnd h
    refine sj_try_erN (i := 4) (z := erx cs e3) (Γh := [some (fz (tFn C_fn_state_after) x_way), some (fz (t_Machine C_Machine) x_machine), some (fz tInt x_state), some (fz (tList tStr) x_career), none]) (Γm := [some shF, none, none, none, none]) rfl rfl sc_law_told.nd rfl rfl ⟨by rfl, by decide, .inl gX_MovedyearsError⟩ (fun _ _ _ q_ => by rw [q_.1]; exact (xm_MovedyearsError _ (grd_iff h_g4).1.1).trans (congrArg some (grd_iff h_g4).1.2)) (fun pn_ xe_ pso_ => ?_) (fun a_ oe_ cls_ d_ pn_ hz_ hf_ => ?_) sj_nev (fun _ _ _ h_ => h_) (z_none rfl) (z_none rfl)
    · show SJ _ _ _ [some (fz (tFn C_fn_state_after) x_way), some (fz (t_Machine C_Machine) x_machine), some (fz tInt x_state), some (fz (tList tStr) x_career), none] _
      exact sj_xexpr (ex_callL (i := 0) L_state_afterX (hr.mono (by decide)) rfl (by first | exact Or.inl rfl | exact Or.inr (Or.inl rfl) | exact Or.inr (Or.inr rfl)) rfl (aj_cons (ej_var (i := 1) rfl (by first | exact Or.inl rfl | exact Or.inr (Or.inl rfl) | exact Or.inr (Or.inr rfl)) rfl) (aj_cons (ej_var (i := 2) rfl (by first | exact Or.inl rfl | exact Or.inr (Or.inl rfl) | exact Or.inr (Or.inr rfl)) rfl) (aj_cons (ej_var (i := 3) rfl (by first | exact Or.inl rfl | exact Or.inr (Or.inl rfl) | exact Or.inr (Or.inr rfl)) rfl) aj_nil))) rfl ⟨x_machine, x_state, x_career, _, h_q1, rfl, rfl⟩) (fun _ _ _ _ _ st_ _ q_ => ⟨st_, q_⟩)
    · show SJ _ _ _ [some (fz (tFn C_fn_state_after) x_way), some (fz (t_Machine C_Machine) x_machine), some (fz tInt x_state), some (fz (tList tStr) x_career), some (shE a_ cls_ d_ (erx cs e3))] _
      refine sj_ifT (t := (isX e3.1 "UnknownFact")) (tj_val (ej_xis (i := 4) (xe _ (grd_iff h_g4).1.1) (xk_UnknownFact _ (grd_iff h_g4).1.1) gX_UnknownFact (by rfl) m_isinstance bt_isinstance hz_ hf_ rfl (by first | exact Or.inl rfl | exact Or.inr (Or.inl rfl) | exact Or.inr (Or.inr rfl)) rfl (by rfl))) ?_ ?_
      · intro h_b5
        replace h := ifT h_b5 h
        show SJ _ _ _ [some (fz (tFn C_fn_state_after) x_way), some (fz (t_Machine C_Machine) x_machine), some (fz tInt x_state), some (fz (tList tStr) x_career), some (shE a_ cls_ d_ (erx cs e3))] _
        obtain ⟨t6, h_t6, h⟩ := bnd h
        (simp only [Option.some.injEq, Prod.mk.injEq] at h; first | subst h | (obtain ⟨_, _⟩ := h; subst_vars))
        exact sj_ret (rs := rs_law_told_b C_Machine C_fn_state_after) (ls := ls_law_told_b C_Machine C_fn_state_after) (y := (Sum.inr t6 : (Int ⊕ Str))) (ej_inr (ej_xfld (i := 4) (xf _ (grd_iff h_g4).1.1) (xn_fact _ (grd_iff h_g4).1.1) hz_ hf_ rfl (by first | exact Or.inl rfl | exact Or.inr (Or.inl rfl) | exact Or.inr (Or.inr rfl)) rfl (erS_lk h_t6) (fun _ => rfl))) rfl rfl (show List.Nodup ([] : List Nat) by decide) rfl
      intro h_b5
      replace h := ifF h_b5 h
      show SJ _ _ _ [some (fz (tFn C_fn_state_after) x_way), some (fz (t_Machine C_Machine) x_machine), some (fz tInt x_state), some (fz (tList tStr) x_career), some (shE a_ cls_ d_ (erx cs e3))] _
      (simp only [Option.some.injEq, Prod.mk.injEq] at h; first | subst h | (obtain ⟨_, _⟩ := h; subst_vars))
      exact sj_ret (rs := rs_law_told_b C_Machine C_fn_state_after) (ls := ls_law_told_b C_Machine C_fn_state_after) (y := (Sum.inl (0 : Int) : (Int ⊕ Str))) (ej_inl ej_int) rfl rfl (show List.Nodup ([] : List Nat) by decide) rfl
  | ok p2 =>
    try dsimp only at h
    refine sj_try_okN (i := 4) (Γm := [some (fz (tFn C_fn_state_after) x_way), some (fz (t_Machine C_Machine) x_machine), some (fz tInt x_state), some (fz (tList tStr) x_career), none]) rfl rfl sc_law_told.nd rfl rfl ⟨by rfl, by decide, .inl gX_MovedyearsError⟩ (fun pn_ xe_ pso_ => ?_) ?_
    · show SJ _ _ _ [some (fz (tFn C_fn_state_after) x_way), some (fz (t_Machine C_Machine) x_machine), some (fz tInt x_state), some (fz (tList tStr) x_career), none] _
      exact sj_expr (ejx_callL (i := 0) (ss := [_, _, _]) L_state_afterX (hr.mono (by decide)) rfl (by first | exact Or.inl rfl | exact Or.inr (Or.inl rfl) | exact Or.inr (Or.inr rfl)) rfl (aj_cons (ej_var (i := 1) rfl (by first | exact Or.inl rfl | exact Or.inr (Or.inl rfl) | exact Or.inr (Or.inr rfl)) rfl) (aj_cons (ej_var (i := 2) rfl (by first | exact Or.inl rfl | exact Or.inr (Or.inl rfl) | exact Or.inr (Or.inr rfl)) rfl) (aj_cons (ej_var (i := 3) rfl (by first | exact Or.inl rfl | exact Or.inr (Or.inl rfl) | exact Or.inr (Or.inr rfl)) rfl) aj_nil))) ⟨x_machine, x_state, x_career, _, h_q1, rfl, rfl⟩) (sj_nil fun _ _ _ st_ _ => st_)
    show SJ _ _ _ [some (fz (tFn C_fn_state_after) x_way), some (fz (t_Machine C_Machine) x_machine), some (fz tInt x_state), some (fz (tList tStr) x_career), none] _
    (simp only [Option.some.injEq, Prod.mk.injEq] at h; first | subst h | (obtain ⟨_, _⟩ := h; subst_vars))
    exact sj_ret (rs := rs_law_told_b C_Machine C_fn_state_after) (ls := ls_law_told_b C_Machine C_fn_state_after) (y := (Sum.inl (1 : Int) : (Int ⊕ Str))) (ej_inl ej_int) rfl rfl (show List.Nodup ([] : List Nat) by decide) rfl

abbrev O_gains_ofX : Type := (List Int)
abbrev E_gains_ofX : Type := Er
def m_gains_ofX (x_machine : D_Machine) (x_state : Int) (x_career : (List Str)) : Option (Rs E_gains_ofX O_gains_ofX) := ((m_states_alongX x_machine x_state x_career).bind fun q1 => match q1 with | .er e3 => some (Rs.er e3) | .ok p2 => (((grd (Sm (((p2).zip x_career)).length) ()).bind fun g5 => (mapC (fun (y4 : (Int × Str)) => ((atI x_machine.gain y4.1).bind fun t6 => (aget t6 y4.2).bind fun t7 => some (some t7))) ((p2).zip x_career)).bind fun t8 => some (Rs.ok t8))))
def rs_gains_ofX (cs : Str → Addr) (C_Machine : Addr) : O_gains_ofX → Sh := fun o => (fz (tList tInt) o)
def ls_gains_ofX (cs : Str → Addr) (C_Machine : Addr) : O_gains_ofX → List Sh := fun o => []
def xs_gains_ofX (cs : Str → Addr) (C_Machine : Addr) : E_gains_ofX → Xh := fun e => erx cs e
def xl_gains_ofX (cs : Str → Addr) (C_Machine : Addr) : E_gains_ofX → List Sh := fun e => []
def P_gains_ofX (cs : Str → Addr) (C_Machine : Addr) : Phx := fun ss z => ∃ (x_machine : D_Machine) (x_state : Int) (x_career : (List Str)) (o : Rs E_gains_ofX O_gains_ofX), m_gains_ofX x_machine x_state x_career = some o ∧ ss = [(fz (t_Machine C_Machine) x_machine), (fz tInt x_state), (fz (tList tStr) x_career)] ∧ z = (match o with | .ok y => .inl (rs_gains_ofX cs C_Machine y, []) | .er e => .inr (xs_gains_ofX cs C_Machine e, []))
theorem ok_gains_ofX {C_Machine : Addr} {cs : Str → Addr} (C_states_alongX : CalG P w K mg base (L2.CX P w) 4 "states_along" ["machine", "state", "career"] (spX 3 (P_states_alongX cs C_Machine))) (m_zip : mg "zip" = none) (cl_Machine : Cls K C_Machine) (na_Machine_gain : NoAttr K C_Machine "gain") {f0 : Addr} {fd : FuncData} (D : Fun K "gains_of" "gains_of" s_gains_of f0 fd) : FnG P w K mg base (L2.CX P w) 5 f0 fd ["machine", "state", "career"] (spX 3 (P_gains_ofX cs C_Machine)) := by
  refine Fun.okX D sc_gains_of rfl (by decide) fun s H A outer cdv E ss z vs hr hlen hP pso => ?_
  obtain ⟨x_machine, x_state, x_career, o_, h, rfl, rfl⟩ := hP
  obtain ⟨v0, v1, v2, rfl⟩ : ∃ v0 v1 v2, vs = [v0, v1, v2] := by
    match vs, hlen with
    | [v0, v1, v2], _ => exact ⟨v0, v1, v2, rfl⟩
  refine ⟨_, _, rs_gains_ofX cs C_Machine, ls_gains_ofX cs C_Machine, xs_gains_ofX cs C_Machine, xl_gains_ofX cs C_Machine, o_, [], (by cases o_ <;> exact ⟨rfl, rfl, rfl⟩), (fun _ h => nomatch h), ?_⟩
  unfold m_gains_ofX at h
  show SJ _ _ _ [some (fz (t_Machine C_Machine) x_machine), some (fz tInt x_state), some (fz (tList tStr) x_career), none, none, none] _
  obtain ⟨q1, h_q1, h⟩ := bnd h
  cases q1 with
  | er e3 =>
    try dsimp only at h
    (simp only [Option.some.injEq, Prod.mk.injEq] at h; first | subst h | (obtain ⟨_, _⟩ := h; subst_vars))
    exact sj_xset (i := 3) (ex_call C_states_alongX (hr.mono (by decide)) (by rfl) (aj_cons (ej_var (i := 0) rfl (by first | exact Or.inl rfl | exact Or.inr (Or.inl rfl) | exact Or.inr (Or.inr rfl)) rfl) (aj_cons (ej_var (i := 1) rfl (by first | exact Or.inl rfl | exact Or.inr (Or.inl rfl) | exact Or.inr (Or.inr rfl)) rfl) (aj_cons (ej_var (i := 2) rfl (by first | exact Or.inl rfl | exact Or.inr (Or.inl rfl) | exact Or.inr (Or.inr rfl)) rfl) aj_nil))) rfl ⟨x_machine, x_state, x_career, _, h_q1, rfl, rfl⟩) (fun _ _ _ _ _ st_ pn_ q_ => ⟨_, rfl, xr_of st_ pn_ q_ (show List.Nodup ([] : List Nat) by decide) rfl⟩) sc_gains_of.nd rfl (by first | exact Or.inl rfl | exact Or.inr rfl)
  | ok p2 =>
    try dsimp only at h
    refine sj_set (i := 3) (s := (fz (tList tInt) p2)) sc_gains_of.nd rfl (by first | exact Or.inl rfl | exact Or.inr rfl) (ejx_callP (ss := [_, _, _]) C_states_alongX (hr.mono (by decide)) (by rfl) (aj_cons (ej_var (i := 0) rfl (by first | exact Or.inl rfl | exact Or.inr (Or.inl rfl) | exact Or.inr (Or.inr rfl)) rfl) (aj_cons (ej_var (i := 1) rfl (by first | exact Or.inl rfl | exact Or.inr (Or.inl rfl) | exact Or.inr (Or.inr rfl)) rfl) (aj_cons (ej_var (i := 2) rfl (by first | exact Or.inl rfl | exact Or.inr (Or.inl rfl) | exact Or.inr (Or.inr rfl)) rfl) aj_nil))) ⟨x_machine, x_state, x_career, _, h_q1, rfl, rfl⟩) ?_
    show SJ _ _ _ [some (fz (t_Machine C_Machine) x_machine), some (fz tInt x_state), some (fz (tList tStr) x_career), some (fz (tList tInt) p2), none, none] _
    obtain ⟨g5, h_g5, h⟩ := bnd h
    obtain ⟨t8, h_t8, h⟩ := bnd h
    (simp only [Option.some.injEq, Prod.mk.injEq] at h; first | subst h | (obtain ⟨_, _⟩ := h; subst_vars))
    exact sj_retX (rs := rs_gains_ofX cs C_Machine) (ls := ls_gains_ofX cs C_Machine) (y := t8) (ej_fz (lcj_e (lcP (Γy := fun y4 => [some (fz (t_Machine C_Machine) x_machine), some (fz tInt x_state), some (fz (tList tStr) x_career), some (fz (tList tInt) p2), some (fz tInt y4.1), some (fz tStr y4.2)]) (own := [("at", 4), ("fact", 5)]) (fun _ _ _ _ _ y4 => (gj0_p2 rfl (gs0_cons (gj0_name (i := 4) sc_gains_of.nd rfl (by first | exact Or.inl rfl | exact Or.inr rfl) (z_none rfl)) (gs0_cons (gj0_name (i := 5) sc_gains_of.nd rfl (by first | exact Or.inl rfl | exact Or.inr rfl) (z_none rfl)) gs0_nil)))) (fun _ _ _ _ _ y4 oz hm h => (by have h := h; obtain ⟨t6, h_t6, h⟩ := bnd h; obtain ⟨t7, h_t7, h⟩ := bnd h;  (simp only [Option.some.injEq, Prod.mk.injEq] at h; first | subst h | (obtain ⟨_, _⟩ := h; subst_vars)); exact ts_nil)) (fun _ _ _ _ _ y4 z hm h => (by have h := h; obtain ⟨t6, h_t6, h⟩ := bnd h; obtain ⟨t7, h_t7, h⟩ := bnd h;  (simp only [Option.some.injEq, Prod.mk.injEq] at h; first | subst h | (obtain ⟨_, _⟩ := h; subst_vars)); exact (ej_dget (hu_of hr.room) rdd_fz h_t7 (ej_ix ix_list (v2_ixL rd_fz h_t6) (ej_fld (j := 2) (ej_var (i := 0) rfl (by first | exact Or.inl rfl | exact Or.inr (Or.inl rfl) | exact Or.inr (Or.inr rfl)) rfl) cl_Machine na_Machine_gain rfl rfl) (ej_var (i := 4) rfl (by first | exact Or.inl rfl | exact Or.inr (Or.inl rfl) | exact Or.inr (Or.inr rfl)) rfl) (fun _ _ => rfl)) (ej_var (i := 5) rfl (by first | exact Or.inl rfl | exact Or.inr (Or.inl rfl) | exact Or.inr (Or.inr rfl)) rfl) (fun _ _ => rfl)))) h_t8 (grd_iff h_g5).1 rfl sc_gains_of.nd (ij_zip (by rfl) m_zip (aj_cons (ej_var (i := 3) rfl (by first | exact Or.inl rfl | exact Or.inr (Or.inl rfl) | exact Or.inr (Or.inr rfl)) rfl) (aj_cons (ej_var (i := 2) rfl (by first | exact Or.inl rfl | exact Or.inr (Or.inl rfl) | exact Or.inr (Or.inr rfl)) rfl) aj_nil))) (blkOk_by (own := [("at", 4), ("fact", 5)]) (N := n_gains_of) (sc := defScope s_gains_of) (by decide +kernel)) ⟨z_none rfl, z_none rfl, trivial⟩)) fz_oL) rfl rfl (show List.Nodup ([] : List Nat) by decide)

abbrev O_law_told_c : Type := (Int ⊕ Str)
def m_law_told_c (x_way : Unit) (x_machine : D_Machine) (x_state : Int) (x_career : (List Str)) : Option O_law_told_c := ((m_gains_ofX x_machine x_state x_career).bind fun q1 => match q1 with | .er e3 => (grd (e3.1 ∈ (["UnknownFact"] : List Str) ∧ isX e3.1 "MovedyearsError" = true) ()).bind fun g4 => ((if (isX e3.1 "UnknownFact") = true then ((erS e3 "fact").bind fun t6 => some (Sum.inr t6 : (Int ⊕ Str))) else (some (Sum.inl (0 : Int) : (Int ⊕ Str))))) | .ok p2 => (some (Sum.inl (1 : Int) : (Int ⊕ Str))))
def rs_law_told_c (C_Machine : Addr) (C_fn_gains_of : Addr) : O_law_told_c → Sh := fun o => (fz (tSum tInt tStr) o)
def ls_law_told_c (C_Machine : Addr) (C_fn_gains_of : Addr) : O_law_told_c → List Sh := fun o => []
def P_law_told_c (C_Machine : Addr) (C_fn_gains_of : Addr) : Phi := fun ss r L => ∃ (x_way : Unit) (x_machine : D_Machine) (x_state : Int) (x_career : (List Str)) (o : O_law_told_c), m_law_told_c x_way x_machine x_state x_career = some o ∧ ss = [(fz (tFn C_fn_gains_of) x_way), (fz (t_Machine C_Machine) x_machine), (fz tInt x_state), (fz (tList tStr) x_career)] ∧ r = rs_law_told_c C_Machine C_fn_gains_of o ∧ L = []
theorem ok_law_told_c {C_Machine : Addr} {C_fn_gains_of : Addr} {cs : Str → Addr} (L_gains_ofX : CalL P w K mg base (L2.CX P w) 5 C_fn_gains_of ["machine", "state", "career"] (spX 3 (P_gains_ofX cs C_Machine))) (gX_MovedyearsError : mg "MovedyearsError" = some (.ref (cs "MovedyearsError"))) (xm_MovedyearsError : ∀ c ∈ (["UnknownFact"] : List Str), PySem.W.exmOne K (.ref (cs c)) (.ref (cs "MovedyearsError")) = some (isX c "MovedyearsError")) (xe : ∀ c ∈ (["UnknownFact"] : List Str), ExI K (cs c)) (xk_UnknownFact : ∀ c ∈ (["UnknownFact"] : List Str), PySem.W.kitOne K (.ref (cs c)) (.ref (cs "UnknownFact")) = some (isX c "UnknownFact")) (gX_UnknownFact : mg "UnknownFact" = some (.ref (cs "UnknownFact"))) (m_isinstance : mg "isinstance" = none) (xf : ∀ c ∈ (["UnknownFact"] : List Str), XfC K (cs c)) (xn_fact : ∀ c ∈ (["UnknownFact"] : List Str), PySem.W.findIn K (.ref (cs c)) "fact" = some none) {f0 : Addr} {fd : FuncData} (D : Fun K "_law_told" "_law_told" s_law_told f0 fd) : FnG P w K mg base CX0 6 f0 fd ["way", "machine", "state", "career"] (spS 4 (P_law_told_c C_Machine C_fn_gains_of)) := by
  refine Fun.okS D sc_law_told rfl (by decide) fun X0 s H A outer cdv E ss r L vs hr hlen hP => ?_
  obtain ⟨x_way, x_machine, x_state, x_career, o_, h, rfl, rfl, rfl⟩ := hP
  obtain ⟨v0, v1, v2, v3, rfl⟩ : ∃ v0 v1 v2 v3, vs = [v0, v1, v2, v3] := by
    match vs, hlen with
    | [v0, v1, v2, v3], _ => exact ⟨v0, v1, v2, v3, rfl⟩
  refine ⟨_, rs_law_told_c C_Machine C_fn_gains_of, ls_law_told_c C_Machine C_fn_gains_of, o_, [], rfl, rfl, (fun _ h => nomatch h), rfl, ?_⟩
  clear X0
  unfold m_law_told_c at h
  show SJ _ _ _ [some (fz (tFn C_fn_gains_of) x_way), some (fz (t_Machine C_Machine) x_machine), some (fz tInt x_state), some (fz (tList tStr) x_career), none] _
  obtain ⟨q1, h_q1, h⟩ := bnd h
  cases q1 with
  | er e3 =>
    try dsimp only at h
    obtain ⟨g4, h_g4, h⟩ := bnd h
    refine sj_try_erN (i := 4) (z := erx cs e3) (Γh := [some (fz (tFn C_fn_gains_of) x_way), some (fz (t_Machine C_Machine) x_machine), some (fz tInt x_state), some (fz (tList tStr) x_career), none]) (Γm := [some shF, none, none, none, none]) rfl rfl sc_law_told.nd rfl rfl ⟨by rfl, by decide, .inl gX_MovedyearsError⟩ (fun _ _ _ q_ => by rw [q_.1]; exact (xm_MovedyearsError _ (grd_iff h_g4).1.1).trans (congrArg some (grd_iff h_g4).1.2)) (fun pn_ xe_ pso_ => ?_) (fun a_ oe_ cls_ d_ pn_ hz_ hf_ => ?_) sj_nev (fun _ _ _ h_ => h_) (z_none rfl) (z_none rfl)
    · show SJ _ _ _ [some (fz (tFn C_fn_gains_of) x_way), some (fz (t_Machine C_Machine) x_machine), some (fz tInt x_state), some (fz (tList tStr) x_career), none] _
      exact sj_xexpr (ex_callL (i := 0) L_gains_ofX (hr.mono (by decide)) rfl (by first | exact Or.inl rfl | exact Or.inr (Or.inl rfl) | exact Or.inr (Or.inr rfl)) rfl (aj_cons (ej_var (i := 1) rfl (by first | exact Or.inl rfl | exact Or.inr (Or.inl rfl) | exact Or.inr (Or.inr rfl)) rfl) (aj_cons (ej_var (i := 2) rfl (by first | exact Or.inl rfl | exact Or.inr (Or.inl rfl) | exact Or.inr (Or.inr rfl)) rfl) (aj_cons (ej_var (i := 3) rfl (by first | exact Or.inl rfl | exact Or.inr (Or.inl rfl) | exact Or.inr (Or.inr rfl)) rfl) aj_nil))) rfl ⟨x_machine, x_state, x_career, _, h_q1, rfl, rfl⟩) (fun _ _ _ _ _ st_ _ q_ => ⟨st_, q_⟩)
    · show SJ _ _ _ [some (fz (tFn C_fn_gains_of) x_way), some (fz (t_Machine C_Machine) x_machine), some (fz tInt x_state), some (fz (tList tStr) x_career), some (shE a_ cls_ d_ (erx cs e3))] _
      refine sj_ifT (t := (isX e3.1 "UnknownFact")) (tj_val (ej_xis (i := 4) (xe _ (grd_iff h_g4).1.1) (xk_UnknownFact _ (grd_iff h_g4).1.1) gX_UnknownFact (by rfl) m_isinstance bt_isinstance hz_ hf_ rfl (by first | exact Or.inl rfl | exact Or.inr (Or.inl rfl) | exact Or.inr (Or.inr rfl)) rfl (by rfl))) ?_ ?_
      · intro h_b5
        replace h := ifT h_b5 h
        show SJ _ _ _ [some (fz (tFn C_fn_gains_of) x_way), some (fz (t_Machine C_Machine) x_machine), some (fz tInt x_state), some (fz (tList tStr) x_career), some (shE a_ cls_ d_ (erx cs e3))] _
        obtain ⟨t6, h_t6, h⟩ := bnd h
        (simp only [Option.some.injEq, Prod.mk.injEq] at h; first | subst h | (obtain ⟨_, _⟩ := h; subst_vars))
        exact sj_ret (rs := rs_law_told_c C_Machine C_fn_gains_of) (ls := ls_law_told_c C_Machine C_fn_gains_of) (y := (Sum.inr t6 : (Int ⊕ Str))) (ej_inr (ej_xfld (i := 4) (xf _ (grd_iff h_g4).1.1) (xn_fact _ (grd_iff h_g4).1.1) hz_ hf_ rfl (by first | exact Or.inl rfl | exact Or.inr (Or.inl rfl) | exact Or.inr (Or.inr rfl)) rfl (erS_lk h_t6) (fun _ => rfl))) rfl rfl (show List.Nodup ([] : List Nat) by decide) rfl
      intro h_b5
      replace h := ifF h_b5 h
      show SJ _ _ _ [some (fz (tFn C_fn_gains_of) x_way), some (fz (t_Machine C_Machine) x_machine), some (fz tInt x_state), some (fz (tList tStr) x_career), some (shE a_ cls_ d_ (erx cs e3))] _
      (simp only [Option.some.injEq, Prod.mk.injEq] at h; first | subst h | (obtain ⟨_, _⟩ := h; subst_vars))
      exact sj_ret (rs := rs_law_told_c C_Machine C_fn_gains_of) (ls := ls_law_told_c C_Machine C_fn_gains_of) (y := (Sum.inl (0 : Int) : (Int ⊕ Str))) (ej_inl ej_int) rfl rfl (show List.Nodup ([] : List Nat) by decide) rfl
  | ok p2 =>
    try dsimp only at h
    refine sj_try_okN (i := 4) (Γm := [some (fz (tFn C_fn_gains_of) x_way), some (fz (t_Machine C_Machine) x_machine), some (fz tInt x_state), some (fz (tList tStr) x_career), none]) rfl rfl sc_law_told.nd rfl rfl ⟨by rfl, by decide, .inl gX_MovedyearsError⟩ (fun pn_ xe_ pso_ => ?_) ?_
    · show SJ _ _ _ [some (fz (tFn C_fn_gains_of) x_way), some (fz (t_Machine C_Machine) x_machine), some (fz tInt x_state), some (fz (tList tStr) x_career), none] _
      exact sj_expr (ejx_callL (i := 0) (ss := [_, _, _]) L_gains_ofX (hr.mono (by decide)) rfl (by first | exact Or.inl rfl | exact Or.inr (Or.inl rfl) | exact Or.inr (Or.inr rfl)) rfl (aj_cons (ej_var (i := 1) rfl (by first | exact Or.inl rfl | exact Or.inr (Or.inl rfl) | exact Or.inr (Or.inr rfl)) rfl) (aj_cons (ej_var (i := 2) rfl (by first | exact Or.inl rfl | exact Or.inr (Or.inl rfl) | exact Or.inr (Or.inr rfl)) rfl) (aj_cons (ej_var (i := 3) rfl (by first | exact Or.inl rfl | exact Or.inr (Or.inl rfl) | exact Or.inr (Or.inr rfl)) rfl) aj_nil))) ⟨x_machine, x_state, x_career, _, h_q1, rfl, rfl⟩) (sj_nil fun _ _ _ st_ _ => st_)
    show SJ _ _ _ [some (fz (tFn C_fn_gains_of) x_way), some (fz (t_Machine C_Machine) x_machine), some (fz tInt x_state), some (fz (tList tStr) x_career), none] _
    (simp only [Option.some.injEq, Prod.mk.injEq] at h; first | subst h | (obtain ⟨_, _⟩ := h; subst_vars))
    exact sj_ret (rs := rs_law_told_c C_Machine C_fn_gains_of) (ls := ls_law_told_c C_Machine C_fn_gains_of) (y := (Sum.inl (1 : Int) : (Int ⊕ Str))) (ej_inl ej_int) rfl rfl (show List.Nodup ([] : List Nat) by decide) rfl

abbrev O_totalX : Type := Int
abbrev E_totalX : Type := Er
def m_totalX (x_machine : D_Machine) (x_state : Int) (x_career : (List Str)) : Option (Rs E_totalX O_totalX) := ((m_gains_ofX x_machine x_state x_career).bind fun q1 => match q1 with | .er e3 => some (Rs.er e3) | .ok p2 => ((m_state_afterX x_machine x_state x_career).bind fun q4 => match q4 with | .er e6 => some (Rs.er e6) | .ok p5 => ((atI x_machine.leave p5).bind fun t7 => some (Rs.ok ((p2).sum + t7)))))
def rs_totalX (cs : Str → Addr) (C_Machine : Addr) : O_totalX → Sh := fun o => (fz tInt o)
def ls_totalX (cs : Str → Addr) (C_Machine : Addr) : O_totalX → List Sh := fun o => []
def xs_totalX (cs : Str → Addr) (C_Machine : Addr) : E_totalX → Xh := fun e => erx cs e
def xl_totalX (cs : Str → Addr) (C_Machine : Addr) : E_totalX → List Sh := fun e => []
def P_totalX (cs : Str → Addr) (C_Machine : Addr) : Phx := fun ss z => ∃ (x_machine : D_Machine) (x_state : Int) (x_career : (List Str)) (o : Rs E_totalX O_totalX), m_totalX x_machine x_state x_career = some o ∧ ss = [(fz (t_Machine C_Machine) x_machine), (fz tInt x_state), (fz (tList tStr) x_career)] ∧ z = (match o with | .ok y => .inl (rs_totalX cs C_Machine y, []) | .er e => .inr (xs_totalX cs C_Machine e, []))
theorem ok_totalX {C_Machine : Addr} {cs : Str → Addr} (C_gains_ofX : CalG P w K mg base (L2.CX P w) 5 "gains_of" ["machine", "state", "career"] (spX 3 (P_gains_ofX cs C_Machine))) (m_sum : mg "sum" = none) (C_state_afterX : CalG P w K mg base (L2.CX P w) 5 "state_after" ["machine", "state", "career"] (spX 3 (P_state_afterX cs C_Machine))) (cl_Machine : Cls K C_Machine) (na_Machine_leave : NoAttr K C_Machine "leave") {f0 : Addr} {fd : FuncData} (D : Fun K "total" "total" s_total f0 fd) : FnG P w K mg base (L2.CX P w) 6 f0 fd ["machine", "state", "career"] (spX 3 (P_totalX cs C_Machine)) := by
  refine Fun.okX D sc_total rfl (by decide) fun s H A outer cdv E ss z vs hr hlen hP pso => ?_
  obtain ⟨x_machine, x_state, x_career, o_, h, rfl, rfl⟩ := hP
  obtain ⟨v0, v1, v2, rfl⟩ : ∃ v0 v1 v2, vs = [v0, v1, v2] := by
    match vs, hlen with
    | [v0, v1, v2], _ => exact ⟨v0, v1, v2, rfl⟩
  refine ⟨_, _, rs_totalX cs C_Machine, ls_totalX cs C_Machine, xs_totalX cs C_Machine, xl_totalX cs C_Machine, o_, [], (by cases o_ <;> exact ⟨rfl, rfl, rfl⟩), (fun _ h => nomatch h), ?_⟩
  unfold m_totalX at h
  show SJ _ _ _ [some (fz (t_Machine C_Machine) x_machine), some (fz tInt x_state), some (fz (tList tStr) x_career)] _
  obtain ⟨q1, h_q1, h⟩ := bnd h
  cases q1 with
  | er e3 =>
    try dsimp only at h
    (simp only [Option.some.injEq, Prod.mk.injEq] at h; first | subst h | (obtain ⟨_, _⟩ := h; subst_vars))
    exact sj_xret (ex_opL op_add (ex_b (cr_sum rfl) (by rfl) m_sum bt_sum (ex_call C_gains_ofX (hr.mono (by decide)) (by rfl) (aj_cons (ej_var (i := 0) rfl (by first | exact Or.inl rfl | exact Or.inr (Or.inl rfl) | exact Or.inr (Or.inr rfl)) rfl) (aj_cons (ej_var (i := 1) rfl (by first | exact Or.inl rfl | exact Or.inr (Or.inl rfl) | exact Or.inr (Or.inr rfl)) rfl) (aj_cons (ej_var (i := 2) rfl (by first | exact Or.inl rfl | exact Or.inr (Or.inl rfl) | exact Or.inr (Or.inr rfl)) rfl) aj_nil))) rfl ⟨x_machine, x_state, x_career, _, h_q1, rfl, rfl⟩)) pe_none) (fun _ _ _ _ _ st_ pn_ q_ => ⟨_, rfl, xr_of st_ pn_ q_ (show List.Nodup ([] : List Nat) by decide) rfl⟩)
  | ok p2 =>
    try dsimp only at h
    obtain ⟨q4, h_q4, h⟩ := bnd h
    cases q4 with
    | er e6 =>
      try dsimp only at h
      (simp only [Option.some.injEq, Prod.mk.injEq] at h; first | subst h | (obtain ⟨_, _⟩ := h; subst_vars))
      exact sj_xret (ex_opR op_add (ej_b (ss := [_]) (cr_sum rfl) (va_sum rd_fz) (by rfl) m_sum bt_sum (aj_cons (ejx_callP (ss := [_, _, _]) C_gains_ofX (hr.mono (by decide)) (by rfl) (aj_cons (ej_var (i := 0) rfl (by first | exact Or.inl rfl | exact Or.inr (Or.inl rfl) | exact Or.inr (Or.inr rfl)) rfl) (aj_cons (ej_var (i := 1) rfl (by first | exact Or.inl rfl | exact Or.inr (Or.inl rfl) | exact Or.inr (Or.inr rfl)) rfl) (aj_cons (ej_var (i := 2) rfl (by first | exact Or.inl rfl | exact Or.inr (Or.inl rfl) | exact Or.inr (Or.inr rfl)) rfl) aj_nil))) ⟨x_machine, x_state, x_career, _, h_q1, rfl, rfl⟩) aj_nil)) (ex_ixI ix_list (ej_fld (j := 3) (ej_var (i := 0) rfl (by first | exact Or.inl rfl | exact Or.inr (Or.inl rfl) | exact Or.inr (Or.inr rfl)) rfl) cl_Machine na_Machine_leave rfl rfl) (ex_call C_state_afterX (hr.mono (by decide)) (by rfl) (aj_cons (ej_var (i := 0) rfl (by first | exact Or.inl rfl | exact Or.inr (Or.inl rfl) | exact Or.inr (Or.inr rfl)) rfl) (aj_cons (ej_var (i := 1) rfl (by first | exact Or.inl rfl | exact Or.inr (Or.inl rfl) | exact Or.inr (Or.inr rfl)) rfl) (aj_cons (ej_var (i := 2) rfl (by first | exact Or.inl rfl | exact Or.inr (Or.inl rfl) | exact Or.inr (Or.inr rfl)) rfl) aj_nil))) rfl ⟨x_machine, x_state, x_career, _, h_q4, rfl, rfl⟩))) (fun _ _ _ _ _ st_ pn_ q_ => ⟨_, rfl, xr_of st_ pn_ q_ (show List.Nodup ([] : List Nat) by decide) rfl⟩)
    | ok p5 =>
      try dsimp only at h
      obtain ⟨t7, h_t7, h⟩ := bnd h
      (simp only [Option.some.injEq, Prod.mk.injEq] at h; first | subst h | (obtain ⟨_, _⟩ := h; subst_vars))
      exact sj_retX (rs := rs_totalX cs C_Machine) (ls := ls_totalX cs C_Machine) (y := ((p2).sum + t7)) (ej_add (ej_b (ss := [_]) (cr_sum rfl) (va_sum rd_fz) (by rfl) m_sum bt_sum (aj_cons (ejx_callP (ss := [_, _, _]) C_gains_ofX (hr.mono (by decide)) (by rfl) (aj_cons (ej_var (i := 0) rfl (by first | exact Or.inl rfl | exact Or.inr (Or.inl rfl) | exact Or.inr (Or.inr rfl)) rfl) (aj_cons (ej_var (i := 1) rfl (by first | exact Or.inl rfl | exact Or.inr (Or.inl rfl) | exact Or.inr (Or.inr rfl)) rfl) (aj_cons (ej_var (i := 2) rfl (by first | exact Or.inl rfl | exact Or.inr (Or.inl rfl) | exact Or.inr (Or.inr rfl)) rfl) aj_nil))) ⟨x_machine, x_state, x_career, _, h_q1, rfl, rfl⟩) aj_nil)) (ej_ix ix_list (v2_ixL rd_fz h_t7) (ej_fld (j := 3) (ej_var (i := 0) rfl (by first | exact Or.inl rfl | exact Or.inr (Or.inl rfl) | exact Or.inr (Or.inr rfl)) rfl) cl_Machine na_Machine_leave rfl rfl) (ejx_callP (ss := [_, _, _]) C_state_afterX (hr.mono (by decide)) (by rfl) (aj_cons (ej_var (i := 0) rfl (by first | exact Or.inl rfl | exact Or.inr (Or.inl rfl) | exact Or.inr (Or.inr rfl)) rfl) (aj_cons (ej_var (i := 1) rfl (by first | exact Or.inl rfl | exact Or.inr (Or.inl rfl) | exact Or.inr (Or.inr rfl)) rfl) (aj_cons (ej_var (i := 2) rfl (by first | exact Or.inl rfl | exact Or.inr (Or.inl rfl) | exact Or.inr (Or.inr rfl)) rfl) aj_nil))) ⟨x_machine, x_state, x_career, _, h_q4, rfl, rfl⟩) (fun _ _ => rfl))) rfl rfl (show List.Nodup ([] : List Nat) by decide)

abbrev O_law_told_d : Type := (Int ⊕ Str)
def m_law_told_d (x_way : Unit) (x_machine : D_Machine) (x_state : Int) (x_career : (List Str)) : Option O_law_told_d := ((m_totalX x_machine x_state x_career).bind fun q1 => match q1 with | .er e3 => (grd (e3.1 ∈ (["UnknownFact"] : List Str) ∧ isX e3.1 "MovedyearsError" = true) ()).bind fun g4 => ((if (isX e3.1 "UnknownFact") = true then ((erS e3 "fact").bind fun t6 => some (Sum.inr t6 : (Int ⊕ Str))) else (some (Sum.inl (0 : Int) : (Int ⊕ Str))))) | .ok p2 => (some (Sum.inl (1 : Int) : (Int ⊕ Str))))
def rs_law_told_d (C_Machine : Addr) (C_fn_total : Addr) : O_law_told_d → Sh := fun o => (fz (tSum tInt tStr) o)
def ls_law_told_d (C_Machine : Addr) (C_fn_total : Addr) : O_law_told_d → List Sh := fun o => []
def P_law_told_d (C_Machine : Addr) (C_fn_total : Addr) : Phi := fun ss r L => ∃ (x_way : Unit) (x_machine : D_Machine) (x_state : Int) (x_career : (List Str)) (o : O_law_told_d), m_law_told_d x_way x_machine x_state x_career = some o ∧ ss = [(fz (tFn C_fn_total) x_way), (fz (t_Machine C_Machine) x_machine), (fz tInt x_state), (fz (tList tStr) x_career)] ∧ r = rs_law_told_d C_Machine C_fn_total o ∧ L = []
theorem ok_law_told_d {C_Machine : Addr} {C_fn_total : Addr} {cs : Str → Addr} (L_totalX : CalL P w K mg base (L2.CX P w) 6 C_fn_total ["machine", "state", "career"] (spX 3 (P_totalX cs C_Machine))) (gX_MovedyearsError : mg "MovedyearsError" = some (.ref (cs "MovedyearsError"))) (xm_MovedyearsError : ∀ c ∈ (["UnknownFact"] : List Str), PySem.W.exmOne K (.ref (cs c)) (.ref (cs "MovedyearsError")) = some (isX c "MovedyearsError")) (xe : ∀ c ∈ (["UnknownFact"] : List Str), ExI K (cs c)) (xk_UnknownFact : ∀ c ∈ (["UnknownFact"] : List Str), PySem.W.kitOne K (.ref (cs c)) (.ref (cs "UnknownFact")) = some (isX c "UnknownFact")) (gX_UnknownFact : mg "UnknownFact" = some (.ref (cs "UnknownFact"))) (m_isinstance : mg "isinstance" = none) (xf : ∀ c ∈ (["UnknownFact"] : List Str), XfC K (cs c)) (xn_fact : ∀ c ∈ (["UnknownFact"] : List Str), PySem.W.findIn K (.ref (cs c)) "fact" = some none) {f0 : Addr} {fd : FuncData} (D : Fun K "_law_told" "_law_told" s_law_told f0 fd) : FnG P w K mg base CX0 7 f0 fd ["way", "machine", "state", "career"] (spS 4 (P_law_told_d C_Machine C_fn_total)) := by
  refine Fun.okS D sc_law_told rfl (by decide) fun X0 s H A outer cdv E ss r L vs hr hlen hP => ?_
  obtain ⟨x_way, x_machine, x_state, x_career, o_, h, rfl, rfl, rfl⟩ := hP
  obtain ⟨v0, v1, v2, v3, rfl⟩ : ∃ v0 v1 v2 v3, vs = [v0, v1, v2, v3] := by
    match vs, hlen with
    | [v0, v1, v2, v3], _ => exact ⟨v0, v1, v2, v3, rfl⟩
  refine ⟨_, rs_law_told_d C_Machine C_fn_total, ls_law_told_d C_Machine C_fn_total, o_, [], rfl, rfl, (fun _ h => nomatch h), rfl, ?_⟩
  clear X0
  unfold m_law_told_d at h
  show SJ _ _ _ [some (fz (tFn C_fn_total) x_way), some (fz (t_Machine C_Machine) x_machine), some (fz tInt x_state), some (fz (tList tStr) x_career), none] _
  obtain ⟨q1, h_q1, h⟩ := bnd h
  cases q1 with
  | er e3 =>
    try dsimp only at h
    obtain ⟨g4, h_g4, h⟩ := bnd h
    refine sj_try_erN (i := 4) (z := erx cs e3) (Γh := [some (fz (tFn C_fn_total) x_way), some (fz (t_Machine C_Machine) x_machine), some (fz tInt x_state), some (fz (tList tStr) x_career), none]) (Γm := [some shF, none, none, none, none]) rfl rfl sc_law_told.nd rfl rfl ⟨by rfl, by decide, .inl gX_MovedyearsError⟩ (fun _ _ _ q_ => by rw [q_.1]; exact (xm_MovedyearsError _ (grd_iff h_g4).1.1).trans (congrArg some (grd_iff h_g4).1.2)) (fun pn_ xe_ pso_ => ?_) (fun a_ oe_ cls_ d_ pn_ hz_ hf_ => ?_) sj_nev (fun _ _ _ h_ => h_) (z_none rfl) (z_none rfl)
    · show SJ _ _ _ [some (fz (tFn C_fn_total) x_way), some (fz (t_Machine C_Machine) x_machine), some (fz tInt x_state), some (fz (tList tStr) x_career), none] _
      exact sj_xexpr (ex_callL (i := 0) L_totalX (hr.mono (by decide)) rfl (by first | exact Or.inl rfl | exact Or.inr (Or.inl rfl) | exact Or.inr (Or.inr rfl)) rfl (aj_cons (ej_var (i := 1) rfl (by first | exact Or.inl rfl | exact Or.inr (Or.inl rfl) | exact Or.inr (Or.inr rfl)) rfl) (aj_cons (ej_var (i := 2) rfl (by first | exact Or.inl rfl | exact Or.inr (Or.inl rfl) | exact Or.inr (Or.inr rfl)) rfl) (aj_cons (ej_var (i := 3) rfl (by first | exact Or.inl rfl | exact Or.inr (Or.inl rfl) | exact Or.inr (Or.inr rfl)) rfl) aj_nil))) rfl ⟨x_machine, x_state, x_career, _, h_q1, rfl, rfl⟩) (fun _ _ _ _ _ st_ _ q_ => ⟨st_, q_⟩)
    · show SJ _ _ _ [some (fz (tFn C_fn_total) x_way), some (fz (t_Machine C_Machine) x_machine), some (fz tInt x_state), some (fz (tList tStr) x_career), some (shE a_ cls_ d_ (erx cs e3))] _
      refine sj_ifT (t := (isX e3.1 "UnknownFact")) (tj_val (ej_xis (i := 4) (xe _ (grd_iff h_g4).1.1) (xk_UnknownFact _ (grd_iff h_g4).1.1) gX_UnknownFact (by rfl) m_isinstance bt_isinstance hz_ hf_ rfl (by first | exact Or.inl rfl | exact Or.inr (Or.inl rfl) | exact Or.inr (Or.inr rfl)) rfl (by rfl))) ?_ ?_
      · intro h_b5
        replace h := ifT h_b5 h
        show SJ _ _ _ [some (fz (tFn C_fn_total) x_way), some (fz (t_Machine C_Machine) x_machine), some (fz tInt x_state), some (fz (tList tStr) x_career), some (shE a_ cls_ d_ (erx cs e3))] _
        obtain ⟨t6, h_t6, h⟩ := bnd h
        (simp only [Option.some.injEq, Prod.mk.injEq] at h; first | subst h | (obtain ⟨_, _⟩ := h; subst_vars))
        exact sj_ret (rs := rs_law_told_d C_Machine C_fn_total) (ls := ls_law_told_d C_Machine C_fn_total) (y := (Sum.inr t6 : (Int ⊕ Str))) (ej_inr (ej_xfld (i := 4) (xf _ (grd_iff h_g4).1.1) (xn_fact _ (grd_iff h_g4).1.1) hz_ hf_ rfl (by first | exact Or.inl rfl | exact Or.inr (Or.inl rfl) | exact Or.inr (Or.inr rfl)) rfl (erS_lk h_t6) (fun _ => rfl))) rfl rfl (show List.Nodup ([] : List Nat) by decide) rfl
      intro h_b5
      replace h := ifF h_b5 h
      show SJ _ _ _ [some (fz (tFn C_fn_total) x_way), some (fz (t_Machine C_Machine) x_machine), some (fz tInt x_state), some (fz (tList tStr) x_career), some (shE a_ cls_ d_ (erx cs e3))] _
      (simp only [Option.some.injEq, Prod.mk.injEq] at h; first | subst h | (obtain ⟨_, _⟩ := h; subst_vars))
      exact sj_ret (rs := rs_law_told_d C_Machine C_fn_total) (ls := ls_law_told_d C_Machine C_fn_total) (y := (Sum.inl (0 : Int) : (Int ⊕ Str))) (ej_inl ej_int) rfl rfl (show List.Nodup ([] : List Nat) by decide) rfl
  | ok p2 =>
    try dsimp only at h
    refine sj_try_okN (i := 4) (Γm := [some (fz (tFn C_fn_total) x_way), some (fz (t_Machine C_Machine) x_machine), some (fz tInt x_state), some (fz (tList tStr) x_career), none]) rfl rfl sc_law_told.nd rfl rfl ⟨by rfl, by decide, .inl gX_MovedyearsError⟩ (fun pn_ xe_ pso_ => ?_) ?_
    · show SJ _ _ _ [some (fz (tFn C_fn_total) x_way), some (fz (t_Machine C_Machine) x_machine), some (fz tInt x_state), some (fz (tList tStr) x_career), none] _
      exact sj_expr (ejx_callL (i := 0) (ss := [_, _, _]) L_totalX (hr.mono (by decide)) rfl (by first | exact Or.inl rfl | exact Or.inr (Or.inl rfl) | exact Or.inr (Or.inr rfl)) rfl (aj_cons (ej_var (i := 1) rfl (by first | exact Or.inl rfl | exact Or.inr (Or.inl rfl) | exact Or.inr (Or.inr rfl)) rfl) (aj_cons (ej_var (i := 2) rfl (by first | exact Or.inl rfl | exact Or.inr (Or.inl rfl) | exact Or.inr (Or.inr rfl)) rfl) (aj_cons (ej_var (i := 3) rfl (by first | exact Or.inl rfl | exact Or.inr (Or.inl rfl) | exact Or.inr (Or.inr rfl)) rfl) aj_nil))) ⟨x_machine, x_state, x_career, _, h_q1, rfl, rfl⟩) (sj_nil fun _ _ _ st_ _ => st_)
    show SJ _ _ _ [some (fz (tFn C_fn_total) x_way), some (fz (t_Machine C_Machine) x_machine), some (fz tInt x_state), some (fz (tList tStr) x_career), none] _
    (simp only [Option.some.injEq, Prod.mk.injEq] at h; first | subst h | (obtain ⟨_, _⟩ := h; subst_vars))
    exact sj_ret (rs := rs_law_told_d C_Machine C_fn_total) (ls := ls_law_told_d C_Machine C_fn_total) (y := (Sum.inl (1 : Int) : (Int ⊕ Str))) (ej_inl ej_int) rfl rfl (show List.Nodup ([] : List Nat) by decide) rfl

abbrev O_law : Type := Bool
noncomputable def m_law (x_script : List Int) : Option O_law := ((m_law_digits x_script (0 : Int) (63 : Int)).bind fun t1 => ((m_law_facts (t1, (0 : Int))).bind fun t2 => (m_law_scheme (t2.2.1, t2.2.2) t2.1).bind fun t3 => ((grd (Sm (t3.1.2.1).length) ()).bind fun g5 => (mapC (fun (y4 : (Str × Int × (List (Str × (Int ⊕ Str))))) => (some (some (y4.1, (min y4.2.1 (4 : Int)), y4.2.2)))) t3.1.2.1).bind fun t6 => ((m_Rules_init t3.1.1 t6 t3.1.2.2.1 t3.1.2.2.2).bind fun t7 => (m_made (D_Rules.mk t7.facts t7.counters t7.gains t7.leaves) ()).bind fun t8 => ((m_law_career (t3.2.1, t3.2.2) t3.1.1 (12 : Int)).bind fun t9 => ((m_law_draw (t9.2.1, t9.2.2) (900 : Int)).bind fun t10 => (grd (((t8.2).length : Int) ≠ 0) ()).bind fun g11 => (some (Int.fmod t10.1 ((t8.2).length : Int))).bind fun state_12 => ((atI t8.2 state_12).bind fun t13 => ((((foldO (S := (List (Str × Int)) × (List (List (Str × Int))) × (List Int)) (fun (s14 : (List (Str × Int)) × (List (List (Str × Int))) × (List Int)) (y15 : Str) => ((m_law_gain (t3.1.1, t6, t3.1.2.2.1, t3.1.2.2.2) s14.1 y15).bind fun t16 => (grd (Sm (s14.2.2).length) ()).bind fun g17 => ((m_law_year (t3.1.1, t6, t3.1.2.2.1, t3.1.2.2.2) s14.1 y15).bind fun t18 => ((grd (Sm (s14.2.1).length) ()).bind fun g19 => some (t18, (s14.2.1 ++ [t18]), (s14.2.2 ++ [t16])))))) (t13, [t13], ([] : List Int)) t9.1).bind fun j20 => ((m_states_along t8.1 state_12 t9.1).bind fun t22 => ((grd (Sm (t22).length) ()).bind fun g24 => (mapC (fun (y23 : Int) => ((atI t8.2 y23).bind fun t25 => some (some t25))) t22).bind fun t26 => (grd (t26 = j20.2.1) ()).bind fun g27 => (if false = true then some true else ((m_state_after t8.1 state_12 t9.1).bind fun t28 => (atI t22 (-(1 : Int))).bind fun t29 => some (!(decide (t28 = t29))))).bind fun t30 => (if t30 = true then (some false) else ((m_gains_of t8.1 state_12 t9.1).bind fun t32 => (if (!(decide (t32 = j20.2.2))) = true then some true else ((m_total t8.1 state_12 t9.1).bind fun t33 => (m_law_leave (t3.1.1, t6, t3.1.2.2.1, t3.1.2.2.2) j20.1).bind fun t34 => some (!(decide (t33 = ((j20.2.2).sum + t34)))))).bind fun t35 => (if t35 = true then (some false) else ((m_law_draw (t10.2.1, t10.2.2) (((t9.1).length : Int) + (1 : Int))).bind fun t37 => ((grd (Sm (((cutL t9.1 none (some t37.1))).length + ([("zzz" : Str)]).length)) ()).bind fun g38 => (grd (Sm ((((cutL t9.1 none (some t37.1)) ++ [("zzz" : Str)])).length + ((cutL t9.1 (some t37.1) none)).length)) ()).bind fun g39 => (grd (Sm (((((cutL t9.1 none (some t37.1)) ++ [("zzz" : Str)]) ++ (cutL t9.1 (some t37.1) none))).length + ([("yyy" : Str)]).length)) ()).bind fun g40 => (some ((((cutL t9.1 none (some t37.1)) ++ [("zzz" : Str)]) ++ (cutL t9.1 (some t37.1) none)) ++ [("yyy" : Str)])).bind fun wrong_41 => ((foldX (ρ := O_law) (S := Unit) (fun (s42 : Unit) (y43 : Int) => (if y43 = (0 : Int) then ((m_law_told_a () t8.1 state_12 wrong_41).bind fun t44 => (grd (Lay (edat (tSum tInt tStr) t44)) ()).bind fun g45 => (grd (Lay (edat (tSum tInt tStr) (Sum.inr ("zzz" : Str) : (Int ⊕ Str)))) ()).bind fun g46 => (if (!(decide (t44 = (Sum.inr ("zzz" : Str) : (Int ⊕ Str))))) = true then (some (Oc.ret false)) else some (Oc.nx ()))) else (if y43 = (1 : Int) then ((m_law_told_b () t8.1 state_12 wrong_41).bind fun t48 => (grd (Lay (edat (tSum tInt tStr) t48)) ()).bind fun g49 => (grd (Lay (edat (tSum tInt tStr) (Sum.inr ("zzz" : Str) : (Int ⊕ Str)))) ()).bind fun g50 => (if (!(decide (t48 = (Sum.inr ("zzz" : Str) : (Int ⊕ Str))))) = true then (some (Oc.ret false)) else some (Oc.nx ()))) else (if y43 = (2 : Int) then ((m_law_told_c () t8.1 state_12 wrong_41).bind fun t52 => (grd (Lay (edat (tSum tInt tStr) t52)) ()).bind fun g53 => (grd (Lay (edat (tSum tInt tStr) (Sum.inr ("zzz" : Str) : (Int ⊕ Str)))) ()).bind fun g54 => (if (!(decide (t52 = (Sum.inr ("zzz" : Str) : (Int ⊕ Str))))) = true then (some (Oc.ret false)) else some (Oc.nx ()))) else (if y43 = (3 : Int) then ((m_law_told_d () t8.1 state_12 wrong_41).bind fun t56 => (grd (Lay (edat (tSum tInt tStr) t56)) ()).bind fun g57 => (grd (Lay (edat (tSum tInt tStr) (Sum.inr ("zzz" : Str) : (Int ⊕ Str)))) ()).bind fun g58 => (if (!(decide (t56 = (Sum.inr ("zzz" : Str) : (Int ⊕ Str))))) = true then (some (Oc.ret false)) else some (Oc.nx ()))) else none))))) () ([(0 : Int), (1 : Int), (2 : Int), (3 : Int)] : List Int)).bind fun j64 => match j64 with | .ret r67 => some r67 | .nx s66 => (some true)))))))))))))))))))
def rs_law (K : PySem.W.Frag) : O_law → Sh := fun o => (fz tBool o)
def ls_law (K : PySem.W.Frag) : O_law → List Sh := fun o => []
def P_law (K : PySem.W.Frag) : Phi := fun ss r L => ∃ (x_script : List Int) (o : O_law), m_law x_script = some o ∧ ss = [(fz (tScr K) x_script)] ∧ r = rs_law K o ∧ L = []
theorem ok_law {C_Machine : Addr} {C_Rules : Addr} {C_df_made : Addr} {C_fn_gains_of : Addr} {C_fn_state_after : Addr} {C_fn_states_along : Addr} {C_fn_total : Addr} (C_law_digits : CalG P w K mg base CX0 2 "_law_digits" ["script", "first", "last"] (spS 3 (P_law_digits K))) (C_law_facts : CalG P w K mg base CX0 2 "_law_facts" ["box"] (spS 1 P_law_facts)) (C_law_scheme : CalG P w K mg base CX0 3 "_law_scheme" ["box", "facts"] (spS 2 P_law_scheme)) (m_min : mg "min" = none) (M_Rules : Mkr P w K mg base 1 C_Rules "Rules" ["self", "facts", "counters", "gains", "leaves"] (spS 5 (P_Rules_init C_Rules))) (Cd_made : CalD P w K mg base 6 "made" ["rules", "more"] (spS 2 (P_made C_Machine C_Rules C_df_made)) [.ref C_df_made]) (C_law_career : CalG P w K mg base CX0 2 "_law_career" ["box", "facts", "most"] (spS 3 P_law_career)) (C_law_draw : CalG P w K mg base CX0 1 "_law_draw" ["box", "many"] (spS 2 P_law_draw)) (m_int : mg "int" = none) (m_len : mg "len" = none) (C_law_gain : CalG P w K mg base CX0 2 "_law_gain" ["scheme", "counts", "fact"] (spS 3 P_law_gain)) (C_law_year : CalG P w K mg base CX0 1 "_law_year" ["scheme", "counts", "fact"] (spS 3 P_law_year)) (C_states_along : CalG P w K mg base CX0 2 "states_along" ["machine", "state", "career"] (spS 3 (P_states_along C_Machine))) (C_state_after : CalG P w K mg base CX0 3 "state_after" ["machine", "state", "career"] (spS 3 (P_state_after C_Machine))) (C_gains_of : CalG P w K mg base CX0 3 "gains_of" ["machine", "state", "career"] (spS 3 (P_gains_of C_Machine))) (C_total : CalG P w K mg base CX0 4 "total" ["machine", "state", "career"] (spS 3 (P_total C_Machine))) (m_sum : mg "sum" = none) (C_law_leave : CalG P w K mg base CX0 2 "_law_leave" ["scheme", "counts"] (spS 2 P_law_leave)) (gF_states_along : mg "states_along" = some (.ref C_fn_states_along)) (gF_state_after : mg "state_after" = some (.ref C_fn_state_after)) (gF_gains_of : mg "gains_of" = some (.ref C_fn_gains_of)) (gF_total : mg "total" = some (.ref C_fn_total)) (C_law_told_a : CalG P w K mg base CX0 5 "_law_told" ["way", "machine", "state", "career"] (spS 4 (P_law_told_a C_Machine C_fn_states_along))) (C_law_told_b : CalG P w K mg base CX0 6 "_law_told" ["way", "machine", "state", "career"] (spS 4 (P_law_told_b C_Machine C_fn_state_after))) (C_law_told_c : CalG P w K mg base CX0 6 "_law_told" ["way", "machine", "state", "career"] (spS 4 (P_law_told_c C_Machine C_fn_gains_of))) (C_law_told_d : CalG P w K mg base CX0 7 "_law_told" ["way", "machine", "state", "career"] (spS 4 (P_law_told_d C_Machine C_fn_total))) {f0 : Addr} {fd : FuncData} (D : Fun K "law" "law" s_law f0 fd) : FnG P w K mg base CX0 8 f0 fd ["script"] (spS 1 (P_law K)) := by
  refine Fun.okS D sc_law rfl (by decide) fun X0 s H A outer cdv E ss r L vs hr hlen hP => ?_
  obtain ⟨x_script, o_, h, rfl, rfl, rfl⟩ := hP
  obtain ⟨v0, rfl⟩ : ∃ v0, vs = [v0] := by
    match vs, hlen with
    | [v0], _ => exact ⟨v0, rfl⟩
  refine ⟨_, rs_law K, ls_law K, o_, [], rfl, rfl, (fun _ h => nomatch h), rfl, ?_⟩
  clear X0
  unfold m_law at h
  show SJ _ _ _ [some (fz (tScr K) x_script), none, none, none, none, none, none, none, none, none, none, none, none, none, none, none, none, none, none] _
  obtain ⟨t1, h_t1, h⟩ := bnd h
  refine sj_set (i := 1) (s := (oLst [(fz (tList tInt) t1), (fz tInt (0 : Int))])) sc_law.nd rfl (by first | exact Or.inl rfl | exact Or.inr rfl) (ej_lst (ss := [(fz (tList tInt) t1), (fz tInt (0 : Int))]) (aj_cons (ej_callP (ss := [_, _, _]) C_law_digits (hr.mono (by decide)) (by rfl) pass0 (aj_cons (ej_var (i := 0) rfl (by first | exact Or.inl rfl | exact Or.inr (Or.inl rfl) | exact Or.inr (Or.inr rfl)) rfl) (aj_cons ej_int (aj_cons ej_int aj_nil))) ⟨x_script, (0 : Int), (63 : Int), t1, h_t1, rfl, rfl, rfl⟩) (aj_cons ej_int aj_nil))) ?_
  show SJ _ _ _ [some (fz (tScr K) x_script), some (oLst [(fz (tList tInt) t1), (fz tInt (0 : Int))]), none, none, none, none, none, none, none, none, none, none, none, none, none, none, none, none, none] _
  obtain ⟨t2, h_t2, h⟩ := bnd h
  obtain ⟨t3, h_t3, h⟩ := bnd h
  refine sj_set (i := 2) (s := (oLst [(fz (tList tStr) t3.1.1), (fz (tList (tP3 tStr tInt (tDic kStr (tSum tInt tStr)))) t3.1.2.1), (fz (tList (tP3 tInt tStr (tList (tP3 tStr tStr tInt)))) t3.1.2.2.1), (fz (tList (tP2 tInt (tList (tP3 tStr tStr tInt)))) t3.1.2.2.2)])) sc_law.nd rfl (by first | exact Or.inl rfl | exact Or.inr rfl) (ej_call C_law_scheme (hr.mono (by decide)) (by rfl) pass0 (aj_lend (i := 1) rfl (by first | exact Or.inl rfl | exact Or.inr (Or.inl rfl) | exact Or.inr (Or.inr rfl)) rfl (aj_cons (ej_call C_law_facts (hr.mono (by decide)) (by rfl) pass0 (aj_lend (i := 1) rfl (by first | exact Or.inl rfl | exact Or.inr (Or.inl rfl) | exact Or.inr (Or.inr rfl)) rfl aj_nil) rfl ⟨(t1, (0 : Int)), t2, h_t2, rfl, rfl, rfl⟩) aj_nil)) rfl ⟨(t2.2.1, t2.2.2), t2.1, t3, h_t3, rfl, rfl, rfl⟩) ?_
  show SJ _ _ _ [some (fz (tScr K) x_script), some (oLst [(fz (tList tInt) t3.2.1), (fz tInt t3.2.2)]), some (oLst [(fz (tList tStr) t3.1.1), (fz (tList (tP3 tStr tInt (tDic kStr (tSum tInt tStr)))) t3.1.2.1), (fz (tList (tP3 tInt tStr (tList (tP3 tStr tStr tInt)))) t3.1.2.2.1), (fz (tList (tP2 tInt (tList (tP3 tStr tStr tInt)))) t3.1.2.2.2)]), none, none, none, none, none, none, none, none, none, none, none, none, none, none, none, none] _
  obtain ⟨g5, h_g5, h⟩ := bnd h
  obtain ⟨t6, h_t6, h⟩ := bnd h
  refine sj_setO (i := 2) (j := 1) rfl (by first | exact Or.inl rfl | exact Or.inr (Or.inl rfl) | exact Or.inr (Or.inr rfl)) (ej_fz (lcj_e (lcP (Γy := fun y4 => [some (fz (tScr K) x_script), some (oLst [(fz (tList tInt) t3.2.1), (fz tInt t3.2.2)]), some (oLst [(fz (tList tStr) t3.1.1), (fz (tList (tP3 tStr tInt (tDic kStr (tSum tInt tStr)))) t3.1.2.1), (fz (tList (tP3 tInt tStr (tList (tP3 tStr tStr tInt)))) t3.1.2.2.1), (fz (tList (tP2 tInt (tList (tP3 tStr tStr tInt)))) t3.1.2.2.2)]), none, none, none, none, none, none, none, none, none, none, none, none, some (fz tStr y4.1), some (fz tInt y4.2.1), some (fz (tDic kStr (tSum tInt tStr)) y4.2.2), none]) (own := [("name", 15), ("cap", 16), ("steps", 17)]) (fun _ _ _ _ _ y4 => (gj0_p3 rfl (gs0_cons (gj0_name (i := 15) sc_law.nd rfl (by first | exact Or.inl rfl | exact Or.inr rfl) (z_none rfl)) (gs0_cons (gj0_name (i := 16) sc_law.nd rfl (by first | exact Or.inl rfl | exact Or.inr rfl) (z_none rfl)) (gs0_cons (gj0_name (i := 17) sc_law.nd rfl (by first | exact Or.inl rfl | exact Or.inr rfl) (z_none rfl)) gs0_nil))))) (fun _ _ _ _ _ y4 oz hm h => (by have h := h;  (simp only [Option.some.injEq, Prod.mk.injEq] at h; first | subst h | (obtain ⟨_, _⟩ := h; subst_vars)); exact ts_nil)) (fun _ _ _ _ _ y4 z hm h => (by have h := h;  (simp only [Option.some.injEq, Prod.mk.injEq] at h; first | subst h | (obtain ⟨_, _⟩ := h; subst_vars)); exact (ej_tup3 (aj_cons (ej_var (i := 15) rfl (by first | exact Or.inl rfl | exact Or.inr (Or.inl rfl) | exact Or.inr (Or.inr rfl)) rfl) (aj_cons (ej_b (ss := [_, _]) (Dl.cl_min2 rfl) va_min (by rfl) m_min bt_min (aj_cons (ej_var (i := 16) rfl (by first | exact Or.inl rfl | exact Or.inr (Or.inl rfl) | exact Or.inr (Or.inr rfl)) rfl) (aj_cons ej_int aj_nil))) (aj_cons (ej_var (i := 17) rfl (by first | exact Or.inl rfl | exact Or.inr (Or.inl rfl) | exact Or.inr (Or.inr rfl)) rfl) aj_nil)))))) h_t6 (grd_iff h_g5).1 rfl sc_law.nd (ij_lst (ej_ixP ix_list (v2_ixO (j := 1) rdo_o rfl rfl) (pj_var (i := 2) rfl (by first | exact Or.inl rfl | exact Or.inr (Or.inl rfl) | exact Or.inr (Or.inr rfl)) rfl) ej_int (fun _ _ => rfl))) (blkOk_by (own := [("name", 15), ("cap", 16), ("steps", 17)]) (N := n_law) (sc := defScope s_law) (by decide +kernel)) ⟨z_none rfl, z_none rfl, z_none rfl, trivial⟩)) fz_oL) rfl ej_int rfl (fun _ q => by cases q; exact fun _ _ _ h => h.1) ?_
  show SJ _ _ _ [some (fz (tScr K) x_script), some (oLst [(fz (tList tInt) t3.2.1), (fz tInt t3.2.2)]), some (oLst [(fz (tList tStr) t3.1.1), (fz (tList (tP3 tStr tInt (tDic kStr (tSum tInt tStr)))) t6), (fz (tList (tP3 tInt tStr (tList (tP3 tStr tStr tInt)))) t3.1.2.2.1), (fz (tList (tP2 tInt (tList (tP3 tStr tStr tInt)))) t3.1.2.2.2)]), none, none, none, none, none, none, none, none, none, none, none, none, none, none, none, none] _
  obtain ⟨t7, h_t7, h⟩ := bnd h
  obtain ⟨t8, h_t8, h⟩ := bnd h
  refine sj_asg (ej_callD (ss := [_]) Cd_made (hr.mono (by decide)) (by rfl) pass0 (aj_cons (ej_fz (ej_mk (ss := [_, _, _, _]) M_Rules (hr.mono (by decide)) (by rfl) pass0 (aj_cons (ej_ixP ix_list (v2_ixO (j := 0) rdo_o rfl rfl) (pj_var (i := 2) rfl (by first | exact Or.inl rfl | exact Or.inr (Or.inl rfl) | exact Or.inr (Or.inr rfl)) rfl) ej_int (fun _ _ => rfl)) (aj_cons (ej_ixP ix_list (v2_ixO (j := 1) rdo_o rfl rfl) (pj_var (i := 2) rfl (by first | exact Or.inl rfl | exact Or.inr (Or.inl rfl) | exact Or.inr (Or.inr rfl)) rfl) ej_int (fun _ _ => rfl)) (aj_cons (ej_ixP ix_list (v2_ixO (j := 2) rdo_o rfl rfl) (pj_var (i := 2) rfl (by first | exact Or.inl rfl | exact Or.inr (Or.inl rfl) | exact Or.inr (Or.inr rfl)) rfl) ej_int (fun _ _ => rfl)) (aj_cons (ej_ixP ix_list (v2_ixO (j := 3) rdo_o rfl rfl) (pj_var (i := 2) rfl (by first | exact Or.inl rfl | exact Or.inr (Or.inl rfl) | exact Or.inr (Or.inr rfl)) rfl) ej_int (fun _ _ => rfl)) aj_nil)))) ⟨t3.1.1, t6, t3.1.2.2.1, t3.1.2.2.2, t7, h_t7, rfl, rfl, rfl⟩) (fz_ins (sh := sh_Rules) (y := (D_Rules.mk t7.facts t7.counters t7.gains t7.leaves)) ⟨fz_fz, fz_fz, fz_fz, fz_fz, trivial⟩)) aj_nil) (fun _ => shs_df) ⟨(D_Rules.mk t7.facts t7.counters t7.gains t7.leaves), (), t8, h_t8, rfl, rfl, rfl⟩) (gj_p2 rfl (gs_cons (gj_name (i := 13) sc_law.nd rfl (by first | exact Or.inl rfl | exact Or.inr rfl)) (gs_cons (gj_name (i := 14) sc_law.nd rfl (by first | exact Or.inl rfl | exact Or.inr rfl)) gs_nil))) ?_
  show SJ _ _ _ [some (fz (tScr K) x_script), some (oLst [(fz (tList tInt) t3.2.1), (fz tInt t3.2.2)]), some (oLst [(fz (tList tStr) t3.1.1), (fz (tList (tP3 tStr tInt (tDic kStr (tSum tInt tStr)))) t6), (fz (tList (tP3 tInt tStr (tList (tP3 tStr tStr tInt)))) t3.1.2.2.1), (fz (tList (tP2 tInt (tList (tP3 tStr tStr tInt)))) t3.1.2.2.2)]), none, none, none, none, none, none, none, none, none, none, some (fz (t_Machine C_Machine) t8.1), some (fz (tList (tDic kStr tInt)) t8.2), none, none, none, none] _
  obtain ⟨t9, h_t9, h⟩ := bnd h
  refine sj_set (i := 3) (s := (fz (tList tStr) t9.1)) sc_law.nd rfl (by first | exact Or.inl rfl | exact Or.inr rfl) (ej_call C_law_career (hr.mono (by decide)) (by rfl) pass0 (aj_lend (i := 1) rfl (by first | exact Or.inl rfl | exact Or.inr (Or.inl rfl) | exact Or.inr (Or.inr rfl)) rfl (aj_cons (ej_ixP ix_list (v2_ixO (j := 0) rdo_o rfl rfl) (pj_var (i := 2) rfl (by first | exact Or.inl rfl | exact Or.inr (Or.inl rfl) | exact Or.inr (Or.inr rfl)) rfl) ej_int (fun _ _ => rfl)) (aj_cons ej_int aj_nil))) rfl ⟨(t3.2.1, t3.2.2), t3.1.1, (12 : Int), t9, h_t9, rfl, rfl, rfl⟩) ?_
  show SJ _ _ _ [some (fz (tScr K) x_script), some (oLst [(fz (tList tInt) t9.2.1), (fz tInt t9.2.2)]), some (oLst [(fz (tList tStr) t3.1.1), (fz (tList (tP3 tStr tInt (tDic kStr (tSum tInt tStr)))) t6), (fz (tList (tP3 tInt tStr (tList (tP3 tStr tStr tInt)))) t3.1.2.2.1), (fz (tList (tP2 tInt (tList (tP3 tStr tStr tInt)))) t3.1.2.2.2)]), some (fz (tList tStr) t9.1), none, none, none, none, none, none, none, none, none, some (fz (t_Machine C_Machine) t8.1), some (fz (tList (tDic kStr tInt)) t8.2), none, none, none, none] _
  obtain ⟨t10, h_t10, h⟩ := bnd h
  obtain ⟨g11, h_g11, h⟩ := bnd h
  obtain ⟨state_12, h_state_12, h⟩ := bnd h
  have h_state_12 := Option.some.inj h_state_12
  refine sj_set (i := 4) (s := (fz tInt state_12)) sc_law.nd rfl (by first | exact Or.inl rfl | exact Or.inr rfl) (ej_is h_state_12 (ej_mod (ej_ty (ss := [_]) Dl.cl_int va_int (by rfl) m_int bt_int (aj_cons (ej_call C_law_draw (hr.mono (by decide)) (by rfl) pass0 (aj_lend (i := 1) rfl (by first | exact Or.inl rfl | exact Or.inr (Or.inl rfl) | exact Or.inr (Or.inr rfl)) rfl (aj_cons ej_int aj_nil)) rfl ⟨(t9.2.1, t9.2.2), (900 : Int), t10, h_t10, rfl, rfl, rfl⟩) aj_nil)) (ej_b (ss := [_]) Dl.cl_len (va_len rd_fz) (by rfl) m_len bt_len (aj_cons (ej_var (i := 14) rfl (by first | exact Or.inl rfl | exact Or.inr (Or.inl rfl) | exact Or.inr (Or.inr rfl)) rfl) aj_nil)) (grd_iff h_g11).1)) ?_
  show SJ _ _ _ [some (fz (tScr K) x_script), some (oLst [(fz (tList tInt) t10.2.1), (fz tInt t10.2.2)]), some (oLst [(fz (tList tStr) t3.1.1), (fz (tList (tP3 tStr tInt (tDic kStr (tSum tInt tStr)))) t6), (fz (tList (tP3 tInt tStr (tList (tP3 tStr tStr tInt)))) t3.1.2.2.1), (fz (tList (tP2 tInt (tList (tP3 tStr tStr tInt)))) t3.1.2.2.2)]), some (fz (tList tStr) t9.1), some (fz tInt state_12), none, none, none, none, none, none, none, none, some (fz (t_Machine C_Machine) t8.1), some (fz (tList (tDic kStr tInt)) t8.2), none, none, none, none] _
  obtain ⟨t13, h_t13, h⟩ := bnd h
  refine sj_set (i := 5) (s := (fz (tDic kStr tInt) t13)) sc_law.nd rfl (by first | exact Or.inl rfl | exact Or.inr rfl) (ej_ix ix_list (v2_ixL rd_fz h_t13) (ej_var (i := 14) rfl (by first | exact Or.inl rfl | exact Or.inr (Or.inl rfl) | exact Or.inr (Or.inr rfl)) rfl) (ej_var (i := 4) rfl (by first | exact Or.inl rfl | exact Or.inr (Or.inl rfl) | exact Or.inr (Or.inr rfl)) rfl) (fun _ _ => rfl)) ?_
  show SJ _ _ _ [some (fz (tScr K) x_script), some (oLst [(fz (tList tInt) t10.2.1), (fz tInt t10.2.2)]), some (oLst [(fz (tList tStr) t3.1.1), (fz (tList (tP3 tStr tInt (tDic kStr (tSum tInt tStr)))) t6), (fz (tList (tP3 tInt tStr (tList (tP3 tStr tStr tInt)))) t3.1.2.2.1), (fz (tList (tP2 tInt (tList (tP3 tStr tStr tInt)))) t3.1.2.2.2)]), some (fz (tList tStr) t9.1), some (fz tInt state_12), some (fz (tDic kStr tInt) t13), none, none, none, none, none, none, none, some (fz (t_Machine C_Machine) t8.1), some (fz (tList (tDic kStr tInt)) t8.2), none, none, none, none] _
  refine sj_set (i := 6) (s := (oL (tDic kStr tInt) [t13])) sc_law.nd rfl (by first | exact Or.inl rfl | exact Or.inr rfl) (ej_oL (τ := (tDic kStr tInt)) (xs := [t13]) (ej_lst (ss := [(fz (tDic kStr tInt) t13)]) (aj_cons (ej_var (i := 5) rfl (by first | exact Or.inl rfl | exact Or.inr (Or.inl rfl) | exact Or.inr (Or.inr rfl)) rfl) aj_nil))) ?_
  show SJ _ _ _ [some (fz (tScr K) x_script), some (oLst [(fz (tList tInt) t10.2.1), (fz tInt t10.2.2)]), some (oLst [(fz (tList tStr) t3.1.1), (fz (tList (tP3 tStr tInt (tDic kStr (tSum tInt tStr)))) t6), (fz (tList (tP3 tInt tStr (tList (tP3 tStr tStr tInt)))) t3.1.2.2.1), (fz (tList (tP2 tInt (tList (tP3 tStr tStr tInt)))) t3.1.2.2.2)]), some (fz (tList tStr) t9.1), some (fz tInt state_12), some (fz (tDic kStr tInt) t13), some (oL (tDic kStr tInt) [t13]), none, none, none, none, none, none, some (fz (t_Machine C_Machine) t8.1), some (fz (tList (tDic kStr tInt)) t8.2), none, none, none, none] _
  refine sj_set (i := 7) (s := (oL tInt ([] : List Int))) sc_law.nd rfl (by first | exact Or.inl rfl | exact Or.inr rfl) (ej_oL (τ := tInt) (xs := ([] : List Int)) (ej_lst (ss := []) aj_nil)) ?_
  show SJ _ _ _ [some (fz (tScr K) x_script), some (oLst [(fz (tList tInt) t10.2.1), (fz tInt t10.2.2)]), some (oLst [(fz (tList tStr) t3.1.1), (fz (tList (tP3 tStr tInt (tDic kStr (tSum tInt tStr)))) t6), (fz (tList (tP3 tInt tStr (tList (tP3 tStr tStr tInt)))) t3.1.2.2.1), (fz (tList (tP2 tInt (tList (tP3 tStr tStr tInt)))) t3.1.2.2.2)]), some (fz (tList tStr) t9.1), some (fz tInt state_12), some (fz (tDic kStr tInt) t13), some (oL (tDic kStr tInt) [t13]), some (oL tInt ([] : List Int)), none, none, none, none, none, some (fz (t_Machine C_Machine) t8.1), some (fz (tList (tDic kStr tInt)) t8.2), none, none, none, none] _
  refine sj_fz (i := 2) rfl fz_l4 ?_
  show SJ _ _ _ [some (fz (tScr K) x_script), some (oLst [(fz (tList tInt) t10.2.1), (fz tInt t10.2.2)]), some (fz (tL4 (tList tStr) (tList (tP3 tStr tInt (tDic kStr (tSum tInt tStr)))) (tList (tP3 tInt tStr (tList (tP3 tStr tStr tInt)))) (tList (tP2 tInt (tList (tP3 tStr tStr tInt))))) (t3.1.1, t6, t3.1.2.2.1, t3.1.2.2.2)), some (fz (tList tStr) t9.1), some (fz tInt state_12), some (fz (tDic kStr tInt) t13), some (oL (tDic kStr tInt) [t13]), some (oL tInt ([] : List Int)), none, none, none, none, none, some (fz (t_Machine C_Machine) t8.1), some (fz (tList (tDic kStr tInt)) t8.2), none, none, none, none] _
  obtain ⟨j20, h_j20, h⟩ := bnd h
  refine sj_for (sh := fz tStr) (Γs := fun (s14 : (List (Str × Int)) × (List (List (Str × Int))) × (List Int)) => [some (fz (tScr K) x_script), some (oLst [(fz (tList tInt) t10.2.1), (fz tInt t10.2.2)]), some (fz (tL4 (tList tStr) (tList (tP3 tStr tInt (tDic kStr (tSum tInt tStr)))) (tList (tP3 tInt tStr (tList (tP3 tStr tStr tInt)))) (tList (tP2 tInt (tList (tP3 tStr tStr tInt))))) (t3.1.1, t6, t3.1.2.2.1, t3.1.2.2.2)), some (fz (tList tStr) t9.1), some (fz tInt state_12), some (fz (tDic kStr tInt) s14.1), some (oL (tDic kStr tInt) s14.2.1), some (oL tInt s14.2.2), none, none, none, none, none, some (fz (t_Machine C_Machine) t8.1), some (fz (tList (tDic kStr tInt)) t8.2), none, none, none, none]) (Γy := fun (s14 : (List (Str × Int)) × (List (List (Str × Int))) × (List Int)) y15 => [some (fz (tScr K) x_script), some (oLst [(fz (tList tInt) t10.2.1), (fz tInt t10.2.2)]), some (fz (tL4 (tList tStr) (tList (tP3 tStr tInt (tDic kStr (tSum tInt tStr)))) (tList (tP3 tInt tStr (tList (tP3 tStr tStr tInt)))) (tList (tP2 tInt (tList (tP3 tStr tStr tInt))))) (t3.1.1, t6, t3.1.2.2.1, t3.1.2.2.2)), some (fz (tList tStr) t9.1), some (fz tInt state_12), some (fz (tDic kStr tInt) s14.1), some (oL (tDic kStr tInt) s14.2.1), some (oL tInt s14.2.2), some (fz tStr y15), none, none, none, none, some (fz (t_Machine C_Machine) t8.1), some (fz (tList (tDic kStr tInt)) t8.2), none, none, none, none]) (fl := [true, true, true, true, true, true, true, true, true, true, true, true, true, true, true, true, true, true, true]) (rs_law K) (ls_law K) h_j20 (ij_lst (ej_var (i := 3) rfl (by first | exact Or.inl rfl | exact Or.inr (Or.inl rfl) | exact Or.inr (Or.inr rfl)) rfl)) rfl rfl (fun s14 y15 => (gj_name (i := 8) sc_law.nd rfl (by first | exact Or.inl rfl | exact Or.inr rfl))) ?_ ?_ PassesOwn.never rfl
  · intro s14 y15 o_ h_hy21 h
    clear h_j20; have h := h
    show SJ _ _ _ [some (fz (tScr K) x_script), some (oLst [(fz (tList tInt) t10.2.1), (fz tInt t10.2.2)]), some (fz (tL4 (tList tStr) (tList (tP3 tStr tInt (tDic kStr (tSum tInt tStr)))) (tList (tP3 tInt tStr (tList (tP3 tStr tStr tInt)))) (tList (tP2 tInt (tList (tP3 tStr tStr tInt))))) (t3.1.1, t6, t3.1.2.2.1, t3.1.2.2.2)), some (fz (tList tStr) t9.1), some (fz tInt state_12), some (fz (tDic kStr tInt) s14.1), some (oL (tDic kStr tInt) s14.2.1), some (oL tInt s14.2.2), some (fz tStr y15), none, none, none, none, some (fz (t_Machine C_Machine) t8.1), some (fz (tList (tDic kStr tInt)) t8.2), none, none, none, none] _
    obtain ⟨t16, h_t16, h⟩ := bnd h
    obtain ⟨g17, h_g17, h⟩ := bnd h
    refine sj_expr (ej_app (i := 7) rfl (by first | exact Or.inl rfl | exact Or.inr (Or.inl rfl) | exact Or.inr (Or.inr rfl)) rfl (aj_cons (ej_callP (ss := [_, _, _]) C_law_gain (hr.mono (by decide)) (by rfl) pass0 (aj_cons (ej_var (i := 2) rfl (by first | exact Or.inl rfl | exact Or.inr (Or.inl rfl) | exact Or.inr (Or.inr rfl)) rfl) (aj_cons (ej_var (i := 5) rfl (by first | exact Or.inl rfl | exact Or.inr (Or.inl rfl) | exact Or.inr (Or.inr rfl)) rfl) (aj_cons (ej_var (i := 8) rfl (by first | exact Or.inl rfl | exact Or.inr (Or.inl rfl) | exact Or.inr (Or.inr rfl)) rfl) aj_nil))) ⟨(t3.1.1, t6, t3.1.2.2.1, t3.1.2.2.2), s14.1, y15, t16, h_t16, rfl, rfl, rfl⟩) aj_nil) rfl (grd_iff h_g17).1) ?_
    show SJ _ _ _ [some (fz (tScr K) x_script), some (oLst [(fz (tList tInt) t10.2.1), (fz tInt t10.2.2)]), some (fz (tL4 (tList tStr) (tList (tP3 tStr tInt (tDic kStr (tSum tInt tStr)))) (tList (tP3 tInt tStr (tList (tP3 tStr tStr tInt)))) (tList (tP2 tInt (tList (tP3 tStr tStr tInt))))) (t3.1.1, t6, t3.1.2.2.1, t3.1.2.2.2)), some (fz (tList tStr) t9.1), some (fz tInt state_12), some (fz (tDic kStr tInt) s14.1), some (oL (tDic kStr tInt) s14.2.1), some (oL tInt (s14.2.2 ++ [t16])), some (fz tStr y15), none, none, none, none, some (fz (t_Machine C_Machine) t8.1), some (fz (tList (tDic kStr tInt)) t8.2), none, none, none, none] _
    obtain ⟨t18, h_t18, h⟩ := bnd h
    refine sj_set (i := 5) (s := (fz (tDic kStr tInt) t18)) sc_law.nd rfl (by first | exact Or.inl rfl | exact Or.inr rfl) (ej_callP (ss := [_, _, _]) C_law_year (hr.mono (by decide)) (by rfl) pass0 (aj_cons (ej_var (i := 2) rfl (by first | exact Or.inl rfl | exact Or.inr (Or.inl rfl) | exact Or.inr (Or.inr rfl)) rfl) (aj_cons (ej_var (i := 5) rfl (by first | exact Or.inl rfl | exact Or.inr (Or.inl rfl) | exact Or.inr (Or.inr rfl)) rfl) (aj_cons (ej_var (i := 8) rfl (by first | exact Or.inl rfl | exact Or.inr (Or.inl rfl) | exact Or.inr (Or.inr rfl)) rfl) aj_nil))) ⟨(t3.1.1, t6, t3.1.2.2.1, t3.1.2.2.2), s14.1, y15, t18, h_t18, rfl, rfl, rfl⟩) ?_
    show SJ _ _ _ [some (fz (tScr K) x_script), some (oLst [(fz (tList tInt) t10.2.1), (fz tInt t10.2.2)]), some (fz (tL4 (tList tStr) (tList (tP3 tStr tInt (tDic kStr (tSum tInt tStr)))) (tList (tP3 tInt tStr (tList (tP3 tStr tStr tInt)))) (tList (tP2 tInt (tList (tP3 tStr tStr tInt))))) (t3.1.1, t6, t3.1.2.2.1, t3.1.2.2.2)), some (fz (tList tStr) t9.1), some (fz tInt state_12), some (fz (tDic kStr tInt) t18), some (oL (tDic kStr tInt) s14.2.1), some (oL tInt (s14.2.2 ++ [t16])), some (fz tStr y15), none, none, none, none, some (fz (t_Machine C_Machine) t8.1), some (fz (tList (tDic kStr tInt)) t8.2), none, none, none, none] _
    obtain ⟨g19, h_g19, h⟩ := bnd h
    refine sj_expr (ej_app (i := 6) rfl (by first | exact Or.inl rfl | exact Or.inr (Or.inl rfl) | exact Or.inr (Or.inr rfl)) rfl (aj_cons (ej_var (i := 5) rfl (by first | exact Or.inl rfl | exact Or.inr (Or.inl rfl) | exact Or.inr (Or.inr rfl)) rfl) aj_nil) rfl (grd_iff h_g19).1) ?_
    show SJ _ _ _ [some (fz (tScr K) x_script), some (oLst [(fz (tList tInt) t10.2.1), (fz tInt t10.2.2)]), some (fz (tL4 (tList tStr) (tList (tP3 tStr tInt (tDic kStr (tSum tInt tStr)))) (tList (tP3 tInt tStr (tList (tP3 tStr tStr tInt)))) (tList (tP2 tInt (tList (tP3 tStr tStr tInt))))) (t3.1.1, t6, t3.1.2.2.1, t3.1.2.2.2)), some (fz (tList tStr) t9.1), some (fz tInt state_12), some (fz (tDic kStr tInt) t18), some (oL (tDic kStr tInt) (s14.2.1 ++ [t18])), some (oL tInt (s14.2.2 ++ [t16])), some (fz tStr y15), none, none, none, none, some (fz (t_Machine C_Machine) t8.1), some (fz (tList (tDic kStr tInt)) t8.2), none, none, none, none] _
    (simp only [Option.some.injEq, Prod.mk.injEq] at h; first | subst h | (obtain ⟨_, _⟩ := h; subst_vars))
    exact sj_end (fl := [true, true, true, true, true, true, true, true, false, true, true, true, true, true, true, true, true, true, true]) rfl rfl
  show SJ _ _ _ [some (fz (tScr K) x_script), some (oLst [(fz (tList tInt) t10.2.1), (fz tInt t10.2.2)]), some (fz (tL4 (tList tStr) (tList (tP3 tStr tInt (tDic kStr (tSum tInt tStr)))) (tList (tP3 tInt tStr (tList (tP3 tStr tStr tInt)))) (tList (tP2 tInt (tList (tP3 tStr tStr tInt))))) (t3.1.1, t6, t3.1.2.2.1, t3.1.2.2.2)), some (fz (tList tStr) t9.1), some (fz tInt state_12), some (fz (tDic kStr tInt) j20.1), some (oL (tDic kStr tInt) j20.2.1), some (oL tInt j20.2.2), none, none, none, none, none, some (fz (t_Machine C_Machine) t8.1), some (fz (tList (tDic kStr tInt)) t8.2), none, none, none, none] _
  obtain ⟨t22, h_t22, h⟩ := bnd h
  refine sj_set (i := 9) (s := (fz (tList tInt) t22)) sc_law.nd rfl (by first | exact Or.inl rfl | exact Or.inr rfl) (ej_callP (ss := [_, _, _]) C_states_along (hr.mono (by decide)) (by rfl) pass0 (aj_cons (ej_var (i := 13) rfl (by first | exact Or.inl rfl | exact Or.inr (Or.inl rfl) | exact Or.inr (Or.inr rfl)) rfl) (aj_cons (ej_var (i := 4) rfl (by first | exact Or.inl rfl | exact Or.inr (Or.inl rfl) | exact Or.inr (Or.inr rfl)) rfl) (aj_cons (ej_var (i := 3) rfl (by first | exact Or.inl rfl | exact Or.inr (Or.inl rfl) | exact Or.inr (Or.inr rfl)) rfl) aj_nil))) ⟨t8.1, state_12, t9.1, t22, h_t22, rfl, rfl, rfl⟩) ?_
  show SJ _ _ _ [some (fz (tScr K) x_script), some (oLst [(fz (tList tInt) t10.2.1), (fz tInt t10.2.2)]), some (fz (tL4 (tList tStr) (tList (tP3 tStr tInt (tDic kStr (tSum tInt tStr)))) (tList (tP3 tInt tStr (tList (tP3 tStr tStr tInt)))) (tList (tP2 tInt (tList (tP3 tStr tStr tInt))))) (t3.1.1, t6, t3.1.2.2.1, t3.1.2.2.2)), some (fz (tList tStr) t9.1), some (fz tInt state_12), some (fz (tDic kStr tInt) j20.1), some (oL (tDic kStr tInt) j20.2.1), some (oL tInt j20.2.2), none, some (fz (tList tInt) t22), none, none, none, some (fz (t_Machine C_Machine) t8.1), some (fz (tList (tDic kStr tInt)) t8.2), none, none, none, none] _
  refine sj_fz (i := 6) rfl fz_oL ?_
  show SJ _ _ _ [some (fz (tScr K) x_script), some (oLst [(fz (tList tInt) t10.2.1), (fz tInt t10.2.2)]), some (fz (tL4 (tList tStr) (tList (tP3 tStr tInt (tDic kStr (tSum tInt tStr)))) (tList (tP3 tInt tStr (tList (tP3 tStr tStr tInt)))) (tList (tP2 tInt (tList (tP3 tStr tStr tInt))))) (t3.1.1, t6, t3.1.2.2.1, t3.1.2.2.2)), some (fz (tList tStr) t9.1), some (fz tInt state_12), some (fz (tDic kStr tInt) j20.1), some (fz (tList (tDic kStr tInt)) j20.2.1), some (oL tInt j20.2.2), none, some (fz (tList tInt) t22), none, none, none, some (fz (t_Machine C_Machine) t8.1), some (fz (tList (tDic kStr tInt)) t8.2), none, none, none, none] _
  obtain ⟨g24, h_g24, h⟩ := bnd h
  obtain ⟨t26, h_t26, h⟩ := bnd h
  obtain ⟨g27, h_g27, h⟩ := bnd h
  obtain ⟨t30, h_t30, h⟩ := bnd h
  refine sj_ifT (t := t30) (tj_w (wj_or (tj_cmp (ej_neLD (hu_of hr.room) (ej_is (grd_iff h_g27).1 (ej_fz (lcj_e (lcP (Γy := fun y23 => [some (fz (tScr K) x_script), some (oLst [(fz (tList tInt) t10.2.1), (fz tInt t10.2.2)]), some (fz (tL4 (tList tStr) (tList (tP3 tStr tInt (tDic kStr (tSum tInt tStr)))) (tList (tP3 tInt tStr (tList (tP3 tStr tStr tInt)))) (tList (tP2 tInt (tList (tP3 tStr tStr tInt))))) (t3.1.1, t6, t3.1.2.2.1, t3.1.2.2.2)), some (fz (tList tStr) t9.1), some (fz tInt state_12), some (fz (tDic kStr tInt) j20.1), some (fz (tList (tDic kStr tInt)) j20.2.1), some (oL tInt j20.2.2), none, some (fz (tList tInt) t22), none, none, none, some (fz (t_Machine C_Machine) t8.1), some (fz (tList (tDic kStr tInt)) t8.2), none, none, none, some (fz tInt y23)]) (own := [("one", 18)]) (fun _ _ _ _ _ y23 => (gj0_name (i := 18) sc_law.nd rfl (by first | exact Or.inl rfl | exact Or.inr rfl) (z_none rfl))) (fun _ _ _ _ _ y23 oz hm h => (by have h := h; obtain ⟨t25, h_t25, h⟩ := bnd h;  (simp only [Option.some.injEq, Prod.mk.injEq] at h; first | subst h | (obtain ⟨_, _⟩ := h; subst_vars)); exact ts_nil)) (fun _ _ _ _ _ y23 z hm h => (by have h := h; obtain ⟨t25, h_t25, h⟩ := bnd h;  (simp only [Option.some.injEq, Prod.mk.injEq] at h; first | subst h | (obtain ⟨_, _⟩ := h; subst_vars)); exact (ej_ix ix_list (v2_ixL rd_fz h_t25) (ej_var (i := 14) rfl (by first | exact Or.inl rfl | exact Or.inr (Or.inl rfl) | exact Or.inr (Or.inr rfl)) rfl) (ej_var (i := 18) rfl (by first | exact Or.inl rfl | exact Or.inr (Or.inl rfl) | exact Or.inr (Or.inr rfl)) rfl) (fun _ _ => rfl)))) h_t26 (grd_iff h_g24).1 rfl sc_law.nd (ij_lst (ej_var (i := 9) rfl (by first | exact Or.inl rfl | exact Or.inr (Or.inl rfl) | exact Or.inr (Or.inr rfl)) rfl)) (blkOk_by (own := [("one", 18)]) (N := n_law) (sc := defScope s_law) (by decide +kernel)) ⟨z_none rfl, trivial⟩)) fz_oL)) (ej_var (i := 6) rfl (by first | exact Or.inl rfl | exact Or.inr (Or.inl rfl) | exact Or.inr (Or.inr rfl)) rfl))) (by intro hb_; have h := ifF hb_ h_t30; obtain ⟨t28, h_t28, h⟩ := bnd h; obtain ⟨t29, h_t29, h⟩ := bnd h; (simp only [Option.some.injEq, Prod.mk.injEq] at h; first | subst h | (obtain ⟨_, _⟩ := h; subst_vars)); exact (wj_or1 (tj_cmp (ej_ne (ej_callP (ss := [_, _, _]) C_state_after (hr.mono (by decide)) (by rfl) pass0 (aj_cons (ej_var (i := 13) rfl (by first | exact Or.inl rfl | exact Or.inr (Or.inl rfl) | exact Or.inr (Or.inr rfl)) rfl) (aj_cons (ej_var (i := 4) rfl (by first | exact Or.inl rfl | exact Or.inr (Or.inl rfl) | exact Or.inr (Or.inr rfl)) rfl) (aj_cons (ej_var (i := 3) rfl (by first | exact Or.inl rfl | exact Or.inr (Or.inl rfl) | exact Or.inr (Or.inr rfl)) rfl) aj_nil))) ⟨t8.1, state_12, t9.1, t28, h_t28, rfl, rfl, rfl⟩) (ej_ix ix_list (v2_ixL rd_fz h_t29) (ej_var (i := 9) rfl (by first | exact Or.inl rfl | exact Or.inr (Or.inl rfl) | exact Or.inr (Or.inr rfl)) rfl) (ej_neg ej_int) (fun _ _ => rfl)))))) (fun hb_ => (Option.some.inj (ifT hb_ h_t30)).symm))) ?_ ?_
  · intro h_b31
    replace h := ifT h_b31 h
    show SJ _ _ _ [some (fz (tScr K) x_script), some (oLst [(fz (tList tInt) t10.2.1), (fz tInt t10.2.2)]), some (fz (tL4 (tList tStr) (tList (tP3 tStr tInt (tDic kStr (tSum tInt tStr)))) (tList (tP3 tInt tStr (tList (tP3 tStr tStr tInt)))) (tList (tP2 tInt (tList (tP3 tStr tStr tInt))))) (t3.1.1, t6, t3.1.2.2.1, t3.1.2.2.2)), some (fz (tList tStr) t9.1), some (fz tInt state_12), some (fz (tDic kStr tInt) j20.1), some (fz (tList (tDic kStr tInt)) j20.2.1), some (oL tInt j20.2.2), none, some (fz (tList tInt) t22), none, none, none, some (fz (t_Machine C_Machine) t8.1), some (fz (tList (tDic kStr tInt)) t8.2), none, none, none, none] _
    (simp only [Option.some.injEq, Prod.mk.injEq] at h; first | subst h | (obtain ⟨_, _⟩ := h; subst_vars))
    exact sj_ret (rs := rs_law K) (ls := ls_law K) (y := false) ej_bl rfl rfl (show List.Nodup ([] : List Nat) by decide) rfl
  intro h_b31
  replace h := ifF h_b31 h
  show SJ _ _ _ [some (fz (tScr K) x_script), some (oLst [(fz (tList tInt) t10.2.1), (fz tInt t10.2.2)]), some (fz (tL4 (tList tStr) (tList (tP3 tStr tInt (tDic kStr (tSum tInt tStr)))) (tList (tP3 tInt tStr (tList (tP3 tStr tStr tInt)))) (tList (tP2 tInt (tList (tP3 tStr tStr tInt))))) (t3.1.1, t6, t3.1.2.2.1, t3.1.2.2.2)), some (fz (tList tStr) t9.1), some (fz tInt state_12), some (fz (tDic kStr tInt) j20.1), some (fz (tList (tDic kStr tInt)) j20.2.1), some (oL tInt j20.2.2), none, some (fz (tList tInt) t22), none, none, none, some (fz (t_Machine C_Machine) t8.1), some (fz (tList (tDic kStr tInt)) t8.2), none, none, none, none] _
  refine sj_fz (i := 7) rfl fz_oL ?_
  show SJ _ _ _ [some (fz (tScr K) x_script), some (oLst [(fz (tList tInt) t10.2.1), (fz tInt t10.2.2)]), some (fz (tL4 (tList tStr) (tList (tP3 tStr tInt (tDic kStr (tSum tInt tStr)))) (tList (tP3 tInt tStr (tList (tP3 tStr tStr tInt)))) (tList (tP2 tInt (tList (tP3 tStr tStr tInt))))) (t3.1.1, t6, t3.1.2.2.1, t3.1.2.2.2)), some (fz (tList tStr) t9.1), some (fz tInt state_12), some (fz (tDic kStr tInt) j20.1), some (fz (tList (tDic kStr tInt)) j20.2.1), some (fz (tList tInt) j20.2.2), none, some (fz (tList tInt) t22), none, none, none, some (fz (t_Machine C_Machine) t8.1), some (fz (tList (tDic kStr tInt)) t8.2), none, none, none, none] _
  obtain ⟨t32, h_t32, h⟩ := bnd h
  obtain ⟨t35, h_t35, h⟩ := bnd h
  refine sj_ifT (t := t35) (tj_w (wj_or (tj_cmp (ej_neL (hu1 hr) (ej_callP (ss := [_, _, _]) C_gains_of (hr.mono (by decide)) (by rfl) pass0 (aj_cons (ej_var (i := 13) rfl (by first | exact Or.inl rfl | exact Or.inr (Or.inl rfl) | exact Or.inr (Or.inr rfl)) rfl) (aj_cons (ej_var (i := 4) rfl (by first | exact Or.inl rfl | exact Or.inr (Or.inl rfl) | exact Or.inr (Or.inr rfl)) rfl) (aj_cons (ej_var (i := 3) rfl (by first | exact Or.inl rfl | exact Or.inr (Or.inl rfl) | exact Or.inr (Or.inr rfl)) rfl) aj_nil))) ⟨t8.1, state_12, t9.1, t32, h_t32, rfl, rfl, rfl⟩) (ej_var (i := 7) rfl (by first | exact Or.inl rfl | exact Or.inr (Or.inl rfl) | exact Or.inr (Or.inr rfl)) rfl))) (by intro hb_; have h := ifF hb_ h_t35; obtain ⟨t33, h_t33, h⟩ := bnd h; obtain ⟨t34, h_t34, h⟩ := bnd h; (simp only [Option.some.injEq, Prod.mk.injEq] at h; first | subst h | (obtain ⟨_, _⟩ := h; subst_vars)); exact (wj_or1 (tj_cmp (ej_ne (ej_callP (ss := [_, _, _]) C_total (hr.mono (by decide)) (by rfl) pass0 (aj_cons (ej_var (i := 13) rfl (by first | exact Or.inl rfl | exact Or.inr (Or.inl rfl) | exact Or.inr (Or.inr rfl)) rfl) (aj_cons (ej_var (i := 4) rfl (by first | exact Or.inl rfl | exact Or.inr (Or.inl rfl) | exact Or.inr (Or.inr rfl)) rfl) (aj_cons (ej_var (i := 3) rfl (by first | exact Or.inl rfl | exact Or.inr (Or.inl rfl) | exact Or.inr (Or.inr rfl)) rfl) aj_nil))) ⟨t8.1, state_12, t9.1, t33, h_t33, rfl, rfl, rfl⟩) (ej_add (ej_b (ss := [_]) (cr_sum rfl) (va_sum rd_fz) (by rfl) m_sum bt_sum (aj_cons (ej_var (i := 7) rfl (by first | exact Or.inl rfl | exact Or.inr (Or.inl rfl) | exact Or.inr (Or.inr rfl)) rfl) aj_nil)) (ej_callP (ss := [_, _]) C_law_leave (hr.mono (by decide)) (by rfl) pass0 (aj_cons (ej_var (i := 2) rfl (by first | exact Or.inl rfl | exact Or.inr (Or.inl rfl) | exact Or.inr (Or.inr rfl)) rfl) (aj_cons (ej_var (i := 5) rfl (by first | exact Or.inl rfl | exact Or.inr (Or.inl rfl) | exact Or.inr (Or.inr rfl)) rfl) aj_nil)) ⟨(t3.1.1, t6, t3.1.2.2.1, t3.1.2.2.2), j20.1, t34, h_t34, rfl, rfl, rfl⟩)))))) (fun hb_ => (Option.some.inj (ifT hb_ h_t35)).symm))) ?_ ?_
  · intro h_b36
    replace h := ifT h_b36 h
    show SJ _ _ _ [some (fz (tScr K) x_script), some (oLst [(fz (tList tInt) t10.2.1), (fz tInt t10.2.2)]), some (fz (tL4 (tList tStr) (tList (tP3 tStr tInt (tDic kStr (tSum tInt tStr)))) (tList (tP3 tInt tStr (tList (tP3 tStr tStr tInt)))) (tList (tP2 tInt (tList (tP3 tStr tStr tInt))))) (t3.1.1, t6, t3.1.2.2.1, t3.1.2.2.2)), some (fz (tList tStr) t9.1), some (fz tInt state_12), some (fz (tDic kStr tInt) j20.1), some (fz (tList (tDic kStr tInt)) j20.2.1), some (fz (tList tInt) j20.2.2), none, some (fz (tList tInt) t22), none, none, none, some (fz (t_Machine C_Machine) t8.1), some (fz (tList (tDic kStr tInt)) t8.2), none, none, none, none] _
    (simp only [Option.some.injEq, Prod.mk.injEq] at h; first | subst h | (obtain ⟨_, _⟩ := h; subst_vars))
    exact sj_ret (rs := rs_law K) (ls := ls_law K) (y := false) ej_bl rfl rfl (show List.Nodup ([] : List Nat) by decide) rfl
  intro h_b36
  replace h := ifF h_b36 h
  show SJ _ _ _ [some (fz (tScr K) x_script), some (oLst [(fz (tList tInt) t10.2.1), (fz tInt t10.2.2)]), some (fz (tL4 (tList tStr) (tList (tP3 tStr tInt (tDic kStr (tSum tInt tStr)))) (tList (tP3 tInt tStr (tList (tP3 tStr tStr tInt)))) (tList (tP2 tInt (tList (tP3 tStr tStr tInt))))) (t3.1.1, t6, t3.1.2.2.1, t3.1.2.2.2)), some (fz (tList tStr) t9.1), some (fz tInt state_12), some (fz (tDic kStr tInt) j20.1), some (fz (tList (tDic kStr tInt)) j20.2.1), some (fz (tList tInt) j20.2.2), none, some (fz (tList tInt) t22), none, none, none, some (fz (t_Machine C_Machine) t8.1), some (fz (tList (tDic kStr tInt)) t8.2), none, none, none, none] _
  obtain ⟨t37, h_t37, h⟩ := bnd h
  refine sj_set (i := 10) (s := (fz tInt t37.1)) sc_law.nd rfl (by first | exact Or.inl rfl | exact Or.inr rfl) (ej_call C_law_draw (hr.mono (by decide)) (by rfl) pass0 (aj_lend (i := 1) rfl (by first | exact Or.inl rfl | exact Or.inr (Or.inl rfl) | exact Or.inr (Or.inr rfl)) rfl (aj_cons (ej_add (ej_b (ss := [_]) Dl.cl_len (va_len rd_fz) (by rfl) m_len bt_len (aj_cons (ej_var (i := 3) rfl (by first | exact Or.inl rfl | exact Or.inr (Or.inl rfl) | exact Or.inr (Or.inr rfl)) rfl) aj_nil)) ej_int) aj_nil)) rfl ⟨(t10.2.1, t10.2.2), (((t9.1).length : Int) + (1 : Int)), t37, h_t37, rfl, rfl, rfl⟩) ?_
  show SJ _ _ _ [some (fz (tScr K) x_script), some (oLst [(fz (tList tInt) t37.2.1), (fz tInt t37.2.2)]), some (fz (tL4 (tList tStr) (tList (tP3 tStr tInt (tDic kStr (tSum tInt tStr)))) (tList (tP3 tInt tStr (tList (tP3 tStr tStr tInt)))) (tList (tP2 tInt (tList (tP3 tStr tStr tInt))))) (t3.1.1, t6, t3.1.2.2.1, t3.1.2.2.2)), some (fz (tList tStr) t9.1), some (fz tInt state_12), some (fz (tDic kStr tInt) j20.1), some (fz (tList (tDic kStr tInt)) j20.2.1), some (fz (tList tInt) j20.2.2), none, some (fz (tList tInt) t22), some (fz tInt t37.1), none, none, some (fz (t_Machine C_Machine) t8.1), some (fz (tList (tDic kStr tInt)) t8.2), none, none, none, none] _
  obtain ⟨g38, h_g38, h⟩ := bnd h
  obtain ⟨g39, h_g39, h⟩ := bnd h
  obtain ⟨g40, h_g40, h⟩ := bnd h
  obtain ⟨wrong_41, h_wrong_41, h⟩ := bnd h
  have h_wrong_41 := Option.some.inj h_wrong_41
  refine sj_set (i := 11) (s := (fz (tList tStr) wrong_41)) sc_law.nd rfl (by first | exact Or.inl rfl | exact Or.inr rfl) (ej_is h_wrong_41 (ej_fz (ej_cat (ej_fz (ej_cat (ej_fz (ej_cat (ej_fz (ej_slice (ej_var (i := 3) rfl (by first | exact Or.inl rfl | exact Or.inr (Or.inl rfl) | exact Or.inr (Or.inr rfl)) rfl) oj_none (oj_some (ej_var (i := 10) rfl (by first | exact Or.inl rfl | exact Or.inr (Or.inl rfl) | exact Or.inr (Or.inr rfl)) rfl))) fz_oL) (ej_fz (ej_lst (ss := [(fz tStr ("zzz" : Str))]) (aj_cons ej_str aj_nil)) (fz_lm (τ := tStr) (xs := [("zzz" : Str)]))) (grd_iff h_g38).1) fz_oL) (ej_fz (ej_slice (ej_var (i := 3) rfl (by first | exact Or.inl rfl | exact Or.inr (Or.inl rfl) | exact Or.inr (Or.inr rfl)) rfl) (oj_some (ej_var (i := 10) rfl (by first | exact Or.inl rfl | exact Or.inr (Or.inl rfl) | exact Or.inr (Or.inr rfl)) rfl)) oj_none) fz_oL) (grd_iff h_g39).1) fz_oL) (ej_fz (ej_lst (ss := [(fz tStr ("yyy" : Str))]) (aj_cons ej_str aj_nil)) (fz_lm (τ := tStr) (xs := [("yyy" : Str)]))) (grd_iff h_g40).1) fz_oL)) ?_
  show SJ _ _ _ [some (fz (tScr K) x_script), some (oLst [(fz (tList tInt) t37.2.1), (fz tInt t37.2.2)]), some (fz (tL4 (tList tStr) (tList (tP3 tStr tInt (tDic kStr (tSum tInt tStr)))) (tList (tP3 tInt tStr (tList (tP3 tStr tStr tInt)))) (tList (tP2 tInt (tList (tP3 tStr tStr tInt))))) (t3.1.1, t6, t3.1.2.2.1, t3.1.2.2.2)), some (fz (tList tStr) t9.1), some (fz tInt state_12), some (fz (tDic kStr tInt) j20.1), some (fz (tList (tDic kStr tInt)) j20.2.1), some (fz (tList tInt) j20.2.2), none, some (fz (tList tInt) t22), some (fz tInt t37.1), some (fz (tList tStr) wrong_41), none, some (fz (t_Machine C_Machine) t8.1), some (fz (tList (tDic kStr tInt)) t8.2), none, none, none, none] _
  obtain ⟨j64, h_j64, h⟩ := bnd h
  refine sj_forX (o := j64) (sh := fz (tWays [C_fn_states_along, C_fn_state_after, C_fn_gains_of, C_fn_total])) (Γs := fun (s42 : Unit) => [some (fz (tScr K) x_script), some (oLst [(fz (tList tInt) t37.2.1), (fz tInt t37.2.2)]), some (fz (tL4 (tList tStr) (tList (tP3 tStr tInt (tDic kStr (tSum tInt tStr)))) (tList (tP3 tInt tStr (tList (tP3 tStr tStr tInt)))) (tList (tP2 tInt (tList (tP3 tStr tStr tInt))))) (t3.1.1, t6, t3.1.2.2.1, t3.1.2.2.2)), some (fz (tList tStr) t9.1), some (fz tInt state_12), some (fz (tDic kStr tInt) j20.1), some (fz (tList (tDic kStr tInt)) j20.2.1), some (fz (tList tInt) j20.2.2), none, some (fz (tList tInt) t22), some (fz tInt t37.1), some (fz (tList tStr) wrong_41), none, some (fz (t_Machine C_Machine) t8.1), some (fz (tList (tDic kStr tInt)) t8.2), none, none, none, none]) (Γy := fun (s42 : Unit) y43 => [some (fz (tScr K) x_script), some (oLst [(fz (tList tInt) t37.2.1), (fz tInt t37.2.2)]), some (fz (tL4 (tList tStr) (tList (tP3 tStr tInt (tDic kStr (tSum tInt tStr)))) (tList (tP3 tInt tStr (tList (tP3 tStr tStr tInt)))) (tList (tP2 tInt (tList (tP3 tStr tStr tInt))))) (t3.1.1, t6, t3.1.2.2.1, t3.1.2.2.2)), some (fz (tList tStr) t9.1), some (fz tInt state_12), some (fz (tDic kStr tInt) j20.1), some (fz (tList (tDic kStr tInt)) j20.2.1), some (fz (tList tInt) j20.2.2), none, some (fz (tList tInt) t22), some (fz tInt t37.1), some (fz (tList tStr) wrong_41), some (fz (tWays [C_fn_states_along, C_fn_state_after, C_fn_gains_of, C_fn_total]) y43), some (fz (t_Machine C_Machine) t8.1), some (fz (tList (tDic kStr tInt)) t8.2), none, none, none, none]) (fl := [true, true, true, true, true, true, true, true, true, true, true, true, true, true, true, true, true, true, true]) (rs := rs_law K) (ls := ls_law K) h_j64 (ij_lst (ej_fz (ej_lst (ss := [(fz (tWays [C_fn_states_along, C_fn_state_after, C_fn_gains_of, C_fn_total]) (0 : Int)), (fz (tWays [C_fn_states_along, C_fn_state_after, C_fn_gains_of, C_fn_total]) (1 : Int)), (fz (tWays [C_fn_states_along, C_fn_state_after, C_fn_gains_of, C_fn_total]) (2 : Int)), (fz (tWays [C_fn_states_along, C_fn_state_after, C_fn_gains_of, C_fn_total]) (3 : Int))]) (aj_cons (ej_way (by rfl) gF_states_along (by rfl)) (aj_cons (ej_way (by rfl) gF_state_after (by rfl)) (aj_cons (ej_way (by rfl) gF_gains_of (by rfl)) (aj_cons (ej_way (by rfl) gF_total (by rfl)) aj_nil))))) (fz_lm (τ := (tWays [C_fn_states_along, C_fn_state_after, C_fn_gains_of, C_fn_total])) (xs := [(0 : Int), (1 : Int), (2 : Int), (3 : Int)])))) rfl rfl (fun s42 y43 => (gj_name (i := 12) sc_law.nd rfl (by first | exact Or.inl rfl | exact Or.inr rfl))) ?_ ?_ ?_ PassesOwn.never rfl
  · intro s42 y43 o_ h_hy65 h
    clear h_j64; have h := h
    show SJ _ _ _ [some (fz (tScr K) x_script), some (oLst [(fz (tList tInt) t37.2.1), (fz tInt t37.2.2)]), some (fz (tL4 (tList tStr) (tList (tP3 tStr tInt (tDic kStr (tSum tInt tStr)))) (tList (tP3 tInt tStr (tList (tP3 tStr tStr tInt)))) (tList (tP2 tInt (tList (tP3 tStr tStr tInt))))) (t3.1.1, t6, t3.1.2.2.1, t3.1.2.2.2)), some (fz (tList tStr) t9.1), some (fz tInt state_12), some (fz (tDic kStr tInt) j20.1), some (fz (tList (tDic kStr tInt)) j20.2.1), some (fz (tList tInt) j20.2.2), none, some (fz (tList tInt) t22), some (fz tInt t37.1), some (fz (tList tStr) wrong_41), some (fz (tWays [C_fn_states_along, C_fn_state_after, C_fn_gains_of, C_fn_total]) y43), some (fz (t_Machine C_Machine) t8.1), some (fz (tList (tDic kStr tInt)) t8.2), none, none, none, none] _
    by_cases h_e60 : y43 = (0 : Int)
    · rw [if_pos h_e60] at h
      subst h_e60
      refine sj_fz (i := 12) rfl (fz_way (by rfl)) ?_
      show SJ _ _ _ [some (fz (tScr K) x_script), some (oLst [(fz (tList tInt) t37.2.1), (fz tInt t37.2.2)]), some (fz (tL4 (tList tStr) (tList (tP3 tStr tInt (tDic kStr (tSum tInt tStr)))) (tList (tP3 tInt tStr (tList (tP3 tStr tStr tInt)))) (tList (tP2 tInt (tList (tP3 tStr tStr tInt))))) (t3.1.1, t6, t3.1.2.2.1, t3.1.2.2.2)), some (fz (tList tStr) t9.1), some (fz tInt state_12), some (fz (tDic kStr tInt) j20.1), some (fz (tList (tDic kStr tInt)) j20.2.1), some (fz (tList tInt) j20.2.2), none, some (fz (tList tInt) t22), some (fz tInt t37.1), some (fz (tList tStr) wrong_41), some (fz (tFn C_fn_states_along) ()), some (fz (t_Machine C_Machine) t8.1), some (fz (tList (tDic kStr tInt)) t8.2), none, none, none, none] _
      obtain ⟨t44, h_t44, h⟩ := bnd h
      obtain ⟨g45, h_g45, h⟩ := bnd h
      obtain ⟨g46, h_g46, h⟩ := bnd h
      refine sj_ifT (t := (!(decide (t44 = (Sum.inr ("zzz" : Str) : (Int ⊕ Str)))))) (tj_cmp (ej_neQ hr (grd_iff h_g45).1 (grd_iff h_g46).1 (ej_callP (ss := [_, _, _, _]) C_law_told_a (hr.mono (by decide)) (by rfl) pass0 (aj_cons (ej_var (i := 12) rfl (by first | exact Or.inl rfl | exact Or.inr (Or.inl rfl) | exact Or.inr (Or.inr rfl)) rfl) (aj_cons (ej_var (i := 13) rfl (by first | exact Or.inl rfl | exact Or.inr (Or.inl rfl) | exact Or.inr (Or.inr rfl)) rfl) (aj_cons (ej_var (i := 4) rfl (by first | exact Or.inl rfl | exact Or.inr (Or.inl rfl) | exact Or.inr (Or.inr rfl)) rfl) (aj_cons (ej_var (i := 11) rfl (by first | exact Or.inl rfl | exact Or.inr (Or.inl rfl) | exact Or.inr (Or.inr rfl)) rfl) aj_nil)))) ⟨(), t8.1, state_12, wrong_41, t44, h_t44, rfl, rfl, rfl⟩) (ej_inr ej_str))) ?_ ?_
      · intro h_b47
        replace h := ifT h_b47 h
        show SJ _ _ _ [some (fz (tScr K) x_script), some (oLst [(fz (tList tInt) t37.2.1), (fz tInt t37.2.2)]), some (fz (tL4 (tList tStr) (tList (tP3 tStr tInt (tDic kStr (tSum tInt tStr)))) (tList (tP3 tInt tStr (tList (tP3 tStr tStr tInt)))) (tList (tP2 tInt (tList (tP3 tStr tStr tInt))))) (t3.1.1, t6, t3.1.2.2.1, t3.1.2.2.2)), some (fz (tList tStr) t9.1), some (fz tInt state_12), some (fz (tDic kStr tInt) j20.1), some (fz (tList (tDic kStr tInt)) j20.2.1), some (fz (tList tInt) j20.2.2), none, some (fz (tList tInt) t22), some (fz tInt t37.1), some (fz (tList tStr) wrong_41), some (fz (tFn C_fn_states_along) ()), some (fz (t_Machine C_Machine) t8.1), some (fz (tList (tDic kStr tInt)) t8.2), none, none, none, none] _
        (simp only [Option.some.injEq, Prod.mk.injEq] at h; first | subst h | (obtain ⟨_, _⟩ := h; subst_vars))
        exact sj_retO (rs := rs_law K) (ls := ls_law K) (y := false) ej_bl rfl rfl (show List.Nodup ([] : List Nat) by decide) rfl
      intro h_b47
      replace h := ifF h_b47 h
      show SJ _ _ _ [some (fz (tScr K) x_script), some (oLst [(fz (tList tInt) t37.2.1), (fz tInt t37.2.2)]), some (fz (tL4 (tList tStr) (tList (tP3 tStr tInt (tDic kStr (tSum tInt tStr)))) (tList (tP3 tInt tStr (tList (tP3 tStr tStr tInt)))) (tList (tP2 tInt (tList (tP3 tStr tStr tInt))))) (t3.1.1, t6, t3.1.2.2.1, t3.1.2.2.2)), some (fz (tList tStr) t9.1), some (fz tInt state_12), some (fz (tDic kStr tInt) j20.1), some (fz (tList (tDic kStr tInt)) j20.2.1), some (fz (tList tInt) j20.2.2), none, some (fz (tList tInt) t22), some (fz tInt t37.1), some (fz (tList tStr) wrong_41), some (fz (tFn C_fn_states_along) ()), some (fz (t_Machine C_Machine) t8.1), some (fz (tList (tDic kStr tInt)) t8.2), none, none, none, none] _
      (simp only [Option.some.injEq, Prod.mk.injEq] at h; first | subst h | (obtain ⟨_, _⟩ := h; subst_vars))
      exact sj_end (fl := [true, true, true, true, true, true, true, true, true, true, true, true, false, true, true, true, true, true, true]) rfl rfl
    rw [if_neg h_e60] at h
    by_cases h_e61 : y43 = (1 : Int)
    · rw [if_pos h_e61] at h
      subst h_e61
      refine sj_fz (i := 12) rfl (fz_way (by rfl)) ?_
      show SJ _ _ _ [some (fz (tScr K) x_script), some (oLst [(fz (tList tInt) t37.2.1), (fz tInt t37.2.2)]), some (fz (tL4 (tList tStr) (tList (tP3 tStr tInt (tDic kStr (tSum tInt tStr)))) (tList (tP3 tInt tStr (tList (tP3 tStr tStr tInt)))) (tList (tP2 tInt (tList (tP3 tStr tStr tInt))))) (t3.1.1, t6, t3.1.2.2.1, t3.1.2.2.2)), some (fz (tList tStr) t9.1), some (fz tInt state_12), some (fz (tDic kStr tInt) j20.1), some (fz (tList (tDic kStr tInt)) j20.2.1), some (fz (tList tInt) j20.2.2), none, some (fz (tList tInt) t22), some (fz tInt t37.1), some (fz (tList tStr) wrong_41), some (fz (tFn C_fn_state_after) ()), some (fz (t_Machine C_Machine) t8.1), some (fz (tList (tDic kStr tInt)) t8.2), none, none, none, none] _
      obtain ⟨t48, h_t48, h⟩ := bnd h
      obtain ⟨g49, h_g49, h⟩ := bnd h
      obtain ⟨g50, h_g50, h⟩ := bnd h
      refine sj_ifT (t := (!(decide (t48 = (Sum.inr ("zzz" : Str) : (Int ⊕ Str)))))) (tj_cmp (ej_neQ hr (grd_iff h_g49).1 (grd_iff h_g50).1 (ej_callP (ss := [_, _, _, _]) C_law_told_b (hr.mono (by decide)) (by rfl) pass0 (aj_cons (ej_var (i := 12) rfl (by first | exact Or.inl rfl | exact Or.inr (Or.inl rfl) | exact Or.inr (Or.inr rfl)) rfl) (aj_cons (ej_var (i := 13) rfl (by first | exact Or.inl rfl | exact Or.inr (Or.inl rfl) | exact Or.inr (Or.inr rfl)) rfl) (aj_cons (ej_var (i := 4) rfl (by first | exact Or.inl rfl | exact Or.inr (Or.inl rfl) | exact Or.inr (Or.inr rfl)) rfl) (aj_cons (ej_var (i := 11) rfl (by first | exact Or.inl rfl | exact Or.inr (Or.inl rfl) | exact Or.inr (Or.inr rfl)) rfl) aj_nil)))) ⟨(), t8.1, state_12, wrong_41, t48, h_t48, rfl, rfl, rfl⟩) (ej_inr ej_str))) ?_ ?_
      · intro h_b51
        replace h := ifT h_b51 h
        show SJ _ _ _ [some (fz (tScr K) x_script), some (oLst [(fz (tList tInt) t37.2.1), (fz tInt t37.2.2)]), some (fz (tL4 (tList tStr) (tList (tP3 tStr tInt (tDic kStr (tSum tInt tStr)))) (tList (tP3 tInt tStr (tList (tP3 tStr tStr tInt)))) (tList (tP2 tInt (tList (tP3 tStr tStr tInt))))) (t3.1.1, t6, t3.1.2.2.1, t3.1.2.2.2)), some (fz (tList tStr) t9.1), some (fz tInt state_12), some (fz (tDic kStr tInt) j20.1), some (fz (tList (tDic kStr tInt)) j20.2.1), some (fz (tList tInt) j20.2.2), none, some (fz (tList tInt) t22), some (fz tInt t37.1), some (fz (tList tStr) wrong_41), some (fz (tFn C_fn_state_after) ()), some (fz (t_Machine C_Machine) t8.1), some (fz (tList (tDic kStr tInt)) t8.2), none, none, none, none] _
        (simp only [Option.some.injEq, Prod.mk.injEq] at h; first | subst h | (obtain ⟨_, _⟩ := h; subst_vars))
        exact sj_retO (rs := rs_law K) (ls := ls_law K) (y := false) ej_bl rfl rfl (show List.Nodup ([] : List Nat) by decide) rfl
      intro h_b51
      replace h := ifF h_b51 h
      show SJ _ _ _ [some (fz (tScr K) x_script), some (oLst [(fz (tList tInt) t37.2.1), (fz tInt t37.2.2)]), some (fz (tL4 (tList tStr) (tList (tP3 tStr tInt (tDic kStr (tSum tInt tStr)))) (tList (tP3 tInt tStr (tList (tP3 tStr tStr tInt)))) (tList (tP2 tInt (tList (tP3 tStr tStr tInt))))) (t3.1.1, t6, t3.1.2.2.1, t3.1.2.2.2)), some (fz (tList tStr) t9.1), some (fz tInt state_12), some (fz (tDic kStr tInt) j20.1), some (fz (tList (tDic kStr tInt)) j20.2.1), some (fz (tList tInt) j20.2.2), none, some (fz (tList tInt) t22), some (fz tInt t37.1), some (fz (tList tStr) wrong_41), some (fz (tFn C_fn_state_after) ()), some (fz (t_Machine C_Machine) t8.1), some (fz (tList (tDic kStr tInt)) t8.2), none, none, none, none] _
      (simp only [Option.some.injEq, Prod.mk.injEq] at h; first | subst h | (obtain ⟨_, _⟩ := h; subst_vars))
      exact sj_end (fl := [true, true, true, true, true, true, true, true, true, true, true, true, false, true, true, true, true, true, true]) rfl rfl
    rw [if_neg h_e61] at h
    by_cases h_e62 : y43 = (2 : Int)
    · rw [if_pos h_e62] at h
      subst h_e62
      refine sj_fz (i := 12) rfl (fz_way (by rfl)) ?_
      show SJ _ _ _ [some (fz (tScr K) x_script), some (oLst [(fz (tList tInt) t37.2.1), (fz tInt t37.2.2)]), some (fz (tL4 (tList tStr) (tList (tP3 tStr tInt (tDic kStr (tSum tInt tStr)))) (tList (tP3 tInt tStr (tList (tP3 tStr tStr tInt)))) (tList (tP2 tInt (tList (tP3 tStr tStr tInt))))) (t3.1.1, t6, t3.1.2.2.1, t3.1.2.2.2)), some (fz (tList tStr) t9.1), some (fz tInt state_12), some (fz (tDic kStr tInt) j20.1), some (fz (tList (tDic kStr tInt)) j20.2.1), some (fz (tList tInt) j20.2.2), none, some (fz (tList tInt) t22), some (fz tInt t37.1), some (fz (tList tStr) wrong_41), some (fz (tFn C_fn_gains_of) ()), some (fz (t_Machine C_Machine) t8.1), some (fz (tList (tDic kStr tInt)) t8.2), none, none, none, none] _
      obtain ⟨t52, h_t52, h⟩ := bnd h
      obtain ⟨g53, h_g53, h⟩ := bnd h
      obtain ⟨g54, h_g54, h⟩ := bnd h
      refine sj_ifT (t := (!(decide (t52 = (Sum.inr ("zzz" : Str) : (Int ⊕ Str)))))) (tj_cmp (ej_neQ hr (grd_iff h_g53).1 (grd_iff h_g54).1 (ej_callP (ss := [_, _, _, _]) C_law_told_c (hr.mono (by decide)) (by rfl) pass0 (aj_cons (ej_var (i := 12) rfl (by first | exact Or.inl rfl | exact Or.inr (Or.inl rfl) | exact Or.inr (Or.inr rfl)) rfl) (aj_cons (ej_var (i := 13) rfl (by first | exact Or.inl rfl | exact Or.inr (Or.inl rfl) | exact Or.inr (Or.inr rfl)) rfl) (aj_cons (ej_var (i := 4) rfl (by first | exact Or.inl rfl | exact Or.inr (Or.inl rfl) | exact Or.inr (Or.inr rfl)) rfl) (aj_cons (ej_var (i := 11) rfl (by first | exact Or.inl rfl | exact Or.inr (Or.inl rfl) | exact Or.inr (Or.inr rfl)) rfl) aj_nil)))) ⟨(), t8.1, state_12, wrong_41, t52, h_t52, rfl, rfl, rfl⟩) (ej_inr ej_str))) ?_ ?_
      · intro h_b55
        replace h := ifT h_b55 h
        show SJ _ _ _ [some (fz (tScr K) x_script), some (oLst [(fz (tList tInt) t37.2.1), (fz tInt t37.2.2)]), some (fz (tL4 (tList tStr) (tList (tP3 tStr tInt (tDic kStr (tSum tInt tStr)))) (tList (tP3 tInt tStr (tList (tP3 tStr tStr tInt)))) (tList (tP2 tInt (tList (tP3 tStr tStr tInt))))) (t3.1.1, t6, t3.1.2.2.1, t3.1.2.2.2)), some (fz (tList tStr) t9.1), some (fz tInt state_12), some (fz (tDic kStr tInt) j20.1), some (fz (tList (tDic kStr tInt)) j20.2.1), some (fz (tList tInt) j20.2.2), none, some (fz (tList tInt) t22), some (fz tInt t37.1), some (fz (tList tStr) wrong_41), some (fz (tFn C_fn_gains_of) ()), some (fz (t_Machine C_Machine) t8.1), some (fz (tList (tDic kStr tInt)) t8.2), none, none, none, none] _
        (simp only [Option.some.injEq, Prod.mk.injEq] at h; first | subst h | (obtain ⟨_, _⟩ := h; subst_vars))
        exact sj_retO (rs := rs_law K) (ls := ls_law K) (y := false) ej_bl rfl rfl (show List.Nodup ([] : List Nat) by decide) rfl
      intro h_b55
      replace h := ifF h_b55 h
      show SJ _ _ _ [some (fz (tScr K) x_script), some (oLst [(fz (tList tInt) t37.2.1), (fz tInt t37.2.2)]), some (fz (tL4 (tList tStr) (tList (tP3 tStr tInt (tDic kStr (tSum tInt tStr)))) (tList (tP3 tInt tStr (tList (tP3 tStr tStr tInt)))) (tList (tP2 tInt (tList (tP3 tStr tStr tInt))))) (t3.1.1, t6, t3.1.2.2.1, t3.1.2.2.2)), some (fz (tList tStr) t9.1), some (fz tInt state_12), some (fz (tDic kStr tInt) j20.1), some (fz (tList (tDic kStr tInt)) j20.2.1), some (fz (tList tInt) j20.2.2), none, some (fz (tList tInt) t22), some (fz tInt t37.1), some (fz (tList tStr) wrong_41), some (fz (tFn C_fn_gains_of) ()), some (fz (t_Machine C_Machine) t8.1), some (fz (tList (tDic kStr tInt)) t8.2), none, none, none, none] _
      (simp only [Option.some.injEq, Prod.mk.injEq] at h; first | subst h | (obtain ⟨_, _⟩ := h; subst_vars))
      exact sj_end (fl := [true, true, true, true, true, true, true, true, true, true, true, true, false, true, true, true, true, true, true]) rfl rfl
    rw [if_neg h_e62] at h
    by_cases h_e63 : y43 = (3 : Int)
    · rw [if_pos h_e63] at h
      subst h_e63
      refine sj_fz (i := 12) rfl (fz_way (by rfl)) ?_
      show SJ _ _ _ [some (fz (tScr K) x_script), some (oLst [(fz (tList tInt) t37.2.1), (fz tInt t37.2.2)]), some (fz (tL4 (tList tStr) (tList (tP3 tStr tInt (tDic kStr (tSum tInt tStr)))) (tList (tP3 tInt tStr (tList (tP3 tStr tStr tInt)))) (tList (tP2 tInt (tList (tP3 tStr tStr tInt))))) (t3.1.1, t6, t3.1.2.2.1, t3.1.2.2.2)), some (fz (tList tStr) t9.1), some (fz tInt state_12), some (fz (tDic kStr tInt) j20.1), some (fz (tList (tDic kStr tInt)) j20.2.1), some (fz (tList tInt) j20.2.2), none, some (fz (tList tInt) t22), some (fz tInt t37.1), some (fz (tList tStr) wrong_41), some (fz (tFn C_fn_total) ()), some (fz (t_Machine C_Machine) t8.1), some (fz (tList (tDic kStr tInt)) t8.2), none, none, none, none] _
      obtain ⟨t56, h_t56, h⟩ := bnd h
      obtain ⟨g57, h_g57, h⟩ := bnd h
      obtain ⟨g58, h_g58, h⟩ := bnd h
      refine sj_ifT (t := (!(decide (t56 = (Sum.inr ("zzz" : Str) : (Int ⊕ Str)))))) (tj_cmp (ej_neQ hr (grd_iff h_g57).1 (grd_iff h_g58).1 (ej_callP (ss := [_, _, _, _]) C_law_told_d (hr.mono (by decide)) (by rfl) pass0 (aj_cons (ej_var (i := 12) rfl (by first | exact Or.inl rfl | exact Or.inr (Or.inl rfl) | exact Or.inr (Or.inr rfl)) rfl) (aj_cons (ej_var (i := 13) rfl (by first | exact Or.inl rfl | exact Or.inr (Or.inl rfl) | exact Or.inr (Or.inr rfl)) rfl) (aj_cons (ej_var (i := 4) rfl (by first | exact Or.inl rfl | exact Or.inr (Or.inl rfl) | exact Or.inr (Or.inr rfl)) rfl) (aj_cons (ej_var (i := 11) rfl (by first | exact Or.inl rfl | exact Or.inr (Or.inl rfl) | exact Or.inr (Or.inr rfl)) rfl) aj_nil)))) ⟨(), t8.1, state_12, wrong_41, t56, h_t56, rfl, rfl, rfl⟩) (ej_inr ej_str))) ?_ ?_
      · intro h_b59
        replace h := ifT h_b59 h
        show SJ _ _ _ [some (fz (tScr K) x_script), some (oLst [(fz (tList tInt) t37.2.1), (fz tInt t37.2.2)]), some (fz (tL4 (tList tStr) (tList (tP3 tStr tInt (tDic kStr (tSum tInt tStr)))) (tList (tP3 tInt tStr (tList (tP3 tStr tStr tInt)))) (tList (tP2 tInt (tList (tP3 tStr tStr tInt))))) (t3.1.1, t6, t3.1.2.2.1, t3.1.2.2.2)), some (fz (tList tStr) t9.1), some (fz tInt state_12), some (fz (tDic kStr tInt) j20.1), some (fz (tList (tDic kStr tInt)) j20.2.1), some (fz (tList tInt) j20.2.2), none, some (fz (tList tInt) t22), some (fz tInt t37.1), some (fz (tList tStr) wrong_41), some (fz (tFn C_fn_total) ()), some (fz (t_Machine C_Machine) t8.1), some (fz (tList (tDic kStr tInt)) t8.2), none, none, none, none] _
        (simp only [Option.some.injEq, Prod.mk.injEq] at h; first | subst h | (obtain ⟨_, _⟩ := h; subst_vars))
        exact sj_retO (rs := rs_law K) (ls := ls_law K) (y := false) ej_bl rfl rfl (show List.Nodup ([] : List Nat) by decide) rfl
      intro h_b59
      replace h := ifF h_b59 h
      show SJ _ _ _ [some (fz (tScr K) x_script), some (oLst [(fz (tList tInt) t37.2.1), (fz tInt t37.2.2)]), some (fz (tL4 (tList tStr) (tList (tP3 tStr tInt (tDic kStr (tSum tInt tStr)))) (tList (tP3 tInt tStr (tList (tP3 tStr tStr tInt)))) (tList (tP2 tInt (tList (tP3 tStr tStr tInt))))) (t3.1.1, t6, t3.1.2.2.1, t3.1.2.2.2)), some (fz (tList tStr) t9.1), some (fz tInt state_12), some (fz (tDic kStr tInt) j20.1), some (fz (tList (tDic kStr tInt)) j20.2.1), some (fz (tList tInt) j20.2.2), none, some (fz (tList tInt) t22), some (fz tInt t37.1), some (fz (tList tStr) wrong_41), some (fz (tFn C_fn_total) ()), some (fz (t_Machine C_Machine) t8.1), some (fz (tList (tDic kStr tInt)) t8.2), none, none, none, none] _
      (simp only [Option.some.injEq, Prod.mk.injEq] at h; first | subst h | (obtain ⟨_, _⟩ := h; subst_vars))
      exact sj_end (fl := [true, true, true, true, true, true, true, true, true, true, true, true, false, true, true, true, true, true, true]) rfl rfl
    rw [if_neg h_e63] at h
    cases h
  · intro s66 e_; subst e_
    show SJ _ _ _ [some (fz (tScr K) x_script), some (oLst [(fz (tList tInt) t37.2.1), (fz tInt t37.2.2)]), some (fz (tL4 (tList tStr) (tList (tP3 tStr tInt (tDic kStr (tSum tInt tStr)))) (tList (tP3 tInt tStr (tList (tP3 tStr tStr tInt)))) (tList (tP2 tInt (tList (tP3 tStr tStr tInt))))) (t3.1.1, t6, t3.1.2.2.1, t3.1.2.2.2)), some (fz (tList tStr) t9.1), some (fz tInt state_12), some (fz (tDic kStr tInt) j20.1), some (fz (tList (tDic kStr tInt)) j20.2.1), some (fz (tList tInt) j20.2.2), none, some (fz (tList tInt) t22), some (fz tInt t37.1), some (fz (tList tStr) wrong_41), none, some (fz (t_Machine C_Machine) t8.1), some (fz (tList (tDic kStr tInt)) t8.2), none, none, none, none] _
    (simp only [Option.some.injEq, Prod.mk.injEq] at h; first | subst h | (obtain ⟨_, _⟩ := h; subst_vars))
    exact sj_ret (rs := rs_law K) (ls := ls_law K) (y := true) ej_bl rfl rfl (show List.Nodup ([] : List Nat) by decide) rfl
  · intro r67 e_; subst e_; cases h; exact fun _ _ _ h => h

end
theorem sat_is {α : Type} {m : Option α} {a : α} (h : Sat m fun x => x = a) : m = some a := by
  obtain ⟨b, e, r⟩ := h
  rw [e, r]
def BoxOk (b : (List Int) × Int) : Prop := 0 ≤ b.2
theorem sat_draw {b : (List Int) × Int} {n : Int} (h : BoxOk b) (hn : 0 < n) : Sat (m_law_draw b n) fun o => (0 ≤ o.1 ∧ o.1 < n) ∧ BoxOk o.2 := by
  have h' : 0 ≤ b.2 := h
  unfold m_law_draw
  refine sat_ite (fun e => ?_) fun _ => ?_
  · refine sat_bind (sat_atI (P := fun _ => True) h (of_decide_eq_true e) fun _ _ => trivial) fun t _ => ?_
    exact sat_grd (by omega) (sat_some ⟨fmod_lt' hn, (show 0 ≤ b.2 + 1 by omega)⟩)
  · exact sat_some ⟨⟨Int.le_refl _, hn⟩, (show 0 ≤ b.2 + 1 by omega)⟩
theorem sat_cell {ns : List Int} {k : Int} (h : 0 ≤ k) : Sat (m_law_cell ns k) fun _ => True := by
  unfold m_law_cell
  refine sat_ite (fun e => ?_) fun _ => sat_some trivial
  exact sat_bind (sat_atI (P := fun _ => True) h (of_decide_eq_true e) fun _ _ => trivial) fun t _ => sat_some trivial
theorem sat_digits {ns : List Int} {n : Int} (hn : 0 ≤ n ∧ n ≤ 200) : Sat (m_law_digits ns 0 n) fun _ => True := by
  unfold m_law_digits
  refine sat_grd (by omega) ?_
  refine sat_bind (sat_foldOn (fun i (s : List Int) => s.length ≤ 60 * i) (Nat.zero_le _) fun i s y hy hi => ?_) fun s _ => sat_some trivial
  have hy2 := range2_get hy
  refine sat_bind (sat_cell (by omega)) fun c _ => ?_
  refine sat_bind (P := fun _ => True) (sat_ite (fun _ => sat_bind (P := fun _ => True) (sat_some trivial) fun _ _ => sat_some trivial) fun _ => sat_some trivial) fun c2 _ => ?_
  refine sat_bind (P := fun p => p.1.length ≤ 60 * (i + 1)) (sat_ite (fun _ => ?_) fun _ => ?_) fun p hp => sat_some hp
  · refine sat_bind (sat_foldOn (fun j (p : List Int × Int) => p.1.length ≤ 60 * i + j) hi fun j p z hz hp => ?_) fun p hp => sat_some (by rw [range1_len] at hp; show p.1.length ≤ _; simp at hp; omega)
    have hz2 := range1_get hz
    refine sat_bind (P := fun q => q.1.length ≤ 60 * i + (j + 1)) (sat_ite (fun _ => ?_) fun _ => sat_some (by show p.1.length ≤ _; omega)) fun q hq => sat_some hq
    exact sat_grd (by unfold Sm; simp at hz2; omega) (sat_bind (P := fun _ => True) (sat_some trivial) fun c _ => sat_some (by simp; omega))
  · refine sat_bind (P := fun _ => True) (sat_some trivial) fun c _ => ?_
    refine sat_bind (sat_foldOn (fun j (p : List Int × Int) => p.1.length ≤ 60 * i + j) hi fun j p z hz hp => ?_) fun p hp => sat_some (by rw [range1_len] at hp; show p.1.length ≤ _; simp at hp; omega)
    have hz2 := range1_get hz
    exact sat_bind (P := fun _ => True) (sat_some trivial) fun c _ => sat_grd (by unfold Sm; simp at hz2; omega) (sat_some (by simp; omega))
def FactsL (fs : List Str) : Prop := (0 < fs.length ∧ fs.length ≤ 3) ∧ fs.Nodup ∧ ∀ f ∈ fs, f ∈ [("full" : Str), "half", "none", "if", "reset"]
instance (fs : List Str) : Decidable (FactsL fs) := inferInstanceAs (Decidable (_ ∧ _ ∧ _))
theorem sat_facts {b : (List Int) × Int} (h : BoxOk b) : Sat (m_law_facts b) fun o => FactsL o.1 ∧ BoxOk o.2 := by
  unfold m_law_facts
  refine sat_bind (sat_draw h (by decide)) fun t ⟨⟨h1, h2⟩, h3⟩ => ?_
  refine sat_bind (sat_atI (P := fun (x : List Str) => FactsL x) h1 h2 (by decide)) fun x hx => ?_
  exact sat_some ⟨hx, h3⟩
def StepsOk (d : List (Str × (Int ⊕ Str))) : Prop := ∀ p ∈ d, (∃ i, 0 ≤ i ∧ p.2 = Sum.inl i) ∨ p.2 = Sum.inr ("reset" : Str)
def allNames : List Str := ["years", "gap", "and"]
abbrev T_counter := Str × Int × List (Str × (Int ⊕ Str))
def CountersOk (cs : List T_counter) : Prop := cs.map Prod.fst = allNames.take cs.length ∧ (∀ c ∈ cs, StepsOk c.2.2 ∧ 1 ≤ c.2.1) ∧ cs.length ≤ 3
theorem StepsOk.aput {d : List (Str × (Int ⊕ Str))} (h : StepsOk d) {k : Str} {v : Int ⊕ Str} (hv : (∃ i, 0 ≤ i ∧ v = Sum.inl i) ∨ v = Sum.inr ("reset" : Str)) : StepsOk (aput d k v) := fun p hp => by
  rcases aput_mem hp with hp | hp
  · exact h p hp
  · rw [hp]
    exact hv
theorem sat_counters {b : (List Int) × Int} (h : BoxOk b) {fs : List Str} (hf : fs.length ≤ 3) : Sat (m_law_counters b fs) fun o => CountersOk o.1 ∧ BoxOk o.2 := by
  unfold m_law_counters
  refine sat_bind (sat_draw h (by decide)) fun t ⟨⟨h1, h2⟩, h3⟩ => ?_
  refine sat_grd (by omega) ?_
  refine sat_bind (sat_foldOn (fun i (s : ((List Int) × Int) × List T_counter) => BoxOk s.1 ∧ s.2.length = i ∧ s.2.map Prod.fst = allNames.take i ∧ ∀ c ∈ s.2, StepsOk c.2.2 ∧ 1 ≤ c.2.1) ⟨h3, rfl, rfl, fun _ h => (nomatch h)⟩ fun i s y hy ⟨hb, hl, hn, hs⟩ => ?_) fun s ⟨hb, hl, hn, hs⟩ => sat_some ⟨⟨?_, hs, ?_⟩, hb⟩
  · have hy2 := range1_get hy
    refine sat_bind (sat_draw hb (by decide)) fun t5 ⟨⟨g1, g2⟩, g3⟩ => ?_
    refine sat_bind (sat_atI (P := fun (x : Int) => 1 ≤ x) g1 g2 (by decide)) fun cap hcap => ?_
    refine sat_bind (sat_foldOn (fun j (p : ((List Int) × Int) × List (Str × (Int ⊕ Str))) => BoxOk p.1 ∧ p.2.length ≤ j ∧ StepsOk p.2) ⟨g3, Nat.le_refl _, fun _ h => (nomatch h)⟩ fun j p z hz ⟨pb, pl, ps⟩ => ?_) fun p ⟨pb, pl, ps⟩ => ?_
    · have hz2 := mem_len hz
      refine sat_bind (sat_draw pb (by decide)) fun t9 ⟨_, k3⟩ => ?_
      refine sat_bind (P := fun (q : ((List Int) × Int) × List (Str × (Int ⊕ Str))) => BoxOk q.1 ∧ q.2.length ≤ j + 1 ∧ StepsOk q.2 ∧ (t9.1 = 2 → q.2.length ≤ j)) (sat_ite (fun e => ?_) fun _ => sat_some ⟨k3, by show p.2.length ≤ _; omega, ps, fun _ => pl⟩) fun q ⟨qb, ql, qs, q2⟩ => ?_
      · refine sat_bind (sat_draw k3 (by omega)) fun t12 ⟨_, k4⟩ => ?_
        refine sat_grd (by unfold Sm; omega) (sat_some ⟨k4, ?_, ps.aput (.inl ⟨_, by omega, rfl⟩), fun z => ?_⟩)
        · show (aput p.2 z _).length ≤ _
          have := aput_len (d := p.2) (k := z) (v := (Sum.inl ((1 : Int) + t12.1) : Int ⊕ Str))
          omega
        · have := of_decide_eq_true e
          omega
      · refine sat_bind (P := fun (r : List (Str × (Int ⊕ Str))) => r.length ≤ j + 1 ∧ StepsOk r) (sat_ite (fun e => ?_) fun _ => sat_some ⟨ql, qs⟩) fun r ⟨rl, rs⟩ => sat_some ⟨qb, rl, rs⟩
        have e2 := q2 (of_decide_eq_true e)
        refine sat_grd (by unfold Sm; omega) (sat_some ⟨?_, qs.aput (.inr rfl)⟩)
        have := aput_len (d := q.2) (k := z) (v := (Sum.inr ("reset" : Str) : Int ⊕ Str))
        omega
    · obtain ⟨nm, e, hnm⟩ := atI_ok (xs := [("years" : Str), ("gap" : Str), ("and" : Str)]) (i := y) (by omega) (by simp; omega)
      refine sat_bind (sat_eq e (P := fun x => x = nm) rfl) fun nm' e' => ?_
      subst e'
      refine sat_grd (by unfold Sm; omega) (sat_some ⟨pb, ?_, ?_, ?_⟩)
      · show (s.2 ++ [_]).length = _
        rw [List.length_append, hl]
        rfl
      · show (s.2 ++ [_]).map Prod.fst = _
        have hy3 : y.toNat = i := by omega
        rw [hy3] at hnm
        rw [List.map_append, hn, show (allNames).take (i + 1) = allNames.take i ++ [allNames[i]'(mem_len hnm)] from List.take_succ_eq_append_getElem (l := allNames) (mem_len hnm)]
        congr 1
        exact congrArg (fun x => [x]) (List.getElem?_eq_some_iff.mp hnm).2.symm
      · intro c hc
        rcases List.mem_append.mp hc with hc | hc
        · exact hs c hc
        · rw [List.mem_singleton.mp hc]
          exact ⟨ps, hcap⟩
  · show s.2.map Prod.fst = allNames.take s.2.length
    rw [hl]
    exact hn
  · show s.2.length ≤ 3
    rw [hl, range1_len]
    omega
abbrev T_test := Str × Str × Int
def CondOk (names : List Str) (c : List T_test) : Prop := (∀ t ∈ c, t.1 ∈ names) ∧ c.length ≤ 2
theorem sat_condition {b : (List Int) × Int} (h : BoxOk b) {names : List Str} : Sat (m_law_condition b names) fun o => CondOk names o.1 ∧ BoxOk o.2 := by
  unfold m_law_condition
  refine sat_bind (P := fun (p : ((List Int) × Int) × List T_test) => BoxOk p.1 ∧ CondOk names p.2) (sat_ite (fun e => ?_) fun _ => sat_some ⟨h, fun _ h => (nomatch h), Nat.zero_le _⟩) fun p ⟨h1, h2⟩ => sat_some ⟨h2, h1⟩
  have hne : 0 < names.length := by
    cases names with
    | nil => exact absurd e (by decide)
    | cons => simp
  refine sat_bind (sat_draw h (by decide)) fun t ⟨⟨h1, h2⟩, h3⟩ => ?_
  refine sat_grd (by omega) ?_
  refine sat_bind (sat_foldOn (fun i (s : ((List Int) × Int) × List T_test) => BoxOk s.1 ∧ s.2.length = i ∧ ∀ t ∈ s.2, t.1 ∈ names) ⟨h3, rfl, fun _ h => (nomatch h)⟩ fun i s y hy ⟨hb, hl, hn⟩ => ?_) fun s ⟨hb, hl, hn⟩ => sat_some ⟨hb, hn, ?_⟩
  · have hy2 := range1_get hy
    refine sat_bind (sat_draw hb (by omega)) fun t7 ⟨⟨g1, g2⟩, g3⟩ => ?_
    refine sat_bind (sat_atI (P := fun x => x ∈ names) g1 g2 fun _ h => h) fun nm hnm => ?_
    refine sat_bind (sat_draw g3 (by decide)) fun t9 ⟨⟨k1, k2⟩, k3⟩ => ?_
    refine sat_bind (sat_atI (P := fun _ => True) k1 k2 fun _ _ => trivial) fun sg _ => ?_
    refine sat_bind (sat_draw k3 (by decide)) fun t11 ⟨_, k4⟩ => ?_
    refine sat_grd (by unfold Sm; omega) (sat_some ⟨k4, ?_, ?_⟩)
    · show (s.2 ++ [_]).length = _
      rw [List.length_append, hl]
      rfl
    · intro c hc
      rcases List.mem_append.mp hc with hc | hc
      · exact hn c hc
      · rw [List.mem_singleton.mp hc]
        exact hnm
  · show s.2.length ≤ 2
    rw [hl, range1_len]
    omega
theorem sat_amount {b : (List Int) × Int} (h : BoxOk b) : Sat (m_law_amount b) fun o => BoxOk o.2 := by
  unfold m_law_amount
  refine sat_bind (sat_draw h (by decide)) fun t ⟨_, h1⟩ => ?_
  refine sat_bind (sat_draw h1 (by decide)) fun t2 ⟨⟨g1, g2⟩, g3⟩ => ?_
  refine sat_bind (sat_atI (P := fun _ => True) g1 g2 fun _ _ => trivial) fun t3 _ => ?_
  refine sat_bind (sat_draw g3 (by decide)) fun t4 ⟨_, h2⟩ => ?_
  refine sat_bind (sat_atI (P := fun _ => True) (by split <;> decide) (by split <;> simp) fun _ _ => trivial) fun t5 _ => ?_
  exact sat_some h2
abbrev T_gain := Int × Str × List T_test
abbrev T_leave := Int × List T_test
abbrev T_scheme := List Str × List T_counter × List T_gain × List T_leave
def SchemeOk (fs : List Str) (s : T_scheme) : Prop := s.1 = fs ∧ CountersOk s.2.1 ∧ ((∀ g ∈ s.2.2.1, CondOk (s.2.1.map Prod.fst) g.2.2) ∧ s.2.2.1.length ≤ 3) ∧ (∀ g ∈ s.2.2.2, CondOk (s.2.1.map Prod.fst) g.2) ∧ s.2.2.2.length ≤ 2
theorem sat_scheme {b : (List Int) × Int} (h : BoxOk b) {fs : List Str} (hf : 0 < fs.length ∧ fs.length ≤ 3) : Sat (m_law_scheme b fs) fun o => SchemeOk fs o.1 ∧ BoxOk o.2 := by
  unfold m_law_scheme
  refine sat_bind (sat_counters h hf.2) fun t1 ⟨hc, hb⟩ => ?_
  refine sat_grd (by unfold Sm; have := hc.2.2; omega) ?_
  rw [mapC_map (g := Prod.fst) fun _ _ => rfl]
  refine sat_bind (sat_some rfl (P := fun x => x = t1.1.map Prod.fst)) fun names e => ?_
  subst e
  refine sat_bind (sat_draw hb (by decide)) fun t5 ⟨⟨g1, g2⟩, g3⟩ => ?_
  refine sat_grd (by omega) ?_
  refine sat_bind (sat_foldOn (fun i (s : ((List Int) × Int) × List T_gain) => BoxOk s.1 ∧ s.2.length = i ∧ ∀ g ∈ s.2, CondOk (t1.1.map Prod.fst) g.2.2) ⟨g3, rfl, fun _ h => (nomatch h)⟩ fun i s y hy ⟨hb, hl, hn⟩ => ?_) fun s ⟨hb, hl, hn⟩ => ?_
  · have hy2 := range1_get hy
    refine sat_bind (sat_amount hb) fun t9 h9 => ?_
    refine sat_bind (sat_draw h9 (by omega)) fun t10 ⟨⟨k1, k2⟩, k3⟩ => ?_
    refine sat_bind (sat_atI (P := fun _ => True) k1 k2 fun _ _ => trivial) fun fc _ => ?_
    refine sat_bind (sat_condition k3) fun t12 ⟨c1, c2⟩ => ?_
    refine sat_grd (by unfold Sm; omega) (sat_some ⟨c2, ?_, ?_⟩)
    · show (s.2 ++ [_]).length = _
      rw [List.length_append, hl]
      rfl
    · intro c hc
      rcases List.mem_append.mp hc with hc | hc
      · exact hn c hc
      · rw [List.mem_singleton.mp hc]
        exact c1
  refine sat_bind (sat_draw hb (by decide)) fun t16 ⟨⟨q1, q2⟩, q3⟩ => ?_
  refine sat_grd (by omega) ?_
  refine sat_bind (sat_foldOn (fun i (s : ((List Int) × Int) × List T_leave) => BoxOk s.1 ∧ s.2.length = i ∧ ∀ g ∈ s.2, CondOk (t1.1.map Prod.fst) g.2) ⟨q3, rfl, fun _ h => (nomatch h)⟩ fun i s y hy ⟨hb, hl, hn⟩ => ?_) fun u ⟨ub, ul, un⟩ => ?_
  · have hy2 := range1_get hy
    refine sat_bind (sat_amount hb) fun t9 h9 => ?_
    refine sat_bind (sat_condition h9) fun t12 ⟨c1, c2⟩ => ?_
    refine sat_grd (by unfold Sm; omega) (sat_some ⟨c2, ?_, ?_⟩)
    · show (s.2 ++ [_]).length = _
      rw [List.length_append, hl]
      rfl
    · intro c hc
      rcases List.mem_append.mp hc with hc | hc
      · exact hn c hc
      · rw [List.mem_singleton.mp hc]
        exact c1
  refine sat_some ⟨⟨rfl, hc, ⟨hn, ?_⟩, un, ?_⟩, ub⟩
  · show s.2.length ≤ 3
    rw [hl, range1_len]
    omega
  · show u.2.length ≤ 2
    rw [ul, range1_len]
    omega
/-! the two sides -/
def val (counts : List (Str × Int)) (k : Str) : Int := (aget counts k).getD 0
theorem aget_val {counts : List (Str × Int)} {k : Str} (h : k ∈ counts.map Prod.fst) : aget counts k = some (val counts k) := by
  obtain ⟨v, e, _⟩ := aget_some h
  unfold val
  rw [e]
  rfl
def tB (counts : List (Str × Int)) (t : T_test) : Bool := if t.2.1 = ">=" then decide (t.2.2 ≤ val counts t.1) else decide (val counts t.1 < t.2.2)
def hB (counts : List (Str × Int)) (c : List T_test) : Bool := c.all (tB counts)
theorem holds_eq {counts : List (Str × Int)} {c : List T_test} (h : CondOk (counts.map Prod.fst) c) : m_holds c counts = some (hB counts c) := by
  unfold m_holds
  rw [show grd (Sm c.length) () = some () from if_pos (by unfold Sm; have := h.2; omega)]
  show (mapC _ c).bind _ = _
  rw [mapC_map (g := tB counts) fun t ht => ?_]
  · show some ((c.map (tB counts)).all id) = _
    rw [List.all_map]
    rfl
  · unfold m_passes
    rw [aget_val (h.1 t ht)]
    unfold tB
    by_cases e : t.2.1 = ">="
    · rw [if_pos (decide_eq_true e), if_pos e]
      rfl
    · rw [if_neg (fun z => e (of_decide_eq_true z)), if_neg e]
      rfl
theorem law_holds_eq {counts : List (Str × Int)} {c : List T_test} (h : CondOk (counts.map Prod.fst) c) : m_law_holds c counts = some (hB counts c) := by
  unfold m_law_holds
  rw [foldX_all (p := tB counts) fun t ht => ?_]
  · unfold hB
    cases c.all (tB counts) <;> rfl
  · rw [aget_val (h.1 t ht)]
    unfold tB
    show (if (!decide (decide (t.2.2 ≤ val counts t.1) = decide (t.2.1 = ">="))) = true then some (Oc.ret false) else some (Oc.nx ())) = _
    by_cases e : t.2.1 = ">="
    · rw [if_pos e, decide_eq_true e]
      cases decide (t.2.2 ≤ val counts t.1) <;> rfl
    · rw [if_neg e, decide_eq_false e]
      by_cases z : t.2.2 ≤ val counts t.1
      · rw [decide_eq_true z, decide_eq_false (by omega : ¬ val counts t.1 < t.2.2)]
        rfl
      · rw [decide_eq_false z, decide_eq_true (by omega : val counts t.1 < t.2.2)]
        rfl
theorem paid_eq {counts : List (Str × Int)} {xs : List T_leave} (h : ∀ g ∈ xs, CondOk (counts.map Prod.fst) g.2) (hl : xs.length ≤ 3) : m_paid_sum xs counts = some ((xs.filterMap fun g => if hB counts g.2 = true then some g.1 else none).sum) := by
  unfold m_paid_sum
  rw [show grd (Sm xs.length) () = some () from if_pos (by unfold Sm; omega)]
  show (mapC _ xs).bind _ = _
  rw [mapC_eq (g := fun g => if hB counts g.2 = true then some g.1 else none) fun g hg => ?_]
  · rfl
  · rw [holds_eq (h g hg)]
    show (if hB counts g.2 = true then some (some g.1) else some none) = _
    cases hB counts g.2 <;> rfl
theorem leave_eq {counts : List (Str × Int)} {r : D_Rules} {s : T_scheme} (e : r.leaves = s.2.2.2) (h : ∀ g ∈ s.2.2.2, CondOk (counts.map Prod.fst) g.2) (hl : s.2.2.2.length ≤ 3) : ∃ v, m_leave_gain r counts = some v ∧ m_law_leave s counts = some v := by
  refine ⟨_, (by unfold m_leave_gain; rw [e, paid_eq h hl]; rfl), ?_⟩
  unfold m_law_leave
  rw [foldO_eq (g := fun (s : Int) (g : T_leave) => if hB counts g.2 = true then s + g.1 else s) (fun _ => True) trivial fun a g hg _ => ⟨?_, trivial⟩]
  · show some _ = some _
    rw [foldl_sum (p := fun (g : T_leave) => hB counts g.2) (a := fun g => g.1), Int.zero_add]
  · rw [law_holds_eq (h g hg)]
    show ((if hB counts g.2 = true then (some (a + g.1)).bind fun x => some x else some a).bind fun x => some x) = _
    cases hB counts g.2 <;> rfl
theorem gain_eq {counts : List (Str × Int)} {r : D_Rules} {s : T_scheme} {f : Str} (e : r.gains = s.2.2.1) (h : ∀ g ∈ s.2.2.1, CondOk (counts.map Prod.fst) g.2.2) (hl : s.2.2.1.length ≤ 3) : ∃ v, m_year_gain r counts f = some v ∧ m_law_gain s counts f = some v := by
  refine ⟨(s.2.2.1.filterMap fun g => if (decide (g.2.1 = f) && hB counts g.2.2) = true then some g.1 else none).sum, ?_, ?_⟩
  · unfold m_year_gain
    rw [e, show grd (Sm s.2.2.1.length) () = some () from if_pos (by unfold Sm; omega)]
    show (mapC _ s.2.2.1).bind _ = _
    rw [mapC_eq (g := fun (g : T_gain) => if decide (g.2.1 = f) = true then some (g.1, g.2.2) else none) fun g hg => ?_]
    · show (m_paid_sum _ counts).bind _ = _
      rw [paid_eq]
      · show some _ = some _
        rw [List.filterMap_filterMap]
        congr 2
        apply congrFun
        apply congrArg
        funext g
        cases decide (g.2.1 = f) <;> rfl
      · intro q hq
        obtain ⟨g, hg, e2⟩ := List.mem_filterMap.mp hq
        by_cases z : decide (g.2.1 = f) = true
        · rw [if_pos z] at e2
          cases e2
          exact h g hg
        · rw [if_neg z] at e2
          cases e2
      · exact Nat.le_trans (List.length_filterMap_le _ _) hl
    · show (if decide (g.2.1 = f) = true then some (some (g.1, g.2.2)) else some none) = _
      cases decide (g.2.1 = f) <;> rfl
  · unfold m_law_gain
    rw [foldO_eq (g := fun (s : Int) (g : T_gain) => if (decide (g.2.1 = f) && hB counts g.2.2) = true then s + g.1 else s) (fun _ => True) trivial fun a g hg _ => ⟨?_, trivial⟩]
    · show some _ = some _
      rw [foldl_sum (p := fun (g : T_gain) => decide (g.2.1 = f) && hB counts g.2.2) (a := fun g => g.1), Int.zero_add]
    · rw [law_holds_eq (h g hg)]
      show ((if decide (g.2.1 = f) = true then some (hB counts g.2.2) else some false).bind _) = _
      cases decide (g.2.1 = f) <;> cases hB counts g.2.2 <;> rfl
def stepV (counts : List (Str × Int)) (f : Str) (c : T_counter) : Int := match aget c.2.2 f with
  | none => val counts c.1
  | some (.inr _) => 0
  | some (.inl i) => min c.2.1 (val counts c.1 + i)
theorem step_cases {d : List (Str × (Int ⊕ Str))} (h : StepsOk d) (f : Str) : (aget d f = none ∧ ahas d f = false) ∨ ahas d f = true ∧ ((∃ i, 0 ≤ i ∧ aget d f = some (.inl i)) ∨ aget d f = some (.inr ("reset" : Str))) := by
  rw [ahas_get]
  cases e : aget d f with
  | none => exact .inl ⟨rfl, rfl⟩
  | some v =>
    refine .inr ⟨rfl, ?_⟩
    rcases h _ (aget_mem e) with ⟨i, i0, hi⟩ | hi
    · exact .inl ⟨i, i0, congrArg some hi⟩
    · exact .inr (congrArg some hi)
theorem nodup_names (n : Nat) : (allNames.take n).Nodup := (by decide : allNames.Nodup).sublist (List.take_sublist _ _)
theorem year_eq {counts : List (Str × Int)} {r : D_Rules} {s : T_scheme} {f : Str} (e : r.counters = s.2.1) (hc : CountersOk s.2.1) (hk : counts.map Prod.fst = s.2.1.map Prod.fst) : m_year_counts r counts f = some (s.2.1.map fun c => (c.1, stepV counts f c)) ∧ m_law_year s counts f = some (s.2.1.map fun c => (c.1, stepV counts f c)) := by
  have hin : ∀ c, c ∈ s.2.1 → aget counts c.1 = some (val counts c.1) := fun c hc => aget_val (by rw [hk]; exact List.mem_map_of_mem hc)
  have flat : s.2.1.foldl (fun d c => aput d c.1 (stepV counts f c)) [] = s.2.1.map fun c => (c.1, stepV counts f c) := by
    rw [aput_fresh (g := fun (c : T_counter) => (c.1, stepV counts f c)) (by
      show ([] ++ s.2.1.map Prod.fst).Nodup
      rw [List.nil_append, hc.1]
      exact nodup_names _)]
    rw [List.nil_append]
  rw [← flat]
  refine ⟨?_, ?_⟩
  · unfold m_year_counts
    rw [e, show grd (Sm s.2.1.length) () = some () from if_pos (by unfold Sm; have := hc.2.2; omega)]
    show (dicC _ [] s.2.1).bind _ = _
    rw [dicC_eq (g := fun (c : T_counter) => (c.1, stepV counts f c)) fun c hcc => ?_]
    · rfl
    · rw [hin c hcc]
      show (m_counted_on c (val counts c.1) f).bind _ = _
      unfold m_counted_on stepV
      rcases step_cases (hc.2.1 c hcc).1 f with ⟨a1, a2⟩ | ⟨a1, ⟨i, _, a2⟩ | a2⟩
      · rw [a1, a2]
        rfl
      · rw [a1, a2]
        rfl
      · rw [a1, a2]
        rfl
  · unfold m_law_year
    have := foldO_eqn (f := (fun (s1 : (List (Str × Int))) (y2 : (Str × Int × (List (Str × (Int ⊕ Str))))) => ((aget counts y2.1).bind fun t3 => (grd (Sm (s1).length) ()).bind fun g4 => ((if (ahas y2.2.2 f) = true then ((aget y2.2.2 f).bind fun t5 => some (decide (t5 = Sum.inr ("reset" : Str)))) else some false).bind fun t6 => (if t6 = true then ((grd (Sm ((aput s1 y2.1 t3)).length) ()).bind fun g9 => some ((aput (aput s1 y2.1 t3) y2.1 (0 : Int)))) else ((if (ahas y2.2.2 f) = true then ((aget counts y2.1).bind fun t12 => (aget y2.2.2 f).bind fun t13 => (asL t13).bind fun t14 => (grd (Sm ((aput s1 y2.1 t3)).length) ()).bind fun g15 => some ((aput (aput s1 y2.1 t3) y2.1 (min y2.2.1 (t12 + t14))))) else some ((aput s1 y2.1 t3)) : Option ((List (Str × Int)))).bind fun j11 => some (j11)) : Option ((List (Str × Int)))).bind fun j8 => some (j8)))))
      (g := fun d c => aput d c.1 (stepV counts f c)) (xs := s.2.1) (s := []) (fun i d => d.length ≤ i) (Nat.le_refl _) fun i d c hc1 hd => ⟨?_, ?_⟩
    · rw [this.1]
      rfl
    · have hcc := List.mem_of_getElem? hc1
      have hi := mem_len hc1
      have hl3 := hc.2.2
      have h1 : ∀ v, (aput d c.1 v).length ≤ 4 := fun v => by have := aput_len (d := d) (k := c.1) (v := v); omega
      rw [hin c hcc]
      show (grd (Sm d.length) ()).bind _ = _
      rw [show grd (Sm d.length) () = some () from if_pos (by unfold Sm; omega)]
      have g9 : ∀ v, grd (Sm (aput d c.1 v).length) () = some () := fun v => if_pos (by unfold Sm; have := h1 v; omega)
      unfold stepV
      rcases step_cases (hc.2.1 c hcc).1 f with ⟨a1, a2⟩ | ⟨a1, ⟨i, _, a2⟩ | a2⟩
      · rw [a1, a2]
        rfl
      · rw [a1, a2]
        show Option.bind (Option.bind (Option.bind (grd (Sm (aput d c.1 (val counts c.1)).length) ()) (fun _ => some (aput (aput d c.1 (val counts c.1)) c.1 (min c.2.1 (val counts c.1 + i))))) (fun x => some x)) (fun x => some x) = _
        rw [g9, aput_aput]
        rfl
      · rw [a1, a2]
        show Option.bind (Option.bind (grd (Sm (aput d c.1 (val counts c.1)).length) ()) (fun _ => some (aput (aput d c.1 (val counts c.1)) c.1 0))) (fun x => some x) = _
        rw [g9, aput_aput]
        rfl
    · have := aput_len (d := d) (k := c.1) (v := stepV counts f c)
      omega
theorem names_eq {r : D_Rules} {s : T_scheme} (e : r.counters = s.2.1) (hc : CountersOk s.2.1) : m_Rules_names r = some (s.2.1.map Prod.fst) := by
  unfold m_Rules_names
  rw [e, show grd (Sm s.2.1.length) () = some () from if_pos (by unfold Sm; have := hc.2.2; omega)]
  show (mapC _ s.2.1).bind _ = _
  rw [mapC_map (g := Prod.fst) fun _ _ => rfl]
  rfl
theorem nd_names {cs : List T_counter} (hc : CountersOk cs) : (cs.map Prod.fst).Nodup := by
  rw [hc.1]
  exact nodup_names _
theorem first1 {r : D_Rules} {s : T_scheme} (e : r.counters = s.2.1) (hc : CountersOk s.2.1) : m_first_counts r = some (s.2.1.map fun c => (c.1, (0 : Int))) := by
  have nd := nd_names hc
  unfold m_first_counts
  rw [names_eq e hc]
  show (grd (Sm (s.2.1.map Prod.fst).length) ()).bind _ = _
  rw [show grd (Sm (s.2.1.map Prod.fst).length) () = some () from if_pos (by unfold Sm; rw [List.length_map]; have := hc.2.2; omega)]
  show (dicC _ [] (s.2.1.map Prod.fst)).bind _ = _
  rw [dicC_eq (g := fun (k : Str) => (k, (0 : Int))) fun c hcc => rfl, aput_fresh (g := fun (k : Str) => (k, (0 : Int))) (by
    rw [List.map_nil, List.nil_append, show (fun (y : Str) => ((y, (0 : Int)) : Str × Int).1) = id from rfl, List.map_id]
    exact nd), List.nil_append, List.map_map]
  rfl
/-! ### machines of rules: the states that are met -/
def InB (cs : List T_counter) (row : List Int) : Prop := row.length = cs.length ∧ ∀ (i : Nat) c x, cs[i]? = some c → row[i]? = some x → 0 ≤ x ∧ x ≤ c.2.1
def kc (cs : List T_counter) (row : List Int) : List (Str × Int) := (cs.map Prod.fst).zip row
def yr (cs : List T_counter) (row : List Int) (f : Str) : List Int := cs.map (stepV (kc cs row) f)
def zrow (cs : List T_counter) : List Int := cs.map fun _ => 0
section
variable {cs : List T_counter} {row : List Int} {f : Str}
theorem kc_keys (h : row.length = cs.length) : (kc cs row).map Prod.fst = cs.map Prod.fst := by
  unfold kc
  rw [List.map_fst_zip]
  rw [List.length_map, h]
  exact Nat.le_refl _
theorem kc_val (hc : CountersOk cs) (h : row.length = cs.length) {i : Nat} {c : T_counter} {x : Int} (h1 : cs[i]? = some c) (h2 : row[i]? = some x) : aget (kc cs row) c.1 = some x := by
  refine aget_at (i := i) (by rw [kc_keys h]; exact nd_names hc) ?_
  unfold kc
  exact List.getElem?_zip_eq_some.mpr ⟨by rw [List.getElem?_map, h1]; rfl, h2⟩
theorem yr_in (hc : CountersOk cs) (h : InB cs row) : InB cs (yr cs row f) := by
  refine ⟨by unfold yr; rw [List.length_map], fun i c x h1 h2 => ?_⟩
  unfold yr at h2
  rw [List.getElem?_map, h1] at h2
  cases h2
  have hl : i < row.length := by rw [h.1]; exact mem_len h1
  have hx : row[i]? = some row[i] := List.getElem?_eq_getElem hl
  have hv := kc_val hc h.1 h1 hx
  obtain ⟨b1, b2⟩ := h.2 i c _ h1 hx
  have cm := hc.2.1 c (List.mem_of_getElem? h1)
  have e : val (kc cs row) c.1 = row[i] := by unfold val; rw [hv]; rfl
  unfold stepV
  rcases step_cases cm.1 f with ⟨a1, _⟩ | ⟨_, ⟨k, k0, a2⟩ | a2⟩
  · rw [a1]
    show 0 ≤ val _ _ ∧ val _ _ ≤ _
    rw [e]
    exact ⟨b1, b2⟩
  · rw [a2]
    show 0 ≤ min c.2.1 (val _ _ + k) ∧ min c.2.1 (val _ _ + k) ≤ c.2.1
    rw [e]
    omega
  · rw [a2]
    show (0 : Int) ≤ 0 ∧ (0 : Int) ≤ c.2.1
    omega
theorem z_in (hc : CountersOk cs) : InB cs (zrow cs) := by
  refine ⟨by unfold zrow; rw [List.length_map], fun i c x h1 h2 => ?_⟩
  unfold zrow at h2
  rw [List.getElem?_map, h1] at h2
  cases h2
  have := (hc.2.1 c (List.mem_of_getElem? h1)).2
  show (0 : Int) ≤ 0 ∧ (0 : Int) ≤ c.2.1
  omega
theorem kc_map {g : T_counter → Int} : kc cs (cs.map g) = cs.map fun c => (c.1, g c) := by
  unfold kc
  rw [List.zip_map']
theorem kc_yr : kc cs (yr cs row f) = cs.map fun c => (c.1, stepV (kc cs row) f c) := kc_map
theorem kc_row (hc : CountersOk cs) (h : row.length = cs.length) : (cs.map Prod.fst).map (fun n => (aget (kc cs row) n).getD 0) = row := by
  apply List.ext_getElem?
  intro i
  rw [List.getElem?_map, List.getElem?_map]
  by_cases hi : i < cs.length
  · have h1 : cs[i]? = some cs[i] := List.getElem?_eq_getElem hi
    have h2 : row[i]? = some (row[i]'(by omega)) := List.getElem?_eq_getElem (by omega)
    rw [h1, h2]
    show some ((aget (kc cs row) cs[i].1).getD 0) = _
    rw [kc_val hc h h1 h2]
    rfl
  · rw [List.getElem?_eq_none (by omega), List.getElem?_eq_none (by omega)]
    rfl
/-! all rows -/
def rowsOf : List T_counter → List (List Int)
  | [] => [[]]
  | c :: cs => ((rng 0 (c.2.1.toNat + 1)).map fun x => (rowsOf cs).map fun r => x :: r).flatten
theorem in_rows : ∀ {cs : List T_counter} {row : List Int}, InB cs row → row ∈ rowsOf cs
  | [], row, h => by
    have : row = [] := List.length_eq_zero_iff.mp h.1
    subst this
    exact List.mem_singleton.mpr rfl
  | c :: cs, [], h => by
    have := h.1
    simp at this
  | c :: cs, x :: row, h => by
    obtain ⟨h1, h2⟩ := h.2 0 c x rfl rfl
    refine List.mem_flatten.mpr ⟨_, List.mem_map.mpr ⟨x, mem_rng.mpr ⟨h1, by omega⟩, rfl⟩, List.mem_map.mpr ⟨row, in_rows ⟨by simpa using h.1, fun i d y q1 q2 => h.2 (i + 1) d y (by simpa using q1) (by simpa using q2)⟩, rfl⟩⟩
theorem rows_len : ∀ {cs : List T_counter}, (∀ c ∈ cs, c.2.1 ≤ 4) → (rowsOf cs).length ≤ 5 ^ cs.length
  | [], _ => Nat.le_refl _
  | c :: cs, h => by
    have ih := rows_len (cs := cs) fun d hd => h d (List.mem_cons_of_mem _ hd)
    have hc := h c (List.mem_cons_self ..)
    show (((rng 0 (c.2.1.toNat + 1)).map fun x => (rowsOf cs).map fun r => x :: r).flatten).length ≤ _
    rw [List.length_flatten, List.map_map]
    have e : ∀ xs : List Int, (xs.map (List.length ∘ fun x => (rowsOf cs).map fun r => x :: r)).sum = xs.length * (rowsOf cs).length := by
      intro xs
      induction xs with
      | nil => simp
      | cons x xs ih =>
        rw [List.map_cons, List.sum_cons, ih, List.length_cons, Nat.succ_mul]
        show ((rowsOf cs).map fun r => x :: r).length + _ = _
        rw [List.length_map]
        omega
    rw [e, rng_len, List.length_cons, Nat.pow_succ]
    have : c.2.1.toNat + 1 ≤ 5 := by omega
    calc (c.2.1.toNat + 1) * (rowsOf cs).length ≤ 5 * (rowsOf cs).length := Nat.mul_le_mul_right _ this
      _ ≤ 5 * 5 ^ cs.length := Nat.mul_le_mul_left _ ih
      _ = 5 ^ cs.length * 5 := Nat.mul_comm ..
end
/-! where a row stands -/
def pls (met : List (List Int)) : List (List Int × Int) := met.zip (rng 0 met.length)
def put (met : List (List Int)) (k : List Int) : List (List Int) := if k ∈ met then met else met ++ [k]
theorem pls_keys {met : List (List Int)} : (pls met).map Prod.fst = met := by
  unfold pls
  rw [List.map_fst_zip]
  rw [rng_len]
  exact Nat.le_refl _
theorem pls_at {met : List (List Int)} {i : Nat} {r : List Int} (h : met[i]? = some r) : (pls met)[i]? = some (r, (i : Int)) := by
  have hl := mem_len h
  unfold pls
  refine List.getElem?_zip_eq_some.mpr ⟨h, ?_⟩
  rw [List.getElem?_eq_getElem (by rw [rng_len]; exact hl)]
  have := (rng_get (List.getElem?_eq_getElem (l := rng 0 met.length) (i := i) (by rw [rng_len]; exact hl))).2
  rw [this]
  simp
theorem pls_snoc {met : List (List Int)} {k : List Int} : pls (met ++ [k]) = pls met ++ [(k, (met.length : Int))] := by
  apply List.ext_getElem?
  intro i
  have lp : (pls met).length = met.length := by
    have := congrArg List.length (pls_keys (met := met))
    rwa [List.length_map] at this
  have lq : (pls (met ++ [k])).length = met.length + 1 := by
    have := congrArg List.length (pls_keys (met := met ++ [k]))
    rw [List.length_map, List.length_append] at this
    exact this
  by_cases h : i < met.length
  · have e : met[i]? = some met[i] := List.getElem?_eq_getElem h
    rw [List.getElem?_append_left (by omega), pls_at e, pls_at (met := met ++ [k]) (by rw [List.getElem?_append_left h]; exact e)]
  · by_cases h2 : i = met.length
    · subst h2
      rw [pls_at (met := met ++ [k]) (r := k) (by simp), List.getElem?_append_right (by omega), lp, Nat.sub_self]
      rfl
    · rw [List.getElem?_eq_none (by omega), List.getElem?_eq_none (by rw [List.length_append, lp, List.length_singleton]; omega)]
theorem put_nd {met : List (List Int)} {k : List Int} (h : met.Nodup) : (put met k).Nodup := by
  unfold put
  split
  · exact h
  · rename_i n
    exact List.nodup_append.mpr ⟨h, by simp, fun a ha b hb e => n (by rw [List.mem_singleton.mp hb] at e; rw [← e]; exact ha)⟩
theorem put_pre {met : List (List Int)} {k : List Int} : met <+: put met k := by
  unfold put
  split
  · exact List.prefix_refl _
  · exact List.prefix_append ..
theorem put_mem {met : List (List Int)} {k : List Int} : k ∈ put met k := by
  unfold put
  split
  · assumption
  · simp
theorem put_sub {met : List (List Int)} {k x : List Int} (h : x ∈ put met k) : x ∈ met ∨ x = k := by
  unfold put at h
  split at h
  · exact .inl h
  · rcases List.mem_append.mp h with h | h
    · exact .inl h
    · exact .inr (List.mem_singleton.mp h)
theorem place_eq {met : List (List Int)} {k : List Int} (nd : met.Nodup) (hl : met.length ≤ 10000) : m_place_of k met (pls met) = some (((put met k).idxOf k : Int), put met k, pls (put met k)) := by
  have lp : (pls met).length = met.length := by
    have := congrArg List.length (pls_keys (met := met))
    rwa [List.length_map] at this
  unfold m_place_of
  obtain ⟨j, hj⟩ := List.mem_iff_getElem?.mp (put_mem (met := met) (k := k))
  have ndp := put_nd (k := k) nd
  have ej : (put met k).idxOf k = j := by
    have hlt : (put met k).idxOf k < (put met k).length := List.idxOf_lt_length_of_mem put_mem
    have h1 : (put met k)[(put met k).idxOf k]? = some k := by rw [List.getElem?_eq_getElem hlt, List.getElem_idxOf hlt]
    exact (List.getElem?_inj hlt ndp).mp (h1.trans hj.symm)
  have ag : aget (pls (put met k)) k = some (j : Int) := aget_at (i := j) (by rw [pls_keys]; exact ndp) (pls_at hj)
  rw [ej]
  by_cases h : k ∈ met
  · have ep : put met k = met := if_pos h
    rw [ep] at ag ⊢
    have ha : ahas (pls met) k = true := ahas_iff.mpr (by rw [pls_keys]; exact h)
    rw [ha]
    show (aget (pls met) k).bind _ = _
    rw [ag]
    rfl
  · have ep : put met k = met ++ [k] := if_neg h
    rw [ep, pls_snoc] at ag ⊢
    have ha : ahas (pls met) k = false := by
      cases q : ahas (pls met) k with
      | false => rfl
      | true => exact absurd (by have := ahas_iff.mp q; rwa [pls_keys] at this) h
    rw [ha]
    show ((grd (Sm (pls met).length) ()).bind _).bind _ = _
    rw [grd_t (show Sm (pls met).length by unfold Sm; omega)]
    show ((grd (Sm met.length) ()).bind _).bind _ = _
    rw [grd_t (show Sm met.length by unfold Sm; omega)]
    show (aget (aput (pls met) k (met.length : Int)) k).bind _ = _
    rw [aput_new (by rw [pls_keys]; exact h), ag]
    rfl
/-! ### the machine that is made -/
def gV (s : T_scheme) (counts : List (Str × Int)) (f : Str) : Int := (m_law_gain s counts f).getD 0
def lV (s : T_scheme) (counts : List (Str × Int)) : Int := (m_law_leave s counts).getD 0
theorem idx_app {x : List Int} {a b : List (List Int)} (h : x ∈ a) : (a ++ b).idxOf x = a.idxOf x := by
  rw [List.idxOf_append, if_pos h]
structure RuleOk (fs : List Str) (r : D_Rules) (s : T_scheme) : Prop where
  ok : SchemeOk fs s
  fl : FactsL fs
  facts : r.facts = fs
  counters : r.counters = s.2.1
  gains : r.gains = s.2.2.1
  leaves : r.leaves = s.2.2.2
  caps : ∀ c ∈ s.2.1, c.2.1 ≤ 4
theorem take_snoc' {α : Type} {xs : List α} {j : Nat} {y : α} (h : xs[j]? = some y) : xs.take (j + 1) = xs.take j ++ [y] := by
  obtain ⟨h1, h2⟩ := List.getElem?_eq_some_iff.mp h
  rw [List.take_succ_eq_append_getElem h1, h2]
section
variable {fs : List Str} {r : D_Rules} {s : T_scheme} {row : List Int} {f : Str}
theorem RuleOk.gv (h : RuleOk fs r s) (hl : row.length = s.2.1.length) : m_year_gain r (kc s.2.1 row) f = some (gV s (kc s.2.1 row) f) ∧ m_law_gain s (kc s.2.1 row) f = some (gV s (kc s.2.1 row) f) := by
  obtain ⟨v, h1, h2⟩ := gain_eq (counts := kc s.2.1 row) (f := f) h.gains (fun g hg => by rw [kc_keys hl]; exact h.ok.2.2.1.1 g hg) h.ok.2.2.1.2
  have e : gV s (kc s.2.1 row) f = v := by unfold gV; rw [h2]; rfl
  rw [e]
  exact ⟨h1, h2⟩
theorem RuleOk.lv (h : RuleOk fs r s) (hl : row.length = s.2.1.length) : m_leave_gain r (kc s.2.1 row) = some (lV s (kc s.2.1 row)) ∧ m_law_leave s (kc s.2.1 row) = some (lV s (kc s.2.1 row)) := by
  obtain ⟨v, h1, h2⟩ := leave_eq (counts := kc s.2.1 row) h.leaves (fun g hg => by rw [kc_keys hl]; exact h.ok.2.2.2.1 g hg) (by have := h.ok.2.2.2.2; omega)
  have e : lV s (kc s.2.1 row) = v := by unfold lV; rw [h2]; rfl
  rw [e]
  exact ⟨h1, h2⟩
theorem RuleOk.ye (h : RuleOk fs r s) (hl : row.length = s.2.1.length) : m_year_counts r (kc s.2.1 row) f = some (kc s.2.1 (yr s.2.1 row f)) ∧ m_law_year s (kc s.2.1 row) f = some (kc s.2.1 (yr s.2.1 row f)) := by
  have := year_eq (counts := kc s.2.1 row) (f := f) h.counters h.ok.2.1 (kc_keys hl)
  rw [kc_yr]
  exact this
theorem RuleOk.rw_ (h : RuleOk fs r s) (hl : row.length = s.2.1.length) : m_row_of r (kc s.2.1 row) = some row := by
  have hc := h.ok.2.1
  unfold m_row_of
  rw [names_eq h.counters hc]
  show (grd (Sm (s.2.1.map Prod.fst).length) ()).bind _ = _
  rw [grd_t (show Sm (s.2.1.map Prod.fst).length by rw [List.length_map]; have := hc.2.2; unfold Sm; omega)]
  show (mapC _ (s.2.1.map Prod.fst)).bind _ = _
  rw [mapC_map (g := fun n => (aget (kc s.2.1 row) n).getD 0) fun n hn => ?_, kc_row hc hl]
  · rfl
  · rw [aget_val (counts := kc s.2.1 row) (k := n) (by rw [kc_keys hl]; exact hn)]
    rfl
theorem RuleOk.counts (h : RuleOk fs r s) (hl : row.length = s.2.1.length) : m_counts_of r row = some (kc s.2.1 row) := by
  have hc := h.ok.2.1
  unfold m_counts_of
  rw [names_eq h.counters hc]
  show some (ofPairs ((s.2.1.map Prod.fst).zip row)) = _
  have k := kc_keys hl
  unfold kc at k ⊢
  unfold ofPairs
  have := aput_fresh (g := fun (p : Str × Int) => p) (xs := (s.2.1.map Prod.fst).zip row) (d := []) (by rw [List.map_nil, List.nil_append]; show (((s.2.1.map Prod.fst).zip row).map Prod.fst).Nodup; rw [k]; exact nd_names hc)
  rw [List.nil_append, List.map_id'] at this
  exact congrArg some this
/-- n states are done -/
structure Mad (fs : List Str) (s : T_scheme) (n : Nat) (m : D_Machine) (met : List (List Int)) : Prop where
  facts : m.facts = fs
  sl : m.step.length = n
  gl : m.gain.length = n
  ll : m.leave.length = n
  le : n ≤ met.length
  nd : met.Nodup
  inb : ∀ q ∈ met, InB s.2.1 q
  step : ∀ (i : Nat) q, i < n → met[i]? = some q → m.step[i]? = some (fs.map fun f => (f, (met.idxOf (yr s.2.1 q f) : Int))) ∧ ∀ f ∈ fs, yr s.2.1 q f ∈ met
  gain : ∀ (i : Nat) q, i < n → met[i]? = some q → m.gain[i]? = some (fs.map fun f => (f, gV s (kc s.2.1 q) f))
  leave : ∀ (i : Nat) q, i < n → met[i]? = some q → m.leave[i]? = some (lV s (kc s.2.1 q))
theorem Mad.small (h : RuleOk fs r s) {n : Nat} {m : D_Machine} {met : List (List Int)} (M : Mad fs s n m met) : met.length ≤ 125 := by
  have h1 := nd_le (xs := met) (U := rowsOf s.2.1) M.nd fun q hq => in_rows (M.inb q hq)
  have h2 := rows_len h.caps
  have h3 := h.ok.2.1.2.2
  have : 5 ^ s.2.1.length ≤ 5 ^ 3 := Nat.pow_le_pow_right (by decide) h3
  omega
theorem Mad.more {n : Nat} {m : D_Machine} {met mt : List (List Int)} (M : Mad fs s n m met) (p : met <+: mt) (nd : mt.Nodup) (inb : ∀ q ∈ mt, InB s.2.1 q) : Mad fs s n m mt := by
  obtain ⟨tl, e⟩ := p
  subst e
  have at_ : ∀ (i : Nat) q, i < n → (met ++ tl)[i]? = some q → met[i]? = some q := fun i q hi hq => by
    have := M.le
    rwa [List.getElem?_append_left (by omega)] at hq
  refine ⟨M.facts, M.sl, M.gl, M.ll, by have := M.le; rw [List.length_append]; omega, nd, inb, fun i q hi hq => ?_, fun i q hi hq => M.gain i q hi (at_ i q hi hq), fun i q hi hq => M.leave i q hi (at_ i q hi hq)⟩
  obtain ⟨h1, h2⟩ := M.step i q hi (at_ i q hi hq)
  refine ⟨?_, fun f hf => List.mem_append_left _ (h2 f hf)⟩
  rw [h1]
  refine congrArg some (List.map_congr_left fun f hf => ?_)
  rw [idx_app (h2 f hf)]
/-- one state more -/
theorem Mad.next (h : RuleOk fs r s) {n : Nat} {m : D_Machine} {met mt : List (List Int)} {q : List Int} (M : Mad fs s n m met) (hq : met[n]? = some q) (p : met <+: mt) (nd : mt.Nodup) (inb : ∀ q ∈ mt, InB s.2.1 q) (hy : ∀ f ∈ fs, yr s.2.1 q f ∈ mt) :
    Mad fs s (n + 1) (D_Machine.mk m.facts (m.step ++ [fs.map fun f => (f, (mt.idxOf (yr s.2.1 q f) : Int))]) (m.gain ++ [fs.map fun f => (f, gV s (kc s.2.1 q) f)]) (m.leave ++ [lV s (kc s.2.1 q)])) mt := by
  have M2 := M.more p nd inb
  have hq2 : mt[n]? = some q := by
    obtain ⟨tl, e⟩ := p
    subst e
    rw [List.getElem?_append_left (mem_len hq)]
    exact hq
  have cut : ∀ {α : Type} {xs : List α} {x y : α} {i : Nat}, xs.length = n → i < n + 1 → (i < n → xs[i]? = some y) → (i = n → x = y) → (xs ++ [x])[i]? = some y := fun {α xs x y i} hl hi h1 h2 => by
    by_cases c : i < n
    · rw [List.getElem?_append_left (by omega)]
      exact h1 c
    · have e : i = n := by omega
      rw [List.getElem?_append_right (by omega), hl, e, Nat.sub_self, h2 e]
      rfl
  refine ⟨M.facts, by show (m.step ++ [_]).length = _; rw [List.length_append, M.sl]; rfl, by show (m.gain ++ [_]).length = _; rw [List.length_append, M.gl]; rfl, by show (m.leave ++ [_]).length = _; rw [List.length_append, M.ll]; rfl, mem_len hq2, nd, inb, fun i x hi hx => ?_, fun i x hi hx => ?_, fun i x hi hx => ?_⟩
  · by_cases c : i < n
    · obtain ⟨a1, a2⟩ := M2.step i x c hx
      exact ⟨cut M.sl hi (fun _ => a1) (fun e => by omega), a2⟩
    · have e : i = n := by omega
      subst e
      rw [hq2] at hx
      cases hx
      exact ⟨cut M.sl hi (fun c' => absurd c' c) (fun _ => rfl), hy⟩
  · refine cut M.gl hi (fun c => M2.gain i x c hx) fun e => ?_
    subst e
    rw [hq2] at hx
    cases hx
    rfl
  · refine cut M.ll hi (fun c => M2.leave i x c hx) fun e => ?_
    subst e
    rw [hq2] at hx
    cases hx
    rfl
theorem sat_add (h : RuleOk fs r s) {n : Nat} {m : D_Machine} {met : List (List Int)} (M : Mad fs s n m met) : Sat (m_add_states r m met (pls met)) fun o => ∃ mt, o.2.2.1 = mt ∧ o.2.2.2 = pls mt ∧ met <+: mt ∧ Mad fs s mt.length o.2.1 mt := by
  have hc := h.ok.2.1
  unfold m_add_states
  refine sat_bind (sat_while (fun st => ∃ n mt, st.2 = (mt, pls mt) ∧ met <+: mt ∧ Mad fs s n st.1 mt) (fun st => 125 - st.1.leave.length) (fun x => match x with
    | .nx st => ∃ mt, st.2 = (mt, pls mt) ∧ met <+: mt ∧ Mad fs s mt.length st.1 mt
    | .ret _ => False) ⟨n, met, rfl, List.prefix_refl _, M⟩ ?_) fun x hx => ?_
  · rintro ⟨m1, met1, pl1⟩ ⟨n1, mt, e0, pre, M1⟩
    cases e0
    have sm := M1.small h
    refine sat_to (a := (m1.leave.length : Int)) rfl (sat_some ⟨rfl, fun e => ?_, fun e => ?_⟩)
    · have e : ¬ (m1.leave.length : Int) < (met1.length : Int) := of_decide_eq_false e
      have hl := M1.le
      have l3 : m1.leave.length = n1 := M1.ll
      have : n1 = met1.length := by omega
      subst this
      exact ⟨met1, rfl, pre, M1⟩
    · have e : (m1.leave.length : Int) < (met1.length : Int) := of_decide_eq_true e
      have l3 : m1.leave.length = n1 := M1.ll
      have hn : n1 < met1.length := by omega
      have hq : met1[n1]? = some met1[n1] := List.getElem?_eq_getElem hn
      have qb := M1.inb _ (List.getElem_mem hn)
      generalize met1[n1] = q at hq qb
      refine sat_to (a := (m1.leave.length : Int)) rfl (sat_to (a := q) (by rw [l3]; exact atI_nat hq) (sat_to (h.counts qb.1) ?_))
      rw [h.facts]
      refine sat_bind (sat_foldOn (fun i st => ∃ mt, st = (mt, pls mt, (fs.take i).map fun f => (f, (mt.idxOf (yr s.2.1 q f) : Int))) ∧ met1 <+: mt ∧ mt.Nodup ∧ (∀ q ∈ mt, InB s.2.1 q) ∧ ∀ f ∈ fs.take i, yr s.2.1 q f ∈ mt) ⟨met1, rfl, List.prefix_refl _, M1.nd, M1.inb, fun _ hf => by simp at hf⟩ fun i st f hf ⟨mt, est, p, nd, inb, hy⟩ => ?_) fun j ⟨mt, ej, p, nd, inb, hy⟩ => ?_
      · subst est
        have smt := (M1.more p nd inb).small h
        have yi := yr_in (f := f) hc qb
        refine sat_to (h.ye qb.1).1 (sat_to (h.rw_ yi.1) (sat_to (place_eq nd (by show mt.length ≤ _; omega)) (sat_grd ?_ (sat_some ?_))))
        · rw [List.length_map, List.length_take]
          have := h.fl.1.2
          unfold Sm
          omega
        · refine ⟨put mt (yr s.2.1 q f), ?_, p.trans put_pre, put_nd nd, fun x hx => ?_, fun g hg => ?_⟩
          · refine congrArg (fun z => (put mt (yr s.2.1 q f), pls (put mt (yr s.2.1 q f)), z)) ?_
            have fr : f ∉ (((fs.take i).map fun f => (f, (mt.idxOf (yr s.2.1 q f) : Int))).map Prod.fst) := by
              rw [List.map_map, show (Prod.fst ∘ fun f => (f, (mt.idxOf (yr s.2.1 q f) : Int))) = id from rfl, List.map_id]
              intro hm
              obtain ⟨k, hk⟩ := List.mem_iff_getElem?.mp hm
              have hlt : k < i := by
                have := mem_len hk
                rw [List.length_take] at this
                omega
              rw [List.getElem?_take_of_lt hlt] at hk
              have := (List.getElem?_inj (mem_len hk) h.fl.2.1).mp (hk.trans hf.symm)
              omega
            rw [aput_new fr, take_snoc' hf, List.map_append]
            congr 1
            refine List.map_congr_left fun g hg => ?_
            obtain ⟨tl, et⟩ := put_pre (met := mt) (k := yr s.2.1 q f)
            rw [← et, idx_app (hy g hg)]
          · rcases put_sub hx with hx | hx
            · exact inb x hx
            · rw [hx]
              exact yi
          · rw [take_snoc' hf] at hg
            rcases List.mem_append.mp hg with hg | hg
            · exact put_pre.subset (hy g hg)
            · rw [List.mem_singleton.mp hg]
              exact put_mem
      · rw [List.take_length] at ej hy
        subst ej
        have smt := (M1.more p nd inb).small h
        have l1 := M1.sl
        have l2 := M1.gl
        refine sat_grd (by unfold Sm; omega) (sat_grd (by have := h.fl.1.2; unfold Sm; omega) ?_)
        refine sat_to (a := fs.map fun f => (f, gV s (kc s.2.1 q) f)) ?_ (sat_grd (by unfold Sm; omega) (sat_to (h.lv qb.1).1 (sat_grd (by show m1.leave.length ≤ 15000; omega) (sat_some ⟨⟨n1 + 1, mt, rfl, pre.trans p, M1.next h hq p nd inb hy⟩, ?_⟩))))
        · rw [dicC_eq (g := fun f => (f, gV s (kc s.2.1 q) f)) fun f _ => by rw [(h.gv qb.1).1]; rfl, aput_fresh (g := fun f => (f, gV s (kc s.2.1 q) f)) (by
            rw [List.map_nil, List.nil_append, show (fun (y : Str) => ((y, gV s (kc s.2.1 q) y) : Str × Int).1) = id from rfl, List.map_id]
            exact h.fl.2.1), List.nil_append]
        · show 125 - (m1.leave ++ [_]).length < 125 - m1.leave.length
          rw [List.length_append, List.length_singleton]
          omega
  · cases x with
    | ret r => exact hx.elim
    | nx st =>
      obtain ⟨mt, e, p, M2⟩ := hx
      refine sat_some ⟨mt, ?_, ?_, p, M2⟩
      · show st.2.1 = mt
        rw [e]
      · show st.2.2 = pls mt
        rw [e]
end
section
variable {fs : List Str} {r : D_Rules} {s : T_scheme}
theorem sat_made (h : RuleOk fs r s) : Sat (m_made r ()) fun o => ∃ met, o.2 = met.map (kc s.2.1) ∧ Mad fs s met.length o.1 met ∧ 0 < met.length := by
  have hc := h.ok.2.1
  unfold m_made
  refine sat_to (a := D_Machine.mk fs [] [] []) (by rw [h.facts]; rfl) (sat_to (a := kc s.2.1 (zrow s.2.1)) ?_ ?_)
  · rw [first1 h.counters hc]
    unfold zrow
    rw [kc_map]
  · have zi := z_in hc
    refine sat_bind (P := fun j => ∃ met, j.2 = (met, pls met) ∧ Mad fs s met.length j.1 met ∧ 0 < met.length) ?_ fun j8 ⟨met, e, M, l0⟩ => ?_
    · show Sat (Option.bind _ fun s' => some s') _
      refine sat_bind (P := fun j => ∃ met, j.2 = (met, pls met) ∧ Mad fs s met.length j.1 met ∧ 0 < met.length) ?_ fun a ha => sat_some ha
      refine sat_to (h.rw_ zi.1) (sat_to (place_eq (met := []) List.nodup_nil (Nat.zero_le _)) ?_)
      have ep : put [] (zrow s.2.1) = [zrow s.2.1] := if_neg (by simp)
      rw [ep]
      have M0 : Mad fs s 0 (D_Machine.mk fs [] [] []) [zrow s.2.1] := ⟨rfl, rfl, rfl, rfl, Nat.zero_le _, by simp, fun q hq => by rw [List.mem_singleton.mp hq]; exact zi, fun i q hi => absurd hi (Nat.not_lt_zero _), fun i q hi => absurd hi (Nat.not_lt_zero _), fun i q hi => absurd hi (Nat.not_lt_zero _)⟩
      refine sat_bind (sat_add h M0) fun t7 ⟨mt, e1, e2, p, M1⟩ => sat_some ⟨mt, ?_, M1, ?_⟩
      · show (t7.2.2.1, t7.2.2.2) = _
        rw [e1, e2]
      · have := p.length_le
        simp at this
        omega
    · have sm := M.small h
      have e1 : j8.2.1 = met := by rw [e]
      rw [e1]
      refine sat_grd (by unfold Sm; omega) (sat_to (a := met.map (kc s.2.1)) (mapC_map fun q hq => ?_) (sat_some ⟨met, rfl, M, l0⟩))
      rw [h.counts (M.inb q hq).1]
      rfl
end
/-! ### along a career -/
section
variable {fs : List Str} {r : D_Rules} {s : T_scheme} {m : D_Machine} {met : List (List Int)}
theorem sat_career2 {b : (List Int) × Int} (h : BoxOk b) (hf : 0 < fs.length) : Sat (m_law_career b fs 12) fun o => ((∀ f ∈ o.1, f ∈ fs) ∧ o.1.length ≤ 12) ∧ BoxOk o.2 := by
  unfold m_law_career
  refine sat_bind (sat_draw h (by decide)) fun t ⟨⟨h1, h2⟩, h3⟩ => ?_
  refine sat_grd (by omega) (sat_grd (by unfold Sm; rw [range1_len]; omega) ?_)
  refine sat_bind (sat_foldC (fun (b : (List Int) × Int) => BoxOk b) (fun f => f ∈ fs) h3 fun s y hy hb => ?_) fun t8 ⟨h8, l8, k8⟩ => sat_some ⟨⟨h8, ?_⟩, k8⟩
  · refine sat_bind (sat_draw hb (by omega)) fun t6 ⟨⟨k1, k2⟩, k3⟩ => ?_
    refine sat_bind (sat_atI (P := fun f => f ∈ fs) k1 k2 fun y hy => hy) fun t7 h7 => ?_
    exact sat_some ⟨fun z e => by cases e; exact h7, k3⟩
  · rw [range1_len] at l8
    show t8.1.length ≤ 12
    omega
def rowsL (cs : List T_counter) : List Int → List Str → List (List Int)
  | q, [] => [q]
  | q, f :: c => q :: rowsL cs (yr cs q f) c
def endR (cs : List T_counter) : List Int → List Str → List Int
  | q, [] => q
  | q, f :: c => endR cs (yr cs q f) c
def gainL (s : T_scheme) : List Int → List Str → List Int
  | _, [] => []
  | q, f :: c => gV s (kc s.2.1 q) f :: gainL s (yr s.2.1 q f) c
theorem rowsL_len {cs : List T_counter} : ∀ {c : List Str} {q : List Int}, (rowsL cs q c).length = c.length + 1
  | [], _ => rfl
  | f :: c, q => by
    show (q :: rowsL cs _ c).length = _
    rw [List.length_cons, rowsL_len, List.length_cons]
theorem rowsL_hd {cs : List T_counter} {c : List Str} {q : List Int} : rowsL cs q c = q :: (rowsL cs q c).tail := by
  cases c <;> rfl
/-- the states in the table -/
theorem Mad.in_ (M : Mad fs s met.length m met) {q : List Int} (hq : q ∈ met) : ∃ i, i < met.length ∧ met[i]? = some q ∧ met.idxOf q = i := by
  have hlt : met.idxOf q < met.length := List.idxOf_lt_length_of_mem hq
  exact ⟨met.idxOf q, hlt, by rw [List.getElem?_eq_getElem hlt, List.getElem_idxOf hlt], rfl⟩
theorem Mad.st (h : RuleOk fs r s) (M : Mad fs s met.length m met) {q : List Int} (hq : q ∈ met) {f : Str} (hf : f ∈ fs) : yr s.2.1 q f ∈ met ∧ (∃ row, atI m.step (met.idxOf q : Int) = some row ∧ aget row f = some (met.idxOf (yr s.2.1 q f) : Int)) ∧ (∃ row, atI m.gain (met.idxOf q : Int) = some row ∧ aget row f = some (gV s (kc s.2.1 q) f)) ∧ atI m.leave (met.idxOf q : Int) = some (lV s (kc s.2.1 q)) := by
  obtain ⟨i, i1, i2, i3⟩ := M.in_ hq
  obtain ⟨a1, a2⟩ := M.step i q i1 i2
  obtain ⟨j, hj⟩ := List.mem_iff_getElem?.mp hf
  rw [i3]
  refine ⟨a2 f hf, ⟨_, atI_nat a1, ?_⟩, ⟨_, atI_nat (M.gain i q i1 i2), ?_⟩, atI_nat (M.leave i q i1 i2)⟩
  · refine aget_at (i := j) ?_ (by rw [List.getElem?_map, hj]; rfl)
    rw [List.map_map, show (Prod.fst ∘ fun f => (f, (met.idxOf (yr s.2.1 q f) : Int))) = id from rfl, List.map_id]
    exact h.fl.2.1
  · refine aget_at (i := j) ?_ (by rw [List.getElem?_map, hj]; rfl)
    rw [List.map_map, show (Prod.fst ∘ fun f => (f, gV s (kc s.2.1 q) f)) = id from rfl, List.map_id]
    exact h.fl.2.1
/-- the law's own walk -/
theorem walk_eq (h : RuleOk fs r s) : ∀ {c : List Str} {q : List Int} {rs : List (List (Str × Int))} {gs : List Int}, InB s.2.1 q → rs.length + c.length ≤ 1000 → gs.length + c.length ≤ 1000 →
    foldO (S := (List (Str × Int)) × (List (List (Str × Int))) × (List Int)) (fun s14 y15 => ((m_law_gain s s14.1 y15).bind fun t16 => (grd (Sm (s14.2.2).length) ()).bind fun _ => ((m_law_year s s14.1 y15).bind fun t18 => ((grd (Sm (s14.2.1).length) ()).bind fun _ => some (t18, (s14.2.1 ++ [t18]), (s14.2.2 ++ [t16])))))) (kc s.2.1 q, rs, gs) c
      = some (kc s.2.1 (endR s.2.1 q c), rs ++ (rowsL s.2.1 q c).tail.map (kc s.2.1), gs ++ gainL s q c)
  | [], q, rs, gs, _, _, _ => by
    show some _ = some _
    simp [rowsL, endR, gainL]
  | f :: c, q, rs, gs, qb, l1, l2 => by
    rw [List.length_cons] at l1 l2
    have yb := yr_in (f := f) h.ok.2.1 qb
    refine sat_is (sat_to (m := Option.bind _ _) (F := fun s' => foldO _ s' c) (a := (kc s.2.1 (yr s.2.1 q f), rs ++ [kc s.2.1 (yr s.2.1 q f)], gs ++ [gV s (kc s.2.1 q) f])) (sat_is (sat_to (h.gv qb.1).2 (sat_grd (by show gs.length ≤ 15000; omega) (sat_to (h.ye qb.1).2 (sat_grd (by show rs.length ≤ 15000; omega) (sat_some rfl)))))) ?_)
    rw [walk_eq h yb (by rw [List.length_append, List.length_singleton]; omega) (by rw [List.length_append, List.length_singleton]; omega)]
    refine sat_some ?_
    have e1 : (rowsL s.2.1 q (f :: c)).tail = rowsL s.2.1 (yr s.2.1 q f) c := rfl
    rw [e1, rowsL_hd (q := yr s.2.1 q f)]
    simp only [List.append_assoc, List.singleton_append, List.map_cons, List.tail_cons]
    rfl
/-- the machine's -/
theorem along_eq (h : RuleOk fs r s) (M : Mad fs s met.length m met) : ∀ {c : List Str} {q : List Int} {acc : List Int}, q ∈ met → (∀ f ∈ c, f ∈ fs) → acc.length + c.length ≤ 1000 →
    foldO (S := (List Int)) (fun (s2 : (List Int)) (y3 : Str) => ((atI s2 (-(1 : Int))).bind fun t4 => (atI m.step t4).bind fun t5 => (aget t5 y3).bind fun t6 => (grd (Sm (s2).length) ()).bind fun _ => some ((s2 ++ [t6])))) (acc ++ [(met.idxOf q : Int)]) c
      = some (acc ++ (rowsL s.2.1 q c).map fun q => (met.idxOf q : Int))
  | [], q, acc, _, _, _ => rfl
  | f :: c, q, acc, hq, hf, hl => by
    rw [List.length_cons] at hl
    obtain ⟨hy, ⟨row, h1, h2⟩, _, _⟩ := M.st h hq (hf f (List.mem_cons_self ..))
    have e0 : atI (acc ++ [(met.idxOf q : Int)]) (-(1 : Int)) = some (met.idxOf q : Int) := atI_end (i := acc.length) (by rw [List.length_append]; rfl) (by simp)
    refine sat_is (sat_to (m := Option.bind _ _) (F := fun s' => foldO _ s' c) (a := (acc ++ [(met.idxOf q : Int)]) ++ [(met.idxOf (yr s.2.1 q f) : Int)]) (sat_is (sat_to e0 (sat_to h1 (sat_to h2 (sat_grd (by rw [List.length_append, List.length_singleton]; show acc.length + 1 ≤ 15000; omega) (sat_some rfl)))))) ?_)
    rw [along_eq h M hy (fun g hg => hf g (List.mem_cons_of_mem _ hg)) (by rw [List.length_append, List.length_singleton]; omega), List.append_assoc]
    exact sat_some rfl
theorem rows_met (h : RuleOk fs r s) (M : Mad fs s met.length m met) : ∀ {c : List Str} {q : List Int}, q ∈ met → (∀ f ∈ c, f ∈ fs) → (∀ x ∈ rowsL s.2.1 q c, x ∈ met) ∧ endR s.2.1 q c ∈ met
  | [], q, hq, _ => ⟨fun x hx => by rw [List.mem_singleton.mp hx]; exact hq, hq⟩
  | f :: c, q, hq, hf => by
    obtain ⟨hy, _⟩ := M.st h hq (hf f (List.mem_cons_self ..))
    obtain ⟨i1, i2⟩ := rows_met h M hy fun g hg => hf g (List.mem_cons_of_mem _ hg)
    refine ⟨fun x hx => ?_, i2⟩
    rcases List.mem_cons.mp hx with e | hx
    · rw [e]
      exact hq
    · exact i1 x hx
theorem last_row {cs : List T_counter} {g : List Int → Int} : ∀ {c : List Str} {q : List Int}, ((rowsL cs q c).map g)[c.length]? = some (g (endR cs q c))
  | [], q => rfl
  | f :: c, q => by
    show (g q :: (rowsL cs _ c).map g)[c.length + 1]? = _
    rw [List.getElem?_cons_succ]
    exact last_row
theorem gains_eq (h : RuleOk fs r s) (M : Mad fs s met.length m met) : ∀ {c : List Str} {q : List Int}, q ∈ met → (∀ f ∈ c, f ∈ fs) →
    mapC (fun (y2 : (Int × Str)) => ((atI m.gain y2.1).bind fun t4 => (aget t4 y2.2).bind fun t5 => some (some t5))) (((rowsL s.2.1 q c).map fun q => (met.idxOf q : Int)).zip c) = some (gainL s q c)
  | [], q, _, _ => rfl
  | f :: c, q, hq, hf => by
    obtain ⟨hy, _, ⟨row, h1, h2⟩, _⟩ := M.st h hq (hf f (List.mem_cons_self ..))
    show Option.bind (Option.bind (atI m.gain (met.idxOf q : Int)) _) _ = _
    rw [h1]
    show Option.bind (Option.bind (aget row f) _) _ = _
    rw [h2]
    show Option.bind (mapC _ (((rowsL s.2.1 (yr s.2.1 q f) c).map fun q => (met.idxOf q : Int)).zip c)) _ = _
    rw [gains_eq h M hy fun g hg => hf g (List.mem_cons_of_mem _ hg)]
    rfl
theorem factsL_lay (h : FactsL fs) : ∀ f ∈ fs, Lay (edat tStr f) := fun f hf => by
  have : ∀ f ∈ [("full" : Str), "half", "none", "if", "reset"], Lay (edat tStr f) := by
    intro f hf
    simp only [List.mem_cons, List.not_mem_nil, or_false] at hf
    rcases hf with rfl | rfl | rfl | rfl | rfl <;> decide +kernel
  exact this f (h.2.2 f hf)
theorem isin_iff' {α : Type} [DecidableEq α] {x : α} {xs : List α} : isin x xs = true ↔ x ∈ xs := by unfold isin; exact decide_eq_true_iff
theorem foldO_unit {f : Unit → Str → Option Unit} : ∀ {c : List Str}, (∀ y ∈ c, f () y = some ()) → foldO f () c = some ()
  | [], _ => rfl
  | y :: c, h => by
    show (f () y).bind _ = _
    rw [h y (List.mem_cons_self ..)]
    exact foldO_unit fun z hz => h z (List.mem_cons_of_mem _ hz)
theorem check_ok (hl : FactsL fs) (hm : m.facts = fs) {c : List Str} (hc : ∀ f ∈ c, f ∈ fs) : m_check_facts m c = some () := by
  unfold m_check_facts
  rw [hm, foldO_unit fun y hy => ?_]
  · rfl
  · rw [grd_t (factsL_lay hl y (hc y hy))]
    show (grd _ ()).bind _ = _
    rw [grd_t (lay_list (factsL_lay hl))]
    show (if _ then _ else _) = _
    rw [if_neg (by rw [isin_iff'.mpr (hc y hy)]; decide)]
theorem foldX_ret' {S β ρ : Type} {f : S → β → Option (Oc ρ S)} {s : S} {z : β} {b : List β} {r : ρ} : ∀ {a : List β}, (∀ y ∈ a, f s y = some (.nx s)) → f s z = some (.ret r) → foldX f s (a ++ z :: b) = some (.ret r)
  | [], _, hz => by
    show (f s z).bind _ = _
    rw [hz]
    rfl
  | x :: a, ha, hz => by
    show (f s x).bind _ = _
    rw [ha x (List.mem_cons_self ..)]
    exact foldX_ret' (a := a) (fun y hy => ha y (List.mem_cons_of_mem _ hy)) hz
abbrev erZ : Er := (("UnknownFact" : Str), [(("fact" : Str), (Sum.inr ("zzz" : Str) : Int ⊕ Str))])
theorem zzz_out (h : FactsL fs) : ("zzz" : Str) ∉ fs := fun hm => by
  have := h.2.2 _ hm
  revert this
  decide +kernel
theorem check_zzz (hl : FactsL fs) (hm : m.facts = fs) {a b : List Str} (ha : ∀ f ∈ a, f ∈ fs) : m_check_factsX m (a ++ ("zzz" : Str) :: b) = some (.er erZ) := by
  unfold m_check_factsX
  rw [hm, foldX_ret' (z := ("zzz" : Str)) (a := a) (b := b) (r := (.er erZ : Rs E_check_factsX O_check_factsX)) (fun f hf => by
    have hf := ha f hf
    rw [grd_t (factsL_lay hl f hf)]
    show (grd _ ()).bind _ = _
    rw [grd_t (lay_list (factsL_lay hl))]
    show (if _ then _ else _) = _
    rw [if_neg (by rw [isin_iff'.mpr hf]; decide)]) (by
    rw [grd_t (show Lay (edat tStr ("zzz" : Str)) by decide +kernel)]
    show (grd _ ()).bind _ = _
    rw [grd_t (lay_list (factsL_lay hl))]
    show (if _ then _ else _) = _
    rw [if_pos (by
      cases q : isin ("zzz" : Str) fs with
      | false => rfl
      | true => exact absurd (isin_iff'.mp q) (zzz_out hl)), grd_t (show Str.length ("zzz" : Str) ≤ 1000 by decide +kernel)]
    rfl)]
  rfl
theorem told_z (hl : FactsL fs) (hm : m.facts = fs) {a b : List Str} (ha : ∀ f ∈ a, f ∈ fs) {k : Int} : m_law_told_a () m k (a ++ ("zzz" : Str) :: b) = some (.inr "zzz") ∧ m_law_told_b () m k (a ++ ("zzz" : Str) :: b) = some (.inr "zzz") ∧ m_law_told_c () m k (a ++ ("zzz" : Str) :: b) = some (.inr "zzz") ∧ m_law_told_d () m k (a ++ ("zzz" : Str) :: b) = some (.inr "zzz") := by
  have e0 := check_zzz hl hm (b := b) ha
  have e1 : m_states_alongX m k (a ++ ("zzz" : Str) :: b) = some (.er erZ) := by unfold m_states_alongX; rw [e0]; rfl
  have e2 : m_state_afterX m k (a ++ ("zzz" : Str) :: b) = some (.er erZ) := by unfold m_state_afterX; rw [e1]; rfl
  have e3 : m_gains_ofX m k (a ++ ("zzz" : Str) :: b) = some (.er erZ) := by unfold m_gains_ofX; rw [e1]; rfl
  have e4 : m_totalX m k (a ++ ("zzz" : Str) :: b) = some (.er erZ) := by unfold m_totalX; rw [e3]; rfl
  refine ⟨?_, ?_, ?_, ?_⟩
  · unfold m_law_told_a; rw [e1]; decide +kernel
  · unfold m_law_told_b; rw [e2]; decide +kernel
  · unfold m_law_told_c; rw [e3]; decide +kernel
  · unfold m_law_told_d; rw [e4]; decide +kernel
end
theorem sixty {α : Type} {xs : List α} {n : Nat} : cutL xs none (some (n : Int)) = xs.take n := by
  unfold cutL
  rw [HT.sIx_none, HT.sIx_nat, List.drop_zero, Nat.sub_zero]
  by_cases h : n ≤ xs.length
  · rw [Nat.min_eq_left h]
  · rw [Nat.min_eq_right (by omega), List.take_length, List.take_of_length_le (by omega)]
theorem sixty' {α : Type} {xs : List α} {n : Nat} : cutL xs (some (n : Int)) none = xs.drop n := by
  unfold cutL
  rw [HT.sIx_none, HT.sIx_nat]
  by_cases h : n ≤ xs.length
  · rw [Nat.min_eq_left h, List.take_of_length_le (by rw [List.length_drop]; omega)]
  · rw [Nat.min_eq_right (by omega), Nat.sub_self, List.take_zero, List.drop_eq_nil_of_le (by omega)]
def capped (cs : List T_counter) : List T_counter := cs.map fun y => (y.1, min y.2.1 4, y.2.2)
theorem capped_ok {cs : List T_counter} (h : CountersOk cs) : CountersOk (capped cs) ∧ (capped cs).map Prod.fst = cs.map Prod.fst ∧ ∀ c ∈ capped cs, c.2.1 ≤ 4 := by
  have e : (capped cs).map Prod.fst = cs.map Prod.fst := by
    unfold capped
    rw [List.map_map]
    rfl
  refine ⟨⟨?_, fun c hc => ?_, ?_⟩, e, fun c hc => ?_⟩
  · rw [e, h.1]
    unfold capped
    rw [List.length_map]
  · obtain ⟨d, hd, ed⟩ := List.mem_map.mp hc
    obtain ⟨k1, k2⟩ := h.2.1 d hd
    rw [← ed]
    refine ⟨k1, ?_⟩
    show 1 ≤ min d.2.1 4
    omega
  · unfold capped
    rw [List.length_map]
    exact h.2.2
  · obtain ⟨d, hd, ed⟩ := List.mem_map.mp hc
    rw [← ed]
    show min d.2.1 4 ≤ 4
    omega
theorem law_true : ∀ ns : List Int, ns.length ≤ 63 → m_law ns = some true := by
  intro ns _
  suffices h : Sat (m_law ns) fun o => o = true by
    obtain ⟨a, e, rfl⟩ := h
    exact e
  unfold m_law
  refine sat_bind (sat_digits (by omega)) fun t1 _ => sat_bind (sat_facts (b := (t1, 0)) (Int.le_refl _)) fun t2 ⟨f2, k2⟩ => sat_bind (sat_scheme k2 f2.1) fun t3 ⟨s3, k3⟩ => ?_
  obtain ⟨⟨fs0, cs, gs, ls⟩, b3⟩ := t3
  have ef : fs0 = t2.1 := s3.1
  subst ef
  have hc : CountersOk cs := s3.2.1
  obtain ⟨c1, c2, c3⟩ := capped_ok hc
  refine sat_grd (by have := hc.2.2; unfold Sm; show cs.length ≤ _; omega) (sat_to (a := capped cs) (mapC_map fun _ _ => rfl) (sat_to (a := D_Rules.mk t2.1 (capped cs) gs ls) rfl ?_))
  have R : RuleOk t2.1 (D_Rules.mk t2.1 (capped cs) gs ls) (t2.1, capped cs, gs, ls) := ⟨⟨rfl, c1, ⟨fun g hg => by show CondOk ((capped cs).map Prod.fst) _; rw [c2]; exact s3.2.2.1.1 g hg, s3.2.2.1.2⟩, fun g hg => by show CondOk ((capped cs).map Prod.fst) _; rw [c2]; exact s3.2.2.2.1 g hg, s3.2.2.2.2⟩, f2, rfl, rfl, rfl, rfl, c3⟩
  refine sat_bind (sat_made R) fun t8 ⟨met, e8, M, l0⟩ => sat_bind (sat_career2 k3 f2.1.1) fun t9 ⟨⟨c9, l9⟩, k9⟩ => sat_bind (sat_draw k9 (by decide)) fun t10 ⟨_, k10⟩ => ?_
  have e8l : t8.2.length = met.length := by rw [e8, List.length_map]
  have sm := M.small R
  refine sat_grd (by omega) (sat_bind (P := fun x => 0 ≤ x ∧ x < (met.length : Int)) (sat_some (by rw [e8l]; exact fmod_lt' (by omega))) fun st ⟨s0, s1⟩ => ?_)
  obtain ⟨k, rfl⟩ : ∃ k : Nat, st = (k : Int) := ⟨st.toNat, by omega⟩
  have hk : k < met.length := by omega
  have hq : met[k]? = some met[k] := List.getElem?_eq_getElem hk
  have hm : met[k] ∈ met := List.getElem_mem hk
  generalize met[k] = q at hq hm
  have ek : (met.idxOf q : Int) = (k : Int) := by
    obtain ⟨i, i1, i2, i3⟩ := M.in_ hm
    rw [i3]
    have := (List.getElem?_inj i1 M.nd).mp (i2.trans hq.symm)
    omega
  have qb := M.inb q hm
  generalize t9.1 = car at c9 l9
  refine sat_to (a := kc (capped cs) q) (by rw [e8]; exact atI_nat (by rw [List.getElem?_map, hq]; rfl)) ?_
  refine sat_to (walk_eq R (rs := [kc (capped cs) q]) (gs := []) qb (by show 1 + car.length ≤ _; omega) (by show 0 + car.length ≤ _; omega)) ?_
  have al : m_states_along t8.1 (k : Int) car = some ((rowsL (capped cs) q car).map fun q => (met.idxOf q : Int)) := by
    unfold m_states_along
    rw [check_ok f2 M.facts c9]
    have := along_eq R M (acc := []) hm c9 (by show 0 + car.length ≤ _; omega)
    rw [List.nil_append, ek, List.nil_append] at this
    show (foldO _ [(k : Int)] car).bind _ = _
    rw [this]
    rfl
  have rl := rowsL_len (cs := capped cs) (c := car) (q := q)
  obtain ⟨rm, em⟩ := rows_met R M hm c9
  refine sat_to al (sat_grd (by rw [List.length_map, rl]; unfold Sm; omega) (sat_to (a := (rowsL (capped cs) q car).map (kc (capped cs))) ?_ ?_))
  · have : ∀ {L : List (List Int)}, (∀ x ∈ L, x ∈ met) → mapC (fun (y23 : Int) => ((atI t8.2 y23).bind fun t25 => some (some t25))) (L.map fun q => (met.idxOf q : Int)) = some (L.map (kc (capped cs))) := by
      intro L
      induction L with
      | nil => intro _; rfl
      | cons x L ih =>
        intro hL
        obtain ⟨i, i1, i2, i3⟩ := M.in_ (hL x (List.mem_cons_self ..))
        have ex : atI t8.2 (met.idxOf x : Int) = some (kc (capped cs) x) := by rw [e8, i3]; exact atI_nat (by rw [List.getElem?_map, i2]; rfl)
        show Option.bind (Option.bind (atI t8.2 (met.idxOf x : Int)) _) _ = _
        rw [ex]
        show Option.bind (mapC _ (L.map fun q => (met.idxOf q : Int))) _ = _
        rw [ih fun y hy => hL y (List.mem_cons_of_mem _ hy)]
        rfl
    exact this rm
  have lastr : atI ((rowsL (capped cs) q car).map fun q => (met.idxOf q : Int)) (-(1 : Int)) = some (met.idxOf (endR (capped cs) q car) : Int) := atI_end (i := car.length) (by rw [List.length_map, rl]) last_row
  have aft : m_state_after t8.1 (k : Int) car = some (met.idxOf (endR (capped cs) q car) : Int) := by
    unfold m_state_after
    rw [al]
    show (atI _ (-(1 : Int))).bind _ = _
    rw [lastr]
    rfl
  have gn : m_gains_of t8.1 (k : Int) car = some (gainL (t2.1, capped cs, gs, ls) q car) := by
    unfold m_gains_of
    rw [al]
    refine sat_is (sat_to (m := some _) rfl (sat_grd ?_ (sat_to (gains_eq R M hm c9) (sat_some rfl))))
    rw [List.length_zip, List.length_map]
    unfold Sm
    omega
  have lvE : atI t8.1.leave (met.idxOf (endR (capped cs) q car) : Int) = some (lV (t2.1, capped cs, gs, ls) (kc (capped cs) (endR (capped cs) q car))) := by
    obtain ⟨i, i1, i2, i3⟩ := M.in_ em
    rw [i3]
    exact atI_nat (M.leave i _ i1 i2)
  have tot : m_total t8.1 (k : Int) car = some ((gainL (t2.1, capped cs, gs, ls) q car).sum + lV (t2.1, capped cs, gs, ls) (kc (capped cs) (endR (capped cs) q car))) := by
    unfold m_total
    exact sat_is (sat_to gn (sat_to aft (sat_to lvE (sat_some rfl))))
  refine sat_grd ?_ ?_
  · show (rowsL (capped cs) q car).map (kc (capped cs)) = [kc (capped cs) q] ++ (rowsL (capped cs) q car).tail.map (kc (capped cs))
    rw [rowsL_hd]
    rfl
  refine sat_bind (P := fun y => y = false) (sat_to aft (sat_to lastr (sat_some (by rw [decide_eq_true rfl]; rfl)))) fun y ey => ?_
  subst ey
  refine sat_to gn (sat_bind (P := fun y => y = false) ?_ fun y ey => ?_)
  · rw [show decide (gainL (t2.1, capped cs, gs, ls) q car = [] ++ gainL (t2.1, capped cs, gs, ls) q car) = true from decide_eq_true rfl]
    refine sat_to tot (sat_to (R.lv (M.inb _ em).1).2 (sat_some ?_))
    exact congrArg (fun b => !b) (decide_eq_true (by rfl))
  subst ey
  refine sat_bind (sat_draw k10 (by omega)) fun t37 ⟨h37, k37⟩ => ?_
  obtain ⟨at_, eat⟩ : ∃ n : Nat, t37.1 = (n : Int) := ⟨t37.1.toNat, by omega⟩
  rw [eat, sixty, sixty']
  have lt := List.length_take_le at_ car
  have ld : (car.drop at_).length ≤ car.length := by rw [List.length_drop]; omega
  refine sat_grd (by simp only [List.length_cons, List.length_nil]; unfold Sm; omega) (sat_grd (by simp only [List.length_append, List.length_cons, List.length_nil]; unfold Sm; omega) (sat_grd (by simp only [List.length_append, List.length_cons, List.length_nil]; unfold Sm; omega) ?_))
  refine sat_to (a := car.take at_ ++ ("zzz" : Str) :: (car.drop at_ ++ [("yyy" : Str)])) (by simp) ?_
  obtain ⟨a1, a2, a3, a4⟩ := told_z f2 M.facts (a := car.take at_) (b := car.drop at_ ++ [("yyy" : Str)]) (k := (k : Int)) fun f hf => c9 f (List.mem_of_mem_take hf)
  have lz : Lay (edat (tSum tInt tStr) (Sum.inr ("zzz" : Str) : (Int ⊕ Str))) := by decide +kernel
  refine sat_bind (sat_foldX (fun _ => True) trivial fun s y hy _ => ?_) fun j64 ⟨s66, e66, _⟩ => by
    subst e66
    exact sat_some rfl
  have nz : (!(decide ((Sum.inr ("zzz" : Str) : (Int ⊕ Str)) = Sum.inr ("zzz" : Str)))) = false := by rw [decide_eq_true rfl]; rfl
  simp only [List.mem_cons, List.not_mem_nil, or_false] at hy
  rcases hy with rfl | rfl | rfl | rfl
  · rw [if_pos rfl]
    exact sat_to a1 (sat_grd lz (sat_grd lz (by rw [nz]; exact sat_some ⟨(), rfl, trivial⟩)))
  · rw [if_neg (by decide), if_pos rfl]
    exact sat_to a2 (sat_grd lz (sat_grd lz (by rw [nz]; exact sat_some ⟨(), rfl, trivial⟩)))
  · rw [if_neg (by decide), if_neg (by decide), if_pos rfl]
    exact sat_to a3 (sat_grd lz (sat_grd lz (by rw [nz]; exact sat_some ⟨(), rfl, trivial⟩)))
  · rw [if_neg (by decide), if_neg (by decide), if_neg (by decide), if_pos rfl]
    exact sat_to a4 (sat_grd lz (sat_grd lz (by rw [nz]; exact sat_some ⟨(), rfl, trivial⟩)))

theorem all_mk {l : PySem.W.OpenLaw} {w : World} {K : PySem.W.Frag} {h : Heap} {mg : Str → Option Value} {fa : Addr} (X : K.In h) (G : h.Ns mainGlobals mg) (hfa : mg "law" = some (.ref fa))
    {C_MovedyearsError : Addr}
    {C_UnknownFact : Addr}
    {f_UnknownFact cda_UnknownFact cc_UnknownFact : Addr} {ocf_UnknownFact kVf_UnknownFact dcf_UnknownFact pmf_UnknownFact ctf_UnknownFact ccl_UnknownFact cl_UnknownFact : Value} {odf_UnknownFact anf_UnknownFact : Option Addr} {slf_UnknownFact ccs_UnknownFact csl_UnknownFact : Array (Option Value)} {vs_UnknownFact : Array Value} {file_UnknownFact : Str} {tf_UnknownFact : Tok} {cdd_UnknownFact cld_UnknownFact : Option Addr}
    {nm_UnknownFact q_UnknownFact : Str} {N_UnknownFact : Addr} {bs_UnknownFact bm_UnknownFact : List Value} {sn_UnknownFact : List Str} {sub_UnknownFact : List Value} {ab_UnknownFact : Bool} {col_UnknownFact : Option Bool} {dd_UnknownFact : Option Addr} {k0_UnknownFact k1_UnknownFact k2_UnknownFact k3_UnknownFact k5_UnknownFact : Option Value}
    {C_Machine : Addr}
    {C_Rules : Addr}
    {f0 : Addr} {od0 an0 : Option Addr} {sl0 : Array (Option Value)} {oc0 kV0 dc0 pm0 cd0 ct0 : Value}
    {f1 : Addr} {od1 an1 : Option Addr} {sl1 : Array (Option Value)} {oc1 kV1 dc1 pm1 cd1 ct1 : Value}
    {f2 : Addr} {od2 an2 : Option Addr} {sl2 : Array (Option Value)} {oc2 kV2 dc2 pm2 cd2 ct2 : Value}
    {f3 : Addr} {od3 an3 : Option Addr} {sl3 : Array (Option Value)} {oc3 kV3 dc3 pm3 cd3 ct3 : Value}
    {f4 : Addr} {od4 an4 : Option Addr} {sl4 : Array (Option Value)} {oc4 kV4 dc4 pm4 cd4 ct4 : Value}
    {f5 : Addr} {od5 an5 : Option Addr} {sl5 : Array (Option Value)} {oc5 kV5 dc5 pm5 cd5 ct5 : Value}
    {f6 : Addr} {od6 an6 : Option Addr} {sl6 : Array (Option Value)} {oc6 kV6 dc6 pm6 cd6 ct6 : Value}
    {f7 : Addr} {od7 an7 : Option Addr} {sl7 : Array (Option Value)} {oc7 kV7 dc7 pm7 cd7 ct7 : Value}
    {f8 : Addr} {od8 an8 : Option Addr} {sl8 : Array (Option Value)} {oc8 kV8 dc8 pm8 cd8 ct8 : Value}
    {f9 : Addr} {od9 an9 : Option Addr} {sl9 : Array (Option Value)} {oc9 kV9 dc9 pm9 cd9 ct9 : Value}
    {f10 : Addr} {od10 an10 : Option Addr} {sl10 : Array (Option Value)} {oc10 kV10 dc10 pm10 cd10 ct10 : Value}
    {f11 : Addr} {od11 an11 : Option Addr} {sl11 : Array (Option Value)} {oc11 kV11 dc11 pm11 cd11 ct11 : Value}
    {f12 : Addr} {od12 an12 : Option Addr} {sl12 : Array (Option Value)} {oc12 kV12 dc12 pm12 cd12 ct12 : Value}
    {f13 : Addr} {od13 an13 : Option Addr} {sl13 : Array (Option Value)} {oc13 kV13 dc13 pm13 cd13 ct13 : Value}
    {f14 : Addr} {od14 an14 : Option Addr} {sl14 : Array (Option Value)} {oc14 kV14 dc14 pm14 cd14 ct14 : Value}
    {f15 : Addr} {od15 an15 : Option Addr} {sl15 : Array (Option Value)} {oc15 kV15 dc15 pm15 cd15 ct15 : Value}
    {f16 : Addr} {od16 an16 : Option Addr} {sl16 : Array (Option Value)} {oc16 kV16 dc16 pm16 cd16 ct16 : Value}
    {f17 : Addr} {od17 an17 : Option Addr} {sl17 : Array (Option Value)} {oc17 kV17 dc17 pm17 cd17 ct17 : Value}
    {f18 : Addr} {od18 an18 : Option Addr} {sl18 : Array (Option Value)} {oc18 kV18 dc18 pm18 cd18 ct18 : Value}
    {f19 : Addr} {od19 an19 : Option Addr} {sl19 : Array (Option Value)} {oc19 kV19 dc19 pm19 cd19 ct19 : Value}
    {dt19 C_df_made : Addr} {dda19 ddb19 : Option Addr} {na19 nb19 : Nat} {sla19 slb19 : Array (Option Value)}
    {f20 : Addr} {od20 an20 : Option Addr} {sl20 : Array (Option Value)} {oc20 kV20 dc20 pm20 cd20 ct20 : Value}
    {f21 : Addr} {od21 an21 : Option Addr} {sl21 : Array (Option Value)} {oc21 kV21 dc21 pm21 cd21 ct21 : Value}
    {f22 : Addr} {od22 an22 : Option Addr} {sl22 : Array (Option Value)} {oc22 kV22 dc22 pm22 cd22 ct22 : Value}
    {f23 : Addr} {od23 an23 : Option Addr} {sl23 : Array (Option Value)} {oc23 kV23 dc23 pm23 cd23 ct23 : Value}
    {f24 : Addr} {od24 an24 : Option Addr} {sl24 : Array (Option Value)} {oc24 kV24 dc24 pm24 cd24 ct24 : Value}
    {f25 : Addr} {od25 an25 : Option Addr} {sl25 : Array (Option Value)} {oc25 kV25 dc25 pm25 cd25 ct25 : Value}
    {f26 : Addr} {od26 an26 : Option Addr} {sl26 : Array (Option Value)} {oc26 kV26 dc26 pm26 cd26 ct26 : Value}
    {f27 : Addr} {od27 an27 : Option Addr} {sl27 : Array (Option Value)} {oc27 kV27 dc27 pm27 cd27 ct27 : Value}
    {f28 : Addr} {od28 an28 : Option Addr} {sl28 : Array (Option Value)} {oc28 kV28 dc28 pm28 cd28 ct28 : Value}
    {f29 : Addr} {od29 an29 : Option Addr} {sl29 : Array (Option Value)} {oc29 kV29 dc29 pm29 cd29 ct29 : Value}
    {f30 : Addr} {od30 an30 : Option Addr} {sl30 : Array (Option Value)} {oc30 kV30 dc30 pm30 cd30 ct30 : Value}
    {f31 : Addr} {od31 an31 : Option Addr} {sl31 : Array (Option Value)} {oc31 kV31 dc31 pm31 cd31 ct31 : Value}
    {f32 : Addr} {od32 an32 : Option Addr} {sl32 : Array (Option Value)} {oc32 kV32 dc32 pm32 cd32 ct32 : Value}
    {f33 : Addr} {od33 an33 : Option Addr} {sl33 : Array (Option Value)} {oc33 kV33 dc33 pm33 cd33 ct33 : Value}
    {f34 : Addr} {od34 an34 : Option Addr} {sl34 : Array (Option Value)} {oc34 kV34 dc34 pm34 cd34 ct34 : Value}
    {f35 : Addr} {od35 an35 : Option Addr} {sl35 : Array (Option Value)} {oc35 kV35 dc35 pm35 cd35 ct35 : Value}
    {f36 : Addr} {od36 an36 : Option Addr} {sl36 : Array (Option Value)} {oc36 kV36 dc36 pm36 cd36 ct36 : Value}
    (aC_MovedyearsError : PySem.W.nsIn K mainGlobals "MovedyearsError" = some (some (.ref C_MovedyearsError))) (bC_MovedyearsError : PySem.W.subIn K (.ref C_MovedyearsError) (.type "BaseException") = some true) (tC_MovedyearsError : PySem.W.typeIn K (.ref C_MovedyearsError) = some (.type "type")) (hd_MovedyearsError : PySem.W.hasDictIn K C_MovedyearsError = true)
    (aC_UnknownFact : PySem.W.nsIn K mainGlobals "UnknownFact" = some (some (.ref C_UnknownFact))) (bC_UnknownFact : PySem.W.subIn K (.ref C_UnknownFact) (.type "BaseException") = some true) (tC_UnknownFact : PySem.W.typeIn K (.ref C_UnknownFact) = some (.type "type")) (hd_UnknownFact : PySem.W.hasDictIn K C_UnknownFact = true)
    (xL_UnknownFact : K.lookup C_UnknownFact = some (excClassObj nm_UnknownFact q_UnknownFact C_UnknownFact N_UnknownFact bs_UnknownFact bm_UnknownFact true sn_UnknownFact sub_UnknownFact ab_UnknownFact col_UnknownFact dd_UnknownFact k0_UnknownFact k1_UnknownFact k2_UnknownFact k3_UnknownFact k5_UnknownFact "ValueError.__new__")) (rv_UnknownFact : PySem.HandSPX.refsVE bm_UnknownFact = true) (sa_UnknownFact : PySem.W.findIn K (.ref C_UnknownFact) "__setattr__" = some (some (.builtin "object.__setattr__"))) (kC_UnknownFact : PySem.W.keepIn K (.ref C_UnknownFact) = true) (iC_UnknownFact : PySem.W.findIn K (.ref C_UnknownFact) "__init__" = some (some (.ref f_UnknownFact))) (tf1_UnknownFact : PySem.W.typeIn K (.ref f_UnknownFact) = some (.type "function")) (lf_UnknownFact : K.lookup f_UnknownFact = some ⟨ocf_UnknownFact, odf_UnknownFact, .func (PySem.W.ksFn "__init__" "UnknownFact.__init__" (defArgs s_UnknownFact_init) (defBody s_UnknownFact_init) (defScope s_UnknownFact_init) .none kVf_UnknownFact dcf_UnknownFact pmf_UnknownFact anf_UnknownFact (.ref cda_UnknownFact) ctf_UnknownFact cc_UnknownFact), slf_UnknownFact⟩) (cf_UnknownFact : PySem.W.codeIn K (.ref cda_UnknownFact) "UnknownFact.__init__" = true) (lc_UnknownFact : K.lookup cda_UnknownFact = some ⟨ccl_UnknownFact, cdd_UnknownFact, .fields vs_UnknownFact, ccs_UnknownFact⟩) (lv_UnknownFact : vs_UnknownFact[2]? = some (.str file_UnknownFact tf_UnknownFact)) (fl_UnknownFact : ((l.prog.main.file : Str) == file_UnknownFact) = true) (le_UnknownFact : K.lookup cc_UnknownFact = some ⟨cl_UnknownFact, cld_UnknownFact, .cell (some (.ref C_UnknownFact)), csl_UnknownFact⟩) (mr_UnknownFact : PySem.W.mroIn K C_UnknownFact (.ref C_UnknownFact) = some true) (nx_UnknownFact : PySem.W.ks_superIn K C_UnknownFact C_UnknownFact "__init__" = some (some (.builtin "ValueError.__init__"))) (ve_UnknownFact : PySem.W.subIn K (.ref C_UnknownFact) (.type "ValueError") = some true)
    (nf_UnknownFact_fact : PySem.W.findIn K (.ref C_UnknownFact) "fact" = some none)
    (z_super : PySem.W.nsIn K mainGlobals "super" = some none) (opq : PySem.W.nsIn K cStatics "thirdparty.any" = some none) (top_ : (l.prog.main.scope.names.lookup ("super" : Str)).isSome = false)
    (xs_UnknownFact_MovedyearsError : PySem.W.subIn K (.ref C_UnknownFact) (.ref C_MovedyearsError) = some true)
    (ga_UnknownFact : PySem.W.findIn K (.ref C_UnknownFact) "__getattribute__" = some (some (.builtin "BaseException.__getattribute__"))) (gg_UnknownFact : PySem.W.findIn K (.ref C_UnknownFact) "__getattr__" = some none)
    (ci_UnknownFact : PySem.W.isClsIn K C_UnknownFact = true) (hc_UnknownFact : PySem.W.findIn K (.ref C_UnknownFact) "__class__" = some (some (.builtin "object.__class__"))) (ho_UnknownFact : PySem.W.mroIn K C_UnknownFact (.type "object") = some true)
    (sp_ : PySem.W.specialIn K (.builtin "object.__class__") "__get__" = some (some (.builtin "getset_descriptor.__get__"))) (tk_ : PySem.W.takesIn K (.builtin "object.__class__") = some true)
    (xk_UnknownFact_UnknownFact : PySem.W.kitOne K (.ref C_UnknownFact) (.ref C_UnknownFact) = some true)
    (aC_Machine : PySem.W.nsIn K mainGlobals "Machine" = some (some (.ref C_Machine))) (pg_Machine : PySem.W.plainGet K C_Machine Str.empty = true) (hd_Machine : PySem.W.hasDictIn K C_Machine = true) (po_Machine : PySem.W.plainOver K C_Machine = true) (sa_Machine : PySem.W.findIn K (.ref C_Machine) "__setattr__" = some (some (.builtin "object.__setattr__"))) (mk_Machine : PySem.W.makesIn K C_Machine = true) (kc_Machine : PySem.W.keepIn K (.ref C_Machine) = true)
    (aC_Rules : PySem.W.nsIn K mainGlobals "Rules" = some (some (.ref C_Rules))) (pg_Rules : PySem.W.plainGet K C_Rules Str.empty = true) (hd_Rules : PySem.W.hasDictIn K C_Rules = true) (po_Rules : PySem.W.plainOver K C_Rules = true) (sa_Rules : PySem.W.findIn K (.ref C_Rules) "__setattr__" = some (some (.builtin "object.__setattr__"))) (mk_Rules : PySem.W.makesIn K C_Rules = true) (kc_Rules : PySem.W.keepIn K (.ref C_Rules) = true)
    (na_Machine_facts : PySem.W.findIn K (.ref C_Machine) "facts" = some none)
    (na_Machine_step : PySem.W.findIn K (.ref C_Machine) "step" = some none)
    (na_Machine_gain : PySem.W.findIn K (.ref C_Machine) "gain" = some none)
    (na_Machine_leave : PySem.W.findIn K (.ref C_Machine) "leave" = some none)
    (na_Rules_counters : PySem.W.findIn K (.ref C_Rules) "counters" = some none)
    (na_Rules_gains : PySem.W.findIn K (.ref C_Rules) "gains" = some none)
    (na_Rules_leaves : PySem.W.findIn K (.ref C_Rules) "leaves" = some none)
    (na_Rules_facts : PySem.W.findIn K (.ref C_Rules) "facts" = some none)
    (a0 : PySem.W.nsIn K mainGlobals "check_facts" = some (some (.ref f0)))
    (l0 : K.lookup f0 = some ⟨oc0, od0, .func (PySem.W.fnOf "check_facts" "check_facts" (defArgs s_check_facts) (defBody s_check_facts) (defScope s_check_facts) .none kV0 dc0 pm0 an0 cd0 ct0), sl0⟩) (c0 : PySem.W.codeIn K cd0 "check_facts" = true) (k0 : PySem.W.keepIn K (.ref f0) = true)
    (a1 : PySem.W.nsIn K mainGlobals "states_along" = some (some (.ref f1)))
    (l1 : K.lookup f1 = some ⟨oc1, od1, .func (PySem.W.fnOf "states_along" "states_along" (defArgs s_states_along) (defBody s_states_along) (defScope s_states_along) .none kV1 dc1 pm1 an1 cd1 ct1), sl1⟩) (c1 : PySem.W.codeIn K cd1 "states_along" = true) (k1 : PySem.W.keepIn K (.ref f1) = true)
    (a2 : PySem.W.nsIn K mainGlobals "state_after" = some (some (.ref f2)))
    (l2 : K.lookup f2 = some ⟨oc2, od2, .func (PySem.W.fnOf "state_after" "state_after" (defArgs s_state_after) (defBody s_state_after) (defScope s_state_after) .none kV2 dc2 pm2 an2 cd2 ct2), sl2⟩) (c2 : PySem.W.codeIn K cd2 "state_after" = true) (k2 : PySem.W.keepIn K (.ref f2) = true)
    (a3 : PySem.W.nsIn K mainGlobals "gains_of" = some (some (.ref f3)))
    (l3 : K.lookup f3 = some ⟨oc3, od3, .func (PySem.W.fnOf "gains_of" "gains_of" (defArgs s_gains_of) (defBody s_gains_of) (defScope s_gains_of) .none kV3 dc3 pm3 an3 cd3 ct3), sl3⟩) (c3 : PySem.W.codeIn K cd3 "gains_of" = true) (k3 : PySem.W.keepIn K (.ref f3) = true)
    (a4 : PySem.W.nsIn K mainGlobals "total" = some (some (.ref f4)))
    (l4 : K.lookup f4 = some ⟨oc4, od4, .func (PySem.W.fnOf "total" "total" (defArgs s_total) (defBody s_total) (defScope s_total) .none kV4 dc4 pm4 an4 cd4 ct4), sl4⟩) (c4 : PySem.W.codeIn K cd4 "total" = true) (k4 : PySem.W.keepIn K (.ref f4) = true)
    (a5 : PySem.W.nsIn K mainGlobals "passes" = some (some (.ref f5)))
    (l5 : K.lookup f5 = some ⟨oc5, od5, .func (PySem.W.fnOf "passes" "passes" (defArgs s_passes) (defBody s_passes) (defScope s_passes) .none kV5 dc5 pm5 an5 cd5 ct5), sl5⟩) (c5 : PySem.W.codeIn K cd5 "passes" = true) (k5 : PySem.W.keepIn K (.ref f5) = true)
    (a6 : PySem.W.nsIn K mainGlobals "holds" = some (some (.ref f6)))
    (l6 : K.lookup f6 = some ⟨oc6, od6, .func (PySem.W.fnOf "holds" "holds" (defArgs s_holds) (defBody s_holds) (defScope s_holds) .none kV6 dc6 pm6 an6 cd6 ct6), sl6⟩) (c6 : PySem.W.codeIn K cd6 "holds" = true) (k6 : PySem.W.keepIn K (.ref f6) = true)
    (a7 : PySem.W.findIn K (.ref C_Machine) "__init__" = some (some (.ref f7))) (i7 : PySem.W.isFn K (.ref f7) = true)
    (l7 : K.lookup f7 = some ⟨oc7, od7, .func (PySem.W.fnOf "__init__" "Machine.__init__" (defArgs s_Machine_init) (defBody s_Machine_init) (defScope s_Machine_init) .none kV7 dc7 pm7 an7 cd7 ct7), sl7⟩) (c7 : PySem.W.codeIn K cd7 "Machine.__init__" = true) (k7 : PySem.W.keepIn K (.ref f7) = true)
    (a8 : PySem.W.findIn K (.ref C_Machine) "many" = some (some (.ref f8))) (i8 : PySem.W.isFn K (.ref f8) = true)
    (l8 : K.lookup f8 = some ⟨oc8, od8, .func (PySem.W.fnOf "many" "Machine.many" (defArgs s_Machine_many) (defBody s_Machine_many) (defScope s_Machine_many) .none kV8 dc8 pm8 an8 cd8 ct8), sl8⟩) (c8 : PySem.W.codeIn K cd8 "Machine.many" = true) (k8 : PySem.W.keepIn K (.ref f8) = true)
    (a9 : PySem.W.nsIn K mainGlobals "first_counts" = some (some (.ref f9)))
    (l9 : K.lookup f9 = some ⟨oc9, od9, .func (PySem.W.fnOf "first_counts" "first_counts" (defArgs s_first_counts) (defBody s_first_counts) (defScope s_first_counts) .none kV9 dc9 pm9 an9 cd9 ct9), sl9⟩) (c9 : PySem.W.codeIn K cd9 "first_counts" = true) (k9 : PySem.W.keepIn K (.ref f9) = true)
    (a10 : PySem.W.nsIn K mainGlobals "counted_on" = some (some (.ref f10)))
    (l10 : K.lookup f10 = some ⟨oc10, od10, .func (PySem.W.fnOf "counted_on" "counted_on" (defArgs s_counted_on) (defBody s_counted_on) (defScope s_counted_on) .none kV10 dc10 pm10 an10 cd10 ct10), sl10⟩) (c10 : PySem.W.codeIn K cd10 "counted_on" = true) (k10 : PySem.W.keepIn K (.ref f10) = true)
    (a11 : PySem.W.nsIn K mainGlobals "year_counts" = some (some (.ref f11)))
    (l11 : K.lookup f11 = some ⟨oc11, od11, .func (PySem.W.fnOf "year_counts" "year_counts" (defArgs s_year_counts) (defBody s_year_counts) (defScope s_year_counts) .none kV11 dc11 pm11 an11 cd11 ct11), sl11⟩) (c11 : PySem.W.codeIn K cd11 "year_counts" = true) (k11 : PySem.W.keepIn K (.ref f11) = true)
    (a12 : PySem.W.nsIn K mainGlobals "paid_sum" = some (some (.ref f12)))
    (l12 : K.lookup f12 = some ⟨oc12, od12, .func (PySem.W.fnOf "paid_sum" "paid_sum" (defArgs s_paid_sum) (defBody s_paid_sum) (defScope s_paid_sum) .none kV12 dc12 pm12 an12 cd12 ct12), sl12⟩) (c12 : PySem.W.codeIn K cd12 "paid_sum" = true) (k12 : PySem.W.keepIn K (.ref f12) = true)
    (a13 : PySem.W.nsIn K mainGlobals "year_gain" = some (some (.ref f13)))
    (l13 : K.lookup f13 = some ⟨oc13, od13, .func (PySem.W.fnOf "year_gain" "year_gain" (defArgs s_year_gain) (defBody s_year_gain) (defScope s_year_gain) .none kV13 dc13 pm13 an13 cd13 ct13), sl13⟩) (c13 : PySem.W.codeIn K cd13 "year_gain" = true) (k13 : PySem.W.keepIn K (.ref f13) = true)
    (a14 : PySem.W.nsIn K mainGlobals "leave_gain" = some (some (.ref f14)))
    (l14 : K.lookup f14 = some ⟨oc14, od14, .func (PySem.W.fnOf "leave_gain" "leave_gain" (defArgs s_leave_gain) (defBody s_leave_gain) (defScope s_leave_gain) .none kV14 dc14 pm14 an14 cd14 ct14), sl14⟩) (c14 : PySem.W.codeIn K cd14 "leave_gain" = true) (k14 : PySem.W.keepIn K (.ref f14) = true)
    (a15 : PySem.W.nsIn K mainGlobals "row_of" = some (some (.ref f15)))
    (l15 : K.lookup f15 = some ⟨oc15, od15, .func (PySem.W.fnOf "row_of" "row_of" (defArgs s_row_of) (defBody s_row_of) (defScope s_row_of) .none kV15 dc15 pm15 an15 cd15 ct15), sl15⟩) (c15 : PySem.W.codeIn K cd15 "row_of" = true) (k15 : PySem.W.keepIn K (.ref f15) = true)
    (a16 : PySem.W.nsIn K mainGlobals "counts_of" = some (some (.ref f16)))
    (l16 : K.lookup f16 = some ⟨oc16, od16, .func (PySem.W.fnOf "counts_of" "counts_of" (defArgs s_counts_of) (defBody s_counts_of) (defScope s_counts_of) .none kV16 dc16 pm16 an16 cd16 ct16), sl16⟩) (c16 : PySem.W.codeIn K cd16 "counts_of" = true) (k16 : PySem.W.keepIn K (.ref f16) = true)
    (a17 : PySem.W.nsIn K mainGlobals "place_of" = some (some (.ref f17)))
    (l17 : K.lookup f17 = some ⟨oc17, od17, .func (PySem.W.fnOf "place_of" "place_of" (defArgs s_place_of) (defBody s_place_of) (defScope s_place_of) .none kV17 dc17 pm17 an17 cd17 ct17), sl17⟩) (c17 : PySem.W.codeIn K cd17 "place_of" = true) (k17 : PySem.W.keepIn K (.ref f17) = true)
    (a18 : PySem.W.nsIn K mainGlobals "add_states" = some (some (.ref f18)))
    (l18 : K.lookup f18 = some ⟨oc18, od18, .func (PySem.W.fnOf "add_states" "add_states" (defArgs s_add_states) (defBody s_add_states) (defScope s_add_states) .none kV18 dc18 pm18 an18 cd18 ct18), sl18⟩) (c18 : PySem.W.codeIn K cd18 "add_states" = true) (k18 : PySem.W.keepIn K (.ref f18) = true)
    (a19 : PySem.W.nsIn K mainGlobals "made" = some (some (.ref f19)))
    (l19 : K.lookup f19 = some ⟨oc19, od19, .func (PySem.W.fnOf "made" "made" (defArgs s_made) (defBody s_made) (defScope s_made) (.ref dt19) kV19 dc19 pm19 an19 cd19 ct19), sl19⟩) (c19 : PySem.W.codeIn K cd19 "made" = true) (k19 : PySem.W.keepIn K (.ref f19) = true)
    (lt19 : K.lookup dt19 = some ⟨.type "tuple", dda19, .seq #[.ref C_df_made] na19, sla19⟩) (lu19 : K.lookup C_df_made = some ⟨.type "tuple", ddb19, .seq #[] nb19, slb19⟩)
    (a20 : PySem.W.findIn K (.ref C_Rules) "__init__" = some (some (.ref f20))) (i20 : PySem.W.isFn K (.ref f20) = true)
    (l20 : K.lookup f20 = some ⟨oc20, od20, .func (PySem.W.fnOf "__init__" "Rules.__init__" (defArgs s_Rules_init) (defBody s_Rules_init) (defScope s_Rules_init) .none kV20 dc20 pm20 an20 cd20 ct20), sl20⟩) (c20 : PySem.W.codeIn K cd20 "Rules.__init__" = true) (k20 : PySem.W.keepIn K (.ref f20) = true)
    (a21 : PySem.W.findIn K (.ref C_Rules) "names" = some (some (.ref f21))) (i21 : PySem.W.isFn K (.ref f21) = true)
    (l21 : K.lookup f21 = some ⟨oc21, od21, .func (PySem.W.fnOf "names" "Rules.names" (defArgs s_Rules_names) (defBody s_Rules_names) (defScope s_Rules_names) .none kV21 dc21 pm21 an21 cd21 ct21), sl21⟩) (c21 : PySem.W.codeIn K cd21 "Rules.names" = true) (k21 : PySem.W.keepIn K (.ref f21) = true)
    (a22 : PySem.W.nsIn K mainGlobals "_law_cell" = some (some (.ref f22)))
    (l22 : K.lookup f22 = some ⟨oc22, od22, .func (PySem.W.fnOf "_law_cell" "_law_cell" (defArgs s_law_cell) (defBody s_law_cell) (defScope s_law_cell) .none kV22 dc22 pm22 an22 cd22 ct22), sl22⟩) (c22 : PySem.W.codeIn K cd22 "_law_cell" = true) (k22 : PySem.W.keepIn K (.ref f22) = true)
    (a23 : PySem.W.nsIn K mainGlobals "_law_digits" = some (some (.ref f23)))
    (l23 : K.lookup f23 = some ⟨oc23, od23, .func (PySem.W.fnOf "_law_digits" "_law_digits" (defArgs s_law_digits) (defBody s_law_digits) (defScope s_law_digits) .none kV23 dc23 pm23 an23 cd23 ct23), sl23⟩) (c23 : PySem.W.codeIn K cd23 "_law_digits" = true) (k23 : PySem.W.keepIn K (.ref f23) = true)
    (a24 : PySem.W.nsIn K mainGlobals "_law_draw" = some (some (.ref f24)))
    (l24 : K.lookup f24 = some ⟨oc24, od24, .func (PySem.W.fnOf "_law_draw" "_law_draw" (defArgs s_law_draw) (defBody s_law_draw) (defScope s_law_draw) .none kV24 dc24 pm24 an24 cd24 ct24), sl24⟩) (c24 : PySem.W.codeIn K cd24 "_law_draw" = true) (k24 : PySem.W.keepIn K (.ref f24) = true)
    (a25 : PySem.W.nsIn K mainGlobals "_law_condition" = some (some (.ref f25)))
    (l25 : K.lookup f25 = some ⟨oc25, od25, .func (PySem.W.fnOf "_law_condition" "_law_condition" (defArgs s_law_condition) (defBody s_law_condition) (defScope s_law_condition) .none kV25 dc25 pm25 an25 cd25 ct25), sl25⟩) (c25 : PySem.W.codeIn K cd25 "_law_condition" = true) (k25 : PySem.W.keepIn K (.ref f25) = true)
    (a26 : PySem.W.nsIn K mainGlobals "_law_amount" = some (some (.ref f26)))
    (l26 : K.lookup f26 = some ⟨oc26, od26, .func (PySem.W.fnOf "_law_amount" "_law_amount" (defArgs s_law_amount) (defBody s_law_amount) (defScope s_law_amount) .none kV26 dc26 pm26 an26 cd26 ct26), sl26⟩) (c26 : PySem.W.codeIn K cd26 "_law_amount" = true) (k26 : PySem.W.keepIn K (.ref f26) = true)
    (a27 : PySem.W.nsIn K mainGlobals "_law_facts" = some (some (.ref f27)))
    (l27 : K.lookup f27 = some ⟨oc27, od27, .func (PySem.W.fnOf "_law_facts" "_law_facts" (defArgs s_law_facts) (defBody s_law_facts) (defScope s_law_facts) .none kV27 dc27 pm27 an27 cd27 ct27), sl27⟩) (c27 : PySem.W.codeIn K cd27 "_law_facts" = true) (k27 : PySem.W.keepIn K (.ref f27) = true)
    (a28 : PySem.W.nsIn K mainGlobals "_law_counters" = some (some (.ref f28)))
    (l28 : K.lookup f28 = some ⟨oc28, od28, .func (PySem.W.fnOf "_law_counters" "_law_counters" (defArgs s_law_counters) (defBody s_law_counters) (defScope s_law_counters) .none kV28 dc28 pm28 an28 cd28 ct28), sl28⟩) (c28 : PySem.W.codeIn K cd28 "_law_counters" = true) (k28 : PySem.W.keepIn K (.ref f28) = true)
    (a29 : PySem.W.nsIn K mainGlobals "_law_scheme" = some (some (.ref f29)))
    (l29 : K.lookup f29 = some ⟨oc29, od29, .func (PySem.W.fnOf "_law_scheme" "_law_scheme" (defArgs s_law_scheme) (defBody s_law_scheme) (defScope s_law_scheme) .none kV29 dc29 pm29 an29 cd29 ct29), sl29⟩) (c29 : PySem.W.codeIn K cd29 "_law_scheme" = true) (k29 : PySem.W.keepIn K (.ref f29) = true)
    (a30 : PySem.W.nsIn K mainGlobals "_law_holds" = some (some (.ref f30)))
    (l30 : K.lookup f30 = some ⟨oc30, od30, .func (PySem.W.fnOf "_law_holds" "_law_holds" (defArgs s_law_holds) (defBody s_law_holds) (defScope s_law_holds) .none kV30 dc30 pm30 an30 cd30 ct30), sl30⟩) (c30 : PySem.W.codeIn K cd30 "_law_holds" = true) (k30 : PySem.W.keepIn K (.ref f30) = true)
    (a31 : PySem.W.nsIn K mainGlobals "_law_year" = some (some (.ref f31)))
    (l31 : K.lookup f31 = some ⟨oc31, od31, .func (PySem.W.fnOf "_law_year" "_law_year" (defArgs s_law_year) (defBody s_law_year) (defScope s_law_year) .none kV31 dc31 pm31 an31 cd31 ct31), sl31⟩) (c31 : PySem.W.codeIn K cd31 "_law_year" = true) (k31 : PySem.W.keepIn K (.ref f31) = true)
    (a32 : PySem.W.nsIn K mainGlobals "_law_gain" = some (some (.ref f32)))
    (l32 : K.lookup f32 = some ⟨oc32, od32, .func (PySem.W.fnOf "_law_gain" "_law_gain" (defArgs s_law_gain) (defBody s_law_gain) (defScope s_law_gain) .none kV32 dc32 pm32 an32 cd32 ct32), sl32⟩) (c32 : PySem.W.codeIn K cd32 "_law_gain" = true) (k32 : PySem.W.keepIn K (.ref f32) = true)
    (a33 : PySem.W.nsIn K mainGlobals "_law_leave" = some (some (.ref f33)))
    (l33 : K.lookup f33 = some ⟨oc33, od33, .func (PySem.W.fnOf "_law_leave" "_law_leave" (defArgs s_law_leave) (defBody s_law_leave) (defScope s_law_leave) .none kV33 dc33 pm33 an33 cd33 ct33), sl33⟩) (c33 : PySem.W.codeIn K cd33 "_law_leave" = true) (k33 : PySem.W.keepIn K (.ref f33) = true)
    (a34 : PySem.W.nsIn K mainGlobals "_law_career" = some (some (.ref f34)))
    (l34 : K.lookup f34 = some ⟨oc34, od34, .func (PySem.W.fnOf "_law_career" "_law_career" (defArgs s_law_career) (defBody s_law_career) (defScope s_law_career) .none kV34 dc34 pm34 an34 cd34 ct34), sl34⟩) (c34 : PySem.W.codeIn K cd34 "_law_career" = true) (k34 : PySem.W.keepIn K (.ref f34) = true)
    (a35 : PySem.W.nsIn K mainGlobals "_law_told" = some (some (.ref f35)))
    (l35 : K.lookup f35 = some ⟨oc35, od35, .func (PySem.W.fnOf "_law_told" "_law_told" (defArgs s_law_told) (defBody s_law_told) (defScope s_law_told) .none kV35 dc35 pm35 an35 cd35 ct35), sl35⟩) (c35 : PySem.W.codeIn K cd35 "_law_told" = true) (k35 : PySem.W.keepIn K (.ref f35) = true)
    (a36 : PySem.W.nsIn K mainGlobals "law" = some (some (.ref f36)))
    (l36 : K.lookup f36 = some ⟨oc36, od36, .func (PySem.W.fnOf "law" "law" (defArgs s_law) (defBody s_law) (defScope s_law) .none kV36 dc36 pm36 an36 cd36 ct36), sl36⟩) (c36 : PySem.W.codeIn K cd36 "law" = true) (k36 : PySem.W.keepIn K (.ref f36) = true)
    (z_len : PySem.W.nsIn K mainGlobals "len" = some none)
    (z_range : PySem.W.nsIn K mainGlobals "range" = some none)
    (z_int : PySem.W.nsIn K mainGlobals "int" = some none)
    (z_min : PySem.W.nsIn K mainGlobals "min" = some none)
    (z_list : PySem.W.nsIn K mainGlobals "list" = some none)
    (z_dict : PySem.W.nsIn K mainGlobals "dict" = some none)
    (z_tuple : PySem.W.nsIn K mainGlobals "tuple" = some none)
    (z_zip : PySem.W.nsIn K mainGlobals "zip" = some none)
    (z_all : PySem.W.nsIn K mainGlobals "all" = some none)
    (z_sum : PySem.W.nsIn K mainGlobals "sum" = some none)
    (z_isinstance : PySem.W.nsIn K mainGlobals "isinstance" = some none) :
    ∃ fd : FuncData, (∀ (s : Shared) (v : Value), BindsTo s fd ⟨[v], []⟩ [("script", v)]) ∧ ∀ base : Heap, K.In base → base.Ns mainGlobals mg → FnG l.prog w K mg base CX0 8 fa fd ["script"] (spS 1 (P_law K)) := by
  have e := hfa.symm.trans (PySem.W.mg_of X G a36)
  cases e
  obtain ⟨cs, rfl, rfl⟩ : ∃ cs : Str → Addr, C_MovedyearsError = cs "MovedyearsError" ∧ C_UnknownFact = cs "UnknownFact" := ⟨fun n_ => if n_ = ("MovedyearsError" : Str) then C_MovedyearsError else C_UnknownFact, (Eq.symm (if_pos rfl)), (Eq.symm (if_neg (by decide)))⟩
  have gX_MovedyearsError := PySem.W.mg_of X G aC_MovedyearsError
  have gX_UnknownFact := PySem.W.mg_of X G aC_UnknownFact
  have xm_MovedyearsError : ∀ c ∈ (["UnknownFact"] : List Str), PySem.W.exmOne K (.ref (cs c)) (.ref (cs "MovedyearsError")) = some (isX c "MovedyearsError") := (fun c_ hc_ => by simp only [List.mem_cons, List.not_mem_nil, or_false] at hc_; subst hc_; exact PySem.W.exm_ref bC_MovedyearsError hd_MovedyearsError tC_MovedyearsError xs_UnknownFact_MovedyearsError)
  have xe : ∀ c ∈ (["UnknownFact"] : List Str), ExI K (cs c) := (fun c_ hc_ => by simp only [List.mem_cons, List.not_mem_nil, or_false] at hc_; subst hc_; exact ⟨ci_UnknownFact, ga_UnknownFact, gg_UnknownFact, bC_UnknownFact, hc_UnknownFact, sp_, tk_, ho_UnknownFact⟩)
  have xk_UnknownFact : ∀ c ∈ (["UnknownFact"] : List Str), PySem.W.kitOne K (.ref (cs c)) (.ref (cs "UnknownFact")) = some (isX c "UnknownFact") := (fun c_ hc_ => by simp only [List.mem_cons, List.not_mem_nil, or_false] at hc_; subst hc_; exact xk_UnknownFact_UnknownFact)
  have xf : ∀ c ∈ (["UnknownFact"] : List Str), XfC K (cs c) := (fun c_ hc_ => by simp only [List.mem_cons, List.not_mem_nil, or_false] at hc_; subst hc_; exact ⟨ga_UnknownFact, gg_UnknownFact, bC_UnknownFact, hd_UnknownFact⟩)
  have xn_fact : ∀ c ∈ (["UnknownFact"] : List Str), PySem.W.findIn K (.ref (cs c)) "fact" = some none := (fun c_ hc_ => by simp only [List.mem_cons, List.not_mem_nil, or_false] at hc_; subst hc_; exact nf_UnknownFact_fact)
  have cl_Machine : Cls K C_Machine := ⟨pg_Machine, hd_Machine, po_Machine, sa_Machine⟩
  have cl_Rules : Cls K C_Rules := ⟨pg_Rules, hd_Rules, po_Rules, sa_Rules⟩
  have F0 := fun_mk (st := s_check_facts) l0 c0 k0
  have B0 := F0.binds (ps := ["machine", "career"]) fun _ _ _ _ _ _ us hl => match us, hl with | [_, _], _ => rfl
  have D0 : DefAt K mg "check_facts" s_check_facts ["machine", "career"] := ⟨_, _, F0, PySem.W.mg_of X G a0, B0⟩
  have F1 := fun_mk (st := s_states_along) l1 c1 k1
  have B1 := F1.binds (ps := ["machine", "state", "career"]) fun _ _ _ _ _ _ us hl => match us, hl with | [_, _, _], _ => rfl
  have D1 : DefAt K mg "states_along" s_states_along ["machine", "state", "career"] := ⟨_, _, F1, PySem.W.mg_of X G a1, B1⟩
  have F2 := fun_mk (st := s_state_after) l2 c2 k2
  have B2 := F2.binds (ps := ["machine", "state", "career"]) fun _ _ _ _ _ _ us hl => match us, hl with | [_, _, _], _ => rfl
  have D2 : DefAt K mg "state_after" s_state_after ["machine", "state", "career"] := ⟨_, _, F2, PySem.W.mg_of X G a2, B2⟩
  have F3 := fun_mk (st := s_gains_of) l3 c3 k3
  have B3 := F3.binds (ps := ["machine", "state", "career"]) fun _ _ _ _ _ _ us hl => match us, hl with | [_, _, _], _ => rfl
  have D3 : DefAt K mg "gains_of" s_gains_of ["machine", "state", "career"] := ⟨_, _, F3, PySem.W.mg_of X G a3, B3⟩
  have F4 := fun_mk (st := s_total) l4 c4 k4
  have B4 := F4.binds (ps := ["machine", "state", "career"]) fun _ _ _ _ _ _ us hl => match us, hl with | [_, _, _], _ => rfl
  have D4 : DefAt K mg "total" s_total ["machine", "state", "career"] := ⟨_, _, F4, PySem.W.mg_of X G a4, B4⟩
  have F5 := fun_mk (st := s_passes) l5 c5 k5
  have B5 := F5.binds (ps := ["test", "counts"]) fun _ _ _ _ _ _ us hl => match us, hl with | [_, _], _ => rfl
  have D5 : DefAt K mg "passes" s_passes ["test", "counts"] := ⟨_, _, F5, PySem.W.mg_of X G a5, B5⟩
  have F6 := fun_mk (st := s_holds) l6 c6 k6
  have B6 := F6.binds (ps := ["condition", "counts"]) fun _ _ _ _ _ _ us hl => match us, hl with | [_, _], _ => rfl
  have D6 : DefAt K mg "holds" s_holds ["condition", "counts"] := ⟨_, _, F6, PySem.W.mg_of X G a6, B6⟩
  have F7 := fun_mk (st := s_Machine_init) l7 c7 k7
  have B7 := F7.binds (ps := ["self", "facts", "step", "gain", "leave"]) fun _ _ _ _ _ _ us hl => match us, hl with | [_, _, _, _, _], _ => rfl
  have F8 := fun_mk (st := s_Machine_many) l8 c8 k8
  have B8 := F8.binds (ps := ["self"]) fun _ _ _ _ _ _ us hl => match us, hl with | [_], _ => rfl
  have F9 := fun_mk (st := s_first_counts) l9 c9 k9
  have B9 := F9.binds (ps := ["rules"]) fun _ _ _ _ _ _ us hl => match us, hl with | [_], _ => rfl
  have D9 : DefAt K mg "first_counts" s_first_counts ["rules"] := ⟨_, _, F9, PySem.W.mg_of X G a9, B9⟩
  have F10 := fun_mk (st := s_counted_on) l10 c10 k10
  have B10 := F10.binds (ps := ["counter", "value", "fact"]) fun _ _ _ _ _ _ us hl => match us, hl with | [_, _, _], _ => rfl
  have D10 : DefAt K mg "counted_on" s_counted_on ["counter", "value", "fact"] := ⟨_, _, F10, PySem.W.mg_of X G a10, B10⟩
  have F11 := fun_mk (st := s_year_counts) l11 c11 k11
  have B11 := F11.binds (ps := ["rules", "counts", "fact"]) fun _ _ _ _ _ _ us hl => match us, hl with | [_, _, _], _ => rfl
  have D11 : DefAt K mg "year_counts" s_year_counts ["rules", "counts", "fact"] := ⟨_, _, F11, PySem.W.mg_of X G a11, B11⟩
  have F12 := fun_mk (st := s_paid_sum) l12 c12 k12
  have B12 := F12.binds (ps := ["payments", "counts"]) fun _ _ _ _ _ _ us hl => match us, hl with | [_, _], _ => rfl
  have D12 : DefAt K mg "paid_sum" s_paid_sum ["payments", "counts"] := ⟨_, _, F12, PySem.W.mg_of X G a12, B12⟩
  have F13 := fun_mk (st := s_year_gain) l13 c13 k13
  have B13 := F13.binds (ps := ["rules", "counts", "fact"]) fun _ _ _ _ _ _ us hl => match us, hl with | [_, _, _], _ => rfl
  have D13 : DefAt K mg "year_gain" s_year_gain ["rules", "counts", "fact"] := ⟨_, _, F13, PySem.W.mg_of X G a13, B13⟩
  have F14 := fun_mk (st := s_leave_gain) l14 c14 k14
  have B14 := F14.binds (ps := ["rules", "counts"]) fun _ _ _ _ _ _ us hl => match us, hl with | [_, _], _ => rfl
  have D14 : DefAt K mg "leave_gain" s_leave_gain ["rules", "counts"] := ⟨_, _, F14, PySem.W.mg_of X G a14, B14⟩
  have F15 := fun_mk (st := s_row_of) l15 c15 k15
  have B15 := F15.binds (ps := ["rules", "counts"]) fun _ _ _ _ _ _ us hl => match us, hl with | [_, _], _ => rfl
  have D15 : DefAt K mg "row_of" s_row_of ["rules", "counts"] := ⟨_, _, F15, PySem.W.mg_of X G a15, B15⟩
  have F16 := fun_mk (st := s_counts_of) l16 c16 k16
  have B16 := F16.binds (ps := ["rules", "row"]) fun _ _ _ _ _ _ us hl => match us, hl with | [_, _], _ => rfl
  have D16 : DefAt K mg "counts_of" s_counts_of ["rules", "row"] := ⟨_, _, F16, PySem.W.mg_of X G a16, B16⟩
  have F17 := fun_mk (st := s_place_of) l17 c17 k17
  have B17 := F17.binds (ps := ["key", "met", "places"]) fun _ _ _ _ _ _ us hl => match us, hl with | [_, _, _], _ => rfl
  have D17 : DefAt K mg "place_of" s_place_of ["key", "met", "places"] := ⟨_, _, F17, PySem.W.mg_of X G a17, B17⟩
  have F18 := fun_mk (st := s_add_states) l18 c18 k18
  have B18 := F18.binds (ps := ["rules", "machine", "met", "places"]) fun _ _ _ _ _ _ us hl => match us, hl with | [_, _, _, _], _ => rfl
  have D18 : DefAt K mg "add_states" s_add_states ["rules", "machine", "met", "places"] := ⟨_, _, F18, PySem.W.mg_of X G a18, B18⟩
  have F19 : Sl.FunV K "made" "made" s_made f19 _ := ⟨⟨_, _, _, _, _, _, _, _, _, _, rfl, l19, c19⟩, k19⟩
  have G19 : FunD K "made" "made" (defArgs s_made) (defBody s_made) (defScope s_made) [.ref C_df_made] [] f19 _ := ⟨⟨_, _, _, _, _, _, _, _, _, _, rfl, l19, c19, .inr ⟨by simp, _, _, [.ref C_df_made], _, rfl, lt19, rfl, .cons rfl .nil⟩, .inl rfl⟩, k19⟩
  obtain ⟨ds19, vd19, B19⟩ := G19.binds1 (ps := ["rules", "more"]) 1 0 (by simp) rfl fun _ _ _ _ _ _ _ us its h1 h2 => match us, its, h1, h2 with | [_], [_], _, _ => ⟨_, rfl, rfl⟩
  have Ke_df_made : ∀ H : Hp, SqT K H C_df_made [] := fun H => .inr ⟨_, #[], _, lu19, rfl, rfl, by decide, .nil⟩
  have F20 := fun_mk (st := s_Rules_init) l20 c20 k20
  have B20 := F20.binds (ps := ["self", "facts", "counters", "gains", "leaves"]) fun _ _ _ _ _ _ us hl => match us, hl with | [_, _, _, _, _], _ => rfl
  have F21 := fun_mk (st := s_Rules_names) l21 c21 k21
  have B21 := F21.binds (ps := ["self"]) fun _ _ _ _ _ _ us hl => match us, hl with | [_], _ => rfl
  have F22 := fun_mk (st := s_law_cell) l22 c22 k22
  have B22 := F22.binds (ps := ["script", "k"]) fun _ _ _ _ _ _ us hl => match us, hl with | [_, _], _ => rfl
  have D22 : DefAt K mg "_law_cell" s_law_cell ["script", "k"] := ⟨_, _, F22, PySem.W.mg_of X G a22, B22⟩
  have F23 := fun_mk (st := s_law_digits) l23 c23 k23
  have B23 := F23.binds (ps := ["script", "first", "last"]) fun _ _ _ _ _ _ us hl => match us, hl with | [_, _, _], _ => rfl
  have D23 : DefAt K mg "_law_digits" s_law_digits ["script", "first", "last"] := ⟨_, _, F23, PySem.W.mg_of X G a23, B23⟩
  have F24 := fun_mk (st := s_law_draw) l24 c24 k24
  have B24 := F24.binds (ps := ["box", "many"]) fun _ _ _ _ _ _ us hl => match us, hl with | [_, _], _ => rfl
  have D24 : DefAt K mg "_law_draw" s_law_draw ["box", "many"] := ⟨_, _, F24, PySem.W.mg_of X G a24, B24⟩
  have F25 := fun_mk (st := s_law_condition) l25 c25 k25
  have B25 := F25.binds (ps := ["box", "names"]) fun _ _ _ _ _ _ us hl => match us, hl with | [_, _], _ => rfl
  have D25 : DefAt K mg "_law_condition" s_law_condition ["box", "names"] := ⟨_, _, F25, PySem.W.mg_of X G a25, B25⟩
  have F26 := fun_mk (st := s_law_amount) l26 c26 k26
  have B26 := F26.binds (ps := ["box"]) fun _ _ _ _ _ _ us hl => match us, hl with | [_], _ => rfl
  have D26 : DefAt K mg "_law_amount" s_law_amount ["box"] := ⟨_, _, F26, PySem.W.mg_of X G a26, B26⟩
  have F27 := fun_mk (st := s_law_facts) l27 c27 k27
  have B27 := F27.binds (ps := ["box"]) fun _ _ _ _ _ _ us hl => match us, hl with | [_], _ => rfl
  have D27 : DefAt K mg "_law_facts" s_law_facts ["box"] := ⟨_, _, F27, PySem.W.mg_of X G a27, B27⟩
  have F28 := fun_mk (st := s_law_counters) l28 c28 k28
  have B28 := F28.binds (ps := ["box", "facts"]) fun _ _ _ _ _ _ us hl => match us, hl with | [_, _], _ => rfl
  have D28 : DefAt K mg "_law_counters" s_law_counters ["box", "facts"] := ⟨_, _, F28, PySem.W.mg_of X G a28, B28⟩
  have F29 := fun_mk (st := s_law_scheme) l29 c29 k29
  have B29 := F29.binds (ps := ["box", "facts"]) fun _ _ _ _ _ _ us hl => match us, hl with | [_, _], _ => rfl
  have D29 : DefAt K mg "_law_scheme" s_law_scheme ["box", "facts"] := ⟨_, _, F29, PySem.W.mg_of X G a29, B29⟩
  have F30 := fun_mk (st := s_law_holds) l30 c30 k30
  have B30 := F30.binds (ps := ["condition", "counts"]) fun _ _ _ _ _ _ us hl => match us, hl with | [_, _], _ => rfl
  have D30 : DefAt K mg "_law_holds" s_law_holds ["condition", "counts"] := ⟨_, _, F30, PySem.W.mg_of X G a30, B30⟩
  have F31 := fun_mk (st := s_law_year) l31 c31 k31
  have B31 := F31.binds (ps := ["scheme", "counts", "fact"]) fun _ _ _ _ _ _ us hl => match us, hl with | [_, _, _], _ => rfl
  have D31 : DefAt K mg "_law_year" s_law_year ["scheme", "counts", "fact"] := ⟨_, _, F31, PySem.W.mg_of X G a31, B31⟩
  have F32 := fun_mk (st := s_law_gain) l32 c32 k32
  have B32 := F32.binds (ps := ["scheme", "counts", "fact"]) fun _ _ _ _ _ _ us hl => match us, hl with | [_, _, _], _ => rfl
  have D32 : DefAt K mg "_law_gain" s_law_gain ["scheme", "counts", "fact"] := ⟨_, _, F32, PySem.W.mg_of X G a32, B32⟩
  have F33 := fun_mk (st := s_law_leave) l33 c33 k33
  have B33 := F33.binds (ps := ["scheme", "counts"]) fun _ _ _ _ _ _ us hl => match us, hl with | [_, _], _ => rfl
  have D33 : DefAt K mg "_law_leave" s_law_leave ["scheme", "counts"] := ⟨_, _, F33, PySem.W.mg_of X G a33, B33⟩
  have F34 := fun_mk (st := s_law_career) l34 c34 k34
  have B34 := F34.binds (ps := ["box", "facts", "most"]) fun _ _ _ _ _ _ us hl => match us, hl with | [_, _, _], _ => rfl
  have D34 : DefAt K mg "_law_career" s_law_career ["box", "facts", "most"] := ⟨_, _, F34, PySem.W.mg_of X G a34, B34⟩
  have F35 := fun_mk (st := s_law_told) l35 c35 k35
  have B35 := F35.binds (ps := ["way", "machine", "state", "career"]) fun _ _ _ _ _ _ us hl => match us, hl with | [_, _, _, _], _ => rfl
  have D35 : DefAt K mg "_law_told" s_law_told ["way", "machine", "state", "career"] := ⟨_, _, F35, PySem.W.mg_of X G a35, B35⟩
  have F36 := fun_mk (st := s_law) l36 c36 k36
  have B36 := F36.binds (ps := ["script"]) fun _ _ _ _ _ _ us hl => match us, hl with | [_], _ => rfl
  have D36 : DefAt K mg "law" s_law ["script"] := ⟨_, _, F36, PySem.W.mg_of X G a36, B36⟩
  have m_len := PySem.W.mg_none_of X G z_len
  have m_range := PySem.W.mg_none_of X G z_range
  have m_int := PySem.W.mg_none_of X G z_int
  have m_min := PySem.W.mg_none_of X G z_min
  have m_list := PySem.W.mg_none_of X G z_list
  have m_dict := PySem.W.mg_none_of X G z_dict
  have m_tuple := PySem.W.mg_none_of X G z_tuple
  have m_zip := PySem.W.mg_none_of X G z_zip
  have m_all := PySem.W.mg_none_of X G z_all
  have m_sum := PySem.W.mg_none_of X G z_sum
  have m_isinstance := PySem.W.mg_none_of X G z_isinstance
  refine ⟨PySem.W.fnOf "law" "law" (defArgs s_law) (defBody s_law) (defScope s_law) .none kV36 dc36 pm36 an36 cd36 ct36, fun s v => .of_eq rfl, fun base _ _ => ?_⟩
  have gF_states_along := PySem.W.mg_of X G a1
  have gF_state_after := PySem.W.mg_of X G a2
  have gF_gains_of := PySem.W.mg_of X G a3
  have gF_total := PySem.W.mg_of X G a4
  obtain ⟨fd_UnknownFact, Fi_UnknownFact, Bi_UnknownFact⟩ := ini_1 (P := l.prog) (w := w) (base := base) (mg := mg) (C := cs "UnknownFact") ⟨⟨_, _, _, _, _, _, _, _, lf_UnknownFact⟩, cf_UnknownFact, ⟨⟨⟨_, _, _, _, _, _, _, _, _, _, _, _, _, _, _, xL_UnknownFact, rv_UnknownFact⟩, sa_UnknownFact, bC_UnknownFact, tC_UnknownFact, kC_UnknownFact⟩, ⟨_, _, _, _, _, _, lc_UnknownFact, lv_UnknownFact, fl_UnknownFact⟩, ⟨_, _, _, le_UnknownFact⟩, mr_UnknownFact, PySem.W.mg_none_of X G z_super, opq, nx_UnknownFact, ve_UnknownFact, top_⟩⟩ sup_UnknownFact rfl rfl (fun _ => ⟨_, rfl⟩) (fun _ _ _ _ _ _ us_ _ hl_ => match us_, hl_ with | [_, _], _ => .of_eq rfl) nf_UnknownFact_fact (by decide) rfl rfl (fun X_ hn_ => ⟨_, (.con (by decide +kernel) (.fmt (by decide) (by decide) (hn_ 1 _ _ rfl (by decide)) .nil))⟩) rfl rfl
  have M_UnknownFact : ExMk l.prog w K mg base "UnknownFact" (cs "UnknownFact") ["fact"] := ⟨PySem.W.mg_of X G aC_UnknownFact, ⟨⟨_, _, _, _, _, _, _, _, _, _, _, _, _, _, _, xL_UnknownFact, rv_UnknownFact⟩, sa_UnknownFact, bC_UnknownFact, tC_UnknownFact, kC_UnknownFact⟩, f_UnknownFact, fd_UnknownFact, iC_UnknownFact, tf1_UnknownFact, Fi_UnknownFact, Bi_UnknownFact⟩
  have C_law_cell : CalG l.prog w K mg base CX0 1 "_law_cell" ["script", "k"] (spS 2 (P_law_cell K)) := Sl.DefAt.cal D22 fun f0 fd F => ok_law_cell (P := l.prog) (w := w) (base := base) m_len F
  have C_law_digits : CalG l.prog w K mg base CX0 2 "_law_digits" ["script", "first", "last"] (spS 3 (P_law_digits K)) := Sl.DefAt.cal D23 fun f0 fd F => ok_law_digits (P := l.prog) (w := w) (base := base) m_range C_law_cell m_int F
  have C_law_draw : CalG l.prog w K mg base CX0 1 "_law_draw" ["box", "many"] (spS 2 P_law_draw) := Sl.DefAt.cal D24 fun f0 fd F => ok_law_draw (P := l.prog) (w := w) (base := base) m_len m_int F
  have C_law_counters : CalG l.prog w K mg base CX0 2 "_law_counters" ["box", "facts"] (spS 2 P_law_counters) := Sl.DefAt.cal D28 fun f0 fd F => ok_law_counters (P := l.prog) (w := w) (base := base) C_law_draw m_range m_min F
  have C_law_amount : CalG l.prog w K mg base CX0 2 "_law_amount" ["box"] (spS 1 P_law_amount) := Sl.DefAt.cal D26 fun f0 fd F => ok_law_amount (P := l.prog) (w := w) (base := base) C_law_draw m_int F
  have C_law_condition : CalG l.prog w K mg base CX0 2 "_law_condition" ["box", "names"] (spS 2 P_law_condition) := Sl.DefAt.cal D25 fun f0 fd F => ok_law_condition (P := l.prog) (w := w) (base := base) C_law_draw m_range m_len F
  have C_law_scheme : CalG l.prog w K mg base CX0 3 "_law_scheme" ["box", "facts"] (spS 2 P_law_scheme) := Sl.DefAt.cal D29 fun f0 fd F => ok_law_scheme (P := l.prog) (w := w) (base := base) C_law_counters C_law_draw m_range C_law_amount m_len C_law_condition F
  have C_law_facts : CalG l.prog w K mg base CX0 2 "_law_facts" ["box"] (spS 1 P_law_facts) := Sl.DefAt.cal D27 fun f0 fd F => ok_law_facts (P := l.prog) (w := w) (base := base) C_law_draw F
  have M_Machine : Mkr l.prog w K mg base 1 C_Machine "Machine" ["self", "facts", "step", "gain", "leave"] (spS 5 (P_Machine_init C_Machine)) := ⟨_, _, ⟨mk_Machine, a7, i7, kc_Machine⟩, ok_Machine_init (P := l.prog) (w := w) (base := base) m_list cl_Machine na_Machine_facts m_dict na_Machine_step na_Machine_gain na_Machine_leave F7, B7, PySem.W.mg_of X G aC_Machine⟩
  have N_Rules_names : Met l.prog w K mg base 1 C_Rules "names" ["self"] (spS 1 (P_Rules_names C_Rules)) := ⟨_, _, ⟨a21, i21, k21⟩, ok_Rules_names (P := l.prog) (w := w) (base := base) cl_Rules na_Rules_counters F21, B21⟩
  have C_first_counts : CalG l.prog w K mg base CX0 2 "first_counts" ["rules"] (spS 1 (P_first_counts C_Rules)) := Sl.DefAt.cal D9 fun f0 fd F => ok_first_counts (P := l.prog) (w := w) (base := base) cl_Rules N_Rules_names F
  have C_place_of : CalG l.prog w K mg base CX0 1 "place_of" ["key", "met", "places"] (spS 3 P_place_of) := Sl.DefAt.cal D17 fun f0 fd F => ok_place_of (P := l.prog) (w := w) (base := base) m_len F
  have C_row_of : CalG l.prog w K mg base CX0 2 "row_of" ["rules", "counts"] (spS 2 (P_row_of C_Rules)) := Sl.DefAt.cal D15 fun f0 fd F => ok_row_of (P := l.prog) (w := w) (base := base) cl_Rules N_Rules_names m_tuple F
  have N_Machine_manyR : Met l.prog w K mg base 1 C_Machine "many" ["self"] (spR 1 (P_Machine_manyR C_Machine)) := ⟨_, _, ⟨a8, i8, k8⟩, ok_Machine_manyR (P := l.prog) (w := w) (base := base) cl_Machine na_Machine_leave m_len F8, B8⟩
  have C_counts_of : CalG l.prog w K mg base CX0 2 "counts_of" ["rules", "row"] (spS 2 (P_counts_of C_Rules)) := Sl.DefAt.cal D16 fun f0 fd F => ok_counts_of (P := l.prog) (w := w) (base := base) cl_Rules N_Rules_names m_dict m_zip F
  have C_counted_on : CalG l.prog w K mg base CX0 1 "counted_on" ["counter", "value", "fact"] (spS 3 P_counted_on) := Sl.DefAt.cal D10 fun f0 fd F => ok_counted_on (P := l.prog) (w := w) (base := base) m_min F
  have C_year_counts : CalG l.prog w K mg base CX0 2 "year_counts" ["rules", "counts", "fact"] (spS 3 (P_year_counts C_Rules)) := Sl.DefAt.cal D11 fun f0 fd F => ok_year_counts (P := l.prog) (w := w) (base := base) cl_Rules na_Rules_counters C_counted_on F
  have C_passes : CalG l.prog w K mg base CX0 1 "passes" ["test", "counts"] (spS 2 P_passes) := Sl.DefAt.cal D5 fun f0 fd F => ok_passes (P := l.prog) (w := w) (base := base)  F
  have C_holds : CalG l.prog w K mg base CX0 2 "holds" ["condition", "counts"] (spS 2 P_holds) := Sl.DefAt.cal D6 fun f0 fd F => ok_holds (P := l.prog) (w := w) (base := base) C_passes m_all F
  have C_paid_sum : CalG l.prog w K mg base CX0 3 "paid_sum" ["payments", "counts"] (spS 2 P_paid_sum) := Sl.DefAt.cal D12 fun f0 fd F => ok_paid_sum (P := l.prog) (w := w) (base := base) C_holds m_sum F
  have C_year_gain : CalG l.prog w K mg base CX0 4 "year_gain" ["rules", "counts", "fact"] (spS 3 (P_year_gain C_Rules)) := Sl.DefAt.cal D13 fun f0 fd F => ok_year_gain (P := l.prog) (w := w) (base := base) cl_Rules na_Rules_gains C_paid_sum F
  have C_leave_gain : CalG l.prog w K mg base CX0 4 "leave_gain" ["rules", "counts"] (spS 2 (P_leave_gain C_Rules)) := Sl.DefAt.cal D14 fun f0 fd F => ok_leave_gain (P := l.prog) (w := w) (base := base) cl_Rules na_Rules_leaves C_paid_sum F
  have C_add_states : CalG l.prog w K mg base CX0 5 "add_states" ["rules", "machine", "met", "places"] (spS 4 (P_add_states C_Machine C_Rules)) := Sl.DefAt.cal D18 fun f0 fd F => ok_add_states (P := l.prog) (w := w) (base := base) cl_Machine N_Machine_manyR m_len C_counts_of cl_Rules na_Rules_facts C_year_counts C_row_of C_place_of na_Machine_step na_Machine_gain C_year_gain na_Machine_leave C_leave_gain F
  have Cd_made : CalD l.prog w K mg base 6 "made" ["rules", "more"] (spS 2 (P_made C_Machine C_Rules C_df_made)) [.ref C_df_made] := ⟨_, _, ds19, ok_made (P := l.prog) (w := w) (base := base) cl_Rules na_Rules_facts M_Machine C_first_counts Ke_df_made C_row_of C_place_of C_add_states C_counts_of F19, PySem.W.mg_of X G a19, k19, B19, vd19⟩
  have M_Rules : Mkr l.prog w K mg base 1 C_Rules "Rules" ["self", "facts", "counters", "gains", "leaves"] (spS 5 (P_Rules_init C_Rules)) := ⟨_, _, ⟨mk_Rules, a20, i20, kc_Rules⟩, ok_Rules_init (P := l.prog) (w := w) (base := base) m_list cl_Rules na_Rules_facts na_Rules_counters na_Rules_gains na_Rules_leaves F20, B20, PySem.W.mg_of X G aC_Rules⟩
  have C_law_career : CalG l.prog w K mg base CX0 2 "_law_career" ["box", "facts", "most"] (spS 3 P_law_career) := Sl.DefAt.cal D34 fun f0 fd F => ok_law_career (P := l.prog) (w := w) (base := base) C_law_draw m_range m_len F
  have C_law_holds : CalG l.prog w K mg base CX0 1 "_law_holds" ["condition", "counts"] (spS 2 P_law_holds) := Sl.DefAt.cal D30 fun f0 fd F => ok_law_holds (P := l.prog) (w := w) (base := base)  F
  have C_law_gain : CalG l.prog w K mg base CX0 2 "_law_gain" ["scheme", "counts", "fact"] (spS 3 P_law_gain) := Sl.DefAt.cal D32 fun f0 fd F => ok_law_gain (P := l.prog) (w := w) (base := base) C_law_holds F
  have C_law_year : CalG l.prog w K mg base CX0 1 "_law_year" ["scheme", "counts", "fact"] (spS 3 P_law_year) := Sl.DefAt.cal D31 fun f0 fd F => ok_law_year (P := l.prog) (w := w) (base := base) m_min F
  have C_check_facts : CalG l.prog w K mg base CX0 1 "check_facts" ["machine", "career"] (spS 2 (P_check_facts C_Machine)) := Sl.DefAt.cal D0 fun f0 fd F => ok_check_facts (P := l.prog) (w := w) (base := base) cl_Machine na_Machine_facts F
  have C_states_along : CalG l.prog w K mg base CX0 2 "states_along" ["machine", "state", "career"] (spS 3 (P_states_along C_Machine)) := Sl.DefAt.cal D1 fun f0 fd F => ok_states_along (P := l.prog) (w := w) (base := base) C_check_facts cl_Machine na_Machine_step F
  have C_state_after : CalG l.prog w K mg base CX0 3 "state_after" ["machine", "state", "career"] (spS 3 (P_state_after C_Machine)) := Sl.DefAt.cal D2 fun f0 fd F => ok_state_after (P := l.prog) (w := w) (base := base) C_states_along F
  have C_gains_of : CalG l.prog w K mg base CX0 3 "gains_of" ["machine", "state", "career"] (spS 3 (P_gains_of C_Machine)) := Sl.DefAt.cal D3 fun f0 fd F => ok_gains_of (P := l.prog) (w := w) (base := base) C_states_along m_zip cl_Machine na_Machine_gain F
  have C_total : CalG l.prog w K mg base CX0 4 "total" ["machine", "state", "career"] (spS 3 (P_total C_Machine)) := Sl.DefAt.cal D4 fun f0 fd F => ok_total (P := l.prog) (w := w) (base := base) C_gains_of m_sum cl_Machine na_Machine_leave C_state_after F
  have C_law_leave : CalG l.prog w K mg base CX0 2 "_law_leave" ["scheme", "counts"] (spS 2 P_law_leave) := Sl.DefAt.cal D33 fun f0 fd F => ok_law_leave (P := l.prog) (w := w) (base := base) C_law_holds F
  have C_check_factsX : CalG l.prog w K mg base (L2.CX l.prog w) 3 "check_facts" ["machine", "career"] (spX 2 (P_check_factsX cs C_Machine)) := ⟨_, _, ok_check_factsX (P := l.prog) (w := w) (base := base) cl_Machine na_Machine_facts M_UnknownFact F0, PySem.W.mg_of X G a0, k0, B0⟩
  have L_states_alongX : CalL l.prog w K mg base (L2.CX l.prog w) 4 f1 ["machine", "state", "career"] (spX 3 (P_states_alongX cs C_Machine)) := ⟨_, ok_states_alongX (P := l.prog) (w := w) (base := base) C_check_factsX cl_Machine na_Machine_step F1, k1, B1⟩
  have C_states_alongX : CalG l.prog w K mg base (L2.CX l.prog w) 4 "states_along" ["machine", "state", "career"] (spX 3 (P_states_alongX cs C_Machine)) := ⟨_, _, ok_states_alongX (P := l.prog) (w := w) (base := base) C_check_factsX cl_Machine na_Machine_step F1, PySem.W.mg_of X G a1, k1, B1⟩
  have C_law_told_a : CalG l.prog w K mg base CX0 5 "_law_told" ["way", "machine", "state", "career"] (spS 4 (P_law_told_a C_Machine f1)) := Sl.DefAt.cal D35 fun f0 fd F => ok_law_told_a (P := l.prog) (w := w) (base := base) L_states_alongX gX_MovedyearsError xm_MovedyearsError xe xk_UnknownFact gX_UnknownFact m_isinstance xf xn_fact F
  have L_state_afterX : CalL l.prog w K mg base (L2.CX l.prog w) 5 f2 ["machine", "state", "career"] (spX 3 (P_state_afterX cs C_Machine)) := ⟨_, ok_state_afterX (P := l.prog) (w := w) (base := base) C_states_alongX F2, k2, B2⟩
  have C_state_afterX : CalG l.prog w K mg base (L2.CX l.prog w) 5 "state_after" ["machine", "state", "career"] (spX 3 (P_state_afterX cs C_Machine)) := ⟨_, _, ok_state_afterX (P := l.prog) (w := w) (base := base) C_states_alongX F2, PySem.W.mg_of X G a2, k2, B2⟩
  have C_law_told_b : CalG l.prog w K mg base CX0 6 "_law_told" ["way", "machine", "state", "career"] (spS 4 (P_law_told_b C_Machine f2)) := Sl.DefAt.cal D35 fun f0 fd F => ok_law_told_b (P := l.prog) (w := w) (base := base) L_state_afterX gX_MovedyearsError xm_MovedyearsError xe xk_UnknownFact gX_UnknownFact m_isinstance xf xn_fact F
  have L_gains_ofX : CalL l.prog w K mg base (L2.CX l.prog w) 5 f3 ["machine", "state", "career"] (spX 3 (P_gains_ofX cs C_Machine)) := ⟨_, ok_gains_ofX (P := l.prog) (w := w) (base := base) C_states_alongX m_zip cl_Machine na_Machine_gain F3, k3, B3⟩
  have C_gains_ofX : CalG l.prog w K mg base (L2.CX l.prog w) 5 "gains_of" ["machine", "state", "career"] (spX 3 (P_gains_ofX cs C_Machine)) := ⟨_, _, ok_gains_ofX (P := l.prog) (w := w) (base := base) C_states_alongX m_zip cl_Machine na_Machine_gain F3, PySem.W.mg_of X G a3, k3, B3⟩
  have C_law_told_c : CalG l.prog w K mg base CX0 6 "_law_told" ["way", "machine", "state", "career"] (spS 4 (P_law_told_c C_Machine f3)) := Sl.DefAt.cal D35 fun f0 fd F => ok_law_told_c (P := l.prog) (w := w) (base := base) L_gains_ofX gX_MovedyearsError xm_MovedyearsError xe xk_UnknownFact gX_UnknownFact m_isinstance xf xn_fact F
  have L_totalX : CalL l.prog w K mg base (L2.CX l.prog w) 6 f4 ["machine", "state", "career"] (spX 3 (P_totalX cs C_Machine)) := ⟨_, ok_totalX (P := l.prog) (w := w) (base := base) C_gains_ofX m_sum C_state_afterX cl_Machine na_Machine_leave F4, k4, B4⟩
  have C_totalX : CalG l.prog w K mg base (L2.CX l.prog w) 6 "total" ["machine", "state", "career"] (spX 3 (P_totalX cs C_Machine)) := ⟨_, _, ok_totalX (P := l.prog) (w := w) (base := base) C_gains_ofX m_sum C_state_afterX cl_Machine na_Machine_leave F4, PySem.W.mg_of X G a4, k4, B4⟩
  have C_law_told_d : CalG l.prog w K mg base CX0 7 "_law_told" ["way", "machine", "state", "career"] (spS 4 (P_law_told_d C_Machine f4)) := Sl.DefAt.cal D35 fun f0 fd F => ok_law_told_d (P := l.prog) (w := w) (base := base) L_totalX gX_MovedyearsError xm_MovedyearsError xe xk_UnknownFact gX_UnknownFact m_isinstance xf xn_fact F
  exact ok_law (P := l.prog) (w := w) (base := base) C_law_digits C_law_facts C_law_scheme m_min M_Rules Cd_made C_law_career C_law_draw m_int m_len C_law_gain C_law_year C_states_along C_state_after C_gains_of C_total m_sum C_law_leave gF_states_along gF_state_after gF_gains_of gF_total C_law_told_a C_law_told_b C_law_told_c C_law_told_d F36
end K06
open PySem PySem.W PyProof.Rows
set_option maxRecDepth 100000 in
set_option maxHeartbeats 0 in
theorem PySem.Challenge.cw_movedyears_k06_runs_are_sums_holds : PySem.Challenge.rw_movedyears_k06_runs_are_sums.Holds := by
  w_on; o_law; k_head; (case hw => w_witness2)
  k_fill
  refine Sl.walk_ofG (l := PySem.Challenge.rw_movedyears_k06_runs_are_sums) (n := 63) (k := 8) (x := "script") (sp := fun w => Sl.spS 1 (K06.P_law _)) rfl (by decide) rfl ⟨rfl, by decide, by decide⟩ (fun w h Y => PySem.W.kIn_of Y) ?F (fun w H a ns hl _ hS => ⟨H, [], [], [Sl.fz (Sl.tScr _) ns], Sl.fz Sl.tBool true, [], rfl, Dl.HH.init H, ⟨.ref a, [], [], [], rfl, rfl, ⟨rfl, a, rfl, hS⟩, rfl, rfl⟩, ⟨ns, true, K06.law_true ns hl, rfl, rfl, rfl⟩, fun v G' o ow' H' _ _ ⟨_, e⟩ _ => e⟩)
  case F =>
    intro w mg fa h KX G hmg
    refine' K06.all_mk KX G hmg ?aC_MovedyearsError ?bC_MovedyearsError ?tC_MovedyearsError ?hd_MovedyearsError ?aC_UnknownFact ?bC_UnknownFact ?tC_UnknownFact ?hd_UnknownFact ?xL_UnknownFact ?rv_UnknownFact ?sa_UnknownFact ?kC_UnknownFact ?iC_UnknownFact ?tf1_UnknownFact ?lf_UnknownFact ?cf_UnknownFact ?lc_UnknownFact ?lv_UnknownFact ?fl_UnknownFact ?le_UnknownFact ?mr_UnknownFact ?nx_UnknownFact ?ve_UnknownFact ?nf_UnknownFact_fact ?z_super ?opq ?top_ ?xs_UnknownFact_MovedyearsError ?ga_UnknownFact ?gg_UnknownFact ?ci_UnknownFact ?hc_UnknownFact ?ho_UnknownFact ?sp_ ?tk_ ?xk_UnknownFact_UnknownFact ?aC_Machine ?pg_Machine ?hd_Machine ?po_Machine ?sa_Machine ?mk_Machine ?kc_Machine ?aC_Rules ?pg_Rules ?hd_Rules ?po_Rules ?sa_Rules ?mk_Rules ?kc_Rules ?na_Machine_facts ?na_Machine_step ?na_Machine_gain ?na_Machine_leave ?na_Rules_counters ?na_Rules_gains ?na_Rules_leaves ?na_Rules_facts ?a0 ?l0 ?c0 ?k0 ?a1 ?l1 ?c1 ?k1 ?a2 ?l2 ?c2 ?k2 ?a3 ?l3 ?c3 ?k3 ?a4 ?l4 ?c4 ?k4 ?a5 ?l5 ?c5 ?k5 ?a6 ?l6 ?c6 ?k6 ?a7 ?i7 ?l7 ?c7 ?k7 ?a8 ?i8 ?l8 ?c8 ?k8 ?a9 ?l9 ?c9 ?k9 ?a10 ?l10 ?c10 ?k10 ?a11 ?l11 ?c11 ?k11 ?a12 ?l12 ?c12 ?k12 ?a13 ?l13 ?c13 ?k13 ?a14 ?l14 ?c14 ?k14 ?a15 ?l15 ?c15 ?k15 ?a16 ?l16 ?c16 ?k16 ?a17 ?l17 ?c17 ?k17 ?a18 ?l18 ?c18 ?k18 ?a19 ?l19 ?c19 ?k19 ?lt19 ?lu19 ?a20 ?i20 ?l20 ?c20 ?k20 ?a21 ?i21 ?l21 ?c21 ?k21 ?a22 ?l22 ?c22 ?k22 ?a23 ?l23 ?c23 ?k23 ?a24 ?l24 ?c24 ?k24 ?a25 ?l25 ?c25 ?k25 ?a26 ?l26 ?c26 ?k26 ?a27 ?l27 ?c27 ?k27 ?a28 ?l28 ?c28 ?k28 ?a29 ?l29 ?c29 ?k29 ?a30 ?l30 ?c30 ?k30 ?a31 ?l31 ?c31 ?k31 ?a32 ?l32 ?c32 ?k32 ?a33 ?l33 ?c33 ?k33 ?a34 ?l34 ?c34 ?k34 ?a35 ?l35 ?c35 ?k35 ?a36 ?l36 ?c36 ?k36 ?z_len ?z_range ?z_int ?z_min ?z_list ?z_dict ?z_tuple ?z_zip ?z_all ?z_sum ?z_isinstance
    (case aC_MovedyearsError => k_is)
    (case bC_MovedyearsError => k_is)
    (case tC_MovedyearsError => k_is)
    (case hd_MovedyearsError => k_is)
    (case aC_UnknownFact => k_is)
    (case bC_UnknownFact => k_is)
    (case tC_UnknownFact => k_is)
    (case hd_UnknownFact => k_is)
    (case xL_UnknownFact => k_is)
    (case rv_UnknownFact => rfl)
    (case sa_UnknownFact => k_is)
    (case kC_UnknownFact => k_is)
    (case iC_UnknownFact => k_is)
    (case tf1_UnknownFact => k_is)
    (case lf_UnknownFact => k_is)
    (case cf_UnknownFact => k_is)
    (case lc_UnknownFact => k_is)
    (case lv_UnknownFact => rfl)
    (case fl_UnknownFact => decide +kernel)
    (case le_UnknownFact => k_is)
    (case mr_UnknownFact => k_is)
    (case nx_UnknownFact => ks_is)
    (case ve_UnknownFact => k_is)
    (case nf_UnknownFact_fact => k_is)
    (case z_super => k_is)
    (case opq => k_is)
    (case top_ => decide +kernel)
    (case xs_UnknownFact_MovedyearsError => k_is)
    (case ga_UnknownFact => k_is)
    (case gg_UnknownFact => k_is)
    (case ci_UnknownFact => k_is)
    (case hc_UnknownFact => k_is)
    (case ho_UnknownFact => k_is)
    (case sp_ => k_is)
    (case tk_ => k_is)
    (case xk_UnknownFact_UnknownFact => (first | k_is | kit_is))
    (case aC_Machine => k_is)
    (case pg_Machine => k_is)
    (case hd_Machine => k_is)
    (case po_Machine => k_is)
    (case sa_Machine => k_is)
    (case mk_Machine => k_is)
    (case kc_Machine => k_is)
    (case aC_Rules => k_is)
    (case pg_Rules => k_is)
    (case hd_Rules => k_is)
    (case po_Rules => k_is)
    (case sa_Rules => k_is)
    (case mk_Rules => k_is)
    (case kc_Rules => k_is)
    (case na_Machine_facts => k_is)
    (case na_Machine_step => k_is)
    (case na_Machine_gain => k_is)
    (case na_Machine_leave => k_is)
    (case na_Rules_counters => k_is)
    (case na_Rules_gains => k_is)
    (case na_Rules_leaves => k_is)
    (case na_Rules_facts => k_is)
    (case a0 => k_is)
    (case l0 => k_is)
    (case c0 => k_is)
    (case k0 => k_is)
    (case a1 => k_is)
    (case l1 => k_is)
    (case c1 => k_is)
    (case k1 => k_is)
    (case a2 => k_is)
    (case l2 => k_is)
    (case c2 => k_is)
    (case k2 => k_is)
    (case a3 => k_is)
    (case l3 => k_is)
    (case c3 => k_is)
    (case k3 => k_is)
    (case a4 => k_is)
    (case l4 => k_is)
    (case c4 => k_is)
    (case k4 => k_is)
    (case a5 => k_is)
    (case l5 => k_is)
    (case c5 => k_is)
    (case k5 => k_is)
    (case a6 => k_is)
    (case l6 => k_is)
    (case c6 => k_is)
    (case k6 => k_is)
    (case a7 => k_is)
    (case i7 => k_is)
    (case l7 => k_is)
    (case c7 => k_is)
    (case k7 => k_is)
    (case a8 => k_is)
    (case i8 => k_is)
    (case l8 => k_is)
    (case c8 => k_is)
    (case k8 => k_is)
    (case a9 => k_is)
    (case l9 => k_is)
    (case c9 => k_is)
    (case k9 => k_is)
    (case a10 => k_is)
    (case l10 => k_is)
    (case c10 => k_is)
    (case k10 => k_is)
    (case a11 => k_is)
    (case l11 => k_is)
    (case c11 => k_is)
    (case k11 => k_is)
    (case a12 => k_is)
    (case l12 => k_is)
    (case c12 => k_is)
    (case k12 => k_is)
    (case a13 => k_is)
    (case l13 => k_is)
    (case c13 => k_is)
    (case k13 => k_is)
    (case a14 => k_is)
    (case l14 => k_is)
    (case c14 => k_is)
    (case k14 => k_is)
    (case a15 => k_is)
    (case l15 => k_is)
    (case c15 => k_is)
    (case k15 => k_is)
    (case a16 => k_is)
    (case l16 => k_is)
    (case c16 => k_is)
    (case k16 => k_is)
    (case a17 => k_is)
    (case l17 => k_is)
    (case c17 => k_is)
    (case k17 => k_is)
    (case a18 => k_is)
    (case l18 => k_is)
    (case c18 => k_is)
    (case k18 => k_is)
    (case a19 => k_is)
    (case l19 => k_is)
    (case c19 => k_is)
    (case k19 => k_is)
    (case lt19 => k_is)
    (case lu19 => k_is)
    (case a20 => k_is)
    (case i20 => k_is)
    (case l20 => k_is)
    (case c20 => k_is)
    (case k20 => k_is)
    (case a21 => k_is)
    (case i21 => k_is)
    (case l21 => k_is)
    (case c21 => k_is)
    (case k21 => k_is)
    (case a22 => k_is)
    (case l22 => k_is)
    (case c22 => k_is)
    (case k22 => k_is)
    (case a23 => k_is)
    (case l23 => k_is)
    (case c23 => k_is)
    (case k23 => k_is)
    (case a24 => k_is)
    (case l24 => k_is)
    (case c24 => k_is)
    (case k24 => k_is)
    (case a25 => k_is)
    (case l25 => k_is)
    (case c25 => k_is)
    (case k25 => k_is)
    (case a26 => k_is)
    (case l26 => k_is)
    (case c26 => k_is)
    (case k26 => k_is)
    (case a27 => k_is)
    (case l27 => k_is)
    (case c27 => k_is)
    (case k27 => k_is)
    (case a28 => k_is)
    (case l28 => k_is)
    (case c28 => k_is)
    (case k28 => k_is)
    (case a29 => k_is)
    (case l29 => k_is)
    (case c29 => k_is)
    (case k29 => k_is)
    (case a30 => k_is)
    (case l30 => k_is)
    (case c30 => k_is)
    (case k30 => k_is)
    (case a31 => k_is)
    (case l31 => k_is)
    (case c31 => k_is)
    (case k31 => k_is)
    (case a32 => k_is)
    (case l32 => k_is)
    (case c32 => k_is)
    (case k32 => k_is)
    (case a33 => k_is)
    (case l33 => k_is)
    (case c33 => k_is)
    (case k33 => k_is)
    (case a34 => k_is)
    (case l34 => k_is)
    (case c34 => k_is)
    (case k34 => k_is)
    (case a35 => k_is)
    (case l35 => k_is)
    (case c35 => k_is)
    (case k35 => k_is)
    (case a36 => k_is)
    (case l36 => k_is)
    (case c36 => k_is)
    (case k36 => k_is)
    (case z_len => k_is)
    (case z_range => k_is)
    (case z_int => k_is)
    (case z_min => k_is)
    (case z_list => k_is)
    (case z_dict => k_is)
    (case z_tuple => k_is)
    (case z_zip => k_is)
    (case z_all => k_is)
    (case z_sum => k_is)
    (case z_isinstance => k_is)

