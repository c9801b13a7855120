import PyProof.Rows.All
import Wide.All
import OpenK.AllK
import Wide.FinOn
import HandS.ForMost
import HandS.Zip
import HandS.Conv
import HandS.TupAny
import HandS.TupLe
import HandS.Wide
import HandS.Style
import HandS.IsInst
import HandS.Flow
import HandS.More
import HandS.Walk
import HandS.MakeKwOnly
import HandS.Evl
import HandS.TupSets
import HandS.TupMul
import HandS.Deep
import HandS.SortKw
import KE.DataMinMax
import PyProof.P3Eq
import PySem.Challenge.RW_deltamill_k04_whole_folds_part_exactly
set_option Elab.async false
set_option linter.all false
set_option maxRecDepth 100000
set_option maxHeartbeats 8000000
/-! The common layer of the laws about deltamill: defs by name, moments, pots. -/
namespace L2
open PySem PySem.Spec PyProof.Rows

/-! ### defs by name -/
/-- the def x stands behind the top -/
def Top (K : PySem.W.Frag) (mg : Str → Option Value) (x : Str) (st : Stmt) (ps : List Str) : Prop :=
  ∃ (f : Addr) (fd : FuncData), Fun K x x st f fd ∧ mg x = some (.ref f) ∧ Binds K fd ps []
/-- the def x keeps the promise sp -/
def Def (P : Program) (w : World) (K : PySem.W.Frag) (mg : Str → Option Value) (base : Heap) (x : Str) (k : Nat) (ps : List Str) (sp : Sp) : Prop :=
  ∃ (f : Addr) (fd : FuncData), FnOk P w K mg base CX0 k f fd ps sp ∧ mg x = some (.ref f) ∧ PySem.W.keepIn K (.ref f) = true ∧ Binds K fd ps [] ∧ ∃ (oc : Value) (od : Option Addr) (osl : Array (Option Value)), K.lookup f = some ⟨oc, od, .func fd, osl⟩
/-- .. and is called by keywords -/
def DefK (P : Program) (w : World) (K : PySem.W.Frag) (mg : Str → Option Value) (base : Heap) (x : Str) (k : Nat) (ps ks : List Str) (gV : List V → List V → List V) (sp : Sp) : Prop :=
  ∃ (f : Addr) (fd : FuncData) (g : List Value → List Value → List Value), FnOk P w K mg base CX0 k f fd ps sp ∧ mg x = some (.ref f) ∧ PySem.W.keepIn K (.ref f) = true ∧ KBinds K fd ps ks g gV
def TopK (K : PySem.W.Frag) (mg : Str → Option Value) (x : Str) (st : Stmt) (ps ks : List Str) (gV : List V → List V → List V) : Prop :=
  ∃ (f : Addr) (fd : FuncData) (g : List Value → List Value → List Value), Fun K x x st f fd ∧ mg x = some (.ref f) ∧ KBinds K fd ps ks g gV
section
variable {P : Program} {w : World} {K : PySem.W.Frag} {mg : Str → Option Value} {base : Heap} {x : Str} {st : Stmt} {ps N : List Str} {k : Nat} {sp : Sp}
theorem mk_def (T : Top K mg x st ps) (S : FnScope N ps (defScope st)) (len : ∀ vs H Q E, sp vs H Q E → vs.length = ps.length)
    (hbody : ∀ (f : Addr) (cdv : Value) (A : Around) (outer : List Env) (s : Shared) (H : Hp) (vs : List V) (Q : VK) (E : XK), Room k (A.deeper (envOfC x (defScope st) s.heap.objs.size f cdv)) → sp vs H Q E →
      ∃ t, PSs (cxOf CX0 P w K mg base N x (defScope st) f cdv A outer s H E).nox (defBody st) t ∧ t { nx := fun _ H' => Q .non H', rt := Q } (start N vs) H) :
    Def P w K mg base x (k + 1) ps sp := by
  obtain ⟨f, fd, F, g, b⟩ := T
  obtain ⟨oc, _, _, _, _, _, _, _, osl, _, lk, _⟩ := id F.ex
  exact ⟨f, fd, F.ok S len (hbody f), g, F.kp, b, _, _, _, lk⟩
theorem Def.kw {ks : List Str} {gV : List V → List V → List V} (D : Def P w K mg base x k ps sp) (T : TopK K mg x st ps ks gV) : DefK P w K mg base x k ps ks gV sp := by
  obtain ⟨f, fd, F, g, kp, _, _, _, _, lk⟩ := D
  obtain ⟨f', fd', g', F', m', b'⟩ := T
  obtain rfl : f' = f := Value.ref.inj (Option.some.inj (m'.symm.trans g))
  obtain ⟨oc, _, _, _, _, _, _, _, osl, _, lk', _⟩ := id F'.ex
  rw [lk] at lk'
  cases lk'
  exact ⟨f', fd, g', F, g, kp, b'⟩
theorem Def.mono {j : Nat} (h : Def P w K mg base x j ps sp) (hk : j ≤ k) : Def P w K mg base x k ps sp := by
  obtain ⟨f, fd, F, r⟩ := h
  exact ⟨f, fd, F.mono hk, r⟩
end
section
variable {X : Cx} {x : Str} {k : Nat} {ps : List Str} {sp : Sp} {p pos : Pos} {e : Expr} {es : List Expr} {t : TA}
/-- f(e, ..) -/
theorem pe_def (D : Def X.prog X.w X.K X.mg X.base x k ps sp) (hr : Room k X.A) (hg : Gl X x) (ha : PA X (e :: es) t) (hdb : (x == ("__debug__" : Str)) = false := by decide)
    (he : starEach (e :: es) X.env = (false, eval e X.env) :: starEach es X.env := by rfl) (hpl : (backTo pos (starEach es X.env)).any (·.1) = false := by rfl) :
    PE X (.Call (.Name x p) (e :: es) [] pos) (tCall sp [] E0 t) := by
  obtain ⟨f, fd, F, g, kp, b, _⟩ := D
  exact pe_call F hr hg g kp b .nil pass0 ha hdb he hpl
/-- f(k = v, ..) -/
theorem pe_defK0 {ks : List Str} {gV : List V → List V → List V} {kws : List Keyword} {tk : TA} (D : DefK X.prog X.w X.K X.mg X.base x k ps ks gV sp) (hr : Room k X.A) (hg : Gl X x) (hkw : PK X kws tk)
    (hall : (backToKw pos (keywordEach kws X.env)).all (·.1.isSome) = true := by rfl) (hks : (backToKw pos (keywordEach kws X.env)).filterMap (·.1) = ks := by rfl) (hdb : (x == ("__debug__" : Str)) = false := by decide)
    (hpl : ((backTo pos (starEach [] X.env)).any (·.1) || (backToKw pos (keywordEach kws X.env)).any (·.1.isNone)) = false := by rfl) :
    PE X (.Call (.Name x p) [] kws pos) (tCallK sp gV E0 tNil tk) := by
  obtain ⟨f, fd, g, F, hm, kp, b⟩ := D
  refine ⟨fun pins s σ H Q I h => ?_⟩
  refine wpAny_Call_Name_kw (ld_glob I hg hm ?_ hdb)
  refine PySem.W.callWith_KW0 (h₀ := X.base) I.ok.mod.kin kp hall ?_ hpl
  refine thn (hkw.run pos pins s σ H _ I h) fun ws s2 ⟨zs, H2, I2, rz, q2⟩ => ⟨I2.kIn, ?_⟩
  rw [hks]
  exact run_fnk (us := []) (vs := []) F hr b pass0 I2 .nil rz q2
end
/-! ### heaps -/
/-- all that was tracked but p stays -/
def SameB (p : Addr) (H H' : Hp) : Prop := ∀ b o, b ≠ p → H b = some o → H' b = some o
theorem SameB.refl (p : Addr) (H : Hp) : SameB p H H := fun _ _ _ h => h
theorem SameB.trans {p : Addr} {H H1 H2 : Hp} (a : SameB p H H1) (b : SameB p H1 H2) : SameB p H H2 := fun c o n h => b c o n (a c o n h)
theorem Same.b {p : Addr} {H H' : Hp} (a : Same H H') : SameB p H H' := fun c o _ h => a c o h
theorem SameB.upd {p : Addr} {H : Hp} {o : HO} : SameB p H (upd H p o) := fun b u n h => by
  rw [upd_ne n]
  exact h
theorem same_upd {H : Hp} {p : Addr} {o : HO} (h : H p = none) : Same H (upd H p o) := fun b x e => by
  rw [upd_ne (ne_of_none e h)]
  exact e
/-- a new object may change -/
theorem Same.mut {H H' : Hp} {p : Addr} {o : HO} (e : Same H H') (h : H p = none) : Same H (upd H' p o) := fun a u ha => by
  rw [upd_ne (ne_of_none ha h)]
  exact e a u ha
theorem Same.seqT {K : PySem.W.Frag} {H H' : Hp} {a : Addr} {xs : List V} (e : Same H H') (h : SqT K H a xs) : SqT K H' a xs := by
  rcases h with (h | ⟨o, h⟩) | h
  · exact .inl (.inl (e _ _ h))
  · exact .inl (.inr ⟨o, e _ _ h⟩)
  · exact .inr h
theorem Same.new {H H1 : Hp} {p : Addr} (e : Same H H1) (h : H1 p = none) : H p = none := by
  cases q : H p with
  | none => rfl
  | some o =>
    rw [e p o q] at h
    cases h
end L2

namespace L2
open PySem PySem.Spec PyProof.Rows

/-! ### data: tuples are tracked -/
mutual
inductive Da (K : PySem.W.Frag) (H : Hp) : V → PyData → Prop
  | non : Da K H .non .none
  | bl (b : Bool) : Da K H (.bl b) (.bool b)
  | int (i : Int) : Da K H (.int i) (.int i)
  | str (x : Str) : Da K H (.str x) (.str x)
  | lst {a : Addr} {xs : List V} {ds : List PyData} : SqL K H a xs → DaAll K H xs ds → Da K H (.ref a) (.list ds)
  | tup {a : Addr} {xs : List V} {ds : List PyData} : H a = some (.tup xs) → DaAll K H xs ds → Da K H (.ref a) (.tuple ds)
inductive DaAll (K : PySem.W.Frag) (H : Hp) : List V → List PyData → Prop
  | nil : DaAll K H [] []
  | cons {v : V} {vs : List V} {d : PyData} {ds : List PyData} : Da K H v d → DaAll K H vs ds → DaAll K H (v :: vs) (d :: ds)
end
mutual
theorem Da.dp {K : PySem.W.Frag} {H : Hp} : ∀ (d : PyData) (v : V), Da K H v d → Dp K H v d
  | .none, _, h => by
    cases h
    exact .non
  | .bool b, _, h => by
    cases h
    exact .bl b
  | .int i, _, h => by
    cases h
    exact .int i
  | .str x, _, h => by
    cases h
    exact .str x
  | .tuple ds, _, h => by
    cases h with
    | tup hs ha => exact .tup (SqT.of hs) (Da.dpAll ds _ ha)
  | .list ds, _, h => by
    cases h with
    | lst hs ha => exact .lst hs (Da.dpAll ds _ ha)
  | .dict _, _, h => by cases h
theorem Da.dpAll {K : PySem.W.Frag} {H : Hp} : ∀ (ds : List PyData) (vs : List V), DaAll K H vs ds → DpAll K H vs ds
  | [], _, h => by
    cases h
    exact .nil
  | d :: ds, _, h => by
    cases h with
    | cons h1 h2 => exact .cons (Da.dp d _ h1) (Da.dpAll ds _ h2)
end
/-! ### tuples stay -/
def ST (_ : PySem.W.Frag) (H H' : Hp) : Prop := ∀ a xs, H a = some (.tup xs) → H' a = some (.tup xs)
theorem ST.refl {K : PySem.W.Frag} (H : Hp) : ST K H H := fun _ _ h => h
theorem ST.trans {K : PySem.W.Frag} {H H1 H2 : Hp} (a : ST K H H1) (b : ST K H1 H2) : ST K H H2 := fun x o h => b x o (a x o h)
theorem Same.st {K : PySem.W.Frag} {H H' : Hp} (e : Same H H') : ST K H H' := fun _ _ h => e _ _ h
/-- what is no tuple may change -/
def NoTup : HO → Prop
  | .tup _ => False
  | _ => True
theorem SameB.st {K : PySem.W.Frag} {H H' : Hp} {p : Addr} {o : HO} (e : SameB p H H') (h : H p = some o) (n : NoTup o) : ST K H H' := fun a xs q => by
  refine e a _ (fun z => ?_) q
  subst z
  rw [h] at q
  cases q
  exact n
theorem st_upd {K : PySem.W.Frag} {H : Hp} {p : Addr} {o u : HO} (h : H p = some o) (n : NoTup o) : ST K H (upd H p u) := SameB.st SameB.upd h n

/-! ### immutable data -/
mutual
def imm : PyData → Bool
  | .none => true
  | .bool _ => true
  | .int _ => true
  | .str _ => true
  | .tuple ds => immAll ds
  | .list _ => false
  | .dict _ => false
def immAll : List PyData → Bool
  | [] => true
  | d :: ds => imm d && immAll ds
end
mutual
theorem Da.st {K : PySem.W.Frag} {H H' : Hp} (e : ST K H H') : ∀ (d : PyData) (v : V), imm d = true → Da K H v d → Da K H' v d
  | .none, _, _, h => by
    cases h
    exact .non
  | .bool b, _, _, h => by
    cases h
    exact .bl b
  | .int i, _, _, h => by
    cases h
    exact .int i
  | .str x, _, _, h => by
    cases h
    exact .str x
  | .tuple ds, _, hi, h => by
    cases h with
    | tup hs ha => exact .tup (e _ _ hs) (Da.stAll e ds _ hi ha)
  | .list _, _, hi, _ => by cases hi
  | .dict _, _, hi, _ => by cases hi
theorem Da.stAll {K : PySem.W.Frag} {H H' : Hp} (e : ST K H H') : ∀ (ds : List PyData) (vs : List V), immAll ds = true → DaAll K H vs ds → DaAll K H' vs ds
  | [], _, _, h => by
    cases h
    exact .nil
  | d :: ds, _, hi, h => by
    cases h with
    | cons h1 h2 =>
      have hi' : (imm d && immAll ds) = true := hi
      rw [Bool.and_eq_true] at hi'
      exact .cons (Da.st e d _ hi'.1 h1) (Da.stAll e ds _ hi'.2 h2)
end
mutual
/-- all that was tracked stays: data of any kind -/
theorem Da.same {K : PySem.W.Frag} {H H' : Hp} (e : Same H H') : ∀ (d : PyData) (v : V), Da K H v d → Da K H' v d
  | .none, _, h => by
    cases h
    exact .non
  | .bool b, _, h => by
    cases h
    exact .bl b
  | .int i, _, h => by
    cases h
    exact .int i
  | .str x, _, h => by
    cases h
    exact .str x
  | .tuple ds, _, h => by
    cases h with
    | tup hs ha => exact .tup (e _ _ hs) (Da.sameAll e ds _ ha)
  | .list ds, _, h => by
    cases h with
    | lst hs ha => exact .lst (e.seq hs) (Da.sameAll e ds _ ha)
  | .dict _, _, h => by cases h
theorem Da.sameAll {K : PySem.W.Frag} {H H' : Hp} (e : Same H H') : ∀ (ds : List PyData) (vs : List V), DaAll K H vs ds → DaAll K H' vs ds
  | [], _, h => by
    cases h
    exact .nil
  | d :: ds, _, h => by
    cases h with
    | cons h1 h2 => exact .cons (Da.same e d _ h1) (Da.sameAll e ds _ h2)
end
theorem DaAll.length {K : PySem.W.Frag} {H : Hp} : ∀ {vs : List V} {ds : List PyData}, DaAll K H vs ds → vs.length = ds.length
  | _, _, .nil => rfl
  | _, _, .cons _ t => congrArg (· + 1) (DaAll.length t)
theorem DaAll.snoc {K : PySem.W.Frag} {H : Hp} {v : V} {d : PyData} (h : Da K H v d) : ∀ {vs : List V} {ds : List PyData}, DaAll K H vs ds → DaAll K H (vs ++ [v]) (ds ++ [d])
  | _, _, .nil => .cons h .nil
  | _, _, .cons r t => .cons r (DaAll.snoc h t)
theorem DaAll.append {K : PySem.W.Frag} {H : Hp} {us : List V} {es : List PyData} (h : DaAll K H us es) : ∀ {vs : List V} {ds : List PyData}, DaAll K H vs ds → DaAll K H (vs ++ us) (ds ++ es)
  | _, _, .nil => h
  | _, _, .cons r t => .cons r (DaAll.append h t)
theorem DaAll.get {K : PySem.W.Frag} {H : Hp} : ∀ {vs : List V} {ds : List PyData} {i : Nat} {v : V}, DaAll K H vs ds → vs[i]? = some v → ∃ d, ds[i]? = some d ∧ Da K H v d
  | _, _, _, _, .nil, e => by simp at e
  | _, _, 0, _, .cons r _, e => by
    simp at e
    subst e
    exact ⟨_, rfl, r⟩
  | _, _, i + 1, v, .cons _ t, e => by
    obtain ⟨d, h1, h2⟩ := DaAll.get (i := i) (v := v) t (by simpa using e)
    exact ⟨d, by simpa using h1, h2⟩
theorem DaAll.at {K : PySem.W.Frag} {H : Hp} : ∀ {vs : List V} {ds : List PyData} {i : Nat} {d : PyData}, DaAll K H vs ds → ds[i]? = some d → ∃ v, vs[i]? = some v ∧ Da K H v d
  | _, _, _, _, .nil, e => by simp at e
  | _, _, 0, _, .cons r _, e => by
    simp at e
    subst e
    exact ⟨_, rfl, r⟩
  | _, _, i + 1, d, .cons _ t, e => by
    obtain ⟨v, h1, h2⟩ := DaAll.at (i := i) (d := d) t (by simpa using e)
    exact ⟨v, by simpa using h1, h2⟩
theorem DaAll.ints {K : PySem.W.Frag} {H : Hp} : ∀ {vs : List V} {ns : List Int}, DaAll K H vs (ns.map PyData.int) → vs = ns.map V.int
  | _, [], .nil => rfl
  | _, n :: ns, .cons r t => by
    cases r
    rw [DaAll.ints (ns := ns) t]
    rfl
theorem da_ints {K : PySem.W.Frag} {H : Hp} : ∀ ns : List Int, DaAll K H (ns.map V.int) (ns.map PyData.int)
  | [] => .nil
  | n :: ns => .cons (.int n) (da_ints ns)
theorem imm_ints : ∀ ns : List Int, immAll (ns.map PyData.int) = true
  | [] => rfl
  | n :: ns => by
    show (imm (.int n) && immAll (ns.map PyData.int)) = true
    rw [imm_ints ns]
    rfl
/-- a moment (or a row of ints) -/
def mo (m : List Int) : PyData := .tuple (m.map .int)
abbrev Mo (K : PySem.W.Frag) (H : Hp) (v : V) (m : List Int) : Prop := Da K H v (mo m)
theorem imm_mo (m : List Int) : imm (mo m) = true := imm_ints m
theorem Mo.inv {K : PySem.W.Frag} {H : Hp} {v : V} {m : List Int} (h : Mo K H v m) : ∃ a, v = .ref a ∧ SqT K H a (m.map V.int) := by
  cases h with
  | tup hs ha =>
    rw [DaAll.ints ha] at hs
    exact ⟨_, rfl, SqT.of hs⟩
theorem Mo.trk {K : PySem.W.Frag} {H : Hp} {v : V} {m : List Int} (h : Mo K H v m) : ∃ a, v = .ref a ∧ H a = some (.tup (m.map V.int)) := by
  cases h with
  | tup hs ha =>
    rw [DaAll.ints ha] at hs
    exact ⟨_, rfl, hs⟩
theorem Mo.of {K : PySem.W.Frag} {H : Hp} {a : Addr} {m : List Int} (h : H a = some (.tup (m.map V.int))) : Mo K H (.ref a) m := .tup h (da_ints m)
theorem Mo.st {K : PySem.W.Frag} {H H' : Hp} {v : V} {m : List Int} (h : Mo K H v m) (e : ST K H H') : Mo K H' v m := Da.st e _ _ (imm_mo m) h
theorem Mo.same {K : PySem.W.Frag} {H H' : Hp} {v : V} {m : List Int} (h : Mo K H v m) (e : Same H H') : Mo K H' v m := h.st e.st

/-! ### walks -/
theorem walk_zipT {K : PySem.W.Frag} {a b : Addr} {xs ys : List V} (hl : xs.length = ys.length) : Walk (RZ.ItzT K a b) xs.length (fun H => SqT K H a xs ∧ SqT K H b ys) (YPair (fun i => xs[i]?) (fun i => ys[i]?)) := by
  refine ⟨fun i _ hi q => ?_, fun _ q => ⟨xs, ys, q.1, q.2, .inl (Nat.le_refl _)⟩, fun i H v H' _ q y => ?_⟩
  · have h2 : i < ys.length := by omega
    exact ⟨xs, ys, xs[i], ys[i], q.1, q.2, by simp [hi], by simp [h2]⟩
  · obtain ⟨T, x, z, h1, h2, h3, h4, h5⟩ := y
    exact ⟨T, x, z, h1, h2, h3, h4 xs q.1, h5 ys q.2⟩

/-! ### comprehensions -/
section
variable {J : It} {n : Nat} {G : Hp → Prop} {Y : Nat → Hp → V → Hp → Prop} {K : PySem.W.Frag}
/-- what lc_it gives, by name -/
abbrev LcGoal (J : It) (g : TG) (tt : TT) (te : TE) (vs : List Nat) (σ : L2.St) (H1 : Hp) (D : Addr) (Qd : Hp → Prop) : Prop :=
  ∃ W : Nat → Nat → Hp → Prop, (∃ m, W 0 m (upd H1 D (.lst []))) ∧ ∀ i m H, W i m H →
      (J.stop i H ∧ Qd H) ∨ (J.go i H ∧ ∃ Nx : Hp → Prop, (∀ H', Nx H' → ∃ m', m' < m ∧ W (i + 1) m' H') ∧ ∀ x H', J.yld i H x H' → g x (wipe σ vs) H' fun σ2 H2 => wipe σ2 vs = wipe σ vs ∧ tt σ2 H2 fun b H3 =>
        if b = true then te σ2 H3 fun y H4 => ∃ acc, H4 D = some (.lst acc) ∧ acc.length < sizeLine ∧ Nx (upd H4 D (.lst (acc ++ [y]))) else Nx H3)
/-- all elements are values told ahead -/
theorem lc_val (w : Walk J n G Y) {g : TG} {te : TE} {vs : List Nat} {σ : L2.St} {H1 : Hp} {D : Addr} {Qd : Hp → Prop} (hD : H1 D = none) (hn : n ≤ 100000) (hG : ∀ H, Same H1 H → G H) (fs : List V) (hl : fs.length = n)
    (step : ∀ i x H H' (Q : VK), i < n → Same H1 H → Y i H x H' → (∀ y H4, Same H H4 → fs[i]? = some y → Q y H4) → g x (wipe σ vs) H' fun σ2 H2 => wipe σ2 vs = wipe σ vs ∧ te σ2 H2 Q)
    (hd : ∀ H, Same H1 H → H D = some (.lst fs) → Qd H) : LcGoal J g tYes te vs σ H1 D Qd := by
  refine lc_it w (fun i H => Same H1 H ∧ H D = some (.lst (fs.take i))) ⟨same_upd hD, upd_same⟩ (fun i H _ p => hG H p.1) (fun i x H H' hi p y => ?_) (fun H p => ?_)
  · refine step i x H H' _ hi p.1 y fun v H4 e he => ⟨_, e _ _ p.2, ?_, (p.1.trans e).mut hD, ?_⟩
    · rw [List.length_take]
      exact Nat.lt_of_le_of_lt (Nat.min_le_left _ _) (Nat.lt_of_lt_of_le hi (Nat.le_trans hn (by decide)))
    · rw [upd_same, List.take_add_one, he]
      rfl
  · refine hd H p.1 ?_
    rw [p.2, List.take_of_length_le (Nat.le_of_eq hl)]
/-- all elements are immutable data told ahead -/
theorem lc_dat (w : Walk J n G Y) {g : TG} {te : TE} {vs : List Nat} {σ : L2.St} {H1 : Hp} {D : Addr} {Qd : Hp → Prop} (hD : H1 D = none) (hn : n ≤ 100000) (hG : ∀ H, Same H1 H → G H) (ds : List PyData) (hl : ds.length = n) (him : immAll ds = true)
    (step : ∀ i x H H' (Q : VK), i < n → Same H1 H → Y i H x H' → (∀ y H4 d, Same H H4 → ds[i]? = some d → Da K H4 y d → Q y H4) → g x (wipe σ vs) H' fun σ2 H2 => wipe σ2 vs = wipe σ vs ∧ te σ2 H2 Q)
    (hd : ∀ H acc, Same H1 H → H D = some (.lst acc) → DaAll K H acc ds → Qd H) : LcGoal J g tYes te vs σ H1 D Qd := by
  have himt : ∀ i, immAll (ds.take i) = true := by
    have : ∀ (l : List PyData) (i : Nat), immAll l = true → immAll (l.take i) = true := by
      intro l
      induction l with
      | nil => intro i _; cases i <;> rfl
      | cons d l ih =>
        intro i h
        have h' : (imm d && immAll l) = true := h
        rw [Bool.and_eq_true] at h'
        cases i with
        | zero => rfl
        | succ i =>
          show (imm d && immAll (l.take i)) = true
          rw [h'.1, ih i h'.2]
          rfl
    exact fun i => this ds i him
  refine lc_it w (fun i H => Same H1 H ∧ ∃ acc, H D = some (.lst acc) ∧ DaAll K H acc (ds.take i)) ⟨same_upd hD, [], upd_same, .nil⟩ (fun i H _ p => hG H p.1) (fun i x H H' hi p y => ?_) (fun H p => ?_)
  · obtain ⟨p1, acc, p2, p3⟩ := p
    refine step i x H H' _ hi p1 y fun v H4 d e he hv => ⟨acc, e _ _ p2, ?_, (p1.trans e).mut hD, _, upd_same, ?_⟩
    · rw [p3.length, List.length_take]
      exact Nat.lt_of_le_of_lt (Nat.min_le_left _ _) (Nat.lt_of_lt_of_le hi (Nat.le_trans hn (by decide)))
    · rw [List.take_add_one, he]
      have e4 : H4 D = some (.lst acc) := e _ _ p2
      have st : ST K H4 (upd H4 D (.lst (acc ++ [v]))) := st_upd e4 True.intro
      have hid : imm d = true := by
        have : ∀ (l : List PyData) (i : Nat), immAll l = true → l[i]? = some d → imm d = true := by
          intro l
          induction l with
          | nil => intro i _ h; simp at h
          | cons d' l ih =>
            intro i h h2
            have h' : (imm d' && immAll l) = true := h
            rw [Bool.and_eq_true] at h'
            cases i with
            | zero =>
              simp at h2
              subst h2
              exact h'.1
            | succ i => exact ih i h'.2 (by simpa using h2)
        exact this ds i him he
      exact DaAll.snoc (Da.st st _ _ hid hv) (Da.stAll (e.st.trans st) _ _ (himt i) p3)
  · obtain ⟨p1, acc, p2, p3⟩ := p
    rw [List.take_of_length_le (Nat.le_of_eq hl)] at p3
    exact hd H acc p1 p2 p3
end
/-! ### short names of readings -/
abbrev yAdd : R2 := rI0 fun i j => .int (i + j)
abbrev ySub : R2 := rI0 fun i j => .int (i - j)
abbrev yMul : R2 := rI CMul fun i j => .int (i * j)
abbrev yDiv : R2 := rI CDivW fun i j => .int (i / j)
abbrev yMod : R2 := rI (fun _ j => 0 < j) fun i j => .int (i % j)
abbrev yPow : R2 := rI CPow fun i j => .int (i ^ j.toNat)
abbrev yLt : R2 := rI0 fun i j => .bl (decide (i < j))
abbrev yLe : R2 := rI0 fun i j => .bl (decide (i ≤ j))
abbrev yGt : R2 := rI0 fun i j => .bl (decide (j < i))
abbrev yGe : R2 := rI0 fun i j => .bl (decide (j ≤ i))
abbrev yNeg : V → Hp → VK → Prop := rU fun i => .int (-i)
abbrev yLen (K : PySem.W.Frag) : List V → Hp → VK → Prop := fun vs H Q => ∃ p ys, vs = [.ref p] ∧ (SqL K H p ys ∨ SqT K H p ys) ∧ Q (.int ys.length) H
abbrev yMax : List V → Hp → VK → Prop := fun vs H Q => ∃ i j, vs = [.int i, .int j] ∧ Q (.int (if j > i then j else i)) H
abbrev yMin : List V → Hp → VK → Prop := fun vs H Q => ∃ i j, vs = [.int i, .int j] ∧ Q (.int (if j < i then j else i)) H
abbrev yInt : List V → Hp → VK → Prop := fun vs H Q => (∃ i, vs = [.int i] ∧ Q (.int i) H) ∨ ∃ k, vs = [.bl k] ∧ Q (.int (if k then 1 else 0)) H
abbrev yTup (K : PySem.W.Frag) : List V → Hp → VK → Prop := fun vs H Q => ∃ p ys, vs = [.ref p] ∧ ((SqL K H p ys ∧ ∀ l, H l = none → Q (.ref l) (upd H l (.tup ys))) ∨ (SqT K H p ys ∧ Q (.ref p) H))
abbrev yLst (K : PySem.W.Frag) : List V → Hp → VK → Prop := fun vs H Q => ∃ p ys, vs = [.ref p] ∧ (SqL K H p ys ∨ SqT K H p ys) ∧ ∀ l, H l = none → Q (.ref l) (upd H l (.lst ys))
theorem hu64 {A : Around} {k : Nat} (hr : Room k A) : A.units + 64 < cLine := by
  have := hr.un
  omega
theorem hu0 {A : Around} {k : Nat} (hr : Room k A) : A.units < cLine := by
  have := hr.un
  omega
end L2

namespace L2
open PySem PySem.Spec PyProof.Rows
theorem immAll_append : ∀ {a b : List PyData}, immAll a = true → immAll b = true → immAll (a ++ b) = true
  | [], _, _, h => h
  | d :: a, b, h1, h2 => by
    have h' : (imm d && immAll a) = true := h1
    rw [Bool.and_eq_true] at h'
    show (imm d && immAll (a ++ b)) = true
    rw [h'.1, immAll_append h'.2 h2]
    rfl
theorem immAll_at {d : PyData} : ∀ {l : List PyData} {i : Nat}, immAll l = true → l[i]? = some d → imm d = true
  | [], _, _, h => by simp at h
  | e :: l, i, h1, h2 => by
    have h' : (imm e && immAll l) = true := h1
    rw [Bool.and_eq_true] at h'
    cases i with
    | zero =>
      simp at h2
      subst h2
      exact h'.1
    | succ i => exact immAll_at h'.2 (by simpa using h2)
theorem immAll_take : ∀ {l : List PyData} (i : Nat), immAll l = true → immAll (l.take i) = true
  | [], i, _ => by cases i <;> rfl
  | e :: l, i, h1 => by
    have h' : (imm e && immAll l) = true := h1
    rw [Bool.and_eq_true] at h'
    cases i with
    | zero => rfl
    | succ i =>
      show (imm e && immAll (l.take i)) = true
      rw [h'.1, immAll_take i h'.2]
      rfl
theorem immAll_of : ∀ {l : List PyData}, (∀ d ∈ l, imm d = true) → immAll l = true
  | [], _ => rfl
  | e :: l, h => by
    show (imm e && immAll l) = true
    rw [h e List.mem_cons_self, immAll_of fun d hd => h d (List.mem_cons_of_mem _ hd)]
    rfl
theorem sz1000' {n : Nat} (h : n ≤ 100000) : n ≤ sizeLine := Nat.le_trans h (by decide)
section
variable {J J1 : It} {n n1 : Nat} {G G1 : Hp → Prop} {Y Y1 : Nat → Hp → V → Hp → Prop} {K : PySem.W.Frag}
/-- two clauses, the inner one over a thing that stands still; immutable data told ahead -/
theorem lc2_dat (w : Walk J n G Y) (w1 : Walk J1 n1 G1 Y1) {wi1 : TI} {g g1 : TG} {te : TE} {vs vs1 : List Nat} {σ : L2.St} {H1 : Hp} {D : Addr} {Qd : Hp → Prop} (hD : H1 D = none) (hn : n * n1 ≤ 100000)
    (hG : ∀ H, Same H1 H → G H) (hG1 : ∀ H, Same H1 H → G1 H) (ds : Nat → List PyData) (hl : ∀ i, i < n → (ds i).length = n1) (him : ∀ i, i < n → immAll (ds i) = true)
    (step : ∀ i x H H' (Q : L2.St → Hp → Prop), i < n → Same H1 H → Y i H x H' →
      (∀ σ2 H2, Same H H2 → wipe σ2 vs = wipe σ vs → ((∀ H3 R, Same H2 H3 → R J1 H3 → wi1 σ2 H3 R) ∧
        (∀ j y H3 H3' (Q' : VK), j < n1 → Same H1 H3 → ST K H2 H3 → Y1 j H3 y H3' → (∀ z H4 d, Same H3 H4 → (ds i)[j]? = some d → Da K H4 z d → Q' z H4) → g1 y (wipe σ2 vs1) H3' fun σ3 H5 => wipe σ3 vs1 = wipe σ2 vs1 ∧ te σ3 H5 Q')) → Q σ2 H2) → g x (wipe σ vs) H' Q)
    (hd : ∀ H acc, Same H1 H → H D = some (.lst acc) → DaAll K H acc ((List.range n).map ds).flatten → Qd H) :
    ∃ W : Nat → Nat → Hp → Prop, (∃ m, W 0 m (upd H1 D (.lst []))) ∧ ∀ i m H, W i m H →
      (J.stop i H ∧ Qd H) ∨ (J.go i H ∧ ∃ Nx : Hp → Prop, (∀ H', Nx H' → ∃ m', m' < m ∧ W (i + 1) m' H') ∧ ∀ x H', J.yld i H x H' → g x (wipe σ vs) H' fun σ2 H2 => wipe σ2 vs = wipe σ vs ∧ tYes σ2 H2 fun b H3 =>
        if b = true then wi1 σ2 H3 fun J1 H4 => ∃ W1 : Nat → Nat → Hp → Prop, (∃ m, W1 0 m H4) ∧ ∀ j k H, W1 j k H →
          (J1.stop j H ∧ Nx H) ∨ (J1.go j H ∧ ∃ Nx1 : Hp → Prop, (∀ H', Nx1 H' → ∃ k', k' < k ∧ W1 (j + 1) k' H') ∧ ∀ x H', J1.yld j H x H' → g1 x (wipe σ2 vs1) H' fun σ3 H5 => wipe σ3 vs1 = wipe σ2 vs1 ∧ tYes σ3 H5 fun b H6 =>
            if b = true then te σ3 H6 fun y H7 => ∃ acc, H7 D = some (.lst acc) ∧ acc.length < sizeLine ∧ Nx1 (upd H7 D (.lst (acc ++ [y]))) else Nx1 H6)
        else Nx H3) := by
  have flen : ∀ i, i ≤ n → ((List.range i).map ds).flatten.length = i * n1 := by
    intro i
    induction i with
    | zero => intro _; simp
    | succ i ih =>
      intro h
      rw [List.range_succ, List.map_append, List.flatten_append, List.length_append, ih (by omega)]
      simp [hl i (by omega), Nat.succ_mul]
  have fimm : ∀ i, i ≤ n → immAll ((List.range i).map ds).flatten = true := by
    intro i
    induction i with
    | zero => intro _; rfl
    | succ i ih =>
      intro h
      rw [List.range_succ, List.map_append, List.flatten_append]
      refine immAll_append (ih (by omega)) ?_
      simpa using him i (by omega)
  have fsnoc : ∀ i, ((List.range (i + 1)).map ds).flatten = ((List.range i).map ds).flatten ++ ds i := by
    intro i
    rw [List.range_succ, List.map_append, List.flatten_append]
    simp
  refine ⟨fun i m H => m = n - i ∧ i ≤ n ∧ Same H1 H ∧ ∃ acc, H D = some (.lst acc) ∧ DaAll K H acc ((List.range i).map ds).flatten, ⟨n, by simp, Nat.zero_le _, same_upd hD, [], upd_same, .nil⟩, ?_⟩
  rintro i m H ⟨rfl, hi, p1, acc, p2, p3⟩
  by_cases hlt : i < n
  · refine .inr ⟨w.goes i H hlt (hG H p1), fun H' => Same H1 H' ∧ ∃ acc, H' D = some (.lst acc) ∧ DaAll K H' acc ((List.range (i + 1)).map ds).flatten, fun H' ⟨q1, q2⟩ => ⟨n - (i + 1), by omega, rfl, hlt, q1, q2⟩, fun x H' y => ?_⟩
    refine step i x H H' _ hlt p1 (w.yields i H x H' hlt (hG H p1) y) fun σ2 H2 e2 ws ⟨hin, el⟩ => ?_
    refine ⟨ws, ?_⟩
    show wi1 σ2 H2 _
    refine hin H2 _ (Same.refl _) ?_
    refine ⟨fun j k H => k = n1 - j ∧ j ≤ n1 ∧ Same H1 H ∧ ST K H2 H ∧ ∃ acc, H D = some (.lst acc) ∧ DaAll K H acc (((List.range i).map ds).flatten ++ (ds i).take j), ⟨n1, by simp, Nat.zero_le _, p1.trans e2, ST.refl _, acc, e2 _ _ p2, ?_⟩, ?_⟩
    · rw [List.take_zero, List.append_nil]
      exact Da.sameAll e2 _ _ p3
    · rintro j k H3 ⟨rfl, hj, q1, qb, acc3, q2, q3⟩
      by_cases hjl : j < n1
      · refine .inr ⟨w1.goes j H3 hjl (hG1 H3 q1), fun H' => Same H1 H' ∧ ST K H2 H' ∧ ∃ acc, H' D = some (.lst acc) ∧ DaAll K H' acc (((List.range i).map ds).flatten ++ (ds i).take (j + 1)), fun H' ⟨r1, r2⟩ => ⟨n1 - (j + 1), by omega, rfl, hjl, r1, r2⟩, fun x3 H3' y3 => ?_⟩
        refine el j x3 H3 H3' _ hjl q1 qb (w1.yields j H3 x3 H3' hjl (hG1 H3 q1) y3) fun z H4 d e4 hd4 hz => ?_
        have e5 : H4 D = some (.lst acc3) := e4 _ _ q2
        have st : ST K H4 (upd H4 D (.lst (acc3 ++ [z]))) := st_upd e5 True.intro
        refine ⟨acc3, e5, ?_, (q1.trans e4).mut hD, (qb.trans e4.st).trans st, _, upd_same, ?_⟩
        · have l3 := q3.length
          rw [List.length_append, flen i hi, List.length_take] at l3
          have hle : (i + 1) * n1 ≤ n * n1 := Nat.mul_le_mul_right _ hlt
          rw [Nat.succ_mul] at hle
          refine Nat.lt_of_lt_of_le ?_ (sz1000' hn)
          have : min j (ds i).length ≤ j := Nat.min_le_left _ _
          omega
        · rw [List.take_add_one, hd4, ← List.append_assoc]
          exact DaAll.snoc (Da.st st _ _ (immAll_at (him i hlt) hd4) hz) (Da.stAll (e4.st.trans st) _ _ (immAll_append (fimm i hi) (immAll_take j (him i hlt))) q3)
      · have ej : j = n1 := by omega
        subst ej
        refine .inl ⟨w1.stops H3 (hG1 H3 q1), q1, acc3, q2, ?_⟩
        rw [fsnoc]
        rw [List.take_of_length_le (Nat.le_of_eq (hl i hlt))] at q3
        exact q3
  · have e : i = n := by omega
    subst e
    exact .inl ⟨w.stops H (hG H p1), hd H acc p1 p2 p3⟩
/-- a comprehension with a test: values told ahead -/
theorem lc_val_if (w : Walk J n G Y) {g : TG} {tt : TT} {te : TE} {vs : List Nat} {σ : L2.St} {H1 : Hp} {D : Addr} {Qd : Hp → Prop} (hD : H1 D = none) (hn : n ≤ 100000) (hG : ∀ H, Same H1 H → G H) (bs : Nat → Bool) (fs : Nat → V)
    (step : ∀ i x H H' (Q : VK) (R : Hp → Prop), i < n → Same H1 H → Y i H x H' → (∀ H4, bs i = true → Same H H4 → Q (fs i) H4) → (∀ H3, bs i = false → Same H H3 → R H3) →
      g x (wipe σ vs) H' fun σ2 H2 => wipe σ2 vs = wipe σ vs ∧ tt σ2 H2 fun b H3 => if b = true then te σ2 H3 Q else R H3)
    (hd : ∀ H, Same H1 H → H D = some (.lst (((List.range n).filter bs).map fs)) → Qd H) : LcGoal J g tt te vs σ H1 D Qd := by
  refine lc_it w (fun i H => Same H1 H ∧ H D = some (.lst (((List.range i).filter bs).map fs))) ⟨same_upd hD, upd_same⟩ (fun i H _ p => hG H p.1) (fun i x H H' hi p y => ?_) (fun H p => hd H p.1 p.2)
  refine step i x H H' _ _ hi p.1 y (fun H4 hb e => ⟨_, e _ _ p.2, ?_, (p.1.trans e).mut hD, ?_⟩) fun H3 hb e => ⟨p.1.trans e, ?_⟩
  · rw [List.length_map]
    refine Nat.lt_of_le_of_lt (List.length_filter_le _ _) ?_
    rw [List.length_range]
    exact Nat.lt_of_lt_of_le hi (Nat.le_trans hn (by decide))
  · rw [upd_same, List.range_succ, List.filter_append, List.map_append]
    simp [hb]
  · rw [e _ _ p.2, List.range_succ, List.filter_append, List.map_append]
    simp [hb]
end
theorem SameB.mut {p q : Addr} {H H' : Hp} {o : HO} (e : SameB p H H') (h : H q = none) : SameB p H (L2.upd H' q o) := fun a u n ha => by
  rw [upd_ne (ne_of_none ha h)]
  exact e a u n ha
theorem SameB.fresh {p q : Addr} {H H' : Hp} (e : SameB p H H') (hp : ∃ o, H p = some o) (h : H' q = none) (hp' : ∃ o, H' p = some o) : H q = none := by
  cases z : H q with
  | none => rfl
  | some o =>
    by_cases hq : q = p
    · subst hq
      obtain ⟨o', ho'⟩ := hp'
      rw [h] at ho'
      cases ho'
    · rw [e q o hq z] at h
      cases h
theorem SameB.seqT {K : PySem.W.Frag} {p a : Addr} {H H' : Hp} {l xs : List V} (e : SameB p H H') (hp : H p = some (.lst l)) (h : SqT K H a xs) : SqT K H' a xs := by
  rcases h with (h | ⟨o, h⟩) | h
  · exact .inl (.inl (e _ _ (ne_of h hp (by intro z; cases z)) h))
  · exact .inl (.inr ⟨o, e _ _ (ne_of h hp (by intro z; cases z)) h⟩)
  · exact .inr h
/-- a lock and its key: behind the unlocking all is as it was -/
theorem same_unlock {d : Addr} {o : Obj} {u : HO} {H H' : Hp} (h : H d = some u) (e : Same (upd H d (.frz o u)) H') : Same H (upd H' d u) := fun a x ha => by
  by_cases z : a = d
  · subst z
    rw [upd_same, ← h, ha]
  · rw [upd_ne z]
    exact e a x (by rw [upd_ne z]; exact ha)
theorem same_lock {d : Addr} {o : Obj} {u : HO} {H H' : Hp} (e : Same (upd H d (.frz o u)) H') : SameB d H H' := fun a x n ha => e a x (by rw [upd_ne n]; exact ha)
end L2

namespace L2
open PySem PySem.Spec PyProof.Rows
/-! ### x in o, by the class's own __contains__ -/
def rInOwn (C : Addr) (sp : Sp) (E : XK) : R2 := fun x y H Q => ∃ a dx fs, y = .ref a ∧ H a = some (.ins C dx fs) ∧ sp [.ref a, x] H (fun v H' => ∃ b, v = .bl b ∧ Q (.bl b) H') E
section
variable {X : Cx} {CX : CXT} {k : Nat} {C f : Addr} {fd : FuncData} {ps : List Str} {sp : Sp} {E : XK}
theorem op_inOwn (F : FnOk X.prog X.w X.K X.mg X.base CX k f fd ps sp) (hs : PySem.W.findIn X.K (.ref C) "__contains__" = some (some (.ref f))) (hf : PySem.W.isFn X.K (.ref f) = true) (hb : Binds X.K fd ps []) (hx : Passes CX X E) (hr : Room k X.A) : OpR X (compareOp .In) (rInOwn C sp E) := by
  intro pins s σ H x y v u Q I rx ry h
  obtain ⟨a, dx, fs, rfl, ha, q⟩ := h
  cases ry
  obtain ⟨mA, J, _⟩ := ins_get I.hok ha
  obtain ⟨od, J, _⟩ := J.look
  obtain ⟨m, hF⟩ := I.fr
  refine PySem.W.in_K hF I.ok.mod.kin J hs hf ?_
  have q2 : sp ([V.ref a, x] ++ []) H (fun v H' => ∃ b, v = V.bl b ∧ Q (.bl b) H') E := q
  refine thn (run_fn (us := [.ref a, v]) (vs := [.ref a, x]) (dvs := []) F hr hb .nil hx I (.cons rfl (.cons rx .nil)) q2) fun r s' hz => ?_
  obtain ⟨z, H', I', rz, b, ez, q'⟩ := hz
  subst ez
  cases rz
  exact wpAny_truthy_bool ⟨V.bl b, H', I', rfl, q'⟩
/-- o.m(k = v, ..) -/
def tMethK0 (m : Str) (C : Addr) (sp : Sp) (gV : List V → List V → List V) (E : XK) (ta : TE) (tk : TA) : TE := fun σ H Q => ta σ H fun x H1 => ∃ a dx fs, x = .ref a ∧ H1 a = some (.ins C dx fs) ∧ fs.lookup m = none ∧ tk σ H1 fun zs H2 => sp (gV [x] zs) H2 Q E
theorem pe_methK0 {m : Str} {o : Expr} {apos pos : Pos} {ta : TE} {tk : TA} {kws : List Keyword} {ks : List Str} {g : List Value → List Value → List Value} {gV : List V → List V → List V} {pl : Sem Bool} (he : PE X o ta) (c : Cls X.K C) (hm : Meth X.K C m f)
    (F : FnOk X.prog X.w X.K X.mg X.base CX k f fd ps sp) (hr : Room k X.A) (hb : KBinds X.K fd ps ks g gV) (hx : Passes CX X E) (hkw : PK X kws tk)
    (hall : (backToKw pos (keywordEach kws X.env)).all (·.1.isSome) = true := by rfl) (hks : (backToKw pos (keywordEach kws X.env)).filterMap (·.1) = ks := by rfl)
    (hpl : ((backTo pos (starEach [] X.env)).any (·.1) || (backToKw pos (keywordEach kws X.env)).any (·.1.isNone)) = false := by rfl)
    (ht : eval (.Call (.Attribute o m apos) [] kws pos) X.env = (do
      let ov ← eval o X.env
      standAt apos.atName
      let (f, first) ← holding [ov] (getMethod ov m pl)
      callWith pos f first (backTo pos (starEach [] X.env)) (backToKw pos (keywordEach kws X.env))) := by rfl) :
    PE X (.Call (.Attribute o m apos) [] kws pos) (tMethK0 m C sp gV E ta tk) := by
  refine ⟨fun pins s σ H Q I h => ?_⟩
  refine PySem.W.methodCall_KW (pl := pl) (thn (he.run pins s σ H _ I h) fun u s1 ⟨x, H1, I1, rx, a, dx, fs, ex, ea, l, q⟩ => ?_) ht
  subst ex
  obtain rfl : u = Value.ref a := rx
  refine getmeth_ok I1 ea c hm l ?_
  refine PySem.W.callWith_KW0 (first := [.ref a]) (h₀ := X.base) I.ok.mod.kin hm.kp hall ?_ hpl
  refine thn (hkw.run pos pins s1 σ H1 _ I1 q) fun ws s2 ⟨zs, H2, I2, rz, q2⟩ => ⟨I2.kIn, ?_⟩
  rw [hks]
  exact run_fnk (us := [.ref a]) (vs := [.ref a]) F hr hb hx I2 (.cons rfl .nil) rz q2
end
/-! ### tuple * int, 1 included -/
theorem tuple_mul1 (l : Addr) (items : Array Value) (n : Nat) (dd : Option Addr) (sl : Array (Option Value)) (u : Tok) :
    Meets (Builtin.«tuple.__mul__» ⟨[.ref l, .int 1 u], []⟩) (fun _ R s => s.heap.get? l = some { cls := .type "tuple", dict := dd, data := .seq items n, slots := sl } ∧ R (.ok (.ret (Value.ref l))) s) :=
  .of_wp fun prog w A R s h => by
    obtain ⟨hp, g, d, tk, os⟩ := s
    obtain ⟨hl, h⟩ := h
    have f1 := AutoSeq1.idx_int
    wp_walk using wpAny_loadPart' hl
    exact ⟨_, rfl, h⟩
def rRepA (K : PySem.W.Frag) : R2 := fun x y H Q => (∃ l xs, x = .ref l ∧ y = .int 1 ∧ SqT K H l xs ∧ Q (.ref l) H) ∨ rRepT K x y H Q
theorem op_repA {X : Cx} : OpR X (binaryOp .Mult) (rRepA X.K) := by
  intro pins s σ H x y v u Q I rx ry h
  rcases h with h | h
  · obtain ⟨l, xs, rfl, rfl, hT, q⟩ := h
    cases rx
    obtain ⟨t, rfl⟩ := ry
    obtain ⟨its, r, ⟨⟨cls, dd, data, sl⟩, ho, hc, n, hd⟩, hs⟩ := I.tuple hT
    simp only at hc hd
    subst hc hd
    refine wpAny_binaryOp_repeat_ref (T := "tuple") (U := "int") (by decide) ⟨_, ho, rfl⟩ (fun s' => typeIs_int s' 1 t) noFill_tuple_mul F.fills_int_mul F.slot_int_rmul repeat_tuple F.slot_int_index.lookup
      (call_meets F.slot_int_rmul (typeIs_int s 1 t) F.entry_int_rmul (F.args_int_rmul_2 _ _) (int_rmul_tuple 1 t l its.toArray n dd sl)
        ⟨ho, rfl, ⟨_, ho, rfl⟩, call_meets F.slot_tuple_mul ⟨_, ho, rfl⟩ F.entry_tuple_mul (F.args_tuple_mul_2 _ _) (tuple_mul1 l its.toArray n dd sl t) ⟨ho, ?_⟩⟩)
    exact ⟨.ref l, H, I, rfl, q⟩
  · exact op_repT pins s σ H x y v u Q I rx ry h

theorem hu65 {A : Around} {k : Nat} (hr : Room k A) : A.units + 65 < cLine := by
  have := hr.un
  omega
theorem pe_globI {X : Cx} {x : Str} {i : Int} {pos : Pos} (h : ∃ t, X.mg x = some (.int i t)) (hg : Gl X x) (hdb : (x == ("__debug__" : Str)) = false := by decide) : PE X (.Name x pos) (tC (.int i)) := by
  obtain ⟨t, h⟩ := h
  exact pe_glob hg h ⟨t, rfl⟩ hdb
/-- sorted(xs), fewer than 64 tuples of d ints in [0, B) -/
def rSortM (K : PySem.W.Frag) : List V → Hp → VK → Prop := fun vs H Q => ∃ d B, 1 ≤ d ∧ rSortU K d B vs H Q
theorem cr_sortM {X : Cx} : CallR X (.builtin "sorted") (rSortM X.K) := by
  intro pins s σ H vs us Q I r h
  obtain ⟨d, B, hd, h⟩ := h
  exact cr_sortT hd pins s σ H vs us Q I r h
/-! ### classes by name -/
/-- the def m stands in the class at C -/
def TopM (K : PySem.W.Frag) (C : Addr) (m qual : Str) (st : Stmt) (ps : List Str) : Prop :=
  ∃ (f : Addr) (fd : FuncData), Fun K m qual st f fd ∧ Meth K C m f ∧ Binds K fd ps []
def TopMK (K : PySem.W.Frag) (C : Addr) (m qual : Str) (st : Stmt) (ps ks : List Str) (gV : List V → List V → List V) : Prop :=
  ∃ (f : Addr) (fd : FuncData) (g : List Value → List Value → List Value), Fun K m qual st f fd ∧ Meth K C m f ∧ KBinds K fd ps ks g gV
def MethD (P : Program) (w : World) (K : PySem.W.Frag) (mg : Str → Option Value) (base : Heap) (C : Addr) (m : Str) (k : Nat) (ps : List Str) (sp : Sp) : Prop :=
  ∃ (f : Addr) (fd : FuncData), Meth K C m f ∧ FnOk P w K mg base CX0 k f fd ps sp ∧ Binds K fd ps [] ∧ ∃ (oc : Value) (od : Option Addr) (osl : Array (Option Value)), K.lookup f = some ⟨oc, od, .func fd, osl⟩
def MethDK (P : Program) (w : World) (K : PySem.W.Frag) (mg : Str → Option Value) (base : Heap) (C : Addr) (m : Str) (k : Nat) (ps ks : List Str) (gV : List V → List V → List V) (sp : Sp) : Prop :=
  ∃ (f : Addr) (fd : FuncData) (g : List Value → List Value → List Value), Meth K C m f ∧ FnOk P w K mg base CX0 k f fd ps sp ∧ KBinds K fd ps ks g gV
def MakeD (P : Program) (w : World) (K : PySem.W.Frag) (mg : Str → Option Value) (base : Heap) (C : Addr) (x : Str) (k : Nat) (ps : List Str) (sp : Sp) : Prop :=
  ∃ (f : Addr) (fd : FuncData), Mk K C f ∧ mg x = some (.ref C) ∧ FnOk P w K mg base CX0 k f fd ps sp ∧ Binds K fd ps []
section
variable {P : Program} {w : World} {K : PySem.W.Frag} {mg : Str → Option Value} {base : Heap} {C : Addr} {m qual x : Str} {st : Stmt} {ps N : List Str} {k : Nat} {sp : Sp}
theorem mk_meth (T : TopM K C m qual st ps) (S : FnScope N ps (defScope st)) (len : ∀ vs H Q E, sp vs H Q E → vs.length = ps.length)
    (hbody : ∀ (f : Addr) (cdv : Value) (A : Around) (outer : List Env) (s : Shared) (H : Hp) (vs : List V) (Q : VK) (E : XK), Room k (A.deeper (envOfC qual (defScope st) s.heap.objs.size f cdv)) → sp vs H Q E →
      ∃ t, PSs (cxOf CX0 P w K mg base N qual (defScope st) f cdv A outer s H E).nox (defBody st) t ∧ t { nx := fun _ H' => Q .non H', rt := Q } (start N vs) H) :
    MethD P w K mg base C m (k + 1) ps sp := by
  obtain ⟨f, fd, F, M, b⟩ := T
  obtain ⟨oc, _, _, _, _, _, _, _, osl, _, lk, _⟩ := id F.ex
  exact ⟨f, fd, M, F.ok S len (hbody f), b, _, _, _, lk⟩
theorem MethD.kw {ks : List Str} {gV : List V → List V → List V} (D : MethD P w K mg base C m k ps sp) (T : TopMK K C m qual st ps ks gV) : MethDK P w K mg base C m k ps ks gV sp := by
  obtain ⟨f, fd, M, F, b, _, _, _, lk⟩ := D
  obtain ⟨f', fd', g', F', M', b'⟩ := T
  have e := M'.at_.symm.trans M.at_
  obtain rfl : f' = f := Value.ref.inj (Option.some.inj (Option.some.inj e))
  obtain ⟨oc, _, _, _, _, _, _, _, osl, _, lk', _⟩ := id F'.ex
  rw [lk] at lk'
  cases lk'
  exact ⟨f', fd, g', M, F, b'⟩
theorem MethD.make (D : MethD P w K mg base C "__init__" k ps sp) (hm : PySem.W.makesIn K C = true) (hk : PySem.W.keepIn K (.ref C) = true) (hg : mg x = some (.ref C)) : MakeD P w K mg base C x k ps sp := by
  obtain ⟨f, fd, M, F, b, _⟩ := D
  exact ⟨f, fd, ⟨hm, M.at_, M.fn, hk⟩, hg, F, b⟩
end
section
variable {X : Cx} {C : Addr} {m x : Str} {k : Nat} {ps : List Str} {sp : Sp} {p pos apos : Pos} {o e : Expr} {es : List Expr} {ta : TE} {t : TA}
theorem pe_methM {pl : Sem Bool} (he : PE X o ta) (c : Cls X.K C) (D : MethD X.prog X.w X.K X.mg X.base C m k ps sp) (hr : Room k X.A) (ha : PA X (e :: es) t)
    (hst : starEach (e :: es) X.env = (false, eval e X.env) :: starEach es X.env := by rfl) (hpl : (backTo pos (starEach es X.env)).any (·.1) = false := by rfl)
    (ht : eval (.Call (.Attribute o m apos) (e :: es) [] pos) X.env = (do
      let ov ← eval o X.env
      standAt apos.atName
      let (f, first) ← holding [ov] (getMethod ov m pl)
      callWith pos f first (backTo pos (starEach (e :: es) X.env)) (backToKw pos (keywordEach [] X.env))) := by rfl) :
    PE X (.Call (.Attribute o m apos) (e :: es) [] pos) (tMeth C m sp [] E0 ta t) := by
  obtain ⟨f, fd, M, F, b, _⟩ := D
  exact pe_meth he c M F hr b .nil pass0 ha hst hpl ht
theorem pe_methM0 {pl : Sem Bool} (he : PE X o ta) (c : Cls X.K C) (D : MethD X.prog X.w X.K X.mg X.base C m k ps sp) (hr : Room k X.A)
    (ht : eval (.Call (.Attribute o m apos) [] [] pos) X.env = (do
      let ov ← eval o X.env
      standAt apos.atName
      let (f, first) ← holding [ov] (getMethod ov m pl)
      callWith pos f first (backTo pos (starEach [] X.env)) (backToKw pos (keywordEach [] X.env))) := by rfl) :
    PE X (.Call (.Attribute o m apos) [] [] pos) (tMeth C m sp [] E0 ta tNil) := by
  obtain ⟨f, fd, M, F, b, _⟩ := D
  exact pe_meth0 he c M F hr b .nil pass0 ht
theorem pe_methMK0 {pl : Sem Bool} {ks : List Str} {gV : List V → List V → List V} {kws : List Keyword} {tk : TA} (he : PE X o ta) (c : Cls X.K C) (D : MethDK X.prog X.w X.K X.mg X.base C m k ps ks gV sp) (hr : Room k X.A) (hkw : PK X kws tk)
    (hall : (backToKw pos (keywordEach kws X.env)).all (·.1.isSome) = true := by rfl) (hks : (backToKw pos (keywordEach kws X.env)).filterMap (·.1) = ks := by rfl)
    (hpl : ((backTo pos (starEach [] X.env)).any (·.1) || (backToKw pos (keywordEach kws X.env)).any (·.1.isNone)) = false := by rfl)
    (ht : eval (.Call (.Attribute o m apos) [] kws pos) X.env = (do
      let ov ← eval o X.env
      standAt apos.atName
      let (f, first) ← holding [ov] (getMethod ov m pl)
      callWith pos f first (backTo pos (starEach [] X.env)) (backToKw pos (keywordEach kws X.env))) := by rfl) :
    PE X (.Call (.Attribute o m apos) [] kws pos) (tMethK0 m C sp gV E0 ta tk) := by
  obtain ⟨f, fd, g, M, F, b⟩ := D
  exact pe_methK0 he c M F hr b pass0 hkw hall hks hpl ht
theorem pe_makeM (D : MakeD X.prog X.w X.K X.mg X.base C x k ps sp) (hr : Room (k + 1) X.A) (hg : Gl X x) (ha : PA X (e :: es) t) (hdb : (x == ("__debug__" : Str)) = false := by decide)
    (he : starEach (e :: es) X.env = (false, eval e X.env) :: starEach es X.env := by rfl) (hpl : (backTo pos (starEach es X.env)).any (·.1) = false := by rfl) :
    PE X (.Call (.Name x p) (e :: es) [] pos) (tMake C sp [] E0 t) := by
  obtain ⟨f, fd, M, hm, F, b⟩ := D
  exact pe_make M F hr hg hm b .nil pass0 ha hdb he hpl
theorem op_inM (D : MethD X.prog X.w X.K X.mg X.base C "__contains__" k ps sp) (hr : Room k X.A) : OpR X (compareOp .In) (rInOwn C sp E0) := by
  obtain ⟨f, fd, M, F, b, _⟩ := D
  exact op_inOwn F M.at_ M.fn b pass0 hr
end
/-- o.m(k = v): the object, then the value -/
def kwG {α : Type} : List α → List α → List α
  | [u], [w] => [u, w]
  | _, _ => []
theorem kw_rel : ∀ {vs : List V} {us : List Value} {zs : List V} {ws : List Value}, Vals vs us → Vals zs ws → Vals (kwG vs zs) (kwG us ws)
  | _, _, _, _, .nil, _ => .nil
  | _, _, _, _, .cons r .nil, .cons r' .nil => .cons r (.cons r' .nil)
  | _, _, _, _, .cons r .nil, .nil => .nil
  | _, _, _, _, .cons r .nil, .cons _ (.cons _ _) => .nil
  | _, _, _, _, .cons _ (.cons _ _), _ => .nil
theorem kw_binds {K : PySem.W.Frag} {fd : FuncData} {a b : Str} (h : ∀ (s : Shared) (u w : Value), K.In s.heap → BindsTo s fd ⟨[u], [(b, w)]⟩ [(a, u), (b, w)]) : KBinds K fd [a, b] [b] kwG kwG :=
  ⟨(fun s us ws X hl => match us, ws, hl with
    | [u], [w], _ => h s u w X
    | [], _, hl => nomatch hl
    | [_], [], hl => nomatch hl
    | [_], _ :: _ :: _, hl => nomatch hl
    | _ :: _ :: _, _, hl => nomatch hl), kw_rel⟩
end L2

namespace L2
open PySem PySem.Spec PyProof.Rows
/-- x & y, x | y by the class's own method; an object comes back -/
def rBinOwn (C : Addr) (sp : Sp) (E : XK) : R2 := fun x y H Q => ∃ a dx fs b dy gs, x = .ref a ∧ y = .ref b ∧ H a = some (.ins C dx fs) ∧ H b = some (.ins C dy gs) ∧ sp [.ref a, .ref b] H (fun v H' => ∃ c, v = .ref c ∧ Q (.ref c) H') E
theorem op_binM {X : Cx} {k : Nat} {C : Addr} {m : Str} {ps : List Str} {sp : Sp} {op : Operator} (hd : PySem.dunder op.info.2 = m) (D : MethD X.prog X.w X.K X.mg X.base C m k ps sp) (SF : PySem.W.selfFirst X.K C = true) (hr : Room k X.A) : OpR X (binaryOp op) (rBinOwn C sp E0) := by
  obtain ⟨f, fd, M, F, bd, _⟩ := D
  subst hd
  intro pins s σ H x y v u Q I rx ry h
  obtain ⟨a, dx, fs, b, dy, gs, rfl, rfl, ha, hb, q⟩ := h
  cases rx
  cases ry
  obtain ⟨mA, J, _⟩ := ins_get I.hok ha
  obtain ⟨mB, J', _⟩ := ins_get I.hok hb
  obtain ⟨od, J, _⟩ := J.look
  obtain ⟨od', J', _⟩ := J'.look
  obtain ⟨mm, hF⟩ := I.fr
  refine PySem.W.binop_K hF I.ok.mod.kin J J'.type SF M.at_ M.fn ?_
  have q2 : sp ([V.ref a, V.ref b] ++ []) H (fun v H' => ∃ c, v = V.ref c ∧ Q (.ref c) H') E0 := q
  refine thn (run_fn (us := [.ref a, .ref b]) (vs := [.ref a, .ref b]) (dvs := []) F hr bd .nil pass0 I (.cons rfl (.cons rfl .nil)) q2) fun r s' hz => ?_
  obtain ⟨z, H', I', rz, c, ez, q'⟩ := hz
  subst ez
  cases rz
  exact ⟨V.ref c, H', I', rfl, q'⟩
/-- what isinstance asks of a class -/
structure TxI (K : PySem.W.Frag) (C : Addr) : Prop where
  ha : PySem.W.findIn K (.ref C) "__class__" = some (some (.builtin "object.__class__"))
  hn : PySem.W.specialIn K (.builtin "object.__class__") "__get__" = some (some (.builtin "getset_descriptor.__get__"))
  htk : PySem.W.takesIn K (.builtin "object.__class__") = some true
  hm : PySem.W.mroIn K C (.type "object") = some true
  ko : PySem.W.kitOne K (.ref C) (.ref C) = some true
end L2
namespace L2
open PySem PySem.Spec PyProof.Rows
theorem kit_self {K : PySem.W.Frag} {C : Addr} : PySem.W.kitOne K (.ref C) (.ref C) = some true := by
  unfold PySem.W.kitOne
  rw [if_pos]
  simp
end L2

namespace L2
open PySem PySem.Spec PyProof.Rows
/-! ### min(l, default = d), l a list of moments of one length -/
theorem alike_ints : ∀ a b : List Int, PySem.W.alikeAll (a.map PyData.int) (b.map PyData.int) = true
  | [], _ => by simp [PySem.W.alikeAll]
  | _ :: _, [] => by simp [PySem.W.alikeAll]
  | x :: xs, y :: ys => by
    simp only [List.map_cons, PySem.W.alikeAll, PySem.W.alike, Bool.true_and]
    exact alike_ints xs ys
theorem alike_mo (a b : List Int) : PySem.W.alike (mo a) (mo b) = true := by
  unfold mo
  simp only [PySem.W.alike]
  exact alike_ints a b
theorem lt_ints : ∀ a b : List Int, a.length = b.length → PyProof.Rows.lexLt PyProof.Rows.itemOrd (PySem.W.keyToksAll (a.map PyData.int)) (PySem.W.keyToksAll (b.map PyData.int)) = HT.lexLt a b
  | [], [], _ => by
    simp [PySem.W.keyToksAll, PyProof.Rows.lexLt, HT.lexLt]
    rfl
  | x :: xs, y :: ys, h => by
    have ha : PySem.W.alike (.int x) (.int y) = true := by simp [PySem.W.alike]
    have he : PyData.eqv (.int x) (.int y) = decide (x = y) := by
      show (x == y) = _
      rw [Bool.eq_iff_iff]
      simp
    rw [List.map_cons, List.map_cons, HT.lexLt_cons]
    by_cases e : x = y
    · rw [if_pos e, PySem.W.dataLt_all_yes ha (by rw [he]; exact decide_eq_true e)]
      exact lt_ints xs ys (by simpa using h)
    · rw [if_neg e, PySem.W.dataLt_all_no ha (by rw [he]; exact decide_eq_false e), PySem.W.dataLt_int]
  | [], _ :: _, h => nomatch h
  | _ :: _, [], h => nomatch h
theorem dataLt_mo {a b : List Int} (h : a.length = b.length) : PySem.W.dataLt (mo a) (mo b) = HT.lexLt a b := by
  unfold mo
  rw [PySem.W.dataLt_tuple]
  exact lt_ints a b h
/-- the least of a list of rows, by the tuples' order; of equal ones the first -/
def minM (x : List Int) (xs : List (List Int)) : List Int := xs.foldl (fun a y => if HT.lexLt y a then y else a) x
theorem minD_mo {n : Nat} : ∀ (xs : List (List Int)) (x : List Int), x.length = n → (∀ y ∈ xs, y.length = n) → PySem.W.minD (mo x) (xs.map mo) = mo (minM x xs)
  | [], _, _, _ => rfl
  | y :: ys, x, hx, h => by
    have hy := h y List.mem_cons_self
    have hr : ∀ z ∈ ys, z.length = n := fun z hz => h z (List.mem_cons_of_mem _ hz)
    show PySem.W.minD (if PySem.W.dataLt (mo y) (mo x) = true then mo y else mo x) (ys.map mo) = mo (minM (if HT.lexLt y x = true then y else x) ys)
    rw [dataLt_mo (by rw [hy, hx])]
    by_cases e : HT.lexLt y x = true
    · rw [if_pos e, if_pos e]
      exact minD_mo ys y hy hr
    · rw [if_neg e, if_neg e]
      exact minD_mo ys x hx hr
def rMinDf (K : PySem.W.Frag) : List V → List V → Hp → VK → Prop := fun xs zs H Q => ∃ (a : Addr) (lv : List V) (ms : List (List Int)) (d : V) (n : Nat), xs = [V.ref a] ∧ zs = [d] ∧ SqL K H a lv ∧ DaAll K H lv (ms.map mo) ∧ (∀ m ∈ ms, m.length = n) ∧
  (ms = [] → Q d H) ∧ ∀ (y : List Int) (ys : List (List Int)) (v : V), ms = y :: ys → v ∈ lv → Mo K H v (minM y ys) → Q v H
theorem crk_minD {X : Cx} (hh : X.A.handled = none) (hu : X.A.units + 64 < cLine) : CallRK X (.builtin "min") ["default"] (rMinDf X.K) := by
  intro pins s σ H xs zs us ws Q I rx rz h
  obtain ⟨a, lv, ms, d, n, rfl, rfl, hs, hd, hn, q0, q1⟩ := h
  rw [Vals.ref1 rx]
  cases rz with
  | cons rd rn =>
    cases rn
    rename_i dv
    obtain ⟨its, rv, pl, hz⟩ := I.list hs
    obtain ⟨as, hr⟩ := Dp.readsAll I (ms.map mo) lv its (Da.dpAll _ _ hd) rv
    have hal : PySem.W.AlikeAll (ms.map mo) := by
      refine ⟨fun x hx y hy => ?_, fun x hx => ?_⟩
      · obtain ⟨x', _, rfl⟩ := List.mem_map.mp hx
        obtain ⟨y', _, rfl⟩ := List.mem_map.mp hy
        exact alike_mo x' y'
      · obtain ⟨x', _, rfl⟩ := List.mem_map.mp hx
        intro z
        cases z
    have hdep : ∀ ms : List (List Int), PyData.depthAll (ms.map mo) ≤ 1 := by
      intro ms
      induction ms with
      | nil => exact Nat.zero_le _
      | cons m ms ih =>
        show max (PyData.depthAll (m.map PyData.int) + 1) (PyData.depthAll (ms.map mo)) ≤ 1
        have : ∀ ns : List Int, PyData.depthAll (ns.map PyData.int) = 0 := by
          intro ns
          induction ns with
          | nil => rfl
          | cons n ns ih =>
            show max 0 (PyData.depthAll (ns.map PyData.int)) = 0
            rw [ih]
            rfl
        rw [this]
        exact Nat.max_le.mpr ⟨Nat.le_refl _, ih⟩
    have hd1 := hdep ms
    refine PySem.W.min_list_default (vs := its.toArray) hh pl.isList (by simpa using hr) hal (by omega) (fun e h' tk k => ?_) (fun y ys i v h' tk bs e hv hrd k => ?_)
    · have e' : ms = [] := by simpa using e
      exact ⟨d, H, I.kept k, rd, q0 e'⟩
    · cases ms with
      | nil => cases e
      | cons m ms =>
        cases e
        have hv' : its[i]? = some v := by simpa using hv
        obtain ⟨bs', r, hi, _, _⟩ := PySem.W.readsAll_at hr i v hv'
        have hi' : i < (m :: ms).length := by simpa using hi
        have r' := PySem.W.reads_keeps k r
        have hm : ((m :: ms).map mo).getD i .none = mo (m :: ms)[i] := by
          rw [List.getD_eq_getElem?_getD, List.getElem?_map, List.getElem?_eq_getElem hi']
          rfl
        rw [hm] at r'
        rw [minD_mo ms m (hn m List.mem_cons_self) fun z hz => hn z (List.mem_cons_of_mem _ hz)] at hrd
        have ec : ∀ ns : List Int, PyData.canLayAll0 (ns.map PyData.int) = true := by
          intro ns
          induction ns with
          | nil => rfl
          | cons n ns ih => exact ih
        have eu : mo (m :: ms)[i] = mo (minM m ms) := (Reads.unique r' _ _ hrd).1
        have lt : i < lv.length := by
          have := hd.length
          simp only [List.length_map] at this
          omega
        obtain ⟨dd, h1, h2⟩ := hd.get (i := i) (v := lv[i]) (by simp [lt])
        have hdd : dd = mo (m :: ms)[i] := by
          have : ((m :: ms).map mo)[i]? = some (mo (m :: ms)[i]) := by rw [List.getElem?_map, List.getElem?_eq_getElem hi']; rfl
          exact Option.some.inj (h1.symm.trans this)
        rw [hdd, eu] at h2
        obtain ⟨u, hu1, hu2⟩ := Vals.get (i := i) (x := lv[i]) rv (by simp [lt])
        have : u = v := Option.some.inj (hu1.symm.trans hv')
        subst this
        exact ⟨lv[i], H, I.kept k, hu2, q1 m ms lv[i] rfl (List.getElem_mem lt) h2⟩
end L2

namespace K4
open PySem PySem.Spec PyProof.Rows L2
def topS (i : Nat) : Stmt := PySem.Challenge.pw_deltamill_k04_whole_folds_part_exactly.main.body.getD i (.Pass ⟨0, 0, 0, 0⟩)
abbrev s_wall : Stmt := topS 0
abbrev N_wall : List Str := ["k"]
theorem sc_wall : FnScope N_wall ["k"] (defScope s_wall) := ⟨rfl, rfl, rfl, by decide +kernel, rfl, by decide +kernel, by decide +kernel⟩

abbrev sis_number : Stmt := topS 10
abbrev Nis_number : List Str := ["value"]
theorem scis_number : FnScope Nis_number ["value"] (defScope sis_number) := ⟨rfl, rfl, rfl, by decide +kernel, rfl, by decide +kernel, by decide +kernel⟩

abbrev scheck_axes : Stmt := topS 11
abbrev Ncheck_axes : List Str := ["axes"]
theorem sccheck_axes : FnScope Ncheck_axes ["axes"] (defScope scheck_axes) := ⟨rfl, rfl, rfl, by decide +kernel, rfl, by decide +kernel, by decide +kernel⟩

abbrev scheck_like_axes : Stmt := topS 12
abbrev Ncheck_like_axes : List Str := ["left", "right"]
theorem sccheck_like_axes : FnScope Ncheck_like_axes ["left", "right"] (defScope scheck_like_axes) := ⟨rfl, rfl, rfl, by decide +kernel, rfl, by decide +kernel, by decide +kernel⟩

abbrev sis_moment : Stmt := topS 14
abbrev Nis_moment : List Str := ["value", "axes", "coordinate"]
theorem scis_moment : FnScope Nis_moment ["value", "axes"] (defScope sis_moment) := ⟨rfl, rfl, rfl, by decide +kernel, rfl, by decide +kernel, by decide +kernel⟩

abbrev sbefore : Stmt := topS 15
abbrev Nbefore : List Str := ["first", "second", "low", "high"]
theorem scbefore : FnScope Nbefore ["first", "second"] (defScope sbefore) := ⟨rfl, rfl, rfl, by decide +kernel, rfl, by decide +kernel, by decide +kernel⟩

abbrev sjoin_of : Stmt := topS 16
abbrev Njoin_of : List Str := ["first", "second", "left", "right"]
theorem scjoin_of : FnScope Njoin_of ["first", "second"] (defScope sjoin_of) := ⟨rfl, rfl, rfl, by decide +kernel, rfl, by decide +kernel, by decide +kernel⟩

abbrev smeet_of : Stmt := topS 17
abbrev Nmeet_of : List Str := ["first", "second", "left", "right"]
theorem scmeet_of : FnScope Nmeet_of ["first", "second"] (defScope smeet_of) := ⟨rfl, rfl, rfl, by decide +kernel, rfl, by decide +kernel, by decide +kernel⟩

abbrev sminimal : Stmt := topS 19
abbrev Nminimal : List Str := ["moments", "found", "moment", "low"]
theorem scminimal : FnScope Nminimal ["moments"] (defScope sminimal) := ⟨rfl, rfl, rfl, by decide +kernel, rfl, by decide +kernel, by decide +kernel⟩

abbrev s_law_pot : Stmt := topS 22
abbrev N_law_pot : List Str := ["script", "pot", "cell"]
theorem sc_law_pot : FnScope N_law_pot ["script"] (defScope s_law_pot) := ⟨rfl, rfl, rfl, by decide +kernel, rfl, by decide +kernel, by decide +kernel⟩

abbrev s_law_draw : Stmt := topS 23
abbrev N_law_draw : List Str := ["pot", "size", "digit"]
theorem sc_law_draw : FnScope N_law_draw ["pot", "size"] (defScope s_law_draw) := ⟨rfl, rfl, rfl, by decide +kernel, rfl, by decide +kernel, by decide +kernel⟩

abbrev s_law_great : Stmt := topS 24
abbrev N_law_great : List Str := ["pot", "high"]
theorem sc_law_great : FnScope N_law_great ["pot"] (defScope s_law_great) := ⟨rfl, rfl, rfl, by decide +kernel, rfl, by decide +kernel, by decide +kernel⟩

abbrev s_law_levels : Stmt := topS 25
abbrev N_law_levels : List Str := ["pot", "many", "levels", "k", "gap", "wide"]
theorem sc_law_levels : FnScope N_law_levels ["pot", "many"] (defScope s_law_levels) := ⟨rfl, rfl, rfl, by decide +kernel, rfl, by decide +kernel, by decide +kernel⟩

abbrev s_law_grid : Stmt := topS 26
abbrev N_law_grid : List Str := ["levels", "grid", "row", "longer", "head", "level"]
theorem sc_law_grid : FnScope N_law_grid ["levels"] (defScope s_law_grid) := ⟨rfl, rfl, rfl, by decide +kernel, rfl, by decide +kernel, by decide +kernel⟩

abbrev s_law_is_integer : Stmt := topS 27
abbrev N_law_is_integer : List Str := ["told"]
theorem sc_law_is_integer : FnScope N_law_is_integer ["told"] (defScope s_law_is_integer) := ⟨rfl, rfl, rfl, by decide +kernel, rfl, by decide +kernel, by decide +kernel⟩

abbrev s_law_is_moment : Stmt := topS 28
abbrev N_law_is_moment : List Str := ["told", "span", "one"]
theorem sc_law_is_moment : FnScope N_law_is_moment ["told", "span"] (defScope s_law_is_moment) := ⟨rfl, rfl, rfl, by decide +kernel, rfl, by decide +kernel, by decide +kernel⟩

abbrev s_law_are_moments : Stmt := topS 29
abbrev N_law_are_moments : List Str := ["told", "span", "one"]
theorem sc_law_are_moments : FnScope N_law_are_moments ["told", "span"] (defScope s_law_are_moments) := ⟨rfl, rfl, rfl, by decide +kernel, rfl, by decide +kernel, by decide +kernel⟩

abbrev s_law_before : Stmt := topS 30
abbrev N_law_before : List Str := ["one", "mate", "k"]
theorem sc_law_before : FnScope N_law_before ["one", "mate"] (defScope s_law_before) := ⟨rfl, rfl, rfl, by decide +kernel, rfl, by decide +kernel, by decide +kernel⟩

abbrev s_law_join : Stmt := topS 31
abbrev N_law_join : List Str := ["one", "mate", "k"]
theorem sc_law_join : FnScope N_law_join ["one", "mate"] (defScope s_law_join) := ⟨rfl, rfl, rfl, by decide +kernel, rfl, by decide +kernel, by decide +kernel⟩

abbrev s_law_least : Stmt := topS 32
abbrev N_law_least : List Str := ["given", "least", "one", "mate"]
theorem sc_law_least : FnScope N_law_least ["given"] (defScope s_law_least) := ⟨rfl, rfl, rfl, by decide +kernel, rfl, by decide +kernel, by decide +kernel⟩

abbrev s_law_is_open : Stmt := topS 33
abbrev N_law_is_open : List Str := ["least", "one", "low"]
theorem sc_law_is_open : FnScope N_law_is_open ["least", "one"] (defScope s_law_is_open) := ⟨rfl, rfl, rfl, by decide +kernel, rfl, by decide +kernel, by decide +kernel⟩

abbrev s_law_coordinate : Stmt := topS 34
abbrev N_law_coordinate : List Str := ["pot", "pick"]
theorem sc_law_coordinate : FnScope N_law_coordinate ["pot"] (defScope s_law_coordinate) := ⟨rfl, rfl, rfl, by decide +kernel, rfl, by decide +kernel, by decide +kernel⟩

abbrev s_law_moment : Stmt := topS 35
abbrev N_law_moment : List Str := ["pot", "span", "k"]
theorem sc_law_moment : FnScope N_law_moment ["pot", "span"] (defScope s_law_moment) := ⟨rfl, rfl, rfl, by decide +kernel, rfl, by decide +kernel, by decide +kernel⟩

abbrev s_law_first_unlike : Stmt := topS 36
abbrev N_law_first_unlike : List Str := ["one", "mate", "later_ones", "k"]
theorem sc_law_first_unlike : FnScope N_law_first_unlike ["one", "mate", "later_ones"] (defScope s_law_first_unlike) := ⟨rfl, rfl, rfl, by decide +kernel, rfl, by decide +kernel, by decide +kernel⟩

abbrev s_law_asked : Stmt := topS 37
abbrev N_law_asked : List Str := ["front", "one", "mate", "way"]
theorem sc_law_asked : FnScope N_law_asked ["front", "one", "mate", "way"] (defScope s_law_asked) := ⟨rfl, rfl, rfl, by decide +kernel, rfl, by decide +kernel, by decide +kernel⟩

abbrev s_law_parting_is : Stmt := topS 38
abbrev N_law_parting_is : List Str := ["told", "due", "span"]
theorem sc_law_parting_is : FnScope N_law_parting_is ["told", "due", "span"] (defScope s_law_parting_is) := ⟨rfl, rfl, rfl, by decide +kernel, rfl, by decide +kernel, by decide +kernel⟩

abbrev s_law_pair_holds : Stmt := topS 39
abbrev N_law_pair_holds : List Str := ["grid", "sights", "folds", "j", "k", "due"]
theorem sc_law_pair_holds : FnScope N_law_pair_holds ["grid", "sights", "folds", "j", "k", "due"] (defScope s_law_pair_holds) := ⟨rfl, rfl, rfl, by decide +kernel, rfl, by decide +kernel, by decide +kernel⟩

abbrev s_law_grid_holds : Stmt := topS 40
abbrev N_law_grid_holds : List Str := ["front", "grid", "later_ones", "span", "way", "sights", "mate", "one", "folds", "k", "j", "due", "told"]
theorem sc_law_grid_holds : FnScope N_law_grid_holds ["front", "grid", "later_ones", "span", "way"] (defScope s_law_grid_holds) := ⟨rfl, rfl, rfl, by decide +kernel, rfl, by decide +kernel, by decide +kernel⟩

abbrev s_law_parts : Stmt := topS 41
abbrev N_law_parts : List Str := ["least", "one", "mate", "spot"]
theorem sc_law_parts : FnScope N_law_parts ["least", "one", "mate", "spot"] (defScope s_law_parts) := ⟨rfl, rfl, rfl, by decide +kernel, rfl, by decide +kernel, by decide +kernel⟩

abbrev s_law_free_holds : Stmt := topS 42
abbrev N_law_free_holds : List Str := ["given", "one", "mate", "way", "least", "front", "told", "joins", "low", "spot"]
theorem sc_law_free_holds : FnScope N_law_free_holds ["given", "one", "mate", "way"] (defScope s_law_free_holds) := ⟨rfl, rfl, rfl, by decide +kernel, rfl, by decide +kernel, by decide +kernel⟩

abbrev slaw : Stmt := topS 43
abbrev Nlaw : List Str := ["script", "pot", "span", "grid", "k", "given", "way", "front", "later_ones", "one", "free", "mate", "place"]
theorem sclaw : FnScope Nlaw ["script"] (defScope slaw) := ⟨rfl, rfl, rfl, by decide +kernel, rfl, by decide +kernel, by decide +kernel⟩

abbrev sFront___init__ : Stmt := inClass (topS 20) 0
abbrev NFront___init__ : List Str := ["self", "axes", "moments", "given", "moment"]
theorem scFront___init__ : FnScope NFront___init__ ["self", "axes", "moments"] (defScope sFront___init__) := ⟨rfl, rfl, rfl, by decide +kernel, rfl, by decide +kernel, by decide +kernel⟩

abbrev sFront_fold : Stmt := inClass (topS 20) 5
abbrev NFront_fold : List Str := ["self", "moment", "folded", "low"]
theorem scFront_fold : FnScope NFront_fold ["self", "moment"] (defScope sFront_fold) := ⟨rfl, rfl, rfl, by decide +kernel, rfl, by decide +kernel, by decide +kernel⟩

abbrev sFront_parting : Stmt := inClass (topS 20) 6
abbrev NFront_parting : List Str := ["self", "first", "second", "joins", "moment", "low", "at"]
theorem scFront_parting : FnScope NFront_parting ["self", "first", "second"] (defScope sFront_parting) := ⟨rfl, rfl, rfl, by decide +kernel, rfl, by decide +kernel, by decide +kernel⟩

abbrev sFront___contains__ : Stmt := inClass (topS 20) 7
abbrev NFront___contains__ : List Str := ["self", "x", "low"]
theorem scFront___contains__ : FnScope NFront___contains__ ["self", "x"] (defScope sFront___contains__) := ⟨rfl, rfl, rfl, by decide +kernel, rfl, by decide +kernel, by decide +kernel⟩

/-- the built-in names that the text uses are the built-in ones -/
structure Bt (mg : Str → Option Value) : Prop where
  m_all : mg "all" = none
  m_zip : mg "zip" = none
  m_tuple : mg "tuple" = none
  m_max : mg "max" = none
  m_min : mg "min" = none
  m_int : mg "int" = none
  m_bool : mg "bool" = none
  m_len : mg "len" = none
  m_range : mg "range" = none
  m_isinstance : mg "isinstance" = none
  m_list : mg "list" = none
  m_any : mg "any" = none
  m_set : mg "set" = none
  m_sorted : mg "sorted" = none
end K4

namespace K4
open PySem PySem.Spec PyProof.Rows L2
section
variable {P : Program} {w : World} {K : PySem.W.Frag} {mg : Str → Option Value} {base : Heap}
/-! ### before, join_of, meet_of -/
def leL (ns ms : List Int) : List Bool := List.zipWith (fun x y => decide (x ≤ y)) ns ms
def leB (ns ms : List Int) : Bool := (leL ns ms).all id
def joinL (ns ms : List Int) : List Int := List.zipWith (fun x y => if y > x then y else x) ns ms
def meetL (ns ms : List Int) : List Int := List.zipWith (fun x y => if y < x then y else x) ns ms
/-- two moments of one length in, a bool out -/
def spB (K : PySem.W.Frag) (g : List Int → List Int → Bool) : Sp := fun vs H Q _ => ∃ (a b : Addr) (ns ms : List Int), vs = [.ref a, .ref b] ∧ SqT K H a (ns.map V.int) ∧ SqT K H b (ms.map V.int) ∧ ns.length = ms.length ∧ ns.length ≤ 1000 ∧
  ∀ H', Same H H' → Q (.bl (g ns ms)) H'
/-- two moments of one length in, a new moment out -/
def spM (K : PySem.W.Frag) (g : List Int → List Int → List Int) : Sp := fun vs H Q _ => ∃ (a b : Addr) (ns ms : List Int), vs = [.ref a, .ref b] ∧ SqT K H a (ns.map V.int) ∧ SqT K H b (ms.map V.int) ∧ ns.length = ms.length ∧ ns.length ≤ 1000 ∧
  ∀ H' p, Same H H' → H p = none → H' p = some (.tup ((g ns ms).map V.int)) → Q (.ref p) H'
theorem len2 {g : List Int → List Int → Bool} : ∀ vs H Q E, spB K g vs H Q E → vs.length = 2 := by
  rintro _ _ _ _ ⟨a, b, ns, ms, rfl, _⟩
  rfl
theorem len2m {g : List Int → List Int → List Int} : ∀ vs H Q E, spM K g vs H Q E → vs.length = 2 := by
  rintro _ _ _ _ ⟨a, b, ns, ms, rfl, _⟩
  rfl
theorem int_at {ns : List Int} {i : Nat} {x : V} (h : (ns.map V.int)[i]? = some x) : ∃ n, ns[i]? = some n ∧ x = .int n := by
  rw [List.getElem?_map] at h
  cases e : ns[i]? with
  | none => rw [e] at h; cases h
  | some n => rw [e] at h; exact ⟨n, rfl, (Option.some.inj h).symm⟩
theorem d_before (B : Bt mg) (T : Top K mg "before" sbefore ["first", "second"]) : Def P w K mg base "before" 1 ["first", "second"] (spB K leB) := by
  refine mk_def T scbefore len2 fun f cdv A outer s H vs Q E hr h => ?_
  obtain ⟨a, b, ns, ms, rfl, ha, hb, hl, hn, q⟩ := h
  refine ⟨_, (pss_one (ps_ret (pe_callB (cr_all rfl) (by rfl) B.m_all (by decide +kernel) (pa_cons (pe_lc (own := [("low", 2), ("high", 3)]) (g := (gTup K 2 (gCons (gName 2) (gCons (gName 3) gNil)))) (tt := tYes) (te := (tOp yLe (tVar 2) (tVar 3))) rfl scbefore.nd (RZ.pi_zipA (by rfl) B.m_zip (pa_cons (pv 0) (pa_cons (pv 1) pa_nil))) (blkOk_by (own := [("low", 2), ("high", 3)]) (N := Nbefore) (sc := defScope sbefore) (by decide +kernel)) (fun _ _ _ _ _ => (pg_tup rfl (pgs_cons (pg_name (i := 2) scbefore.nd rfl (Or.inl rfl)) (pgs_cons (pg_name (i := 3) scbefore.nd rfl (Or.inl rfl)) pgs_nil)))) (fun _ _ _ _ _ => pts_nil) (fun _ _ _ _ _ => (pe_cmpR op_le (pv 2) (pv 3) (nomark _)))) pa_nil)))), ?_⟩
  refine ⟨.ref a, rfl, .ref b, rfl, a, b, _, _, rfl, .inr ⟨ha, hb, fun L hL => ?_⟩⟩
  refine lc_val (walk_zipT (by simpa using hl)) hL (by simp; omega) (fun H1 e => ⟨e.seqT ha, e.seqT hb⟩) ((leL ns ms).map V.bl) (by simp [leL]; omega) (fun i x H1 H2 Q' hi e y k => ?_) (fun H1 e eL => ?_)
  · obtain ⟨T', x', z', rfl, nT, rfl, hx, hz⟩ := y
    obtain ⟨x1, hx1, rfl⟩ := int_at hx
    obtain ⟨z1, hz1, rfl⟩ := int_at hz
    refine ⟨T', [.int x1, .int z1], rfl, .inl (.inl upd_same), rfl, _, _, rfl, _, _, rfl, rfl, rfl, _, rfl, _, rfl, _, _, rfl, rfl, ?_⟩
    exact k _ _ (same_upd nT) (by simp [leL, List.getElem?_zipWith, hx1, hz1])
  · exact ⟨L, leL ns ms, rfl, SqL.of eL, q H1 e⟩
end
end K4

namespace K4
open PySem PySem.Spec PyProof.Rows L2
section
variable {P : Program} {w : World} {K : PySem.W.Frag} {mg : Str → Option Value} {base : Heap}
theorem d_join_of (B : Bt mg) (T : Top K mg "join_of" sjoin_of ["first", "second"]) : Def P w K mg base "join_of" 1 ["first", "second"] (spM K joinL) := by
  refine mk_def T scjoin_of len2m fun f cdv A outer s H vs Q E hr h => ?_
  obtain ⟨a, b, ns, ms, rfl, ha, hb, hl, hn, q⟩ := h
  refine ⟨_, (pss_one (ps_ret (pe_callTy call_tuple_of (by rfl) B.m_tuple (by decide +kernel) (pa_cons (pe_lc (own := [("left", 2), ("right", 3)]) (g := (gTup K 2 (gCons (gName 2) (gCons (gName 3) gNil)))) (tt := tYes) (te := (tCB yMax (tCons (tVar 2) (tCons (tVar 3) tNil)))) rfl scjoin_of.nd (RZ.pi_zipA (by rfl) B.m_zip (pa_cons (pv 0) (pa_cons (pv 1) pa_nil))) (blkOk_by (own := [("left", 2), ("right", 3)]) (N := Njoin_of) (sc := defScope sjoin_of) (by decide +kernel)) (fun _ _ _ _ _ => (pg_tup rfl (pgs_cons (pg_name (i := 2) scjoin_of.nd rfl (Or.inl rfl)) (pgs_cons (pg_name (i := 3) scjoin_of.nd rfl (Or.inl rfl)) pgs_nil)))) (fun _ _ _ _ _ => pts_nil) (fun _ _ _ _ _ => (pe_callB (call_max2 rfl) (by rfl) B.m_max (by decide +kernel) (pa_cons (pv 2) (pa_cons (pv 3) pa_nil))))) pa_nil)))), ?_⟩
  refine ⟨.ref a, rfl, .ref b, rfl, a, b, _, _, rfl, .inr ⟨ha, hb, fun L hL => ?_⟩⟩
  refine lc_val (walk_zipT (by simpa using hl)) hL (by simp; omega) (fun H1 e => ⟨e.seqT ha, e.seqT hb⟩) ((joinL ns ms).map V.int) (by simp [joinL]; omega) (fun i x H1 H2 Q' hi e y k => ?_) (fun H1 e eL => ?_)
  · obtain ⟨T', x', z', rfl, nT, rfl, hx, hz⟩ := y
    obtain ⟨x1, hx1, rfl⟩ := int_at hx
    obtain ⟨z1, hz1, rfl⟩ := int_at hz
    refine ⟨T', [.int x1, .int z1], rfl, .inl (.inl upd_same), rfl, _, _, rfl, _, _, rfl, rfl, rfl, _, rfl, _, rfl, _, _, rfl, ?_⟩
    exact k _ _ (same_upd nT) (by simp [joinL, List.getElem?_zipWith, hx1, hz1])
  · exact ⟨L, _, rfl, .inl ⟨SqL.of eL, fun p hp => q _ p (e.trans (same_upd hp)) (e.new hp) upd_same⟩⟩
theorem d_meet_of (B : Bt mg) (T : Top K mg "meet_of" smeet_of ["first", "second"]) : Def P w K mg base "meet_of" 1 ["first", "second"] (spM K meetL) := by
  refine mk_def T scmeet_of len2m fun f cdv A outer s H vs Q E hr h => ?_
  obtain ⟨a, b, ns, ms, rfl, ha, hb, hl, hn, q⟩ := h
  refine ⟨_, (pss_one (ps_ret (pe_callTy call_tuple_of (by rfl) B.m_tuple (by decide +kernel) (pa_cons (pe_lc (own := [("left", 2), ("right", 3)]) (g := (gTup K 2 (gCons (gName 2) (gCons (gName 3) gNil)))) (tt := tYes) (te := (tCB yMin (tCons (tVar 2) (tCons (tVar 3) tNil)))) rfl scmeet_of.nd (RZ.pi_zipA (by rfl) B.m_zip (pa_cons (pv 0) (pa_cons (pv 1) pa_nil))) (blkOk_by (own := [("left", 2), ("right", 3)]) (N := Nmeet_of) (sc := defScope smeet_of) (by decide +kernel)) (fun _ _ _ _ _ => (pg_tup rfl (pgs_cons (pg_name (i := 2) scmeet_of.nd rfl (Or.inl rfl)) (pgs_cons (pg_name (i := 3) scmeet_of.nd rfl (Or.inl rfl)) pgs_nil)))) (fun _ _ _ _ _ => pts_nil) (fun _ _ _ _ _ => (pe_callB (call_min2 rfl) (by rfl) B.m_min (by decide +kernel) (pa_cons (pv 2) (pa_cons (pv 3) pa_nil))))) pa_nil)))), ?_⟩
  refine ⟨.ref a, rfl, .ref b, rfl, a, b, _, _, rfl, .inr ⟨ha, hb, fun L hL => ?_⟩⟩
  refine lc_val (walk_zipT (by simpa using hl)) hL (by simp; omega) (fun H1 e => ⟨e.seqT ha, e.seqT hb⟩) ((meetL ns ms).map V.int) (by simp [meetL]; omega) (fun i x H1 H2 Q' hi e y k => ?_) (fun H1 e eL => ?_)
  · obtain ⟨T', x', z', rfl, nT, rfl, hx, hz⟩ := y
    obtain ⟨x1, hx1, rfl⟩ := int_at hx
    obtain ⟨z1, hz1, rfl⟩ := int_at hz
    refine ⟨T', [.int x1, .int z1], rfl, .inl (.inl upd_same), rfl, _, _, rfl, _, _, rfl, rfl, rfl, _, rfl, _, rfl, _, _, rfl, ?_⟩
    exact k _ _ (same_upd nT) (by simp [meetL, List.getElem?_zipWith, hx1, hz1])
  · exact ⟨L, _, rfl, .inl ⟨SqL.of eL, fun p hp => q _ p (e.trans (same_upd hp)) (e.new hp) upd_same⟩⟩
/-! ### the law's own -/
theorem d_law_before (B : Bt mg) (T : Top K mg "_law_before" s_law_before ["one", "mate"]) : Def P w K mg base "_law_before" 1 ["one", "mate"] (spB K leB) := by
  refine mk_def T sc_law_before len2 fun f cdv A outer s H vs Q E hr h => ?_
  obtain ⟨a, b, ns, ms, rfl, ha, hb, hl, hn, q⟩ := h
  refine ⟨_, (pss_one (ps_ret (pe_callB (cr_all rfl) (by rfl) B.m_all (by decide +kernel) (pa_cons (pe_lc (own := [("k", 2)]) (g := (gName 2)) (tt := tYes) (te := (tOp yLe (tOp (rIxT K) (tVar 0) (tVar 2)) (tOp (rIxT K) (tVar 1) (tVar 2)))) rfl sc_law_before.nd (pi_range1 (by rfl) B.m_range (pa_cons (pe_callB call_len_seq (by rfl) B.m_len PySem.boot_len (pa_cons (pv 0) pa_nil)) pa_nil)) (blkOk_by (own := [("k", 2)]) (N := N_law_before) (sc := defScope s_law_before) (by decide +kernel)) (fun _ _ _ _ _ => (pg_name (i := 2) sc_law_before.nd rfl (Or.inl rfl))) (fun _ _ _ _ _ => pts_nil) (fun _ _ _ _ _ => (pe_cmpR op_le (pe_ix ix_tup (pv 0) (pv 2) (fun _ _ => rfl)) (pe_ix ix_tup (pv 1) (pv 2) (fun _ _ => rfl)) (nomark _)))) pa_nil)))), ?_⟩
  refine ⟨.ref a, rfl, a, _, rfl, .inr ha, _, rfl, by omega, by simp; omega, fun L hL => ?_⟩
  refine lc_val walk_range hL (by simp; omega) (fun H1 e => True.intro) ((leL ns ms).map V.bl) (by simp [leL]; omega) (fun i x H1 H2 Q' hi e y k => ?_) (fun H1 e eL => ?_)
  · obtain ⟨rfl, rfl⟩ := y
    have hi1 : i < ns.length := by simpa using hi
    have hi2 : i < ms.length := by omega
    refine ⟨rfl, .ref a, rfl, _, rfl, a, _, _, .int ns[i], rfl, rfl, e.seqT ha, at_of (j := i) (by omega) (by simp [hi1]), .ref b, rfl, _, rfl, b, _, _, .int ms[i], rfl, rfl, e.seqT hb, at_of (j := i) (by omega) (by simp [hi2]), _, _, rfl, rfl, ?_⟩
    exact k _ _ (Same.refl _) (by simp [leL, List.getElem?_zipWith, hi1, hi2])
  · exact ⟨L, leL ns ms, rfl, SqL.of eL, q H1 e⟩
theorem d_law_join (B : Bt mg) (T : Top K mg "_law_join" s_law_join ["one", "mate"]) : Def P w K mg base "_law_join" 1 ["one", "mate"] (spM K joinL) := by
  refine mk_def T sc_law_join len2m fun f cdv A outer s H vs Q E hr h => ?_
  obtain ⟨a, b, ns, ms, rfl, ha, hb, hl, hn, q⟩ := h
  refine ⟨_, (pss_one (ps_ret (pe_callTy call_tuple_of (by rfl) B.m_tuple (by decide +kernel) (pa_cons (pe_lc (own := [("k", 2)]) (g := (gName 2)) (tt := tYes) (te := (tCB yMax (tCons (tOp (rIxT K) (tVar 0) (tVar 2)) (tCons (tOp (rIxT K) (tVar 1) (tVar 2)) tNil)))) rfl sc_law_join.nd (pi_range1 (by rfl) B.m_range (pa_cons (pe_callB call_len_seq (by rfl) B.m_len PySem.boot_len (pa_cons (pv 0) pa_nil)) pa_nil)) (blkOk_by (own := [("k", 2)]) (N := N_law_join) (sc := defScope s_law_join) (by decide +kernel)) (fun _ _ _ _ _ => (pg_name (i := 2) sc_law_join.nd rfl (Or.inl rfl))) (fun _ _ _ _ _ => pts_nil) (fun _ _ _ _ _ => (pe_callB (call_max2 rfl) (by rfl) B.m_max (by decide +kernel) (pa_cons (pe_ix ix_tup (pv 0) (pv 2) (fun _ _ => rfl)) (pa_cons (pe_ix ix_tup (pv 1) (pv 2) (fun _ _ => rfl)) pa_nil))))) pa_nil)))), ?_⟩
  refine ⟨.ref a, rfl, a, _, rfl, .inr ha, _, rfl, by omega, by simp; omega, fun L hL => ?_⟩
  refine lc_val walk_range hL (by simp; omega) (fun H1 e => True.intro) ((joinL ns ms).map V.int) (by simp [joinL]; omega) (fun i x H1 H2 Q' hi e y k => ?_) (fun H1 e eL => ?_)
  · obtain ⟨rfl, rfl⟩ := y
    have hi1 : i < ns.length := by simpa using hi
    have hi2 : i < ms.length := by omega
    refine ⟨rfl, .ref a, rfl, _, rfl, a, _, _, .int ns[i], rfl, rfl, e.seqT ha, at_of (j := i) (by omega) (by simp [hi1]), .ref b, rfl, _, rfl, b, _, _, .int ms[i], rfl, rfl, e.seqT hb, at_of (j := i) (by omega) (by simp [hi2]), _, _, rfl, ?_⟩
    exact k _ _ (Same.refl _) (by simp [joinL, List.getElem?_zipWith, hi1, hi2])
  · exact ⟨L, _, rfl, .inl ⟨SqL.of eL, fun p hp => q _ p (e.trans (same_upd hp)) (e.new hp) upd_same⟩⟩
def spIsInt : Sp := fun vs H Q _ => ∃ i : Int, vs = [.int i] ∧ ∀ H', Same H H' → Q (.bl true) H'
theorem d_law_is_integer (B : Bt mg) (T : Top K mg "_law_is_integer" s_law_is_integer ["told"]) : Def P w K mg base "_law_is_integer" 1 ["told"] spIsInt := by
  refine mk_def T sc_law_is_integer (by rintro _ _ _ _ ⟨i, rfl, _⟩; rfl) fun f cdv A outer s H vs Q E hr h => ?_
  obtain ⟨i, rfl, q⟩ := h
  refine ⟨_, (pss_one (ps_ret (pe_and (pe_callB call_isi (by rfl) B.m_isinstance (by decide +kernel) (pa_cons (pv 0) (pa_cons (pe_bltn (v := .ty "int") (by rfl) B.m_int (by decide +kernel) rfl) pa_nil))) (pe_one (pe_not (pe_callB call_isi (by rfl) B.m_isinstance (by decide +kernel) (pa_cons (pv 0) (pa_cons (pe_bltn (v := .ty "bool") (by rfl) B.m_bool (by decide +kernel) rfl) pa_nil)))))))), ?_⟩
  refine ⟨.int i, rfl, _, _, .type "int", .type "int", true, rfl, .ty _, .base (.int i), kit_ty (by decide +kernel), _, rfl, ?_⟩
  refine ⟨.int i, rfl, _, _, .type "int", .type "bool", false, rfl, .ty _, .base (.int i), kit_ty (by decide +kernel), _, rfl, ?_⟩
  exact q H (Same.refl _)
end
end K4

namespace K4
open PySem PySem.Spec PyProof.Rows L2
section
variable {P : Program} {w : World} {K : PySem.W.Frag} {mg : Str → Option Value} {base : Heap}
/-- the pot that numbers are drawn from -/
def PotAt (H : Hp) (p : Addr) : Prop := ∃ a b c : Int, H p = some (.lst [.int a, .int b, .int c]) ∧ 0 ≤ a ∧ 0 ≤ b ∧ 0 ≤ c
def spPot (K : PySem.W.Frag) : Sp := fun vs H Q _ => ∃ (a : Addr) (ns : List Int), vs = [.ref a] ∧ SqL K H a (ns.map V.int) ∧ ∀ H' p, Same H H' → H p = none → PotAt H' p → Q (.ref p) H'
theorem d_law_pot (B : Bt mg) (T : Top K mg "_law_pot" s_law_pot ["script"]) : Def P w K mg base "_law_pot" 1 ["script"] (spPot K) := by
  refine mk_def T sc_law_pot (by rintro _ _ _ _ ⟨a, ns, rfl, _⟩; rfl) fun f cdv A outer s H vs Q E hr h => ?_
  obtain ⟨a, ns, rfl, ha, q⟩ := h
  refine ⟨_, (pss_cons (ps_set (i := 1) sc_law_pot.nd rfl (Or.inl rfl) (pe_lst (pa_cons pe_int (pa_cons pe_int (pa_cons pe_int pa_nil)))))
      (pss_cons (ps_for PassesOwn.never rfl (pi_list (pv 0)) (pg_name (i := 2) sc_law_pot.nd rfl (Or.inl rfl)) (Evl.pss_cut (ps_if (pw_and (pt_cmpR op_eq (pe_ix ix_list (pv 1) pe_int (fun _ _ => rfl)) pe_int (nomark _)) (pw_and1 (pt_cmpR op_ge (pv 2) (pe_op op_pow pe_int pe_int) (nomark _)))).pt (pss_one (ps_asg (pv 2) (pg_sub (pv 1) pe_int set_list))) pss_nil)
      (pss_one (ps_asg (pe_op op_mod (pe_callTy call_int1 (by rfl) B.m_int (by decide +kernel) (pa_cons (pe_op op_add (pe_op op_add (pe_op op_mul (pe_ix ix_list (pv 1) pe_int (fun _ _ => rfl)) pe_int) (pe_op op_mul (pv 2) pe_int)) pe_int) pa_nil)) pe_int) (pg_sub (pv 1) pe_int set_list)))))
      (pss_one (ps_ret (pv 1))))), ?_⟩
  refine ⟨by show 3 ≤ sizeLine; decide, fun p hp => ?_⟩
  refine ⟨.ref a, rfl, a, rfl, ⟨_, (same_upd hp).seq ha⟩, ?_⟩
  refine for_list (xs := ns.map V.int) (fun i σ H' => ∃ y2, σ = [some (.ref a), some (.ref p), y2] ∧ Same H H' ∧ PotAt H' p) ⟨_, rfl, same_upd hp, 0, 20011, 0, upd_same, by decide, by decide, by decide⟩ (fun i σ H' _ pv' => ?_) (fun i x σ H' hx pv' => ?_) (fun σ H' pv' => ?_)
  · obtain ⟨y2, rfl, e, _⟩ := pv'
    exact e.seq ha
  · obtain ⟨y2, rfl, e, pa, pb, pc, ep, h1, h2, h3⟩ := pv'
    obtain ⟨c, hc, rfl⟩ := int_at hx
    refine ⟨fun σ' H3 => ∃ pa' : Int, σ' = [some (.ref a), some (.ref p), some (.int c)] ∧ H3 p = some (.lst [.int pa', .int pb, .int pc]) ∧ 0 ≤ pa' ∧ Same H H3, ?_, ?_⟩
    · refine ⟨.ref p, rfl, p, _, 0, .int pa, rfl, rfl, SqL.of ep, atI_nat (j := 0) rfl, rfl, _, rfl, ite2 (fun z => ?_) (fun z => iteF ⟨pa, rfl, ep, h1, e⟩)⟩
      refine ⟨.int c, rfl, _, _, rfl, rfl, ⟨by decide, by decide, by decide⟩, _, _, rfl, rfl, _, rfl, ite2 (fun z2 => ?_) (fun z2 => ⟨pa, rfl, ep, h1, e⟩)⟩
      refine ⟨.int c, rfl, .ref p, rfl, p, _, 0, 0, rfl, rfl, ep, rfl, ?_⟩
      have hc2 : (10 : Int) ^ (18 : Int).toNat ≤ c := of_decide_eq_true z2
      have h18 : (0 : Int) ≤ (10 : Int) ^ (18 : Int).toNat := by decide
      exact ⟨c, rfl, upd_same, by omega, e.mut hp⟩
    · rintro σ' H3 ⟨pa', rfl, e3, h0, s3⟩
      refine ⟨.ref p, rfl, p, _, 1, .int pb, rfl, rfl, SqL.of e3, atI_nat (j := 1) rfl, pb, 48271, rfl, rfl, .inr ⟨by decide, by decide⟩, .int c, rfl, c, 69621, rfl, rfl, .inr ⟨by decide, by decide⟩, _, _, rfl, rfl, _, _, rfl, rfl, .inl ⟨_, rfl, _, _, rfl, rfl, (by show (0:Int) < _; decide), ?_⟩⟩
      refine ⟨.ref p, rfl, p, _, 1, 1, rfl, rfl, e3, rfl, _, rfl, s3.mut hp, pa', _, pc, upd_same, h0, Int.emod_nonneg _ (by decide), h3⟩
  · obtain ⟨y2, rfl, e, pt⟩ := pv'
    exact ⟨.ref p, rfl, q H' p e hp pt⟩
def spDraw (K : PySem.W.Frag) : Sp := fun vs H Q _ => ∃ (p : Addr) (n : Int), vs = [.ref p, .int n] ∧ PotAt H p ∧ 0 < n ∧ n ≤ 1000000000000000 ∧ ∀ H' r, SameB p H H' → PotAt H' p → 0 ≤ r → r < n → Q (.int r) H'
theorem d_law_draw (B : Bt mg) (T : Top K mg "_law_draw" s_law_draw ["pot", "size"]) : Def P w K mg base "_law_draw" 1 ["pot", "size"] (spDraw K) := by
  refine mk_def T sc_law_draw (by rintro _ _ _ _ ⟨p, n, rfl, _⟩; rfl) fun f cdv A outer s H vs Q E hr h => ?_
  obtain ⟨p, n, rfl, ⟨pa, pb, pc, ep, h1, h2, h3⟩, hn, hn2, q⟩ := h
  have hdiv : CDivW pa n := wide_div (b := 60) hn (by omega) (by decide) (by decide)
  refine ⟨_, (pss_cons (ps_if (pt_cmpR op_gt (pe_ix ix_list (pv 0) pe_int (fun _ _ => rfl)) pe_int (nomark _)) (pss_cons (ps_set (i := 2) sc_law_draw.nd rfl (Or.inl rfl) (pe_op op_mod (pe_callTy call_int1 (by rfl) B.m_int (by decide +kernel) (pa_cons (pe_ix ix_list (pv 0) pe_int (fun _ _ => rfl)) pa_nil)) (pv 1)))
      (pss_cons (ps_asg (pe_op op_fdivW (pe_ix ix_list (pv 0) pe_int (fun _ _ => rfl)) (pv 1)) (pg_sub (pv 0) pe_int set_list))
      (pss_one (ps_ret (pv 2))))) pss_nil)
      (pss_cons (ps_asg (pe_op op_add (pe_ix ix_list (pv 0) pe_int (fun _ _ => rfl)) pe_int) (pg_sub (pv 0) pe_int set_list))
      (pss_cons (ps_asg (pe_op op_mod (pe_callTy call_int1 (by rfl) B.m_int (by decide +kernel) (pa_cons (pe_op op_add (pe_op op_mul (pe_ix ix_list (pv 0) pe_int (fun _ _ => rfl)) pe_int) (pe_op op_mul (pe_ix ix_list (pv 0) pe_int (fun _ _ => rfl)) pe_int)) pa_nil)) pe_int) (pg_sub (pv 0) pe_int set_list))
      (pss_one (ps_ret (pe_op op_mod (pe_op op_mod (pe_callTy call_int1 (by rfl) B.m_int (by decide +kernel) (pa_cons (pe_op op_add (pe_op op_mul (pe_op op_fdivW (pe_ix ix_list (pv 0) pe_int (fun _ _ => rfl)) pe_int) pe_int) (pe_op op_mod (pe_callTy call_int1 (by rfl) B.m_int (by decide +kernel) (pa_cons (pe_ix ix_list (pv 0) pe_int (fun _ _ => rfl)) pa_nil)) pe_int)) pa_nil)) pe_int) (pv 1))))))), ?_⟩
  refine ⟨.ref p, rfl, p, _, 0, .int pa, rfl, rfl, SqL.of ep, atI_nat (j := 0) rfl, _, _, rfl, rfl, _, rfl, ite2 (fun z => ?_) (fun z => ?_)⟩
  · refine ⟨.ref p, rfl, p, _, 0, .int pa, rfl, rfl, SqL.of ep, atI_nat (j := 0) rfl, .inl ⟨_, rfl, .int n, rfl, _, _, rfl, rfl, hn, ?_⟩⟩
    refine ⟨.ref p, rfl, p, _, 0, .int pa, rfl, rfl, SqL.of ep, atI_nat (j := 0) rfl, .int n, rfl, _, _, rfl, rfl, hdiv, .ref p, rfl, p, _, 0, 0, rfl, rfl, ep, rfl, ?_⟩
    refine ⟨_, rfl, q _ _ SameB.upd ⟨_, pb, pc, upd_same, Int.ediv_nonneg h1 (Int.le_of_lt hn), h2, h3⟩ (Int.emod_nonneg _ (by omega)) (Int.emod_lt_of_pos _ hn)⟩
  · refine ⟨.ref p, rfl, p, _, 2, .int pc, rfl, rfl, SqL.of ep, atI_nat (j := 2) rfl, _, _, rfl, rfl, .ref p, rfl, p, _, 2, 2, rfl, rfl, ep, rfl, ?_⟩
    have e1 : upd H p (.lst ([V.int pa, .int pb, .int pc].set 2 (.int (pc + 1)))) p = some (.lst [.int pa, .int pb, .int (pc + 1)]) := upd_same
    refine ⟨.ref p, rfl, p, _, 1, .int pb, rfl, rfl, SqL.of e1, atI_nat (j := 1) rfl, _, _, rfl, rfl, .inr ⟨by decide, by decide⟩, .ref p, rfl, p, _, 2, .int (pc + 1), rfl, rfl, SqL.of e1, atI_nat (j := 2) rfl, _, _, rfl, rfl, .inr ⟨by decide, by decide⟩, _, _, rfl, rfl,
      .inl ⟨_, rfl, _, _, rfl, rfl, (by show (0:Int) < _; decide), .ref p, rfl, p, _, 1, 1, rfl, rfl, e1, rfl, ?_⟩⟩
    rw [upd_upd]
    have e2 : ∀ x : Int, upd H p (.lst ([V.int pa, .int pb, .int (pc + 1)].set 1 (.int x))) p = some (.lst [.int pa, .int x, .int (pc + 1)]) := fun _ => upd_same
    refine ⟨.ref p, rfl, p, _, 1, _, rfl, rfl, SqL.of (e2 _), atI_nat (j := 1) rfl, _, _, rfl, rfl, ⟨by decide, by decide⟩, _, _, rfl, rfl, .inr ⟨by decide, by decide⟩, .ref p, rfl, p, _, 1, _, rfl, rfl, SqL.of (e2 _), atI_nat (j := 1) rfl,
      .inl ⟨_, rfl, _, _, rfl, rfl, (by show (0:Int) < _; decide), _, _, rfl, rfl, .inl ⟨_, rfl, _, _, rfl, rfl, (by show (0:Int) < _; decide), .int n, rfl, _, _, rfl, rfl, hn, ?_⟩⟩⟩
    exact q _ _ SameB.upd ⟨pa, _, pc + 1, e2 _, h1, Int.emod_nonneg _ (by decide), by omega⟩ (Int.emod_nonneg _ (by omega)) (Int.emod_lt_of_pos _ hn)
def spGreat (K : PySem.W.Frag) : Sp := fun vs H Q _ => ∃ p : Addr, vs = [.ref p] ∧ PotAt H p ∧ ∀ H' r, SameB p H H' → PotAt H' p → 0 ≤ r → r < 1000000000000000000000000000000 → Q (.int r) H'
theorem d_law_great (B : Bt mg) (T : Top K mg "_law_great" s_law_great ["pot"]) (D_law_draw : Def P w K mg base "_law_draw" 1 ["pot", "size"] (spDraw K)) : Def P w K mg base "_law_great" 2 ["pot"] (spGreat K) := by
  refine mk_def T sc_law_great (by rintro _ _ _ _ ⟨p, rfl, _⟩; rfl) fun f cdv A outer s H vs Q E hr h => ?_
  obtain ⟨p, rfl, pt, q⟩ := h
  refine ⟨_, (pss_cons (ps_set (i := 1) sc_law_great.nd rfl (Or.inl rfl) (pe_def D_law_draw (hr.mono (by decide)) (by rfl) (pa_cons (pv 0) (pa_cons (pe_op op_pow pe_int pe_int) pa_nil))))
      (pss_one (ps_ret (pe_op op_add (pe_op op_mul (pv 1) (pe_op op_pow pe_int pe_int)) (pe_def D_law_draw (hr.mono (by decide)) (by rfl) (pa_cons (pv 0) (pa_cons (pe_op op_pow pe_int pe_int) pa_nil))))))), ?_⟩
  refine ⟨.ref p, rfl, _, _, rfl, rfl, ⟨by decide, by decide, by decide⟩, p, _, rfl, pt, by decide, by decide, fun H1 r s1 p1 r0 r1 => ?_⟩
  refine ⟨.int r, rfl, _, _, rfl, rfl, ⟨by decide, by decide, by decide⟩, _, _, rfl, rfl, .inr ⟨by decide, by decide⟩, .ref p, rfl, _, _, rfl, rfl, ⟨by decide, by decide, by decide⟩, p, _, rfl, p1, by decide, by decide, fun H2 r' s2 p2 r2 r3 => ?_⟩
  have e : (10 : Int) ^ (15 : Int).toNat = 1000000000000000 := by decide
  rw [e] at r1 r3
  refine ⟨_, _, rfl, rfl, q H2 _ (s1.trans s2) p2 ?_ ?_⟩
  · rw [e]; omega
  · rw [e]; omega
end
end K4

namespace K4
open PySem PySem.Spec PyProof.Rows L2
/-! ### the grid -/
def gridStep (g : List (List Int)) (r : List Int) : List (List Int) := g.flatMap fun h => r.map fun l => h ++ [l]
def gridL (rows : List (List Int)) : List (List Int) := rows.foldl gridStep [[]]
theorem gridL_snoc (rows : List (List Int)) (r : List Int) : gridL (rows ++ [r]) = gridStep (gridL rows) r := by simp [gridL]
theorem gridL_take {rows : List (List Int)} {i : Nat} {r : List Int} (h : rows[i]? = some r) : gridL (rows.take (i + 1)) = gridStep (gridL (rows.take i)) r := by
  rw [List.take_add_one, h]
  exact gridL_snoc _ _
theorem gridStep_len {g : List (List Int)} {r : List Int} {n : Nat} (h : ∀ x ∈ g, x.length = n) : ∀ x ∈ gridStep g r, x.length = n + 1 := by
  intro x hx
  obtain ⟨y, hy, hz⟩ := List.mem_flatMap.mp hx
  obtain ⟨l, _, rfl⟩ := List.mem_map.mp hz
  simp [h y hy]
theorem gridL_len : ∀ (n : Nat) (rows : List (List Int)), rows.length = n → ∀ x ∈ gridL rows, x.length = n := by
  intro n
  induction n with
  | zero =>
    intro rows h x hx
    have : rows = [] := List.length_eq_zero_iff.mp h
    subst this
    simp [gridL] at hx
    simp [hx]
  | succ n ih =>
    intro rows h x hx
    have hne : rows ≠ [] := by
      intro e
      subst e
      simp at h
    rw [← List.dropLast_concat_getLast hne, gridL_snoc] at hx
    exact gridStep_len (ih _ (by simp [h])) x hx
/-- a list of ints, as data -/
def li (r : List Int) : PyData := .list (r.map .int)
theorem li_inv {K : PySem.W.Frag} {H : Hp} {v : V} {r : List Int} (h : Da K H v (li r)) : ∃ a, v = .ref a ∧ SqL K H a (r.map V.int) := by
  cases h with
  | lst hs ha =>
    rw [DaAll.ints ha] at hs
    exact ⟨_, rfl, hs⟩
theorem imm_mos (ms : List (List Int)) : immAll (ms.map mo) = true := by
  induction ms with
  | nil => rfl
  | cons m ms ih =>
    show (imm (mo m) && immAll (ms.map mo)) = true
    rw [imm_mo, ih]
    rfl
theorem mo_at {ms : List (List Int)} {i : Nat} {d : PyData} (h : (ms.map mo)[i]? = some d) : ∃ m, ms[i]? = some m ∧ d = mo m := by
  rw [List.getElem?_map] at h
  cases e : ms[i]? with
  | none => rw [e] at h; cases h
  | some n => rw [e] at h; exact ⟨n, rfl, (Option.some.inj h).symm⟩
theorem sz1000 {n : Nat} (h : n ≤ 100000) : n ≤ sizeLine := Nat.le_trans h (by decide)
section
variable {P : Program} {w : World} {K : PySem.W.Frag} {mg : Str → Option Value} {base : Heap}
def spGrid (K : PySem.W.Frag) : Sp := fun vs H Q _ => ∃ (a : Addr) (rows : List (List Int)), vs = [.ref a] ∧ Da K H (.ref a) (.list (rows.map li)) ∧ rows.length ≤ 10 ∧ (∀ i, (gridL (rows.take i)).length ≤ 10000) ∧ (∀ r ∈ rows, r.length ≤ 10000) ∧
  ∀ H' p gv, Same H H' → H p = none → H' p = some (.lst gv) → DaAll K H' gv ((gridL rows).map mo) → Q (.ref p) H'
/-- head + (level,) -/
theorem cat1 {H1 : Hp} {hv : V} {h : List Int} {l : Int} {Q : VK} (hh : Mo K H1 hv h) (hl : h.length ≤ 1000) (k : ∀ y H4, Same H1 H4 → Mo K H4 y (h ++ [l]) → Q y H4) (t : Addr) (ht : H1 t = none) :
    rCatA K hv (.ref t) (upd H1 t (.tup [.int l])) Q := by
  obtain ⟨a, rfl, ha⟩ := hh.inv
  have e1 : Same H1 (upd H1 t (.tup [.int l])) := same_upd ht
  refine ⟨a, t, _, _, rfl, rfl, e1.seqT ha, SqT.of upd_same, sz1000 (by simp; omega), fun z => ?_, fun _ (z : [V.int l] = []) => (nomatch z), fun _ _ p hp => ?_⟩
  · have : h = [] := by simpa using z
    subst this
    exact k _ _ e1 (Mo.of (m := [l]) (upd_same))
  · refine k _ _ (e1.trans (same_upd hp)) (Mo.of (?_))
    rw [upd_same, List.map_append]
    rfl
theorem d_law_grid (B : Bt mg) (T : Top K mg "_law_grid" s_law_grid ["levels"]) : Def P w K mg base "_law_grid" 1 ["levels"] (spGrid K) := by
  refine mk_def T sc_law_grid (by rintro _ _ _ _ ⟨p, _, rfl, _⟩; rfl) fun f cdv A outer s H vs Q E hr h => ?_
  obtain ⟨a, rows, rfl, hd, hn, hb, hr1, q⟩ := h
  refine ⟨_, (pss_cons (ps_set (i := 1) sc_law_grid.nd rfl (Or.inl rfl) (pe_lst (pa_cons (pe_tup pa_nil) pa_nil)))
      (pss_cons (ps_for PassesOwn.never rfl (pi_list (pv 0)) (pg_name (i := 2) sc_law_grid.nd rfl (Or.inl rfl)) (pss_cons (ps_set (i := 3) sc_law_grid.nd rfl (Or.inl rfl) (pe_lst pa_nil))
      (pss_cons (ps_for PassesOwn.never rfl (pi_list (pv 1)) (pg_name (i := 4) sc_law_grid.nd rfl (Or.inr rfl)) (pss_one (ps_expr (pe_bm PySem.F.plainAttrs_list PySem.F.slot_list_extend PySem.F.type_list_extend mt_extend (pv 3) (pa_cons (pe_lc (own := [("level", 5)]) (g := (gName 5)) (tt := tYes) (te := (tOp (rCatA K) (tVar 4) (tTup (tCons (tVar 5) tNil)))) rfl sc_law_grid.nd (pi_list (pv 2)) (blkOk_by (own := [("level", 5)]) (N := N_law_grid) (sc := defScope s_law_grid) (by decide +kernel)) (fun _ _ _ _ _ => (pg_name (i := 5) sc_law_grid.nd rfl (Or.inl rfl))) (fun _ _ _ _ _ => pts_nil) (fun _ _ _ _ _ => (pe_op op_catA (pv 4) (pe_tup (pa_cons (pv 5) pa_nil))))) pa_nil)))))
      (pss_one (ps_set (i := 1) sc_law_grid.nd rfl (Or.inl rfl) (pv 3))))))
      (pss_one (ps_ret (pv 1))))), ?_⟩
  refine ⟨Nat.zero_le _, fun t0 ht0 => ⟨by show 1 ≤ sizeLine; decide, fun g0 hg0 => ?_⟩⟩
  have s0 : Same H (upd (upd H t0 (.tup [])) g0 (.lst [.ref t0])) := (same_upd ht0).trans (same_upd hg0)
  have ng0 : H g0 = none := (same_upd ht0).new hg0
  have e0 : Mo K (upd (upd H t0 (.tup [])) g0 (.lst [.ref t0])) (.ref t0) [] := Mo.of ((same_upd hg0 _ _ upd_same))
  cases hd with
  | lst hs hda =>
    rename_i lv
    have hlen : lv.length = rows.length := by
      have := hda.length
      simpa using this
    refine ⟨.ref a, rfl, a, rfl, ⟨_, s0.seq hs⟩, ?_⟩
    refine for_list (xs := lv) (fun i σ H' => ∃ (G : Addr) (gv : List V) (y2 y3 y4 y5 : Option V), σ = [some (.ref a), some (.ref G), y2, y3, y4, y5] ∧ Same H H' ∧ H G = none ∧ H' G = some (.lst gv) ∧ DaAll K H' gv ((gridL (rows.take i)).map mo))
      ⟨g0, [.ref t0], none, none, none, none, rfl, s0, ng0, upd_same, .cons e0 .nil⟩ (fun i σ H' _ pv' => ?_) (fun i x σ H' hx pv' => ?_) (fun σ H' pv' => ?_)
    · obtain ⟨G, gv, _, _, _, _, rfl, e, _⟩ := pv'
      exact e.seq hs
    · obtain ⟨G, gv, y2, y3, y4, y5, rfl, e, nG, eG, dG⟩ := pv'
      obtain ⟨d, hd1, hd2⟩ := hda.get hx
      obtain ⟨r, hr2, rfl⟩ : ∃ r, rows[i]? = some r ∧ d = li r := by
        rw [List.getElem?_map] at hd1
        cases er : rows[i]? with
        | none => rw [er] at hd1; cases hd1
        | some r => rw [er] at hd1; exact ⟨r, rfl, (Option.some.inj hd1).symm⟩
      obtain ⟨b, rfl, hb2⟩ := li_inv hd2
      have hi : i < rows.length := (List.getElem?_eq_some_iff.mp hr2).1
      have hstep := gridL_take hr2
      -- longer = []
      refine ⟨Nat.zero_le _, fun Lg hLg => ?_⟩
      have nLg : H Lg = none := e.new hLg
      have neG : G ≠ Lg := ne_of_none eG hLg
      have e1 : Same H' (upd H' Lg (.lst [])) := same_upd hLg
      -- for head in grid
      refine ⟨.ref G, rfl, G, rfl, ⟨_, SqL.of (e1 _ _ eG)⟩, ?_⟩
      refine for_list (xs := gv) (fun j σ H2 => ∃ (lgv : List V) (y4 y5 : Option V), σ = [some (.ref a), some (.ref G), some (.ref b), some (.ref Lg), y4, y5] ∧ Same H H2 ∧ H2 G = some (.lst gv) ∧ DaAll K H2 gv ((gridL (rows.take i)).map mo) ∧ H2 Lg = some (.lst lgv) ∧ DaAll K H2 lgv ((gridStep ((gridL (rows.take i)).take j) r).map mo))
        ⟨[], y4, y5, rfl, e.trans e1, e1 _ _ eG, Da.sameAll e1 _ _ dG, upd_same, .nil⟩ (fun j σ H2 _ pw => ?_) (fun j x σ H2 hx2 pw => ?_) (fun σ H2 pw => ?_)
      · obtain ⟨_, _, _, rfl, _, eG2, _⟩ := pw
        exact SqL.of eG2
      · obtain ⟨lgv, z4, z5, rfl, e2, eG2, dG2, eL2, dL2⟩ := pw
        obtain ⟨dm, hdm, hdm2⟩ := dG2.get hx2
        obtain ⟨h, hh, rfl⟩ := mo_at hdm
        have hlh : h.length = i := by
          have := gridL_len i (rows.take i) (by simp; omega) h (List.mem_of_getElem? hh)
          exact this
        refine ⟨.ref Lg, rfl, .inl ⟨rfl, _, SqL.of eL2⟩, .ref b, rfl, b, rfl, ⟨_, e2.seq hb2⟩, fun D hD => ?_⟩
        refine lc_dat (K := K) walk_list hD (by simp; exact Nat.le_trans (hr1 r (List.mem_of_getElem? hr2)) (by decide)) (fun H3 e3 => (e2.trans e3).seq hb2) ((r.map fun l => h ++ [l]).map mo) (by simp) (imm_mos _) (fun k x3 H3 H3' Q' hk e3 y3' kk => ?_) (fun H3 acc e3 eD dD => ?_)
        · obtain ⟨rfl, hx3⟩ := y3'
          obtain ⟨l, hl, rfl⟩ := int_at hx3
          refine ⟨rfl, x, rfl, .int l, rfl, by show 1 ≤ sizeLine; decide, fun t ht => ?_⟩
          refine cat1 (Mo.same hdm2 e3) (by omega) (fun y H4 e4 d4 => kk y H4 _ e4 ?_ d4) t ht
          simp [hl]
        · have hlt := hb (i + 1)
          rw [hstep] at hlt
          have hnew : gridStep ((gridL (rows.take i)).take (j + 1)) r = gridStep ((gridL (rows.take i)).take j) r ++ r.map fun l => h ++ [l] := by
            unfold gridStep
            rw [List.take_add_one, hh, List.flatMap_append]
            simp
          have hle : (gridStep ((gridL (rows.take i)).take (j + 1)) r).length ≤ 10000 := by
            refine Nat.le_trans ?_ hlt
            conv => rhs; rw [← List.take_append_drop (j + 1) (gridL (rows.take i))]
            unfold gridStep
            rw [List.flatMap_append, List.length_append]
            omega
          have l1 := dL2.length
          have l2 := dD.length
          rw [hnew, List.length_append] at hle
          simp only [List.length_map] at l1 l2 hle
          have eL3 := e3 _ _ eL2
          refine ⟨Lg, D, lgv, acc, rfl, rfl, eL3, eD, sz1000 (by omega), ?_⟩
          have st : ST K H3 (upd H3 Lg (.lst (lgv ++ acc))) := st_upd eL3 True.intro
          refine ⟨lgv ++ acc, _, _, rfl, (e2.trans e3).mut nLg, ?_, Da.stAll (e3.st.trans st) _ _ (imm_mos _) dG2, upd_same, ?_⟩
          · rw [upd_ne neG]
            exact e3 _ _ eG2
          · rw [hnew, List.map_append]
            exact DaAll.append (Da.stAll st _ _ (imm_mos _) dD) (Da.stAll (e3.st.trans st) _ _ (imm_mos _) dL2)
      · obtain ⟨lgv, z4, z5, rfl, e2, eG2, dG2, eL2, dL2⟩ := pw
        refine ⟨.ref Lg, rfl, Lg, lgv, _, _, _, _, rfl, e2, nLg, eL2, ?_⟩
        have l1 := dG2.length
        simp only [List.length_map] at l1
        rw [List.take_of_length_le (by omega)] at dL2
        rw [hstep]
        exact dL2
    · obtain ⟨G, gv, _, _, _, _, rfl, e, nG, eG, dG⟩ := pv'
      rw [hlen, List.take_of_length_le (Nat.le_refl _)] at dG
      exact ⟨.ref G, rfl, q H' G gv e nG eG dG⟩
end
end K4

namespace K4
open PySem PySem.Spec PyProof.Rows L2
/-! ### the order of moments -/
def Le : List Int → List Int → Prop
  | [], [] => True
  | x :: xs, y :: ys => x ≤ y ∧ Le xs ys
  | _, _ => False
theorem Le.len : ∀ {a b : List Int}, Le a b → a.length = b.length
  | [], [], _ => rfl
  | x :: xs, y :: ys, h => congrArg (· + 1) (Le.len h.2)
  | [], _ :: _, h => h.elim
  | _ :: _, [], h => h.elim
theorem leB_cons (x y : Int) (xs ys : List Int) : leB (x :: xs) (y :: ys) = (decide (x ≤ y) && leB xs ys) := rfl
theorem leB_iff : ∀ {a b : List Int}, a.length = b.length → (leB a b = true ↔ Le a b)
  | [], [], _ => ⟨fun _ => True.intro, fun _ => rfl⟩
  | x :: xs, y :: ys, h => by
    rw [leB_cons, Bool.and_eq_true, decide_eq_true_iff, leB_iff (a := xs) (b := ys) (by simpa using h)]
    exact Iff.rfl
  | [], _ :: _, h => nomatch h
  | _ :: _, [], h => nomatch h
theorem Le.refl : ∀ a : List Int, Le a a
  | [] => True.intro
  | x :: xs => ⟨Int.le_refl x, Le.refl xs⟩
theorem Le.trans : ∀ {a b c : List Int}, Le a b → Le b c → Le a c
  | [], [], [], _, _ => True.intro
  | x :: xs, y :: ys, z :: zs, h, k => ⟨Int.le_trans h.1 k.1, Le.trans h.2 k.2⟩
  | [], _ :: _, _, h, _ => h.elim
  | _ :: _, [], _, h, _ => h.elim
  | [], [], _ :: _, _, k => k.elim
  | _ :: _, _ :: _, [], _, k => k.elim
theorem Le.anti : ∀ {a b : List Int}, Le a b → Le b a → a = b
  | [], [], _, _ => rfl
  | x :: xs, y :: ys, h, k => by rw [Int.le_antisymm h.1 k.1, Le.anti h.2 k.2]
  | [], _ :: _, h, _ => h.elim
  | _ :: _, [], h, _ => h.elim
theorem joinL_len {a b : List Int} (h : a.length = b.length) : (joinL a b).length = a.length := by simp [joinL]; omega
theorem meetL_len {a b : List Int} (h : a.length = b.length) : (meetL a b).length = a.length := by simp [meetL]; omega
theorem join_le : ∀ {a b x : List Int}, a.length = b.length → (Le (joinL a b) x ↔ Le a x ∧ Le b x)
  | [], [], [], _ => ⟨fun _ => ⟨True.intro, True.intro⟩, fun _ => True.intro⟩
  | [], [], _ :: _, _ => ⟨fun h => h.elim, fun h => h.1.elim⟩
  | p :: ps, q :: qs, [], _ => ⟨fun h => h.elim, fun h => h.1.elim⟩
  | p :: ps, q :: qs, z :: zs, h => by
    have ih := join_le (a := ps) (b := qs) (x := zs) (by simpa using h)
    show ((if q > p then q else p) ≤ z ∧ Le (joinL ps qs) zs) ↔ (p ≤ z ∧ Le ps zs) ∧ (q ≤ z ∧ Le qs zs)
    rw [ih]
    constructor
    · rintro ⟨h1, h2, h3⟩
      split at h1 <;> exact ⟨⟨by omega, h2⟩, by omega, h3⟩
    · rintro ⟨⟨h1, h2⟩, h3, h4⟩
      exact ⟨by split <;> omega, h2, h4⟩
  | [], _ :: _, _, h => nomatch h
  | _ :: _, [], _, h => nomatch h
theorem le_meet : ∀ {a b x : List Int}, a.length = b.length → (Le x (meetL a b) ↔ Le x a ∧ Le x b)
  | [], [], [], _ => ⟨fun _ => ⟨True.intro, True.intro⟩, fun _ => True.intro⟩
  | [], [], _ :: _, _ => ⟨fun h => h.elim, fun h => h.1.elim⟩
  | p :: ps, q :: qs, [], _ => ⟨fun h => h.elim, fun h => h.1.elim⟩
  | p :: ps, q :: qs, z :: zs, h => by
    have ih := le_meet (a := ps) (b := qs) (x := zs) (by simpa using h)
    show (z ≤ (if q < p then q else p) ∧ Le zs (meetL ps qs)) ↔ (z ≤ p ∧ Le zs ps) ∧ (z ≤ q ∧ Le zs qs)
    rw [ih]
    constructor
    · rintro ⟨h1, h2, h3⟩
      split at h1 <;> exact ⟨⟨by omega, h2⟩, by omega, h3⟩
    · rintro ⟨⟨h1, h2⟩, h3, h4⟩
      exact ⟨by split <;> omega, h2, h4⟩
  | [], _ :: _, _, h => nomatch h
  | _ :: _, [], _, h => nomatch h
theorem le_joinL {a b : List Int} (h : a.length = b.length) : Le a (joinL a b) := ((join_le h).mp (Le.refl _)).1
theorem le_joinR {a b : List Int} (h : a.length = b.length) : Le b (joinL a b) := ((join_le h).mp (Le.refl _)).2
/-! ### moments of the law: n coordinates in [0, BB) -/
def BB : Int := 10000000000000000000000000000000000000000
def Ok (n : Nat) (m : List Int) : Prop := m.length = n ∧ TS.Bd BB m
theorem bd_zip {g : Int → Int → Int} (hg : ∀ x y, g x y = x ∨ g x y = y) : ∀ {a b : List Int}, TS.Bd BB a → TS.Bd BB b → TS.Bd BB (List.zipWith g a b)
  | [], _, _, _ => fun c hc => by simp at hc
  | _ :: _, [], _, _ => fun c hc => by simp at hc
  | x :: xs, y :: ys, ha, hb => fun c hc => by
    rw [List.zipWith_cons_cons] at hc
    rcases List.mem_cons.mp hc with rfl | hc
    · rcases hg x y with e | e
      · rw [e]; exact ha.head
      · rw [e]; exact hb.head
    · exact bd_zip hg ha.tail hb.tail c hc
theorem Ok.join {n : Nat} {a b : List Int} (ha : Ok n a) (hb : Ok n b) : Ok n (joinL a b) := ⟨by rw [joinL_len (by rw [ha.1, hb.1]), ha.1], bd_zip (fun x y => by split <;> simp) ha.2 hb.2⟩
theorem Ok.meet {n : Nat} {a b : List Int} (ha : Ok n a) (hb : Ok n b) : Ok n (meetL a b) := ⟨by rw [meetL_len (by rw [ha.1, hb.1]), ha.1], bd_zip (fun x y => by split <;> simp) ha.2 hb.2⟩
theorem code_le : ∀ {a b : List Int}, Le a b → TS.Bd BB a → TS.Bd BB b → TS.code BB a ≤ TS.code BB b
  | [], [], _, _, _ => Int.le_refl _
  | x :: xs, y :: ys, h, ha, hb => by
    rcases Int.lt_or_eq_of_le h.1 with e | e
    · exact Int.le_of_lt (TS.code_lt h.2.len ha.tail hb.tail e)
    · subst e
      have ih := code_le h.2 ha.tail hb.tail
      have := not_congr (TS.code_same (B := BB) (d := x) h.2.len.symm) |>.mpr (by omega)
      omega
  | [], _ :: _, h, _, _ => h.elim
  | _ :: _, [], h, _, _ => h.elim
theorem code_inj : ∀ {a b : List Int}, a.length = b.length → TS.Bd BB a → TS.Bd BB b → TS.code BB a = TS.code BB b → a = b
  | [], [], _, _, _, _ => rfl
  | x :: xs, y :: ys, h, ha, hb, e => by
    have hl : xs.length = ys.length := by simpa using h
    rcases Int.lt_trichotomy x y with l | l | l
    · have := TS.code_lt hl ha.tail hb.tail l
      omega
    · subst l
      have h1 := (not_congr (TS.code_same (B := BB) (d := x) hl)).mp (by omega)
      have h2 := (not_congr (TS.code_same (B := BB) (d := x) hl.symm)).mp (by omega)
      rw [code_inj hl ha.tail hb.tail (by omega)]
    · have := TS.code_lt hl.symm hb.tail ha.tail l
      omega
  | [], _ :: _, h, _, _, _ => nomatch h
  | _ :: _, [], h, _, _, _ => nomatch h
/-! ### folds -/
def stepL (m : List Int) (d l : List Int) : List Int := meetL d (joinL m l)
def foldL : List (List Int) → List Int → List Int
  | [], m => List.replicate m.length 0
  | l :: ls, m => ls.foldl (stepL m) (joinL m l)
theorem foldl_ok {n : Nat} {m : List Int} (hm : Ok n m) : ∀ {ls : List (List Int)} {d : List Int}, (∀ l ∈ ls, Ok n l) → Ok n d → Ok n (ls.foldl (stepL m) d)
  | [], _, _, hd => hd
  | l :: ls, d, h, hd => foldl_ok (ls := ls) (d := stepL m d l) hm (fun x hx => h x (List.mem_cons_of_mem _ hx)) (hd.meet (hm.join (h l List.mem_cons_self)))
theorem foldL_ok {n : Nat} {m : List Int} {L : List (List Int)} (hm : Ok n m) (h : ∀ l ∈ L, Ok n l) : Ok n (foldL L m) := by
  cases L with
  | nil =>
    refine ⟨by simp [foldL, hm.1], fun c hc => ?_⟩
    rw [(List.mem_replicate.mp hc).2]
    exact ⟨Int.le_refl _, by decide⟩
  | cons l ls => exact foldl_ok (ls := ls) hm (fun x hx => h x (List.mem_cons_of_mem _ hx)) (hm.join (h l List.mem_cons_self))
theorem le_foldl {n : Nat} {m x : List Int} (hm : m.length = n) : ∀ {ls : List (List Int)} {d : List Int}, (∀ l ∈ ls, l.length = n) → d.length = n → (Le x (ls.foldl (stepL m) d) ↔ Le x d ∧ ∀ l ∈ ls, Le x (joinL m l))
  | [], _, _, _ => by simp
  | l :: ls, d, h, hd => by
    have hl := h l List.mem_cons_self
    have hj : (joinL m l).length = n := by rw [joinL_len (by omega)]; exact hm
    have h2 : (stepL m d l).length = n := by unfold stepL; rw [meetL_len (by omega)]; exact hd
    rw [List.foldl_cons, le_foldl hm (fun x hx => h x (List.mem_cons_of_mem _ hx)) h2]
    unfold stepL
    rw [le_meet (by omega)]
    simp only [List.mem_cons, forall_eq_or_imp, and_assoc]
theorem le_fold {n : Nat} {m x : List Int} {L : List (List Int)} (hm : m.length = n) (h : ∀ l ∈ L, l.length = n) (hL : L ≠ []) : Le x (foldL L m) ↔ ∀ l ∈ L, Le x (joinL m l) := by
  cases L with
  | nil => exact absurd rfl hL
  | cons l ls =>
    have hl := h l List.mem_cons_self
    show Le x (ls.foldl (stepL m) (joinL m l)) ↔ _
    rw [le_foldl hm (fun x hx => h x (List.mem_cons_of_mem _ hx)) (by rw [joinL_len (by omega)]; exact hm)]
    simp only [List.mem_cons, forall_eq_or_imp]
theorem fold_ge {n : Nat} {m : List Int} {L : List (List Int)} (hm : m.length = n) (h : ∀ l ∈ L, l.length = n) (hL : L ≠ []) : Le m (foldL L m) :=
  (le_fold hm h hL).mpr fun l hl => le_joinL (by rw [hm, h l hl])
theorem fold_le_join {n : Nat} {m l : List Int} {L : List (List Int)} (hm : m.length = n) (h : ∀ l ∈ L, l.length = n) (hl : l ∈ L) : Le (foldL L m) (joinL m l) :=
  (le_fold hm h (List.ne_nil_of_mem hl)).mp (Le.refl _) l hl
theorem fold_open {n : Nat} {m l : List Int} {L : List (List Int)} (hm : m.length = n) (h : ∀ l ∈ L, l.length = n) (hl : l ∈ L) (hle : Le l m) : foldL L m = m :=
  Le.anti ((fold_le_join hm h hl).trans ((join_le (by rw [hm, h l hl])).mpr ⟨Le.refl _, hle⟩)) (fold_ge hm h (List.ne_nil_of_mem hl))
theorem fold_sees {n : Nat} {m l x : List Int} {L : List (List Int)} (hm : m.length = n) (h : ∀ l ∈ L, l.length = n) (hl : l ∈ L) (hle : Le l x) : Le m x ↔ Le (foldL L m) x :=
  ⟨fun k => (fold_le_join hm h hl).trans ((join_le (by rw [hm, h l hl])).mpr ⟨k, hle⟩), fun k => (fold_ge hm h (List.ne_nil_of_mem hl)).trans k⟩
theorem foldL_len {n : Nat} {m : List Int} {L : List (List Int)} (hm : m.length = n) (h : ∀ l ∈ L, l.length = n) : (foldL L m).length = n := by
  by_cases e : L = []
  · subst e
    simp [foldL, hm]
  · exact ((fold_ge hm h e).len.symm.trans hm)
theorem fold_later {n : Nat} {m : List Int} {A L : List (List Int)} (hm : m.length = n) (hA : ∀ l ∈ A, l.length = n) (h : ∀ l ∈ L, l.length = n) (adv : ∀ l ∈ L, ∃ e ∈ A, Le e l) : foldL L (foldL A m) = foldL L m := by
  have hf : (foldL A m).length = n := foldL_len hm hA
  by_cases e : L = []
  · subst e
    show List.replicate (foldL A m).length (0 : Int) = List.replicate m.length 0
    rw [hf, hm]
  · have hA0 : A ≠ [] := by
      obtain ⟨l, hl⟩ := List.exists_mem_of_ne_nil _ e
      obtain ⟨a, ha, _⟩ := adv l hl
      exact List.ne_nil_of_mem ha
    refine Le.anti ((le_fold hm h e).mpr fun l hl => (fold_le_join hf h hl).trans ?_) ((le_fold hf h e).mpr fun l hl => (fold_le_join hm h hl).trans ?_)
    · obtain ⟨a, ha, hal⟩ := adv l hl
      have hml : m.length = l.length := by rw [hm, h l hl]
      refine (join_le (by rw [hf, h l hl])).mpr ⟨(fold_le_join hm hA ha).trans ((join_le (by rw [hm, hA a ha])).mpr ⟨le_joinL hml, hal.trans (le_joinR hml)⟩), le_joinR hml⟩
    · have hfl : (foldL A m).length = l.length := by rw [hf, h l hl]
      exact (join_le (by rw [hm, h l hl])).mpr ⟨(fold_ge hm hA hA0).trans (le_joinL hfl), le_joinR hfl⟩
theorem meetL_self : ∀ a : List Int, meetL a a = a
  | [] => rfl
  | x :: xs => by
    show (if x < x then x else x) :: meetL xs xs = x :: xs
    rw [meetL_self xs, if_neg (by omega)]
theorem foldLaw {m l : List Int} {ls : List (List Int)} : (l :: ls).foldl (stepL m) (joinL m l) = foldL (l :: ls) m := by
  show ls.foldl (stepL m) (stepL m (joinL m l) l) = ls.foldl (stepL m) (joinL m l)
  unfold stepL
  rw [meetL_self]
/-! ### the minimal ones, ascending -/
def Asc (L : List (List Int)) : Prop := L.Pairwise fun x y => TS.code BB x < TS.code BB y
structure IsL (ms L : List (List Int)) : Prop where
  asc : Asc L
  mem : ∀ x, x ∈ L ↔ x ∈ ms ∧ ∀ y ∈ ms, leB y x = true → y = x
theorem asc_uniq : ∀ {L L' : List (List Int)}, Asc L → Asc L' → (∀ x, x ∈ L ↔ x ∈ L') → L = L'
  | [], [], _, _, _ => rfl
  | [], y :: ys, _, _, h => by
    have := (h y).mpr List.mem_cons_self
    simp at this
  | x :: xs, [], _, _, h => by
    have := (h x).mp List.mem_cons_self
    simp at this
  | x :: xs, y :: ys, a, b, h => by
    have a' := List.pairwise_cons.mp a
    have b' := List.pairwise_cons.mp b
    have e : x = y := by
      rcases List.mem_cons.mp ((h x).mp List.mem_cons_self) with e | e
      · exact e
      · rcases List.mem_cons.mp ((h y).mpr List.mem_cons_self) with e' | e'
        · exact e'.symm
        · have := a'.1 y e'
          have := b'.1 x e
          omega
    subst e
    rw [asc_uniq a'.2 b'.2 fun z => ?_]
    have hz := h z
    rw [List.mem_cons, List.mem_cons] at hz
    constructor
    · intro k
      rcases hz.mp (.inr k) with e | e
      · subst e
        have := a'.1 z k
        omega
      · exact e
    · intro k
      rcases hz.mpr (.inr k) with e | e
      · subst e
        have := b'.1 z k
        omega
      · exact e
theorem IsL.uniq {ms L L' : List (List Int)} (h : IsL ms L) (k : IsL ms L') : L = L' := asc_uniq h.asc k.asc fun x => (h.mem x).trans (k.mem x).symm
theorem IsL.self {ms L : List (List Int)} (h : IsL ms L) : IsL L L := ⟨h.asc, fun x => ⟨fun k => ⟨k, fun y hy e => ((h.mem x).mp k).2 y ((h.mem y).mp hy).1 e⟩, fun k => k.1⟩⟩
/-- the program's way: the ascending ones, each kept if none that is kept is before it -/
structure PF (T F : List (List Int)) : Prop where
  asc : Asc F
  sub : ∀ f ∈ F, f ∈ T
  cov : ∀ x ∈ T, ∃ f ∈ F, leB f x = true
  min : ∀ f ∈ F, ∀ y ∈ T, leB y f = true → y = f
theorem PF.nil : PF [] [] := ⟨.nil, fun _ h => h, fun _ h => by simp at h, fun _ h => by simp at h⟩
theorem leB_refl (x : List Int) : leB x x = true := (leB_iff rfl).mpr (Le.refl x)
section
variable {n : Nat} {T F : List (List Int)} {x : List Int}
theorem PF.later (h : PF T F) (hT : ∀ y ∈ T, Ok n y ∧ TS.code BB y < TS.code BB x) (hx : Ok n x) {f : List Int} (hf : f ∈ F) (e : leB x f = true) : False := by
  obtain ⟨ho, hc⟩ := hT f (h.sub f hf)
  have := code_le ((leB_iff (by rw [hx.1, ho.1])).mp e) hx.2 ho.2
  omega
theorem PF.skip (h : PF T F) (hT : ∀ y ∈ T, Ok n y ∧ TS.code BB y < TS.code BB x) (hx : Ok n x) (k : ∃ f ∈ F, leB f x = true) : PF (T ++ [x]) F := by
  refine ⟨h.asc, fun f hf => List.mem_append_left _ (h.sub f hf), fun y hy => ?_, fun f hf y hy e => ?_⟩
  · rcases List.mem_append.mp hy with hy | hy
    · exact h.cov y hy
    · rw [List.mem_singleton.mp hy]
      exact k
  · rcases List.mem_append.mp hy with hy | hy
    · exact h.min f hf y hy e
    · rw [List.mem_singleton.mp hy] at e
      exact (h.later hT hx hf e).elim
theorem PF.add (h : PF T F) (hT : ∀ y ∈ T, Ok n y ∧ TS.code BB y < TS.code BB x) (hx : Ok n x) (k : ∀ f ∈ F, leB f x = false) : PF (T ++ [x]) (F ++ [x]) := by
  refine ⟨?_, fun f hf => ?_, fun y hy => ?_, fun f hf y hy e => ?_⟩
  · refine List.pairwise_append.mpr ⟨h.asc, by simp, fun a ha b hb => ?_⟩
    rw [List.mem_singleton.mp hb]
    exact (hT a (h.sub a ha)).2
  · rcases List.mem_append.mp hf with hf | hf
    · exact List.mem_append_left _ (h.sub f hf)
    · exact List.mem_append_right _ hf
  · rcases List.mem_append.mp hy with hy | hy
    · obtain ⟨f, hf, e⟩ := h.cov y hy
      exact ⟨f, List.mem_append_left _ hf, e⟩
    · exact ⟨y, List.mem_append_right _ hy, leB_refl y⟩
  · rcases List.mem_append.mp hf with hf | hf
    · rcases List.mem_append.mp hy with hy | hy
      · exact h.min f hf y hy e
      · rw [List.mem_singleton.mp hy] at e
        exact (h.later hT hx hf e).elim
    · have ef := List.mem_singleton.mp hf
      subst ef
      rcases List.mem_append.mp hy with hy | hy
      · obtain ⟨g, hg, e2⟩ := h.cov y hy
        have l1 := (hT g (h.sub g hg)).1.1
        have l2 := (hT y hy).1.1
        have : leB g f = true := (leB_iff (by rw [l1, hx.1])).mpr (((leB_iff (by rw [l1, l2])).mp e2).trans ((leB_iff (by rw [l2, hx.1])).mp e))
        rw [k g hg] at this
        cases this
      · exact List.mem_singleton.mp hy
theorem PF.done {ms : List (List Int)} (h : PF T F) (e : ∀ y, y ∈ T ↔ y ∈ ms) : IsL ms F := by
  refine ⟨h.asc, fun y => ⟨fun hy => ⟨(e y).mp (h.sub y hy), fun z hz k => h.min y hy z ((e z).mpr hz) k⟩, fun ⟨h1, h2⟩ => ?_⟩⟩
  obtain ⟨f, hf, k⟩ := h.cov y ((e y).mpr h1)
  rw [← h2 f ((e f).mp (h.sub f hf)) k]
  exact hf
/-- the law's way -/
structure LF (ms T F : List (List Int)) : Prop where
  asc : Asc F
  mem : ∀ x, x ∈ F ↔ x ∈ T ∧ ∀ y ∈ ms, leB y x = true → y = x
theorem LF.nil {ms : List (List Int)} : LF ms [] [] := ⟨.nil, fun x => by simp⟩
def under (ms : List (List Int)) (x : List Int) : Bool := ms.any fun y => decide (y ≠ x) && leB y x
theorem under_no {ms : List (List Int)} : under ms x = false ↔ ∀ y ∈ ms, leB y x = true → y = x := by
  unfold under
  rw [List.any_eq_false]
  constructor
  · intro h y hy e
    have := h y hy
    rw [e] at this
    simpa using this
  · intro h y hy
    cases e : leB y x with
    | false => simp
    | true => simp [h y hy e]
theorem LF.skip {ms : List (List Int)} (h : LF ms T F) (k : x ∈ F ∨ under ms x = true) : LF ms (T ++ [x]) F := by
  refine ⟨h.asc, fun y => ?_⟩
  rw [h.mem y, List.mem_append, List.mem_singleton]
  constructor
  · rintro ⟨h1, h2⟩
    exact ⟨.inl h1, h2⟩
  · rintro ⟨h1 | h1, h2⟩
    · exact ⟨h1, h2⟩
    · subst h1
      rcases k with k | k
      · exact (h.mem y).mp k
      · rw [under_no.mpr h2] at k
        cases k
theorem LF.add {ms : List (List Int)} (h : LF ms T F) (hT : ∀ y ∈ T, Ok n y ∧ TS.code BB y ≤ TS.code BB x) (hx : Ok n x) (k1 : x ∉ F) (k2 : under ms x = false) : LF ms (T ++ [x]) (F ++ [x]) := by
  refine ⟨List.pairwise_append.mpr ⟨h.asc, by simp, fun a ha b hb => ?_⟩, fun y => ?_⟩
  · rw [List.mem_singleton.mp hb]
    obtain ⟨h1, h2⟩ := hT a ((h.mem a).mp ha).1
    rcases Int.lt_or_eq_of_le h2 with l | l
    · exact l
    · have := code_inj (by rw [h1.1, hx.1]) h1.2 hx.2 l
      subst this
      exact absurd ha k1
  · rw [List.mem_append, List.mem_append, List.mem_singleton, h.mem y]
    constructor
    · rintro (⟨h1, h2⟩ | rfl)
      · exact ⟨.inl h1, h2⟩
      · exact ⟨.inr rfl, under_no.mp k2⟩
    · rintro ⟨h1 | h1, h2⟩
      · exact .inl ⟨h1, h2⟩
      · exact .inr h1
theorem LF.done {ms : List (List Int)} (h : LF ms T F) (e : ∀ y, y ∈ T ↔ y ∈ ms) : IsL ms F := ⟨h.asc, fun y => by rw [h.mem y, e y]⟩
end
/-- each of the later ones stands behind one of the earlier ones -/
def Adv (A L : List (List Int)) : Prop := ∀ l ∈ L, ∃ e ∈ A, Le e l
theorem Adv.refl (A : List (List Int)) : Adv A A := fun l hl => ⟨l, hl, Le.refl l⟩
theorem Adv.trans {A L M : List (List Int)} (h : Adv A L) (k : Adv L M) : Adv A M := fun m hm => by
  obtain ⟨l, hl, e⟩ := k m hm
  obtain ⟨a, ha, e'⟩ := h l hl
  exact ⟨a, ha, e'.trans e⟩
end K4

namespace K4
open PySem PySem.Spec PyProof.Rows L2
section
variable {P : Program} {w : World} {K : PySem.W.Frag} {mg : Str → Option Value} {base : Heap}
theorem d_is_number (B : Bt mg) (T : Top K mg "is_number" sis_number ["value"]) : Def P w K mg base "is_number" 1 ["value"] spIsInt := by
  refine mk_def T scis_number (by rintro _ _ _ _ ⟨i, rfl, _⟩; rfl) fun f cdv A outer s H vs Q E hr h => ?_
  obtain ⟨i, rfl, q⟩ := h
  refine ⟨_, (pss_one (ps_ret (pe_and (pe_callB call_isi (by rfl) B.m_isinstance (by decide +kernel) (pa_cons (pv 0) (pa_cons (pe_bltn (v := .ty "int") (by rfl) B.m_int (by decide +kernel) rfl) pa_nil))) (pe_one (pe_not (pe_callB call_isi (by rfl) B.m_isinstance (by decide +kernel) (pa_cons (pv 0) (pa_cons (pe_bltn (v := .ty "bool") (by rfl) B.m_bool (by decide +kernel) rfl) pa_nil)))))))), ?_⟩
  refine ⟨.int i, rfl, _, _, .type "int", .type "int", true, rfl, .ty _, .base (.int i), kit_ty (by decide +kernel), _, rfl, ?_⟩
  refine ⟨.int i, rfl, _, _, .type "int", .type "bool", false, rfl, .ty _, .base (.int i), kit_ty (by decide +kernel), _, rfl, ?_⟩
  exact q H (Same.refl _)
def spCheckAxes : Sp := fun vs H Q _ => ∃ i : Int, vs = [.int i] ∧ 1 ≤ i ∧ i ≤ 4 ∧ ∀ H', Same H H' → Q .non H'
theorem d_check_axes (B : Bt mg) (G_MOST_AXES : ∃ t, mg "MOST_AXES" = some (.int 4 t)) (T : Top K mg "check_axes" scheck_axes ["axes"]) (Dis_number : Def P w K mg base "is_number" 1 ["value"] spIsInt) : Def P w K mg base "check_axes" 2 ["axes"] spCheckAxes := by
  refine mk_def T sccheck_axes (by rintro _ _ _ _ ⟨i, rfl, _⟩; rfl) fun f cdv A outer s H vs Q E hr h => ?_
  obtain ⟨i, rfl, h1, h4, q⟩ := h
  refine ⟨_, (pss_one (ps_if (pw_or (pt_not (pt_val (pe_def Dis_number (hr.mono (by decide)) (by rfl) (pa_cons (pv 0) pa_nil)))) (pw_or1 (pt_not (pt_chain op_le op_le pe_int (pv 0) (pe_globI G_MOST_AXES (by rfl)))))).pt (pss_one ps_never) pss_nil)), ?_⟩
  refine ⟨.int i, rfl, i, rfl, fun H1 s1 => ⟨_, rfl, iteF ⟨.int i, rfl, _, _, rfl, rfl, _, rfl, ite2 (fun _ => ⟨_, _, rfl, rfl, _, rfl, ?_⟩) (fun z => absurd (decide_eq_true h1) z)⟩⟩⟩
  rw [decide_eq_true h4]
  exact iteF (q H1 s1)
def spLike : Sp := fun vs H Q _ => ∃ i : Int, vs = [.int i, .int i] ∧ ∀ H', Same H H' → Q .non H'
theorem d_check_like_axes (B : Bt mg) (T : Top K mg "check_like_axes" scheck_like_axes ["left", "right"]) : Def P w K mg base "check_like_axes" 1 ["left", "right"] spLike := by
  refine mk_def T sccheck_like_axes (by rintro _ _ _ _ ⟨i, rfl, _⟩; rfl) fun f cdv A outer s H vs Q E hr h => ?_
  obtain ⟨i, rfl, q⟩ := h
  refine ⟨_, (pss_one (ps_if (pt_cmpR op_ne (pv 0) (pv 1) (nomark _)) (pss_one ps_never) pss_nil)), ?_⟩
  refine ⟨.int i, rfl, .int i, rfl, rfl, _, rfl, ?_⟩
  exact iteNS rfl (q H (Same.refl _))
def spIsMoment (K : PySem.W.Frag) : Sp := fun vs H Q _ => ∃ (v : V) (m : List Int), vs = [v, .int (m.length : Nat)] ∧ Mo K H v m ∧ (∀ c ∈ m, 0 ≤ c) ∧ m.length ≤ 1000 ∧ ∀ H', Same H H' → Q (.bl true) H'
theorem d_is_moment (B : Bt mg) (T : Top K mg "is_moment" sis_moment ["value", "axes"]) (Dis_number : Def P w K mg base "is_number" 1 ["value"] spIsInt) : Def P w K mg base "is_moment" 2 ["value", "axes"] (spIsMoment K) := by
  refine mk_def T scis_moment (by rintro _ _ _ _ ⟨_, _, rfl, _⟩; rfl) fun f cdv A outer s H vs Q E hr h => ?_
  obtain ⟨v, m, rfl, hm, h0, h1, q⟩ := h
  refine ⟨_, (pss_cons (ps_if (pw_or (pt_not (pt_val (pe_callB call_isi (by rfl) B.m_isinstance (by decide +kernel) (pa_cons (pv 0) (pa_cons (pe_bltn (v := .ty "tuple") (by rfl) B.m_tuple (by decide +kernel) rfl) pa_nil))))) (pw_or1 (pt_cmpR op_ne (pe_callB call_len_seq (by rfl) B.m_len PySem.boot_len (pa_cons (pv 0) pa_nil)) (pv 1) (nomark _)))).pt (pss_one (ps_ret pe_bl)) pss_nil)
      (pss_one (ps_ret (pe_callB (cr_all rfl) (by rfl) B.m_all (by decide +kernel) (pa_cons (pe_lc (own := [("coordinate", 2)]) (g := (gName 2)) (tt := tYes) (te := (tAndV (tCall spIsInt [] E0 (tCons (tVar 2) tNil)) (tOp yGe (tVar 2) (tC (.int 0))))) rfl scis_moment.nd (pi_tup (pv 0)) (blkOk_by (own := [("coordinate", 2)]) (N := Nis_moment) (sc := defScope sis_moment) (by decide +kernel)) (fun _ _ _ _ _ => (pg_name (i := 2) scis_moment.nd rfl (Or.inl rfl))) (fun _ _ _ _ _ => pts_nil) (fun _ _ _ _ _ => (pe_and (pe_def Dis_number (hr.mono (by decide)) (by rfl) (pa_cons (pv 2) pa_nil)) (pe_one (pe_cmpR op_ge (pv 2) pe_int (nomark _)))))) pa_nil))))), ?_⟩
  obtain ⟨a, rfl, ha⟩ := hm.trk
  refine ⟨.ref a, rfl, _, _, .type "tuple", .type "tuple", true, rfl, .ty _, .base (.tup ha), kit_ty (by decide +kernel), _, rfl, iteF ⟨.ref a, rfl, a, _, rfl, .inr (SqT.of ha), .int (m.length : Nat), rfl, rfl, _, rfl, ?_⟩⟩
  refine iteNS (by simp) ?_
  refine ⟨.ref a, rfl, a, rfl, ⟨_, SqT.of ha⟩, fun D hD => ?_⟩
  refine lc_val (walk_tup (K := K)) hD (by simp; omega) (fun H1 e => e.seqT (SqT.of ha)) (List.replicate m.length (V.bl true)) (by simp) (fun i x H1 H2 Q' hi e y k => ?_) (fun H1 e eD => ?_)
  · obtain ⟨rfl, hx⟩ := y
    obtain ⟨c, hc, rfl⟩ := int_at hx
    refine ⟨rfl, .int c, rfl, c, rfl, fun H3 s3 => ?_⟩
    have hi' : i < m.length := by simpa using hi
    refine ⟨true, rfl, iteT ⟨.int c, rfl, _, _, rfl, rfl, ?_⟩⟩
    refine k _ _ s3 ?_
    have h0c := h0 c (List.mem_of_getElem? hc)
    simp [hi', h0c]
  · refine ⟨D, List.replicate m.length true, rfl, SqL.of (by rw [eD, List.map_replicate]), ?_⟩
    rw [show (List.replicate m.length true).all id = true by simp]
    exact q H1 e
theorem d_law_is_moment (B : Bt mg) (T : Top K mg "_law_is_moment" s_law_is_moment ["told", "span"]) (D_law_is_integer : Def P w K mg base "_law_is_integer" 1 ["told"] spIsInt) : Def P w K mg base "_law_is_moment" 2 ["told", "span"] (spIsMoment K) := by
  refine mk_def T sc_law_is_moment (by rintro _ _ _ _ ⟨_, _, rfl, _⟩; rfl) fun f cdv A outer s H vs Q E hr h => ?_
  obtain ⟨v, m, rfl, hm, h0, h1, q⟩ := h
  refine ⟨_, (pss_cons (ps_if (pw_or (pt_not (pt_val (pe_callB call_isi (by rfl) B.m_isinstance (by decide +kernel) (pa_cons (pv 0) (pa_cons (pe_bltn (v := .ty "tuple") (by rfl) B.m_tuple (by decide +kernel) rfl) pa_nil))))) (pw_or1 (pt_cmpR op_ne (pe_callB call_len_seq (by rfl) B.m_len PySem.boot_len (pa_cons (pv 0) pa_nil)) (pv 1) (nomark _)))).pt (pss_one (ps_ret pe_bl)) pss_nil)
      (pss_one (ps_ret (pe_callB (cr_all rfl) (by rfl) B.m_all (by decide +kernel) (pa_cons (pe_lc (own := [("one", 2)]) (g := (gName 2)) (tt := tYes) (te := (tAndV (tCall spIsInt [] E0 (tCons (tVar 2) tNil)) (tOp yGe (tVar 2) (tC (.int 0))))) rfl sc_law_is_moment.nd (pi_tup (pv 0)) (blkOk_by (own := [("one", 2)]) (N := N_law_is_moment) (sc := defScope s_law_is_moment) (by decide +kernel)) (fun _ _ _ _ _ => (pg_name (i := 2) sc_law_is_moment.nd rfl (Or.inl rfl))) (fun _ _ _ _ _ => pts_nil) (fun _ _ _ _ _ => (pe_and (pe_def D_law_is_integer (hr.mono (by decide)) (by rfl) (pa_cons (pv 2) pa_nil)) (pe_one (pe_cmpR op_ge (pv 2) pe_int (nomark _)))))) pa_nil))))), ?_⟩
  obtain ⟨a, rfl, ha⟩ := hm.trk
  refine ⟨.ref a, rfl, _, _, .type "tuple", .type "tuple", true, rfl, .ty _, .base (.tup ha), kit_ty (by decide +kernel), _, rfl, iteF ⟨.ref a, rfl, a, _, rfl, .inr (SqT.of ha), .int (m.length : Nat), rfl, rfl, _, rfl, ?_⟩⟩
  refine iteNS (by simp) ?_
  refine ⟨.ref a, rfl, a, rfl, ⟨_, SqT.of ha⟩, fun D hD => ?_⟩
  refine lc_val (walk_tup (K := K)) hD (by simp; omega) (fun H1 e => e.seqT (SqT.of ha)) (List.replicate m.length (V.bl true)) (by simp) (fun i x H1 H2 Q' hi e y k => ?_) (fun H1 e eD => ?_)
  · obtain ⟨rfl, hx⟩ := y
    obtain ⟨c, hc, rfl⟩ := int_at hx
    refine ⟨rfl, .int c, rfl, c, rfl, fun H3 s3 => ?_⟩
    have hi' : i < m.length := by simpa using hi
    refine ⟨true, rfl, iteT ⟨.int c, rfl, _, _, rfl, rfl, ?_⟩⟩
    refine k _ _ s3 ?_
    have h0c := h0 c (List.mem_of_getElem? hc)
    simp [hi', h0c]
  · refine ⟨D, List.replicate m.length true, rfl, SqL.of (by rw [eD, List.map_replicate]), ?_⟩
    rw [show (List.replicate m.length true).all id = true by simp]
    exact q H1 e
end
end K4

namespace K4
open PySem PySem.Spec PyProof.Rows L2
theorem map_at {α β : Type} {f : α → β} {l : List α} {i : Nat} {y : β} (h : (l.map f)[i]? = some y) : ∃ x, l[i]? = some x ∧ y = f x := by
  rw [List.getElem?_map] at h
  cases e : l[i]? with
  | none => rw [e] at h; cases h
  | some n => rw [e] at h; exact ⟨n, rfl, (Option.some.inj h).symm⟩
/-- a list of moments -/
def MoL (K : PySem.W.Frag) (H : Hp) (v : V) (ms : List (List Int)) : Prop := ∃ a lv, v = .ref a ∧ H a = some (.lst lv) ∧ DaAll K H lv (ms.map mo)
theorem MoL.same {K : PySem.W.Frag} {H H' : Hp} {v : V} {ms : List (List Int)} (h : MoL K H v ms) (e : Same H H') : MoL K H' v ms := by
  obtain ⟨a, lv, rfl, h1, h2⟩ := h
  exact ⟨a, lv, rfl, e _ _ h1, Da.sameAll e _ _ h2⟩
theorem mos_ks {K : PySem.W.Frag} {H : Hp} : ∀ {gv : List V} {ms : List (List Int)}, DaAll K H gv (ms.map mo) → ∃ ks : List (Addr × List Int), gv = ks.map (fun p => V.ref p.1) ∧ ks.map (·.2) = ms ∧ ∀ p ∈ ks, H p.1 = some (.tup (p.2.map V.int))
  | _, [], .nil => ⟨[], rfl, rfl, fun p hp => by simp at hp⟩
  | _, m :: ms, .cons r t => by
    obtain ⟨a, rfl, ha⟩ := Mo.trk r
    obtain ⟨ks, h1, h2, h3⟩ := mos_ks (ms := ms) t
    refine ⟨(a, m) :: ks, by rw [h1]; rfl, by rw [← h2]; rfl, fun p hp => ?_⟩
    rcases List.mem_cons.mp hp with rfl | hp
    · exact ha
    · exact h3 p hp
theorem ks_mos {K : PySem.W.Frag} {H : Hp} : ∀ {ks : List (Addr × List Int)}, (∀ p ∈ ks, H p.1 = some (.tup (p.2.map V.int))) → DaAll K H (ks.map fun p => V.ref p.1) ((ks.map (·.2)).map mo)
  | [], _ => .nil
  | p :: ks, h => .cons (Mo.of (h p List.mem_cons_self)) (ks_mos fun q hq => h q (List.mem_cons_of_mem _ hq))
theorem pf_at {S : List (List Int)} {n : Nat} (h : S.Pairwise fun x y => TS.code BB x ≤ TS.code BB y) (nd : S.Nodup) (ho : ∀ x ∈ S, Ok n x) {i : Nat} {x : List Int} (hx : S[i]? = some x) : ∀ y ∈ S.take i, Ok n y ∧ TS.code BB y < TS.code BB x := by
  intro y hy
  obtain ⟨j, hj⟩ := List.mem_iff_getElem?.mp hy
  rw [List.getElem?_take] at hj
  split at hj
  · rename_i hji
    have hy' : y ∈ S := List.mem_of_getElem? hj
    have hx' : x ∈ S := List.mem_of_getElem? hx
    refine ⟨ho y hy', ?_⟩
    obtain ⟨l1, e1⟩ := List.getElem?_eq_some_iff.mp hj
    obtain ⟨l2, e2⟩ := List.getElem?_eq_some_iff.mp hx
    have hc := List.pairwise_iff_getElem.mp h j i l1 l2 hji
    rw [e1, e2] at hc
    rcases Int.lt_or_eq_of_le hc with l | l
    · exact l
    · have := code_inj (by rw [(ho y hy').1, (ho x hx').1]) (ho y hy').2 (ho x hx').2 l
      subst this
      have := (List.getElem_inj nd).mp (e1.trans e2.symm)
      omega
  · cases hj
theorem TS_len {l D : List (List Int)} (nd : l.Nodup) (h : ∀ x ∈ l, x ∈ D) : l.length ≤ D.length := by
  have := List.Nodup.length_le_of_subset nd h
  exact this
def spMinimal (K : PySem.W.Frag) : Sp := fun vs H Q _ => ∃ (v : V) (n : Nat) (ms : List (List Int)), vs = [v] ∧ MoL K H v ms ∧ (∀ m ∈ ms, Ok n m) ∧ 1 ≤ n ∧ n ≤ 1000 ∧ ms.length ≤ 60 ∧
  ∀ H' d lv L, Same H H' → H d = none → H' d = some (.lst lv) → DaAll K H' lv (L.map mo) → IsL ms L → Q (.ref d) H'
section
variable {P : Program} {w : World} {K : PySem.W.Frag} {mg : Str → Option Value} {base : Heap}
theorem d_minimal (B : Bt mg) (T : Top K mg "minimal" sminimal ["moments"]) (Dbefore : Def P w K mg base "before" 1 ["first", "second"] (spB K leB)) : Def P w K mg base "minimal" 2 ["moments"] (spMinimal K) := by
  refine mk_def T scminimal (by rintro _ _ _ _ ⟨_, _, _, rfl, _⟩; rfl) fun f cdv A outer s H vs Q E hr h => ?_
  obtain ⟨v, n, ms, rfl, ⟨a, lv, rfl, ha, hd⟩, hok, hn1, hn, hms, q⟩ := h
  obtain ⟨ks, rfl, rfl, hk⟩ := mos_ks hd
  refine ⟨_, (pss_cons (ps_set (i := 1) scminimal.nd rfl (Or.inl rfl) (pe_lst pa_nil))
      (pss_cons (ps_for PassesOwn.never rfl (pi_list (pe_callB (cr_sortedT rfl) (by rfl) B.m_sorted (by decide +kernel) (pa_cons (pe_callTy (cr_setOfT rfl (hu64 hr)) (by rfl) B.m_set (by decide +kernel) (pa_cons (pv 0) pa_nil)) pa_nil))) (pg_name (i := 2) scminimal.nd rfl (Or.inr rfl)) (pss_one (ps_if (pt_not (pt_val (pe_callB (cr_any rfl) (by rfl) B.m_any (by decide +kernel) (pa_cons (pe_lc (own := [("low", 3)]) (g := (gName 3)) (tt := tYes) (te := (tCall (spB K leB) [] E0 (tCons (tVar 3) (tCons (tVar 2) tNil)))) rfl scminimal.nd (pi_list (pv 1)) (blkOk_by (own := [("low", 3)]) (N := Nminimal) (sc := defScope sminimal) (by decide +kernel)) (fun _ _ _ _ _ => (pg_name (i := 3) scminimal.nd rfl (Or.inl rfl))) (fun _ _ _ _ _ => pts_nil) (fun _ _ _ _ _ => (pe_def Dbefore (hr.mono (by decide)) (by rfl) (pa_cons (pv 3) (pa_cons (pv 2) pa_nil))))) pa_nil)))) (pss_one (ps_expr (pe_bm PySem.F.plainAttrs_list PySem.F.slot_list_append PySem.F.type_list_append mt_append (pv 1) (pa_cons (pv 2) pa_nil)))) pss_nil)))
      (pss_one (ps_ret (pv 1))))), ?_⟩
  refine ⟨Nat.zero_le _, fun Fd hFd => ?_⟩
  have s0 : Same H (upd H Fd (.lst [])) := same_upd hFd
  refine ⟨.ref a, rfl, a, ks, rfl, SqL.of (s0 _ _ ha), fun p hp => SqT.of (s0 _ _ (hk p hp)), by simp at hms; omega, fun a1 L ha1 hsub hcov => ?_⟩
  have s1 : Same H (upd (upd H Fd (.lst [])) a1 (SetTO P w a1 L)) := s0.trans (same_upd ha1)
  refine ⟨a1, L, n, BB, rfl, upd_same, fun p hp => SqT.of (s1 _ _ (hk p (hsub p hp))), hn1, fun p hp => hok _ (List.mem_map.mpr ⟨p, hsub p hp, rfl⟩), fun L' p hperm hnd h64 hpw hp => ?_⟩
  have s2 : Same H (upd (upd (upd H Fd (.lst [])) a1 (SetTO P w a1 L)) p (.lst (L'.map fun q => V.ref q.1))) := s1.trans (same_upd hp)
  have nFa : Fd ≠ a1 := ne_of_none (o := .lst []) upd_same ha1
  have eF1 : upd (upd H Fd (.lst [])) a1 (SetTO P w a1 L) Fd = some (.lst []) := by rw [upd_ne nFa, upd_same]
  have nFp : Fd ≠ p := ne_of_none eF1 hp
  have hS : ∀ x, x ∈ L'.map (·.2) ↔ x ∈ ks.map (·.2) := by
    intro x
    rw [(hperm.map (·.2)).mem_iff]
    constructor
    · intro h
      obtain ⟨p, hp, rfl⟩ := List.mem_map.mp h
      exact List.mem_map.mpr ⟨p, hsub p hp, rfl⟩
    · intro h
      obtain ⟨p, hp, rfl⟩ := List.mem_map.mp h
      exact hcov p hp
  have hokS : ∀ x ∈ L'.map (·.2), Ok n x := fun x hx => hok x ((hS x).mp hx)
  have hpwS : (L'.map (·.2)).Pairwise fun x y => TS.code BB x ≤ TS.code BB y := List.pairwise_map.mpr hpw
  refine ⟨p, rfl, ⟨_, SqL.of upd_same⟩, ?_⟩
  refine for_list (xs := L'.map fun q => V.ref q.1) (fun i σ H' => ∃ y2 y3 fv F, σ = [some (.ref a), some (.ref Fd), y2, y3] ∧ Same H H' ∧ H' p = some (.lst (L'.map fun q => V.ref q.1)) ∧ H' Fd = some (.lst fv) ∧ DaAll K H' fv (F.map mo) ∧ PF ((L'.map (·.2)).take i) F)
    ⟨none, none, [], [], rfl, s2, upd_same, by rw [upd_ne nFp]; exact eF1, .nil, PF.nil⟩ (fun i σ H' _ pv' => ?_) (fun i x σ H' hx pv' => ?_) (fun σ H' pv' => ?_)
  · obtain ⟨_, _, _, _, rfl, _, ep, _⟩ := pv'
    exact SqL.of ep
  · obtain ⟨y2, y3, fv, F, rfl, e, ep, eF, dF, pf⟩ := pv'
    obtain ⟨z, hz, rfl⟩ := map_at hx
    have hzL : z ∈ L := hperm.mem_iff.mp (List.mem_of_getElem? hz)
    have hz2 : (L'.map (·.2))[i]? = some z.2 := by rw [List.getElem?_map, hz]; rfl
    have hoz : Ok n z.2 := hokS _ (List.mem_of_getElem? hz2)
    have hmz : H' z.1 = some (.tup (z.2.map V.int)) := e _ _ (hk z (hsub z hzL))
    have hT := pf_at hpwS hnd hokS hz2
    have htk : (L'.map (·.2)).take (i + 1) = (L'.map (·.2)).take i ++ [z.2] := by rw [List.take_add_one, hz2]; rfl
    have hoF : ∀ f ∈ F, Ok n f := fun f hf => (hT f (pf.sub f hf)).1
    have lF : fv.length = F.length := by simpa using dF.length
    refine ⟨.ref Fd, rfl, Fd, rfl, ⟨_, SqL.of eF⟩, fun D hD => ?_⟩
    have hF60 : F.length ≤ 64 := by
      have h1 : F.Nodup := pf.asc.imp fun h e => by subst e; omega
      have h2 := TS_len h1 (fun f hf => List.mem_of_mem_take (pf.sub f hf))
      simp at h2
      omega
    refine lc_val (walk_list (K := K)) hD (by omega) (fun H1 e => SqL.of (e _ _ eF)) ((F.map fun l => leB l z.2).map V.bl) (by simp [lF]) (fun j y H1 H2 Q' hj e1 y1 k => ?_) (fun H1 e1 eD => ?_)
    · obtain ⟨rfl, hy⟩ := y1
      obtain ⟨d, hd1, hd2⟩ := dF.get hy
      obtain ⟨l, hl, rfl⟩ := mo_at hd1
      obtain ⟨b, rfl, hb⟩ := (Mo.same hd2 e1).inv
      have hol := hoF l (List.mem_of_getElem? hl)
      refine ⟨rfl, .ref b, rfl, .ref z.1, rfl, b, z.1, l, z.2, rfl, hb, SqT.of (e1 _ _ hmz), by rw [hol.1, hoz.1], by rw [hol.1]; exact hn, fun H3 e3 => k _ _ e3 ?_⟩
      simp [hl]
    · refine ⟨D, F.map fun l => leB l z.2, rfl, SqL.of eD, _, rfl, ?_⟩
      refine ite2 (fun zz => ?_) (fun zz => ?_)
      · have hall : ∀ f ∈ F, leB f z.2 = false := by
          intro f hf
          cases e : leB f z.2 with
          | false => rfl
          | true =>
            have : (F.map fun l => leB l z.2).any id = true := List.any_eq_true.mpr ⟨true, List.mem_map.mpr ⟨f, hf, e⟩, rfl⟩
            rw [this] at zz
            cases zz
        have eF1 := e1 _ _ eF
        have st : ST K H1 (upd H1 Fd (.lst (fv ++ [.ref z.1]))) := st_upd eF1 True.intro
        refine ⟨.ref Fd, rfl, .inl ⟨rfl, _, SqL.of eF1⟩, .ref z.1, rfl, Fd, _, _, rfl, rfl, eF1, by rw [lF]; exact Nat.lt_of_le_of_lt hF60 (by decide), ?_⟩
        refine ⟨_, _, fv ++ [.ref z.1], F ++ [z.2], rfl, (e.trans e1).mut hFd, ?_, upd_same, ?_, ?_⟩
        · rw [upd_ne nFp.symm]
          exact e1 _ _ ep
        · rw [List.map_append]
          exact DaAll.snoc (Da.st st _ _ (imm_mo _) (Mo.of (e1 _ _ hmz))) (Da.stAll (e1.st.trans st) _ _ (imm_mos _) dF)
        · rw [htk]
          exact pf.add hT hoz hall
      · have hex : ∃ f ∈ F, leB f z.2 = true := by
          cases e : (F.map fun l => leB l z.2).any id with
          | false => rw [e] at zz; exact absurd rfl zz
          | true =>
            obtain ⟨b, hb, hb2⟩ := List.any_eq_true.mp e
            obtain ⟨f, hf, rfl⟩ := List.mem_map.mp hb
            exact ⟨f, hf, hb2⟩
        refine ⟨_, _, fv, F, rfl, e.trans e1, e1 _ _ ep, e1 _ _ eF, Da.sameAll e1 _ _ dF, ?_⟩
        rw [htk]
        exact pf.skip hT hoz hex
  · obtain ⟨y2, y3, fv, F, rfl, e, ep, eF, dF, pf⟩ := pv'
    rw [List.length_map] at pf
    rw [List.take_of_length_le (by simp)] at pf
    exact ⟨.ref Fd, rfl, q H' Fd fv F e hFd eF dF (pf.done hS)⟩
end
end K4

namespace K4
open PySem PySem.Spec PyProof.Rows L2
/-! ### fronts -/
theorem kal : ¬ (("axes" : Str) = "_lows") := by decide +kernel
def frF (n : Nat) (d : Addr) : List (Str × V) := putF "_lows" (.ref d) (putF "axes" (.int (n : Nat)) [])
theorem frF_axes (n : Nat) (d : Addr) : (frF n d).lookup ("axes" : Str) = some (.int (n : Nat)) := by
  unfold frF
  rw [lookup_putF, if_neg kal, lookup_putF, if_pos rfl]
theorem frF_lows (n : Nat) (d : Addr) : (frF n d).lookup ("_lows" : Str) = some (.ref d) := by
  unfold frF
  rw [lookup_putF, if_pos rfl]
theorem frF_no (n : Nat) (d : Addr) {m : Str} (h1 : ¬ m = "_lows") (h2 : ¬ m = "axes") : (frF n d).lookup m = none := by
  unfold frF
  rw [lookup_putF, if_neg h1, lookup_putF, if_neg h2]
  rfl
/-- the class as the top has made it -/
structure TxF (K : PySem.W.Frag) (C : Addr) : Prop where
  cl : Cls K C
  nA : NoAttr K C "axes"
  nL : NoAttr K C "_lows"
/-- a front stands at v -/
def FrontAt (K : PySem.W.Frag) (C : Addr) (H : Hp) (v : V) (n : Nat) (L : List (List Int)) : Prop :=
  ∃ p dx d lv, v = .ref p ∧ H p = some (.ins C dx (frF n d)) ∧ H d = some (.lst lv) ∧ DaAll K H lv (L.map mo) ∧ (∀ l ∈ L, Ok n l) ∧ L.length ≤ 100
theorem FrontAt.same {K : PySem.W.Frag} {C : Addr} {H H' : Hp} {v : V} {n : Nat} {L : List (List Int)} (h : FrontAt K C H v n L) (e : Same H H') : FrontAt K C H' v n L := by
  obtain ⟨p, dx, d, lv, rfl, h1, h2, h3, r⟩ := h
  exact ⟨p, dx, d, lv, rfl, e _ _ h1, e _ _ h2, Da.sameAll e _ _ h3, r⟩
theorem Ok.pos {n : Nat} {m : List Int} (h : Ok n m) : ∀ c ∈ m, 0 ≤ c := fun c hc => (h.2 c hc).1
def spInit (K : PySem.W.Frag) (C : Addr) : Sp := fun vs H Q _ => ∃ (p dx : Addr) (n : Nat) (v : V) (ms : List (List Int)), vs = [.ref p, .int (n : Nat), v] ∧ H p = some (.ins C dx []) ∧ 1 ≤ n ∧ n ≤ 4 ∧ MoL K H v ms ∧ (∀ m ∈ ms, Ok n m) ∧ ms.length ≤ 60 ∧
  ∀ H' L, SameB p H H' → FrontAt K C H' (.ref p) n L → IsL ms L → Q .non H'
def spMoments (K : PySem.W.Frag) (C : Addr) : Sp := fun vs H Q _ => ∃ (v : V) (n : Nat) (L : List (List Int)), vs = [v] ∧ FrontAt K C H v n L ∧ ∀ H' d lv, Same H H' → H d = none → H' d = some (.lst lv) → DaAll K H' lv (L.map mo) → Q (.ref d) H'
def spFold (K : PySem.W.Frag) (C : Addr) : Sp := fun vs H Q _ => ∃ (v u : V) (n : Nat) (L : List (List Int)) (m : List Int), vs = [v, u] ∧ FrontAt K C H v n L ∧ Mo K H u m ∧ Ok n m ∧ 1 ≤ n ∧ n ≤ 4 ∧ ∀ H' y, Same H H' → Mo K H' y (foldL L m) → Q y H'
def spContains (K : PySem.W.Frag) (C : Addr) : Sp := fun vs H Q _ => ∃ (v u : V) (n : Nat) (L : List (List Int)) (m : List Int), vs = [v, u] ∧ FrontAt K C H v n L ∧ Mo K H u m ∧ Ok n m ∧ n ≤ 4 ∧ (∃ e ∈ L, Le e m) ∧ ∀ H', Same H H' → Q (.bl true) H'
def spAdvances (K : PySem.W.Frag) (C : Addr) : Sp := fun vs H Q _ => ∃ (v u : V) (n : Nat) (L A : List (List Int)), vs = [v, u] ∧ FrontAt K C H v n L ∧ FrontAt K C H u n A ∧ Adv A L ∧ n ≤ 4 ∧ ∀ H', Same H H' → Q (.bl true) H'
section
variable {P : Program} {w : World} {K : PySem.W.Frag} {mg : Str → Option Value} {base : Heap} {C : Addr}
theorem d_Front___contains__ (B : Bt mg) (X : TxF K C) (T : TopM K C "__contains__" "Front.__contains__" sFront___contains__ ["self", "x"]) (Dis_moment : Def P w K mg base "is_moment" 2 ["value", "axes"] (spIsMoment K)) (Dbefore : Def P w K mg base "before" 1 ["first", "second"] (spB K leB)) : MethD P w K mg base C "__contains__" 3 ["self", "x"] (spContains K C) := by
  refine mk_meth T scFront___contains__ (by rintro _ _ _ _ ⟨_, _, _, _, _, rfl, _⟩; rfl) fun f cdv A outer s H vs Q E hr h => ?_
  obtain ⟨v, u, n, L, m, rfl, ⟨p, dx, d, lv, rfl, h1, h2, h3, hL, hL2⟩, hm, hom, hn, ⟨g, hg, hgm⟩, q⟩ := h
  refine ⟨_, (pss_one (ps_ret (pe_and (pe_def Dis_moment (hr.mono (by decide)) (by rfl) (pa_cons (pv 1) (pa_cons (pe_fld (pv 0) rfl) pa_nil))) (pe_one (pe_callB (cr_any rfl) (by rfl) B.m_any (by decide +kernel) (pa_cons (pe_lc (own := [("low", 2)]) (g := (gName 2)) (tt := tYes) (te := (tCall (spB K leB) [] E0 (tCons (tVar 2) (tCons (tVar 1) tNil)))) rfl scFront___contains__.nd (pi_list (pe_fld (pv 0) rfl)) (blkOk_by (own := [("low", 2)]) (N := NFront___contains__) (sc := defScope sFront___contains__) (by decide +kernel)) (fun _ _ _ _ _ => (pg_name (i := 2) scFront___contains__.nd rfl (Or.inl rfl))) (fun _ _ _ _ _ => pts_nil) (fun _ _ _ _ _ => (pe_def Dbefore (hr.mono (by decide)) (by rfl) (pa_cons (pv 2) (pa_cons (pv 1) pa_nil))))) pa_nil)))))), ?_⟩
  obtain ⟨b, rfl, hb⟩ := hm.inv
  refine ⟨.ref b, rfl, .ref p, rfl, p, C, dx, _, _, rfl, h1, X.cl, X.nA, frF_axes n d, .ref b, m, (by rw [hom.1]; rfl), hm, hom.pos, by have := hom.1; omega, fun H1 s1 => ⟨true, rfl, iteT ?_⟩⟩
  refine ⟨.ref p, rfl, p, C, dx, _, _, rfl, s1 _ _ h1, X.cl, X.nL, frF_lows n d, d, rfl, ⟨_, SqL.of (s1 _ _ h2)⟩, fun D hD => ?_⟩
  have lL : lv.length = L.length := by simpa using h3.length
  refine lc_val (walk_list (K := K)) hD (by omega) (fun H2 e => SqL.of (e _ _ (s1 _ _ h2))) ((L.map fun l => leB l m).map V.bl) (by simp [lL]) (fun j y H2 H3 Q' hj e1 y1 k => ?_) (fun H2 e1 eD => ?_)
  · obtain ⟨rfl, hy⟩ := y1
    obtain ⟨dd, hd1, hd2⟩ := h3.get hy
    obtain ⟨l, hl, rfl⟩ := mo_at hd1
    obtain ⟨c, rfl, hc⟩ := (Mo.same hd2 (s1.trans e1)).inv
    have hol := hL l (List.mem_of_getElem? hl)
    refine ⟨rfl, .ref c, rfl, .ref b, rfl, c, b, l, m, rfl, hc, (s1.trans e1).seqT hb, by rw [hol.1, hom.1], by rw [hol.1]; omega, fun H4 e4 => k _ _ e4 ?_⟩
    simp [hl]
  · refine ⟨D, L.map fun l => leB l m, rfl, SqL.of eD, ?_⟩
    have : (L.map fun l => leB l m).any id = true := List.any_eq_true.mpr ⟨true, List.mem_map.mpr ⟨g, hg, (leB_iff (by rw [(hL g hg).1, hom.1])).mpr hgm⟩, rfl⟩
    rw [this]
    exact q H2 (s1.trans e1)
end
end K4

namespace K4
open PySem PySem.Spec PyProof.Rows L2
section
variable {P : Program} {w : World} {K : PySem.W.Frag} {mg : Str → Option Value} {base : Heap} {C : Addr}
theorem d_Front_fold (B : Bt mg) (X : TxF K C) (T : TopM K C "fold" "Front.fold" sFront_fold ["self", "moment"]) (Djoin_of : Def P w K mg base "join_of" 1 ["first", "second"] (spM K joinL)) (Dmeet_of : Def P w K mg base "meet_of" 1 ["first", "second"] (spM K meetL)) : MethD P w K mg base C "fold" 2 ["self", "moment"] (spFold K C) := by
  refine mk_meth T scFront_fold (by rintro _ _ _ _ ⟨_, _, _, _, _, rfl, _⟩; rfl) fun f cdv A outer s H vs Q E hr h => ?_
  obtain ⟨v, u, n, L, m, rfl, ⟨p, dx, d, lv, rfl, h1, h2, h3, hL, hL2⟩, hm, hom, hn1, hn, q⟩ := h
  refine ⟨_, (pss_cons (ps_if (pt_not (pt_truth (pe_fld (pv 0) rfl) (fun _ => rfl))) (pss_one (ps_ret (pe_op op_repA (pe_tup (pa_cons pe_int pa_nil)) (pe_fld (pv 0) rfl)))) pss_nil)
      (pss_cons (ps_set (i := 2) scFront_fold.nd rfl (Or.inl rfl) (pe_def Djoin_of (hr.mono (by decide)) (by rfl) (pa_cons (pv 1) (pa_cons (pe_ix ix_list (pe_fld (pv 0) rfl) pe_int (fun _ _ => rfl)) pa_nil))))
      (pss_cons (ps_for PassesOwn.never rfl (pi_list (pe_slice sl_list (pe_fld (pv 0) rfl) (po_some pe_int) po_none)) (pg_name (i := 3) scFront_fold.nd rfl (Or.inl rfl)) (pss_one (ps_set (i := 2) scFront_fold.nd rfl (Or.inl rfl) (pe_def Dmeet_of (hr.mono (by decide)) (by rfl) (pa_cons (pv 2) (pa_cons (pe_def Djoin_of (hr.mono (by decide)) (by rfl) (pa_cons (pv 1) (pa_cons (pv 3) pa_nil))) pa_nil))))))
      (pss_one (ps_ret (pv 2)))))), ?_⟩
  refine ⟨.ref p, rfl, p, C, dx, _, _, rfl, h1, X.cl, X.nL, frF_lows n d, ?_⟩
  cases L with
  | nil =>
    cases h3 with
    | nil =>
      refine ⟨false, .inl ⟨[], SqL.of h2, rfl⟩, iteT ?_⟩
      refine ⟨by show 1 ≤ sizeLine; decide, fun t ht => ⟨.ref p, rfl, p, C, dx, _, _, rfl, same_upd ht _ _ h1, X.cl, X.nA, frF_axes n d, ?_⟩⟩
      have e1 : Same H (upd H t (.tup [.int 0])) := same_upd ht
      have fz : foldL [] m = List.replicate n 0 := by
        show List.replicate m.length (0 : Int) = _
        rw [hom.1]
      by_cases h : n = 1
      · subst h
        refine .inl ⟨t, [.int 0], rfl, rfl, SqT.of upd_same, q _ _ e1 ?_⟩
        rw [fz]
        exact Mo.of (m := [0]) upd_same
      · refine .inr ⟨t, (n : Nat), [.int 0], rfl, rfl, SqT.of upd_same, by simp, by omega, by omega, by simp, fun a ha => q _ _ (e1.trans (same_upd ha)) ?_⟩
        rw [fz]
        refine Mo.of ?_
        rw [upd_same, Int.toNat_natCast, List.map_replicate]
        congr 2
        have : ∀ k : Nat, (List.replicate k [V.int 0]).flatten = List.replicate k (V.int 0) := by
          intro k
          induction k with
          | zero => rfl
          | succ k ih => rw [List.replicate_succ, List.flatten_cons, ih]; rfl
        exact this n
  | cons l ls =>
    cases h3 with
    | cons r0 rt =>
      rename_i v0 vs
      have hol := hL l List.mem_cons_self
      obtain ⟨b, rfl, hb⟩ := hm.inv
      obtain ⟨c, rfl, hc⟩ := Mo.inv r0
      refine ⟨true, .inl ⟨_, SqL.of h2, rfl⟩, iteF ?_⟩
      refine ⟨.ref b, rfl, .ref p, rfl, p, C, dx, _, _, rfl, h1, X.cl, X.nL, frF_lows n d, d, _, 0, .ref c, rfl, rfl, SqL.of h2, atI_nat (j := 0) rfl, b, c, m, l, rfl, hb, hc, by rw [hom.1, hol.1], by rw [hom.1]; omega, fun H1 y s1 ny ey => ?_⟩
      have hy : Mo K H1 (.ref y) (joinL m l) := Mo.of ey
      refine ⟨.ref p, rfl, p, C, dx, _, _, rfl, s1 _ _ h1, X.cl, X.nL, frF_lows n d, 1, rfl, d, _, rfl, SqL.of (s1 _ _ h2), fun z hz => ⟨z, rfl, ⟨_, SqL.of upd_same⟩, ?_⟩⟩
      have s2 : Same H (upd H1 z (.lst (cutV (V.ref c :: vs) (some 1) none))) := s1.trans (same_upd hz)
      have hcut : cutV (V.ref c :: vs) (some 1) none = vs := by
        unfold cutV
        simp [HT.sIx]
      rw [hcut] at s2 ⊢
      refine for_list (xs := vs) (fun i σ H' => ∃ y y3, σ = [some (.ref p), some (.ref b), some y, y3] ∧ Same H H' ∧ H' z = some (.lst vs) ∧ Mo K H' y ((ls.take i).foldl (stepL m) (joinL m l))) ⟨.ref y, none, rfl, s2, upd_same, hy.same (same_upd hz)⟩ (fun i σ H' _ pv' => ?_) (fun i x σ H' hx pv' => ?_) (fun σ H' pv' => ?_)
      · obtain ⟨_, _, rfl, _, ez, _⟩ := pv'
        exact SqL.of ez
      · obtain ⟨y, y3, rfl, e, ez, hy⟩ := pv'
        obtain ⟨dd, hd1, hd2⟩ := DaAll.get rt hx
        obtain ⟨l', hl', rfl⟩ := mo_at hd1
        have hol' := hL l' (List.mem_cons_of_mem _ (List.mem_of_getElem? hl'))
        have hok : Ok n ((ls.take i).foldl (stepL m) (joinL m l)) := foldl_ok hom (fun w hw => hL w (List.mem_cons_of_mem _ (List.mem_of_mem_take hw))) (hom.join hol)
        obtain ⟨g, rfl, hg⟩ := hy.inv
        obtain ⟨k, rfl, hk⟩ := (Mo.same hd2 e).inv
        refine ⟨.ref g, rfl, .ref b, rfl, .ref k, rfl, b, k, m, l', rfl, e.seqT hb, hk, by rw [hom.1, hol'.1], by rw [hom.1]; omega, fun H3 j s3 nj ej => ?_⟩
        refine ⟨g, j, _, _, rfl, s3.seqT hg, SqT.of ej, by rw [hok.1, (hom.join hol').1], by rw [hok.1]; omega, fun H5 j5 s5 nj5 ej5 => ?_⟩
        refine ⟨.ref j5, _, rfl, (e.trans s3).trans s5, s5 _ _ (s3 _ _ ez), Mo.of ?_⟩
        rw [ej5, List.take_add_one, hl']
        simp [stepL]
      · obtain ⟨y, y3, rfl, e, ez, hy⟩ := pv'
        have lv : vs.length = ls.length := by simpa using DaAll.length rt
        rw [lv, List.take_of_length_le (Nat.le_refl _)] at hy
        exact ⟨y, rfl, q H' y e hy⟩
theorem d_Front___init__ (B : Bt mg) (X : TxF K C) (T : TopM K C "__init__" "Front.__init__" sFront___init__ ["self", "axes", "moments"]) (Dcheck_axes : Def P w K mg base "check_axes" 2 ["axes"] spCheckAxes) (Dis_moment : Def P w K mg base "is_moment" 2 ["value", "axes"] (spIsMoment K)) (Dminimal : Def P w K mg base "minimal" 2 ["moments"] (spMinimal K)) : MethD P w K mg base C "__init__" 3 ["self", "axes", "moments"] (spInit K C) := by
  refine mk_meth T scFront___init__ (by rintro _ _ _ _ ⟨_, _, _, _, _, rfl, _⟩; rfl) fun f cdv A outer s H vs Q E hr h => ?_
  obtain ⟨p, dx, n, v, ms, rfl, h1, hn1, hn4, ⟨a, lv, rfl, ha, hd⟩, hok, hms, q⟩ := h
  refine ⟨_, (pss_cons (ps_expr (pe_def Dcheck_axes (hr.mono (by decide)) (by rfl) (pa_cons (pv 1) pa_nil)))
      (pss_cons (ps_set (i := 3) scFront___init__.nd rfl (Or.inl rfl) (pe_callTy call_list_of (by rfl) B.m_list (by decide +kernel) (pa_cons (pv 2) pa_nil)))
      (pss_cons (ps_for PassesOwn.never rfl (pi_list (pv 3)) (pg_name (i := 4) scFront___init__.nd rfl (Or.inl rfl)) (pss_one (ps_if (pt_not (pt_val (pe_def Dis_moment (hr.mono (by decide)) (by rfl) (pa_cons (pv 4) (pa_cons (pv 1) pa_nil))))) (pss_one ps_never) pss_nil)))
      (pss_cons (ps_fld (pv 0) (pv 1) rfl)
      (pss_one (ps_fld (pv 0) (pe_def Dminimal (hr.mono (by decide)) (by rfl) (pa_cons (pv 3) pa_nil)) rfl)))))), ?_⟩
  refine ⟨.int (n : Nat), rfl, (n : Nat), rfl, by omega, by omega, fun H1 s1 => ?_⟩
  refine ⟨.ref a, rfl, a, lv, rfl, .inl (SqL.of (s1 _ _ ha)), fun g hg => ?_⟩
  have s2 : Same H (upd H1 g (.lst lv)) := s1.trans (same_upd hg)
  have dg : DaAll K (upd H1 g (.lst lv)) lv (ms.map mo) := Da.sameAll s2 _ _ hd
  refine ⟨.ref g, rfl, g, rfl, ⟨_, SqL.of upd_same⟩, ?_⟩
  refine for_list (xs := lv) (fun i σ H' => ∃ y4, σ = [some (.ref p), some (.int (n : Nat)), some (.ref a), some (.ref g), y4] ∧ Same (upd H1 g (.lst lv)) H') ⟨none, rfl, Same.refl _⟩ (fun i σ H' _ pv' => ?_) (fun i x σ H' hx pv' => ?_) (fun σ H' pv' => ?_)
  · obtain ⟨_, rfl, e⟩ := pv'
    exact SqL.of (e _ _ upd_same)
  · obtain ⟨y4, rfl, e⟩ := pv'
    obtain ⟨dd, hd1, hd2⟩ := dg.get hx
    obtain ⟨m, hm, rfl⟩ := mo_at hd1
    have hom := hok m (List.mem_of_getElem? hm)
    refine ⟨x, rfl, .int (n : Nat), rfl, x, m, (by rw [hom.1]; rfl), Mo.same hd2 e, hom.pos, by rw [hom.1]; omega, fun H2 s2 => ⟨true, rfl, iteF ⟨_, rfl, e.trans s2⟩⟩⟩
  · obtain ⟨y4, rfl, e⟩ := pv'
    have s3 := s2.trans e
    refine ⟨.int (n : Nat), rfl, .ref p, rfl, p, C, dx, [], rfl, s3 _ _ h1, X.cl, X.nA, (by decide), ?_⟩
    have eg : H' g = some (.lst lv) := e _ _ upd_same
    have ngp : g ≠ p := fun z => by
      subst z
      rw [s3 _ _ h1] at eg
      cases eg
    have st : ST K H' (upd H' p (.ins C dx (putF "axes" (.int (n : Nat)) []))) := st_upd (s3 _ _ h1) True.intro
    refine ⟨.ref g, rfl, .ref g, n, ms, rfl, ⟨g, lv, rfl, (by rw [upd_ne ngp]; exact eg), Da.stAll (e.st.trans st) _ _ (imm_mos _) dg⟩, hok, hn1, by omega, hms, fun H4 d4 lv4 L s4 n4 e4 dd4 il => ?_⟩
    have ep : H4 p = some (.ins C dx (putF "axes" (.int (n : Nat)) [])) := s4 _ _ upd_same
    refine ⟨.ref p, rfl, p, C, dx, _, rfl, ep, X.cl, X.nL, (by show 1 < 1000; decide), ?_⟩
    have nd4 : d4 ≠ p := fun z => by
      subst z
      rw [upd_same] at n4
      cases n4
    have st4 : ST K H4 (upd H4 p (.ins C dx (frF n d4))) := st_upd ep True.intro
    refine q _ L (fun b o hb ho => ?_) ⟨p, dx, d4, lv4, rfl, upd_same, (by rw [upd_ne nd4]; exact e4), Da.stAll st4 _ _ (imm_mos _) dd4, fun l hl => hok l ((il.mem l).mp hl).1, ?_⟩ il
    · rw [upd_ne hb]
      exact s4 _ _ (by rw [upd_ne hb]; exact s3 _ _ ho)
    · have h1 : L.Nodup := il.asc.imp fun h e => by subst e; omega
      have h2 := TS_len h1 (fun f hf => ((il.mem f).mp hf).1)
      omega
end
end K4

namespace K4
open PySem PySem.Spec PyProof.Rows L2
theorem PotAt.there {H : Hp} {p : Addr} (h : PotAt H p) : ∃ o, H p = some o := let ⟨_, _, _, e, _⟩ := h; ⟨_, e⟩
theorem PotAt.same {H H' : Hp} {p : Addr} (h : PotAt H p) (e : Same H H') : PotAt H' p := let ⟨a, b, c, e1, r⟩ := h; ⟨a, b, c, e _ _ e1, r⟩
theorem PotAt.ne {H : Hp} {p q : Addr} (h : PotAt H p) (n : H q = none) : p ≠ q := let ⟨_, _, _, e, _⟩ := h; ne_of_none e n
theorem PotAt.upd {H : Hp} {p q : Addr} {o : HO} (h : PotAt H p) (n : p ≠ q) : PotAt (L2.upd H q o) p := let ⟨a, b, c, e1, r⟩ := h; ⟨a, b, c, by rw [upd_ne n]; exact e1, r⟩
section
variable {P : Program} {w : World} {K : PySem.W.Frag} {mg : Str → Option Value} {base : Heap}
def GH : Int := 1000000000000000000000000000000000000000
def spLevels (K : PySem.W.Frag) : Sp := fun vs H Q _ => ∃ (p : Addr) (n : Nat), vs = [.ref p, .int (n : Nat)] ∧ PotAt H p ∧ 1 ≤ n ∧ n ≤ 10 ∧
  ∀ H' a (r : List Int), SameB p H H' → PotAt H' p → H a = none → H' a = some (.lst (r.map V.int)) → r.length = n → TS.Bd GH r → r.Pairwise (· < ·) → Q (.ref a) H'
def GG : Int := 10000000000000000000000000000000
theorem d_law_levels (B : Bt mg) (T : Top K mg "_law_levels" s_law_levels ["pot", "many"]) (D_law_draw : Def P w K mg base "_law_draw" 1 ["pot", "size"] (spDraw K)) (D_law_great : Def P w K mg base "_law_great" 2 ["pot"] (spGreat K)) : Def P w K mg base "_law_levels" 3 ["pot", "many"] (spLevels K) := by
  refine mk_def T sc_law_levels (by rintro _ _ _ _ ⟨_, _, rfl, _⟩; rfl) fun f cdv A outer s H vs Q E hr h => ?_
  obtain ⟨p, n, rfl, pt, h1, h10, q⟩ := h
  refine ⟨_, (pss_cons (ps_set (i := 2) sc_law_levels.nd rfl (Or.inl rfl) (pe_lst (pa_cons (pe_op op_fdivW (pe_def D_law_draw (hr.mono (by decide)) (by rfl) (pa_cons (pv 0) (pa_cons pe_int pa_nil))) pe_int) pa_nil)))
      (pss_cons (ps_for PassesOwn.never rfl (pi_range1 (by rfl) B.m_range (pa_cons (pe_op op_sub (pv 1) pe_int) pa_nil)) (pg_name (i := 3) sc_law_levels.nd rfl (Or.inl rfl)) (pss_cons (ps_set (i := 4) sc_law_levels.nd rfl (Or.inl rfl) pe_int)
      (pss_cons (ps_set (i := 5) sc_law_levels.nd rfl (Or.inl rfl) (pe_def D_law_draw (hr.mono (by decide)) (by rfl) (pa_cons (pv 0) (pa_cons pe_int pa_nil))))
      (Evl.pss_cut (ps_if (pt_cmpR op_eq (pv 5) pe_int (nomark _)) (pss_one (ps_set (i := 4) sc_law_levels.nd rfl (Or.inl rfl) (pe_op op_add pe_int (pe_def D_law_draw (hr.mono (by decide)) (by rfl) (pa_cons (pv 0) (pa_cons pe_int pa_nil)))))) pss_nil)
      (Evl.pss_cut (ps_if (pt_cmpR op_eq (pv 5) pe_int (nomark _)) (pss_one (ps_set (i := 4) sc_law_levels.nd rfl (Or.inl rfl) (pe_op op_add pe_int (pe_def D_law_great (hr.mono (by decide)) (by rfl) (pa_cons (pv 0) pa_nil))))) pss_nil)
      (pss_one (ps_expr (pe_bm PySem.F.plainAttrs_list PySem.F.slot_list_append PySem.F.type_list_append mt_append (pv 2) (pa_cons (pe_op op_add (pe_ix ix_list (pv 2) (pe_un un_neg pe_int) (fun _ _ => rfl)) (pv 4)) pa_nil)))))))))
      (pss_one (ps_ret (pv 2))))), ?_⟩
  refine ⟨.ref p, rfl, p, 3, rfl, pt, by decide, by decide, fun H1 r s1 p1 r0 r1 => ⟨_, _, rfl, rfl, ⟨by decide, by decide⟩, by show 1 ≤ sizeLine; decide, fun L hL => ?_⟩⟩
  have nL : H L = none := s1.fresh pt.there hL p1.there
  have npL : p ≠ L := p1.ne hL
  refine ⟨.int (n : Nat), rfl, _, _, rfl, rfl, (n : Int) - 1, rfl, by omega, by omega, ?_⟩
  refine for_range (lo := 0) (n := ((n : Int) - 1).toNat) (fun i σ H' => ∃ (y3 y4 y5 : Option V) (ms : List Int) (last : Int), σ = [some (.ref p), some (.int (n : Nat)), some (.ref L), y3, y4, y5] ∧ SameB p H H' ∧ PotAt H' p ∧ H' L = some (.lst ((ms ++ [last]).map V.int)) ∧ ms.length = i ∧ (ms ++ [last]).Pairwise (· < ·) ∧ ∀ x ∈ ms ++ [last], 0 ≤ x ∧ x ≤ ((i : Int) + 1) * GG)
    ⟨none, none, none, [], r / 2, rfl, s1.trans (Same.b (same_upd hL)), p1.upd npL, upd_same, rfl, by simp, fun x hx => ?_⟩ (fun i σ H' hi pv' => ?_) (fun σ H' pv' => ?_)
  · have := List.mem_singleton.mp hx
    subst this
    have : (1 : Int) ≤ (0 + 1) * GG := by decide
    constructor
    · omega
    · have e : ((0 : Nat) : Int) = 0 := rfl
      rw [e]
      omega
  · obtain ⟨y3, y4, y5, ms, last, rfl, e, pt1, eL, hl, hpw, hms⟩ := pv'
    refine ⟨.ref p, rfl, p, 7, rfl, pt1, by decide, by decide, fun H2 wd s2 p2 w0 w1 => ?_⟩
    have eL2 := s2 _ _ npL.symm eL
    refine ⟨fun σ' H3 => ∃ g : Int, σ' = [some (.ref p), some (.int (n : Nat)), some (.ref L), some (.int (0 + (i : Nat))), some (.int g), some (.int wd)] ∧ SameB p H H3 ∧ PotAt H3 p ∧ H3 L = some (.lst ((ms ++ [last]).map V.int)) ∧ 1 ≤ g ∧ g ≤ GG, ?_, ?_⟩
    · refine ⟨.int wd, rfl, rfl, _, rfl, ite2 (fun z => ⟨.ref p, rfl, p, 9, rfl, p2, by decide, by decide, fun H3 g s3 p3 g0 g1 => ⟨_, _, rfl, rfl, _, rfl, (e.trans s2).trans s3, p3, s3 _ _ npL.symm eL2, by omega, ?_⟩⟩) (fun z => ⟨1, rfl, e.trans s2, p2, eL2, by decide, by decide⟩)⟩
      have : (11 : Int) ≤ GG := by decide
      omega
    · rintro σ' H3 ⟨g, rfl, e3, p3, eL3, g0, g1⟩
      refine ⟨fun σ' H4 => ∃ g : Int, σ' = [some (.ref p), some (.int (n : Nat)), some (.ref L), some (.int (0 + (i : Nat))), some (.int g), some (.int wd)] ∧ SameB p H H4 ∧ PotAt H4 p ∧ H4 L = some (.lst ((ms ++ [last]).map V.int)) ∧ 1 ≤ g ∧ g ≤ GG, ?_, ?_⟩
      · refine ⟨.int wd, rfl, rfl, _, rfl, ite2 (fun z => ⟨.ref p, rfl, p, rfl, p3, fun H4 g' s4 p4 g0' g1' => ⟨_, _, rfl, rfl, _, rfl, e3.trans s4, p4, s4 _ _ npL.symm eL3, by omega, ?_⟩⟩) (fun z => ⟨g, rfl, e3, p3, eL3, g0, g1⟩)⟩
        have : (1000000000000000000000000000000 : Int) + 1 ≤ GG := by decide
        omega
      · rintro σ' H4 ⟨g, rfl, e4, p4, eL4, g0, g1⟩
        refine ⟨.ref L, rfl, .inl ⟨rfl, _, SqL.of eL4⟩, .ref L, rfl, _, rfl, L, _, _, .int last, rfl, rfl, SqL.of eL4, ?_, .int g, rfl, _, _, rfl, rfl, L, _, _, rfl, rfl, eL4, ?_, ?_⟩
        · rw [List.map_append]
          exact atI_last _ _
        · exact Nat.lt_of_le_of_lt (show ((ms ++ [last]).map V.int).length ≤ 11 by simp; omega) (by decide)
        · refine ⟨_, _, _, ms ++ [last], last + g, rfl, e4.mut nL, p4.upd npL, ?_, by simp [hl], ?_, fun x hx => ?_⟩
          rotate_left
          · refine List.pairwise_append.mpr ⟨hpw, by simp, fun x hx y hy => ?_⟩
            rw [List.mem_singleton.mp hy]
            rcases List.mem_append.mp hx with hx | hx
            · have := (List.pairwise_append.mp hpw).2.2 x hx last (by simp)
              omega
            · rw [List.mem_singleton.mp hx]
              omega
          rotate_right
          · rw [upd_same, List.map_append (l₁ := ms ++ [last])]
            rfl
          · have hlast := hms last (by simp)
            have hst : (((i + 1 : Nat) : Int) + 1) * GG = ((i : Int) + 1) * GG + GG := by
              rw [show (((i + 1 : Nat) : Int) + 1) = ((i : Int) + 1) + 1 by omega, Int.add_mul ((i : Int) + 1) 1 GG, Int.one_mul]
            rw [hst]
            rcases List.mem_append.mp hx with hx | hx
            · have := hms x hx
              omega
            · rw [List.mem_singleton.mp hx]
              omega
  · obtain ⟨y3, y4, y5, ms, last, rfl, e, pt1, eL, hl, hpw, hms⟩ := pv'
    refine ⟨.ref L, rfl, q H' L (ms ++ [last]) e pt1 nL eL (by simp; omega) (fun x hx => ?_) hpw⟩
    have h := hms x hx
    refine ⟨h.1, ?_⟩
    have h2 : (((((n : Int) - 1).toNat : Nat) : Int) + 1) * GG ≤ 10 * GG := Int.mul_le_mul_of_nonneg_right (by omega) (by decide)
    have h3 : 10 * GG < GH := by decide
    omega
end
end K4

namespace K4
open PySem PySem.Spec PyProof.Rows L2
theorem can_ints : ∀ ns : List Int, PyData.canLayAll0 (ns.map PyData.int) = true
  | [] => rfl
  | n :: ns => can_ints ns
theorem depth_ints : ∀ ns : List Int, PyData.depthAll (ns.map PyData.int) = 0
  | [] => rfl
  | n :: ns => by
    show max 0 (PyData.depthAll (ns.map PyData.int)) = 0
    rw [depth_ints ns]
    rfl
theorem shaped_mo (m : List Int) : SeqAt.shaped (mo m) = true := by
  unfold SeqAt.shaped
  rw [show PyData.canLay0 (mo m) = true from can_ints m, Bool.true_and]
  refine decide_eq_true ?_
  show PyData.depthAll (m.map PyData.int) + 1 ≤ 64
  rw [depth_ints]
  decide
theorem can_mos : ∀ ms : List (List Int), PyData.canLayAll0 (ms.map mo) = true
  | [] => rfl
  | m :: ms => by
    show (PyData.canLay0 (mo m) && PyData.canLayAll0 (ms.map mo)) = true
    rw [show PyData.canLay0 (mo m) = true from can_ints m, can_mos ms]
    rfl
theorem depth_mos : ∀ ms : List (List Int), PyData.depthAll (ms.map mo) ≤ 1
  | [] => Nat.zero_le _
  | m :: ms => by
    show max (PyData.depthAll (m.map PyData.int) + 1) (PyData.depthAll (ms.map mo)) ≤ 1
    rw [depth_ints]
    exact Nat.max_le.mpr ⟨Nat.le_refl _, depth_mos ms⟩
theorem shaped_mos (ms : List (List Int)) : SeqAt.shaped (.list (ms.map mo)) = true := by
  unfold SeqAt.shaped
  rw [show PyData.canLay0 (.list (ms.map mo)) = true from can_mos ms, Bool.true_and]
  refine decide_eq_true ?_
  show PyData.depthAll (ms.map mo) + 1 ≤ 64
  have := depth_mos ms
  omega
theorem eqvAll_ints : ∀ ns ms : List Int, PyData.eqvAll (ns.map PyData.int) (ms.map PyData.int) = decide (ns = ms)
  | [], [] => rfl
  | [], _ :: _ => rfl
  | _ :: _, [] => rfl
  | n :: ns, m :: ms => by
    show ((n == m) && PyData.eqvAll (ns.map PyData.int) (ms.map PyData.int)) = _
    rw [eqvAll_ints ns ms, Bool.eq_iff_iff]
    simp
theorem eqv_mo (a b : List Int) : PyData.eqv (mo a) (mo b) = decide (a = b) := eqvAll_ints a b
theorem eqvAll_mos : ∀ as bs : List (List Int), PyData.eqvAll (as.map mo) (bs.map mo) = decide (as = bs)
  | [], [] => rfl
  | [], _ :: _ => rfl
  | _ :: _, [] => rfl
  | n :: ns, m :: ms => by
    show (PyData.eqv (mo n) (mo m) && PyData.eqvAll (ns.map mo) (ms.map mo)) = _
    rw [eqvAll_mos ns ms, eqv_mo, Bool.eq_iff_iff]
    simp
theorem eqv_mos (a b : List (List Int)) : PyData.eqv (.list (a.map mo)) (.list (b.map mo)) = decide (a = b) := eqvAll_mos a b
theorem MoL.da {K : PySem.W.Frag} {H : Hp} {v : V} {ms : List (List Int)} (h : MoL K H v ms) : Da K H v (.list (ms.map mo)) := by
  obtain ⟨a, lv, rfl, h1, h2⟩ := h
  exact .lst (SqL.of h1) h2
theorem SameB.potst {K : PySem.W.Frag} {H H' : Hp} {p : Addr} (e : SameB p H H') (pt : PotAt H p) : ST K H H' := by
  obtain ⟨a, b, c, e1, _⟩ := pt
  exact SameB.st e e1 True.intro
theorem MoL.sameB {K : PySem.W.Frag} {H H' : Hp} {v : V} {ms : List (List Int)} {p : Addr} (h : MoL K H v ms) (e : SameB p H H') (pt : PotAt H p) : MoL K H' v ms := by
  obtain ⟨a, lv, rfl, h1, h2⟩ := h
  have st : ST K H H' := SameB.potst e pt
  refine ⟨a, lv, rfl, e _ _ (fun z => ?_) h1, Da.stAll st _ _ (imm_mos _) h2⟩
  subst z
  obtain ⟨x, y, z, e1, _⟩ := pt
  rw [h1] at e1
  cases e1
  cases ms with
  | nil => cases h2
  | cons m ms =>
    cases h2 with
    | cons r _ => cases r
theorem Mo.sameB {K : PySem.W.Frag} {H H' : Hp} {v : V} {m : List Int} {p : Addr} (h : Mo K H v m) (e : SameB p H H') (pt : PotAt H p) : Mo K H' v m := Mo.st h (SameB.potst e pt)
/-- small moments -/
def Sm (n : Nat) (m : List Int) : Prop := m.length = n ∧ TS.Bd GH m
theorem Sm.ok {n : Nat} {m : List Int} (h : Sm n m) : Ok n m := ⟨h.1, fun c hc => ⟨(h.2 c hc).1, Int.lt_trans (h.2 c hc).2 (by decide)⟩⟩
theorem perm_das {K : PySem.W.Frag} {H : Hp} {ys lv : List V} (h : ys.Perm lv) : ∀ ms : List (List Int), DaAll K H lv (ms.map mo) → ∃ T : List (List Int), T.Perm ms ∧ DaAll K H ys (T.map mo) := by
  induction h with
  | nil => exact fun ms h => ⟨ms, .refl _, h⟩
  | cons x _ ih =>
    intro ms h
    cases ms with
    | nil => cases h
    | cons m ms =>
      cases h with
      | cons r t =>
        obtain ⟨T, h1, h2⟩ := ih ms t
        exact ⟨m :: T, h1.cons m, .cons r h2⟩
  | swap x y l =>
    intro ms h
    match ms, h with
    | m1 :: m2 :: ms, .cons r1 (.cons r2 t) => exact ⟨m2 :: m1 :: ms, .swap _ _ _, .cons r2 (.cons r1 t)⟩
  | trans _ _ ih1 ih2 =>
    intro ms h
    obtain ⟨T2, h1, h2⟩ := ih2 ms h
    obtain ⟨T1, h3, h4⟩ := ih1 T2 h2
    exact ⟨T1, h3.trans h1, h4⟩
theorem tupI_mo {K : PySem.W.Frag} {H : Hp} {v : V} {m : List Int} (h : Mo K H v m) : TupI K H v m := Mo.inv h
theorem das_asc {K : PySem.W.Frag} {H : Hp} {B : Int} : ∀ {ys : List V} {T : List (List Int)}, DaAll K H ys (T.map mo) → ys.Pairwise (fun x y => ∀ n m, TupI K H x n → TupI K H y m → TS.code B n ≤ TS.code B m) → T.Pairwise fun x y => TS.code B x ≤ TS.code B y
  | _, [], .nil, _ => .nil
  | _, t :: ts, .cons r rs, h => by
    have h' := List.pairwise_cons.mp h
    refine List.pairwise_cons.mpr ⟨fun m hm => ?_, das_asc rs h'.2⟩
    obtain ⟨j, hj⟩ := List.mem_iff_getElem?.mp hm
    obtain ⟨v, hv1, hv2⟩ := DaAll.at (d := mo m) rs (by rw [List.getElem?_map, hj]; rfl)
    exact h'.1 v (List.mem_of_getElem? hv1) _ _ (tupI_mo r) (tupI_mo hv2)
theorem asc_at {S : List (List Int)} {n : Nat} (h : S.Pairwise fun x y => TS.code BB x ≤ TS.code BB y) (ho : ∀ x ∈ S, Ok n x) {i : Nat} {x : List Int} (hx : S[i]? = some x) : ∀ y ∈ S.take i, Ok n y ∧ TS.code BB y ≤ TS.code BB x := by
  intro y hy
  obtain ⟨j, hj⟩ := List.mem_iff_getElem?.mp hy
  rw [List.getElem?_take] at hj
  split at hj
  · rename_i hji
    have hy' : y ∈ S := List.mem_of_getElem? hj
    refine ⟨ho y hy', ?_⟩
    obtain ⟨l1, e1⟩ := List.getElem?_eq_some_iff.mp hj
    obtain ⟨l2, e2⟩ := List.getElem?_eq_some_iff.mp hx
    have hc := List.pairwise_iff_getElem.mp h j i l1 l2 hji
    rw [e1, e2] at hc
    exact hc
  · cases hj
def spLeast (K : PySem.W.Frag) : Sp := fun vs H Q _ => ∃ (v : V) (n : Nat) (ms : List (List Int)), vs = [v] ∧ MoL K H v ms ∧ (∀ m ∈ ms, Ok n m) ∧ 1 ≤ n ∧ n ≤ 1000 ∧ ms.length ≤ 60 ∧
  ∀ H' d L, Same H H' → H d = none → MoL K H' (.ref d) L → IsL ms L → Q (.ref d) H'
section
variable {P : Program} {w : World} {K : PySem.W.Frag} {mg : Str → Option Value} {base : Heap}
theorem d_law_least (B : Bt mg) (T : Top K mg "_law_least" s_law_least ["given"]) (D_law_before : Def P w K mg base "_law_before" 1 ["one", "mate"] (spB K leB)) : Def P w K mg base "_law_least" 2 ["given"] (spLeast K) := by
  refine mk_def T sc_law_least (by rintro _ _ _ _ ⟨_, _, _, rfl, _⟩; rfl) fun f cdv A outer s H vs Q E hr h => ?_
  obtain ⟨v, n, ms, rfl, ⟨a, lv, rfl, ha, hd⟩, hok, hn1, hn, hms, q⟩ := h
  refine ⟨_, (pss_cons (ps_set (i := 1) sc_law_least.nd rfl (Or.inl rfl) (pe_lst pa_nil))
      (pss_cons (ps_for PassesOwn.never rfl (pi_list (pe_callB cr_sortM (by rfl) B.m_sorted (by decide +kernel) (pa_cons (pv 0) pa_nil))) (pg_name (i := 2) sc_law_least.nd rfl (Or.inr rfl)) (pss_one (ps_if (pw_and (pt_cmpR (op_notInD (hu65 hr)) (pv 2) (pv 1) rfl) (pw_and1 (pt_not (pt_val (pe_callB (cr_any rfl) (by rfl) B.m_any (by decide +kernel) (pa_cons (pe_lc (own := [("mate", 3)]) (g := (gName 3)) (tt := tYes) (te := (tAndV (tOp (rNeD K) (tVar 3) (tVar 2)) (tCall (spB K leB) [] E0 (tCons (tVar 3) (tCons (tVar 2) tNil))))) rfl sc_law_least.nd (pi_list (pv 0)) (blkOk_by (own := [("mate", 3)]) (N := N_law_least) (sc := defScope s_law_least) (by decide +kernel)) (fun _ _ _ _ _ => (pg_name (i := 3) sc_law_least.nd rfl (Or.inl rfl))) (fun _ _ _ _ _ => pts_nil) (fun _ _ _ _ _ => (pe_and (pe_cmpR (op_neD (hu64 hr)) (pv 3) (pv 2) (nomark _)) (pe_one (pe_def D_law_before (hr.mono (by decide)) (by rfl) (pa_cons (pv 3) (pa_cons (pv 2) pa_nil))))))) pa_nil)))))).pt (pss_one (ps_expr (pe_bm PySem.F.plainAttrs_list PySem.F.slot_list_append PySem.F.type_list_append mt_append (pv 1) (pa_cons (pv 2) pa_nil)))) pss_nil)))
      (pss_one (ps_ret (pv 1))))), ?_⟩
  refine ⟨Nat.zero_le _, fun Fd hFd => ?_⟩
  have s0 : Same H (upd H Fd (.lst [])) := same_upd hFd
  have lms : lv.length = ms.length := by simpa using hd.length
  have hd0 := Da.sameAll s0 _ _ hd
  refine ⟨.ref a, rfl, n, BB, hn1, a, lv, rfl, SqL.of (s0 _ _ ha), by omega, fun x hx => ?_, fun ys p hperm hpw hp => ?_⟩
  · obtain ⟨j, hj⟩ := List.mem_iff_getElem?.mp hx
    obtain ⟨dd, h1, h2⟩ := hd0.get hj
    obtain ⟨m, hm, rfl⟩ := mo_at h1
    have := hok m (List.mem_of_getElem? hm)
    exact ⟨m, tupI_mo h2, this.1, this.2⟩
  obtain ⟨S, hS, dS⟩ := perm_das hperm ms hd0
  have hpwS := das_asc dS hpw
  have hokS : ∀ x ∈ S, Ok n x := fun x hx => hok x (hS.mem_iff.mp hx)
  have s1 : Same H (upd (upd H Fd (.lst [])) p (.lst ys)) := s0.trans (same_upd hp)
  have nFp : Fd ≠ p := ne_of_none (o := .lst []) upd_same hp
  have dS1 : DaAll K (upd (upd H Fd (.lst [])) p (.lst ys)) ys (S.map mo) := Da.sameAll (same_upd hp) _ _ dS
  have lys : ys.length = S.length := by simpa using dS.length
  refine ⟨p, rfl, ⟨_, SqL.of upd_same⟩, ?_⟩
  refine for_list (xs := ys) (fun i σ H' => ∃ y2 y3 fv F, σ = [some (.ref a), some (.ref Fd), y2, y3] ∧ Same H H' ∧ DaAll K H' ys (S.map mo) ∧ H' p = some (.lst ys) ∧ H' Fd = some (.lst fv) ∧ DaAll K H' fv (F.map mo) ∧ LF ms (S.take i) F)
    ⟨none, none, [], [], rfl, s1, dS1, upd_same, by rw [upd_ne nFp, upd_same], .nil, LF.nil⟩ (fun i σ H' _ pv' => ?_) (fun i x σ H' hx pv' => ?_) (fun σ H' pv' => ?_)
  · obtain ⟨_, _, _, _, rfl, _, _, ep, _⟩ := pv'
    exact SqL.of ep
  · obtain ⟨y2, y3, fv, F, rfl, e, dY, ep, eF, dF, lf⟩ := pv'
    obtain ⟨dd, hd1, hd2⟩ := dY.get hx
    obtain ⟨m, hm, rfl⟩ := mo_at hd1
    have hom := hokS m (List.mem_of_getElem? hm)
    have htk : S.take (i + 1) = S.take i ++ [m] := by rw [List.take_add_one, hm]; rfl
    have lF : fv.length = F.length := by simpa using dF.length
    have hF : F.length ≤ 60 := by
      have h1 : F.Nodup := lf.asc.imp fun h e => by subst e; omega
      have h2 := TS_len h1 (fun f hf => hS.mem_iff.mp (List.mem_of_mem_take ((lf.mem f).mp hf).1))
      omega
    have dms := Da.sameAll e _ _ hd
    refine ⟨x, rfl, .ref Fd, rfl, mo m, F.map mo, Da.dp _ _ hd2, Da.dp _ _ (.lst (SqL.of eF) dF), shaped_mo _, shaped_mos _, _, rfl, ?_⟩
    have hin : ((F.map mo).any fun z => PyData.eqv z (mo m)) = decide (m ∈ F) := by
      rw [Bool.eq_iff_iff, List.any_eq_true, decide_eq_true_iff]
      constructor
      · rintro ⟨z, hz, h⟩
        obtain ⟨l, hl, rfl⟩ := List.mem_map.mp hz
        rw [eqv_mo] at h
        rw [← of_decide_eq_true h]
        exact hl
      · exact fun h => ⟨mo m, List.mem_map.mpr ⟨m, h, rfl⟩, by rw [eqv_mo]; exact decide_eq_true rfl⟩
    rw [hin]
    refine ite2 (fun zz => ?_) (fun zz => ?_)
    · have hnot : m ∉ F := by simpa using zz
      obtain ⟨b, rfl, hb⟩ := Mo.inv hd2
      refine ⟨.ref a, rfl, a, rfl, ⟨_, SqL.of (e _ _ ha)⟩, fun D hD => ?_⟩
      refine lc_val (walk_list (K := K)) hD (by omega) (fun H1 e1 => SqL.of (e1 _ _ (e _ _ ha))) ((ms.map fun y => decide (y ≠ m) && leB y m).map V.bl) (by simp [lms]) (fun j y H1 H2 Q' hj e1 y1 k => ?_) (fun H1 e1 eD => ?_)
      · obtain ⟨rfl, hy⟩ := y1
        obtain ⟨dd, hd1', hd2'⟩ := dms.get hy
        obtain ⟨l, hl, rfl⟩ := mo_at hd1'
        have hol := hok l (List.mem_of_getElem? hl)
        have hy2 := Mo.same hd2' e1
        obtain ⟨c, rfl, hc⟩ := Mo.inv hy2
        refine ⟨rfl, .ref c, rfl, .ref b, rfl, mo l, mo m, Da.dp _ _ hy2, Da.dp _ _ (Mo.same hd2 e1), shaped_mo _, shaped_mo _, _, rfl, ?_⟩
        rw [eqv_mo]
        refine ite2 (fun z2 => ?_) (fun z2 => ?_)
        · have hne : l ≠ m := by simpa using z2
          refine ⟨.ref c, rfl, .ref b, rfl, c, b, l, m, rfl, hc, e1.seqT hb, by rw [hol.1, hom.1], by rw [hol.1]; exact hn, fun H3 e3 => k _ _ e3 ?_⟩
          simp [hl, hne]
        · have heq : l = m := by simpa using z2
          refine k _ _ (Same.refl _) ?_
          simp [hl, heq]
      · refine ⟨D, ms.map fun y => decide (y ≠ m) && leB y m, rfl, SqL.of eD, _, rfl, ?_⟩
        have hun : (ms.map fun y => decide (y ≠ m) && leB y m).any id = under ms m := by
          unfold under
          rw [List.any_map]
          rfl
        rw [hun]
        refine ite2 (fun z2 => ?_) (fun z2 => ?_)
        · have hu : under ms m = false := by simpa using z2
          have eF1 := e1 _ _ eF
          have st : ST K H1 (upd H1 Fd (.lst (fv ++ [.ref b]))) := st_upd eF1 True.intro
          refine ⟨.ref Fd, rfl, .inl ⟨rfl, _, SqL.of eF1⟩, .ref b, rfl, Fd, _, _, rfl, rfl, eF1, by rw [lF]; exact Nat.lt_of_le_of_lt hF (by decide), ?_⟩
          refine ⟨_, _, fv ++ [.ref b], F ++ [m], rfl, (e.trans e1).mut hFd, Da.stAll (e1.st.trans st) _ _ (imm_mos _) dY, ?_, upd_same, ?_, ?_⟩
          · rw [upd_ne nFp.symm]
            exact e1 _ _ ep
          · rw [List.map_append]
            exact DaAll.snoc (Da.st (e1.st.trans st) _ _ (imm_mo _) hd2) (Da.stAll (e1.st.trans st) _ _ (imm_mos _) dF)
          · rw [htk]
            exact lf.add (asc_at hpwS hokS hm) hom hnot hu
        · have hu : under ms m = true := by simpa using z2
          refine ⟨_, _, fv, F, rfl, e.trans e1, Da.sameAll e1 _ _ dY, e1 _ _ ep, e1 _ _ eF, Da.sameAll e1 _ _ dF, ?_⟩
          rw [htk]
          exact lf.skip (.inr hu)
    · have hinF : m ∈ F := by simpa using zz
      refine iteF ⟨_, _, fv, F, rfl, e, dY, ep, eF, dF, ?_⟩
      rw [htk]
      exact lf.skip (.inl hinF)
  · obtain ⟨y2, y3, fv, F, rfl, e, dY, ep, eF, dF, lf⟩ := pv'
    rw [lys, List.take_of_length_le (Nat.le_refl _)] at lf
    exact ⟨.ref Fd, rfl, q H' Fd F e hFd ⟨Fd, fv, rfl, eF, dF⟩ (lf.done fun y => hS.mem_iff)⟩
end
end K4

namespace K4
open PySem PySem.Spec PyProof.Rows L2
def spIsOpen (K : PySem.W.Frag) : Sp := fun vs H Q _ => ∃ (v u : V) (n : Nat) (L : List (List Int)) (m : List Int), vs = [v, u] ∧ MoL K H v L ∧ Mo K H u m ∧ (∀ l ∈ L, Ok n l) ∧ Ok n m ∧ n ≤ 1000 ∧ L.length ≤ 100 ∧ ∀ H', Same H H' → Q (.bl (L.any fun l => leB l m)) H'
def spLFold (K : PySem.W.Frag) : Sp := fun vs H Q _ => ∃ (v u : V) (n : Nat) (L : List (List Int)) (m : List Int), vs = [v, u] ∧ MoL K H v L ∧ Mo K H u m ∧ (∀ l ∈ L, Ok n l) ∧ Ok n m ∧ 1 ≤ n ∧ n ≤ 1000 ∧ ∀ H' y, Same H H' → Mo K H' y (foldL L m) → Q y H'
def spSpot (K : PySem.W.Frag) : Sp := fun vs H Q _ => ∃ (p : Addr) (v : V) (n : Nat) (g : List (List Int)), vs = [.ref p, v, .int (n : Nat)] ∧ PotAt H p ∧ MoL K H v g ∧ (∀ m ∈ g, Sm n m) ∧ g ≠ [] ∧ g.length ≤ 10000 ∧ n ≤ 4 ∧
  ∀ H' y m, SameB p H H' → PotAt H' p → Mo K H' y m → Sm n m → Q y H'
def spMoved (K : PySem.W.Frag) : Sp := fun vs H Q _ => ∃ (p : Addr) (v : V) (n : Nat) (m : List Int), vs = [.ref p, v] ∧ PotAt H p ∧ Mo K H v m ∧ Sm n m ∧ n ≤ 4 ∧
  ∀ H' y m', SameB p H H' → PotAt H' p → Mo K H' y m' → Ok n m' → Q y H'
section
variable {P : Program} {w : World} {K : PySem.W.Frag} {mg : Str → Option Value} {base : Heap}
theorem d_law_is_open (B : Bt mg) (T : Top K mg "_law_is_open" s_law_is_open ["least", "one"]) (D_law_before : Def P w K mg base "_law_before" 1 ["one", "mate"] (spB K leB)) : Def P w K mg base "_law_is_open" 2 ["least", "one"] (spIsOpen K) := by
  refine mk_def T sc_law_is_open (by rintro _ _ _ _ ⟨_, _, _, _, _, rfl, _⟩; rfl) fun f cdv A outer s H vs Q E hr h => ?_
  obtain ⟨v, u, n, L, m, rfl, ⟨a, lv, rfl, ha, hd⟩, hm, hL, hom, hn, hl, q⟩ := h
  refine ⟨_, (pss_one (ps_ret (pe_callB (cr_any rfl) (by rfl) B.m_any (by decide +kernel) (pa_cons (pe_lc (own := [("low", 2)]) (g := (gName 2)) (tt := tYes) (te := (tCall (spB K leB) [] E0 (tCons (tVar 2) (tCons (tVar 1) tNil)))) rfl sc_law_is_open.nd (pi_list (pv 0)) (blkOk_by (own := [("low", 2)]) (N := N_law_is_open) (sc := defScope s_law_is_open) (by decide +kernel)) (fun _ _ _ _ _ => (pg_name (i := 2) sc_law_is_open.nd rfl (Or.inl rfl))) (fun _ _ _ _ _ => pts_nil) (fun _ _ _ _ _ => (pe_def D_law_before (hr.mono (by decide)) (by rfl) (pa_cons (pv 2) (pa_cons (pv 1) pa_nil))))) pa_nil)))), ?_⟩
  obtain ⟨b, rfl, hb⟩ := hm.inv
  have lms : lv.length = L.length := by simpa using hd.length
  refine ⟨.ref a, rfl, a, rfl, ⟨_, SqL.of ha⟩, fun D hD => ?_⟩
  refine lc_val (walk_list (K := K)) hD (by omega) (fun H1 e1 => SqL.of (e1 _ _ ha)) ((L.map fun l => leB l m).map V.bl) (by simp [lms]) (fun j y H1 H2 Q' hj e1 y1 k => ?_) (fun H1 e1 eD => ?_)
  · obtain ⟨rfl, hy⟩ := y1
    obtain ⟨dd, hd1', hd2'⟩ := hd.get hy
    obtain ⟨l, hl, rfl⟩ := mo_at hd1'
    have hol := hL l (List.mem_of_getElem? hl)
    obtain ⟨c, rfl, hc⟩ := Mo.inv (Mo.same hd2' e1)
    refine ⟨rfl, .ref c, rfl, .ref b, rfl, c, b, l, m, rfl, hc, e1.seqT hb, by rw [hol.1, hom.1], by rw [hol.1]; exact hn, fun H3 e3 => k _ _ e3 ?_⟩
    simp [hl]
  · refine ⟨D, L.map fun l => leB l m, rfl, SqL.of eD, ?_⟩
    rw [List.any_map]
    exact q H1 e1
end
end K4

namespace K4
open PySem PySem.Spec PyProof.Rows L2
/-! ### parting -/
def jnsL (L : List (List Int)) (a b : List Int) : List (List Int) := L.map (joinL a) ++ L.map (joinL b)
def partsB (a b x : List Int) : Bool := leB a x != leB b x
def candL (L : List (List Int)) (a b : List Int) : List (List Int) := (jnsL L a b).filter (partsB a b)
/-- what parting tells -/
def Told (K : PySem.W.Frag) (H : Hp) (v : V) : List (List Int) → Prop
  | [] => v = .non
  | y :: ys => Mo K H v (minM y ys)
theorem lex_irr : ∀ a : List Int, HT.lexLt a a = false
  | [] => rfl
  | x :: xs => by rw [HT.lexLt_cons, if_pos rfl]; exact lex_irr xs
theorem lex_tri : ∀ {a b : List Int}, a.length = b.length → HT.lexLt a b = false → HT.lexLt b a = false → a = b
  | [], [], _, _, _ => rfl
  | x :: xs, y :: ys, h, h1, h2 => by
    rw [HT.lexLt_cons] at h1 h2
    by_cases e : x = y
    · subst e
      rw [if_pos rfl] at h1 h2
      rw [lex_tri (by simpa using h) h1 h2]
    · rw [if_neg e] at h1
      rw [if_neg (fun z => e z.symm)] at h2
      have h3 := of_decide_eq_false h1
      have h4 := of_decide_eq_false h2
      omega
  | [], _ :: _, h, _, _ => nomatch h
  | _ :: _, [], h, _, _ => nomatch h
theorem lex_trans : ∀ {a b c : List Int}, a.length = b.length → b.length = c.length → HT.lexLt a b = true → HT.lexLt b c = true → HT.lexLt a c = true
  | [], [], [], _, _, h, _ => h
  | x :: xs, y :: ys, z :: zs, l1, l2, h1, h2 => by
    rw [HT.lexLt_cons] at h1 h2 ⊢
    by_cases e1 : x = y
    · subst e1
      rw [if_pos rfl] at h1
      by_cases e2 : x = z
      · rw [if_pos e2] at h2 ⊢
        exact lex_trans (by simpa using l1) (by simpa using l2) h1 h2
      · rw [if_neg e2] at h2 ⊢
        exact h2
    · rw [if_neg e1] at h1
      have h3 := of_decide_eq_true h1
      by_cases e2 : y = z
      · subst e2
        rw [if_neg e1]
        exact h1
      · rw [if_neg e2] at h2
        have h4 := of_decide_eq_true h2
        rw [if_neg (by omega)]
        exact decide_eq_true (by omega)
  | [], [], _ :: _, _, l2, _, _ => nomatch l2
  | [], _ :: _, _, l1, _, _, _ => nomatch l1
  | _ :: _, [], _, l1, _, _, _ => nomatch l1
  | _ :: _, _ :: _, [], _, l2, _, _ => nomatch l2
theorem minM_spec {n : Nat} : ∀ (ys : List (List Int)) (y : List Int), y.length = n → (∀ z ∈ ys, z.length = n) → (minM y ys = y ∨ minM y ys ∈ ys) ∧ HT.lexLt y (minM y ys) = false ∧ ∀ z ∈ ys, HT.lexLt z (minM y ys) = false
  | [], y, _, _ => ⟨.inl rfl, lex_irr y, fun z hz => by simp at hz⟩
  | z :: zs, y, hy, h => by
    have hz := h z List.mem_cons_self
    have hr : ∀ w ∈ zs, w.length = n := fun w hw => h w (List.mem_cons_of_mem _ hw)
    have hmlen : ∀ (y : List Int), y.length = n → (minM y zs).length = n := fun y hy => by
      rcases (minM_spec zs y hy hr).1 with e | e
      · rw [e]; exact hy
      · exact hr _ e
    show (minM (if HT.lexLt z y = true then z else y) zs = y ∨ minM (if HT.lexLt z y = true then z else y) zs ∈ z :: zs) ∧ HT.lexLt y (minM (if HT.lexLt z y = true then z else y) zs) = false ∧ ∀ w ∈ z :: zs, HT.lexLt w (minM (if HT.lexLt z y = true then z else y) zs) = false
    by_cases e : HT.lexLt z y = true
    · rw [if_pos e]
      obtain ⟨i1, i2, i3⟩ := minM_spec zs z hz hr
      refine ⟨.inr ?_, ?_, fun w hw => ?_⟩
      · rcases i1 with i1 | i1
        · rw [i1]; exact List.mem_cons_self
        · exact List.mem_cons_of_mem _ i1
      · cases c : HT.lexLt y (minM z zs) with
        | false => rfl
        | true =>
          rw [lex_trans (by rw [hz, hy]) (by rw [hy, hmlen z hz]) e c] at i2
          cases i2
      · rcases List.mem_cons.mp hw with rfl | hw
        · exact i2
        · exact i3 w hw
    · rw [if_neg e]
      obtain ⟨i1, i2, i3⟩ := minM_spec zs y hy hr
      refine ⟨?_, i2, fun w hw => ?_⟩
      · rcases i1 with i1 | i1
        · exact .inl i1
        · exact .inr (List.mem_cons_of_mem _ i1)
      · rcases List.mem_cons.mp hw with rfl | hw
        · cases c : HT.lexLt w (minM y zs) with
          | false => rfl
          | true =>
            have hn : HT.lexLt w y = false := by simpa using e
            by_cases e2 : minM y zs = y
            · rw [e2, hn] at c
              cases c
            · have c2 : HT.lexLt (minM y zs) y = true := by
                cases c3 : HT.lexLt (minM y zs) y with
                | true => rfl
                | false => exact absurd (lex_tri (by rw [hmlen y hy, hy]) c3 i2) e2
              rw [lex_trans (by rw [hz, hmlen y hy]) (by rw [hmlen y hy, hy]) c c2] at hn
              cases hn
        · exact i3 w hw
/-- the least of the joins that part the two -/
def Part (L : List (List Int)) (a b m : List Int) : Prop := m ∈ candL L a b ∧ ∀ x ∈ candL L a b, HT.lexLt x m = false
def ToldP (K : PySem.W.Frag) (H : Hp) (v : V) (L : List (List Int)) (a b : List Int) : Prop := (candL L a b = [] ∧ v = .non) ∨ ∃ m, Mo K H v m ∧ Part L a b m
theorem mem_cand {L : List (List Int)} {a b x : List Int} : x ∈ candL L a b ↔ (∃ l ∈ L, x = joinL a l ∨ x = joinL b l) ∧ partsB a b x = true := by
  unfold candL jnsL
  rw [List.mem_filter, List.mem_append, List.mem_map, List.mem_map]
  constructor
  · rintro ⟨⟨l, hl, rfl⟩ | ⟨l, hl, rfl⟩, h⟩
    · exact ⟨⟨l, hl, .inl rfl⟩, h⟩
    · exact ⟨⟨l, hl, .inr rfl⟩, h⟩
  · rintro ⟨⟨l, hl, rfl | rfl⟩, h⟩
    · exact ⟨.inl ⟨l, hl, rfl⟩, h⟩
    · exact ⟨.inr ⟨l, hl, rfl⟩, h⟩
theorem cand_sym {L : List (List Int)} {a b x : List Int} : x ∈ candL L a b ↔ x ∈ candL L b a := by
  rw [mem_cand, mem_cand]
  have : partsB a b x = partsB b a x := by
    unfold partsB
    cases leB a x <;> cases leB b x <;> rfl
  rw [this]
  constructor
  · rintro ⟨⟨l, hl, h⟩, k⟩
    exact ⟨⟨l, hl, h.symm⟩, k⟩
  · rintro ⟨⟨l, hl, h⟩, k⟩
    exact ⟨⟨l, hl, h.symm⟩, k⟩
theorem ToldP.sym {K : PySem.W.Frag} {H : Hp} {v : V} {L : List (List Int)} {a b : List Int} (h : ToldP K H v L a b) : ToldP K H v L b a := by
  rcases h with ⟨h1, h2⟩ | ⟨m, h1, h2, h3⟩
  · refine .inl ⟨?_, h2⟩
    cases e : candL L b a with
    | nil => rfl
    | cons x xs =>
      have : x ∈ candL L a b := cand_sym.mpr (by rw [e]; exact List.mem_cons_self)
      rw [h1] at this
      simp at this
  · exact .inr ⟨m, h1, cand_sym.mp h2, fun x hx => h3 x (cand_sym.mpr hx)⟩
theorem Told.p {K : PySem.W.Frag} {H : Hp} {v : V} {n : Nat} {L : List (List Int)} {a b : List Int} (hl : ∀ x ∈ candL L a b, x.length = n) (h : Told K H v (candL L a b)) : ToldP K H v L a b := by
  cases e : candL L a b with
  | nil =>
    rw [e] at h
    exact .inl ⟨e, h⟩
  | cons y ys =>
    rw [e] at h
    obtain ⟨i1, i2, i3⟩ := minM_spec (n := n) ys y (hl y (by rw [e]; exact List.mem_cons_self)) fun z hz => hl z (by rw [e]; exact List.mem_cons_of_mem _ hz)
    refine .inr ⟨minM y ys, h, ?_, fun x hx => ?_⟩
    · rw [e]
      rcases i1 with i1 | i1
      · rw [i1]; exact List.mem_cons_self
      · exact List.mem_cons_of_mem _ i1
    · rw [e] at hx
      rcases List.mem_cons.mp hx with rfl | hx
      · exact i2
      · exact i3 x hx
def spParting (K : PySem.W.Frag) (C : Addr) : Sp := fun vs H Q _ => ∃ (v u1 u2 : V) (n : Nat) (L : List (List Int)) (a b : List Int), vs = [v, u1, u2] ∧ FrontAt K C H v n L ∧ Mo K H u1 a ∧ Mo K H u2 b ∧ Ok n a ∧ Ok n b ∧ n ≤ 4 ∧ ∀ H' y, Same H H' → ToldP K H' y L a b → Q y H'
section
variable {P : Program} {w : World} {K : PySem.W.Frag} {mg : Str → Option Value} {base : Heap} {C : Addr}
theorem das_idx {H : Hp} {gv : List V} {grid : List (List Int)} (h : DaAll K H gv (grid.map mo)) : ∀ l : List Nat, (∀ i ∈ l, i < grid.length) → DaAll K H (l.map fun i => gv.getD i .non) ((l.map fun i => grid.getD i []).map mo)
  | [], _ => .nil
  | i :: l, hi => by
    have h1 := hi i List.mem_cons_self
    obtain ⟨v, hv, hd⟩ := DaAll.at (i := i) (d := mo grid[i]) h (by simp [h1])
    refine .cons ?_ (das_idx h l fun j hj => hi j (List.mem_cons_of_mem _ hj))
    have e1 : gv.getD i .non = v := by rw [List.getD_eq_getElem?_getD, hv]; rfl
    have e2 : grid.getD i [] = grid[i] := by rw [List.getD_eq_getElem?_getD]; simp [h1]
    show Da K H (gv.getD i .non) (mo (grid.getD i []))
    rw [e1, e2]
    exact hd
theorem filt_idx {l : List (List Int)} (p : List Int → Bool) : ((List.range l.length).filter fun i => p (l.getD i [])).map (fun i => l.getD i []) = l.filter p := by
  have h : (List.range l.length).map (fun i => l.getD i []) = l := by
    refine List.ext_getElem (by simp) fun i h1 h2 => ?_
    simp at h1
    simp [List.getD_eq_getElem?_getD, h1]
  conv => rhs; rw [← h, List.filter_map]
  rfl
theorem d_Front_parting (B : Bt mg) (X : TxF K C) (T : TopM K C "parting" "Front.parting" sFront_parting ["self", "first", "second"]) (Djoin_of : Def P w K mg base "join_of" 1 ["first", "second"] (spM K joinL)) (Dbefore : Def P w K mg base "before" 1 ["first", "second"] (spB K leB)) : MethD P w K mg base C "parting" 2 ["self", "first", "second"] (spParting K C) := by
  refine mk_meth T scFront_parting (by rintro _ _ _ _ ⟨_, _, _, _, _, _, _, rfl, _⟩; rfl) fun f cdv Ar outer s H vs Q E hr h => ?_
  obtain ⟨v, u1, u2, n, L, a, b, rfl, hF, hu1, hu2, ho1, ho2, hn4, q⟩ := h
  refine ⟨_, (pss_cons (ps_setLc2 (i := 3) (own := [("moment", 4), ("low", 5)]) (g := (gName 4)) (tt := tYes) (wi1 := (iList K (tFld K (tVar 0) "_lows"))) (g1 := (gName 5)) (tt1 := tYes) (te := (tCall (spM K joinL) [] E0 (tCons (tVar 4) (tCons (tVar 5) tNil)))) rfl scFront_parting.nd rfl rfl (sw_true rfl rfl rfl (by decide +kernel)) (pi_tup (pe_tup (pa_cons (pv 1) (pa_cons (pv 2) pa_nil)))) (blkOk_by (own := [("moment", 4), ("low", 5)]) (N := NFront_parting) (sc := defScope sFront_parting) (by decide +kernel)) (vs1 := [5]) (by decide) (fun _ _ _ _ _ => (pg_name (i := 4) scFront_parting.nd rfl (Or.inl rfl))) (fun _ _ _ _ _ => pts_nil) (fun _ _ _ _ _ => (pi_list (pe_fld (pv 0) rfl))) (fun _ _ _ _ _ => (pg_name (i := 5) scFront_parting.nd rfl (Or.inl rfl))) (fun _ _ _ _ _ => pts_nil) (fun _ _ _ _ _ => (pe_def Djoin_of (hr.mono (by decide)) (by rfl) (pa_cons (pv 4) (pa_cons (pv 5) pa_nil)))))
      (pss_one (ps_ret (pe_callBK (crk_minD hr.hd (hu64 hr)) (by rfl) B.m_min (by decide +kernel) (pa_cons (pe_lc (own := [("at", 6)]) (g := (gName 6)) (tt := (tTest (tOp rNe (tCall (spB K leB) [] E0 (tCons (tVar 1) (tCons (tVar 6) tNil))) (tCall (spB K leB) [] E0 (tCons (tVar 2) (tCons (tVar 6) tNil)))))) (te := (tVar 6)) rfl scFront_parting.nd (pi_list (pv 3)) (blkOk_by (own := [("at", 6)]) (N := NFront_parting) (sc := defScope sFront_parting) (by decide +kernel)) (fun _ _ _ _ _ => (pg_name (i := 6) scFront_parting.nd rfl (Or.inl rfl))) (fun _ _ _ _ _ => (pts_one (pt_cmpR op_ne (pe_def Dbefore (hr.mono (by decide)) (by rfl) (pa_cons (pv 1) (pa_cons (pv 6) pa_nil))) (pe_def Dbefore (hr.mono (by decide)) (by rfl) (pa_cons (pv 2) (pa_cons (pv 6) pa_nil))) (nomark _)))) (fun _ _ _ _ _ => (pv 6))) pa_nil) (pk_cons pe_non pk_nil))))), ?_⟩
  obtain ⟨p, dx, d, lv, rfl, h1, h2, h3, hL, hL100⟩ := id hF
  obtain ⟨a1, rfl, ha1⟩ := hu1.trk
  obtain ⟨b1, rfl, hb1⟩ := hu2.trk
  have lL : lv.length = L.length := by simpa using h3.length
  refine ⟨.ref a1, rfl, .ref b1, rfl, by show 2 ≤ sizeLine; decide, fun t ht => ⟨t, rfl, ⟨_, SqT.of upd_same⟩, fun J hJ => ?_⟩⟩
  have s0 : Same H (upd H t (.tup [.ref a1, .ref b1])) := same_upd ht
  have e0 : upd H t (.tup [.ref a1, .ref b1]) t = some (.tup [.ref a1, .ref b1]) := upd_same
  refine lc2_dat (K := K) (walk_tup (K := K) (a := t) (xs := [.ref a1, .ref b1])) (walk_list (K := K) (a := d) (xs := lv)) hJ (by show 2 * lv.length ≤ 100000; omega) (fun H e => SqT.of (e _ _ e0)) (fun H e => SqL.of (e _ _ (s0 _ _ h2))) (fun i => (L.map (joinL ([a, b].getD i []))).map mo) (fun i hi => by simp [lL]) (fun i hi => imm_mos _) (fun i x H2 H3 Q' hi e2 y k => ?_) (fun H2 acc e2 eJ dJ => ?_)
  · obtain ⟨rfl, hx⟩ := y
    obtain ⟨c, m, rfl, hc, hom, eg⟩ : ∃ c m, x = .ref c ∧ H c = some (.tup (m.map V.int)) ∧ Ok n m ∧ [a, b].getD i [] = m := match i, hi, hx with
      | 0, _, hx => ⟨a1, a, (Option.some.inj hx).symm, ha1, ho1, rfl⟩
      | 1, _, hx => ⟨b1, b, (Option.some.inj hx).symm, hb1, ho2, rfl⟩
    refine k _ _ (Same.refl _) rfl ⟨fun H4 R s4 hR => ⟨.ref p, rfl, p, C, dx, _, _, rfl, s4 _ _ (e2 _ _ (s0 _ _ h1)), X.cl, X.nL, frF_lows n d, d, rfl, ⟨_, SqL.of (s4 _ _ (e2 _ _ (s0 _ _ h2)))⟩, hR⟩, fun j y H4 H4' Q'' hj e4 st4 y4 k4 => ?_⟩
    obtain ⟨rfl, hy⟩ := y4
    obtain ⟨dd, hd1, hd2⟩ := h3.get hy
    obtain ⟨l, hl, rfl⟩ := mo_at hd1
    have hol := hL l (List.mem_of_getElem? hl)
    obtain ⟨z, rfl, hz⟩ := Mo.trk hd2
    refine ⟨rfl, .ref c, rfl, .ref z, rfl, c, z, m, l, rfl, SqT.of (e4 _ _ (s0 _ _ hc)), SqT.of (e4 _ _ (s0 _ _ hz)), by rw [hom.1, hol.1], by rw [hom.1]; omega, fun H5 z s5 nz ez => k4 _ _ (mo (joinL m l)) s5 ?_ (Mo.of ez)⟩
    rw [eg]
    simp [hl]
  · have hfl : ((List.range [V.ref a1, .ref b1].length).map fun i => (L.map (joinL ([a, b].getD i []))).map mo).flatten = (jnsL L a b).map mo := by
      show [(L.map (joinL a)).map mo, (L.map (joinL b)).map mo].flatten = _
      unfold jnsL
      rw [List.map_append]
      simp
    rw [hfl] at dJ
    have s2 := s0.trans e2
    have lJ : acc.length = (jnsL L a b).length := by simpa using dJ.length
    have hJl : (jnsL L a b).length ≤ 200 := by unfold jnsL; simp; omega
    have hJo : ∀ x ∈ jnsL L a b, Ok n x := fun x hx => by
      unfold jnsL at hx
      rcases List.mem_append.mp hx with h | h
      · obtain ⟨l, hl, rfl⟩ := List.mem_map.mp h
        exact ho1.join (hL l hl)
      · obtain ⟨l, hl, rfl⟩ := List.mem_map.mp h
        exact ho2.join (hL l hl)
    refine ⟨.ref J, rfl, J, rfl, ⟨_, SqL.of eJ⟩, fun D hD => ?_⟩
    refine lc_val_if (walk_list (K := K)) hD (by omega) (fun H1 e1 => SqL.of (e1 _ _ eJ)) (fun i => partsB a b ((jnsL L a b).getD i [])) (fun i => acc.getD i .non) (fun i x H3 H4 Q' R hi e1 y1 k1 k2 => ?_) (fun H3 e1 eD => ?_)
    · obtain ⟨rfl, hy⟩ := y1
      obtain ⟨dd, hd1, hd2⟩ := dJ.get hy
      obtain ⟨x0, hx0, rfl⟩ := mo_at hd1
      have hox := hJo x0 (List.mem_of_getElem? hx0)
      have eg : (jnsL L a b).getD i [] = x0 := by rw [List.getD_eq_getElem?_getD, hx0]; rfl
      have ev : acc.getD i .non = x := by rw [List.getD_eq_getElem?_getD, hy]; rfl
      obtain ⟨c, rfl, hc⟩ := Mo.trk hd2
      have e3 := s2.trans e1
      refine ⟨rfl, .ref a1, rfl, .ref c, rfl, a1, c, a, x0, rfl, SqT.of (e3 _ _ ha1), SqT.of (e1 _ _ hc), by rw [ho1.1, hox.1], by rw [ho1.1]; omega, fun H5 s5 => ?_⟩
      refine ⟨.ref b1, rfl, .ref c, rfl, b1, c, b, x0, rfl, SqT.of (s5 _ _ (e3 _ _ hb1)), SqT.of (s5 _ _ (e1 _ _ hc)), by rw [ho2.1, hox.1], by rw [ho2.1]; omega, fun H6 s6 => ⟨rfl, ?_⟩⟩
      have hp : (!decide (V.bl (leB a x0) = V.bl (leB b x0))) = partsB a b x0 := by
        unfold partsB
        cases leB a x0 <;> cases leB b x0 <;> simp
      refine ⟨_, rfl, ?_⟩
      rw [hp]
      rw [eg, ev] at k1
      rw [eg] at k2
      exact ite2 (fun z => ⟨.ref c, rfl, k1 H6 z (s5.trans s6)⟩) (fun z => k2 H6 (by simpa using z) (s5.trans s6))
    · have hl : ∀ i ∈ (List.range acc.length).filter (fun i => partsB a b ((jnsL L a b).getD i [])), i < (jnsL L a b).length := fun i hi => by
        have := List.mem_range.mp (List.mem_filter.mp hi).1
        omega
      have dl := das_idx (Da.sameAll e1 _ _ dJ) _ hl
      have hms : ((List.range acc.length).filter (fun i => partsB a b ((jnsL L a b).getD i []))).map (fun i => (jnsL L a b).getD i []) = candL L a b := by
        rw [lJ]
        exact filt_idx _
      rw [hms] at dl
      have s3 := s2.trans e1
      refine ⟨D, _, candL L a b, .non, n, rfl, rfl, SqL.of eD, dl, fun m hm => (hJo m ((List.mem_filter.mp hm).1)).1, fun e => ?_, fun y ys v e _ hv => ?_⟩
      · exact q H3 .non s3 (.inl ⟨e, rfl⟩)
      · refine q H3 v s3 (Told.p (n := n) (fun m hm => (hJo m (List.mem_filter.mp hm).1).1) ?_)
        rw [e]
        exact hv
end
end K4

namespace K4
open PySem PySem.Spec PyProof.Rows L2
/-- o.m(k = v, l = w): the object, then the values, as the parameters stand -/
def kwA {α : Type} : List α → List α → List α
  | [u], [w, z] => [u, w, z]
  | _, _ => []
def kwB {α : Type} : List α → List α → List α
  | [u], [w, z] => [u, z, w]
  | _, _ => []
theorem fold_ok' {L : List (List Int)} {n : Nat} (h : ∀ l ∈ L, Ok n l) : ∀ l ∈ L, l.length = n := fun l hl => (h l hl).1
def spCoord (K : PySem.W.Frag) : Sp := fun vs H Q _ => ∃ p : Addr, vs = [.ref p] ∧ PotAt H p ∧ ∀ H' r, SameB p H H' → PotAt H' p → 0 ≤ r → r < GG → Q (.int r) H'
def spMoment (K : PySem.W.Frag) : Sp := fun vs H Q _ => ∃ (p : Addr) (n : Nat) (z : Int), vs = [.ref p, .int z] ∧ z = (n : Int) ∧ PotAt H p ∧ n ≤ 4 ∧ ∀ H' a m, SameB p H H' → PotAt H' p → H a = none → Mo K H' (.ref a) m → Ok n m → Q (.ref a) H'
def spParts (K : PySem.W.Frag) : Sp := fun vs H Q _ => ∃ (v u1 u2 u3 : V) (n : Nat) (L : List (List Int)) (a b x : List Int), vs = [v, u1, u2, u3] ∧ MoL K H v L ∧ Mo K H u1 a ∧ Mo K H u2 b ∧ Mo K H u3 x ∧ (∀ l ∈ L, Ok n l) ∧ Ok n a ∧ Ok n b ∧ Ok n x ∧ n ≤ 4 ∧ L.length ≤ 100 ∧ ∀ H', Same H H' → Q (.bl ((L.any fun l => leB l x) && partsB a b x)) H'
def spAsked (K : PySem.W.Frag) (C : Addr) : Sp := fun vs H Q _ => ∃ (f u1 u2 : V) (way : Int) (n : Nat) (L : List (List Int)) (a b : List Int), vs = [f, u1, u2, .int way] ∧ FrontAt K C H f n L ∧ Mo K H u1 a ∧ Mo K H u2 b ∧ Ok n a ∧ Ok n b ∧ n ≤ 4 ∧ ∀ H' y, Same H H' → ToldP K H' y L a b → Q y H'
section
variable {P : Program} {w : World} {K : PySem.W.Frag} {mg : Str → Option Value} {base : Heap} {C : Addr}
theorem d_law_coordinate (B : Bt mg) (T : Top K mg "_law_coordinate" s_law_coordinate ["pot"]) (D_law_draw : Def P w K mg base "_law_draw" 1 ["pot", "size"] (spDraw K)) (D_law_great : Def P w K mg base "_law_great" 2 ["pot"] (spGreat K)) : Def P w K mg base "_law_coordinate" 3 ["pot"] (spCoord K) := by
  refine mk_def T sc_law_coordinate (by rintro _ _ _ _ ⟨_, rfl, _⟩; rfl) fun f cdv A outer s H vs Q E hr h => ?_
  obtain ⟨p, rfl, pt, q⟩ := h
  refine ⟨_, (pss_cons (ps_set (i := 1) sc_law_coordinate.nd rfl (Or.inl rfl) (pe_def D_law_draw (hr.mono (by decide)) (by rfl) (pa_cons (pv 0) (pa_cons pe_int pa_nil))))
      (pss_cons (ps_if (pt_cmpR op_eq (pv 1) pe_int (nomark _)) (pss_one (ps_ret (pe_def D_law_great (hr.mono (by decide)) (by rfl) (pa_cons (pv 0) pa_nil)))) pss_nil)
      (pss_one (ps_ret (pv 1))))), ?_⟩
  refine ⟨.ref p, rfl, p, 6, rfl, pt, by decide, by decide, fun H1 r s1 p1 r0 r1 => ?_⟩
  have g6 : (6 : Int) < GG := by decide
  have g30 : (1000000000000000000000000000000 : Int) < GG := by decide
  exact ⟨.int r, rfl, rfl, _, rfl, ite2 (fun z => ⟨.ref p, rfl, p, rfl, p1, fun H2 r' s2 p2 a b => q H2 r' (s1.trans s2) p2 a (by omega)⟩) (fun z => ⟨.int r, rfl, q H1 r s1 p1 r0 (by omega)⟩)⟩
theorem d_law_moment (B : Bt mg) (T : Top K mg "_law_moment" s_law_moment ["pot", "span"]) (D_law_coordinate : Def P w K mg base "_law_coordinate" 3 ["pot"] (spCoord K)) : Def P w K mg base "_law_moment" 4 ["pot", "span"] (spMoment K) := by
  refine mk_def T sc_law_moment (by rintro _ _ _ _ ⟨_, _, _, rfl, _⟩; rfl) fun f cdv A outer s H vs Q E hr h => ?_
  obtain ⟨p, n, z, rfl, rfl, pt, hn, q⟩ := h
  refine ⟨_, (pss_one (ps_ret (pe_callTy call_tuple_of (by rfl) B.m_tuple (by decide +kernel) (pa_cons (pe_lc (own := [("k", 2)]) (g := (gName 2)) (tt := tYes) (te := (tCall (spCoord K) [] E0 (tCons (tVar 0) tNil))) rfl sc_law_moment.nd (pi_range1 (by rfl) B.m_range (pa_cons (pv 1) pa_nil)) (blkOk_by (own := [("k", 2)]) (N := N_law_moment) (sc := defScope s_law_moment) (by decide +kernel)) (fun _ _ _ _ _ => (pg_name (i := 2) sc_law_moment.nd rfl (Or.inl rfl))) (fun _ _ _ _ _ => pts_nil) (fun _ _ _ _ _ => (pe_def D_law_coordinate (hr.mono (by decide)) (by rfl) (pa_cons (pv 0) pa_nil)))) pa_nil)))), ?_⟩
  refine ⟨.int (n : Nat), rfl, (n : Nat), rfl, by omega, by omega, fun D hD => ?_⟩
  have npD := pt.ne hD
  refine lc_it (walk_range (lo := 0) (n := ((n : Nat) : Int).toNat)) (fun i H' => SameB p H H' ∧ PotAt H' p ∧ ∃ ns : List Int, H' D = some (.lst (ns.map V.int)) ∧ ns.length = i ∧ TS.Bd BB ns)
    ⟨Same.b (same_upd hD), pt.upd npD, [], upd_same, rfl, fun c hc => by simp at hc⟩ (fun i H' _ _ => True.intro) (fun i x H' H'' hi pv' y => ?_) (fun H3 pv' => ?_)
  · obtain ⟨rfl, rfl⟩ := y
    obtain ⟨e1, pt3, ns, eb, hl, hb⟩ := pv'
    refine ⟨rfl, .ref p, rfl, p, rfl, pt3, fun H5 r' s5 pt5 r0' r1' => ?_⟩
    have eb5 := s5 _ _ npD.symm eb
    refine ⟨_, eb5, ?_, (e1.trans s5).mut hD, pt5.upd npD, ns ++ [r'], ?_, by simp [hl], fun c hc => ?_⟩
    · rw [List.length_map, hl]
      exact Nat.lt_of_lt_of_le hi (Nat.le_trans (show ((n : Nat) : Int).toNat ≤ 4 by omega) (by decide))
    · rw [upd_same, List.map_append]
      rfl
    · rcases List.mem_append.mp hc with h' | h'
      · exact hb c h'
      · rw [List.mem_singleton.mp h']
        exact ⟨r0', Int.lt_trans r1' (by decide)⟩
  · obtain ⟨e3, pt3, ns, eb, hl, hb⟩ := pv'
    refine ⟨D, _, rfl, .inl ⟨SqL.of eb, fun t ht => ?_⟩⟩
    exact q _ t ns (e3.trans (Same.b (same_upd ht))) (pt3.upd (pt3.ne ht)) (e3.fresh pt.there ht pt3.there) (Mo.of upd_same) ⟨by omega, hb⟩
theorem d_law_parts (B : Bt mg) (T : Top K mg "_law_parts" s_law_parts ["least", "one", "mate", "spot"]) (D_law_is_open : Def P w K mg base "_law_is_open" 2 ["least", "one"] (spIsOpen K)) (D_law_before : Def P w K mg base "_law_before" 1 ["one", "mate"] (spB K leB)) : Def P w K mg base "_law_parts" 3 ["least", "one", "mate", "spot"] (spParts K) := by
  refine mk_def T sc_law_parts (by rintro _ _ _ _ ⟨_, _, _, _, _, _, _, _, _, rfl, _⟩; rfl) fun f cdv A outer s H vs Q E hr h => ?_
  obtain ⟨v, u1, u2, u3, n, L, a, b, x, rfl, hv, h1, h2, h3, hL, o1, o2, o3, hn, hl, q⟩ := h
  refine ⟨_, (pss_one (ps_ret (pe_and (pe_def D_law_is_open (hr.mono (by decide)) (by rfl) (pa_cons (pv 0) (pa_cons (pv 3) pa_nil))) (pe_one (pe_cmpR op_ne (pe_def D_law_before (hr.mono (by decide)) (by rfl) (pa_cons (pv 1) (pa_cons (pv 3) pa_nil))) (pe_def D_law_before (hr.mono (by decide)) (by rfl) (pa_cons (pv 2) (pa_cons (pv 3) pa_nil))) (nomark _)))))), ?_⟩
  obtain ⟨a1, rfl, ha1⟩ := h1.inv
  obtain ⟨b1, rfl, hb1⟩ := h2.inv
  obtain ⟨c1, rfl, hc1⟩ := h3.inv
  refine ⟨v, rfl, .ref c1, rfl, v, .ref c1, n, L, x, rfl, hv, h3, hL, o3, by omega, hl, fun H1 s1 => ⟨_, rfl, ite2 (fun z => ?_) (fun z => ?_)⟩⟩
  · refine ⟨.ref a1, rfl, .ref c1, rfl, a1, c1, a, x, rfl, s1.seqT ha1, s1.seqT hc1, by rw [o1.1, o3.1], by rw [o1.1]; omega, fun H2 s2 => ?_⟩
    refine ⟨.ref b1, rfl, .ref c1, rfl, b1, c1, b, x, rfl, s2.seqT (s1.seqT hb1), s2.seqT (s1.seqT hc1), by rw [o2.1, o3.1], by rw [o2.1]; omega, fun H3 s3 => ⟨rfl, ?_⟩⟩
    have h := q H3 ((s1.trans s2).trans s3)
    rw [z, Bool.true_and] at h
    have hp : (!decide (V.bl (leB a x) = V.bl (leB b x))) = partsB a b x := by
      unfold partsB
      cases leB a x <;> cases leB b x <;> simp
    rw [← hp] at h
    exact h
  · have h := q H1 s1
    have z' : (L.any fun l => leB l x) = false := by simpa using z
    rw [z', Bool.false_and] at h
    exact h
theorem d_law_asked (B : Bt mg) (Cl : Cls K C) (nopart : True) (T : Top K mg "_law_asked" s_law_asked ["front", "one", "mate", "way"]) (Mparting : MethD P w K mg base C "parting" 2 ["self", "first", "second"] (spParting K C)) (Mparting_first_second : MethDK P w K mg base C "parting" 2 ["self", "first", "second"] ["first", "second"] kwA (spParting K C)) (Mparting_second_first : MethDK P w K mg base C "parting" 2 ["self", "first", "second"] ["second", "first"] kwB (spParting K C)) :
    Def P w K mg base "_law_asked" 3 ["front", "one", "mate", "way"] (spAsked K C) := by
  refine mk_def T sc_law_asked (by rintro _ _ _ _ ⟨_, _, _, _, _, _, _, _, rfl, _⟩; rfl) fun f cdv A outer s H vs Q E hr h => ?_
  obtain ⟨f, u1, u2, way, n, L, a, b, rfl, hF, h1, h2, o1, o2, hn, q⟩ := h
  refine ⟨_, (pss_cons (ps_if (pt_cmpR op_eq (pv 3) pe_int (nomark _)) (pss_one (ps_ret (pe_methM (pv 0) Cl Mparting (hr.mono (by decide)) (pa_cons (pv 1) (pa_cons (pv 2) pa_nil))))) pss_nil)
      (pss_cons (ps_if (pt_cmpR op_eq (pv 3) pe_int (nomark _)) (pss_one (ps_ret (pe_methM (pv 0) Cl Mparting (hr.mono (by decide)) (pa_cons (pv 2) (pa_cons (pv 1) pa_nil))))) pss_nil)
      (pss_cons (ps_if (pt_cmpR op_eq (pv 3) pe_int (nomark _)) (pss_one (ps_ret (pe_methMK0 (pv 0) Cl Mparting_first_second (hr.mono (by decide)) (pk_cons (pv 2) (pk_cons (pv 1) pk_nil))))) pss_nil)
      (pss_one (ps_ret (pe_methMK0 (pv 0) Cl Mparting_second_first (hr.mono (by decide)) (pk_cons (pv 2) (pk_cons (pv 1) pk_nil)))))))), ?_⟩
  obtain ⟨p, dx, d, lvF, rfl, hp, _⟩ := id hF
  have no := frF_no n d (m := "parting") (by decide +kernel) (by decide +kernel)
  refine ⟨.int way, rfl, rfl, _, rfl, ite2 (fun z => ⟨.ref p, rfl, p, dx, _, rfl, hp, no, u1, rfl, u2, rfl, .ref p, u1, u2, n, L, a, b, rfl, hF, h1, h2, o1, o2, hn, q⟩) (fun z => ?_)⟩
  refine ⟨.int way, rfl, rfl, _, rfl, ite2 (fun z => ⟨.ref p, rfl, p, dx, _, rfl, hp, no, u2, rfl, u1, rfl, .ref p, u2, u1, n, L, b, a, rfl, hF, h2, h1, o2, o1, hn, fun H' y s h => q H' y s h.sym⟩) (fun z => ?_)⟩
  refine ⟨.int way, rfl, rfl, _, rfl, ite2 (fun z => ⟨.ref p, rfl, p, dx, _, rfl, hp, no, u2, rfl, u1, rfl, .ref p, u2, u1, n, L, b, a, rfl, hF, h2, h1, o2, o1, hn, fun H' y s h => q H' y s h.sym⟩) (fun z => ?_)⟩
  exact ⟨.ref p, rfl, p, dx, _, rfl, hp, no, u2, rfl, u1, rfl, .ref p, u1, u2, n, L, a, b, rfl, hF, h1, h2, o1, o2, hn, q⟩
end
end K4

namespace K4
open PySem PySem.Spec PyProof.Rows L2
/-! ### the grid's members -/
theorem gs_len (g : List (List Int)) (r : List Int) : (gridStep g r).length = g.length * r.length := by
  unfold gridStep
  induction g with
  | nil => simp
  | cons x g ih => rw [List.flatMap_cons, List.length_append, ih, List.length_map, List.length_cons, Nat.succ_mul, Nat.add_comm]
theorem gf_len : ∀ (rows : List (List Int)) (g : List (List Int)), (∀ r ∈ rows, r.length ≤ 6) → (rows.foldl gridStep g).length ≤ g.length * 6 ^ rows.length
  | [], g, _ => by simp
  | r :: rows, g, h => by
    refine Nat.le_trans (gf_len rows (gridStep g r) fun x hx => h x (List.mem_cons_of_mem _ hx)) ?_
    rw [gs_len, List.length_cons, Nat.pow_succ, Nat.mul_comm (6 ^ rows.length) 6, ← Nat.mul_assoc]
    exact Nat.mul_le_mul_right _ (Nat.mul_le_mul_left _ (h r List.mem_cons_self))
theorem gf_bd : ∀ (rows : List (List Int)) (g : List (List Int)), (∀ x ∈ g, TS.Bd GH x) → (∀ r ∈ rows, TS.Bd GH r) → ∀ x ∈ rows.foldl gridStep g, TS.Bd GH x
  | [], g, h, _ => h
  | r :: rows, g, h, hr => gf_bd rows (gridStep g r) (fun x hx => by
      obtain ⟨y, hy, hz⟩ := List.mem_flatMap.mp hx
      obtain ⟨l, hl, rfl⟩ := List.mem_map.mp hz
      intro c hc
      rcases List.mem_append.mp hc with hc | hc
      · exact h y hy c hc
      · rw [List.mem_singleton.mp hc]
        exact hr r List.mem_cons_self l hl) fun x hx => hr x (List.mem_cons_of_mem _ hx)
theorem gf_pos : ∀ (rows : List (List Int)) (g : List (List Int)), 0 < g.length → (∀ r ∈ rows, 0 < r.length) → 0 < (rows.foldl gridStep g).length
  | [], g, h, _ => h
  | r :: rows, g, h, hr => gf_pos rows (gridStep g r) (by rw [gs_len]; exact Nat.mul_pos h (hr r List.mem_cons_self)) fun x hx => hr x (List.mem_cons_of_mem _ hx)
theorem das_li {K : PySem.W.Frag} {H : Hp} : ∀ {acc : List V} {rows : List (List Int)}, acc.length = rows.length → (∀ (j : Nat) (r : List Int), rows[j]? = some r → ∃ qa : Addr, acc[j]? = some (V.ref qa) ∧ H qa = some (.lst (r.map V.int))) → DaAll K H acc (rows.map li)
  | [], [], _, _ => .nil
  | v :: vs, r :: rs, hl, h => by
    obtain ⟨qa, h1, h2⟩ := h 0 r rfl
    have : v = .ref qa := by simpa using h1
    subst this
    exact .cons (.lst (SqL.of h2) (da_ints r)) (das_li (by simpa using hl) fun j r' hr => h (j + 1) r' (by simpa using hr))
  | [], _ :: _, hl, _ => nomatch hl
  | _ :: _, [], hl, _ => nomatch hl
def cap (n : Nat) : Nat := if n = 1 then 6 else if n = 2 then 4 else if n = 3 then 3 else 2
theorem cap_at {n : Nat} (h1 : 1 ≤ n) (h2 : n ≤ 4) : atI [V.int 6, .int 4, .int 3, .int 2] ((n : Int) - 1) = some (.int (cap n : Nat)) := by
  have : n = 1 ∨ n = 2 ∨ n = 3 ∨ n = 4 := by omega
  rcases this with rfl | rfl | rfl | rfl <;> rfl
theorem cap_bd (n : Nat) : 1 ≤ cap n ∧ cap n ≤ 6 := by
  unfold cap
  split
  · omega
  · split
    · omega
    · split <;> omega
theorem MoL.ne {K : PySem.W.Frag} {H : Hp} {v : V} {ms : List (List Int)} {q : Addr} (h : MoL K H v ms) (n : H q = none) : v ≠ .ref q := by
  obtain ⟨a, lv, rfl, h1, _⟩ := h
  intro e
  cases e
  rw [n] at h1
  cases h1
theorem MoL.upd {K : PySem.W.Frag} {H : Hp} {v : V} {ms : List (List Int)} {q : Addr} {l l' : List V} (h : MoL K H v ms) (n : v ≠ .ref q) (e : H q = some (.lst l)) : MoL K (L2.upd H q (.lst l')) v ms := by
  obtain ⟨a, lv, rfl, h1, h2⟩ := h
  exact ⟨a, lv, rfl, by rw [upd_ne (fun z => n (by rw [z]))]; exact h1, Da.stAll (st_upd e True.intro) _ _ (imm_mos _) h2⟩
theorem MoL.pot {K : PySem.W.Frag} {H : Hp} {a : Addr} {ms : List (List Int)} {p : Addr} (h : MoL K H (.ref a) ms) (pt : PotAt H p) : a ≠ p := by
  obtain ⟨a', lv, e, h1, h2⟩ := h
  cases e
  intro z
  subst z
  obtain ⟨x, y, z, e1, _⟩ := pt
  rw [h1] at e1
  cases e1
  cases ms with
  | nil => cases h2
  | cons m ms =>
    cases h2 with
    | cons r _ => cases r
theorem FrontAt.sameB {K : PySem.W.Frag} {C : Addr} {H H' : Hp} {v : V} {n : Nat} {L : List (List Int)} {p : Addr} (h : FrontAt K C H v n L) (e : SameB p H H') (pt : PotAt H p) : FrontAt K C H' v n L := by
  obtain ⟨q, dx, d, lv, rfl, h1, h2, h3, r⟩ := h
  have hd : MoL K H (.ref d) L := ⟨d, lv, rfl, h2, h3⟩
  have nq : q ≠ p := fun z => by
    subst z
    obtain ⟨x, y, z, e1, _⟩ := pt
    rw [h1] at e1
    cases e1
  exact ⟨q, dx, d, lv, rfl, e _ _ nq h1, e _ _ (hd.pot pt) h2, Da.stAll (SameB.potst e pt) _ _ (imm_mos _) h3, r⟩
/-- a new object and what its __init__ writes: nothing else changes -/
theorem same_made {H H' : Hp} {x dx : Addr} {o o' : HO} (nx : H x = none) (nd : H dx = none) (e : SameB x (L2.upd (L2.upd H dx o) x o') H') : Same H H' := fun b u hb =>
  e b u (ne_of_none hb nx) (by rw [upd_ne (ne_of_none hb nx), upd_ne (ne_of_none hb nd)]; exact hb)
theorem same_two {H : Hp} {x dx : Addr} {o o' : HO} (nx : H x = none) (nd : H dx = none) : Same H (L2.upd (L2.upd H dx o) x o') := fun b u hb => by
  rw [upd_ne (ne_of_none hb nx), upd_ne (ne_of_none hb nd)]
  exact hb
theorem MoL.sq {K : PySem.W.Frag} {H : Hp} {a : Addr} {ms : List (List Int)} (h : MoL K H (.ref a) ms) : ∃ xs, SqL K H a xs := by
  obtain ⟨a', lv, e, h1, _⟩ := h
  cases e
  exact ⟨lv, SqL.of h1⟩
theorem ref_pot {H : Hp} {a p : Addr} {x : Addr} {l : List V} (h : H a = some (.lst (.ref x :: l))) (pt : PotAt H p) : a ≠ p := fun z => by
  subst z
  obtain ⟨x, y, z, e1, _⟩ := pt
  rw [h] at e1
  cases e1
end K4

namespace K4
open PySem PySem.Spec PyProof.Rows L2
/-! ### the grid ascends and is closed under joins -/
theorem lex_lt : ∀ {x y : List Int} (a b : List Int), x.length = y.length → HT.lexLt x y = true → HT.lexLt (x ++ a) (y ++ b) = true
  | [], [], a, b, _, h => by cases h
  | [], _ :: _, _, _, h, _ => by cases h
  | _ :: _, [], _, _, h, _ => by cases h
  | x :: xs, y :: ys, a, b, hl, h => by
    rw [HT.lexLt_cons] at h
    rw [List.cons_append, List.cons_append, HT.lexLt_cons]
    by_cases e : x = y
    · rw [if_pos e] at h ⊢
      exact lex_lt a b (by simpa using hl) h
    · rw [if_neg e] at h ⊢
      exact h
theorem lex_same : ∀ (x a b : List Int), HT.lexLt (x ++ a) (x ++ b) = HT.lexLt a b
  | [], _, _ => rfl
  | x :: xs, a, b => by
    rw [List.cons_append, List.cons_append, HT.lexLt_cons, if_pos rfl]
    exact lex_same xs a b
def LexAsc (g : List (List Int)) : Prop := g.Pairwise fun x y => HT.lexLt x y = true
theorem gf_asc : ∀ (rows : List (List Int)) (g : List (List Int)) (n : Nat), (∀ x ∈ g, x.length = n) → LexAsc g → (∀ r ∈ rows, r.Pairwise (· < ·)) → LexAsc (rows.foldl gridStep g)
  | [], g, _, _, h, _ => h
  | r :: rows, g, n, hl, h, hr => by
    refine gf_asc rows (gridStep g r) (n + 1) (gridStep_len hl) ?_ fun x hx => hr x (List.mem_cons_of_mem _ hx)
    unfold gridStep LexAsc
    rw [List.pairwise_flatMap]
    refine ⟨fun x _ => ?_, ?_⟩
    · rw [List.pairwise_map]
      refine List.Pairwise.imp (fun {a b} hab => ?_) (hr r List.mem_cons_self)
      rw [lex_same, HT.lexLt_cons, if_neg (by omega)]
      exact decide_eq_true hab
    · refine List.Pairwise.imp_of_mem ?_ h
      intro p q hp hq hlt x hx y hy
      obtain ⟨a, _, rfl⟩ := List.mem_map.mp hx
      obtain ⟨b, _, rfl⟩ := List.mem_map.mp hy
      exact lex_lt _ _ (by rw [hl p hp, hl q hq]) hlt
theorem joinL_snoc : ∀ {a b : List Int} (x y : Int), a.length = b.length → joinL (a ++ [x]) (b ++ [y]) = joinL a b ++ [if y > x then y else x]
  | [], [], _, _, _ => rfl
  | a :: as, b :: bs, x, y, h => by
    show (if b > a then b else a) :: joinL (as ++ [x]) (bs ++ [y]) = _
    rw [joinL_snoc x y (by simpa using h)]
    rfl
  | [], _ :: _, _, _, h => nomatch h
  | _ :: _, [], _, _, h => nomatch h
def JClosed (g : List (List Int)) : Prop := ∀ x ∈ g, ∀ y ∈ g, joinL x y ∈ g
theorem gf_join : ∀ (rows : List (List Int)) (g : List (List Int)) (n : Nat), (∀ x ∈ g, x.length = n) → JClosed g → JClosed (rows.foldl gridStep g)
  | [], g, _, _, h => h
  | r :: rows, g, n, hl, h => by
    refine gf_join rows (gridStep g r) (n + 1) (gridStep_len hl) fun x hx y hy => ?_
    obtain ⟨p, hp, hx'⟩ := List.mem_flatMap.mp hx
    obtain ⟨q, hq, hy'⟩ := List.mem_flatMap.mp hy
    obtain ⟨a, ha, rfl⟩ := List.mem_map.mp hx'
    obtain ⟨b, hb, rfl⟩ := List.mem_map.mp hy'
    rw [joinL_snoc a b (by rw [hl p hp, hl q hq])]
    refine List.mem_flatMap.mpr ⟨joinL p q, h p hp q hq, List.mem_map.mpr ⟨if b > a then b else a, ?_, rfl⟩⟩
    split
    · exact hb
    · exact ha
theorem grid_asc {rows : List (List Int)} (h : ∀ r ∈ rows, r.Pairwise (· < ·)) : LexAsc (gridL rows) := gf_asc rows [[]] 0 (fun x hx => by rw [List.mem_singleton.mp hx]; rfl) (by unfold LexAsc; simp) h
theorem grid_join (rows : List (List Int)) : JClosed (gridL rows) := gf_join rows [[]] 0 (fun x hx => by rw [List.mem_singleton.mp hx]; rfl) fun x hx y hy => by
  rw [List.mem_singleton.mp hx, List.mem_singleton.mp hy]
  exact List.mem_singleton.mpr rfl
/-! ### parting on the grid -/
theorem le_lex : ∀ {a b : List Int}, Le a b → HT.lexLt b a = false
  | [], [], _ => rfl
  | x :: xs, y :: ys, h => by
    rw [HT.lexLt_cons]
    by_cases e : y = x
    · rw [if_pos e]
      exact le_lex h.2
    · rw [if_neg e]
      exact decide_eq_false (by have := h.1; omega)
  | [], _ :: _, h => h.elim
  | _ :: _, [], h => h.elim
section
variable {n : Nat} {L : List (List Int)} {a b : List Int}
theorem partsB_iff {x : List Int} : partsB a b x = true ↔ leB a x ≠ leB b x := by
  unfold partsB
  simp
/-- behind each open one that parts there is a join that parts, and it is open -/
theorem cand_below {x : List Int} (ha : a.length = n) (hb : b.length = n) (hx : x.length = n) (hL : ∀ l ∈ L, l.length = n) {l : List Int} (hl : l ∈ L) (hle : Le l x) (hp : partsB a b x = true) : ∃ c ∈ candL L a b, Le c x := by
  have hln := hL l hl
  have key : ∀ p q : List Int, p.length = n → q.length = n → leB p x = true → leB q x = false → Le (joinL p l) x ∧ leB p (joinL p l) = true ∧ leB q (joinL p l) = false := by
    intro p q hpn hqn h1 h2
    have hj : (joinL p l).length = n := by rw [joinL_len (by omega)]; exact hpn
    have hle2 : Le (joinL p l) x := (join_le (by omega)).mpr ⟨(leB_iff (by omega)).mp h1, hle⟩
    refine ⟨hle2, (leB_iff (by omega)).mpr (le_joinL (by omega)), ?_⟩
    cases e : leB q (joinL p l) with
    | false => rfl
    | true =>
      rw [(leB_iff (by omega)).mpr (((leB_iff (by omega)).mp e).trans hle2)] at h2
      cases h2
  rw [partsB_iff] at hp
  cases ea : leB a x with
  | true =>
    have eb : leB b x = false := by
      cases eb : leB b x with
      | false => rfl
      | true => rw [ea, eb] at hp; exact absurd rfl hp
    obtain ⟨k1, k2, k3⟩ := key a b ha hb ea eb
    exact ⟨joinL a l, mem_cand.mpr ⟨⟨l, hl, .inl rfl⟩, partsB_iff.mpr (by rw [k2, k3]; simp)⟩, k1⟩
  | false =>
    have eb : leB b x = true := by
      cases eb : leB b x with
      | true => rfl
      | false => rw [ea, eb] at hp; exact absurd rfl hp
    obtain ⟨k1, k2, k3⟩ := key b a hb ha eb ea
    exact ⟨joinL b l, mem_cand.mpr ⟨⟨l, hl, .inr rfl⟩, partsB_iff.mpr (by rw [k2, k3]; simp)⟩, k1⟩
/-- folds are equal exactly if no join parts the two -/
theorem folds_eq (ha : a.length = n) (hb : b.length = n) (hL : ∀ l ∈ L, l.length = n) : foldL L a = foldL L b ↔ candL L a b = [] := by
  constructor
  · intro h
    cases e : candL L a b with
    | nil => rfl
    | cons x xs =>
      have hx : x ∈ candL L a b := by rw [e]; exact List.mem_cons_self
      obtain ⟨⟨l, hl, h1⟩, h2⟩ := mem_cand.mp hx
      have hln := hL l hl
      have hxl : x.length = n := by
        rcases h1 with rfl | rfl
        · rw [joinL_len (by omega)]; exact ha
        · rw [joinL_len (by omega)]; exact hb
      have hle : Le l x := by
        rcases h1 with rfl | rfl
        · exact le_joinR (by omega)
        · exact le_joinR (by omega)
      have s1 := fold_sees (x := x) ha hL hl hle
      have s2 := fold_sees (x := x) hb hL hl hle
      rw [h] at s1
      have : leB a x = leB b x := by
        rw [Bool.eq_iff_iff, leB_iff (by omega), leB_iff (by omega)]
        exact s1.trans s2.symm
      exact absurd this (partsB_iff.mp h2)
  · intro h
    have no : ∀ x, x ∉ candL L a b := fun x hx => by rw [h] at hx; simp at hx
    by_cases eL : L = []
    · subst eL
      show List.replicate a.length (0 : Int) = List.replicate b.length 0
      rw [ha, hb]
    · have step : ∀ p q : List Int, p.length = n → q.length = n → (∀ x, x ∉ candL L p q) → Le (foldL L q) (foldL L p) := by
        intro p q hp hq hno
        refine (le_fold hp hL eL).mpr fun l hl => ?_
        have hln := hL l hl
        have hj : (joinL p l).length = n := by rw [joinL_len (by omega)]; exact hp
        have hq' : leB q (joinL p l) = true := by
          cases e : leB q (joinL p l) with
          | true => rfl
          | false =>
            refine absurd (mem_cand.mpr ⟨⟨l, hl, .inl rfl⟩, partsB_iff.mpr ?_⟩) (hno (joinL p l))
            rw [e, (leB_iff (by omega)).mpr (le_joinL (by omega))]
            simp
        exact (fold_le_join hq hL hl).trans ((join_le (by omega)).mpr ⟨(leB_iff (by omega)).mp hq', le_joinR (by omega)⟩)
      exact Le.anti (step b a hb ha fun x hx => no x (cand_sym.mp hx)) (step a b ha hb no)
/-- the least one that parts, among the open ones of an ascending list that is closed under joins -/
theorem part_first {later : List (List Int)} {m : List Int} (ha : a.length = n) (hb : b.length = n) (hL : ∀ l ∈ L, l.length = n) (hlat : ∀ x ∈ later, x.length = n ∧ ∃ l ∈ L, Le l x) (hasc : LexAsc later) (hin : ∀ x ∈ candL L a b, x ∈ later) :
    (candL L a b = [] ↔ later.find? (partsB a b) = none) ∧ ∀ m, Part L a b m → later.find? (partsB a b) = some m := by
  have h1 : ∀ x ∈ later, partsB a b x = true → ∃ c ∈ candL L a b, Le c x := fun x hx hp => by
    obtain ⟨hxl, l, hl, hle⟩ := hlat x hx
    exact cand_below ha hb hxl hL hl hle hp
  refine ⟨⟨fun h => ?_, fun h => ?_⟩, fun m hm => ?_⟩
  · rw [List.find?_eq_none]
    intro x hx hp
    obtain ⟨c, hc, _⟩ := h1 x hx hp
    rw [h] at hc
    simp at hc
  · cases e : candL L a b with
    | nil => rfl
    | cons c cs =>
      have hc : c ∈ candL L a b := by rw [e]; exact List.mem_cons_self
      have := List.find?_eq_none.mp h c (hin c hc)
      exact absurd (mem_cand.mp hc).2 this
  · have hml := hin m hm.1
    have hmp := (mem_cand.mp hm.1).2
    obtain ⟨i, hi⟩ := List.mem_iff_getElem?.mp hml
    obtain ⟨hi1, hi2⟩ := List.getElem?_eq_some_iff.mp hi
    refine List.find?_eq_some_iff_getElem.mpr ⟨hmp, i, hi1, hi2, fun j hj => ?_⟩
    have hj1 : j < later.length := by omega
    cases e : partsB a b later[j] with
    | false => rfl
    | true =>
      obtain ⟨c, hc, hle⟩ := h1 _ (List.getElem_mem hj1) e
      have hlt := List.pairwise_iff_getElem.mp hasc j i hj1 hi1 hj
      rw [hi2] at hlt
      have hcl : c.length = later[j].length := hle.len
      have hjm : later[j].length = m.length := by rw [(hlat _ (List.getElem_mem hj1)).1, (hlat m hml).1]
      by_cases ec : HT.lexLt c later[j] = true
      · have := hm.2 c hc
        rw [lex_trans hcl hjm ec hlt] at this
        cases this
      · have : c = later[j] := lex_tri hcl (by simpa using ec) (le_lex hle)
        have h3 := hm.2 c hc
        rw [this, hlt] at h3
        cases h3
end
end K4

namespace K4
open PySem PySem.Spec PyProof.Rows L2
/-- a list of truth values -/
def BoL (H : Hp) (v : V) (bs : List Bool) : Prop := ∃ a, v = .ref a ∧ H a = some (.lst (bs.map V.bl))
theorem BoL.same {H H' : Hp} {v : V} {bs : List Bool} (h : BoL H v bs) (e : Same H H') : BoL H' v bs := by
  obtain ⟨a, rfl, h1⟩ := h
  exact ⟨a, rfl, e _ _ h1⟩
/-- what parting tells, as an option -/
def ToldO (K : PySem.W.Frag) (H : Hp) (v : V) (n : Nat) (o : Option (List Int)) : Prop := (o = none ∧ v = .non) ∨ ∃ m, o = some m ∧ Mo K H v m ∧ Ok n m
def spPartIs (K : PySem.W.Frag) : Sp := fun vs H Q _ => ∃ (v u : V) (z : Int) (n : Nat) (o : Option (List Int)), vs = [v, u, .int z] ∧ z = (n : Int) ∧ MoL K H u o.toList ∧ ToldO K H v n o ∧ n ≤ 4 ∧ ∀ H', Same H H' → Q (.bl true) H'
def spFirstUnlike (K : PySem.W.Frag) : Sp := fun vs H Q _ => ∃ (v u w : V) (a b : List Int) (later : List (List Int)), vs = [v, u, w] ∧ BoL H v (later.map (leB a)) ∧ BoL H u (later.map (leB b)) ∧ MoL K H w later ∧ later.length ≤ 10000 ∧ ∀ H' y, Same H H' → MoL K H' y (later.find? (partsB a b)).toList → Q y H'
section
variable {P : Program} {w : World} {K : PySem.W.Frag} {mg : Str → Option Value} {base : Heap} {C : Addr}
theorem d_law_parting_is (B : Bt mg) (T : Top K mg "_law_parting_is" s_law_parting_is ["told", "due", "span"]) (D_law_is_moment : Def P w K mg base "_law_is_moment" 2 ["told", "span"] (spIsMoment K)) : Def P w K mg base "_law_parting_is" 3 ["told", "due", "span"] (spPartIs K) := by
  refine mk_def T sc_law_parting_is (by rintro _ _ _ _ ⟨_, _, _, _, _, rfl, _⟩; rfl) fun f cdv A outer s H vs Q E hr h => ?_
  obtain ⟨v, u, z, n, o, rfl, rfl, hu, ht, hn, q⟩ := h
  refine ⟨_, (pss_cons (ps_if (pt_cmpR (op_eqD (hu64 hr)) (pv 1) (pe_lst pa_nil) (nomark _)) (pss_one (ps_ret (pe_cmpR op_isN (pv 0) pe_non (nomark _)))) pss_nil)
      (pss_one (ps_ret (pe_and (pe_def D_law_is_moment (hr.mono (by decide)) (by rfl) (pa_cons (pv 0) (pa_cons (pv 2) pa_nil))) (pe_one (pe_cmpR (op_eqD (hu64 hr)) (pv 0) (pe_ix ix_list (pv 1) pe_int (fun _ _ => rfl)) (nomark _))))))), ?_⟩
  refine ⟨u, rfl, Nat.zero_le _, fun e he => ?_⟩
  have e1 : Same H (upd H e (.lst [])) := same_upd he
  refine ⟨.list (o.toList.map mo), .list [], Da.dp _ _ (hu.same e1).da, Da.dp _ _ (.lst (SqL.of upd_same) .nil), shaped_mos _, by decide, _, rfl, ?_⟩
  rw [show PyData.eqv (.list (o.toList.map mo)) (.list []) = decide (o.toList = []) from eqv_mos o.toList []]
  rcases ht with ⟨rfl, rfl⟩ | ⟨m, rfl, hm, hok⟩
  · exact iteT ⟨.non, rfl, rfl, (by show Q (.bl (decide (V.non = V.non))) _; rw [decide_eq_true rfl]; exact q _ e1)⟩
  · refine iteF ?_
    obtain ⟨ua, uv, rfl, hua, hud⟩ := hu
    cases hud with
    | cons r0 rt =>
      rename_i u0 us
      cases rt
      refine ⟨v, rfl, .int (n : Nat), rfl, v, m, (by rw [hok.1]; rfl), hm.same e1, hok.pos, by rw [hok.1]; omega, fun H1 s1 => ⟨true, rfl, iteT ?_⟩⟩
      have e2 := e1.trans s1
      refine ⟨v, rfl, .ref ua, rfl, ua, _, 0, u0, rfl, rfl, SqL.of (e2 _ _ hua), atI_nat (j := 0) rfl, mo m, mo m, Da.dp _ _ (hm.same e2), Da.dp _ _ (Mo.same r0 e2), shaped_mo _, shaped_mo _, ?_⟩
      rw [eqv_mo, decide_eq_true rfl]
      exact q H1 e2
theorem d_law_first_unlike (B : Bt mg) (T : Top K mg "_law_first_unlike" s_law_first_unlike ["one", "mate", "later_ones"]) : Def P w K mg base "_law_first_unlike" 1 ["one", "mate", "later_ones"] (spFirstUnlike K) := by
  refine mk_def T sc_law_first_unlike (by rintro _ _ _ _ ⟨_, _, _, _, _, _, rfl, _⟩; rfl) fun f cdv A outer s H vs Q E hr h => ?_
  obtain ⟨v, u, w0, a, b, later, rfl, ⟨va, rfl, hva⟩, ⟨ua, rfl, hua⟩, ⟨wa, wv, rfl, hwa, hwd⟩, hlen, q⟩ := h
  refine ⟨_, (pss_cons (ps_for PassesOwn.never rfl (pi_range1 (by rfl) B.m_range (pa_cons (pe_callB call_len_seq (by rfl) B.m_len PySem.boot_len (pa_cons (pv 2) pa_nil)) pa_nil)) (pg_name (i := 3) sc_law_first_unlike.nd rfl (Or.inl rfl)) (pss_one (ps_if (pt_cmpR op_ne (pe_ix ix_list (pv 0) (pv 3) (fun _ _ => rfl)) (pe_ix ix_list (pv 1) (pv 3) (fun _ _ => rfl)) (nomark _)) (pss_one (ps_ret (pe_lst (pa_cons (pe_ix ix_list (pv 2) (pv 3) (fun _ _ => rfl)) pa_nil)))) pss_nil)))
      (pss_one (ps_ret (pe_lst pa_nil)))), ?_⟩
  have lw : wv.length = later.length := by simpa using hwd.length
  refine ⟨.ref wa, rfl, wa, _, rfl, .inl (SqL.of hwa), (wv.length : Nat), rfl, by omega, by omega, ?_⟩
  refine for_range (lo := 0) (n := ((wv.length : Nat) : Int).toNat) (fun i σ H' => ∃ y3, σ = [some (.ref va), some (.ref ua), some (.ref wa), y3] ∧ H' = H ∧ ∀ j (h : j < later.length), j < i → partsB a b later[j] = false) ⟨none, rfl, rfl, fun j _ hj => by omega⟩ (fun i σ H' hi pv' => ?_) (fun σ H' pv' => ?_)
  · obtain ⟨y3, rfl, rfl, hno⟩ := pv'
    have hi1 : i < later.length := by omega
    have hi2 : i < wv.length := by omega
    refine ⟨.ref va, rfl, .int (0 + (i : Nat)), rfl, va, _, _, .bl (leB a later[i]), rfl, rfl, SqL.of hva, at_of (j := i) (by omega) (by simp [hi1]), .ref ua, rfl, .int (0 + (i : Nat)), rfl, ua, _, _, .bl (leB b later[i]), rfl, rfl, SqL.of hua, at_of (j := i) (by omega) (by simp [hi1]), rfl, _, rfl, ?_⟩
    have hp : (!decide (V.bl (leB a later[i]) = V.bl (leB b later[i]))) = partsB a b later[i] := by
      unfold partsB
      cases leB a later[i] <;> cases leB b later[i] <;> simp
    rw [hp]
    refine ite2 (fun zz => ?_) (fun zz => ⟨_, rfl, rfl, fun j hj hji => ?_⟩)
    · obtain ⟨x, hx, hx2⟩ := DaAll.at (i := i) (d := mo later[i]) hwd (by simp [hi1])
      refine ⟨.ref wa, rfl, .int (0 + (i : Nat)), rfl, wa, _, _, x, rfl, rfl, SqL.of hwa, at_of (j := i) (by omega) hx, by show 1 ≤ sizeLine; decide, fun D hD => ?_⟩
      refine q _ (.ref D) (same_upd hD) ?_
      have hf : later.find? (partsB a b) = some later[i] := List.find?_eq_some_iff_getElem.mpr ⟨zz, i, hi1, rfl, fun j hj => by simpa using hno j (by omega) hj⟩
      rw [hf]
      exact ⟨D, _, rfl, upd_same, .cons (Mo.same hx2 (same_upd hD)) .nil⟩
    · by_cases hji' : j < i
      · exact hno j hj hji'
      · have : j = i := by omega
        subst this
        simpa using zz
  · obtain ⟨y3, rfl, rfl, hno⟩ := pv'
    refine ⟨Nat.zero_le _, fun D hD => ?_⟩
    refine q _ (.ref D) (same_upd hD) ?_
    have hf : later.find? (partsB a b) = none := List.find?_eq_none.mpr fun x hx hp => by
      obtain ⟨i, hi⟩ := List.mem_iff_getElem?.mp hx
      obtain ⟨hi1, hi2⟩ := List.getElem?_eq_some_iff.mp hi
      have := hno i hi1 (by omega)
      rw [hi2, hp] at this
      cases this
    rw [hf]
    exact ⟨D, [], rfl, upd_same, .nil⟩
end
end K4

namespace K4
open PySem PySem.Spec PyProof.Rows L2
def bo (bs : List Bool) : PyData := .list (bs.map .bool)
theorem da_bools {K : PySem.W.Frag} {H : Hp} : ∀ bs : List Bool, DaAll K H (bs.map V.bl) (bs.map PyData.bool)
  | [] => .nil
  | b :: bs => .cons (.bl b) (da_bools bs)
theorem BoL.da {K : PySem.W.Frag} {H : Hp} {v : V} {bs : List Bool} (h : BoL H v bs) : Da K H v (bo bs) := by
  obtain ⟨a, rfl, h1⟩ := h
  exact .lst (SqL.of h1) (da_bools bs)
theorem can_bools : ∀ bs : List Bool, PyData.canLayAll0 (bs.map PyData.bool) = true
  | [] => rfl
  | b :: bs => can_bools bs
theorem depth_bools : ∀ bs : List Bool, PyData.depthAll (bs.map PyData.bool) = 0
  | [] => rfl
  | b :: bs => by
    show max 0 (PyData.depthAll (bs.map PyData.bool)) = 0
    rw [depth_bools bs]
    rfl
theorem shaped_bo (bs : List Bool) : SeqAt.shaped (bo bs) = true := by
  unfold SeqAt.shaped
  rw [show PyData.canLay0 (bo bs) = true from can_bools bs, Bool.true_and]
  refine decide_eq_true ?_
  show PyData.depthAll (bs.map PyData.bool) + 1 ≤ 64
  rw [depth_bools]
  decide
theorem eqvAll_bools : ∀ as bs : List Bool, PyData.eqvAll (as.map PyData.bool) (bs.map PyData.bool) = decide (as = bs)
  | [], [] => rfl
  | [], _ :: _ => rfl
  | _ :: _, [] => rfl
  | n :: ns, m :: ms => by
    show (PyData.eqv (.bool n) (.bool m) && PyData.eqvAll (ns.map PyData.bool) (ms.map PyData.bool)) = _
    rw [eqvAll_bools ns ms]
    cases n <;> cases m <;> simp [PyData.eqv]
theorem eqv_bo (a b : List Bool) : PyData.eqv (bo a) (bo b) = decide (a = b) := eqvAll_bools a b
def spAreMoments (K : PySem.W.Frag) : Sp := fun vs H Q _ => ∃ (v : V) (z : Int) (n : Nat) (ms : List (List Int)), vs = [v, .int z] ∧ z = (n : Int) ∧ MoL K H v ms ∧ (∀ m ∈ ms, Ok n m) ∧ n ≤ 4 ∧ ms.length ≤ 10000 ∧ ∀ H', Same H H' → Q (.bl true) H'
def spPair (K : PySem.W.Frag) : Sp := fun vs H Q _ => ∃ (gA sA fA : Addr) (j k : Nat) (d sj : V) (sv : List V) (n : Nat) (L grid later : List (List Int)) (gj gk : List Int) (o : Option (List Int)), vs = [.ref gA, .ref sA, .ref fA, .int (j : Nat), .int (k : Nat), d] ∧ MoL K H (.ref gA) grid ∧ H sA = some (.lst sv) ∧ sv[j]? = some sj ∧ BoL H sj (later.map (leB gj)) ∧ MoL K H (.ref fA) (grid.map (foldL L)) ∧ MoL K H d o.toList ∧
  grid[j]? = some gj ∧ grid[k]? = some gk ∧ Ok n gj ∧ Ok n gk ∧ (∀ l ∈ L, Ok n l) ∧ n ≤ 4 ∧ (foldL L gj = foldL L gk ↔ o = none) ∧ (later ≠ [] → L ≠ []) ∧ ∀ H', Same H H' → Q (.bl true) H'
section
variable {P : Program} {w : World} {K : PySem.W.Frag} {mg : Str → Option Value} {base : Heap} {C : Addr}
theorem d_law_are_moments (B : Bt mg) (T : Top K mg "_law_are_moments" s_law_are_moments ["told", "span"]) (D_law_is_moment : Def P w K mg base "_law_is_moment" 2 ["told", "span"] (spIsMoment K)) : Def P w K mg base "_law_are_moments" 3 ["told", "span"] (spAreMoments K) := by
  refine mk_def T sc_law_are_moments (by rintro _ _ _ _ ⟨_, _, _, _, rfl, _⟩; rfl) fun f cdv A outer s H vs Q E hr h => ?_
  obtain ⟨v, z, n, ms, rfl, rfl, ⟨a, lv, rfl, ha, hd⟩, hok, hn, hl, q⟩ := h
  refine ⟨_, (pss_cons (ps_if (pt_not (pt_val (pe_callB call_isi (by rfl) B.m_isinstance (by decide +kernel) (pa_cons (pv 0) (pa_cons (pe_bltn (v := .ty "list") (by rfl) B.m_list (by decide +kernel) rfl) pa_nil))))) (pss_one (ps_ret pe_bl)) pss_nil)
      (pss_one (ps_ret (pe_callB (cr_all rfl) (by rfl) B.m_all (by decide +kernel) (pa_cons (pe_lc (own := [("one", 2)]) (g := (gName 2)) (tt := tYes) (te := (tCall (spIsMoment K) [] E0 (tCons (tVar 2) (tCons (tVar 1) tNil)))) rfl sc_law_are_moments.nd (pi_list (pv 0)) (blkOk_by (own := [("one", 2)]) (N := N_law_are_moments) (sc := defScope s_law_are_moments) (by decide +kernel)) (fun _ _ _ _ _ => (pg_name (i := 2) sc_law_are_moments.nd rfl (Or.inl rfl))) (fun _ _ _ _ _ => pts_nil) (fun _ _ _ _ _ => (pe_def D_law_is_moment (hr.mono (by decide)) (by rfl) (pa_cons (pv 2) (pa_cons (pv 1) pa_nil))))) pa_nil))))), ?_⟩
  have ll : lv.length = ms.length := by simpa using hd.length
  refine ⟨.ref a, rfl, _, _, .type "list", .type "list", true, rfl, .ty _, .base (.lst ha), kit_ty (by decide +kernel), _, rfl, iteF ⟨.ref a, rfl, a, rfl, ⟨_, SqL.of ha⟩, fun D hD => ?_⟩⟩
  refine lc_val (walk_list (K := K)) hD (by omega) (fun H3 e3 => SqL.of (e3 _ _ ha)) (List.replicate lv.length (V.bl true)) (by simp) (fun j y H3 H4 Q' hj e3 y1 k => ?_) (fun H3 e3 eD => ?_)
  · obtain ⟨rfl, hy⟩ := y1
    obtain ⟨dd, hd1, hd2⟩ := hd.get hy
    obtain ⟨m, hm, rfl⟩ := mo_at hd1
    have hom := hok m (List.mem_of_getElem? hm)
    refine ⟨rfl, y, rfl, .int (n : Nat), rfl, y, m, (by rw [hom.1]; rfl), Mo.same hd2 e3, hom.pos, by rw [hom.1]; omega, fun H5 s5 => k _ _ s5 ?_⟩
    rw [List.getElem?_replicate, if_pos hj]
  · refine ⟨D, List.replicate lv.length true, rfl, SqL.of (by rw [eD, List.map_replicate]), ?_⟩
    rw [show (List.replicate lv.length true).all id = true by simp]
    exact q H3 e3
theorem d_law_pair_holds (B : Bt mg) (T : Top K mg "_law_pair_holds" s_law_pair_holds ["grid", "sights", "folds", "j", "k", "due"]) (D_law_before : Def P w K mg base "_law_before" 1 ["one", "mate"] (spB K leB)) : Def P w K mg base "_law_pair_holds" 2 ["grid", "sights", "folds", "j", "k", "due"] (spPair K) := by
  refine mk_def T sc_law_pair_holds (by rintro _ _ _ _ ⟨_, _, _, _, _, _, _, _, _, _, _, _, _, _, _, rfl, _⟩; rfl) fun f cdv A outer s H vs Q E hr h => ?_
  obtain ⟨gA, sA, fA, j, k, d, sj, sv, n, L, grid, later, gj, gk, o, rfl, hg, hs, hsj, hb, hf, hd, ej, ek, oj, ok, hL, hn, feq, hne, q⟩ := h
  refine ⟨_, (pss_cons (ps_if (pt_cmpR op_ne (pe_cmpR (op_eqD (hu64 hr)) (pe_ix ix_list (pv 2) (pv 3) (fun _ _ => rfl)) (pe_ix ix_list (pv 2) (pv 4) (fun _ _ => rfl)) (nomark _)) (pe_cmpR (op_eqD (hu64 hr)) (pv 5) (pe_lst pa_nil) (nomark _)) (nomark _)) (pss_one (ps_ret pe_bl)) pss_nil)
      (pss_cons (ps_if (pw_or (pt_cmpR (op_neD (hu64 hr)) (pv 5) (pe_lst pa_nil) (nomark _)) (pw_or1 (pt_cmpR (op_eqD (hu64 hr)) (pe_ix ix_list (pv 1) (pv 3) (fun _ _ => rfl)) (pe_lst pa_nil) (nomark _)))).pt (pss_one (ps_ret pe_bl)) pss_nil)
      (pss_one (ps_ret (pe_and (pe_def D_law_before (hr.mono (by decide)) (by rfl) (pa_cons (pe_ix ix_list (pv 0) (pv 3) (fun _ _ => rfl)) (pa_cons (pe_ix ix_list (pv 2) (pv 4) (fun _ _ => rfl)) pa_nil))) (pe_one (pe_def D_law_before (hr.mono (by decide)) (by rfl) (pa_cons (pe_ix ix_list (pv 0) (pv 4) (fun _ _ => rfl)) (pa_cons (pe_ix ix_list (pv 2) (pv 3) (fun _ _ => rfl)) pa_nil))))))))), ?_⟩
  obtain ⟨gA', gv, eg, hga, hgd⟩ := id hg
  cases eg
  obtain ⟨fA', fv, ef, hfa, hfd⟩ := id hf
  cases ef
  have of1 : Ok n (foldL L gj) := foldL_ok oj hL
  have of2 : Ok n (foldL L gk) := foldL_ok ok hL
  have hLl : ∀ l ∈ L, l.length = n := fun l hl => (hL l hl).1
  obtain ⟨f1, hf1, hf1m⟩ := DaAll.at (i := j) (d := mo (foldL L gj)) hfd (by simp [ej])
  obtain ⟨f2, hf2, hf2m⟩ := DaAll.at (i := k) (d := mo (foldL L gk)) hfd (by simp [ek])
  obtain ⟨g1, hg1, hg1m⟩ := DaAll.at (i := j) (d := mo gj) hgd (by simp [ej])
  obtain ⟨g2, hg2, hg2m⟩ := DaAll.at (i := k) (d := mo gk) hgd (by simp [ek])
  obtain ⟨c1, rfl, hc1⟩ := Mo.inv hf1m
  obtain ⟨c2, rfl, hc2⟩ := Mo.inv hf2m
  obtain ⟨b1, rfl, hb1⟩ := Mo.inv hg1m
  obtain ⟨b2, rfl, hb2⟩ := Mo.inv hg2m
  refine ⟨.ref fA, rfl, .int (j : Nat), rfl, fA, _, _, .ref c1, rfl, rfl, SqL.of hfa, at_of (j := j) rfl hf1, .ref fA, rfl, .int (k : Nat), rfl, fA, _, _, .ref c2, rfl, rfl, SqL.of hfa, at_of (j := k) rfl hf2, mo (foldL L gj), mo (foldL L gk), Da.dp _ _ hf1m, Da.dp _ _ hf2m, shaped_mo _, shaped_mo _, d, rfl, Nat.zero_le _, fun e he => ?_⟩
  have e1 : Same H (upd H e (.lst [])) := same_upd he
  refine ⟨.list (o.toList.map mo), .list [], Da.dp _ _ (hd.same e1).da, Da.dp _ _ (.lst (SqL.of upd_same) .nil), shaped_mos _, by decide, rfl, _, rfl, ?_⟩
  rw [show PyData.eqv (.list (o.toList.map mo)) (.list []) = decide (o.toList = []) from eqv_mos o.toList [], eqv_mo]
  have hoe : decide (o.toList = []) = decide (foldL L gj = foldL L gk) := by
    rw [Bool.eq_iff_iff, decide_eq_true_iff, decide_eq_true_iff, feq]
    cases o <;> simp
  rw [hoe]
  refine iteNS rfl ?_
  refine ⟨d, rfl, Nat.zero_le _, fun e' he' => ?_⟩
  have e2 := e1.trans (same_upd (o := .lst []) he')
  refine ⟨.list (o.toList.map mo), .list [], Da.dp _ _ (hd.same e2).da, Da.dp _ _ (.lst (SqL.of upd_same) .nil), shaped_mos _, by decide, _, rfl, ?_⟩
  rw [show PyData.eqv (.list (o.toList.map mo)) (.list []) = decide (o.toList = []) from eqv_mos o.toList []]
  refine ite2 (fun z1 => iteT (q _ e2)) (fun z1 => ?_)
  have ho : o = none := by
    cases o with
    | none => rfl
    | some m => exact absurd rfl z1
  refine ⟨.ref sA, rfl, .int (j : Nat), rfl, sA, _, _, sj, rfl, rfl, SqL.of (e2 _ _ hs), at_of (j := j) rfl hsj, Nat.zero_le _, fun e3 he3 => ?_⟩
  have e4 := e2.trans (same_upd (o := .lst []) he3)
  refine ⟨bo (later.map (leB gj)), bo [], Da.dp _ _ (hb.same e4).da, Da.dp _ _ (.lst (SqL.of upd_same) .nil), shaped_bo _, by decide, _, rfl, ?_⟩
  rw [eqv_bo]
  refine ite2 (fun z2 => q _ e4) (fun z2 => ?_)
  have hL0 : L ≠ [] := hne fun z => by
    subst z
    exact absurd rfl z2
  have hfe := feq.mpr ho
  have t1 : leB gj (foldL L gk) = true := by
    rw [← hfe]
    exact (leB_iff (by rw [oj.1, of1.1])).mpr (fold_ge oj.1 hLl hL0)
  have t2 : leB gk (foldL L gj) = true := by
    rw [hfe]
    exact (leB_iff (by rw [ok.1, of2.1])).mpr (fold_ge ok.1 hLl hL0)
  refine ⟨.ref gA, rfl, .int (j : Nat), rfl, gA, _, _, .ref b1, rfl, rfl, SqL.of (e4 _ _ hga), at_of (j := j) rfl hg1, .ref fA, rfl, .int (k : Nat), rfl, fA, _, _, .ref c2, rfl, rfl, SqL.of (e4 _ _ hfa), at_of (j := k) rfl hf2, b1, c2, gj, foldL L gk, rfl, e4.seqT hb1, e4.seqT hc2, by rw [oj.1, of2.1], by rw [oj.1]; omega, fun H5 s5 => ⟨true, by rw [t1], iteT ?_⟩⟩
  have e5 := e4.trans s5
  refine ⟨.ref gA, rfl, .int (k : Nat), rfl, gA, _, _, .ref b2, rfl, rfl, SqL.of (e5 _ _ hga), at_of (j := k) rfl hg2, .ref fA, rfl, .int (j : Nat), rfl, fA, _, _, .ref c1, rfl, rfl, SqL.of (e5 _ _ hfa), at_of (j := j) rfl hf1, b2, c1, gk, foldL L gj, rfl, e5.seqT hb2, e5.seqT hc1, by rw [ok.1, of1.1], by rw [ok.1]; omega, fun H6 s6 => ?_⟩
  rw [t2]
  exact q H6 (e5.trans s6)
end
end K4

namespace K4
open PySem PySem.Spec PyProof.Rows L2
abbrev SC__law_grid_holds : Scope := { kind := .function, names := [(".0", .local), ("one", .cell), ("later_ones", .cell)], isGenerator := false, isCoroutine := false }
structure GridOk (n : Nat) (L grid later : List (List Int)) : Prop where
  ok : ∀ m ∈ grid, Ok n m
  low : ∀ l ∈ L, l ∈ grid
  lat : ∀ x ∈ later, x ∈ grid ∧ ∃ l ∈ L, Le l x
  all : ∀ x ∈ grid, (∃ l ∈ L, Le l x) → x ∈ later
  asc : LexAsc later
  jn : JClosed grid
theorem GridOk.cand {n : Nat} {L grid later : List (List Int)} (G : GridOk n L grid later) {a b : List Int} (ha : a ∈ grid) (hb : b ∈ grid) : ∀ x ∈ candL L a b, x ∈ later := fun x hx => by
  obtain ⟨⟨l, hl, h⟩, _⟩ := mem_cand.mp hx
  have hlg := G.low l hl
  have e1 := (G.ok a ha).1
  have e2 := (G.ok b hb).1
  have e3 := (G.ok l hlg).1
  rcases h with rfl | rfl
  · exact G.all _ (G.jn a ha l hlg) ⟨l, hl, le_joinR (by omega)⟩
  · exact G.all _ (G.jn b hb l hlg) ⟨l, hl, le_joinR (by omega)⟩
def spGridHolds (K : PySem.W.Frag) (C : Addr) : Sp := fun vs H Q _ => ∃ (f g l : V) (z way : Int) (n : Nat) (L grid later : List (List Int)), vs = [f, g, l, .int z, .int way] ∧ z = (n : Int) ∧ FrontAt K C H f n L ∧ MoL K H g grid ∧ MoL K H l later ∧ GridOk n L grid later ∧ 1 ≤ n ∧ n ≤ 4 ∧ grid.length ≤ 2000 ∧ later.length ≤ 2000 ∧ 0 ≤ way ∧ way ≤ 3 ∧ ∀ H', Same H H' → Q (.bl true) H'
section
variable {P : Program} {w : World} {K : PySem.W.Frag} {mg : Str → Option Value} {base : Heap} {C : Addr}
theorem d_law_grid_holds (B : Bt mg) (Cl : Cls K C) (T : Top K mg "_law_grid_holds" s_law_grid_holds ["front", "grid", "later_ones", "span", "way"]) (D_law_before : Def P w K mg base "_law_before" 1 ["one", "mate"] (spB K leB)) (Mfold : MethD P w K mg base C "fold" 2 ["self", "moment"] (spFold K C)) (D_law_are_moments : Def P w K mg base "_law_are_moments" 3 ["told", "span"] (spAreMoments K)) (D_law_first_unlike : Def P w K mg base "_law_first_unlike" 1 ["one", "mate", "later_ones"] (spFirstUnlike K)) (D_law_asked : Def P w K mg base "_law_asked" 3 ["front", "one", "mate", "way"] (spAsked K C))
    (D_law_parting_is : Def P w K mg base "_law_parting_is" 3 ["told", "due", "span"] (spPartIs K)) (D_law_pair_holds : Def P w K mg base "_law_pair_holds" 2 ["grid", "sights", "folds", "j", "k", "due"] (spPair K)) : Def P w K mg base "_law_grid_holds" 4 ["front", "grid", "later_ones", "span", "way"] (spGridHolds K C) := by
  refine mk_def T sc_law_grid_holds (by rintro _ _ _ _ ⟨_, _, _, _, _, _, _, _, _, rfl, _⟩; rfl) fun ff cdv A outer s H vs Q E hr h => ?_
  obtain ⟨f, g, l, z, way, n, L, grid, later, rfl, rfl, hF, hg, hl, G, hn1, hn4, hgl, hll, w0, w3, q⟩ := h
  refine ⟨_, (pss_cons (ps_setLc (i := 5) (own := [("one", 7)]) (g := (gName 7)) (tt := tYes) (te := (tLc (iList K (tVar 2)) (gName 6) tYes (tCall (spB K leB) [] E0 (tCons (tVar 7) (tCons (tVar 6) tNil))) [6])) rfl sc_law_grid_holds.nd rfl rfl (sw_true rfl rfl rfl (by decide +kernel)) (pi_list (pv 1)) (blkOk_by (own := [("one", 7)]) (N := N_law_grid_holds) (sc := defScope s_law_grid_holds) (by decide +kernel)) (fun _ _ _ _ _ => (pg_name (i := 7) sc_law_grid_holds.nd rfl (Or.inr rfl))) (fun _ _ _ _ _ => pts_nil) (fun _ _ _ _ _ => (pe_lc (own := [("mate", 6)]) (g := (gName 6)) (tt := tYes) (te := (tCall (spB K leB) [] E0 (tCons (tVar 7) (tCons (tVar 6) tNil)))) rfl sc_law_grid_holds.nd (pi_list (pv 2)) (blkOk_by (own := [("mate", 6)]) (N := N_law_grid_holds) (sc := SC__law_grid_holds) (by decide +kernel)) (fun _ _ _ _ _ => (pg_name (i := 6) sc_law_grid_holds.nd rfl (Or.inl rfl))) (fun _ _ _ _ _ => pts_nil) (fun _ _ _ _ _ => (pe_def D_law_before (hr.mono (by decide)) (by rfl) (pa_cons (pv 7) (pa_cons (pv 6) pa_nil)))))))
      (pss_cons (ps_set (i := 8) sc_law_grid_holds.nd rfl (Or.inr rfl) (pe_lc (own := [("one", 7)]) (g := (gName 7)) (tt := tYes) (te := (tMeth C "fold" (spFold K C) [] E0 (tVar 0) (tCons (tVar 7) tNil))) rfl sc_law_grid_holds.nd (pi_list (pv 1)) (blkOk_by (own := [("one", 7)]) (N := N_law_grid_holds) (sc := defScope s_law_grid_holds) (by decide +kernel)) (fun _ _ _ _ _ => (pg_name (i := 7) sc_law_grid_holds.nd rfl (Or.inl rfl))) (fun _ _ _ _ _ => pts_nil) (fun _ _ _ _ _ => (pe_methM (pv 0) Cl Mfold (hr.mono (by decide)) (pa_cons (pv 7) pa_nil)))))
      (pss_cons (ps_if (pt_not (pt_val (pe_def D_law_are_moments (hr.mono (by decide)) (by rfl) (pa_cons (pv 8) (pa_cons (pv 3) pa_nil))))) (pss_one (ps_ret pe_bl)) pss_nil)
      (pss_cons (ps_for PassesOwn.never rfl (pi_range1 (by rfl) B.m_range (pa_cons (pe_callB call_len_seq (by rfl) B.m_len PySem.boot_len (pa_cons (pv 1) pa_nil)) pa_nil)) (pg_name (i := 9) sc_law_grid_holds.nd rfl (Or.inr rfl)) (pss_one (ps_if (pt_cmpR (op_neD (hu64 hr)) (pe_lc (own := [("mate", 6)]) (g := (gName 6)) (tt := tYes) (te := (tCall (spB K leB) [] E0 (tCons (tOp (rIxL K) (tVar 8) (tVar 9)) (tCons (tVar 6) tNil)))) rfl sc_law_grid_holds.nd (pi_list (pv 2)) (blkOk_by (own := [("mate", 6)]) (N := N_law_grid_holds) (sc := defScope s_law_grid_holds) (by decide +kernel)) (fun _ _ _ _ _ => (pg_name (i := 6) sc_law_grid_holds.nd rfl (Or.inl rfl))) (fun _ _ _ _ _ => pts_nil) (fun _ _ _ _ _ => (pe_def D_law_before (hr.mono (by decide)) (by rfl) (pa_cons (pe_ix ix_list (pv 8) (pv 9) (fun _ _ => rfl)) (pa_cons (pv 6) pa_nil))))) (pe_ix ix_list (pv 5) (pv 9) (fun _ _ => rfl)) (nomark _)) (pss_one (ps_ret pe_bl)) pss_nil)))
      (pss_cons (ps_for PassesOwn.never rfl (pi_range1 (by rfl) B.m_range (pa_cons (pe_callB call_len_seq (by rfl) B.m_len PySem.boot_len (pa_cons (pv 1) pa_nil)) pa_nil)) (pg_name (i := 10) sc_law_grid_holds.nd rfl (Or.inl rfl)) (pss_one (ps_for PassesOwn.never rfl (pi_range1 (by rfl) B.m_range (pa_cons (pe_op op_add (pv 10) pe_int) pa_nil)) (pg_name (i := 9) sc_law_grid_holds.nd rfl (Or.inr rfl)) (pss_cons (ps_set (i := 11) sc_law_grid_holds.nd rfl (Or.inl rfl) (pe_def D_law_first_unlike (hr.mono (by decide)) (by rfl) (pa_cons (pe_ix ix_list (pv 5) (pv 10) (fun _ _ => rfl)) (pa_cons (pe_ix ix_list (pv 5) (pv 9) (fun _ _ => rfl)) (pa_cons (pv 2) pa_nil)))))
      (pss_cons (ps_set (i := 12) sc_law_grid_holds.nd rfl (Or.inl rfl) (pe_def D_law_asked (hr.mono (by decide)) (by rfl) (pa_cons (pv 0) (pa_cons (pe_ix ix_list (pv 1) (pv 10) (fun _ _ => rfl)) (pa_cons (pe_ix ix_list (pv 1) (pv 9) (fun _ _ => rfl)) (pa_cons (pe_op op_mod (pe_callTy call_int1 (by rfl) B.m_int (by decide +kernel) (pa_cons (pe_op op_add (pe_op op_add (pv 4) (pv 10)) (pv 9)) pa_nil)) pe_int) pa_nil))))))
      (pss_cons (ps_if (pt_not (pt_val (pe_def D_law_parting_is (hr.mono (by decide)) (by rfl) (pa_cons (pv 12) (pa_cons (pv 11) (pa_cons (pv 3) pa_nil)))))) (pss_one (ps_ret pe_bl)) pss_nil)
      (pss_one (ps_if (pt_not (pt_val (pe_def D_law_pair_holds (hr.mono (by decide)) (by rfl) (pa_cons (pv 1) (pa_cons (pv 5) (pa_cons (pv 8) (pa_cons (pv 10) (pa_cons (pv 9) (pa_cons (pv 11) pa_nil))))))))) (pss_one (ps_ret pe_bl)) pss_nil))))))))
      (pss_one (ps_ret pe_bl))))))), ?_⟩
  obtain ⟨p, dx, d, lvF, rfl, hp, _, _, hL, _⟩ := id hF
  obtain ⟨ga, gv, rfl, hga, hgd⟩ := id hg
  obtain ⟨la, lv, rfl, hla, hld⟩ := id hl
  have lg : gv.length = grid.length := by simpa using hgd.length
  have llv : lv.length = later.length := by simpa using hld.length
  have hLl : ∀ l ∈ L, l.length = n := fun l hl => (hL l hl).1
  -- sights
  refine ⟨.ref ga, rfl, ga, rfl, ⟨_, SqL.of hga⟩, fun sA hsA => ?_⟩
  refine lc_it (walk_list (K := K) (xs := gv)) (fun i H' => Same H H' ∧ ∃ sv : List V, H' sA = some (.lst sv) ∧ sv.length = i ∧ ∀ (j : Nat) (m : List Int), j < i → grid[j]? = some m → ∃ q : Addr, sv[j]? = some (V.ref q) ∧ q ≠ sA ∧ H' q = some (.lst ((later.map (leB m)).map V.bl)))
    ⟨same_upd hsA, [], upd_same, rfl, fun j m hj => by omega⟩ (fun i H' _ pw => SqL.of (pw.1 _ _ hga)) (fun i x H' H'' hi pw y => ?_) (fun H1 pw => ?_)
  · obtain ⟨rfl, hx⟩ := y
    obtain ⟨e, sv, esA, hsl, hat⟩ := pw
    obtain ⟨dd, hd1, hd2⟩ := hgd.get hx
    obtain ⟨m, hm, rfl⟩ := mo_at hd1
    have hom := G.ok m (List.mem_of_getElem? hm)
    obtain ⟨b, rfl, hb⟩ := Mo.inv (Mo.same hd2 e)
    refine ⟨rfl, .ref la, rfl, la, rfl, ⟨_, SqL.of (e _ _ hla)⟩, fun I hI => ?_⟩
    refine lc_val (walk_list (K := K)) hI (by omega) (fun H3 e3 => SqL.of (e3 _ _ (e _ _ hla))) ((later.map (leB m)).map V.bl) (by simp [llv]) (fun j y H3 H4 Q' hj e3 y1 k => ?_) (fun H3 e3 eI => ?_)
    · obtain ⟨rfl, hy⟩ := y1
      obtain ⟨dd, hd1', hd2'⟩ := hld.get hy
      obtain ⟨x, hx', rfl⟩ := mo_at hd1'
      have hox := G.ok x (G.lat x (List.mem_of_getElem? hx')).1
      obtain ⟨c, rfl, hc⟩ := Mo.inv (Mo.same hd2' (e.trans e3))
      refine ⟨rfl, .ref b, rfl, .ref c, rfl, b, c, m, x, rfl, e3.seqT hb, hc, by rw [hom.1, hox.1], by rw [hom.1]; omega, fun H5 s5 => k _ _ s5 ?_⟩
      simp [hx']
    · have esA3 := e3 _ _ esA
      have nI : I ≠ sA := (ne_of_none esA hI).symm
      refine ⟨sv, esA3, Nat.lt_of_le_of_lt (show sv.length ≤ 2000 by omega) (by decide), (e.trans e3).mut hsA, sv ++ [.ref I], upd_same, by simp [hsl], fun j mj hj hjm => ?_⟩
      by_cases hj' : j < i
      · obtain ⟨q0, k1, k2, k3⟩ := hat j mj hj' hjm
        exact ⟨q0, by rw [List.getElem?_append_left (by omega)]; exact k1, k2, by rw [upd_ne k2]; exact e3 _ _ k3⟩
      · have hj0 : j = i := by omega
        subst hj0
        have : m = mj := Option.some.inj (hm.symm.trans hjm)
        subst this
        refine ⟨I, ?_, nI, by rw [upd_ne nI]; exact eI⟩
        rw [List.getElem?_append_right (by omega), hsl]
        simp
  obtain ⟨e1, sv, esA, hsl, hat⟩ := pw
  -- folds
  refine ⟨.ref ga, rfl, ga, rfl, ⟨_, SqL.of (e1 _ _ hga)⟩, fun fA hfA => ?_⟩
  refine lc_dat (K := K) walk_list hfA (by omega) (fun H3 e3 => SqL.of (e3 _ _ (e1 _ _ hga))) ((grid.map (foldL L)).map mo) (by simp [lg]) (imm_mos _) (fun k x3 H3 H3' Q' hk e3 y3' kk => ?_) (fun H2 fv e2' eF dF => ?_)
  · obtain ⟨rfl, hy⟩ := y3'
    obtain ⟨dd, hd1, hd2⟩ := hgd.get hy
    obtain ⟨m, hm, rfl⟩ := mo_at hd1
    have s3 := e1.trans e3
    refine ⟨rfl, .ref p, rfl, p, dx, _, rfl, s3 _ _ hp, frF_no n d (by decide +kernel) (by decide +kernel), x3, rfl, .ref p, x3, n, L, m, rfl, hF.same s3, Mo.same hd2 s3, G.ok m (List.mem_of_getElem? hm), hn1, hn4, fun H5 t s5 ht => kk _ _ (mo (foldL L m)) s5 ?_ ht⟩
    simp [hm]
  have e2 := e1.trans e2'
  have esA2 := e2' _ _ esA
  have hat2 : ∀ (j : Nat) (m : List Int), j < gv.length → grid[j]? = some m → ∃ q : Addr, sv[j]? = some (V.ref q) ∧ H2 q = some (.lst ((later.map (leB m)).map V.bl)) := fun j m hj hm => by
    obtain ⟨q0, k1, _, k3⟩ := hat j m hj hm
    exact ⟨q0, k1, e2' _ _ k3⟩
  have hFo : ∀ m ∈ grid.map (foldL L), Ok n m := fun m hm => by
    obtain ⟨x, hx, rfl⟩ := List.mem_map.mp hm
    exact foldL_ok (G.ok x hx) hL
  have hfM : MoL K H2 (.ref fA) (grid.map (foldL L)) := ⟨fA, fv, rfl, eF, dF⟩
  have lf : fv.length = grid.length := by simpa using dF.length
  refine ⟨.ref fA, rfl, .int (n : Nat), rfl, .ref fA, _, n, _, rfl, rfl, hfM, hFo, hn4, by simp; omega, fun H3 e3 => ⟨true, rfl, iteF ?_⟩⟩
  have s03 := e2.trans e3
  have hlq : ∀ (j : Nat) (m : List Int), grid[j]? = some m → j < gv.length := fun j m hm => by
    have := (List.getElem?_eq_some_iff.mp hm).1
    omega
  have hs3 : ∀ (j : Nat) (m : List Int), grid[j]? = some m → ∃ q : Addr, sv[j]? = some (V.ref q) ∧ H3 q = some (.lst ((later.map (leB m)).map V.bl)) := fun j m hm => by
    obtain ⟨q0, k1, k2⟩ := hat2 j m (hlq j m hm) hm
    exact ⟨q0, k1, e3 _ _ k2⟩
  have esA3 := e3 _ _ esA2
  have hf3 := hfM.same e3
  have eF3 := e3 _ _ eF
  have dF3 := Da.sameAll e3 _ _ dF
  have hga3 := s03 _ _ hga
  have hla3 := s03 _ _ hla
  have hgd3 := Da.sameAll s03 _ _ hgd
  have hld3 := Da.sameAll s03 _ _ hld
  have hg3 := hg.same s03
  have hl3 := hl.same s03
  have hF3 := hF.same s03
  have hp3 := s03 _ _ hp
  -- the folds see what the moments see
  refine ⟨.ref ga, rfl, ga, _, rfl, .inl (SqL.of hga3), (gv.length : Nat), rfl, by omega, by omega, ?_⟩
  refine for_range (lo := 0) (n := ((gv.length : Nat) : Int).toNat) (fun i σ H' => ∃ (y6 y7 y9 y10 y11 y12 : Option V), σ = [some (.ref p), some (.ref ga), some (.ref la), some (.int (n : Nat)), some (.int way), some (.ref sA), y6, y7, some (.ref fA), y9, y10, y11, y12] ∧ Same H3 H') ⟨_, _, _, _, _, _, rfl, Same.refl _⟩ (fun i σ H' hi pv' => ?_) (fun σ H4 pv' => ?_)
  · obtain ⟨y6, y7, y9, y10, y11, y12, rfl, e⟩ := pv'
    have hi1 : i < grid.length := by omega
    have hom := G.ok grid[i] (List.getElem_mem hi1)
    have hof : Ok n (foldL L grid[i]) := foldL_ok hom hL
    obtain ⟨f1, hf1, hf1m⟩ := DaAll.at (i := i) (d := mo (foldL L grid[i])) dF3 (by simp [hi1])
    obtain ⟨c1, rfl, hc1⟩ := Mo.inv hf1m
    obtain ⟨q0, hq1, hq2⟩ := hs3 i grid[i] (by simp [hi1])
    refine ⟨.ref la, rfl, la, rfl, ⟨_, SqL.of (e _ _ hla3)⟩, fun D hD => ?_⟩
    refine lc_val (walk_list (K := K)) hD (by omega) (fun H5 e5 => SqL.of (e5 _ _ (e _ _ hla3))) ((later.map (leB (foldL L grid[i]))).map V.bl) (by simp [llv]) (fun j y H5 H6 Q' hj e5 y1 k => ?_) (fun H5 e5 eD => ?_)
    · obtain ⟨rfl, hy⟩ := y1
      obtain ⟨dd, hd1', hd2'⟩ := hld3.get hy
      obtain ⟨x, hx', rfl⟩ := mo_at hd1'
      have hox := G.ok x (G.lat x (List.mem_of_getElem? hx')).1
      have se := e.trans e5
      obtain ⟨c, rfl, hc⟩ := Mo.inv (Mo.same hd2' se)
      refine ⟨rfl, .ref fA, rfl, .int (0 + (i : Nat)), rfl, fA, _, _, .ref c1, rfl, rfl, SqL.of (se _ _ eF3), at_of (j := i) (by omega) hf1, .ref c, rfl, c1, c, foldL L grid[i], x, rfl, se.seqT hc1, hc, by rw [hof.1, hox.1], by rw [hof.1]; omega, fun H7 s7 => k _ _ s7 ?_⟩
      simp [hx']
    · have se := e.trans e5
      refine ⟨.ref sA, rfl, .int (0 + (i : Nat)), rfl, sA, _, _, .ref q0, rfl, rfl, SqL.of (se _ _ esA3), at_of (j := i) (by omega) hq1, bo (later.map (leB (foldL L grid[i]))), bo (later.map (leB grid[i])), Da.dp _ _ (BoL.da ⟨D, rfl, eD⟩), Da.dp _ _ (BoL.da ⟨q0, rfl, se _ _ hq2⟩), shaped_bo _, shaped_bo _, _, rfl, ?_⟩
      rw [eqv_bo]
      have heq : later.map (leB (foldL L grid[i])) = later.map (leB grid[i]) := List.map_congr_left fun x hx => by
        obtain ⟨hxg, l, hl, hle⟩ := G.lat x hx
        have hox := G.ok x hxg
        rw [Bool.eq_iff_iff, leB_iff (by rw [hof.1, hox.1]), leB_iff (by rw [hom.1, hox.1])]
        exact (fold_sees hom.1 hLl hl hle).symm
      exact iteNS heq ⟨_, _, _, _, _, _, rfl, se⟩
  obtain ⟨y6, y7, y9, y10, y11, y12, rfl, e4⟩ := pv'
  -- each two
  refine ⟨.ref ga, rfl, ga, _, rfl, .inl (SqL.of (e4 _ _ hga3)), (gv.length : Nat), rfl, by omega, by omega, ?_⟩
  refine for_range (lo := 0) (n := ((gv.length : Nat) : Int).toNat) (fun i σ H' => ∃ (y6 y7 y9 y10 y11 y12 : Option V), σ = [some (.ref p), some (.ref ga), some (.ref la), some (.int (n : Nat)), some (.int way), some (.ref sA), y6, y7, some (.ref fA), y9, y10, y11, y12] ∧ Same H3 H') ⟨_, _, _, _, _, _, rfl, e4⟩ (fun j σ H' hj pv' => ?_) (fun σ H5 pv' => ?_)
  · obtain ⟨y6, y7, y9, y10, y11, y12, rfl, e⟩ := pv'
    have hj1 : j < grid.length := by omega
    refine ⟨.int (0 + (j : Nat)), rfl, _, _, rfl, rfl, (0 + (j : Nat)) + 1, rfl, by omega, by omega, ?_⟩
    refine for_range (lo := 0) (n := ((0 + ((j : Nat) : Int)) + 1).toNat) (fun i σ H' => ∃ (y6 y7 y9 y11 y12 : Option V), σ = [some (.ref p), some (.ref ga), some (.ref la), some (.int (n : Nat)), some (.int way), some (.ref sA), y6, y7, some (.ref fA), y9, some (.int (0 + (j : Nat))), y11, y12] ∧ Same H3 H') ⟨_, _, _, _, _, rfl, e⟩ (fun k σ H' hk pv' => ?_) (fun σ H5 pv' => ?_)
    · obtain ⟨y6, y7, y9, y11, y12, rfl, e⟩ := pv'
      have hk1 : k < grid.length := by omega
      have oj := G.ok grid[j] (List.getElem_mem hj1)
      have ok := G.ok grid[k] (List.getElem_mem hk1)
      obtain ⟨qj, hqj1, hqj2⟩ := hs3 j grid[j] (by simp [hj1])
      obtain ⟨qk, hqk1, hqk2⟩ := hs3 k grid[k] (by simp [hk1])
      obtain ⟨g1, hg1, hg1m⟩ := DaAll.at (i := j) (d := mo grid[j]) hgd3 (by simp [hj1])
      obtain ⟨g2, hg2, hg2m⟩ := DaAll.at (i := k) (d := mo grid[k]) hgd3 (by simp [hk1])
      refine ⟨.ref sA, rfl, .int (0 + (j : Nat)), rfl, sA, _, _, .ref qj, rfl, rfl, SqL.of (e _ _ esA3), at_of (j := j) (by omega) hqj1, .ref sA, rfl, .int (0 + (k : Nat)), rfl, sA, _, _, .ref qk, rfl, rfl, SqL.of (e _ _ esA3), at_of (j := k) (by omega) hqk1, .ref la, rfl, .ref qj, .ref qk, .ref la, grid[j], grid[k], later, rfl, ⟨qj, rfl, e _ _ hqj2⟩, ⟨qk, rfl, e _ _ hqk2⟩, hl3.same e, by omega, fun H5 dv s5 hd => ?_⟩
      have f5 := e.trans s5
      have hpf := part_first (L := L) (m := []) oj.1 ok.1 hLl (fun x hx => ⟨(G.ok x (G.lat x hx).1).1, (G.lat x hx).2⟩) G.asc (G.cand (List.getElem_mem hj1) (List.getElem_mem hk1))
      refine ⟨.ref p, rfl, .ref ga, rfl, .int (0 + (j : Nat)), rfl, ga, _, _, g1, rfl, rfl, SqL.of (f5 _ _ hga3), at_of (j := j) (by omega) hg1, .ref ga, rfl, .int (0 + (k : Nat)), rfl, ga, _, _, g2, rfl, rfl, SqL.of (f5 _ _ hga3), at_of (j := k) (by omega) hg2, .int way, rfl, .int (0 + (j : Nat)), rfl, _, _, rfl, rfl, .int (0 + (k : Nat)), rfl, _, _, rfl, rfl, .inl ⟨_, rfl, _, _, rfl, rfl, (by show (0:Int) < _; decide), .ref p, g1, g2, _, n, L, grid[j], grid[k], rfl, hF3.same f5, Mo.same hg1m f5, Mo.same hg2m f5, oj, ok, hn4, fun H6 tv s6 ht => ?_⟩⟩
      have f6 := f5.trans s6
      have hto : ToldO K H6 tv n (later.find? (partsB grid[j] grid[k])) := by
        rcases ht with ⟨h1, h2⟩ | ⟨m, h1, h2⟩
        · exact .inl ⟨hpf.1.mp h1, h2⟩
        · have hm := hpf.2 m h2
          exact .inr ⟨m, hm, h1, G.ok m (G.lat m (List.mem_of_find?_eq_some hm)).1⟩
      refine ⟨tv, rfl, dv, rfl, .int (n : Nat), rfl, tv, dv, _, n, later.find? (partsB grid[j] grid[k]), rfl, rfl, hd.same s6, hto, hn4, fun H7 s7 => ⟨true, rfl, iteF ?_⟩⟩
      have f7 := f6.trans s7
      refine ⟨.ref ga, rfl, .ref sA, rfl, .ref fA, rfl, .int (0 + (j : Nat)), rfl, .int (0 + (k : Nat)), rfl, dv, rfl, ga, sA, fA, j, k, dv, .ref qj, sv, n, L, grid, later, grid[j], grid[k], later.find? (partsB grid[j] grid[k]), (by rw [Int.zero_add, Int.zero_add]; rfl), hg3.same f7, f7 _ _ esA3, hqj1, ⟨qj, rfl, f7 _ _ hqj2⟩, hf3.same f7, (hd.same s6).same s7, by simp [hj1], by simp [hk1], oj, ok, hL, hn4, (folds_eq oj.1 ok.1 hLl).trans hpf.1, fun hne z => ?_, fun H8 s8 => ⟨true, rfl, iteF ⟨_, _, _, _, _, rfl, f7.trans s8⟩⟩⟩
      subst z
      obtain ⟨x, hx⟩ := List.exists_mem_of_ne_nil _ hne
      obtain ⟨_, l, hl, _⟩ := G.lat x hx
      simp at hl
    · obtain ⟨y6, y7, y9, y11, y12, rfl, e⟩ := pv'
      exact ⟨_, _, _, _, _, _, rfl, e⟩
  · obtain ⟨y6, y7, y9, y10, y11, y12, rfl, e5⟩ := pv'
    exact q H5 (s03.trans e5)
end
end K4

namespace K4
open PySem PySem.Spec PyProof.Rows L2
theorem leI_lt : ∀ (m x : List Int), lexLeI m x = !HT.lexLt x m
  | [], [] => rfl
  | [], _ :: _ => rfl
  | _ :: _, [] => rfl
  | m :: ms, x :: xs => by
    show (if m = x then lexLeI ms xs else decide (m ≤ x)) = _
    rw [HT.lexLt_cons]
    by_cases e : m = x
    · subst e
      rw [if_pos rfl, if_pos rfl]
      exact leI_lt ms xs
    · rw [if_neg e, if_neg (fun z => e z.symm), Bool.eq_iff_iff]
      simp
theorem lexAt_shift (e r : Nat → Bool) (z : Bool) : ∀ k i, Ob.lexAt e r z (i + 1) k = Ob.lexAt (fun j => e (j + 1)) (fun j => r (j + 1)) z i k
  | 0, _ => rfl
  | k + 1, i => by rw [Ob.lexAt_succ, Ob.lexAt_succ, lexAt_shift e r z k (i + 1)]
theorem lexAt_ints : ∀ ns ms : List Int, Ob.lexAt (fun j => decide (ns.getD j 0 = ms.getD j 0)) (fun j => decide (ns.getD j 0 ≤ ms.getD j 0)) (decide (ns.length ≤ ms.length)) 0 (min ns.length ms.length) = lexLeI ns ms
  | [], [] => rfl
  | [], _ :: _ => by
    rw [show min ([] : List Int).length _ = 0 from by simp, Ob.lexAt_zero]
    simp [lexLeI]
  | _ :: _, [] => by
    rw [show min _ ([] : List Int).length = 0 from by simp, Ob.lexAt_zero]
    simp [lexLeI]
  | n :: ns, m :: ms => by
    rw [show min (n :: ns).length (m :: ms).length = min ns.length ms.length + 1 from by simp [Nat.succ_min_succ], Ob.lexAt_succ, lexAt_shift]
    have ih := lexAt_ints ns ms
    show (if decide (n = m) = true then _ else decide (n ≤ m)) = if n = m then lexLeI ns ms else decide (n ≤ m)
    by_cases e : n = m
    · rw [if_pos (decide_eq_true e), if_pos e, ← ih]
      simp
    · rw [if_neg (by simpa using e), if_neg e]
def spFree (K : PySem.W.Frag) : Sp := fun vs H Q _ => ∃ (g u1 u2 : V) (way : Int) (n : Nat) (gms : List (List Int)) (a b : List Int), vs = [g, u1, u2, .int way] ∧ MoL K H g gms ∧ (∀ m ∈ gms, Ok n m) ∧ gms.length ≤ 60 ∧ Mo K H u1 a ∧ Mo K H u2 b ∧ Ok n a ∧ Ok n b ∧ 1 ≤ n ∧ n ≤ 4 ∧ ∀ H', Same H H' → Q (.bl true) H'
section
variable {P : Program} {w : World} {K : PySem.W.Frag} {mg : Str → Option Value} {base : Heap} {C : Addr}
theorem d_law_free_holds (B : Bt mg) (Cl : Cls K C) (T : Top K mg "_law_free_holds" s_law_free_holds ["given", "one", "mate", "way"]) (D_law_least : Def P w K mg base "_law_least" 2 ["given"] (spLeast K)) (MkFront : MakeD P w K mg base C "Front" 3 ["self", "axes", "moments"] (spInit K C)) (D_law_asked : Def P w K mg base "_law_asked" 3 ["front", "one", "mate", "way"] (spAsked K C)) (D_law_join : Def P w K mg base "_law_join" 1 ["one", "mate"] (spM K joinL)) (D_law_parts : Def P w K mg base "_law_parts" 3 ["least", "one", "mate", "spot"] (spParts K))
    (Mfold : MethD P w K mg base C "fold" 2 ["self", "moment"] (spFold K C)) (D_law_is_moment : Def P w K mg base "_law_is_moment" 2 ["told", "span"] (spIsMoment K)) (Mcontains : MethD P w K mg base C "__contains__" 3 ["self", "x"] (spContains K C)) : Def P w K mg base "_law_free_holds" 5 ["given", "one", "mate", "way"] (spFree K) := by
  refine mk_def T sc_law_free_holds (by rintro _ _ _ _ ⟨_, _, _, _, _, _, _, _, rfl, _⟩; rfl) fun ff cdv A outer s H vs Q E hr h => ?_
  obtain ⟨g, u1, u2, way, n, gms, a, b, rfl, hg, hgo, hgl, h1, h2, oa, ob, hn1, hn4, q⟩ := h
  refine ⟨_, (pss_cons (ps_set (i := 4) sc_law_free_holds.nd rfl (Or.inr rfl) (pe_def D_law_least (hr.mono (by decide)) (by rfl) (pa_cons (pv 0) pa_nil)))
      (pss_cons (ps_set (i := 5) sc_law_free_holds.nd rfl (Or.inl rfl) (pe_makeM MkFront (hr.mono (by decide)) (by rfl) (pa_cons (pe_callB call_len_seq (by rfl) B.m_len PySem.boot_len (pa_cons (pv 1) pa_nil)) (pa_cons (pe_callTy call_list_of (by rfl) B.m_list (by decide +kernel) (pa_cons (pv 0) pa_nil)) pa_nil))))
      (pss_cons (ps_set (i := 6) sc_law_free_holds.nd rfl (Or.inr rfl) (pe_def D_law_asked (hr.mono (by decide)) (by rfl) (pa_cons (pv 5) (pa_cons (pv 1) (pa_cons (pv 2) (pa_cons (pv 3) pa_nil))))))
      (pss_cons (ps_set (i := 7) sc_law_free_holds.nd rfl (Or.inl rfl) (pe_op op_cat (pe_lc (own := [("low", 8)]) (g := (gName 8)) (tt := tYes) (te := (tCall (spM K joinL) [] E0 (tCons (tVar 1) (tCons (tVar 8) tNil)))) rfl sc_law_free_holds.nd (pi_list (pv 4)) (blkOk_by (own := [("low", 8)]) (N := N_law_free_holds) (sc := defScope s_law_free_holds) (by decide +kernel)) (fun _ _ _ _ _ => (pg_name (i := 8) sc_law_free_holds.nd rfl (Or.inl rfl))) (fun _ _ _ _ _ => pts_nil) (fun _ _ _ _ _ => (pe_def D_law_join (hr.mono (by decide)) (by rfl) (pa_cons (pv 1) (pa_cons (pv 8) pa_nil))))) (pe_lc (own := [("low", 8)]) (g := (gName 8)) (tt := tYes) (te := (tCall (spM K joinL) [] E0 (tCons (tVar 2) (tCons (tVar 8) tNil)))) rfl sc_law_free_holds.nd (pi_list (pv 4)) (blkOk_by (own := [("low", 8)]) (N := N_law_free_holds) (sc := defScope s_law_free_holds) (by decide +kernel)) (fun _ _ _ _ _ => (pg_name (i := 8) sc_law_free_holds.nd rfl (Or.inl rfl))) (fun _ _ _ _ _ => pts_nil) (fun _ _ _ _ _ => (pe_def D_law_join (hr.mono (by decide)) (by rfl) (pa_cons (pv 2) (pa_cons (pv 8) pa_nil)))))))
      (pss_cons (ps_setLc (i := 7) (own := [("spot", 9)]) (g := (gName 9)) (tt := (tB (tCall (spParts K) [] E0 (tCons (tVar 4) (tCons (tVar 1) (tCons (tVar 2) (tCons (tVar 9) tNil))))))) (te := (tVar 9)) rfl sc_law_free_holds.nd rfl rfl (sw_true rfl rfl rfl (by decide +kernel)) (pi_list (pv 7)) (blkOk_by (own := [("spot", 9)]) (N := N_law_free_holds) (sc := defScope s_law_free_holds) (by decide +kernel)) (fun _ _ _ _ _ => (pg_name (i := 9) sc_law_free_holds.nd rfl (Or.inl rfl))) (fun _ _ _ _ _ => (pts_one (pt_val (pe_def D_law_parts (hr.mono (by decide)) (by rfl) (pa_cons (pv 4) (pa_cons (pv 1) (pa_cons (pv 2) (pa_cons (pv 9) pa_nil)))))))) (fun _ _ _ _ _ => (pv 9)))
      (pss_cons (ps_if (pt_cmpR op_ne (pe_cmpR (op_eqD (hu64 hr)) (pe_methM (pv 5) Cl Mfold (hr.mono (by decide)) (pa_cons (pv 1) pa_nil)) (pe_methM (pv 5) Cl Mfold (hr.mono (by decide)) (pa_cons (pv 2) pa_nil)) (nomark _)) (pe_cmpR (op_eqD (hu64 hr)) (pv 7) (pe_lst pa_nil) (nomark _)) (nomark _)) (pss_one (ps_ret pe_bl)) pss_nil)
      (pss_cons (ps_if (pt_cmpR (op_eqD (hu64 hr)) (pv 7) (pe_lst pa_nil) (nomark _)) (pss_one (ps_ret (pe_cmpR op_isN (pv 6) pe_non (nomark _)))) pss_nil)
      (pss_cons (ps_if (pw_or (pt_not (pt_val (pe_def D_law_is_moment (hr.mono (by decide)) (by rfl) (pa_cons (pv 6) (pa_cons (pe_callB call_len_seq (by rfl) B.m_len PySem.boot_len (pa_cons (pv 1) pa_nil)) pa_nil))))) (pw_or1 (pt_not (pt_val (pe_def D_law_parts (hr.mono (by decide)) (by rfl) (pa_cons (pv 4) (pa_cons (pv 1) (pa_cons (pv 2) (pa_cons (pv 6) pa_nil))))))))).pt (pss_one (ps_ret pe_bl)) pss_nil)
      (pss_one (ps_ret (pe_and (pe_cmpR (op_inM Mcontains (hr.mono (by decide))) (pv 6) (pv 5) rfl) (pe_one (pe_callB (cr_all rfl) (by rfl) B.m_all (by decide +kernel) (pa_cons (pe_lc (own := [("spot", 9)]) (g := (gName 9)) (tt := tYes) (te := (tOp (rLeT K) (tVar 6) (tVar 9))) rfl sc_law_free_holds.nd (pi_list (pv 7)) (blkOk_by (own := [("spot", 9)]) (N := N_law_free_holds) (sc := defScope s_law_free_holds) (by decide +kernel)) (fun _ _ _ _ _ => (pg_name (i := 9) sc_law_free_holds.nd rfl (Or.inl rfl))) (fun _ _ _ _ _ => pts_nil) (fun _ _ _ _ _ => (pe_cmpR (op_leT (hu0 hr)) (pv 6) (pv 9) (nomark _)))) pa_nil)))))))))))))), ?_⟩
  obtain ⟨a1, rfl, ha1⟩ := h1.trk
  obtain ⟨b1, rfl, hb1⟩ := h2.trk
  refine ⟨g, rfl, g, n, gms, rfl, hg, hgo, hn1, by omega, hgl, fun H1 d0 L s1 nd0 hL0 il => ?_⟩
  have hLo : ∀ l ∈ L, Ok n l := fun l hl => hgo l ((il.mem l).mp hl).1
  have hLl : ∀ l ∈ L, l.length = n := fun l hl => (hLo l hl).1
  have hL60 : L.length ≤ 60 := by
    have h1 : L.Nodup := il.asc.imp fun h e => by subst e; omega
    have h2 := TS_len h1 (fun f hf => ((il.mem f).mp hf).1)
    omega
  obtain ⟨ga, gv, rfl, hga, hgd⟩ := hg.same s1
  refine ⟨.ref a1, rfl, a1, _, rfl, .inr (SqT.of (s1 _ _ ha1)), .ref ga, rfl, ga, gv, rfl, .inl (SqL.of hga), fun c nc => ?_⟩
  have sc : Same H1 (L2.upd H1 c (.lst gv)) := same_upd nc
  refine fun x0 dx0 nx ndx nex => ⟨x0, dx0, n, .ref c, gms, (by rw [List.length_map, oa.1]; rfl), upd_same, hn1, hn4, MoL.same ⟨c, gv, rfl, upd_same, Da.sameAll sc _ _ hgd⟩ (same_two nx ndx), hgo, hgl, fun H2 LF sb hF il' => ⟨rfl, ?_⟩⟩
  obtain rfl : L = LF := il.uniq il'
  have s2 := (s1.trans sc).trans (same_made nx ndx sb)
  have s12 := sc.trans (same_made nx ndx sb)
  obtain ⟨x0', dx, d, lvF, ex, hp, _⟩ := id hF
  cases ex
  refine ⟨.ref x0, rfl, .ref a1, rfl, .ref b1, rfl, .int way, rfl, .ref x0, .ref a1, .ref b1, way, n, L, a, b, rfl, hF, h1.same s2, h2.same s2, oa, ob, hn4, fun H3 tv s3 ht => ?_⟩
  have s03 := s2.trans s3
  obtain ⟨d0', lv, ed, hld, hldd⟩ := id ((hL0.same s12).same s3)
  cases ed
  have ll : lv.length = L.length := by simpa using hldd.length
  -- joins
  refine ⟨.ref d0, rfl, d0, rfl, ⟨_, SqL.of hld⟩, fun I1 hI1 => ?_⟩
  refine lc_dat (K := K) walk_list hI1 (by omega) (fun H5 e5 => SqL.of (e5 _ _ hld)) ((L.map (joinL a)).map mo) (by simp [ll]) (imm_mos _) (fun k x3 H5 H5' Q' hk e5 y3' kk => ?_) (fun H4 j1 e4 eI1 dI1 => ?_)
  · obtain ⟨rfl, hy⟩ := y3'
    obtain ⟨dd, hd1, hd2⟩ := hldd.get hy
    obtain ⟨l, hl, rfl⟩ := mo_at hd1
    obtain ⟨z, rfl, hz⟩ := Mo.inv (Mo.same hd2 e5)
    have hol := hLo l (List.mem_of_getElem? hl)
    refine ⟨rfl, .ref a1, rfl, .ref z, rfl, a1, z, a, l, rfl, SqT.of (e5 _ _ (s03 _ _ ha1)), hz, by rw [oa.1, hol.1], by rw [oa.1]; omega, fun H6 z s6 nz ez => kk _ _ (mo (joinL a l)) s6 ?_ (Mo.of ez)⟩
    simp [hl]
  have s04 := s03.trans e4
  refine ⟨.ref d0, rfl, d0, rfl, ⟨_, SqL.of (e4 _ _ hld)⟩, fun I2 hI2 => ?_⟩
  refine lc_dat (K := K) walk_list hI2 (by omega) (fun H5 e5 => SqL.of (e5 _ _ (e4 _ _ hld))) ((L.map (joinL b)).map mo) (by simp [ll]) (imm_mos _) (fun k x3 H5 H5' Q' hk e5 y3' kk => ?_) (fun H5 j2 e5 eI2 dI2 => ?_)
  · obtain ⟨rfl, hy⟩ := y3'
    obtain ⟨dd, hd1, hd2⟩ := hldd.get hy
    obtain ⟨l, hl, rfl⟩ := mo_at hd1
    obtain ⟨z, rfl, hz⟩ := Mo.inv (Mo.same hd2 (e4.trans e5))
    have hol := hLo l (List.mem_of_getElem? hl)
    refine ⟨rfl, .ref b1, rfl, .ref z, rfl, b1, z, b, l, rfl, SqT.of (e5 _ _ (s04 _ _ hb1)), hz, by rw [ob.1, hol.1], by rw [ob.1]; omega, fun H6 z s6 nz ez => kk _ _ (mo (joinL b l)) s6 ?_ (Mo.of ez)⟩
    simp [hl]
  have l1 : j1.length = L.length := by simpa using dI1.length
  have l2 : j2.length = L.length := by simpa using dI2.length
  refine ⟨I1, I2, j1, j2, rfl, rfl, e5 _ _ eI1, eI2, sz1000 (by omega), fun J hJ => ?_⟩
  have s05 := s04.trans e5
  have sJ : Same H5 (L2.upd H5 J (.lst (j1 ++ j2))) := same_upd hJ
  have eJ : L2.upd H5 J (.lst (j1 ++ j2)) J = some (.lst (j1 ++ j2)) := upd_same
  have dJ : DaAll K (L2.upd H5 J (.lst (j1 ++ j2))) (j1 ++ j2) ((jnsL L a b).map mo) := by
    unfold jnsL
    rw [List.map_append]
    exact DaAll.append (Da.sameAll sJ _ _ dI2) (Da.sameAll (e5.trans sJ) _ _ dI1)
  have s06 := s05.trans sJ
  have sx : Same H3 (L2.upd H5 J (.lst (j1 ++ j2))) := (e4.trans e5).trans sJ
  generalize L2.upd H5 J (.lst (j1 ++ j2)) = H6 at sJ eJ dJ s06 sx ⊢
  obtain ⟨jv, hjv⟩ : ∃ jv, jv = j1 ++ j2 := ⟨_, rfl⟩
  rw [← hjv] at eJ dJ
  have lJ : jv.length = (jnsL L a b).length := by simpa using dJ.length
  have hJl : (jnsL L a b).length ≤ 200 := by unfold jnsL; simp; omega
  have hJm : ∀ x ∈ jnsL L a b, Ok n x ∧ ∃ l ∈ L, Le l x := fun x hx => by
    unfold jnsL at hx
    rcases List.mem_append.mp hx with h | h
    · obtain ⟨l, hl, rfl⟩ := List.mem_map.mp h
      exact ⟨oa.join (hLo l hl), l, hl, le_joinR (by rw [oa.1, hLl l hl])⟩
    · obtain ⟨l, hl, rfl⟩ := List.mem_map.mp h
      exact ⟨ob.join (hLo l hl), l, hl, le_joinR (by rw [ob.1, hLl l hl])⟩
  have hany : ∀ x ∈ jnsL L a b, (L.any fun l => leB l x) = true := fun x hx => by
    obtain ⟨ox, l, hl, hle⟩ := hJm x hx
    exact List.any_eq_true.mpr ⟨l, hl, (leB_iff (by rw [hLl l hl, ox.1])).mpr hle⟩
  refine ⟨.ref J, rfl, J, rfl, ⟨_, SqL.of eJ⟩, fun D hD => ?_⟩
  refine lc_val_if (walk_list (K := K)) hD (by omega) (fun H1 e1 => SqL.of (e1 _ _ eJ)) (fun i => partsB a b ((jnsL L a b).getD i [])) (fun i => jv.getD i .non) (fun i x H7 H8 Q' R hi e1 y1 k1 k2 => ?_) (fun H7 e7 eD => ?_)
  · obtain ⟨rfl, hy⟩ := y1
    obtain ⟨dd, hd1, hd2⟩ := dJ.get hy
    obtain ⟨x0', hx0, rfl⟩ := mo_at hd1
    have hxm := List.mem_of_getElem? hx0
    have eg : (jnsL L a b).getD i [] = x0' := by rw [List.getD_eq_getElem?_getD, hx0]; rfl
    have ev : jv.getD i .non = x := by rw [List.getD_eq_getElem?_getD, hy]; rfl
    have f3 := s06.trans e1
    refine ⟨rfl, .ref d0, rfl, .ref a1, rfl, .ref b1, rfl, x, rfl, .ref d0, .ref a1, .ref b1, x, n, L, a, b, x0', rfl, (((hL0.same s12).same s3).same sx).same e1, h1.same f3, h2.same f3, Mo.same hd2 e1, hLo, oa, ob, (hJm x0' hxm).1, hn4, by omega, fun H9 s9 => ⟨_, rfl, ?_⟩⟩
    rw [hany x0' hxm, Bool.true_and]
    rw [eg, ev] at k1
    rw [eg] at k2
    exact ite2 (fun z => ⟨x, rfl, k1 H9 z s9⟩) (fun z => k2 H9 (by simpa using z) s9)
  have hli : ∀ i ∈ (List.range jv.length).filter (fun i => partsB a b ((jnsL L a b).getD i [])), i < (jnsL L a b).length := fun i hi => by
    have := List.mem_range.mp (List.mem_filter.mp hi).1
    omega
  have dl := das_idx (Da.sameAll e7 _ _ dJ) _ hli
  have hms : ((List.range jv.length).filter (fun i => partsB a b ((jnsL L a b).getD i []))).map (fun i => (jnsL L a b).getD i []) = candL L a b := by
    rw [lJ]
    exact filt_idx _
  rw [hms] at dl
  have s07 := s06.trans e7
  have sx7 := sx.trans e7
  have hD7 : MoL K H7 (.ref D) (candL L a b) := ⟨D, _, rfl, eD, dl⟩
  have hF7 := (hF.same s3).same sx7
  have hp7 := sx7 _ _ (s3 _ _ hp)
  have fe := folds_eq (L := L) oa.1 ob.1 hLl
  refine ⟨.ref x0, rfl, x0, dx, _, rfl, hp7, frF_no n d (by decide +kernel) (by decide +kernel), .ref a1, rfl, .ref x0, .ref a1, n, L, a, rfl, hF7, h1.same s07, oa, hn1, hn4, fun H8 y8 s8 hy8 => ?_⟩
  have s08 := s07.trans s8
  refine ⟨.ref x0, rfl, x0, dx, _, rfl, s8 _ _ hp7, frF_no n d (by decide +kernel) (by decide +kernel), .ref b1, rfl, .ref x0, .ref b1, n, L, b, rfl, hF7.same s8, h2.same s08, ob, hn1, hn4, fun H9 y9 s9 hy9 => ?_⟩
  have s79 := s8.trans s9
  refine ⟨mo (foldL L a), mo (foldL L b), Da.dp _ _ (hy8.same s9), Da.dp _ _ hy9, shaped_mo _, shaped_mo _, .ref D, rfl, Nat.zero_le _, fun z hz => ?_⟩
  have s7z := s79.trans (same_upd (o := .lst []) hz)
  refine ⟨.list ((candL L a b).map mo), .list [], Da.dp _ _ (hD7.same s7z).da, Da.dp _ _ (.lst (SqL.of upd_same) .nil), shaped_mos _, by decide, rfl, _, rfl, ?_⟩
  rw [show PyData.eqv (.list ((candL L a b).map mo)) (.list []) = decide (candL L a b = []) from eqv_mos (candL L a b) [], eqv_mo]
  have hde : decide (foldL L a = foldL L b) = decide (candL L a b = []) := by
    rw [Bool.eq_iff_iff, decide_eq_true_iff, decide_eq_true_iff]
    exact fe
  rw [hde]
  refine iteNS rfl ?_
  refine ⟨.ref D, rfl, Nat.zero_le _, fun z2 hz2 => ?_⟩
  have s7y := s7z.trans (same_upd (o := .lst []) hz2)
  refine ⟨.list ((candL L a b).map mo), .list [], Da.dp _ _ (hD7.same s7y).da, Da.dp _ _ (.lst (SqL.of upd_same) .nil), shaped_mos _, by decide, _, rfl, ?_⟩
  rw [show PyData.eqv (.list ((candL L a b).map mo)) (.list []) = decide (candL L a b = []) from eqv_mos (candL L a b) []]
  have s0y := s07.trans s7y
  rcases ht with ⟨hc, rfl⟩ | ⟨m, hm, hpart⟩
  · rw [hc]
    exact iteT ⟨.non, rfl, rfl, (by show Q (.bl (decide (V.non = V.non))) _; rw [decide_eq_true rfl]; exact q _ s0y)⟩
  · have hne : ¬ candL L a b = [] := fun z => by
      have := hpart.1
      rw [z] at this
      simp at this
    rw [decide_eq_false hne]
    have hmj : m ∈ jnsL L a b := (List.mem_filter.mp hpart.1).1
    have hmp : partsB a b m = true := (List.mem_filter.mp hpart.1).2
    obtain ⟨om, l, hl, hle⟩ := hJm m hmj
    have hm7 := hm.same (sx7.trans s7y)
    refine iteF ⟨tv, rfl, .ref a1, rfl, a1, _, rfl, .inr (SqT.of (s0y _ _ ha1)), tv, m, (by rw [List.length_map, oa.1, om.1]; rfl), hm7, om.pos, by rw [om.1]; omega, fun H10 s10 => ⟨true, rfl, iteF ?_⟩⟩
    have s7a := s7y.trans s10
    have s0a := s0y.trans s10
    refine ⟨.ref d0, rfl, .ref a1, rfl, .ref b1, rfl, tv, rfl, .ref d0, .ref a1, .ref b1, tv, n, L, a, b, m, rfl, (((hL0.same s12).same s3).same sx7).same s7a, h1.same s0a, h2.same s0a, hm7.same s10, hLo, oa, ob, om, hn4, by omega, fun H11 s11 => ⟨_, rfl, ?_⟩⟩
    rw [hany m hmj, hmp]
    refine iteF ?_
    have s7b := s7a.trans s11
    have hm11 := (hm7.same s10).same s11
    refine ⟨tv, rfl, .ref x0, rfl, x0, dx, _, rfl, s7b _ _ hp7, .ref x0, tv, n, L, m, rfl, hF7.same s7b, hm11, om, hn4, ⟨l, hl, hle⟩, fun H12 s12' => ⟨true, rfl, true, rfl, iteT ?_⟩⟩
    have s7c := s7b.trans s12'
    obtain ⟨t1, rfl, ht1⟩ := (hm11.same s12').inv
    obtain ⟨D', Dv, eD', hDa, hDd⟩ := hD7.same s7c
    cases eD'
    have lD : Dv.length = (candL L a b).length := by simpa using hDd.length
    have hcl : (candL L a b).length ≤ 200 := Nat.le_trans (List.length_filter_le _ _) hJl
    refine ⟨.ref D, rfl, D, rfl, ⟨_, SqL.of hDa⟩, fun D2 hD2 => ?_⟩
    refine lc_val (walk_list (K := K)) hD2 (by omega) (fun H13 e13 => SqL.of (e13 _ _ hDa)) (List.replicate Dv.length (V.bl true)) (by simp) (fun j y H13 H14 Q' hj e13 y1 k => ?_) (fun H13 e13 eD2 => ?_)
    · obtain ⟨rfl, hy⟩ := y1
      obtain ⟨dd, hd1, hd2⟩ := hDd.get hy
      obtain ⟨x, hx, rfl⟩ := mo_at hd1
      obtain ⟨xc, rfl, hxc⟩ := Mo.inv (Mo.same hd2 e13)
      have hxm := List.mem_of_getElem? hx
      refine ⟨rfl, .ref t1, rfl, .ref xc, rfl, t1, xc, m, x, rfl, rfl, e13.seqT ht1, hxc, k _ _ (Same.refl _) ?_⟩
      rw [lexAt_ints m x]
      rw [leI_lt, hpart.2 x hxm, List.getElem?_replicate, if_pos hj]
      rfl
    · refine ⟨D2, List.replicate Dv.length true, rfl, SqL.of (by rw [eD2, List.map_replicate]), ?_⟩
      rw [show (List.replicate Dv.length true).all id = true by simp]
      exact q H13 ((s07.trans s7c).trans e13)
end
end K4

namespace K4
open PySem PySem.Spec PyProof.Rows L2
/-- behind each there is a minimal one -/
theorem min_below {n : Nat} {ms L : List (List Int)} (h : IsL ms L) (ho : ∀ m ∈ ms, Ok n m) : Adv L ms := by
  have key : ∀ (k : Nat) (x : List Int), x ∈ ms → (TS.code BB x).toNat ≤ k → ∃ l ∈ L, Le l x := by
    intro k
    induction k with
    | zero =>
      intro x hx hk
      by_cases hmin : ∀ y ∈ ms, leB y x = true → y = x
      · exact ⟨x, (h.mem x).mpr ⟨hx, hmin⟩, Le.refl x⟩
      · exfalso
        apply hmin
        intro y hy e
        have hle := (leB_iff (by rw [(ho y hy).1, (ho x hx).1])).mp e
        have c1 := code_le hle (ho y hy).2 (ho x hx).2
        have c0 := (TS.code_bd _ (ho y hy).2).1
        have c2 := (TS.code_bd _ (ho x hx).2).1
        exact code_inj (by rw [(ho y hy).1, (ho x hx).1]) (ho y hy).2 (ho x hx).2 (by omega)
    | succ k ih =>
      intro x hx hk
      by_cases hmin : ∀ y ∈ ms, leB y x = true → y = x
      · exact ⟨x, (h.mem x).mpr ⟨hx, hmin⟩, Le.refl x⟩
      · simp only [Classical.not_forall] at hmin
        obtain ⟨y, hy, e, hne⟩ := hmin
        have hle := (leB_iff (by rw [(ho y hy).1, (ho x hx).1])).mp e
        have c1 := code_le hle (ho y hy).2 (ho x hx).2
        have c0 := (TS.code_bd _ (ho y hy).2).1
        have c3 : TS.code BB y ≠ TS.code BB x := fun e' => hne (code_inj (by rw [(ho y hy).1, (ho x hx).1]) (ho y hy).2 (ho x hx).2 e')
        obtain ⟨l, hl, hl2⟩ := ih y hy (by omega)
        exact ⟨l, hl, hl2.trans hle⟩
  exact fun x hx => key _ x hx (Nat.le_refl _)
def cutL (m : List Int) (lo hi : Option Int) : List Int := (m.drop (HT.sIx m.length 0 lo)).take (HT.sIx m.length m.length hi - HT.sIx m.length 0 lo)
theorem cutV_ints (m : List Int) (lo hi : Option Int) : cutV (m.map V.int) lo hi = (cutL m lo hi).map V.int := by
  unfold cutV cutL
  rw [List.length_map, List.map_take, List.map_drop]
theorem slMo {K : PySem.W.Frag} {H : Hp} {x : V} {m : List Int} {lo hi : Option Int} {Q : VK} (h : Mo K H x m) (k : ∀ v H', Same H H' → Mo K H' v (cutL m lo hi) → Q v H') : rSlA K x lo hi H Q := by
  obtain ⟨a, rfl, ha⟩ := h.trk
  refine ⟨a, _, rfl, SqT.of ha, fun e => ?_, fun _ p hp => ?_⟩
  · rw [List.length_map] at e
    refine k _ H (Same.refl _) ?_
    have : cutL m lo hi = m := by
      unfold cutL
      rw [e.1, e.2]
      simp
    rw [this]
    exact h
  · refine k _ _ (same_upd hp) (Mo.of ?_)
    rw [upd_same, cutV_ints]
theorem catMo {K : PySem.W.Frag} {H : Hp} {x y : V} {a b : List Int} {Q : VK} (hx : Mo K H x a) (hy : Mo K H y b) (hl : a.length + b.length ≤ 1000) (k : ∀ v H', Same H H' → Mo K H' v (a ++ b) → Q v H') : rCatA K x y H Q := by
  obtain ⟨p, rfl, hp⟩ := hx.trk
  obtain ⟨q, rfl, hq⟩ := hy.trk
  refine ⟨p, q, _, _, rfl, rfl, SqT.of hp, SqT.of hq, sz1000 (by simp; omega), fun e => ?_, fun _ e => ?_, fun _ _ c hc => ?_⟩
  · have : a = [] := by simpa using e
    subst this
    exact k _ _ (Same.refl _) hy
  · have : b = [] := by simpa using e
    subst this
    refine k _ _ (Same.refl _) ?_
    rw [List.append_nil]
    exact hx
  · refine k _ _ (same_upd hc) (Mo.of ?_)
    rw [upd_same, List.map_append]
section
variable {P : Program} {w : World} {K : PySem.W.Frag} {mg : Str → Option Value} {base : Heap} {C : Addr}
def spLaw (K : PySem.W.Frag) : Sp := fun vs H Q _ => ∃ (a : Addr) (ns : List Int), vs = [.ref a] ∧ SqL K H a (ns.map V.int) ∧ ns.length ≤ 63 ∧ ∀ H', Q (.bl true) H'
theorem d_law (B : Bt mg) (Cl : Cls K C) (T : Top K mg "law" slaw ["script"]) (D_law_pot : Def P w K mg base "_law_pot" 1 ["script"] (spPot K)) (D_law_draw : Def P w K mg base "_law_draw" 1 ["pot", "size"] (spDraw K)) (D_law_levels : Def P w K mg base "_law_levels" 3 ["pot", "many"] (spLevels K)) (D_law_grid : Def P w K mg base "_law_grid" 1 ["levels"] (spGrid K))
    (MkFront : MakeD P w K mg base C "Front" 3 ["self", "axes", "moments"] (spInit K C)) (D_law_is_open : Def P w K mg base "_law_is_open" 2 ["least", "one"] (spIsOpen K)) (D_law_grid_holds : Def P w K mg base "_law_grid_holds" 4 ["front", "grid", "later_ones", "span", "way"] (spGridHolds K C)) (D_law_moment : Def P w K mg base "_law_moment" 4 ["pot", "span"] (spMoment K)) (D_law_free_holds : Def P w K mg base "_law_free_holds" 5 ["given", "one", "mate", "way"] (spFree K)) :
    Def P w K mg base "law" 6 ["script"] (spLaw K) := by
  refine mk_def T sclaw (by rintro _ _ _ _ ⟨_, _, rfl, _⟩; rfl) fun ff cdv A outer s H vs Q E hr h => ?_
  obtain ⟨a, ns, rfl, hS, hns, q⟩ := h
  refine ⟨_, (pss_cons (ps_set (i := 1) sclaw.nd rfl (Or.inr rfl) (pe_def D_law_pot (hr.mono (by decide)) (by rfl) (pa_cons (pv 0) pa_nil)))
      (pss_cons (ps_set (i := 2) sclaw.nd rfl (Or.inr rfl) (pe_op op_add pe_int (pe_def D_law_draw (hr.mono (by decide)) (by rfl) (pa_cons (pv 1) (pa_cons pe_int pa_nil)))))
      (pss_cons (ps_set (i := 3) sclaw.nd rfl (Or.inr rfl) (pe_def D_law_grid (hr.mono (by decide)) (by rfl) (pa_cons (pe_lc (own := [("k", 4)]) (g := (gName 4)) (tt := tYes) (te := (tCall (spLevels K) [] E0 (tCons (tVar 1) (tCons (tOp (rIxL K) (tLst (tCons (tC (.int 6)) (tCons (tC (.int 4)) (tCons (tC (.int 3)) (tCons (tC (.int 2)) tNil))))) (tOp ySub (tVar 2) (tC (.int 1)))) tNil)))) rfl sclaw.nd (pi_range1 (by rfl) B.m_range (pa_cons (pv 2) pa_nil)) (blkOk_by (own := [("k", 4)]) (N := Nlaw) (sc := defScope slaw) (by decide +kernel)) (fun _ _ _ _ _ => (pg_name (i := 4) sclaw.nd rfl (Or.inl rfl))) (fun _ _ _ _ _ => pts_nil) (fun _ _ _ _ _ => (pe_def D_law_levels (hr.mono (by decide)) (by rfl) (pa_cons (pv 1) (pa_cons (pe_ix ix_list (pe_lst (pa_cons pe_int (pa_cons pe_int (pa_cons pe_int (pa_cons pe_int pa_nil))))) (pe_op op_sub (pv 2) pe_int) (fun _ _ => rfl)) pa_nil))))) pa_nil)))
      (pss_cons (ps_set (i := 5) sclaw.nd rfl (Or.inr rfl) (pe_lc (own := [("k", 4)]) (g := (gName 4)) (tt := tYes) (te := (tOp (rIxL K) (tVar 3) (tCall (spDraw K) [] E0 (tCons (tVar 1) (tCons (tCB (yLen K) (tCons (tVar 3) tNil)) tNil))))) rfl sclaw.nd (pi_range1 (by rfl) B.m_range (pa_cons (pe_def D_law_draw (hr.mono (by decide)) (by rfl) (pa_cons (pv 1) (pa_cons pe_int pa_nil))) pa_nil)) (blkOk_by (own := [("k", 4)]) (N := Nlaw) (sc := defScope slaw) (by decide +kernel)) (fun _ _ _ _ _ => (pg_name (i := 4) sclaw.nd rfl (Or.inl rfl))) (fun _ _ _ _ _ => pts_nil) (fun _ _ _ _ _ => (pe_ix ix_list (pv 3) (pe_def D_law_draw (hr.mono (by decide)) (by rfl) (pa_cons (pv 1) (pa_cons (pe_callB call_len_seq (by rfl) B.m_len PySem.boot_len (pa_cons (pv 3) pa_nil)) pa_nil))) (fun _ _ => rfl)))))
      (pss_cons (ps_set (i := 6) sclaw.nd rfl (Or.inl rfl) (pe_def D_law_draw (hr.mono (by decide)) (by rfl) (pa_cons (pv 1) (pa_cons pe_int pa_nil))))
      (pss_cons (ps_set (i := 7) sclaw.nd rfl (Or.inl rfl) (pe_makeM MkFront (hr.mono (by decide)) (by rfl) (pa_cons (pv 2) (pa_cons (pe_callTy call_list_of (by rfl) B.m_list (by decide +kernel) (pa_cons (pv 5) pa_nil)) pa_nil))))
      (pss_cons (ps_setLc (i := 8) (own := [("one", 9)]) (g := (gName 9)) (tt := (tB (tCall (spIsOpen K) [] E0 (tCons (tVar 5) (tCons (tVar 9) tNil))))) (te := (tVar 9)) rfl sclaw.nd rfl rfl (sw_true rfl rfl rfl (by decide +kernel)) (pi_list (pv 3)) (blkOk_by (own := [("one", 9)]) (N := Nlaw) (sc := defScope slaw) (by decide +kernel)) (fun _ _ _ _ _ => (pg_name (i := 9) sclaw.nd rfl (Or.inl rfl))) (fun _ _ _ _ _ => (pts_one (pt_val (pe_def D_law_is_open (hr.mono (by decide)) (by rfl) (pa_cons (pv 5) (pa_cons (pv 9) pa_nil)))))) (fun _ _ _ _ _ => (pv 9)))
      (pss_cons (ps_if (pt_not (pt_val (pe_def D_law_grid_holds (hr.mono (by decide)) (by rfl) (pa_cons (pv 7) (pa_cons (pv 3) (pa_cons (pv 8) (pa_cons (pv 2) (pa_cons (pv 6) pa_nil)))))))) (pss_one (ps_ret pe_bl)) pss_nil)
      (pss_cons (ps_setLc (i := 10) (own := [("k", 4)]) (g := (gName 4)) (tt := tYes) (te := (tCall (spMoment K) [] E0 (tCons (tVar 1) (tCons (tVar 2) tNil)))) rfl sclaw.nd rfl rfl (sw_true rfl rfl rfl (by decide +kernel)) (pi_range1 (by rfl) B.m_range (pa_cons (pe_def D_law_draw (hr.mono (by decide)) (by rfl) (pa_cons (pv 1) (pa_cons pe_int pa_nil))) pa_nil)) (blkOk_by (own := [("k", 4)]) (N := Nlaw) (sc := defScope slaw) (by decide +kernel)) (fun _ _ _ _ _ => (pg_name (i := 4) sclaw.nd rfl (Or.inl rfl))) (fun _ _ _ _ _ => pts_nil) (fun _ _ _ _ _ => (pe_def D_law_moment (hr.mono (by decide)) (by rfl) (pa_cons (pv 1) (pa_cons (pv 2) pa_nil)))))
      (pss_cons (ps_set (i := 9) sclaw.nd rfl (Or.inl rfl) (pe_def D_law_moment (hr.mono (by decide)) (by rfl) (pa_cons (pv 1) (pa_cons (pv 2) pa_nil))))
      (pss_cons (ps_set (i := 11) sclaw.nd rfl (Or.inl rfl) (pe_def D_law_moment (hr.mono (by decide)) (by rfl) (pa_cons (pv 1) (pa_cons (pv 2) pa_nil))))
      (pss_cons (ps_set (i := 12) sclaw.nd rfl (Or.inl rfl) (pe_def D_law_draw (hr.mono (by decide)) (by rfl) (pa_cons (pv 1) (pa_cons (pv 2) pa_nil))))
      (Evl.pss_cut (ps_if (pt_cmpR op_eq (pe_def D_law_draw (hr.mono (by decide)) (by rfl) (pa_cons (pv 1) (pa_cons pe_int pa_nil))) pe_int (nomark _)) (pss_one (ps_set (i := 11) sclaw.nd rfl (Or.inl rfl) (pe_op op_catA (pe_op op_catA (pe_slice sl_tupA (pv 9) po_none (po_some (pv 12))) (pe_tup (pa_cons (pe_ix ix_tup (pv 11) (pv 12) (fun _ _ => rfl)) pa_nil))) (pe_slice sl_tupA (pv 9) (po_some (pe_op op_add (pv 12) pe_int)) po_none)))) pss_nil)
      (pss_one (ps_ret (pe_and (pe_def D_law_free_holds (hr.mono (by decide)) (by rfl) (pa_cons (pv 10) (pa_cons (pv 9) (pa_cons (pv 11) (pa_cons (pv 6) pa_nil))))) (pe_one (pe_def D_law_free_holds (hr.mono (by decide)) (by rfl) (pa_cons (pv 10) (pa_cons (pv 11) (pa_cons (pv 9) (pa_cons (pv 6) pa_nil)))))))))))))))))))))), ?_⟩
  -- pot, span
  refine ⟨.ref a, rfl, a, ns, rfl, hS, fun H1 p s1 np pt1 => ?_⟩
  refine ⟨.ref p, rfl, p, 4, rfl, pt1, by decide, by decide, fun H2 r s2 pt2 r0 r4 => ⟨_, _, rfl, rfl, ?_⟩⟩
  obtain ⟨n, hnv⟩ : ∃ n : Nat, (1 + r) = (n : Int) := ⟨(1 + r).toNat, by omega⟩
  have hn1 : 1 ≤ n := by omega
  have hn4 : n ≤ 4 := by omega
  -- the levels
  refine ⟨.int (1 + r), rfl, (1 + r), rfl, by omega, by omega, fun Db hDb => ?_⟩
  have npDb := pt2.ne hDb
  refine lc_it (walk_range (lo := 0) (n := (1 + r).toNat)) (fun i H' => SameB p H2 H' ∧ PotAt H' p ∧ ∃ (acc : List V) (rows : List (List Int)), H' Db = some (.lst acc) ∧ acc.length = rows.length ∧ rows.length = i ∧ (∀ r ∈ rows, r.length = cap n ∧ TS.Bd GH r ∧ r.Pairwise (· < ·)) ∧ ∀ (j : Nat) (r : List Int), rows[j]? = some r → ∃ qa : Addr, acc[j]? = some (V.ref qa) ∧ qa ≠ Db ∧ qa ≠ p ∧ H' qa = some (.lst (r.map V.int)))
    ⟨Same.b (same_upd hDb), pt2.upd npDb, [], [], upd_same, rfl, rfl, fun r hr => by simp at hr, fun j r hj => by simp at hj⟩ (fun i H' _ _ => True.intro) (fun i x H' H'' hi pv' y => ?_) (fun H3 pv' => ?_)
  · obtain ⟨rfl, rfl⟩ := y
    obtain ⟨e1, pt3, acc, rows, eb, hl0, hl, hrows, hat⟩ := pv'
    refine ⟨rfl, .ref p, rfl, by show 4 ≤ sizeLine; decide, fun l hl2 => ⟨.int (1 + r), rfl, _, _, rfl, rfl, l, _, (1 + r) - 1, _, rfl, rfl, SqL.of upd_same, (by rw [hnv]; exact cap_at hn1 hn4), p, cap n, rfl, pt3.upd (pt3.ne hl2), (cap_bd n).1, by have := (cap_bd n).2; omega, fun H5 qa r' s5 pt5 nqa eqa hlr hbr hpr => ?_⟩⟩
    have sA : SameB p H'' H5 := (Same.b (same_upd hl2)).trans s5
    have eb5 := sA _ _ npDb.symm eb
    have eb' : L2.upd H'' l (.lst [V.int 6, .int 4, .int 3, .int 2]) Db = some (.lst acc) := same_upd hl2 _ _ eb
    have nqD : qa ≠ Db := (ne_of_none eb' nqa).symm
    have nqp : qa ≠ p := fun z => by
      subst z
      obtain ⟨o, ho⟩ := (pt3.same (same_upd hl2)).there
      rw [nqa] at ho
      cases ho
    refine ⟨acc, eb5, ?_, (e1.trans sA).mut hDb, pt5.upd npDb, acc ++ [.ref qa], rows ++ [r'], upd_same, by simp [hl0], by simp [hl], fun z hz => ?_, fun j z hj => ?_⟩
    · rw [hl0, hl]
      exact Nat.lt_of_lt_of_le hi (Nat.le_trans (show (1 + r).toNat ≤ 4 by omega) (by decide))
    · rcases List.mem_append.mp hz with hz | hz
      · exact hrows z hz
      · rw [List.mem_singleton.mp hz]
        exact ⟨hlr, hbr, hpr⟩
    · by_cases hj' : j < rows.length
      · rw [List.getElem?_append_left hj'] at hj
        obtain ⟨qb, h1, h2, h3, h4⟩ := hat j z hj
        exact ⟨qb, by rw [List.getElem?_append_left (by omega)]; exact h1, h2, h3, by rw [upd_ne h2]; exact sA _ _ h3 h4⟩
      · rw [List.getElem?_append_right (by omega)] at hj
        have hj0 : j - rows.length = 0 := by
          have := (List.getElem?_eq_some_iff.mp hj).1
          simp at this
          omega
        rw [hj0] at hj
        have hz : r' = z := by simpa using hj
        subst hz
        refine ⟨qa, ?_, nqD, nqp, by rw [upd_ne nqD]; exact eqa⟩
        rw [List.getElem?_append_right (by omega), hl0, hj0]
        rfl
  obtain ⟨e3, pt3, acc, rows, eb, hl0, hl, hrows, hat⟩ := pv'
  have hl4 : rows.length = n := by omega
  have hcap : ∀ z ∈ rows, z.length ≤ 6 := fun z hz => by
    rw [(hrows z hz).1]
    exact (cap_bd n).2
  have hgl : ∀ rs : List (List Int), (∀ z ∈ rs, z.length ≤ 6) → rs.length ≤ 4 → (gridL rs).length ≤ 1296 := fun rs h1 h2 => by
    refine Nat.le_trans (gf_len rs [[]] h1) ?_
    rw [List.length_singleton, Nat.one_mul]
    exact Nat.le_trans (Nat.pow_le_pow_right (by decide) h2) (by decide)
  have dDb : Da K H3 (.ref Db) (.list (rows.map li)) := .lst (SqL.of eb) (das_li hl0 fun j z hj => by
    obtain ⟨qb, h1, _, _, h4⟩ := hat j z hj
    exact ⟨qb, h1, h4⟩)
  -- the grid
  refine ⟨Db, rows, rfl, dDb, by omega, fun i => Nat.le_trans (hgl (rows.take i) (fun z hz => hcap z (List.mem_of_mem_take hz)) (by rw [List.length_take]; omega)) (by decide), fun z hz => Nat.le_trans (hcap z hz) (by decide), fun H4 gA gv s4 ngA egA dgA => ?_⟩
  obtain ⟨grid, hgrid⟩ : ∃ grid, grid = gridL rows := ⟨_, rfl⟩
  rw [← hgrid] at dgA
  have hgA : MoL K H4 (.ref gA) grid := ⟨gA, gv, rfl, egA, dgA⟩
  have hgsm : ∀ m ∈ grid, Sm n m := fun m hm => by
    rw [hgrid] at hm
    exact ⟨by rw [gridL_len rows.length rows rfl m hm, hl4], gf_bd rows [[]] (fun x hx => by rw [List.mem_singleton.mp hx]; exact fun c hc => by simp at hc) (fun z hz => (hrows z hz).2.1) m hm⟩
  have hglen : grid.length ≤ 1296 := by
    rw [hgrid]
    exact hgl rows hcap (by omega)
  have hgne : grid ≠ [] := by
    rw [hgrid]
    exact List.length_pos_iff.mp (gf_pos rows [[]] (by decide) fun z hz => by rw [(hrows z hz).1]; have := (cap_bd n).1; omega)
  have pt4 := pt3.same s4
  -- given
  have hgasc : LexAsc grid := by
    rw [hgrid]
    exact grid_asc fun z hz => (hrows z hz).2.2
  have hgjn : JClosed grid := by
    rw [hgrid]
    exact grid_join rows
  have hgok : ∀ m ∈ grid, Ok n m := fun m hm => (hgsm m hm).ok
  refine ⟨.ref p, rfl, p, 5, rfl, pt4, by decide, by decide, fun H5 many s5 pt5 m0 m7 => ⟨many, rfl, by omega, by omega, fun Dg hDg => ?_⟩⟩
  have hgA5 := hgA.sameB s5 pt4
  have npDg := pt5.ne hDg
  refine lc_it (walk_range (lo := 0) (n := many.toNat)) (fun i H' => SameB p H5 H' ∧ PotAt H' p ∧ ∃ (gms : List (List Int)), MoL K H' (.ref Dg) gms ∧ gms.length = i ∧ ∀ m ∈ gms, m ∈ grid)
    ⟨Same.b (same_upd hDg), pt5.upd npDg, [], ⟨Dg, [], rfl, upd_same, .nil⟩, rfl, fun m hm => by simp at hm⟩ (fun i H' _ _ => True.intro) (fun i x H' H'' hi pv' y => ?_) (fun H6 pv' => ?_)
  · obtain ⟨rfl, rfl⟩ := y
    obtain ⟨e1, pt6, gms, hG, hl, hin⟩ := pv'
    have hg1 := hgA5.sameB e1 pt5
    obtain ⟨ga', lv', ea', ha1, hd1⟩ := id hg1
    cases ea'
    have ll : lv'.length = grid.length := by simpa using hd1.length
    have hpos : 0 < grid.length := List.length_pos_iff.mpr hgne
    refine ⟨rfl, .ref gA, rfl, .ref p, rfl, .ref gA, rfl, gA, _, rfl, .inl (SqL.of ha1), p, (lv'.length : Nat), rfl, pt6, by omega, by omega, fun H7 r2 s7 pt7 r02 r12 => ?_⟩
    obtain ⟨ga2, lv2, ea2, ha2, hd2⟩ := id (hg1.sameB s7 pt6)
    cases ea2
    have ll2 : lv2.length = grid.length := by simpa using hd2.length
    have hlt2 : r2.toNat < lv2.length := by omega
    obtain ⟨dd, h1, h2⟩ := hd2.get (i := r2.toNat) (v := lv2[r2.toNat]) (by simp [hlt2])
    obtain ⟨m, hm, rfl⟩ := mo_at h1
    refine ⟨gA, lv2, r2, lv2[r2.toNat], rfl, rfl, SqL.of ha2, at_of (j := r2.toNat) (by omega) (by simp [hlt2]), ?_⟩
    obtain ⟨Dg', lv, eD, h3, h4⟩ := hG.sameB s7 pt6
    cases eD
    have lv1 : lv.length = gms.length := by simpa using h4.length
    have st : ST K H7 (L2.upd H7 Dg (.lst (lv ++ [lv2[r2.toNat]]))) := st_upd h3 True.intro
    refine ⟨lv, h3, ?_, (e1.trans s7).mut hDg, pt7.upd npDg, gms ++ [m], ⟨Dg, _, rfl, upd_same, ?_⟩, by simp [hl], fun z hz => ?_⟩
    · rw [lv1, hl]
      exact Nat.lt_of_lt_of_le hi (Nat.le_trans (show many.toNat ≤ 7 by omega) (by decide))
    · rw [List.map_append]
      exact DaAll.snoc (Da.st st _ _ (imm_mo _) h2) (Da.stAll st _ _ (imm_mos _) h4)
    · rcases List.mem_append.mp hz with hz | hz
      · exact hin z hz
      · rw [List.mem_singleton.mp hz]
        exact List.mem_of_getElem? hm
  obtain ⟨e6, pt6, gms, hG, hGl, hGin⟩ := pv'
  have hGok : ∀ m ∈ gms, Ok n m := fun m hm => hgok m (hGin m hm)
  have hA6 := hgA5.sameB e6 pt5
  refine ⟨.ref p, rfl, p, 4, rfl, pt6, by decide, by decide, fun H7 way s7 pt7 w0 w4 => ?_⟩
  have hA7 := hA6.sameB s7 pt6
  obtain ⟨Dg', gv7, eD, hG7a, hG7b⟩ := id (hG.sameB s7 pt6)
  cases eD
  refine ⟨.int (1 + r), rfl, .ref Dg, rfl, Dg, gv7, rfl, .inl (SqL.of hG7a), fun c nc => ?_⟩
  have sc : Same H7 (L2.upd H7 c (.lst gv7)) := same_upd nc
  refine fun x0 dx0 nx ndx nex => ⟨x0, dx0, n, .ref c, gms, (by rw [← hnv]; rfl), upd_same, hn1, hn4, MoL.same ⟨c, gv7, rfl, upd_same, Da.sameAll sc _ _ hG7b⟩ (same_two nx ndx), hGok, by omega, fun H8 L sb hF il => ⟨rfl, ?_⟩⟩
  have s8 := sc.trans (same_made nx ndx sb)
  have pt8 := pt7.same s8
  have hA8 := hA7.same s8
  have hG8 : MoL K H8 (.ref Dg) gms := MoL.same ⟨Dg, gv7, rfl, hG7a, hG7b⟩ s8
  -- later_ones
  obtain ⟨gA', gv8, eg8, hA8a, hA8b⟩ := id hA8
  cases eg8
  have lg8 : gv8.length = grid.length := by simpa using hA8b.length
  refine ⟨.ref gA, rfl, gA, rfl, ⟨_, SqL.of hA8a⟩, fun Dl hDl => ?_⟩
  refine lc_val_if (walk_list (K := K)) hDl (by omega) (fun H1 e1 => SqL.of (e1 _ _ hA8a)) (fun i => gms.any fun l => leB l (grid.getD i [])) (fun i => gv8.getD i .non) (fun i x H1 H2 Q' R hi e1 y1 k1 k2 => ?_) (fun H9 e9 eDl => ?_)
  · obtain ⟨rfl, hy⟩ := y1
    obtain ⟨dd, hd1, hd2⟩ := hA8b.get hy
    obtain ⟨xm, hxm, rfl⟩ := mo_at hd1
    have eg : grid.getD i [] = xm := by rw [List.getD_eq_getElem?_getD, hxm]; rfl
    have ev : gv8.getD i .non = x := by rw [List.getD_eq_getElem?_getD, hy]; rfl
    refine ⟨rfl, .ref Dg, rfl, x, rfl, .ref Dg, x, n, gms, xm, rfl, hG8.same e1, Mo.same hd2 e1, hGok, hgok xm (List.mem_of_getElem? hxm), by omega, by omega, fun H3 s3 => ⟨_, rfl, ?_⟩⟩
    rw [← eg]
    refine ite2 (fun zz => ?_) (fun zz => k2 H3 (by simpa using zz) s3)
    have h1 := k1 H3 zz s3
    rw [ev] at h1
    exact ⟨x, rfl, h1⟩
  have hli : ∀ i ∈ (List.range gv8.length).filter (fun i => gms.any fun l => leB l (grid.getD i [])), i < grid.length := fun i hi => by
    have := List.mem_range.mp (List.mem_filter.mp hi).1
    omega
  have dl := das_idx (Da.sameAll e9 _ _ hA8b) _ hli
  have hms : ((List.range gv8.length).filter (fun i => gms.any fun l => leB l (grid.getD i []))).map (fun i => grid.getD i []) = grid.filter fun x => gms.any fun l => leB l x := by
    rw [lg8]
    exact filt_idx (fun x => gms.any fun l => leB l x)
  rw [hms] at dl
  obtain ⟨later, hlater⟩ : ∃ later, later = grid.filter fun x => gms.any fun l => leB l x := ⟨_, rfl⟩
  rw [← hlater] at dl
  have pt9 := pt8.same e9
  have hll : later.length ≤ 1296 := by
    rw [hlater]
    exact Nat.le_trans (List.length_filter_le _ _) hglen
  have G : GridOk n L grid later := by
    refine ⟨hgok, fun l hl => hGin l ((il.mem l).mp hl).1, fun x hx => ?_, fun x hx ⟨l, hl, hle⟩ => ?_, ?_, hgjn⟩
    · rw [hlater] at hx
      obtain ⟨h1, h2⟩ := List.mem_filter.mp hx
      obtain ⟨g, hg, hgx⟩ := List.any_eq_true.mp h2
      obtain ⟨l, hl, hle⟩ := min_below il hGok g hg
      exact ⟨h1, l, hl, hle.trans ((leB_iff (by rw [(hGok g hg).1, (hgok x h1).1])).mp hgx)⟩
    · rw [hlater]
      have hlg := ((il.mem l).mp hl).1
      exact List.mem_filter.mpr ⟨hx, List.any_eq_true.mpr ⟨l, hlg, (leB_iff (by rw [(hGok l hlg).1, (hgok x hx).1])).mpr hle⟩⟩
    · rw [hlater]
      exact List.Pairwise.filter _ hgasc
  refine ⟨.ref x0, rfl, .ref gA, rfl, .ref Dl, rfl, .int (1 + r), rfl, .int way, rfl, .ref x0, .ref gA, .ref Dl, (1 + r), way, n, L, grid, later, rfl, hnv, hF.same e9, hA8.same e9, ⟨Dl, _, rfl, eDl, dl⟩, G, hn1, hn4, by omega, by omega, w0, by omega, fun H10 s10 => ⟨true, rfl, iteF ?_⟩⟩
  have pt10 := pt9.same s10
  -- free
  refine ⟨.ref p, rfl, p, 7, rfl, pt10, by decide, by decide, fun H11 mf s11 pt11 f0 f7 => ⟨mf, rfl, by omega, by omega, fun Df hDf => ?_⟩⟩
  have npDf := pt11.ne hDf
  refine lc_it (walk_range (lo := 0) (n := mf.toNat)) (fun i H' => SameB p H11 H' ∧ PotAt H' p ∧ ∃ (gms : List (List Int)), MoL K H' (.ref Df) gms ∧ gms.length = i ∧ ∀ m ∈ gms, Ok n m)
    ⟨Same.b (same_upd hDf), pt11.upd npDf, [], ⟨Df, [], rfl, upd_same, .nil⟩, rfl, fun m hm => by simp at hm⟩ (fun i H' _ _ => True.intro) (fun i x H' H'' hi pv' y => ?_) (fun H12 pv' => ?_)
  · obtain ⟨rfl, rfl⟩ := y
    obtain ⟨e1, ptf, fms, hf, hl, hfo⟩ := pv'
    refine ⟨rfl, .ref p, rfl, .int (1 + r), rfl, p, n, (1 + r), rfl, hnv, ptf, hn4, fun H13 y m s13 pt13 ny hy hm => ?_⟩
    obtain ⟨Df', lv, eD, h1, h2⟩ := hf.sameB s13 ptf
    cases eD
    have lv1 : lv.length = fms.length := by simpa using h2.length
    have st : ST K H13 (L2.upd H13 Df (.lst (lv ++ [.ref y]))) := st_upd h1 True.intro
    refine ⟨lv, h1, ?_, (e1.trans s13).mut hDf, pt13.upd npDf, fms ++ [m], ⟨Df, _, rfl, upd_same, ?_⟩, by simp [hl], fun z hz => ?_⟩
    · rw [lv1, hl]
      exact Nat.lt_of_lt_of_le hi (Nat.le_trans (show mf.toNat ≤ 7 by omega) (by decide))
    · rw [List.map_append]
      exact DaAll.snoc (Da.st st _ _ (imm_mo _) hy) (Da.stAll st _ _ (imm_mos _) h2)
    · rcases List.mem_append.mp hz with hz | hz
      · exact hfo z hz
      · rw [List.mem_singleton.mp hz]
        exact hm
  obtain ⟨e12, pt12, fms, hf, hfl, hfo⟩ := pv'
  -- one, mate
  refine ⟨.ref p, rfl, .int (1 + r), rfl, p, n, (1 + r), rfl, hnv, pt12, hn4, fun H13 o1 m1 s13 pt13 no1 ho1 hm1 => ?_⟩
  refine ⟨.ref p, rfl, .int (1 + r), rfl, p, n, (1 + r), rfl, hnv, pt13, hn4, fun H14 o2 m2 s14 pt14 no2 ho2 hm2 => ?_⟩
  refine ⟨.ref p, rfl, .int (1 + r), rfl, p, (1 + r), rfl, pt14, by omega, by omega, fun H15 place s15 pt15 pl0 pl1 => ?_⟩
  have hf15 := ((hf.sameB s13 pt12).sameB s14 pt13).sameB s15 pt14
  have ho1' := Mo.sameB (Mo.sameB ho1 s14 pt13) s15 pt14
  have ho2' := Mo.sameB ho2 s15 pt14
  refine ⟨fun σ H' => ∃ (y4 y12 : Option V) (v5 v6 v7 v8 v11 : V) (m : List Int), σ = [some (.ref a), some (.ref p), some (.int (1 + r)), some (.ref gA), y4, some v5, some (.int way), some v7, some v8, some (.ref o1), some (.ref Df), some v11, y12] ∧ MoL K H' (.ref Df) fms ∧ Mo K H' (.ref o1) m1 ∧ Mo K H' v11 m ∧ Ok n m, ?_, ?_⟩
  · refine ⟨.ref p, rfl, p, 3, rfl, pt15, by decide, by decide, fun H16 r3 s16 pt16 r30 r33 => ⟨rfl, _, rfl, ite2 (fun z => ?_) (fun z => ?_)⟩⟩
    · have o1s := Mo.sameB ho1' s16 pt15
      have o2s := Mo.sameB ho2' s16 pt15
      have hfs := hf15.sameB s16 pt15
      have l1 : m1.length = n := hm1.1
      have l2 : m2.length = n := hm2.1
      have hpn : place.toNat < n := by omega
      have c1 : cutL m1 none (some place) = m1.take place.toNat := by
        unfold cutL
        simp only [HT.sIx, List.drop_zero, Nat.sub_zero]
        rw [if_neg (by omega), Nat.min_eq_left (by omega)]
      have c2 : cutL m1 (some (place + 1)) none = m1.drop (place.toNat + 1) := by
        unfold cutL
        simp only [HT.sIx]
        rw [if_neg (by omega), Nat.min_eq_left (by omega), show (place + 1).toNat = place.toNat + 1 by omega, List.take_of_length_le (by rw [List.length_drop]; omega)]
      obtain ⟨o2', eo2, ho2t⟩ := o2s.inv
      cases eo2
      have hx2 : m2[place.toNat]? = some (m2[place.toNat]'(by omega)) := List.getElem?_eq_getElem (by omega)
      refine ⟨.ref o1, rfl, .int place, rfl, place, rfl, slMo o1s fun v1 H17 s17 hv1 => ?_⟩
      refine ⟨.ref o2, rfl, .int place, rfl, o2, _, _, .int (m2[place.toNat]'(by omega)), rfl, rfl, s17.seqT ho2t, at_of (j := place.toNat) (by omega) (by rw [List.getElem?_map, hx2]; rfl), by show 1 ≤ sizeLine; decide, fun t ht => ?_⟩
      rw [c1] at hv1
      refine catMo (hv1.same (same_upd ht)) (Mo.of (m := [m2[place.toNat]'(by omega)]) upd_same) (by simp; omega) fun v2 H18 s18 hv2 => ?_
      have f18 := (s17.trans (same_upd ht)).trans s18
      refine ⟨.ref o1, rfl, .int place, rfl, _, _, rfl, rfl, place + 1, rfl, ?_⟩
      delta tNoPart
      refine slMo (o1s.same f18) fun v3 H19 s19 hv3 => ?_
      rw [c2] at hv3
      refine catMo (hv2.same s19) hv3 (by simp; omega) fun v4 H20 s20 hv4 => ?_
      have f20 := (f18.trans s19).trans s20
      refine ⟨_, _, _, .non, _, _, v4, _, rfl, hfs.same f20, o1s.same f20, hv4, by simp; omega, fun c hc => ?_⟩
      rcases List.mem_append.mp hc with hc | hc
      · rcases List.mem_append.mp hc with hc | hc
        · exact hm1.2 c (List.mem_of_mem_take hc)
        · rw [List.mem_singleton.mp hc]
          exact hm2.2 _ (List.getElem_mem (by omega))
      · exact hm1.2 c (List.mem_of_mem_drop hc)
    · exact ⟨_, _, _, .non, _, _, _, m2, rfl, hf15.sameB s16 pt15, Mo.sameB ho1' s16 pt15, Mo.sameB ho2' s16 pt15, hm2⟩
  · rintro σ H16 ⟨y4, y12, v5, v6, v7, v8, v11, m, rfl, hf16, ho16, hv11, hm⟩
    refine ⟨.ref Df, rfl, .ref o1, rfl, v11, rfl, .int way, rfl, .ref Df, .ref o1, v11, way, n, fms, m1, m, rfl, hf16, hfo, by omega, ho16, hv11, hm1, hm, hn1, hn4, fun H17 s17 => ⟨true, rfl, iteT ?_⟩⟩
    exact ⟨.ref Df, rfl, v11, rfl, .ref o1, rfl, .int way, rfl, .ref Df, v11, .ref o1, way, n, fms, m, m1, rfl, hf16.same s17, hfo, by omega, hv11.same s17, ho16.same s17, hm, hm1, hn1, hn4, fun H18 s18 => q H18⟩
end
end K4

namespace K4
open PySem PySem.Spec PyProof.Rows L2
theorem kwA_rel : ∀ {vs : List V} {us : List Value} {zs : List V} {ws : List Value}, Vals vs us → Vals zs ws → Vals (kwA vs zs) (kwA us ws)
  | _, _, _, _, .nil, _ => .nil
  | _, _, _, _, .cons r .nil, .cons r1 (.cons r2 .nil) => .cons r (.cons r1 (.cons r2 .nil))
  | _, _, _, _, .cons r .nil, .nil => .nil
  | _, _, _, _, .cons r .nil, .cons _ .nil => .nil
  | _, _, _, _, .cons r .nil, .cons _ (.cons _ (.cons _ _)) => .nil
  | _, _, _, _, .cons _ (.cons _ _), _ => .nil
theorem kwB_rel : ∀ {vs : List V} {us : List Value} {zs : List V} {ws : List Value}, Vals vs us → Vals zs ws → Vals (kwB vs zs) (kwB us ws)
  | _, _, _, _, .nil, _ => .nil
  | _, _, _, _, .cons r .nil, .cons r1 (.cons r2 .nil) => .cons r (.cons r2 (.cons r1 .nil))
  | _, _, _, _, .cons r .nil, .nil => .nil
  | _, _, _, _, .cons r .nil, .cons _ .nil => .nil
  | _, _, _, _, .cons r .nil, .cons _ (.cons _ (.cons _ _)) => .nil
  | _, _, _, _, .cons _ (.cons _ _), _ => .nil
theorem kwA_binds {K : PySem.W.Frag} {fd : FuncData} {a b c : Str} (h : ∀ (s : Shared) (u w z : Value), K.In s.heap → BindsTo s fd ⟨[u], [(b, w), (c, z)]⟩ [(a, u), (b, w), (c, z)]) : KBinds K fd [a, b, c] [b, c] kwA kwA :=
  ⟨(fun s us ws X hl => match us, ws, hl with
    | [u], [w, z], _ => h s u w z X
    | [], _, hl => nomatch hl
    | [_], [], hl => nomatch hl
    | [_], [_], hl => nomatch hl
    | [_], _ :: _ :: _ :: _, hl => nomatch hl
    | _ :: _ :: _, _, hl => nomatch hl), kwA_rel⟩
theorem kwB_binds {K : PySem.W.Frag} {fd : FuncData} {a b c : Str} (h : ∀ (s : Shared) (u w z : Value), K.In s.heap → BindsTo s fd ⟨[u], [(c, w), (b, z)]⟩ [(a, u), (b, z), (c, w)]) : KBinds K fd [a, b, c] [c, b] kwB kwB :=
  ⟨(fun s us ws X hl => match us, ws, hl with
    | [u], [w, z], _ => h s u w z X
    | [], _, hl => nomatch hl
    | [_], [], hl => nomatch hl
    | [_], [_], hl => nomatch hl
    | [_], _ :: _ :: _ :: _, hl => nomatch hl
    | _ :: _ :: _, _, hl => nomatch hl), kwB_rel⟩
end K4

namespace K4
open PySem PySem.Spec PyProof.Rows L2
section
theorem all_mk {l : PySem.W.OpenLaw} {w : World} {K : PySem.W.Frag} {h : Heap} {mg : Str → Option Value} {fa C f0 f1 f2 f3 f4 f5 f6 f7 f8 f9 f10 f11 f12 f13 f14 f15 f16 f17 f18 f19 f20 f21 f22 f23 f24 f25 f26 f27 f28 f29 f30 f31 f32 f33 : Addr} {gt0 : Tok} (X : K.In h) (G : h.Ns mainGlobals mg) (hfa : mg "law" = some (.ref fa))
    {od0 an0 : Option Addr} {sl0 : Array (Option Value)} {oc0 kV0 dc0 pm0 cd0 ct0 : Value}
    {od1 an1 : Option Addr} {sl1 : Array (Option Value)} {oc1 kV1 dc1 pm1 cd1 ct1 : Value}
    {od2 an2 : Option Addr} {sl2 : Array (Option Value)} {oc2 kV2 dc2 pm2 cd2 ct2 : Value}
    {od3 an3 : Option Addr} {sl3 : Array (Option Value)} {oc3 kV3 dc3 pm3 cd3 ct3 : Value}
    {od4 an4 : Option Addr} {sl4 : Array (Option Value)} {oc4 kV4 dc4 pm4 cd4 ct4 : Value}
    {od5 an5 : Option Addr} {sl5 : Array (Option Value)} {oc5 kV5 dc5 pm5 cd5 ct5 : Value}
    {od6 an6 : Option Addr} {sl6 : Array (Option Value)} {oc6 kV6 dc6 pm6 cd6 ct6 : Value}
    {od7 an7 : Option Addr} {sl7 : Array (Option Value)} {oc7 kV7 dc7 pm7 cd7 ct7 : Value}
    {od8 an8 : Option Addr} {sl8 : Array (Option Value)} {oc8 kV8 dc8 pm8 cd8 ct8 : Value}
    {od9 an9 : Option Addr} {sl9 : Array (Option Value)} {oc9 kV9 dc9 pm9 cd9 ct9 : Value}
    {od10 an10 : Option Addr} {sl10 : Array (Option Value)} {oc10 kV10 dc10 pm10 cd10 ct10 : Value}
    {od11 an11 : Option Addr} {sl11 : Array (Option Value)} {oc11 kV11 dc11 pm11 cd11 ct11 : Value}
    {od12 an12 : Option Addr} {sl12 : Array (Option Value)} {oc12 kV12 dc12 pm12 cd12 ct12 : Value}
    {od13 an13 : Option Addr} {sl13 : Array (Option Value)} {oc13 kV13 dc13 pm13 cd13 ct13 : Value}
    {od14 an14 : Option Addr} {sl14 : Array (Option Value)} {oc14 kV14 dc14 pm14 cd14 ct14 : Value}
    {od15 an15 : Option Addr} {sl15 : Array (Option Value)} {oc15 kV15 dc15 pm15 cd15 ct15 : Value}
    {od16 an16 : Option Addr} {sl16 : Array (Option Value)} {oc16 kV16 dc16 pm16 cd16 ct16 : Value}
    {od17 an17 : Option Addr} {sl17 : Array (Option Value)} {oc17 kV17 dc17 pm17 cd17 ct17 : Value}
    {od18 an18 : Option Addr} {sl18 : Array (Option Value)} {oc18 kV18 dc18 pm18 cd18 ct18 : Value}
    {od19 an19 : Option Addr} {sl19 : Array (Option Value)} {oc19 kV19 dc19 pm19 cd19 ct19 : Value}
    {od20 an20 : Option Addr} {sl20 : Array (Option Value)} {oc20 kV20 dc20 pm20 cd20 ct20 : Value}
    {od21 an21 : Option Addr} {sl21 : Array (Option Value)} {oc21 kV21 dc21 pm21 cd21 ct21 : Value}
    {od22 an22 : Option Addr} {sl22 : Array (Option Value)} {oc22 kV22 dc22 pm22 cd22 ct22 : Value}
    {od23 an23 : Option Addr} {sl23 : Array (Option Value)} {oc23 kV23 dc23 pm23 cd23 ct23 : Value}
    {od24 an24 : Option Addr} {sl24 : Array (Option Value)} {oc24 kV24 dc24 pm24 cd24 ct24 : Value}
    {od25 an25 : Option Addr} {sl25 : Array (Option Value)} {oc25 kV25 dc25 pm25 cd25 ct25 : Value}
    {od26 an26 : Option Addr} {sl26 : Array (Option Value)} {oc26 kV26 dc26 pm26 cd26 ct26 : Value}
    {od27 an27 : Option Addr} {sl27 : Array (Option Value)} {oc27 kV27 dc27 pm27 cd27 ct27 : Value}
    {od28 an28 : Option Addr} {sl28 : Array (Option Value)} {oc28 kV28 dc28 pm28 cd28 ct28 : Value}
    {od29 an29 : Option Addr} {sl29 : Array (Option Value)} {oc29 kV29 dc29 pm29 cd29 ct29 : Value}
    {od30 an30 : Option Addr} {sl30 : Array (Option Value)} {oc30 kV30 dc30 pm30 cd30 ct30 : Value}
    {od31 an31 : Option Addr} {sl31 : Array (Option Value)} {oc31 kV31 dc31 pm31 cd31 ct31 : Value}
    {od32 an32 : Option Addr} {sl32 : Array (Option Value)} {oc32 kV32 dc32 pm32 cd32 ct32 : Value}
    {od33 an33 : Option Addr} {sl33 : Array (Option Value)} {oc33 kV33 dc33 pm33 cd33 ct33 : Value}
    (aC : PySem.W.nsIn K mainGlobals "Front" = some (some (.ref C)))
    (a0 : PySem.W.nsIn K mainGlobals "is_number" = some (some (.ref f0))) (l0 : K.lookup f0 = some ⟨oc0, od0, .func (PySem.W.fnOf "is_number" "is_number" (defArgs sis_number) (defBody sis_number) (defScope sis_number) .none kV0 dc0 pm0 an0 cd0 ct0), sl0⟩) (c0 : PySem.W.codeIn K cd0 "is_number" = true) (k0 : PySem.W.keepIn K (.ref f0) = true)
    (a1 : PySem.W.nsIn K mainGlobals "check_axes" = some (some (.ref f1))) (l1 : K.lookup f1 = some ⟨oc1, od1, .func (PySem.W.fnOf "check_axes" "check_axes" (defArgs scheck_axes) (defBody scheck_axes) (defScope scheck_axes) .none kV1 dc1 pm1 an1 cd1 ct1), sl1⟩) (c1 : PySem.W.codeIn K cd1 "check_axes" = true) (k1 : PySem.W.keepIn K (.ref f1) = true)
    (a2 : PySem.W.nsIn K mainGlobals "check_like_axes" = some (some (.ref f2))) (l2 : K.lookup f2 = some ⟨oc2, od2, .func (PySem.W.fnOf "check_like_axes" "check_like_axes" (defArgs scheck_like_axes) (defBody scheck_like_axes) (defScope scheck_like_axes) .none kV2 dc2 pm2 an2 cd2 ct2), sl2⟩) (c2 : PySem.W.codeIn K cd2 "check_like_axes" = true) (k2 : PySem.W.keepIn K (.ref f2) = true)
    (a3 : PySem.W.nsIn K mainGlobals "is_moment" = some (some (.ref f3))) (l3 : K.lookup f3 = some ⟨oc3, od3, .func (PySem.W.fnOf "is_moment" "is_moment" (defArgs sis_moment) (defBody sis_moment) (defScope sis_moment) .none kV3 dc3 pm3 an3 cd3 ct3), sl3⟩) (c3 : PySem.W.codeIn K cd3 "is_moment" = true) (k3 : PySem.W.keepIn K (.ref f3) = true)
    (a4 : PySem.W.nsIn K mainGlobals "before" = some (some (.ref f4))) (l4 : K.lookup f4 = some ⟨oc4, od4, .func (PySem.W.fnOf "before" "before" (defArgs sbefore) (defBody sbefore) (defScope sbefore) .none kV4 dc4 pm4 an4 cd4 ct4), sl4⟩) (c4 : PySem.W.codeIn K cd4 "before" = true) (k4 : PySem.W.keepIn K (.ref f4) = true)
    (a5 : PySem.W.nsIn K mainGlobals "join_of" = some (some (.ref f5))) (l5 : K.lookup f5 = some ⟨oc5, od5, .func (PySem.W.fnOf "join_of" "join_of" (defArgs sjoin_of) (defBody sjoin_of) (defScope sjoin_of) .none kV5 dc5 pm5 an5 cd5 ct5), sl5⟩) (c5 : PySem.W.codeIn K cd5 "join_of" = true) (k5 : PySem.W.keepIn K (.ref f5) = true)
    (a6 : PySem.W.nsIn K mainGlobals "meet_of" = some (some (.ref f6))) (l6 : K.lookup f6 = some ⟨oc6, od6, .func (PySem.W.fnOf "meet_of" "meet_of" (defArgs smeet_of) (defBody smeet_of) (defScope smeet_of) .none kV6 dc6 pm6 an6 cd6 ct6), sl6⟩) (c6 : PySem.W.codeIn K cd6 "meet_of" = true) (k6 : PySem.W.keepIn K (.ref f6) = true)
    (a7 : PySem.W.nsIn K mainGlobals "minimal" = some (some (.ref f7))) (l7 : K.lookup f7 = some ⟨oc7, od7, .func (PySem.W.fnOf "minimal" "minimal" (defArgs sminimal) (defBody sminimal) (defScope sminimal) .none kV7 dc7 pm7 an7 cd7 ct7), sl7⟩) (c7 : PySem.W.codeIn K cd7 "minimal" = true) (k7 : PySem.W.keepIn K (.ref f7) = true)
    (a8 : PySem.W.nsIn K mainGlobals "_law_pot" = some (some (.ref f8))) (l8 : K.lookup f8 = some ⟨oc8, od8, .func (PySem.W.fnOf "_law_pot" "_law_pot" (defArgs s_law_pot) (defBody s_law_pot) (defScope s_law_pot) .none kV8 dc8 pm8 an8 cd8 ct8), sl8⟩) (c8 : PySem.W.codeIn K cd8 "_law_pot" = true) (k8 : PySem.W.keepIn K (.ref f8) = true)
    (a9 : PySem.W.nsIn K mainGlobals "_law_draw" = some (some (.ref f9))) (l9 : K.lookup f9 = some ⟨oc9, od9, .func (PySem.W.fnOf "_law_draw" "_law_draw" (defArgs s_law_draw) (defBody s_law_draw) (defScope s_law_draw) .none kV9 dc9 pm9 an9 cd9 ct9), sl9⟩) (c9 : PySem.W.codeIn K cd9 "_law_draw" = true) (k9 : PySem.W.keepIn K (.ref f9) = true)
    (a10 : PySem.W.nsIn K mainGlobals "_law_great" = some (some (.ref f10))) (l10 : K.lookup f10 = some ⟨oc10, od10, .func (PySem.W.fnOf "_law_great" "_law_great" (defArgs s_law_great) (defBody s_law_great) (defScope s_law_great) .none kV10 dc10 pm10 an10 cd10 ct10), sl10⟩) (c10 : PySem.W.codeIn K cd10 "_law_great" = true) (k10 : PySem.W.keepIn K (.ref f10) = true)
    (a11 : PySem.W.nsIn K mainGlobals "_law_levels" = some (some (.ref f11))) (l11 : K.lookup f11 = some ⟨oc11, od11, .func (PySem.W.fnOf "_law_levels" "_law_levels" (defArgs s_law_levels) (defBody s_law_levels) (defScope s_law_levels) .none kV11 dc11 pm11 an11 cd11 ct11), sl11⟩) (c11 : PySem.W.codeIn K cd11 "_law_levels" = true) (k11 : PySem.W.keepIn K (.ref f11) = true)
    (a12 : PySem.W.nsIn K mainGlobals "_law_grid" = some (some (.ref f12))) (l12 : K.lookup f12 = some ⟨oc12, od12, .func (PySem.W.fnOf "_law_grid" "_law_grid" (defArgs s_law_grid) (defBody s_law_grid) (defScope s_law_grid) .none kV12 dc12 pm12 an12 cd12 ct12), sl12⟩) (c12 : PySem.W.codeIn K cd12 "_law_grid" = true) (k12 : PySem.W.keepIn K (.ref f12) = true)
    (a13 : PySem.W.nsIn K mainGlobals "_law_is_integer" = some (some (.ref f13))) (l13 : K.lookup f13 = some ⟨oc13, od13, .func (PySem.W.fnOf "_law_is_integer" "_law_is_integer" (defArgs s_law_is_integer) (defBody s_law_is_integer) (defScope s_law_is_integer) .none kV13 dc13 pm13 an13 cd13 ct13), sl13⟩) (c13 : PySem.W.codeIn K cd13 "_law_is_integer" = true) (k13 : PySem.W.keepIn K (.ref f13) = true)
    (a14 : PySem.W.nsIn K mainGlobals "_law_is_moment" = some (some (.ref f14))) (l14 : K.lookup f14 = some ⟨oc14, od14, .func (PySem.W.fnOf "_law_is_moment" "_law_is_moment" (defArgs s_law_is_moment) (defBody s_law_is_moment) (defScope s_law_is_moment) .none kV14 dc14 pm14 an14 cd14 ct14), sl14⟩) (c14 : PySem.W.codeIn K cd14 "_law_is_moment" = true) (k14 : PySem.W.keepIn K (.ref f14) = true)
    (a15 : PySem.W.nsIn K mainGlobals "_law_are_moments" = some (some (.ref f15))) (l15 : K.lookup f15 = some ⟨oc15, od15, .func (PySem.W.fnOf "_law_are_moments" "_law_are_moments" (defArgs s_law_are_moments) (defBody s_law_are_moments) (defScope s_law_are_moments) .none kV15 dc15 pm15 an15 cd15 ct15), sl15⟩) (c15 : PySem.W.codeIn K cd15 "_law_are_moments" = true) (k15 : PySem.W.keepIn K (.ref f15) = true)
    (a16 : PySem.W.nsIn K mainGlobals "_law_before" = some (some (.ref f16))) (l16 : K.lookup f16 = some ⟨oc16, od16, .func (PySem.W.fnOf "_law_before" "_law_before" (defArgs s_law_before) (defBody s_law_before) (defScope s_law_before) .none kV16 dc16 pm16 an16 cd16 ct16), sl16⟩) (c16 : PySem.W.codeIn K cd16 "_law_before" = true) (k16 : PySem.W.keepIn K (.ref f16) = true)
    (a17 : PySem.W.nsIn K mainGlobals "_law_join" = some (some (.ref f17))) (l17 : K.lookup f17 = some ⟨oc17, od17, .func (PySem.W.fnOf "_law_join" "_law_join" (defArgs s_law_join) (defBody s_law_join) (defScope s_law_join) .none kV17 dc17 pm17 an17 cd17 ct17), sl17⟩) (c17 : PySem.W.codeIn K cd17 "_law_join" = true) (k17 : PySem.W.keepIn K (.ref f17) = true)
    (a18 : PySem.W.nsIn K mainGlobals "_law_least" = some (some (.ref f18))) (l18 : K.lookup f18 = some ⟨oc18, od18, .func (PySem.W.fnOf "_law_least" "_law_least" (defArgs s_law_least) (defBody s_law_least) (defScope s_law_least) .none kV18 dc18 pm18 an18 cd18 ct18), sl18⟩) (c18 : PySem.W.codeIn K cd18 "_law_least" = true) (k18 : PySem.W.keepIn K (.ref f18) = true)
    (a19 : PySem.W.nsIn K mainGlobals "_law_is_open" = some (some (.ref f19))) (l19 : K.lookup f19 = some ⟨oc19, od19, .func (PySem.W.fnOf "_law_is_open" "_law_is_open" (defArgs s_law_is_open) (defBody s_law_is_open) (defScope s_law_is_open) .none kV19 dc19 pm19 an19 cd19 ct19), sl19⟩) (c19 : PySem.W.codeIn K cd19 "_law_is_open" = true) (k19 : PySem.W.keepIn K (.ref f19) = true)
    (a20 : PySem.W.nsIn K mainGlobals "_law_coordinate" = some (some (.ref f20))) (l20 : K.lookup f20 = some ⟨oc20, od20, .func (PySem.W.fnOf "_law_coordinate" "_law_coordinate" (defArgs s_law_coordinate) (defBody s_law_coordinate) (defScope s_law_coordinate) .none kV20 dc20 pm20 an20 cd20 ct20), sl20⟩) (c20 : PySem.W.codeIn K cd20 "_law_coordinate" = true) (k20 : PySem.W.keepIn K (.ref f20) = true)
    (a21 : PySem.W.nsIn K mainGlobals "_law_moment" = some (some (.ref f21))) (l21 : K.lookup f21 = some ⟨oc21, od21, .func (PySem.W.fnOf "_law_moment" "_law_moment" (defArgs s_law_moment) (defBody s_law_moment) (defScope s_law_moment) .none kV21 dc21 pm21 an21 cd21 ct21), sl21⟩) (c21 : PySem.W.codeIn K cd21 "_law_moment" = true) (k21 : PySem.W.keepIn K (.ref f21) = true)
    (a22 : PySem.W.nsIn K mainGlobals "_law_first_unlike" = some (some (.ref f22))) (l22 : K.lookup f22 = some ⟨oc22, od22, .func (PySem.W.fnOf "_law_first_unlike" "_law_first_unlike" (defArgs s_law_first_unlike) (defBody s_law_first_unlike) (defScope s_law_first_unlike) .none kV22 dc22 pm22 an22 cd22 ct22), sl22⟩) (c22 : PySem.W.codeIn K cd22 "_law_first_unlike" = true) (k22 : PySem.W.keepIn K (.ref f22) = true)
    (a23 : PySem.W.nsIn K mainGlobals "_law_asked" = some (some (.ref f23))) (l23 : K.lookup f23 = some ⟨oc23, od23, .func (PySem.W.fnOf "_law_asked" "_law_asked" (defArgs s_law_asked) (defBody s_law_asked) (defScope s_law_asked) .none kV23 dc23 pm23 an23 cd23 ct23), sl23⟩) (c23 : PySem.W.codeIn K cd23 "_law_asked" = true) (k23 : PySem.W.keepIn K (.ref f23) = true)
    (a24 : PySem.W.nsIn K mainGlobals "_law_parting_is" = some (some (.ref f24))) (l24 : K.lookup f24 = some ⟨oc24, od24, .func (PySem.W.fnOf "_law_parting_is" "_law_parting_is" (defArgs s_law_parting_is) (defBody s_law_parting_is) (defScope s_law_parting_is) .none kV24 dc24 pm24 an24 cd24 ct24), sl24⟩) (c24 : PySem.W.codeIn K cd24 "_law_parting_is" = true) (k24 : PySem.W.keepIn K (.ref f24) = true)
    (a25 : PySem.W.nsIn K mainGlobals "_law_pair_holds" = some (some (.ref f25))) (l25 : K.lookup f25 = some ⟨oc25, od25, .func (PySem.W.fnOf "_law_pair_holds" "_law_pair_holds" (defArgs s_law_pair_holds) (defBody s_law_pair_holds) (defScope s_law_pair_holds) .none kV25 dc25 pm25 an25 cd25 ct25), sl25⟩) (c25 : PySem.W.codeIn K cd25 "_law_pair_holds" = true) (k25 : PySem.W.keepIn K (.ref f25) = true)
    (a26 : PySem.W.nsIn K mainGlobals "_law_grid_holds" = some (some (.ref f26))) (l26 : K.lookup f26 = some ⟨oc26, od26, .func (PySem.W.fnOf "_law_grid_holds" "_law_grid_holds" (defArgs s_law_grid_holds) (defBody s_law_grid_holds) (defScope s_law_grid_holds) .none kV26 dc26 pm26 an26 cd26 ct26), sl26⟩) (c26 : PySem.W.codeIn K cd26 "_law_grid_holds" = true) (k26 : PySem.W.keepIn K (.ref f26) = true)
    (a27 : PySem.W.nsIn K mainGlobals "_law_parts" = some (some (.ref f27))) (l27 : K.lookup f27 = some ⟨oc27, od27, .func (PySem.W.fnOf "_law_parts" "_law_parts" (defArgs s_law_parts) (defBody s_law_parts) (defScope s_law_parts) .none kV27 dc27 pm27 an27 cd27 ct27), sl27⟩) (c27 : PySem.W.codeIn K cd27 "_law_parts" = true) (k27 : PySem.W.keepIn K (.ref f27) = true)
    (a28 : PySem.W.nsIn K mainGlobals "_law_free_holds" = some (some (.ref f28))) (l28 : K.lookup f28 = some ⟨oc28, od28, .func (PySem.W.fnOf "_law_free_holds" "_law_free_holds" (defArgs s_law_free_holds) (defBody s_law_free_holds) (defScope s_law_free_holds) .none kV28 dc28 pm28 an28 cd28 ct28), sl28⟩) (c28 : PySem.W.codeIn K cd28 "_law_free_holds" = true) (k28 : PySem.W.keepIn K (.ref f28) = true)
    (a29 : PySem.W.nsIn K mainGlobals "law" = some (some (.ref f29))) (l29 : K.lookup f29 = some ⟨oc29, od29, .func (PySem.W.fnOf "law" "law" (defArgs slaw) (defBody slaw) (defScope slaw) .none kV29 dc29 pm29 an29 cd29 ct29), sl29⟩) (c29 : PySem.W.codeIn K cd29 "law" = true) (k29 : PySem.W.keepIn K (.ref f29) = true)
    (a30 : PySem.W.findIn K (.ref C) "__init__" = some (some (.ref f30))) (i30 : PySem.W.isFn K (.ref f30) = true) (l30 : K.lookup f30 = some ⟨oc30, od30, .func (PySem.W.fnOf "__init__" "Front.__init__" (defArgs sFront___init__) (defBody sFront___init__) (defScope sFront___init__) .none kV30 dc30 pm30 an30 cd30 ct30), sl30⟩) (c30 : PySem.W.codeIn K cd30 "Front.__init__" = true) (k30 : PySem.W.keepIn K (.ref f30) = true)
    (a31 : PySem.W.findIn K (.ref C) "fold" = some (some (.ref f31))) (i31 : PySem.W.isFn K (.ref f31) = true) (l31 : K.lookup f31 = some ⟨oc31, od31, .func (PySem.W.fnOf "fold" "Front.fold" (defArgs sFront_fold) (defBody sFront_fold) (defScope sFront_fold) .none kV31 dc31 pm31 an31 cd31 ct31), sl31⟩) (c31 : PySem.W.codeIn K cd31 "Front.fold" = true) (k31 : PySem.W.keepIn K (.ref f31) = true)
    (a32 : PySem.W.findIn K (.ref C) "parting" = some (some (.ref f32))) (i32 : PySem.W.isFn K (.ref f32) = true) (l32 : K.lookup f32 = some ⟨oc32, od32, .func (PySem.W.fnOf "parting" "Front.parting" (defArgs sFront_parting) (defBody sFront_parting) (defScope sFront_parting) .none kV32 dc32 pm32 an32 cd32 ct32), sl32⟩) (c32 : PySem.W.codeIn K cd32 "Front.parting" = true) (k32 : PySem.W.keepIn K (.ref f32) = true)
    (a33 : PySem.W.findIn K (.ref C) "__contains__" = some (some (.ref f33))) (i33 : PySem.W.isFn K (.ref f33) = true) (l33 : K.lookup f33 = some ⟨oc33, od33, .func (PySem.W.fnOf "__contains__" "Front.__contains__" (defArgs sFront___contains__) (defBody sFront___contains__) (defScope sFront___contains__) .none kV33 dc33 pm33 an33 cd33 ct33), sl33⟩) (c33 : PySem.W.codeIn K cd33 "Front.__contains__" = true) (k33 : PySem.W.keepIn K (.ref f33) = true)
    (pg : PySem.W.plainGet K C Str.empty = true) (hd : PySem.W.hasDictIn K C = true) (po : PySem.W.plainOver K C = true) (sa : PySem.W.findIn K (.ref C) "__setattr__" = some (some (.builtin "object.__setattr__"))) (mk : PySem.W.makesIn K C = true) (kc : PySem.W.keepIn K (.ref C) = true)
    (n0 : PySem.W.findIn K (.ref C) "axes" = some none)
    (n1 : PySem.W.findIn K (.ref C) "_lows" = some none)
    (g0 : PySem.W.nsIn K mainGlobals "MOST_AXES" = some (some (.int 4 gt0)))
    (z0 : PySem.W.nsIn K mainGlobals "all" = some none)
    (z1 : PySem.W.nsIn K mainGlobals "zip" = some none)
    (z2 : PySem.W.nsIn K mainGlobals "tuple" = some none)
    (z3 : PySem.W.nsIn K mainGlobals "max" = some none)
    (z4 : PySem.W.nsIn K mainGlobals "min" = some none)
    (z5 : PySem.W.nsIn K mainGlobals "int" = some none)
    (z6 : PySem.W.nsIn K mainGlobals "bool" = some none)
    (z7 : PySem.W.nsIn K mainGlobals "len" = some none)
    (z8 : PySem.W.nsIn K mainGlobals "range" = some none)
    (z9 : PySem.W.nsIn K mainGlobals "isinstance" = some none)
    (z10 : PySem.W.nsIn K mainGlobals "list" = some none)
    (z11 : PySem.W.nsIn K mainGlobals "any" = some none)
    (z12 : PySem.W.nsIn K mainGlobals "set" = some none)
    (z13 : PySem.W.nsIn K mainGlobals "sorted" = some none)
    : ∃ fd : FuncData, (∀ (s : Shared) (v : Value), BindsTo s fd ⟨[v], []⟩ [("script", v)]) ∧ ∀ base : Heap, K.In base → base.Ns mainGlobals mg → FnOk l.prog w K mg base CX0 6 fa fd ["script"] (spLaw K) := by
  have e := hfa.symm.trans (PySem.W.mg_of X G a29)
  cases e
  have B : Bt mg := ⟨PySem.W.mg_none_of X G z0, PySem.W.mg_none_of X G z1, PySem.W.mg_none_of X G z2, PySem.W.mg_none_of X G z3, PySem.W.mg_none_of X G z4, PySem.W.mg_none_of X G z5, PySem.W.mg_none_of X G z6, PySem.W.mg_none_of X G z7, PySem.W.mg_none_of X G z8, PySem.W.mg_none_of X G z9, PySem.W.mg_none_of X G z10, PySem.W.mg_none_of X G z11, PySem.W.mg_none_of X G z12, PySem.W.mg_none_of X G z13⟩
  have Cl : Cls K C := ⟨pg, hd, po, sa⟩
  have Tx : TxF K C := ⟨Cl, n0, n1⟩
  have mC := PySem.W.mg_of X G aC
  have G_MOST_AXES : ∃ t, mg "MOST_AXES" = some (.int 4 t) := ⟨_, PySem.W.mg_of X G g0⟩
  have F0 := fun_mk (st := sis_number) l0 c0 k0
  have Tis_number : Top K mg "is_number" sis_number ["value"] := ⟨_, _, F0, PySem.W.mg_of X G a0, F0.binds (ps := ["value"]) fun _ _ _ _ _ _ us hl => match us, hl with | [_], _ => rfl⟩
  have F1 := fun_mk (st := scheck_axes) l1 c1 k1
  have Tcheck_axes : Top K mg "check_axes" scheck_axes ["axes"] := ⟨_, _, F1, PySem.W.mg_of X G a1, F1.binds (ps := ["axes"]) fun _ _ _ _ _ _ us hl => match us, hl with | [_], _ => rfl⟩
  have F2 := fun_mk (st := scheck_like_axes) l2 c2 k2
  have Tcheck_like_axes : Top K mg "check_like_axes" scheck_like_axes ["left", "right"] := ⟨_, _, F2, PySem.W.mg_of X G a2, F2.binds (ps := ["left", "right"]) fun _ _ _ _ _ _ us hl => match us, hl with | [_, _], _ => rfl⟩
  have F3 := fun_mk (st := sis_moment) l3 c3 k3
  have Tis_moment : Top K mg "is_moment" sis_moment ["value", "axes"] := ⟨_, _, F3, PySem.W.mg_of X G a3, F3.binds (ps := ["value", "axes"]) fun _ _ _ _ _ _ us hl => match us, hl with | [_, _], _ => rfl⟩
  have F4 := fun_mk (st := sbefore) l4 c4 k4
  have Tbefore : Top K mg "before" sbefore ["first", "second"] := ⟨_, _, F4, PySem.W.mg_of X G a4, F4.binds (ps := ["first", "second"]) fun _ _ _ _ _ _ us hl => match us, hl with | [_, _], _ => rfl⟩
  have F5 := fun_mk (st := sjoin_of) l5 c5 k5
  have Tjoin_of : Top K mg "join_of" sjoin_of ["first", "second"] := ⟨_, _, F5, PySem.W.mg_of X G a5, F5.binds (ps := ["first", "second"]) fun _ _ _ _ _ _ us hl => match us, hl with | [_, _], _ => rfl⟩
  have F6 := fun_mk (st := smeet_of) l6 c6 k6
  have Tmeet_of : Top K mg "meet_of" smeet_of ["first", "second"] := ⟨_, _, F6, PySem.W.mg_of X G a6, F6.binds (ps := ["first", "second"]) fun _ _ _ _ _ _ us hl => match us, hl with | [_, _], _ => rfl⟩
  have F7 := fun_mk (st := sminimal) l7 c7 k7
  have Tminimal : Top K mg "minimal" sminimal ["moments"] := ⟨_, _, F7, PySem.W.mg_of X G a7, F7.binds (ps := ["moments"]) fun _ _ _ _ _ _ us hl => match us, hl with | [_], _ => rfl⟩
  have F8 := fun_mk (st := s_law_pot) l8 c8 k8
  have T_law_pot : Top K mg "_law_pot" s_law_pot ["script"] := ⟨_, _, F8, PySem.W.mg_of X G a8, F8.binds (ps := ["script"]) fun _ _ _ _ _ _ us hl => match us, hl with | [_], _ => rfl⟩
  have F9 := fun_mk (st := s_law_draw) l9 c9 k9
  have T_law_draw : Top K mg "_law_draw" s_law_draw ["pot", "size"] := ⟨_, _, F9, PySem.W.mg_of X G a9, F9.binds (ps := ["pot", "size"]) fun _ _ _ _ _ _ us hl => match us, hl with | [_, _], _ => rfl⟩
  have F10 := fun_mk (st := s_law_great) l10 c10 k10
  have T_law_great : Top K mg "_law_great" s_law_great ["pot"] := ⟨_, _, F10, PySem.W.mg_of X G a10, F10.binds (ps := ["pot"]) fun _ _ _ _ _ _ us hl => match us, hl with | [_], _ => rfl⟩
  have F11 := fun_mk (st := s_law_levels) l11 c11 k11
  have T_law_levels : Top K mg "_law_levels" s_law_levels ["pot", "many"] := ⟨_, _, F11, PySem.W.mg_of X G a11, F11.binds (ps := ["pot", "many"]) fun _ _ _ _ _ _ us hl => match us, hl with | [_, _], _ => rfl⟩
  have F12 := fun_mk (st := s_law_grid) l12 c12 k12
  have T_law_grid : Top K mg "_law_grid" s_law_grid ["levels"] := ⟨_, _, F12, PySem.W.mg_of X G a12, F12.binds (ps := ["levels"]) fun _ _ _ _ _ _ us hl => match us, hl with | [_], _ => rfl⟩
  have F13 := fun_mk (st := s_law_is_integer) l13 c13 k13
  have T_law_is_integer : Top K mg "_law_is_integer" s_law_is_integer ["told"] := ⟨_, _, F13, PySem.W.mg_of X G a13, F13.binds (ps := ["told"]) fun _ _ _ _ _ _ us hl => match us, hl with | [_], _ => rfl⟩
  have F14 := fun_mk (st := s_law_is_moment) l14 c14 k14
  have T_law_is_moment : Top K mg "_law_is_moment" s_law_is_moment ["told", "span"] := ⟨_, _, F14, PySem.W.mg_of X G a14, F14.binds (ps := ["told", "span"]) fun _ _ _ _ _ _ us hl => match us, hl with | [_, _], _ => rfl⟩
  have F15 := fun_mk (st := s_law_are_moments) l15 c15 k15
  have T_law_are_moments : Top K mg "_law_are_moments" s_law_are_moments ["told", "span"] := ⟨_, _, F15, PySem.W.mg_of X G a15, F15.binds (ps := ["told", "span"]) fun _ _ _ _ _ _ us hl => match us, hl with | [_, _], _ => rfl⟩
  have F16 := fun_mk (st := s_law_before) l16 c16 k16
  have T_law_before : Top K mg "_law_before" s_law_before ["one", "mate"] := ⟨_, _, F16, PySem.W.mg_of X G a16, F16.binds (ps := ["one", "mate"]) fun _ _ _ _ _ _ us hl => match us, hl with | [_, _], _ => rfl⟩
  have F17 := fun_mk (st := s_law_join) l17 c17 k17
  have T_law_join : Top K mg "_law_join" s_law_join ["one", "mate"] := ⟨_, _, F17, PySem.W.mg_of X G a17, F17.binds (ps := ["one", "mate"]) fun _ _ _ _ _ _ us hl => match us, hl with | [_, _], _ => rfl⟩
  have F18 := fun_mk (st := s_law_least) l18 c18 k18
  have T_law_least : Top K mg "_law_least" s_law_least ["given"] := ⟨_, _, F18, PySem.W.mg_of X G a18, F18.binds (ps := ["given"]) fun _ _ _ _ _ _ us hl => match us, hl with | [_], _ => rfl⟩
  have F19 := fun_mk (st := s_law_is_open) l19 c19 k19
  have T_law_is_open : Top K mg "_law_is_open" s_law_is_open ["least", "one"] := ⟨_, _, F19, PySem.W.mg_of X G a19, F19.binds (ps := ["least", "one"]) fun _ _ _ _ _ _ us hl => match us, hl with | [_, _], _ => rfl⟩
  have F20 := fun_mk (st := s_law_coordinate) l20 c20 k20
  have T_law_coordinate : Top K mg "_law_coordinate" s_law_coordinate ["pot"] := ⟨_, _, F20, PySem.W.mg_of X G a20, F20.binds (ps := ["pot"]) fun _ _ _ _ _ _ us hl => match us, hl with | [_], _ => rfl⟩
  have F21 := fun_mk (st := s_law_moment) l21 c21 k21
  have T_law_moment : Top K mg "_law_moment" s_law_moment ["pot", "span"] := ⟨_, _, F21, PySem.W.mg_of X G a21, F21.binds (ps := ["pot", "span"]) fun _ _ _ _ _ _ us hl => match us, hl with | [_, _], _ => rfl⟩
  have F22 := fun_mk (st := s_law_first_unlike) l22 c22 k22
  have T_law_first_unlike : Top K mg "_law_first_unlike" s_law_first_unlike ["one", "mate", "later_ones"] := ⟨_, _, F22, PySem.W.mg_of X G a22, F22.binds (ps := ["one", "mate", "later_ones"]) fun _ _ _ _ _ _ us hl => match us, hl with | [_, _, _], _ => rfl⟩
  have F23 := fun_mk (st := s_law_asked) l23 c23 k23
  have T_law_asked : Top K mg "_law_asked" s_law_asked ["front", "one", "mate", "way"] := ⟨_, _, F23, PySem.W.mg_of X G a23, F23.binds (ps := ["front", "one", "mate", "way"]) fun _ _ _ _ _ _ us hl => match us, hl with | [_, _, _, _], _ => rfl⟩
  have F24 := fun_mk (st := s_law_parting_is) l24 c24 k24
  have T_law_parting_is : Top K mg "_law_parting_is" s_law_parting_is ["told", "due", "span"] := ⟨_, _, F24, PySem.W.mg_of X G a24, F24.binds (ps := ["told", "due", "span"]) fun _ _ _ _ _ _ us hl => match us, hl with | [_, _, _], _ => rfl⟩
  have F25 := fun_mk (st := s_law_pair_holds) l25 c25 k25
  have T_law_pair_holds : Top K mg "_law_pair_holds" s_law_pair_holds ["grid", "sights", "folds", "j", "k", "due"] := ⟨_, _, F25, PySem.W.mg_of X G a25, F25.binds (ps := ["grid", "sights", "folds", "j", "k", "due"]) fun _ _ _ _ _ _ us hl => match us, hl with | [_, _, _, _, _, _], _ => rfl⟩
  have F26 := fun_mk (st := s_law_grid_holds) l26 c26 k26
  have T_law_grid_holds : Top K mg "_law_grid_holds" s_law_grid_holds ["front", "grid", "later_ones", "span", "way"] := ⟨_, _, F26, PySem.W.mg_of X G a26, F26.binds (ps := ["front", "grid", "later_ones", "span", "way"]) fun _ _ _ _ _ _ us hl => match us, hl with | [_, _, _, _, _], _ => rfl⟩
  have F27 := fun_mk (st := s_law_parts) l27 c27 k27
  have T_law_parts : Top K mg "_law_parts" s_law_parts ["least", "one", "mate", "spot"] := ⟨_, _, F27, PySem.W.mg_of X G a27, F27.binds (ps := ["least", "one", "mate", "spot"]) fun _ _ _ _ _ _ us hl => match us, hl with | [_, _, _, _], _ => rfl⟩
  have F28 := fun_mk (st := s_law_free_holds) l28 c28 k28
  have T_law_free_holds : Top K mg "_law_free_holds" s_law_free_holds ["given", "one", "mate", "way"] := ⟨_, _, F28, PySem.W.mg_of X G a28, F28.binds (ps := ["given", "one", "mate", "way"]) fun _ _ _ _ _ _ us hl => match us, hl with | [_, _, _, _], _ => rfl⟩
  have F29 := fun_mk (st := slaw) l29 c29 k29
  have Tlaw : Top K mg "law" slaw ["script"] := ⟨_, _, F29, PySem.W.mg_of X G a29, F29.binds (ps := ["script"]) fun _ _ _ _ _ _ us hl => match us, hl with | [_], _ => rfl⟩
  have F30 := fun_mk (st := sFront___init__) l30 c30 k30
  have TFront___init__ : TopM K C "__init__" "Front.__init__" sFront___init__ ["self", "axes", "moments"] := ⟨_, _, F30, ⟨a30, i30, k30⟩, F30.binds (ps := ["self", "axes", "moments"]) fun _ _ _ _ _ _ us hl => match us, hl with | [_, _, _], _ => rfl⟩
  have F31 := fun_mk (st := sFront_fold) l31 c31 k31
  have TFront_fold : TopM K C "fold" "Front.fold" sFront_fold ["self", "moment"] := ⟨_, _, F31, ⟨a31, i31, k31⟩, F31.binds (ps := ["self", "moment"]) fun _ _ _ _ _ _ us hl => match us, hl with | [_, _], _ => rfl⟩
  have F32 := fun_mk (st := sFront_parting) l32 c32 k32
  have TFront_parting : TopM K C "parting" "Front.parting" sFront_parting ["self", "first", "second"] := ⟨_, _, F32, ⟨a32, i32, k32⟩, F32.binds (ps := ["self", "first", "second"]) fun _ _ _ _ _ _ us hl => match us, hl with | [_, _, _], _ => rfl⟩
  have F33 := fun_mk (st := sFront___contains__) l33 c33 k33
  have TFront___contains__ : TopM K C "__contains__" "Front.__contains__" sFront___contains__ ["self", "x"] := ⟨_, _, F33, ⟨a33, i33, k33⟩, F33.binds (ps := ["self", "x"]) fun _ _ _ _ _ _ us hl => match us, hl with | [_, _], _ => rfl⟩
  refine ⟨PySem.W.fnOf "law" "law" (defArgs slaw) (defBody slaw) (defScope slaw) .none kV29 dc29 pm29 an29 cd29 ct29, fun s v => .of_eq rfl, fun base _ _ => ?_⟩
  have Dbf := d_before (P := l.prog) (w := w) (K := K) (base := base) B Tbefore
  have Djo := d_join_of (P := l.prog) (w := w) (K := K) (base := base) B Tjoin_of
  have Dme := d_meet_of (P := l.prog) (w := w) (K := K) (base := base) B Tmeet_of
  have Dnu := d_is_number (P := l.prog) (w := w) (K := K) (base := base) B Tis_number
  have Dca := d_check_axes B G_MOST_AXES Tcheck_axes Dnu
  have Dim := d_is_moment B Tis_moment Dnu
  have Dmi := d_minimal B Tminimal Dbf
  have Mini := d_Front___init__ B Tx TFront___init__ Dca Dim Dmi
  have Mk := Mini.make mk kc mC
  have Mco := d_Front___contains__ B Tx TFront___contains__ Dim Dbf
  have Mfo := d_Front_fold B Tx TFront_fold Djo Dme
  have Mpa := d_Front_parting B Tx TFront_parting Djo Dbf
  have TKparting1 : TopMK K C "parting" "Front.parting" sFront_parting ["self", "first", "second"] ["first", "second"] kwA := ⟨_, _, kwA, F32, ⟨a32, i32, k32⟩, kwA_binds fun s u w z X => .of_eq rfl⟩
  have TKparting2 : TopMK K C "parting" "Front.parting" sFront_parting ["self", "first", "second"] ["second", "first"] kwB := ⟨_, _, kwB, F32, ⟨a32, i32, k32⟩, kwB_binds fun s u w z X => .of_eq rfl⟩
  have Mp1 := Mpa.kw TKparting1
  have Mp2 := Mpa.kw TKparting2
  have Lpo := d_law_pot (P := l.prog) (w := w) (K := K) (base := base) B T_law_pot
  have Ldr := d_law_draw (P := l.prog) (w := w) (K := K) (base := base) B T_law_draw
  have Lgr := d_law_great B T_law_great Ldr
  have Lle := d_law_levels B T_law_levels Ldr Lgr
  have Lgi := d_law_grid (P := l.prog) (w := w) (K := K) (base := base) B T_law_grid
  have Lii := d_law_is_integer (P := l.prog) (w := w) (K := K) (base := base) B T_law_is_integer
  have Lim := d_law_is_moment B T_law_is_moment Lii
  have Lam := d_law_are_moments B T_law_are_moments Lim
  have Lbf := d_law_before (P := l.prog) (w := w) (K := K) (base := base) B T_law_before
  have Ljo := d_law_join (P := l.prog) (w := w) (K := K) (base := base) B T_law_join
  have Lls := d_law_least B T_law_least Lbf
  have Lop := d_law_is_open B T_law_is_open Lbf
  have Lco := d_law_coordinate B T_law_coordinate Ldr Lgr
  have Lmo := d_law_moment B T_law_moment Lco
  have Lpt := d_law_parts B T_law_parts Lop Lbf
  have Las := d_law_asked B Cl trivial T_law_asked Mpa Mp1 Mp2
  have Lpi := d_law_parting_is B T_law_parting_is Lim
  have Lfu := d_law_first_unlike (P := l.prog) (w := w) (K := K) (base := base) B T_law_first_unlike
  have Lph := d_law_pair_holds B T_law_pair_holds Lbf
  have Lgh := d_law_grid_holds B Cl T_law_grid_holds Lbf Mfo Lam Lfu Las Lpi Lph
  have Lfr := d_law_free_holds B Cl T_law_free_holds Lls Mk Las Ljo Lpt Mfo Lim Mco
  have D := d_law B Cl Tlaw Lpo Ldr Lle Lgi Mk Lop Lgh Lmo Lfr
  obtain ⟨f, fd', F, g, _, _, _, _, _, lk⟩ := D
  obtain rfl : fa = f := Value.ref.inj (Option.some.inj ((PySem.W.mg_of X G a29).symm.trans g))
  rw [l29] at lk
  cases lk
  exact F
end
end K4
open PySem PySem.W PyProof.Rows
set_option maxHeartbeats 0 in
theorem PySem.Challenge.cw_deltamill_k04_whole_folds_part_exactly_holds : PySem.Challenge.rw_deltamill_k04_whole_folds_part_exactly.Holds := by
  w_on; o_law; k_head; (case hw => w_witness2)
  k_fill
  refine L2.walk_of (l := PySem.Challenge.rw_deltamill_k04_whole_folds_part_exactly) (n := 63) (k := 6) (x := "script") (CX := fun _ => L2.CX0) (sp := fun w => K4.spLaw _) rfl (by decide) rfl ⟨rfl, by decide, by decide⟩ (fun w h Y => PySem.W.kIn_of Y) ?F (fun _ _ a ns hl _ hS => ⟨a, ns, rfl, hS, hl, fun _ => rfl⟩) (fun _ _ _ _ _ h => h)
  case F =>
    intro w mg fa h KX G hmg
    refine' K4.all_mk KX G hmg ?aC ?a0 ?l0 ?c0 ?k0 ?a1 ?l1 ?c1 ?k1 ?a2 ?l2 ?c2 ?k2 ?a3 ?l3 ?c3 ?k3 ?a4 ?l4 ?c4 ?k4 ?a5 ?l5 ?c5 ?k5 ?a6 ?l6 ?c6 ?k6 ?a7 ?l7 ?c7 ?k7 ?a8 ?l8 ?c8 ?k8 ?a9 ?l9 ?c9 ?k9 ?a10 ?l10 ?c10 ?k10 ?a11 ?l11 ?c11 ?k11 ?a12 ?l12 ?c12 ?k12 ?a13 ?l13 ?c13 ?k13 ?a14 ?l14 ?c14 ?k14 ?a15 ?l15 ?c15 ?k15 ?a16 ?l16 ?c16 ?k16 ?a17 ?l17 ?c17 ?k17 ?a18 ?l18 ?c18 ?k18 ?a19 ?l19 ?c19 ?k19 ?a20 ?l20 ?c20 ?k20 ?a21 ?l21 ?c21 ?k21 ?a22 ?l22 ?c22 ?k22 ?a23 ?l23 ?c23 ?k23 ?a24 ?l24 ?c24 ?k24 ?a25 ?l25 ?c25 ?k25 ?a26 ?l26 ?c26 ?k26 ?a27 ?l27 ?c27 ?k27 ?a28 ?l28 ?c28 ?k28 ?a29 ?l29 ?c29 ?k29 ?a30 ?i30 ?l30 ?c30 ?k30 ?a31 ?i31 ?l31 ?c31 ?k31 ?a32 ?i32 ?l32 ?c32 ?k32 ?a33 ?i33 ?l33 ?c33 ?k33 ?pg ?hd ?po ?sa ?mk ?kc ?n0 ?n1 ?glob0 ?z0 ?z1 ?z2 ?z3 ?z4 ?z5 ?z6 ?z7 ?z8 ?z9 ?z10 ?z11 ?z12 ?z13
    (case aC => k_is); (case a0 => k_is); (case l0 => k_is); (case c0 => k_is); (case k0 => k_is); (case a1 => k_is); (case l1 => k_is); (case c1 => k_is); (case k1 => k_is); (case a2 => k_is); (case l2 => k_is); (case c2 => k_is); (case k2 => k_is); (case a3 => k_is); (case l3 => k_is); (case c3 => k_is); (case k3 => k_is); (case a4 => k_is); (case l4 => k_is); (case c4 => k_is); (case k4 => k_is); (case a5 => k_is); (case l5 => k_is); (case c5 => k_is); (case k5 => k_is); (case a6 => k_is); (case l6 => k_is); (case c6 => k_is); (case k6 => k_is); (case a7 => k_is); (case l7 => k_is); (case c7 => k_is); (case k7 => k_is); (case a8 => k_is); (case l8 => k_is); (case c8 => k_is); (case k8 => k_is); (case a9 => k_is); (case l9 => k_is); (case c9 => k_is); (case k9 => k_is); (case a10 => k_is); (case l10 => k_is); (case c10 => k_is); (case k10 => k_is); (case a11 => k_is); (case l11 => k_is); (case c11 => k_is); (case k11 => k_is); (case a12 => k_is); (case l12 => k_is); (case c12 => k_is); (case k12 => k_is); (case a13 => k_is); (case l13 => k_is); (case c13 => k_is); (case k13 => k_is); (case a14 => k_is); (case l14 => k_is); (case c14 => k_is); (case k14 => k_is); (case a15 => k_is); (case l15 => k_is); (case c15 => k_is); (case k15 => k_is); (case a16 => k_is); (case l16 => k_is); (case c16 => k_is); (case k16 => k_is); (case a17 => k_is); (case l17 => k_is); (case c17 => k_is); (case k17 => k_is); (case a18 => k_is); (case l18 => k_is); (case c18 => k_is); (case k18 => k_is); (case a19 => k_is); (case l19 => k_is); (case c19 => k_is); (case k19 => k_is); (case a20 => k_is); (case l20 => k_is); (case c20 => k_is); (case k20 => k_is); (case a21 => k_is); (case l21 => k_is); (case c21 => k_is); (case k21 => k_is); (case a22 => k_is); (case l22 => k_is); (case c22 => k_is); (case k22 => k_is); (case a23 => k_is); (case l23 => k_is); (case c23 => k_is); (case k23 => k_is); (case a24 => k_is); (case l24 => k_is); (case c24 => k_is); (case k24 => k_is); (case a25 => k_is); (case l25 => k_is); (case c25 => k_is); (case k25 => k_is); (case a26 => k_is); (case l26 => k_is); (case c26 => k_is); (case k26 => k_is); (case a27 => k_is); (case l27 => k_is); (case c27 => k_is); (case k27 => k_is); (case a28 => k_is); (case l28 => k_is); (case c28 => k_is); (case k28 => k_is); (case a29 => k_is); (case l29 => k_is); (case c29 => k_is); (case k29 => k_is); (case a30 => k_is); (case i30 => k_is); (case l30 => k_is); (case c30 => k_is); (case k30 => k_is); (case a31 => k_is); (case i31 => k_is); (case l31 => k_is); (case c31 => k_is); (case k31 => k_is); (case a32 => k_is); (case i32 => k_is); (case l32 => k_is); (case c32 => k_is); (case k32 => k_is); (case a33 => k_is); (case i33 => k_is); (case l33 => k_is); (case c33 => k_is); (case k33 => k_is); (case pg => k_is); (case hd => k_is); (case po => k_is); (case sa => k_is); (case mk => k_is); (case kc => k_is); (case n0 => k_is); (case n1 => k_is); (case glob0 => k_is); (case z0 => k_is); (case z1 => k_is); (case z2 => k_is); (case z3 => k_is); (case z4 => k_is); (case z5 => k_is); (case z6 => k_is); (case z7 => k_is); (case z8 => k_is); (case z9 => k_is); (case z10 => k_is); (case z11 => k_is); (case z12 => k_is); (case z13 => k_is)
