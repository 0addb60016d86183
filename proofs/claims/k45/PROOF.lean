import PyProof.Rows.All
import Wide.All
import OpenK.AllK
import Wide.FinOn
import HandS.ForMost
import HandS.Exc
import HandS.ExcInit
import HandS.IsInst
import HandS.TupAny
import HandS.Conv
import HandS.Wide
import HandS.Deep
import KE.KExcIs
import HandS.Gcd
import HandS.Evl
import HandS.Walk
import HandS.SlotsOwn
import HandS.OwnEq
import KE.KOpsOwn
import PyProof.TwoTypes
import PyProof.EqKinds
import HandS.ExcValue
import HandS.Lambda
import HandS.EndTab
import HandS.ClsMeth
import HandS.Property
import HandS.Codes
import HandS.StrMore
import KE.OsScanText
import KE.IntTextLaws
import HandS.Comp
import HandS.Nested
import PyProof.InstNe
import HandS.Defaults
import KE.GoesMore
import KE.GoesEnum
import HandS.Zip
import KE.GoesEnumKw
import HandS.Style
import HandS.WordsExc
import HandS.RaiseMore
import HandS.NoneIn
import PySem.Challenge.RW_seenabout_k45_texts_of_scripts
set_option Elab.async false
set_option linter.all false
set_option maxRecDepth 100000
set_option maxHeartbeats 4000000
/-! A layer over HandS: defs that are entered while nothing shows itself (so that repr may be told). -/
namespace G
open PySem PySem.Spec PyProof.Rows L2

abbrev Quiet (A : Around) : Prop := A.guards = some []

structure Fn (P : Program) (w : World) (K : PySem.W.Frag) (mg : Str → Option Value) (base : Heap) (CX : CXT) (k : Nat) (f : Addr) (fd : FuncData) (ps : List Str) (sp : Sp) : Prop where
  len : ∀ vs H Q E, sp vs H Q E → vs.length = ps.length
  run : ∀ (A : Around) (outer : List Env) (s : Shared) (H : Hp) (args : Args) (us : List Value) (vs : List V) (Q : VK) (E : XK), Quiet A → Room k A →
    Env0 P w K mg base A outer s H → BindsTo s fd args (ps.zip us) → Vals vs us → sp vs H Q E → codeAny (model P w) A (.call (.ref f) args) (CR CX outer P w H s Q E) s

section
variable {P : Program} {w : World} {K : PySem.W.Frag} {mg : Str → Option Value} {base : Heap} {CX : CXT}
theorem Fn.mono {j k : Nat} {f : Addr} {fd : FuncData} {ps : List Str} {sp : Sp} (F : Fn P w K mg base CX j f fd ps sp) (h : j ≤ k) : Fn P w K mg base CX k f fd ps sp :=
  ⟨F.len, fun A outer s H args us vs Q E hq hr => F.run A outer s H args us vs Q E hq (hr.mono h)⟩
/-- what is told of all surroundings is told of quiet ones -/
theorem Fn.ofOk {k : Nat} {f : Addr} {fd : FuncData} {ps : List Str} {sp : Sp} (F : FnOk P w K mg base CX k f fd ps sp) : Fn P w K mg base CX k f fd ps sp :=
  ⟨F.len, fun A outer s H args us vs Q E _ hr => F.run A outer s H args us vs Q E hr⟩

theorem fnOf {k : Nat} {f : Addr} {name qual : Str} {params : Arguments} {body : List Stmt} {scope : Scope} {kV doc pm cdv ct oc : Value} {an od : Option Addr} {osl : Array (Option Value)} {N ps : List Str} {sp : Sp}
    (lk : K.lookup f = some ⟨oc, od, .func (PySem.W.fnOf name qual params body scope .none kV doc pm an cdv ct), osl⟩) (hcd : PySem.W.codeIn K cdv qual = true)
    (S : FnScope N ps scope) (len : ∀ vs H Q E, sp vs H Q E → vs.length = ps.length)
    (body_ok : ∀ (A : Around) (outer : List Env) (s : Shared) (H : Hp) (vs : List V) (Q : VK) (E : XK), Quiet A → Room k (A.deeper (envOfC qual scope s.heap.objs.size f cdv)) → sp vs H Q E →
      ∃ t, PSs (cxOf CX P w K mg base N qual scope f cdv A outer s H E) body t ∧ t { nx := fun _ H' => Q .non H', rt := Q } (start N vs) H) :
    Fn P w K mg base CX (k + 1) f (PySem.W.fnOf name qual params body scope .none kV doc pm an cdv ct) ps sp := by
  constructor
  · exact len
  intro A outer s H args us vs Q E hq hr e0 hb r hsp
  have hl : vs.length = ps.length := len _ _ _ _ hsp
  have inS : K.In s.heap := e0.mod.kin.keeps (fun b o e => (e0.bs b o e).1)
  have noL : s.heap.NoLimit := e0.mod.nolimit.keeps (fun b o e => (e0.bs b o e).1)
  have kinds : ∀ y ∈ ps.zip us, scope.names.lookup y.1 = some .local ∨ (scope.names.lookup y.1 = some .cell ∧ ((cellsFrom (s.heap.objs.size + 1) scope.names []).lookup y.1).isSome = true) := by
    rintro ⟨n, v⟩ hy
    cases S.par n (List.of_mem_zip hy).1 with
    | inl q => exact Or.inl q
    | inr q => exact Or.inr ⟨q, PySem.W.cellsFrom_some _ _ _ (Or.inl q)⟩
  apply codeAny_call_function hr.depth (inS _ _ lk) rfl S.co S.gen rfl (PySem.W.codeRec_of inS hcd)
  refine hb _ _ _ _ (wpAny_newFunctionEnv_cells S.kind kinds ?_)
  intro env he s1 x
  cases he
  constructor
  · exact noL.keeps x.toInCall.keep
  apply codeAny_func
  obtain ⟨t, ht, q0⟩ := body_ok A outer s H vs Q E hq (hr.deeper _) hsp
  have I := inv_start (CX := CX) (P := P) (w := w) (K := K) (mg := mg) (base := base) (E := E) S hr.hd e0 hl r x
  apply wpAny_mono (ht.run [] s1 (start N vs) H _ I q0)
  · intro fl s' hs
    cases fl with
    | ret u => obtain ⟨v, σ', H', J, rv, q⟩ := hs; exact ⟨v, H', J.os, J.bare, J.base, J.hok, rv, q⟩
    | next => obtain ⟨σ', H', J, q⟩ := hs; exact ⟨V.non, H', J.os, J.bare, J.base, J.hok, rfl, q⟩
    | brk => exact hs.elim fun _ z => z.elim fun _ z => z.2.elim
    | cont => exact hs.elim fun _ z => z.elim fun _ z => z.2.elim
  · intro e s' hs
    exact hs

theorem ok {x qual : Str} {st : Stmt} {f : Addr} {fd : FuncData} {N ps : List Str} {k : Nat} {sp : Sp} (F : Fun K x qual st f fd) (S : FnScope N ps (defScope st)) (len : ∀ vs H Q E, sp vs H Q E → vs.length = ps.length)
    (body_ok : ∀ (cdv : Value) (A : Around) (outer : List Env) (s : Shared) (H : Hp) (vs : List V) (Q : VK) (E : XK), Quiet A → Room k (A.deeper (envOfC qual (defScope st) s.heap.objs.size f cdv)) → sp vs H Q E →
      ∃ t, PSs (cxOf CX0 P w K mg base N qual (defScope st) f cdv A outer s H E).nox (defBody st) t ∧ t { nx := fun _ H' => Q .non H', rt := Q } (start N vs) H) :
    Fn P w K mg base CX0 (k + 1) f fd ps sp := by
  obtain ⟨_, _, _, _, _, _, cdv, _, _, rfl, lk, hcd⟩ := F.ex
  apply fnOf lk hcd S len
  intro A outer s H vs Q E hq hr hsp
  obtain ⟨t, h, q⟩ := body_ok cdv A outer s H vs Q E hq hr hsp
  exact ⟨t, h.nox, q⟩
end

section
variable {X : Cx} {CX : CXT} {k : Nat} {f C : Addr} {fd : FuncData} {ps : List Str} {sp : Sp} {dvs : List V} {ds : List Value} {E : XK} {x m : Str} {p pos apos : Pos} {e o : Expr} {es : List Expr} {ta : TE} {t : TA}
theorem runFn {pins : List (Addr × Obj)} {σ : L2.St} {H : Hp} {s : Shared} {Q : VK} {us : List Value} {vs : List V} (F : Fn X.prog X.w X.K X.mg X.base CX k f fd ps sp) (hq : Quiet X.A) (hr : Room k X.A) (hb : Binds X.K fd ps ds) (hd : Vals dvs ds)
    (hx : Passes CX X E) (I : Inv X pins σ H s) (r : Vals vs us) (h : sp (vs ++ dvs) H Q E) : wpAny (model X.prog X.w) X.A (call (.ref f) us) (EP X pins σ Q) X.xe s := by
  have r2 : Vals (vs ++ dvs) (us ++ ds) := r.append hd
  have hl : (us ++ ds).length = ps.length := r2.length.symm.trans (F.len _ _ _ _ h)
  apply wpAny_call
  apply codeAny_mono (F.run X.A X.stack s H ⟨us, []⟩ (us ++ ds) (vs ++ dvs) Q E hq hr I.env0 (hb s us I.kIn hl) r2 h)
  intro res s' done
  match res, done with
  | .error e, z => exact hx pins σ H s e s' I z
  | .ok (.ret u), z => exact I.after z
  | .ok .next, z => exact z.elim
  | .ok .brk, z => exact z.elim
  | .ok .cont, z => exact z.elim
/-- f(e, ..) -/
theorem pe_fn (F : Fn X.prog X.w X.K X.mg X.base CX k f fd ps sp) (hq : Quiet X.A) (hr : Room k X.A) (hg : Gl X x) (hm : X.mg x = some (.ref f)) (hk : PySem.W.keepIn X.K (.ref f) = true) (hb : Binds X.K fd ps ds) (hd : Vals dvs ds) (hx : Passes CX X E)
    (ha : PA X (e :: es) t) (hdb : (x == ("__debug__" : Str)) = false := by decide) (he : starEach (e :: es) X.env = (false, eval e X.env) :: starEach es X.env := by rfl) (hpl : (backTo pos (starEach es X.env)).any (·.1) = false := by rfl) :
    PE X (.Call (.Name x p) (e :: es) [] pos) (tCall sp dvs E t) := by
  constructor
  intro pins s σ H Q I h
  apply wpAny_Call_Name_kw
  apply ld_glob I hg hm _ hdb
  apply PySem.W.callWith_K (h₀ := X.base) I.ok.mod.kin hk _ he hpl
  apply thn (ha.run pos pins s σ H _ I h)
  rintro us s1 ⟨vs, H1, I1, r, q⟩
  exact ⟨I1.kIn, runFn F hq hr hb hd hx I1 r q⟩
/-- f() -/
theorem pe_fn0 (F : Fn X.prog X.w X.K X.mg X.base CX k f fd ps sp) (hq : Quiet X.A) (hr : Room k X.A) (hg : Gl X x) (hm : X.mg x = some (.ref f)) (hk : PySem.W.keepIn X.K (.ref f) = true) (hb : Binds X.K fd ps ds) (hd : Vals dvs ds) (hx : Passes CX X E)
    (hdb : (x == ("__debug__" : Str)) = false := by decide) : PE X (.Call (.Name x p) [] [] pos) (tCall sp dvs E tNil) := by
  constructor
  intro pins s σ H Q I h
  apply wpAny_Call_Name_kw
  apply ld_glob I hg hm _ hdb
  exact PySem.W.callWith_K0 I.kIn hk (runFn (us := []) F hq hr hb hd hx I .nil h)
end
end G

namespace G
open PySem PySem.Spec PyProof.Rows L2

/-! ### what a value of the abstract heap reads as, dicts with plain keys among it -/
def keyD : Key → PyData
  | .inl i => .int i
  | .inr x => .str x
mutual
inductive Da (H : Hp) : V → PyData → Prop
  | non : Da H .non .none
  | bl (b : Bool) : Da H (.bl b) (.bool b)
  | int (i : Int) : Da H (.int i) (.int i)
  | str (x : Str) : Da H (.str x) (.str x)
  | lst {a : Addr} {xs : List V} {ds : List PyData} : H a = some (.lst xs) → a ≠ sysModules → DaAll H xs ds → Da H (.ref a) (.list ds)
  | tup {a : Addr} {xs : List V} {ds : List PyData} : H a = some (.tup xs) → DaAll H xs ds → Da H (.ref a) (.tuple ds)
  | dct {a : Addr} {kvs : List (Key × V)} {ds : List PyData} : H a = some (.dK kvs) → DaAll H (kvs.map (·.2)) ds → Da H (.ref a) (.dict ((kvs.map fun p => keyD p.1).zip ds))
inductive DaAll (H : Hp) : List V → List PyData → Prop
  | nil : DaAll H [] []
  | cons {v : V} {vs : List V} {d : PyData} {ds : List PyData} : Da H v d → DaAll H vs ds → DaAll H (v :: vs) (d :: ds)
end
theorem DaAll.length {H : Hp} : ∀ {vs : List V} {ds : List PyData}, DaAll H vs ds → vs.length = ds.length
  | _, _, .nil => rfl
  | _, _, .cons _ t => congrArg (· + 1) (DaAll.length t)
mutual
theorem Da.same {H H' : Hp} (S : Same H H') : ∀ {v : V} {d : PyData}, Da H v d → Da H' v d
  | _, _, .non => .non
  | _, _, .bl b => .bl b
  | _, _, .int i => .int i
  | _, _, .str x => .str x
  | _, _, .lst e n t => .lst (S _ _ e) n (DaAll.same S t)
  | _, _, .tup e t => .tup (S _ _ e) (DaAll.same S t)
  | _, _, .dct e t => .dct (S _ _ e) (DaAll.same S t)
theorem DaAll.same {H H' : Hp} (S : Same H H') : ∀ {vs : List V} {ds : List PyData}, DaAll H vs ds → DaAll H' vs ds
  | _, _, .nil => .nil
  | _, _, .cons h t => .cons (Da.same S h) (DaAll.same S t)
end
theorem reads_keys {P : Program} {w : World} (h : Heap) : ∀ {es : List DictEntry} {kvs : List (Key × Value)}, Pairs (mixKind P w) es kvs → ReadsAll h (es.map (·.key)) (kvs.map fun p => keyD p.1) []
  | _, _, .nil => .nil
  | _, _, .cons (e := e) (kv := kv) hk _ t => by
    have h1 : Reads h e.key (keyD kv.1) [] := by
      rcases keyIs_shape (k := kv.1) (v := e.key) hk with ⟨i, t, e1, e2⟩ | ⟨x, t, e1, e2⟩
      · rw [e1, e2]; exact Reads.int i t
      · rw [e1, e2]; exact Reads.str x t
    exact ReadsAll.cons (as := []) (bs := []) h1 (reads_keys h t)
theorem vals_of_pairs {P : Program} {w : World} : ∀ {es : List DictEntry} {kvs : List (Key × Value)}, Pairs (mixKind P w) es kvs → es.map (·.val) = kvs.map (·.2)
  | _, _, .nil => rfl
  | _, _, .cons _ hv t => by rw [List.map_cons, List.map_cons, hv, vals_of_pairs t]
theorem KV.keys {kvs : List (Key × V)} {vs : List (Key × Value)} (r : KV kvs vs) : kvs.map (fun p => keyD p.1) = vs.map (fun p => keyD p.1) := by
  induction r with
  | nil => rfl
  | cons h _ ih => rw [List.map_cons, List.map_cons, h.1, ih]
theorem KV.valsV {kvs : List (Key × V)} {vs : List (Key × Value)} (r : KV kvs vs) : Vals (kvs.map (·.2)) (vs.map (·.2)) := by
  induction r with
  | nil => exact .nil
  | cons h _ ih => exact .cons h.2 ih

section
variable {X : Cx} {pins : List (Addr × Obj)} {σ : L2.St} {H : Hp} {s : Shared}
mutual
theorem Da.reads (I : Inv X pins σ H s) : ∀ {v : V} {d : PyData} {u : Value}, Da H v d → RelV v u → ∃ as, Reads s.heap u d as ∧ sysModules ∉ as
  | _, _, _, .non, r => by cases r; exact ⟨_, .none, by simp⟩
  | _, _, _, .bl b, r => by cases r; exact ⟨_, .bool b, by simp⟩
  | _, _, _, .int i, r => by obtain ⟨t, rfl⟩ := r; exact ⟨_, .int i t, by simp⟩
  | _, _, _, .str x, r => by obtain ⟨t, rfl⟩ := r; exact ⟨_, .str x t, by simp⟩
  | _, _, _, .lst e n t, r => by
    cases r
    obtain ⟨_, its, m, rv, ho⟩ := I.hok _ _ e
    obtain ⟨as, hr, hn⟩ := DaAll.reads I t rv
    exact ⟨_, .list ho rfl rfl hr, by simp only [List.mem_cons, not_or]; exact ⟨fun z => n z.symm, hn⟩⟩
  | _, _, _, .tup e t, r => by
    cases r
    obtain ⟨_, its, rv, o, ho, hc, m, hd⟩ := I.hok _ _ e
    obtain ⟨as, hr, hn⟩ := DaAll.reads I t rv
    exact ⟨_, .tuple ho hc hd hr, hn⟩
  | _, _, _, .dct (a := a) (kvs := kvs) (ds := ds) e t, r => by
    cases r
    obtain ⟨_, hs, vs, rel, o, es, ep, ho, hx, hd, hk, hp, _⟩ := I.hok _ _ e
    obtain ⟨bs, hr, hn⟩ := DaAll.reads I t (KV.valsV rel)
    have e1 : (((kvs.map fun p => keyD p.1).zip ds).map (·.1)) = vs.map fun p => keyD p.1 := by
      rw [List.map_fst_zip (by rw [List.length_map]; have := t.length; rw [List.length_map] at this; omega)]
      exact KV.keys rel
    have e2 : (((kvs.map fun p => keyD p.1).zip ds).map (·.2)) = ds :=
      List.map_snd_zip (by rw [List.length_map]; have := t.length; rw [List.length_map] at this; omega)
    refine ⟨_, .dict (as := []) (bs := bs) ho hx.1 hd ?_ ?_, ?_⟩
    · rw [e1]; exact reads_keys s.heap hp
    · rw [e2, vals_of_pairs hp]; exact hr
    · have : sysModules ≠ a := fun z => by rw [← z] at hs; exact absurd hs (by decide)
      simp only [List.append_nil, List.singleton_append, List.mem_cons, not_or]
      exact ⟨this, hn⟩
theorem DaAll.reads (I : Inv X pins σ H s) : ∀ {vs : List V} {ds : List PyData} {us : List Value}, DaAll H vs ds → Vals vs us → ∃ as, ReadsAll s.heap us ds as ∧ sysModules ∉ as
  | _, _, _, .nil, r => by cases r; exact ⟨_, .nil, by simp⟩
  | _, _, _, .cons h t, r => by
    cases r with
    | cons r1 r2 =>
      obtain ⟨as, q1, n1⟩ := Da.reads I h r1
      obtain ⟨bs, q2, n2⟩ := DaAll.reads I t r2
      exact ⟨_, .cons q1 q2, by rw [List.mem_append, not_or]; exact ⟨n1, n2⟩⟩
end
end

/-! ### data that is short enough to be shown -/
structure Gd (n k : Nat) (d : PyData) : Prop where
  short : d.leavesShort 13 = true
  show_ : d.showable = true
  depth : d.depth ≤ k
  weight : d.weight ≤ n
theorem Gd.mono {m n j k : Nat} {d : PyData} (g : Gd m j d) (h : m ≤ n) (h2 : j ≤ k) : Gd n k d := ⟨g.short, g.show_, Nat.le_trans g.depth h2, Nat.le_trans g.weight h⟩
theorem Gd.fits {n k : Nat} {d : PyData} (g : Gd n k d) (h : n ≤ 2 ^ 20) : d.shown.length ≤ sizeLine := PyData.shown_fits (by decide) (by decide) g.short (Nat.le_trans g.weight h)
/-- by a look: for written data -/
def gdB (n k : Nat) (d : PyData) : Bool := d.leavesShort 13 && (d.showable && (decide (d.depth ≤ k) && decide (d.weight ≤ n)))
theorem gdB_ok {n k : Nat} {d : PyData} (h : gdB n k d = true) : Gd n k d := by
  obtain ⟨h1, h⟩ := Bool.and_eq_true_iff.mp h
  obtain ⟨h2, h⟩ := Bool.and_eq_true_iff.mp h
  obtain ⟨h3, h4⟩ := Bool.and_eq_true_iff.mp h
  exact ⟨h1, h2, of_decide_eq_true h3, of_decide_eq_true h4⟩
theorem gd_all {n k : Nat} : ∀ {ds : List PyData}, (∀ d ∈ ds, Gd n k d) → PyData.leavesShortAll 13 ds = true ∧ PyData.showableAll ds = true ∧ PyData.depthAll ds ≤ k ∧ PyData.weightAll ds ≤ ds.length * (n + 1)
  | [], _ => ⟨by simp [PyData.leavesShortAll], by simp [PyData.showableAll], by simp [PyData.depthAll], by simp [PyData.weightAll]⟩
  | d :: ds, h => by
    obtain ⟨a, b, c, e⟩ := gd_all (fun x hx => h x (List.mem_cons_of_mem _ hx))
    have g := h d (List.mem_cons_self ..)
    refine ⟨by simp [PyData.leavesShortAll, g.short, a], by simp [PyData.showableAll, g.show_, b], ?_, ?_⟩
    · simp only [PyData.depthAll]; have := g.depth; omega
    · simp only [PyData.weightAll, List.length_cons, Nat.succ_mul]; have := g.weight; omega
theorem gd_tup {n k m N : Nat} {ds : List PyData} (h : ∀ d ∈ ds, Gd n k d) (hl : ds.length ≤ m) (hN : m * (n + 1) ≤ N) : Gd N (k + 1) (.tuple ds) := by
  obtain ⟨a, b, c, e⟩ := gd_all h
  have : ds.length * (n + 1) ≤ m * (n + 1) := Nat.mul_le_mul_right _ hl
  exact ⟨by simpa [PyData.leavesShort] using a, by simpa [PyData.showable] using b, by simp only [PyData.depth]; omega, by simp only [PyData.weight]; omega⟩
theorem gd_lst {n k m N : Nat} {ds : List PyData} (h : ∀ d ∈ ds, Gd n k d) (hl : ds.length ≤ m) (hN : m * (n + 1) ≤ N) : Gd N (k + 1) (.list ds) := by
  obtain ⟨a, b, c, e⟩ := gd_all h
  have : ds.length * (n + 1) ≤ m * (n + 1) := Nat.mul_le_mul_right _ hl
  exact ⟨by simpa [PyData.leavesShort] using a, by simpa [PyData.showable] using b, by simp only [PyData.depth]; omega, by simp only [PyData.weight]; omega⟩

section
variable {X : Cx}
/-- repr of data, where nothing shows itself -/
theorem call_reprD (hq : Quiet X.A) (hu : X.A.units + 64 < cLine) : CallR X (.builtin "repr") (fun xs H Q => ∃ v d n k, xs = [v] ∧ Da H v d ∧ Gd n k d ∧ (n ≤ 2 ^ 20 ∧ k ≤ 20) ∧ Q (.str d.shown) H) := by
  intro pins s σ H xs us Q I r h
  obtain ⟨v, d, n, k, rfl, hd, g, ⟨hn, hk⟩, q⟩ := h
  obtain ⟨u, rfl, ru⟩ := vals1 r
  have fits := g.fits hn
  have tail : ∀ (A : Addr), u = .ref A → wpAny (model X.prog X.w) X.A (call (.builtin "repr") [u]) (EP X pins σ Q) X.xe s := by
    rintro a rfl
    obtain ⟨as, hr, hns⟩ := Da.reads I hd ru
    refine repr_of_reads' (h₀ := s.heap) hr g.show_ (fun _ => hns) hq (by have := g.depth; omega) (fun _ _ z => z) (fun h' t tk hk => ?_) fits
    exact ⟨.str d.shown, H, I.kept hk, ⟨_, rfl⟩, q⟩
  cases hd with
  | non => cases ru; exact P.repr_of_none ⟨.str _, H, I.tok _, ⟨_, rfl⟩, q⟩
  | bl b =>
    cases ru
    refine P.repr_of_bool ?_
    exact ⟨.str _, H, I.tok _, ⟨_, rfl⟩, q⟩
  | int i =>
    obtain ⟨t, rfl⟩ := ru
    have hz : i.natAbs.log2 < 1920 := by have := g.show_; simpa [PyData.showable] using this
    exact P.repr_of_int hz ⟨.str _, H, I.tok _, ⟨_, rfl⟩, q⟩
  | str x =>
    obtain ⟨t, rfl⟩ := ru
    exact P.repr_of_str ⟨.str _, H, I.tok _, ⟨_, rfl⟩, q⟩ fits
  | lst e n t => cases ru; exact tail _ rfl
  | tup e t => cases ru; exact tail _ rfl
  | dct e t => cases ru; exact tail _ rfl
end
end G

namespace G
open PySem PySem.Spec PyProof.Rows L2

/-! ### errors of own classes as values: made, read, asked for their class -/
/-- what the written part says of an error's class -/
structure EC (K : PySem.W.Frag) (C : Addr) : Prop where
  ox : OexC K C
  hd : PySem.W.hasDictIn K C = true
  ga : PySem.W.findIn K (.ref C) "__getattribute__" = some (some (.builtin "BaseException.__getattribute__"))
  gg : PySem.W.findIn K (.ref C) "__getattr__" = some none
  nv : PySem.W.findIn K (.ref C) "value" = some none
  kl : PySem.W.findIn K (.ref C) "__class__" = some (some (.builtin "object.__class__"))
  ob : PySem.W.mroIn K C (.type "object") = some true
structure EK (K : PySem.W.Frag) : Prop where
  sp : PySem.W.specialIn K (.builtin "object.__class__") "__get__" = some (some (.builtin "getset_descriptor.__get__"))
  tk : PySem.W.takesIn K (.builtin "object.__class__") = some true
/-- an error of the class at C that keeps v -/
def ErrAt (H : Hp) (a C : Addr) (v : V) : Prop := ∃ d, H a = some (exo a C (some d)) ∧ H d = some (exd d [("value", v)])
theorem ErrAt.same {H H' : Hp} (S : Same H H') {a C : Addr} {v : V} (e : ErrAt H a C v) : ErrAt H' a C v := let ⟨d, h1, h2⟩ := e; ⟨d, S _ _ h1, S _ _ h2⟩
theorem EC.cls {K : PySem.W.Frag} {C : Addr} (T : EC K C) : (PySem.W.clsIn K C).isSome = true := by
  have h := T.hd
  unfold PySem.W.hasDictIn at h
  cases e : PySem.W.clsIn K C with
  | none => rw [e] at h; exact absurd h (by decide)
  | some c => rfl
section
variable {X : Cx}
theorem err_inst {pins : List (Addr × Obj)} {σ : L2.St} {H : Hp} {s : Shared} (I : Inv X pins σ H s) {a C : Addr} {v : V} (e : ErrAt H a C v) :
    ∃ (ox : Obj) (od : Obj) (mA : Str → Option Value) (dx : Addr), PySem.W.InstAt s.heap a ox C (some od) ∧ s.heap.Ns1 dx mA ∧ s.heap.get? dx = some od ∧ (∀ f, RelO (([("value", v)] : List (Str × V)).lookup f) (mA f)) := by
  obtain ⟨d, h1, h2⟩ := e
  obtain ⟨t1, ho⟩ := exo_at I.hok h1
  obtain ⟨mA, hn, hr⟩ := exd_at I.hok h2
  obtain ⟨o, es, ep, hd, hz⟩ := id hn
  exact ⟨_, o, mA, d, ⟨ho, rfl, rfl, hd⟩, hn, hd, hr⟩
/-- e.value -/
theorem pe_value {e : Expr} {te : TE} {pos : Pos} (he : PE X e te) (hb : attributeBase e "value" X.env (eval e X.env) = eval e X.env := by rfl) :
    PE X (.Attribute e "value" pos) (fun σ H Q => te σ H fun x H1 => ∃ a C v, x = .ref a ∧ EC X.K C ∧ ErrAt H1 a C v ∧ Q v H1) := by
  constructor
  intro pins s σ H Q I h
  refine attr_of hb (thn (he.run pins s σ H _ I h) ?_)
  rintro u s1 ⟨x, H1, I1, rx, a, C, v, rfl, T, ea, q⟩
  cases rx
  obtain ⟨ox, od, mA, dx, J, hn, hd, hr⟩ := err_inst I1 ea
  obtain ⟨od', hod, hl⟩ := lookIn_ns hn
  have eo : od' = od := Option.some.inj (hod.symm.trans hd)
  subst eo
  obtain ⟨u, hu, ru⟩ := RelO.some_of (v := v) (o := mA "value") (by have := hr "value"; simpa [List.lookup] using this)
  exact HandSPX.exc_get I1.kIn J T.ga T.gg T.ox.exC (PySem.W.findObj_own T.hd T.nv rfl (by rw [hl, hu])) (handed_of ru) ⟨v, H1, I1.tok _, ru, q⟩
/-- isinstance(e, C) of such an error -/
theorem call_isErr (S : EK X.K) : CallR X (.builtin "isinstance") (fun xs H Q => ∃ (a C : Addr) (v c : V) (u : Value) (b : Bool), xs = [.ref a, c] ∧ ClsV c u ∧ EC X.K C ∧ ErrAt H a C v ∧ PySem.W.kitOne X.K (.ref C) u = some b ∧ Q (.bl b) H) := by
  intro pins s σ H xs us Q I r h
  obtain ⟨a, C, v, c, u, b, rfl, k, T, ea, e, q⟩ := h
  obtain ⟨u1, u2, rfl, r1, r2⟩ := vals2 r
  have e2 := k.eq r2
  subst e2
  cases r1
  obtain ⟨ox, od, mA, dx, J, hn, hd, hr⟩ := err_inst I ea
  exact PySem.W.kia_one (PySem.W.kitx_exc (gt := none) T.cls T.ga T.gg T.ox.exC T.kl S.sp S.tk T.ob) I.kIn J e (fun z => nomatch z) fun tk => ⟨.bl b, H, I.tok tk, rfl, q⟩

/-- what __init__ of the errors promises: the first attribute, value -/
def spErrInit (K : PySem.W.Frag) : Sp := fun vs H Q _ => ∃ (a C : Addr) (v : V), vs = [.ref a, v] ∧ OexC K C ∧ PySem.W.findIn K (.ref C) "value" = some none ∧ H a = some (exo a C none) ∧
  ∀ dx, H dx = none → dx ≠ a → Q .non (upd (upd H dx (exd dx [("value", v)])) a (exo a C (some dx)))
/-- C(e): a new error of the class at C, with its dict -/
def tErr (C : Addr) (ta : TA) : TE := fun σ H Q => ta σ H fun vs H1 => ∃ v, vs = [v] ∧ ∀ a H2, H1 a = none → Same H1 H2 → ErrAt H2 a C v → Q (.ref a) H2
theorem pe_err {CX : CXT} {k : Nat} {fI C : Addr} {fd : FuncData} {x : Str} {e : Expr} {ta : TA} {p pos : Pos} (T : EC X.K C) (iC : PySem.W.findIn X.K (.ref C) "__init__" = some (some (.ref fI))) (tI : PySem.W.typeIn X.K (.ref fI) = some (.type "function"))
    (F : FnOk X.prog X.w X.K X.mg X.base CX k fI fd ["self", "value"] (spErrInit X.K)) (hr : Room (k + 1) X.A) (hb : Binds X.K fd ["self", "value"] []) (hx : Passes CX X (fun _ _ _ => False)) (hg : Gl X x) (hm : X.mg x = some (.ref C)) (ha : PA X [e] ta)
    (hdb : (x == ("__debug__" : Str)) = false := by decide) (he : starEach (e :: []) X.env = (false, eval e X.env) :: starEach [] X.env := by rfl) (hpl : (backTo pos (starEach [] X.env)).any (·.1) = false := by rfl) :
    PE X (.Call (.Name x p) [e] [] pos) (tErr C ta) := by
  constructor
  intro pins s σ H Q I h
  obtain ⟨nm, q, N, bs, bm, sn, sub, ab, col, dd, k0, k1, k2, k3, k5, hC, hbm⟩ := T.ox.cls
  apply wpAny_Call_Name_kw
  apply ld_glob I hg hm _ hdb
  apply PySem.W.callWith_K (h₀ := X.base) I.ok.mod.kin T.ox.kC _ he hpl
  apply thn (ha.run pos pins s σ H _ I h)
  rintro us s1 ⟨vs, H1, I1, r1, v, rfl, q1⟩
  refine ⟨I1.kIn, ?_⟩
  obtain ⟨u, rfl, ru⟩ := vals1 r1
  show wpAny _ _ (call (.ref C) [u]) _ _ _
  obtain ⟨hp, g, dr, tk, os⟩ := s1
  have up : hp.objs.size ≤ hp.objs.size + 1 := Nat.le_succ _
  have fresh : H1 (hp.objs.size + 1) = none := I1.hok.fresh up
  have keep : ∀ b o, hp.get? b = some o → ((hp.push (PySem.W.kdv_tup [u])).push (PySem.HandSPX.excO C hp.objs.size)).get? b = some o := fun b o z => Heap.get?_push_of_some _ (Heap.get?_push_of_some _ z)
  have here : ((hp.push (PySem.W.kdv_tup [u])).push (PySem.HandSPX.excO C hp.objs.size)).get? (hp.objs.size + 1) = some (PySem.HandSPX.excO C hp.objs.size) := by heap_get
  have J := I1.laid (t' := tk) (a := hp.objs.size + 1) (o := exo (hp.objs.size + 1) C none) keep up (exo_ok here)
  have sp : spErrInit X.K [.ref (hp.objs.size + 1), v] (upd H1 (hp.objs.size + 1) (exo (hp.objs.size + 1) C none)) (fun w H2 => w = .non ∧ Q (.ref (hp.objs.size + 1)) H2) (fun _ _ _ => False) := by
    refine ⟨hp.objs.size + 1, C, v, rfl, T.ox, T.nv, upd_same, fun dx hdx hne => ⟨rfl, q1 _ _ fresh ?_ ⟨dx, upd_same, ?_⟩⟩⟩
    · intro b o z
      rw [upd_ne hne] at hdx
      rw [upd_ne (ne_of_none z fresh), upd_ne (ne_of_none z hdx), upd_ne (ne_of_none z fresh)]
      exact z
    · rw [upd_ne hne]; exact upd_same
  apply wpAny_call
  apply PySem.HandSPX.call_own F_ve (fun Y => PySem.HandSPX.refsVE_contains Y bm hbm) (I1.kIn _ _ hC) (PySem.W.looks_findIn I1.kIn iC) (fun self => PySem.W.bind_fn I1.kIn self tI) (by rw [List.length_singleton, sizeLine_eq]; omega)
  have B := hb ⟨(hp.push (PySem.W.kdv_tup [u])).push (PySem.HandSPX.excO C hp.objs.size), g, dr, tk, os⟩ [.ref (hp.objs.size + 1), u] J.kIn rfl
  apply codeAny_mono (F.run _ X.stack _ _ ⟨[.ref (hp.objs.size + 1), u], []⟩ [.ref (hp.objs.size + 1), u] [.ref (hp.objs.size + 1), v] _ (fun _ _ _ => False) (hr.make C [u] []) (J.env0.make C [u] []) B (.cons rfl (.cons ru .nil)) sp)
  intro res s' done
  match res, done with
  | .error er, z => exact hx pins σ _ _ er s' J z
  | .ok .next, z => exact z.elim
  | .ok .brk, z => exact z.elim
  | .ok .cont, z => exact z.elim
  | .ok (.ret w), z =>
    obtain ⟨y, H2, J2, ry, ey, q2⟩ := J.after z
    subst ey
    exact ⟨ry, .ref (hp.objs.size + 1), H2, J2, rfl, q2⟩
where F_ve := PySem.F.excBase_ValueError
end
end G

namespace G
open PySem PySem.Spec PyProof.Rows L2

/-! ### the law's own call, entered while nothing shows itself -/
theorem lawCall {P : Program} {w : World} {K : PySem.W.Frag} {mg mb : Str → Option Value} {k : Nat} {fa a : Addr} {fd : FuncData} {x : Str} {sp : Sp} {s₁ : Shared} {vs : List Value} {ns : List Int}
    (KX : K.In s₁.heap) (glob : s₁.heap.Ns mainGlobals mg) (bltn : s₁.heap.Ns builtinsNs mb) (boot : ∀ x : Str, x ≠ "__name__" → mb x = bootBuiltins x) (lim : s₁.heap.NoLimit) (gens : s₁.gens = #[])
    (obj : s₁.heap.get? a = some { cls := .type "list", data := .seq vs.toArray }) (nums : IntsAre vs ns) (short : ns.length ≤ sizeLine) (room : Room k callerA)
    (F : ∀ base : Heap, K.In base → base.Ns mainGlobals mg → Fn P w K mg base CX0 k fa fd [x] sp) (bind : ∀ (s : Shared) (u : Value), BindsTo s fd ⟨[u], []⟩ [(x, u)])
    (told : ∀ H : Hp, Only H → SqL K H a (ns.map V.int) → sp [.ref a] H (fun v _ => v = .bl true) fun _ _ _ => False) :
    codeAny (model P w) callerA (.call (.ref fa) ⟨[.ref a], []⟩) (fun r s' => r = .ok (.ret (.bool true)) ∧ OldK s₁.heap s'.heap ∧ s'.os = s₁.os ∧ AllBare s'.gens) s₁ := by
  have rv := vals_ints nums
  have lenV := nums.length
  -- over an abstract heap that knows of the script at most
  suffices core : ∀ H : Hp, Only H → SqL K H a (ns.map V.int) → HOk P w H s₁.heap → (∀ b, H b ≠ none → b = a) → (H a ≠ none → K.lookup a = none) →
      codeAny (model P w) callerA (.call (.ref fa) ⟨[.ref a], []⟩) (fun r s' => r = .ok (.ret (.bool true)) ∧ OldK s₁.heap s'.heap ∧ s'.os = s₁.os ∧ AllBare s'.gens) s₁ by
    cases hk : K.lookup a with
    | some o =>
      have z := KX a o hk
      rw [obj] at z
      obtain rfl := Option.some.inj z
      apply core (fun _ => none) (fun _ => Or.inl rfl)
      · exact Or.inr ⟨_, vs.toArray, _, hk, rfl, rfl, rfl, by rw [List.size_toArray, lenV]; exact short, by simpa using rv⟩
      · intro b u z
        exact absurd (show (none : Option HO) = some u from z) (by simp)
      · exact fun b z => absurd rfl z
      · exact fun z => absurd rfl z
    | none =>
      apply core (fun b => if b = a then some (.frz { cls := .type "list", data := .seq vs.toArray } (.lst (ns.map V.int))) else none)
      · intro b
        by_cases hb : b = a
        · exact Or.inr ⟨_, _, if_pos hb⟩
        · exact Or.inl (if_neg hb)
      · exact Or.inl (Or.inr ⟨{ cls := .type "list", data := .seq vs.toArray }, if_pos rfl⟩)
      · intro b u z
        by_cases hb : b = a
        · obtain rfl := Option.some.inj ((if_pos hb).symm.trans z)
          rw [hb]
          exact ⟨obj, by rw [List.length_map]; exact short, vs, _, rv, obj⟩
        · exact absurd ((if_neg hb).symm.trans z) (by simp)
      · intro b z
        by_cases hb : b = a
        · exact hb
        · exact absurd (if_neg hb) z
      · exact fun _ => hk
  intro H hO hS hok hA hK
  have dictFree : ∀ {b : Addr} {o : Obj} {es : Array DictEntry} {ep : Nat}, s₁.heap.get? b = some o → o.data = .dict es ep → H b = none := by
    intro b o es ep e d
    cases q : H b with
    | none => rfl
    | some u =>
      obtain rfl := hA b (by rw [q]; simp)
      rw [obj] at e
      obtain rfl := Option.some.inj e
      exact absurd (show Data.seq vs.toArray _ = Data.dict es ep from d) (by simp)
  have nsB : ∀ {b : Addr} {m : Str → Option Value}, s₁.heap.Ns b m → (hidT s₁.heap H).Ns b m := by
    rintro b m ⟨o, es, ep, e, d, r⟩
    exact ⟨o, es, ep, hidT_get e (dictFree e d), d, r⟩
  have inB : K.In (hidT s₁.heap H) := by
    intro b o e
    apply hidT_get (KX b o e)
    cases q : H b with
    | none => rfl
    | some u =>
      obtain rfl := hA b (by rw [q]; simp)
      rw [hK (by rw [q]; simp)] at e
      exact absurd e (by simp)
  have M : Mod K mg (hidT s₁.heap H) := by
    obtain ⟨mc, l1, l2⟩ := lim
    exact ⟨inB, nsB glob, ⟨mb, nsB bltn, boot⟩, ⟨mc, nsB l1, l2⟩⟩
  have none_in : ∀ b : Addr, ¬ b ∈ frs ([] : List Env) := fun b z => absurd (show b ∈ ([] : List Addr) from z) (by simp)
  have e0 : Env0 P w K mg (hidT s₁.heap H) callerA [] s₁ H := ⟨rfl, M, fun b o e => of_hidT e, Nat.le_of_eq (hidT_size _ _), trivial, fun b hb => absurd hb (none_in b), hok, .of_eq gens⟩
  apply codeAny_mono ((F _ inB (nsB glob)).run callerA [] s₁ H ⟨[.ref a], []⟩ [.ref a] [.ref a] _ _ rfl room e0 (bind s₁ (.ref a)) (.cons rfl .nil) (told H hO hS))
  intro r s' h
  match r, h with
  | .error e, h => exact h.elim
  | .ok .next, h => exact h.elim
  | .ok .brk, h => exact h.elim
  | .ok .cont, h => exact h.elim
  | .ok (.ret u), h =>
    obtain ⟨v, H', os, bare, un, hok', r', q⟩ := h
    obtain rfl : v = .bl true := q
    obtain rfl : u = Value.bool true := r'
    refine ⟨rfl, OldK.of_keep fun b o e => ?_, os, bare⟩
    cases q : H b with
    | none => exact un.keep b o e q (none_in b) (by simp)
    | some u =>
      rcases hO b with z | ⟨ob, xs, z⟩
      · rw [q] at z; cases z
      · obtain ⟨e1, _⟩ := hok b _ z
        obtain ⟨e2, _⟩ := hok' b _ (un.frzs b ob _ z)
        rw [e] at e1
        obtain rfl := Option.some.inj e1
        exact e2
theorem walkOf {l : PySem.W.OpenLaw} {n k : Nat} {q : Program} {loose : List Str} {XP : (Str → Option Value) → Heap → Prop} {YP : World → Heap → Prop} {d : DefRec} {K : Params → PySem.W.Frag} {sp : PySem.W.Frag → Sp} {x : Str}
    (hn : l.most = some n) (hn2 : n ≤ sizeLine) (hdf : d.params.defaults = []) (hr : Room k callerA) (hY : ∀ (w : World) (h : Heap), YP w h → (K w.params).In h)
    (F : ∀ (w : World) (mg : Str → Option Value) (fa : Addr) (h : Heap), (K w.params).In h → h.Ns mainGlobals mg → mg d.name = some (.ref fa) →
      ∃ fd : FuncData, (∀ (s : Shared) (u : Value), BindsTo s fd ⟨[u], []⟩ [(x, u)]) ∧ ∀ base : Heap, (K w.params).In base → base.Ns mainGlobals mg → Fn l.prog w (K w.params) mg base CX0 k fa fd [x] (sp (K w.params)))
    (told : ∀ (K : PySem.W.Frag) (H : Hp) (a : Addr) (ns : List Int), ns.length ≤ n → Only H → SqL K H a (ns.map V.int) → sp K [.ref a] H (fun v _ => v = .bl true) fun _ _ _ => False) :
    PySem.W.WalkO q loose XP YP l.row.toRowW d [] (fun f vs => PySem.call f vs) := by
  apply Att.attach_call hn hdf
  intro w s₀ s₁ mg mb fa o pm cd doc a vs ns G Y ho hd hcd hmg hobj hints hlen hg
  have KX := hY w _ Y
  obtain ⟨fd, hb, hF⟩ := F w mg fa _ KX G.T.g hmg
  exact lawCall KX G.T.g G.T.b G.T.builtins G.T.nolimit hg hobj hints (Nat.le_trans hlen hn2) hr hF hb fun H hO hS => told (K w.params) H a ns hlen hO hS
end G

namespace G
open PySem PySem.Spec PyProof.Rows L2 HT

/-! ### further operators -/
/-- a ** b of greater ints -/
def CPowW (i j : Int) : Prop := 2 ≤ i ∧ 1 ≤ j ∧ ((Builtin.Int.intBits i : Nat) : Int) * j ≤ 100000
section
variable {X : Cx}
theorem op_powW : OpR X (binaryOp .Pow) (rI CPowW fun i j => .int (i ^ j.toNat)) := opI fun i j t u s Q E hc q => by
  obtain ⟨h1, h2, h3⟩ := hc
  have n0 : ¬ (j == 0) = true := by simp; omega
  have n1 : ¬ (i == 0 || i == 1) = true := by simp; omega
  have n2 : ¬ (i == -1) = true := by simp; omega
  have n3 : ¬ Builtin.Int.intTooBig (((Builtin.Int.intBits i : Nat) : Int) * j) = true := by
    have e : bitsLine = 134217728 := by decide
    unfold Builtin.Int.intTooBig
    rw [e]
    intro z
    have := of_decide_eq_true z
    omega
  exact PySem.AutoIntOps.pow_4 (by omega) n0 n1 n2 n3 q
end

section
variable {prog : Program} {w : World} {A : Around} {E : Value → Shared → Prop} {s : Shared}
theorem fm_map {α β : Type} {f : α → Option β} {g : α → β} : ∀ (l : List α), (∀ m ∈ l, f m = some (g m)) → l.filterMap f = l.map g
  | [], _ => rfl
  | a :: r, h => by rw [List.filterMap_cons, h a (List.mem_cons_self ..), List.map_cons, fm_map r fun m hm => h m (List.mem_cons_of_mem _ hm)]
theorem back_run (xs : List Value) : ((List.range xs.length).filterMap fun (m : Nat) => xs.toArray[((xs.length : Int) - 1 + (m : Int) * (-1)).toNat]?) = xs.reverse := by
  apply List.ext_getElem?
  intro i
  have e : ((List.range xs.length).filterMap fun (m : Nat) => xs.toArray[((xs.length : Int) - 1 + (m : Int) * (-1)).toNat]?) = (List.range xs.length).map fun (m : Nat) => (xs[xs.length - 1 - m]?).getD .none := by
    apply fm_map
    intro m hm
    have hm' : m < xs.length := List.mem_range.mp hm
    have e1 : ((xs.length : Int) - 1 + (m : Int) * (-1)).toNat = xs.length - 1 - m := by omega
    rw [e1, List.getElem?_toArray, List.getElem?_eq_getElem (by omega)]
    rfl
  rw [e, List.getElem?_map]
  by_cases hi : i < xs.length
  · rw [List.getElem?_range hi, Option.map_some, List.getElem?_eq_getElem (by omega), List.getElem?_reverse hi, List.getElem?_eq_getElem (by omega)]
    rfl
  · rw [List.getElem?_eq_none (by simpa using hi), List.getElem?_eq_none (by rw [List.length_reverse]; omega)]
    rfl
theorem getItem_tuple_back {t sl : Addr} {its : List Value} {u : Tok} {Q : Value → Shared → Prop} (ht : IsTup s.heap t its.toArray) (hs : s.heap.IsSliceOf sl .none .none (.int (-1) u)) (hsz : its.length ≤ sizeLine)
    (h : Q (.ref s.heap.objs.size) { s with heap := s.heap.push { cls := .type "tuple", data := .seq its.reverse.toArray } }) : wpAny (model prog w) A (getItem (.ref t) (.ref sl)) Q E s := by
  have big : sizeOk (.seq its.reverse.toArray) := by
    show its.reverse.toArray.size ≤ sizeLine
    rw [List.size_toArray, List.length_reverse]; exact hsz
  obtain ⟨os, hos, hcs, hds⟩ := id hs
  have hTs : s.TypeIs (.ref sl) "slice" := ⟨os, hos, hcs⟩
  unfold getItem
  try with_reducible refine wpAny_holding ?_
  first | refine wpAny_bind (wpAny_pure ?_) | skip
  apply wpAny_bind
  apply wpAny_sequenceKey ht.typeIs (by decide)
  apply wpAny_bind
  apply wpAny_callSpecial?_slot (name := Str.ofString "__getitem__") ht.typeIs PyProof.Rows.slot_tuple_getitem
  refine wpAny_call_entry PyProof.Rows.slot_tuple_getitem ht.typeIs entry_tuple_getitem ?_ (args_tuple_getitem _ _)
  show wpAny _ _ (Builtin.Tuple.tupleItemsOf (.ref t) >>= _) _ _ s
  apply wpAny_bind
  apply tupleItemsOf_ ht
  apply wpAny_bind
  apply wpAny_typeOf hTs
  rw [if_pos (by decide)]
  apply wpAny_bind
  unfold Builtin.Slice.sliceApplied Builtin.Slice.sliceFields
  apply wpAny_bind
  refine wpAny_bind (wpAny_field hos hds (x := .none) rfl (wpAny_bind (wpAny_field hos hds (x := .none) rfl (wpAny_bind (wpAny_field hos hds (x := .int (-1) u) rfl (wpAny_pure ?_))))))
  apply wpAny_bind
  apply slicePart_int
  show wpAny _ _ (if ((-1 : Int) == 0) = true then _ else _) _ _ s
  rw [if_neg (by decide)]
  refine wpAny_bind (slicePart_none (wpAny_bind (slicePart_none (wpAny_bind (wpAny_pure ?_)))))
  show wpAny _ _ (match Builtin.Slice.sliceAdjust none none (-1) (its.toArray.size : Int) with | (lo, hi) => pure (lo, (-1 : Int), Builtin.Slice.slicePlaces lo hi (-1))) _ _ s
  have e1 : Builtin.Slice.sliceAdjust none none (-1) (its.toArray.size : Int) = ((its.length : Int) - 1, -1) := by
    unfold Builtin.Slice.sliceAdjust
    have h1 : ((-1 : Int) < 0) := by omega
    simp [h1]
  have e2 : Builtin.Slice.slicePlaces ((its.length : Int) - 1) (-1) (-1) = its.length := by
    unfold Builtin.Slice.slicePlaces
    simp
    split <;> omega
  rw [e1]
  show wpAny _ _ (pure ((its.length : Int) - 1, (-1 : Int), Builtin.Slice.slicePlaces ((its.length : Int) - 1) (-1) (-1))) _ _ s
  rw [e2]
  refine wpAny_pure ?_
  have no : ¬ ((((its.length : Int) - 1 == 0) && ((-1 : Int) == 1) && (its.length == its.toArray.size)) = true) := by
    have : ((-1 : Int) == 1) = false := by decide
    rw [this, Bool.and_false, Bool.false_and]
    exact Bool.false_ne_true
  show wpAny _ _ (if ((((its.length : Int) - 1 == 0) && ((-1 : Int) == 1) && (its.length == its.toArray.size)) = true) then _ else _) _ _ s
  rw [if_neg no, back_run]
  first
    | exact wpAny_bind (m := Builtin.Tuple.tupleExact _) (wpAny_newObj_type (wpAny_pure ⟨_, rfl, wpAny_pure h⟩) big)
    | exact wpAny_bind (m := Builtin.Tuple.tupleExact _) (wpAny_newObj_type (wpAny_bind (wpAny_pure (wpAny_pure ⟨_, rfl, wpAny_pure h⟩))) big)
    | exact wpAny_bind (wpAny_bind (m := Builtin.Tuple.tupleExact _) (wpAny_newObj_type (wpAny_pure (wpAny_pure ⟨_, rfl, wpAny_pure h⟩)) big))
    | exact wpAny_bind (wpAny_bind (m := Builtin.Tuple.tupleExact _) (wpAny_newObj_type (wpAny_pure ⟨_, rfl, wpAny_pure h⟩) big))
end
section
variable {X : Cx}
/-- t[::-1], t a tuple -/
def tRevT (te : TE) : TE := fun σ H Q => te σ H fun x H1 => ∃ a xs, x = .ref a ∧ H1 a = some (.tup xs) ∧ ∀ p, H1 p = none → Q (.ref p) (upd H1 p (.tup xs.reverse))
theorem pe_revT {e : Expr} {te : TE} {k : Nat} {p1 p2 p3 pos : Pos} (he : PE X e te) : PE X (.Subscript e (.Slice none none (some (.UnaryOp .USub (.Constant (.int 1) k p1) p2)) p3) pos) (tRevT te) := by
  constructor
  intro pins s σ H Q I h
  apply Subscript_
  apply thn (he.run pins s σ H _ I h)
  rintro v s1 ⟨x, H1, I1, r1, a, xs, rfl, hx, q⟩
  cases r1
  have part : PO X (some (.UnaryOp .USub (.Constant (.int 1) k p1) p2)) (tPart (tUn (rU fun i => .int (-i)) (tC (.int 1)))) := po_some (pe_un un_neg pe_int)
  apply wpAny_Slice
  apply thn (po_none.run pins s1 σ H1 (fun o H2 => o = none ∧ H2 = H1) I1 ⟨rfl, rfl⟩)
  rintro vl s2 ⟨l, H2, I2, pl, rfl, rfl⟩
  apply thn (po_none.run pins s2 σ H2 (fun o H3 => o = none ∧ H3 = H2) I2 ⟨rfl, rfl⟩)
  rintro vu s3 ⟨u, H3, I3, pu, rfl, rfl⟩
  apply thn (part.run pins s3 σ H3 (fun o H4 => o = some (-1) ∧ H4 = H3) I3 ⟨1, rfl, -1, rfl, rfl, rfl⟩)
  rintro vs s4 ⟨o, H4, I4, ps, rfl, rfl⟩
  cases pl
  cases pu
  cases ps with
  | int _ tk =>
  have I5 : Inv X pins σ H4 { s4 with heap := s4.heap.push { cls := .type "slice", data := .fields #[.none, .none, .int (-1) tk] } } := I4.kept (t' := s4.toks) fun b ob z => Heap.get?_push_of_some _ z
  obtain ⟨hz, its, r, ht⟩ := I5.hok a _ hx
  have hl := r.length
  show wpAny (model X.prog X.w) X.A (subscriptTail e (.Slice none none (some (.UnaryOp .USub (.Constant (.int 1) k p1) p2)) p3) (.ref a) (.ref s4.heap.objs.size)) (EP X pins σ Q) X.xe { s4 with heap := s4.heap.push { cls := .type "slice", data := .fields #[.none, .none, .int (-1) tk] } }
  apply tail_any (ops := [.ref a, .ref s4.heap.objs.size]) (IsTup.typeIs ht) PyProof.Rows.slot_tuple_getitem.lookup _ (by with_unfolding_all rfl)
  apply getItem_tuple_back ht (Heap.IsSliceOf.new _ .none .none (.int (-1) tk)) (by omega)
  refine ⟨.ref _, _, I5.laid (t' := s4.toks) (o := .tup xs.reverse) (fun b ob z => Heap.get?_push_of_some _ z) (Nat.le_refl _) ?_, rfl, q _ (I5.hok.fresh (Nat.le_refl _))⟩
  exact ⟨by rw [List.length_reverse]; exact hz, _, r.reverse, ⟨_, Heap.get?_push_size _ rfl, rfl, _, rfl⟩⟩
/-- a list display, whose place is not the table of modules -/
def tLstS (t : TA) : TE := fun σ H Q => t σ H fun xs H1 => xs.length ≤ sizeLine ∧ ∀ p, H1 p = none → p ≠ sysModules → Q (.ref p) (upd H1 p (.lst xs))
theorem pe_lstS {es : List Expr} {t : TA} {pos : Pos} (h : PA X es t) : PE X (.List es pos) (tLstS t) := by
  constructor
  intro pins s σ H Q I hq
  apply wpAny_List_spliced
  apply thn (h.run pos pins s σ H _ I hq)
  rintro us s1 ⟨xs, H1, I1, r, z, q⟩
  refine ⟨by rw [← r.length]; exact z, ?_⟩
  refine ⟨.ref s1.heap.objs.size, upd H1 s1.heap.objs.size (.lst xs), I1.laid (t' := s1.toks) (fun b u e => Heap.get?_push_of_some _ e) (Nat.le_refl _) ?_, rfl, q _ (I1.hok.fresh (Nat.le_refl _)) (Nat.ne_of_gt I1.big)⟩
  exact ⟨z, us, 0, r, Heap.get?_push_size _ rfl⟩
end
end G

namespace G
open PySem PySem.Spec PyProof.Rows L2

/-! ### data apart from some addresses -/
open Classical in
noncomputable def mask (N : Addr → Prop) (H : Hp) : Hp := fun b => if N b then none else H b
theorem mask_out {N : Addr → Prop} {H : Hp} {b : Addr} (h : ¬ N b) : mask N H b = H b := by unfold mask; rw [if_neg h]
theorem mask_in {N : Addr → Prop} {H : Hp} {b : Addr} (h : N b) : mask N H b = none := by unfold mask; rw [if_pos h]
theorem mask_some {N : Addr → Prop} {H : Hp} {b : Addr} {o : HO} (h : mask N H b = some o) : ¬ N b ∧ H b = some o := by
  by_cases e : N b
  · rw [mask_in e] at h; cases h
  · rw [mask_out e] at h; exact ⟨e, h⟩
theorem mask_le (N : Addr → Prop) (H : Hp) : Same (mask N H) H := fun b o h => (mask_some h).2
theorem mask_mono {N : Addr → Prop} {H H' : Hp} (S : Same H H') : Same (mask N H) (mask N H') := fun b o h => by
  rw [mask_out (mask_some h).1]; exact S b o (mask_some h).2
theorem mask_less {N M : Addr → Prop} {H : Hp} (h : ∀ b, M b → N b) : Same (mask N H) (mask M H) := fun b o e => by
  rw [mask_out fun z => (mask_some e).1 (h b z)]; exact (mask_some e).2
theorem same_new {H : Hp} {q : Addr} {o : HO} (h : H q = none) : Same H (upd H q o) := fun b u e => by rw [upd_ne (ne_of_none e h)]; exact e

def Is (N : Addr → Prop) (H : Hp) (G : PyData → Prop) (v : V) : Prop := ∃ d, Da (mask N H) v d ∧ G d
theorem Is.same {N : Addr → Prop} {H H' : Hp} {G : PyData → Prop} {v : V} (S : Same H H') (h : Is N H G v) : Is N H' G v := let ⟨d, a, g⟩ := h; ⟨d, a.same (mask_mono S), g⟩
theorem Is.less {N M : Addr → Prop} {H : Hp} {G : PyData → Prop} {v : V} (h : ∀ b, M b → N b) (x : Is N H G v) : Is M H G v := let ⟨d, a, g⟩ := x; ⟨d, a.same (mask_less h), g⟩
theorem Is.imp {N : Addr → Prop} {H : Hp} {G G' : PyData → Prop} {v : V} (h : ∀ d, G d → G' d) (x : Is N H G v) : Is N H G' v := let ⟨d, a, g⟩ := x; ⟨d, a, h d g⟩
theorem is_int {N : Addr → Prop} {H : Hp} {G : PyData → Prop} {i : Int} (g : G (.int i)) : Is N H G (.int i) := ⟨_, .int i, g⟩
theorem is_str {N : Addr → Prop} {H : Hp} {G : PyData → Prop} {x : Str} (g : G (.str x)) : Is N H G (.str x) := ⟨_, .str x, g⟩
theorem is_bl {N : Addr → Prop} {H : Hp} {G : PyData → Prop} {b : Bool} (g : G (.bool b)) : Is N H G (.bl b) := ⟨_, .bl b, g⟩
theorem is_non {N : Addr → Prop} {H : Hp} {G : PyData → Prop} (g : G .none) : Is N H G .non := ⟨_, .non, g⟩
theorem daAll_of {N : Addr → Prop} {H : Hp} {G : PyData → Prop} : ∀ {xs : List V}, (∀ x ∈ xs, Is N H G x) → ∃ ds, DaAll (mask N H) xs ds ∧ ds.length = xs.length ∧ ∀ d ∈ ds, G d
  | [], _ => ⟨[], .nil, rfl, fun _ h => nomatch h⟩
  | x :: xs, h => by
    obtain ⟨d, a, g⟩ := h x (List.mem_cons_self ..)
    obtain ⟨ds, b, l, gs⟩ := daAll_of (xs := xs) fun y hy => h y (List.mem_cons_of_mem _ hy)
    refine ⟨d :: ds, .cons a b, by rw [List.length_cons, List.length_cons, l], fun y hy => ?_⟩
    rcases List.mem_cons.mp hy with e | hy
    · rw [e]; exact g
    · exact gs y hy
theorem is_of_daAll {N : Addr → Prop} {H : Hp} {G : PyData → Prop} : ∀ {xs : List V} {ds : List PyData}, DaAll (mask N H) xs ds → (∀ d ∈ ds, G d) → ∀ x ∈ xs, Is N H G x
  | _, _, .nil, _, _, h => nomatch h
  | _, _, .cons (d := d) a b, g, x, h => by
    rcases List.mem_cons.mp h with e | h
    · rw [e]; exact ⟨d, a, g d (List.mem_cons_self ..)⟩
    · exact is_of_daAll b (fun y hy => g y (List.mem_cons_of_mem _ hy)) x h
theorem is_tup {N : Addr → Prop} {H : Hp} {G G' : PyData → Prop} {a : Addr} {xs : List V} (hN : ¬ N a) (ha : H a = some (.tup xs)) (hx : ∀ x ∈ xs, Is N H G' x) (g : ∀ ds : List PyData, ds.length = xs.length → (∀ d ∈ ds, G' d) → G (.tuple ds)) : Is N H G (.ref a) := by
  obtain ⟨ds, b, l, gs⟩ := daAll_of hx
  exact ⟨_, .tup (by rw [mask_out hN]; exact ha) b, g ds l gs⟩
theorem is_lst {N : Addr → Prop} {H : Hp} {G G' : PyData → Prop} {a : Addr} {xs : List V} (hN : ¬ N a) (ha : H a = some (.lst xs)) (hs : a ≠ sysModules) (hx : ∀ x ∈ xs, Is N H G' x) (g : ∀ ds : List PyData, ds.length = xs.length → (∀ d ∈ ds, G' d) → G (.list ds)) : Is N H G (.ref a) := by
  obtain ⟨ds, b, l, gs⟩ := daAll_of hx
  exact ⟨_, .lst (by rw [mask_out hN]; exact ha) hs b, g ds l gs⟩

/-! ### what evaluates to good data, leaving all that is tracked as it is -/
def EvG (N : Addr → Prop) (te : TE) (σ : L2.St) (H : Hp) (G : PyData → Prop) : Prop := ∀ H1, Same H H1 → ∀ Q : VK, (∀ v H2, Same H1 H2 → Is N H2 G v → Q v H2) → te σ H1 Q
def EvGA (N : Addr → Prop) (ta : TA) (σ : L2.St) (H : Hp) (G : PyData → Prop) (m : Nat) : Prop :=
  ∀ H1, Same H H1 → ∀ Q : List V → Hp → Prop, (∀ vs H2, Same H1 H2 → vs.length = m → (∀ x ∈ vs, Is N H2 G x) → Q vs H2) → ta σ H1 Q
section
variable {N : Addr → Prop} {σ : L2.St} {H : Hp} {G G' : PyData → Prop} {te : TE} {ta : TA} {m : Nat}
/-- only what is tracked is set apart -/
def Tr (N : Addr → Prop) (H : Hp) : Prop := ∀ b, N b → H b ≠ none
theorem Tr.same {H' : Hp} (t : Tr N H) (S : Same H H') : Tr N H' := fun b h => by
  cases e : H b with
  | none => exact absurd e (t b h)
  | some o => rw [S b o e]; simp
theorem Tr.new {q : Addr} (t : Tr N H) (h : H q = none) : ¬ N q := fun z => t q z h
theorem EvG.mono {H' : Hp} (S : Same H H') (h : EvG N te σ H G) : EvG N te σ H' G := fun H1 S1 Q q => h H1 (S.trans S1) Q q
theorem EvGA.mono {H' : Hp} (S : Same H H') (h : EvGA N ta σ H G m) : EvGA N ta σ H' G m := fun H1 S1 Q q => h H1 (S.trans S1) Q q
theorem evg_is {v : V} (h : ∀ H', Is N H' G v) : EvG N (tC v) σ H G := fun H1 _ Q q => q v H1 (Same.refl _) (h H1)
theorem evg_int {i : Int} (g : G (.int i)) : EvG N (tC (.int i)) σ H G := evg_is fun _ => is_int g
theorem evg_str {x : Str} (g : G (.str x)) : EvG N (tC (.str x)) σ H G := evg_is fun _ => is_str g
theorem evg_bl {b : Bool} (g : G (.bool b)) : EvG N (tC (.bl b)) σ H G := evg_is fun _ => is_bl g
theorem evg_non (g : G .none) : EvG N (tC .non) σ H G := evg_is fun _ => is_non g
theorem evg_neg {i : Int} (g : G (.int (-i))) : EvG N (tUn (rU fun i => .int (-i)) (tC (.int i))) σ H G := fun H1 _ Q q => ⟨i, rfl, q _ H1 (Same.refl _) (is_int g)⟩
theorem evg_pow {i j : Int} (c : CPowW i j) (g : G (.int (i ^ j.toNat))) : EvG N (tOp (rI CPowW fun i j => .int (i ^ j.toNat)) (tC (.int i)) (tC (.int j))) σ H G :=
  fun H1 _ Q q => ⟨i, j, rfl, rfl, c, q _ H1 (Same.refl _) (is_int g)⟩
theorem evg_var {i : Nat} {v : V} (h : σ[i]? = some (some v)) (x : Is N H G v) : EvG N (tVar i) σ H G := fun H1 S Q q => ⟨v, h, q v H1 (Same.refl _) (x.same S)⟩
theorem eva_nil : EvGA N tNil σ H G 0 := fun H1 _ Q q => q [] H1 (Same.refl _) rfl fun _ h => nomatch h
theorem eva_cons {tr : TA} (h : EvG N te σ H G) (hr : EvGA N tr σ H G m) : EvGA N (tCons te tr) σ H G (m + 1) := fun H1 S Q q =>
  h H1 S _ fun v H2 S2 x => hr H2 (S.trans S2) _ fun vs H3 S3 l xs => q (v :: vs) H3 (S2.trans S3) (by rw [List.length_cons, l]) fun y hy => by
    rcases List.mem_cons.mp hy with e | hy
    · rw [e]; exact x.same S3
    · exact xs y hy
theorem evg_tup (t : Tr N H) (h : EvGA N ta σ H G' m) (hm : m ≤ 1000) (g : ∀ ds : List PyData, ds.length = m → (∀ d ∈ ds, G' d) → G (.tuple ds)) : EvG N (tTup ta) σ H G := fun H1 S Q q =>
  h H1 S _ fun vs H2 S2 l xs => ⟨by rw [l, sizeLine_eq]; omega, fun p hp => q (.ref p) _ (S2.trans (same_new hp))
    (is_tup (((t.same S).same S2).new hp) upd_same (fun x hx => (xs x hx).same (same_new hp)) fun ds e => g ds (e.trans l))⟩
theorem evg_lst (t : Tr N H) (h : EvGA N ta σ H G' m) (hm : m ≤ 1000) (g : ∀ ds : List PyData, ds.length = m → (∀ d ∈ ds, G' d) → G (.list ds)) : EvG N (tLstS ta) σ H G := fun H1 S Q q =>
  h H1 S _ fun vs H2 S2 l xs => ⟨by rw [l, sizeLine_eq]; omega, fun p hp hs => q (.ref p) _ (S2.trans (same_new hp))
    (is_lst (((t.same S).same S2).new hp) upd_same hs (fun x hx => (xs x hx).same (same_new hp)) fun ds e => g ds (e.trans l))⟩
theorem evg_dnew (t : Tr N H) (g : G (.dict [])) : EvG N tDNewK σ H G := fun H1 S Q q p hp => q (.ref p) _ (same_new hp)
  ⟨_, .dct (kvs := []) (ds := []) (by rw [mask_out ((t.same S).new hp)]; exact upd_same) .nil, g⟩
/-- {'k': e} -/
theorem evg_dict1 {x : Str} (t : Tr N H) (h : ∀ q H1, Same H H1 → EvG (fun b => N b ∨ b = q) te σ H1 G') (g : ∀ d, G' d → G (.dict [(.str x, d)])) : EvG N (tDisp [(tC (.str x), te)]) σ H G := fun H1 S Q q p hp => by
  refine h p _ (S.trans (same_new hp)) _ (Same.refl _) _ fun v H2 S2 ⟨d, a, gd⟩ => ?_
  have e2 : H2 p = some (.dK []) := S2 _ _ upd_same
  refine ⟨e2, [(Sum.inr x, v)], rfl, by show 1 ≤ 15; decide, ?_⟩
  have keep : Same H1 (upd H2 p (.dK (mergeK [] [(Sum.inr x, v)]))) := fun b o e => by
    rw [upd_ne (ne_of_none e hp)]
    exact S2 b o (by rw [upd_ne (ne_of_none e hp)]; exact e)
  refine q (.ref p) _ keep ⟨_, .dct (kvs := [(Sum.inr x, v)]) (ds := [d]) (by rw [mask_out ((t.same S).new hp)]; exact upd_same) (.cons (a.same ?_) .nil), g d gd⟩
  intro b o e
  obtain ⟨nb, eb⟩ := mask_some e
  have n1 : ¬ N b := fun z => nb (Or.inl z)
  have n2 : b ≠ p := fun z => nb (Or.inr z)
  rw [mask_out n1, upd_ne n2]
  exact eb
/-- a new list of good data, where it is -/
theorem eva_list (t : Tr N H) (h : EvGA N ta σ H G m) (hm : m ≤ 1000) {Q : VK} (q : ∀ l xs H2, Same H H2 → H l = none → H2 l = some (.lst xs) → l ≠ sysModules → xs.length = m → (∀ x ∈ xs, Is N H2 G x) → Q (.ref l) H2) : tLstS ta σ H Q :=
  h H (Same.refl _) _ fun vs H2 S2 l xs => ⟨by rw [l, sizeLine_eq]; omega, fun p hp hs => q p vs _ (S2.trans (same_new hp)) (Same.free S2 hp) upd_same hs l fun x hx => (xs x hx).same (same_new hp)⟩
end
end G

namespace G
open PySem PySem.Spec PyProof.Rows L2
section
variable {X : Cx}
/-- list(t), t a tuple: the new list is not the table of modules -/
def rListT : List V → Hp → VK → Prop := fun xs H Q => ∃ p ys, xs = [.ref p] ∧ H p = some (.tup ys) ∧ ∀ l, H l = none → l ≠ sysModules → Q (.ref l) (upd H l (.lst ys))
theorem call_listT : CallR X (.type "list") rListT := by
  intro pins s σ H xs us Q I r h
  obtain ⟨p, ys, rfl, hp, q⟩ := h
  obtain ⟨u, rfl, rx⟩ := vals1 r
  cases rx
  obtain ⟨its, r', ⟨o, ho, hc, n, hd⟩, hz⟩ := I.tuple (SqT.of hp)
  have hlen := r'.length
  refine call_list_seq p (.inr rfl) ho hc hd (fun h' c' kp e => ?_) (by simp only [List.size_toArray] <;> omega)
  refine ⟨.ref s.heap.objs.size, _, I.laid (t' := s.toks) kp (Nat.le_refl _) (o := .lst ys) ⟨hz, its, c', r', e⟩, rfl, q _ (I.hok.fresh (Nat.le_refl _)) (Nat.ne_of_gt I.big)⟩
end

section
variable {K : PySem.W.Frag} {N : Addr → Prop} {σ : L2.St} {H : Hp} {G G' : PyData → Prop} {te tf : TE} {tl th : TO} {m : Nat}
/-! ### tuples: parts, sums, the other way about -/
theorem cutV_mem {xs : List V} {lo hi : Option Int} {x : V} (h : x ∈ cutV xs lo hi) : x ∈ xs := List.mem_of_mem_drop (List.mem_of_mem_take h)
theorem slA_any {a : Addr} {xs : List V} {lo hi : Option Int} {Q : VK} (ha : H a = some (.tup xs)) (q : ∀ b ys H1, Same H H1 → H1 b = some (.tup ys) → (b = a ∨ H b = none) → (∀ y ∈ ys, y ∈ xs) → ys.length ≤ xs.length → Q (.ref b) H1) : rSlA K (.ref a) lo hi H Q :=
  ⟨a, xs, rfl, SqT.of ha, fun _ => q a xs H (Same.refl _) ha (.inl rfl) (fun _ h => h) (Nat.le_refl _), fun _ p hp => q p _ _ (same_new hp) upd_same (.inr hp) (fun _ h => cutV_mem h) (cutV_length _ _ _)⟩
theorem catA_any {a b : Addr} {xs ys : List V} {Q : VK} (ha : H a = some (.tup xs)) (hb : H b = some (.tup ys)) (hz : xs.length + ys.length ≤ 100000)
    (q : ∀ c H1, Same H H1 → H1 c = some (.tup (xs ++ ys)) → (c = a ∨ c = b ∨ H c = none) → Q (.ref c) H1) : rCatA K (.ref a) (.ref b) H Q := by
  refine ⟨a, b, xs, ys, rfl, rfl, SqT.of ha, SqT.of hb, by rw [sizeLine_eq]; omega, fun e => ?_, fun e1 e2 => ?_, fun e1 e2 p hp => ?_⟩
  · exact q b H (Same.refl _) (by rw [e]; exact hb) (.inr (.inl rfl))
  · exact q a H (Same.refl _) (by rw [e2, List.append_nil]; exact ha) (.inl rfl)
  · exact q p _ (same_new hp) upd_same (.inr (.inr hp))
/-- a tuple of good data, outside of N -/
def IsT (N : Addr → Prop) (H : Hp) (G : PyData → Prop) (m : Nat) (v : V) : Prop := ∃ a xs, v = .ref a ∧ ¬ N a ∧ H a = some (.tup xs) ∧ xs.length ≤ m ∧ ∀ x ∈ xs, Is N H G x
theorem IsT.same {H' : Hp} {v : V} (S : Same H H') (h : IsT N H G m v) : IsT N H' G m v := by
  obtain ⟨a, xs, rfl, n, e, l, x⟩ := h
  exact ⟨a, xs, rfl, n, S _ _ e, l, fun y hy => (x y hy).same S⟩
theorem IsT.is {v : V} (h : IsT N H G' m v) (g : ∀ ds : List PyData, ds.length ≤ m → (∀ d ∈ ds, G' d) → G (.tuple ds)) : Is N H G v := by
  obtain ⟨a, xs, rfl, n, e, l, x⟩ := h
  exact is_tup n e x fun ds e2 => g ds (by omega)
def EvT (N : Addr → Prop) (te : TE) (σ : L2.St) (H : Hp) (G : PyData → Prop) (m : Nat) : Prop := ∀ H1, Same H H1 → ∀ Q : VK, (∀ v H2, Same H1 H2 → IsT N H2 G m v → Q v H2) → te σ H1 Q
/-- an optional part of a slice that is an int -/
def EvO (to : TO) (σ : L2.St) : Prop := ∀ (H1 : Hp) (Q : Option Int → Hp → Prop), (∀ o, Q o H1) → to σ H1 Q
theorem evo_none : EvO tNoPart σ := fun H1 Q q => q _
theorem evo_int {i : Int} : EvO (tPart (tC (.int i))) σ := fun H1 Q q => ⟨i, rfl, q _⟩
theorem evo_neg {i : Int} : EvO (tPart (tUn (rU fun i => .int (-i)) (tC (.int i)))) σ := fun H1 Q q => ⟨i, rfl, _, rfl, q _⟩
theorem evo_var {i : Nat} {j : Int} (h : σ[i]? = some (some (.int j))) : EvO (tPart (tVar i)) σ := fun H1 Q q => ⟨_, h, _, rfl, q _⟩
theorem evo_add {i : Nat} {j k : Int} (h : σ[i]? = some (some (.int j))) : EvO (tPart (tOp (rI0 fun i j => .int (i + j)) (tVar i) (tC (.int k)))) σ := fun H1 Q q => ⟨_, h, _, _, rfl, rfl, _, rfl, q _⟩
theorem EvT.g (h : EvT N te σ H G' m) (g : ∀ ds : List PyData, ds.length ≤ m → (∀ d ∈ ds, G' d) → G (.tuple ds)) : EvG N te σ H G := fun H1 S Q q => h H1 S Q fun v H2 S2 x => q v H2 S2 (x.is g)
theorem evt_var {i : Nat} {v : V} (h : σ[i]? = some (some v)) (x : IsT N H G m v) : EvT N (tVar i) σ H G m := fun H1 S Q q => ⟨v, h, q v H1 (Same.refl _) (x.same S)⟩
theorem evt_tup {ta : TA} (t : Tr N H) (h : EvGA N ta σ H G m) (hm : m ≤ 1000) : EvT N (tTup ta) σ H G m := fun H1 S Q q =>
  h H1 S _ fun vs H2 S2 l xs => ⟨by rw [l, sizeLine_eq]; omega, fun p hp => q (.ref p) _ (S2.trans (same_new hp)) ⟨p, vs, rfl, ((t.same S).same S2).new hp, upd_same, Nat.le_of_eq l, fun x hx => (xs x hx).same (same_new hp)⟩⟩
theorem evt_sl (t : Tr N H) (h : EvT N te σ H G m) (hl : EvO tl σ) (hh : EvO th σ) : EvT N (tSl (rSlA K) te tl th) σ H G m := fun H1 S Q q =>
  h H1 S _ fun v H2 S2 ⟨a, xs, ev, n, e, l, x⟩ => by
    subst ev
    refine hl H2 _ fun lo => hh H2 _ fun hi => slA_any e fun b ys H3 S3 e3 w sub l3 => ?_
    refine q _ H3 (S2.trans S3) ⟨b, ys, rfl, ?_, e3, by omega, fun y hy => (x y (sub y hy)).same S3⟩
    rcases w with w | w
    · rw [w]; exact n
    · exact ((t.same S).same S2).new w
theorem evt_cat {k : Nat} (t : Tr N H) (h : EvT N te σ H G m) (h2 : EvT N tf σ H G k) (hz : m + k ≤ 1000) : EvT N (tOp (rCatA K) te tf) σ H G (m + k) := fun H1 S Q q =>
  h H1 S _ fun v H2 S2 ⟨a, xs, ev, n, e, l, x⟩ => by
    subst ev
    refine h2 H2 (S.trans S2) _ fun w H3 S3 ⟨b, ys, ew, n3, e3, l3, x3⟩ => ?_
    subst ew
    refine catA_any (S3 _ _ e) e3 (by omega) fun c H4 S4 e4 wh => q _ H4 ((S2.trans S3).trans S4) ⟨c, _, rfl, ?_, e4, by rw [List.length_append]; omega, fun y hy => ?_⟩
    · rcases wh with z | z | z
      · rw [z]; exact n
      · rw [z]; exact n3
      · exact (((t.same S).same S2).same S3).new z
    · rcases List.mem_append.mp hy with z | z
      · exact ((x y z).same S3).same S4
      · exact (x3 y z).same S4
theorem evt_rev (t : Tr N H) (h : EvT N te σ H G m) : EvT N (tRevT te) σ H G m := fun H1 S Q q =>
  h H1 S _ fun v H2 S2 ⟨a, xs, ev, n, e, l, x⟩ => ⟨a, xs, ev, e, fun p hp => q _ _ (S2.trans (same_new hp)) ⟨p, _, rfl, ((t.same S).same S2).new hp, upd_same, by rw [List.length_reverse]; exact l, fun y hy => (x y (List.mem_reverse.mp hy)).same (same_new hp)⟩⟩
/-- list(t) -/
theorem evg_listT (t : Tr N H) (h : EvT N te σ H G' m) (g : ∀ ds : List PyData, ds.length ≤ m → (∀ d ∈ ds, G' d) → G (.list ds)) : EvG N (tCB rListT (tCons te tNil)) σ H G := fun H1 S Q q =>
  h H1 S _ fun v H2 S2 ⟨a, xs, ev, n, e, l, x⟩ => ⟨a, xs, by rw [ev], e, fun p hp hs => q _ _ (S2.trans (same_new hp))
    (is_lst (((t.same S).same S2).new hp) upd_same hs (fun y hy => (x y hy).same (same_new hp)) fun ds e2 => g ds (by omega))⟩
/-- a value by itself: what a reading leads to, for sure, the heap as it is -/
theorem evg_to {v : V} (h : ∀ (H1 : Hp) (Q : VK), Q v H1 → te σ H1 Q) (x : ∀ H', Is N H' G v) : EvG N te σ H G := fun H1 _ Q q => h H1 Q (q v H1 (Same.refl _) (x H1))
end
/-! data without dicts, for comparisons -/
mutual
theorem Da.dp {K : PySem.W.Frag} {H : Hp} : ∀ {v : V} {d : PyData}, Da H v d → d.canLay0 = true → Dp K H v d
  | _, _, .non, _ => .non
  | _, _, .bl b, _ => .bl b
  | _, _, .int i, _ => .int i
  | _, _, .str x, _ => .str x
  | _, _, .lst e _ t, h => .lst (SqL.of e) (DaAll.dp t (by simpa [PyData.canLay0] using h))
  | _, _, .tup e t, h => .tup (SqT.of e) (DaAll.dp t (by simpa [PyData.canLay0] using h))
  | _, _, .dct e t, h => by simp [PyData.canLay0] at h
theorem DaAll.dp {K : PySem.W.Frag} {H : Hp} : ∀ {vs : List V} {ds : List PyData}, DaAll H vs ds → PyData.canLayAll0 ds = true → DpAll K H vs ds
  | _, _, .nil, _ => .nil
  | _, _, .cons h t, e => by
    simp only [PyData.canLayAll0, Bool.and_eq_true] at e
    exact .cons (Da.dp h e.1) (DaAll.dp t e.2)
end
end G
namespace G
open PySem PySem.Spec PyProof.Rows L2
theorem s_set {te : TE} {i : Nat} {u : TS} {D : Ends} {σ : L2.St} {H : Hp} (h : te σ H fun x H1 => u D (σ.set i (some x)) H1) : tSeq (tAsg te (gName i)) u D σ H := h
theorem s_ret {te : TE} {D : Ends} {σ : L2.St} {H : Hp} (h : te σ H D.rt) : tRet te D σ H := h
theorem s_seq {t u : TS} {D : Ends} {σ : L2.St} {H : Hp} (h : t { D with nx := u D } σ H) : tSeq t u D σ H := h
theorem s_if {c : TT} {t u : TS} {D : Ends} {σ : L2.St} {H : Hp} (h : c σ H fun b H1 => if b = true then t D σ H1 else u D σ H1) : tIfS c t u D σ H := h
end G
namespace G
open PySem PySem.Spec PyProof.Rows L2
theorem t_op {r : R2} {ta tb : TE} {σ : L2.St} {H : Hp} {Q : VK} (h : ta σ H fun x H1 => tb σ H1 fun y H2 => r x y H2 Q) : tOp r ta tb σ H Q := h
theorem t_cons {ta : TE} {tr : TA} {σ : L2.St} {H : Hp} {Q : List V → Hp → Prop} (h : ta σ H fun x H1 => tr σ H1 fun xs H2 => Q (x :: xs) H2) : tCons ta tr σ H Q := h
end G

namespace G
open PySem PySem.Spec PyProof.Rows L2
/-! ### lists that are put together, with a word about their items -/
def EvP (ta : TA) (σ : L2.St) (H : Hp) (P : Hp → List V → Prop) (m : Nat) : Prop := ∀ H1, Same H H1 → ∀ Q : List V → Hp → Prop, (∀ vs H2, Same H1 H2 → vs.length = m → P H2 vs → Q vs H2) → ta σ H1 Q
def Stays (P : Hp → List V → Prop) : Prop := ∀ H H' vs, Same H H' → P H vs → P H' vs
section
variable {σ : L2.St} {H : Hp} {P P0 P1 : Hp → List V → Prop} {te : TE} {ta : TA} {m : Nat} {Q : VK}
theorem lstP (h : EvP ta σ H P m) (hm : m ≤ 1000) (st : Stays P) (k : ∀ p vs H', Same H H' → H p = none → H' p = some (.lst vs) → vs.length = m → P H' vs → Q (.ref p) H') : tLstS ta σ H Q :=
  h H (Same.refl _) _ fun vs H2 S2 l p => ⟨by rw [l, sizeLine_eq]; omega, fun a ha hs => k a vs _ (S2.trans (same_new ha)) (Same.free S2 ha) upd_same l (st _ _ _ (same_new ha) p)⟩
theorem catP {i : Nat} {l : Addr} {xs : List V} {n : Nat} (hσ : σ[i]? = some (some (.ref l))) (hl : H l = some (.lst xs)) (p0 : P0 H xs) (st0 : Stays P0) (hn : xs.length = n) (h : EvP ta σ H P1 m) (st1 : Stays P1) (hm : n + m ≤ 1000)
    (both : ∀ H xs ys, P0 H xs → P1 H ys → P H (xs ++ ys)) (st : Stays P) (k : ∀ p vs H', Same H H' → H p = none → H' p = some (.lst vs) → vs.length = n + m → P H' vs → Q (.ref p) H') : tOp rCat (tVar i) (tLstS ta) σ H Q := by
  refine ⟨_, hσ, lstP h (by omega) st1 fun p ys H1 S1 np hp ly py => ?_⟩
  refine ⟨_, _, _, _, rfl, rfl, S1 _ _ hl, hp, by rw [hn, ly, sizeLine_eq]; omega, fun q nq => ?_⟩
  exact k q _ _ (S1.trans (same_new nq)) (Same.free S1 nq) upd_same (by rw [List.length_append, hn, ly]) (st _ _ _ (same_new nq) (both _ _ _ (st0 _ _ _ S1 p0) py))
/-- truth values -/
def Bls (bs : List Bool) : Hp → List V → Prop := fun _ vs => vs = bs.map V.bl
theorem bls_stays (bs : List Bool) : Stays (Bls bs) := fun _ _ _ _ h => h
theorem evb_nil : EvP tNil σ H (Bls []) 0 := fun H1 _ Q q => q [] H1 (Same.refl _) rfl rfl
theorem evb_is {K : PySem.W.Frag} {e C Ci : Addr} {v : V} {b : Bool} {bs : List Bool} {i : Nat} (hσ : σ[i]? = some (some (.ref e))) (T : EC K C) (he : ErrAt H e C v) (hk : PySem.W.kitOne K (.ref C) (.ref Ci) = some b) (hr : EvP ta σ H (Bls bs) m) :
    EvP (tCons (tCB (fun xs H Q => ∃ (a C : Addr) (v c : V) (u : Value) (b : Bool), xs = [.ref a, c] ∧ ClsV c u ∧ EC K C ∧ ErrAt H a C v ∧ PySem.W.kitOne K (.ref C) u = some b ∧ Q (.bl b) H) (tCons (tVar i) (tCons (tC (.ref Ci)) tNil))) ta) σ H (Bls (b :: bs)) (m + 1) :=
  fun H1 S Q q => ⟨_, hσ, e, C, v, _, _, b, rfl, .own Ci, T, he.same S, hk, hr H1 S _ fun vs H2 S2 l p => q _ H2 S2 (by rw [List.length_cons, l]) (by rw [p]; rfl)⟩
theorem bls_app {bs cs : List Bool} : ∀ (H : Hp) (xs ys : List V), Bls bs H xs → Bls cs H ys → Bls (bs ++ cs) H (xs ++ ys) := fun _ xs ys h1 h2 => by rw [h1, h2]; exact (List.map_append).symm
/-- errors that keep v, one of each class -/
def Ers (v : V) (Cs : List Addr) : Hp → List V → Prop := fun H vs => Paired (fun x C => ∃ e, x = .ref e ∧ ErrAt H e C v) vs Cs
theorem ers_stays (v : V) (Cs : List Addr) : Stays (Ers v Cs) := fun _ _ _ S h => Paired.mapP h fun _ _ ⟨e, x, y⟩ => ⟨e, x, y.same S⟩
theorem eve_nil {v : V} : EvP tNil σ H (Ers v []) 0 := fun H1 _ Q q => q [] H1 (Same.refl _) rfl .nil
theorem eve_is {C : Addr} {v : V} {Cs : List Addr} {i : Nat} (hσ : σ[i]? = some (some v)) (hr : EvP ta σ H (Ers v Cs) m) : EvP (tCons (tErr C (tCons (tVar i) tNil)) ta) σ H (Ers v (C :: Cs)) (m + 1) :=
  fun H1 S Q q => ⟨_, hσ, v, rfl, fun a H2 na S2 ea => hr H2 (S.trans S2) _ fun vs H3 S3 l p => q _ H3 (S2.trans S3) (by rw [List.length_cons, l]) (.cons ⟨a, rfl, ea.same S3⟩ p)⟩
theorem ers_app {v : V} {Bs Cs : List Addr} : ∀ (H : Hp) (xs ys : List V), Ers v Bs H xs → Ers v Cs H ys → Ers v (Bs ++ Cs) H (xs ++ ys) := fun H xs ys h1 h2 => by
  induction h1 with
  | nil => exact h2
  | cons h _ ih => exact .cons h ih
theorem ers_get {v : V} : ∀ {Cs : List Addr} {H : Hp} {vs : List V} {i : Nat} {x : V}, Ers v Cs H vs → vs[i]? = some x → ∃ e, x = .ref e ∧ ErrAt H e (Cs.getD i 0) v
  | _, _, _, _, _, .nil, h => by simp at h
  | _, _, _, 0, _, .cons h _, e => by obtain rfl := Option.some.inj e; exact h
  | _, _, _, i + 1, _, .cons _ t, e => ers_get (i := i) t e
end
end G
namespace G
open PySem PySem.Spec PyProof.Rows L2
/-- the written part's look at an error's class -/
def ecB (K : PySem.W.Frag) (fI C : Addr) : Bool :=
  decide (PySem.W.findIn K (.ref C) "__setattr__" = some (some (.builtin "object.__setattr__"))) &&
  (decide (PySem.W.subIn K (.ref C) (.type "BaseException") = some true) &&
  (decide (PySem.W.typeIn K (.ref C) = some (.type "type")) &&
  (PySem.W.keepIn K (.ref C) &&
  (PySem.W.hasDictIn K C &&
  (decide (PySem.W.findIn K (.ref C) "__getattribute__" = some (some (.builtin "BaseException.__getattribute__"))) &&
  (decide (PySem.W.findIn K (.ref C) "__getattr__" = some none) &&
  (decide (PySem.W.findIn K (.ref C) "value" = some none) &&
  (decide (PySem.W.findIn K (.ref C) "__class__" = some (some (.builtin "object.__class__"))) &&
  (decide (PySem.W.mroIn K C (.type "object") = some true) &&
  decide (PySem.W.findIn K (.ref C) "__init__" = some (some (.ref fI))))))))))))
theorem ecB_ok {K : PySem.W.Frag} {fI C : Addr} (h : ecB K fI C = true) (c : ∃ nm q N bs bm sn sub ab col dd k0 k1 k2 k3 k5, K.lookup C = some (excClassObj nm q C N bs bm true sn sub ab col dd k0 k1 k2 k3 k5 "ValueError.__new__") ∧ PySem.HandSPX.refsVE bm = true) :
    EC K C ∧ PySem.W.findIn K (.ref C) "__init__" = some (some (.ref fI)) := by
  unfold ecB at h
  simp only [Bool.and_eq_true, decide_eq_true_eq] at h
  obtain ⟨h1, h2, h3, h4, h5, h6, h7, h8, h9, h10, h11⟩ := h
  exact ⟨⟨⟨c, h1, h2, h3, h4⟩, h5, h6, h7, h8, h9, h10⟩, h11⟩
/-- which classes are which -/
def kindsB (K : PySem.W.Frag) (cs : List Addr) (b : Addr) : Bool :=
  ((List.range cs.length).all fun j => (List.range cs.length).all fun i => decide (PySem.W.kitOne K (.ref (cs.getD j 0)) (.ref (cs.getD i 0)) = some (decide (j = i)))) &&
  (cs.all (fun c => decide (PySem.W.kitOne K (.ref b) (.ref c) = some false) && (decide (PySem.W.kitOne K (.ref c) (.ref b) = some true) && decide (PySem.W.kitOne K (.ref c) (.type "ValueError") = some true))) &&
  decide (PySem.W.kitOne K (.ref b) (.type "ValueError") = some true))
structure Kinds (K : PySem.W.Frag) (cs : List Addr) (b : Addr) : Prop where
  two : ∀ j i, j < cs.length → i < cs.length → PySem.W.kitOne K (.ref (cs.getD j 0)) (.ref (cs.getD i 0)) = some (decide (j = i))
  low : ∀ c ∈ cs, PySem.W.kitOne K (.ref b) (.ref c) = some false
  up : ∀ c ∈ cs, PySem.W.kitOne K (.ref c) (.ref b) = some true
  ve : ∀ c ∈ cs, PySem.W.kitOne K (.ref c) (.type "ValueError") = some true
  bve : PySem.W.kitOne K (.ref b) (.type "ValueError") = some true
theorem kindsB_ok {K : PySem.W.Frag} {cs : List Addr} {b : Addr} (h : kindsB K cs b = true) : Kinds K cs b := by
  unfold kindsB at h
  simp only [Bool.and_eq_true, List.all_eq_true, decide_eq_true_eq, List.mem_range] at h
  obtain ⟨h1, h2, h3⟩ := h
  exact ⟨fun j i hj hi => h1 j hj i hi, fun c hc => (h2 c hc).1, fun c hc => (h2 c hc).2.1, fun c hc => (h2 c hc).2.2, h3⟩
end G

namespace G
open PySem PySem.Spec PyProof.Rows L2

/-! ### operators of an own class whose instances have a dict -/
section
variable {prog : Program} {w : World} {A : Around} {E : Value → Shared → Prop} {s : Shared} {K : PySem.W.Frag} {x C L f f0 : Addr} {h₀ : Heap} {m : Str → Option Value} {ox : Obj} {od : Option Obj} {nm T : String}
theorem binR_K {op : Operator} {i : Int} {t : Tok} {id : String} {B : Builtin} {Q : Value → Shared → Prop} (F : Fr h₀ L s.heap m) (X₀ : K.In h₀) (I : PySem.W.InstAt s.heap x ox C od) (hc : PySem.W.selfFirst K C = true)
    (hs0 : PySem.W.findIn K (.ref C) (PySem.dunder op.info.2) = some (some (.ref f0)))
    (hs : PySem.W.findIn K (.ref C) (dunderR op.info.2) = some (some (.ref f))) (hf : PySem.W.isFn K (.ref f) = true) (hsub : PySem.W.subIn K (.ref C) (.type "int") = some false)
    (hfill : fillsNumberSlot (.type "int") op.info.2 = pure true) (slot : Slot "int" (dunder op.info.2) id) (entry : entryFor table id = some B) (args : argsOk id ⟨[.int i t, .ref x], []⟩)
    (decl : ∀ (R : Result → Shared → Prop), R (.ok (.ret .notImplemented)) s → wpAny (model prog w) A.in1 (B ⟨[.int i t, .ref x], []⟩) (GQ.FinOf prog w A R) (fun e s' => R (.error e) s') s)
    (h : wpAny (model prog w) A (call (.ref f) [.ref x, .int i t]) (PySem.W.CmpBack Q) E s) : wpAny (model prog w) A (binaryOp op (.int i t) (.ref x)) Q E s := by
  have X := X₀.keeps F.keep
  obtain ⟨cd, rest, hcd, hm⟩ := PySem.W.ksp_first hc
  rcases hi : op.info with ⟨sym, nm'⟩
  rw [hi] at hs hs0 hfill slot
  dsimp only at hs hs0 hfill slot
  have one := PySem.W.ksp_try X I hs hf h
  have L2 : PySem.W.Looks (model prog w) s.heap (typeOf (.ref x)) (.ref C) := I.type
  have L3 : PySem.W.Looks (model prog w) s.heap (fillsNumberSlot (.ref C) nm') true := PySem.W.fills_K X hcd hm hs0
  have L5 : PySem.W.Looks (model prog w) s.heap (isSubtype (.ref C) (.type "int")) false := PySem.W.looks_subIn X hsub
  have hne : (Value.type "int" == Value.ref C) = false := Bool.eq_false_iff.mpr fun q => by cases beq_iff_eq.mp q
  have hT := typeIs_int s i t
  simp only [binaryOp, hi]
  refine wpAny_holding (wpAny_bind ?_)
  unfold binaryOp1
  refine wpAny_bind (wpAny_typeOf hT (wpAny_bind (L2.here (wpAny_bind (wpAny_of_eq hfill ?_)))))
  simp only [hne, Bool.false_eq_true, if_false]
  refine wpAny_bind (L3.here ?_)
  simp only [Bool.and_self, if_true]
  refine wpAny_bind (L5.here ?_)
  have hpy : numberSlotInPython (.type "int") nm' = pure false := rfl
  simp only [Bool.false_eq_true, if_false, pure_bind, Bool.not_false, Bool.and_self, if_true, hpy]
  refine wpAny_bind (wpAny_tryMethod_declines hT slot (GQ.call_here slot hT entry args (decl _ ⟨rfl, ?_⟩)))
  refine wpAny_bind (wpAny_mono one (fun r s' hr' => ?_) fun _ _ e => e)
  obtain ⟨v, rfl, hq⟩ := hr'
  exact wpAny_bind (wpAny_rule (wpAny_pure (wpAny_pure hq)))

theorem cmpR_K {op : CmpOp} {i : Int} {t : Tok} {id : String} {B : Builtin} {Q : Value → Shared → Prop} (hu : A.units < cLine) (F : Fr h₀ L s.heap m) (X₀ : K.In h₀) (I : PySem.W.InstAt s.heap x ox C od)
    (hs : PySem.W.findIn K (.ref C) (cmpInfo op).2.2 = some (some (.ref f))) (hf : PySem.W.isFn K (.ref f) = true) (hsub : PySem.W.subIn K (.ref C) (.type "int") = some false)
    (slot : Slot "int" (cmpInfo op).2.1 id) (entry : entryFor table id = some B) (args : argsOk id ⟨[.int i t, .ref x], []⟩)
    (decl : ∀ (R : Result → Shared → Prop), R (.ok (.ret .notImplemented)) s → wpAny (model prog w) A.in1 (B ⟨[.int i t, .ref x], []⟩) (GQ.FinOf prog w A R) (fun e s' => R (.error e) s') s)
    (h : wpAny (model prog w) A (call (.ref f) [.ref x, .int i t]) (PySem.W.CmpBack Q) E s) : wpAny (model prog w) A (richCompare op (.int i t) (.ref x)) Q E s := by
  have X := X₀.keeps F.keep
  have hT := typeIs_int s i t
  have one : wpAny (model prog w) A (tryCompare (.ref x) (cmpInfo op).2.2 (.int i t)) (fun r s' => ∃ v, r = some v ∧ Q v s') E s := by
    unfold tryCompare
    refine wpAny_bind (PySem.W.ifBound_K X I hs hf (wpAny_mono h (fun v s' hv => ?_) fun _ _ e => e))
    cases v <;> first | exact hv.elim | exact wpAny_pure ⟨_, rfl, hv⟩
  have hne : (Value.type "int" != Value.ref C) = true := by
    have h0 : (Value.type "int" == Value.ref C) = false := Bool.eq_false_iff.mpr fun q => by cases beq_iff_eq.mp q
    unfold bne
    rw [h0]
    rfl
  unfold richCompare
  simp only [hT.oneThing_none]
  refine wpAny_holding (wpAny_bind (wpAny_cRoomFor hu ?_))
  refine wpAny_bind (wpAny_typeOf hT (wpAny_bind (I.type.here ?_)))
  simp only [hne, if_true]
  refine wpAny_bind ((PySem.W.looks_subIn X hsub).here ?_)
  simp only [Bool.false_eq_true, if_false, Bool.not_false, if_true]
  refine wpAny_bind (wpAny_tryCompare_declines hT slot (GQ.call_here slot hT entry args (decl _ ⟨rfl, ?_⟩)))
  refine wpAny_bind (wpAny_mono one (fun r s' z => ?_) fun _ _ e => e)
  obtain ⟨v, rfl, hq⟩ := z
  exact wpAny_pure hq
/-- what a builtin of int says to an instance -/
def Decl (B : Builtin) : Prop := ∀ (prog : Program) (w : World) (A : Around) (R : Result → Shared → Prop) (s : Shared) (i : Int) (t : Tok) (x C dx : Addr), s.heap.get? x = some (PySem.W.instObj C dx) → R (.ok (.ret .notImplemented)) s →
  wpAny (model prog w) A.in1 (B ⟨[.int i t, .ref x], []⟩) (GQ.FinOf prog w A R) (fun e s' => R (.error e) s') s
theorem decl_add : Decl Builtin.«int.__add__» := fun prog w A R s i t x C dx hl h => by
  obtain ⟨hp, g, d, tk, os⟩ := s
  wp_walk using AutoSeq1.wpAny_loadPart' hl, wpAny_load' hl
  exact h
theorem decl_sub : Decl Builtin.«int.__sub__» := fun prog w A R s i t x C dx hl h => by
  obtain ⟨hp, g, d, tk, os⟩ := s
  wp_walk using AutoSeq1.wpAny_loadPart' hl, wpAny_load' hl
  exact h
theorem decl_mul : Decl Builtin.«int.__mul__» := fun prog w A R s i t x C dx hl h => by
  obtain ⟨hp, g, d, tk, os⟩ := s
  wp_walk using AutoSeq1.wpAny_loadPart' hl, wpAny_load' hl
  exact h
theorem decl_lt : Decl Builtin.«int.__lt__» := fun prog w A R s i t x C dx hl h => by
  obtain ⟨hp, g, d, tk, os⟩ := s
  wp_walk using AutoSeq1.wpAny_loadPart' hl, wpAny_load' hl
  exact h
theorem decl_le : Decl Builtin.«int.__le__» := fun prog w A R s i t x C dx hl h => by
  obtain ⟨hp, g, d, tk, os⟩ := s
  wp_walk using AutoSeq1.wpAny_loadPart' hl, wpAny_load' hl
  exact h
theorem decl_gt : Decl Builtin.«int.__gt__» := fun prog w A R s i t x C dx hl h => by
  obtain ⟨hp, g, d, tk, os⟩ := s
  wp_walk using AutoSeq1.wpAny_loadPart' hl, wpAny_load' hl
  exact h
theorem decl_ge : Decl Builtin.«int.__ge__» := fun prog w A R s i t x C dx hl h => by
  obtain ⟨hp, g, d, tk, os⟩ := s
  wp_walk using AutoSeq1.wpAny_loadPart' hl, wpAny_load' hl
  exact h
end

section
variable {X : Cx} {CX : CXT} {pins : List (Addr × Obj)} {σ : L2.St} {H : Hp} {s : Shared} {a C dx p g f f0 : Addr} {fs : List (Str × V)} {n : Nat} {sp : Sp} {E : XK}
theorem ins_inst (I : Inv X pins σ H s) (h : H a = some (.ins C dx fs)) : ∃ (od : Obj) (mA : Str → Option Value), PySem.W.InstAt s.heap a (PySem.W.instObj C dx) C (some od) ∧ (∀ name, PySem.W.lookIn name od = some (mA name)) ∧ ∀ f, RelO (fs.lookup f) (mA f) := by
  obtain ⟨mA, J, r, _⟩ := ins_get I.hok h
  obtain ⟨od, J2, l⟩ := J.look
  exact ⟨od, mA, J2, l, r⟩
/-- a def of no defaults, by position -/
theorem fnR {fd : FuncData} {ps : List Str} (F : FnOk X.prog X.w X.K X.mg X.base CX n g fd ps sp) (b : Binds X.K fd ps []) : FnR X.prog X.w X.K X.mg X.base CX n g sp :=
  (FnOk.raw F b .nil).imp fun vs H Q E h => by rw [List.append_nil]; exact h
/-- x op y: both instances; y an int -/
def rBinK (C : Addr) (sp : Sp) (E : XK) : R2 := fun x y H Q => ∃ a b dx dy fs gs, x = .ref a ∧ y = .ref b ∧ H a = some (.ins C dx fs) ∧ H b = some (.ins C dy gs) ∧ sp [x, y] H Q E
def rBinT (C : Addr) (sp : Sp) (E : XK) : R2 := fun x y H Q => ∃ a dx fs i, x = .ref a ∧ y = .int i ∧ H a = some (.ins C dx fs) ∧ sp [x, y] H Q E
def rBinR (C : Addr) (sp : Sp) (E : XK) : R2 := fun x y H Q => ∃ a dx fs i, x = .int i ∧ y = .ref a ∧ H a = some (.ins C dx fs) ∧ sp [y, x] H Q E
/-- what the text says of the class's defs for op: __op__ at f, __rop__ at g -/
structure OpC (K : PySem.W.Frag) (C f g : Addr) (nm : String) : Prop where
  first : PySem.W.selfFirst K C = true
  at_ : PySem.W.findIn K (.ref C) (PySem.dunder nm) = some (some (.ref f))
  fn : PySem.W.isFn K (.ref f) = true
  rat : PySem.W.findIn K (.ref C) (dunderR nm) = some (some (.ref g))
  rfn : PySem.W.isFn K (.ref g) = true
  i1 : ∃ fo, PySem.W.findIn K (.type "int") (PySem.dunder nm) = some fo
  i2 : ∃ ro, PySem.W.findIn K (.type "int") (dunderR nm) = some ro
  s1 : PySem.W.subIn K (.type "int") (.ref C) = some false
  s2 : PySem.W.subIn K (.ref C) (.type "int") = some false
def opcB (K : PySem.W.Frag) (C f g : Addr) (nm : String) : Bool :=
  PySem.W.selfFirst K C && decide (PySem.W.findIn K (.ref C) (PySem.dunder nm) = some (some (.ref f))) && PySem.W.isFn K (.ref f) && decide (PySem.W.findIn K (.ref C) (dunderR nm) = some (some (.ref g))) && PySem.W.isFn K (.ref g)
    && (PySem.W.findIn K (.type "int") (PySem.dunder nm)).isSome && (PySem.W.findIn K (.type "int") (dunderR nm)).isSome && decide (PySem.W.subIn K (.type "int") (.ref C) = some false) && decide (PySem.W.subIn K (.ref C) (.type "int") = some false)
theorem opcB_ok {K : PySem.W.Frag} {C f g : Addr} {nm : String} (h : opcB K C f g nm = true) : OpC K C f g nm := by
  unfold opcB at h
  simp only [Bool.and_eq_true, decide_eq_true_eq] at h
  obtain ⟨⟨⟨⟨⟨⟨⟨⟨h1, h2⟩, h3⟩, h4⟩, h5⟩, h6⟩, h7⟩, h8⟩, h9⟩ := h
  exact ⟨h1, h2, h3, h4, h5, Option.isSome_iff_exists.mp h6, Option.isSome_iff_exists.mp h7, h8, h9⟩
theorem op_binK {op : Operator} (O : OpC X.K C f g op.info.2) (F : FnR X.prog X.w X.K X.mg X.base CX n f sp) (hr : Room n X.A) (hx : Passes CX X E) : OpR X (binaryOp op) (rBinK C sp E) := by
  intro pins s σ H x y v u Q I rx ry h
  obtain ⟨a, b, dx, dy, fs, gs, rfl, rfl, ha, hb, q⟩ := h
  cases (show v = Value.ref a from rx)
  cases (show u = Value.ref b from ry)
  obtain ⟨od, mA, J, _⟩ := ins_inst I ha
  obtain ⟨od', mA', J', _⟩ := ins_inst I hb
  obtain ⟨m, hF⟩ := I.fr
  refine PySem.W.binop_K hF I.ok.mod.kin J J'.type O.first O.at_ O.fn ?_
  refine wpAny_mono (wpAny_call (run_fnR (us := [.ref a, .ref b]) (vs := [.ref a, .ref b]) F hr hx I (.cons rfl (.cons rfl .nil)) q)) (fun w s' z => ?_) fun _ _ x => x
  obtain ⟨z', H', I', rz, qz⟩ := z
  exact SlX.cmpback rz ⟨z', H', I', rz, qz⟩
theorem op_binT {op : Operator} (O : OpC X.K C f g op.info.2) (F : FnR X.prog X.w X.K X.mg X.base CX n f sp) (hr : Room n X.A) (hx : Passes CX X E) : OpR X (binaryOp op) (rBinT C sp E) := by
  intro pins s σ H x y v u Q I rx ry h
  obtain ⟨a, dx, fs, i, rfl, rfl, ha, q⟩ := h
  cases (show v = Value.ref a from rx)
  obtain ⟨t, e⟩ := (show ∃ t, u = Value.int i t from ry)
  cases e
  obtain ⟨od, mA, J, _⟩ := ins_inst I ha
  obtain ⟨m, hF⟩ := I.fr
  obtain ⟨fo, h1⟩ := O.i1
  obtain ⟨ro, h2⟩ := O.i2
  refine PySem.W.ksp_binT hF I.ok.mod.kin J rfl O.first O.at_ O.fn O.rat (.inr ⟨g, rfl⟩) h1 h2 O.s1 ?_
  refine wpAny_mono (wpAny_call (run_fnR (us := [.ref a, .int i t]) (vs := [.ref a, .int i]) F hr hx I (.cons rfl (.cons ⟨t, rfl⟩ .nil)) q)) (fun w s' z => ?_) fun _ _ x => x
  obtain ⟨z', H', I', rz, qz⟩ := z
  exact SlX.cmpback rz ⟨z', H', I', rz, qz⟩
/-- the builtin of int for op -/
structure IntOp (nm : String) (id : String) (B : Builtin) : Prop where
  fill : fillsNumberSlot (.type "int") nm = pure true
  slot : Slot "int" (dunder nm) id
  entry : entryFor table id = some B
  args : ∀ a b, argsOk id ⟨[a, b], []⟩
  decl : Decl B
theorem io_add : IntOp "add" "int.__add__" Builtin.«int.__add__» := ⟨F.fills_int_add, F.slot_int_add, F.entry_int_add, F.args_int_add_2, decl_add⟩
theorem io_sub : IntOp "sub" "int.__sub__" Builtin.«int.__sub__» := ⟨F.fills_int_sub, F.slot_int_sub, F.entry_int_sub, F.args_int_sub_2, decl_sub⟩
theorem io_mul : IntOp "mul" "int.__mul__" Builtin.«int.__mul__» := ⟨F.fills_int_mul, F.slot_int_mul, F.entry_int_mul, F.args_int_mul_2, decl_mul⟩
theorem op_binR {op : Operator} {id : String} {B : Builtin} (O : OpC X.K C f g op.info.2) (T : IntOp op.info.2 id B) (F : FnR X.prog X.w X.K X.mg X.base CX n g sp) (hr : Room n X.A) (hx : Passes CX X E) : OpR X (binaryOp op) (rBinR C sp E) := by
  intro pins s σ H x y v u Q I rx ry h
  obtain ⟨a, dx, fs, i, rfl, rfl, ha, q⟩ := h
  cases (show u = Value.ref a from ry)
  obtain ⟨t, e⟩ := (show ∃ t, v = Value.int i t from rx)
  cases e
  obtain ⟨od, mA, J, _⟩ := ins_inst I ha
  obtain ⟨m, hF⟩ := I.fr
  refine binR_K hF I.ok.mod.kin J O.first O.at_ O.rat O.rfn O.s2 T.fill T.slot T.entry (T.args _ _) (fun R => T.decl _ _ _ R _ _ _ _ _ _ J.at_) ?_
  refine wpAny_mono (wpAny_call (run_fnR (us := [.ref a, .int i t]) (vs := [.ref a, .int i]) F hr hx I (.cons rfl (.cons ⟨t, rfl⟩ .nil)) q)) (fun w s' z => ?_) fun _ _ x => x
  obtain ⟨z', H', I', rz, qz⟩ := z
  exact SlX.cmpback rz ⟨z', H', I', rz, qz⟩
/-- comparisons: the class's def at f, the one for the other side at g -/
structure CmpC (K : PySem.W.Frag) (C f g : Addr) (op : CmpOp) : Prop where
  at_ : PySem.W.findIn K (.ref C) (cmpInfo op).2.1 = some (some (.ref f))
  fn : PySem.W.isFn K (.ref f) = true
  rat : PySem.W.findIn K (.ref C) (cmpInfo op).2.2 = some (some (.ref g))
  rfn : PySem.W.isFn K (.ref g) = true
  nf : PySem.W.notFirst K C (.ref C) = true
  nfi : PySem.W.notFirst K C (.type "int") = true
  s2 : PySem.W.subIn K (.ref C) (.type "int") = some false
def cmpcB (K : PySem.W.Frag) (C f g : Addr) (op : CmpOp) : Bool :=
  decide (PySem.W.findIn K (.ref C) (cmpInfo op).2.1 = some (some (.ref f))) && PySem.W.isFn K (.ref f) && decide (PySem.W.findIn K (.ref C) (cmpInfo op).2.2 = some (some (.ref g))) && PySem.W.isFn K (.ref g)
    && PySem.W.notFirst K C (.ref C) && PySem.W.notFirst K C (.type "int") && decide (PySem.W.subIn K (.ref C) (.type "int") = some false)
theorem cmpcB_ok {K : PySem.W.Frag} {C f g : Addr} {op : CmpOp} (h : cmpcB K C f g op = true) : CmpC K C f g op := by
  unfold cmpcB at h
  simp only [Bool.and_eq_true, decide_eq_true_eq] at h
  obtain ⟨⟨⟨⟨⟨⟨h1, h2⟩, h3⟩, h4⟩, h5⟩, h6⟩, h7⟩ := h
  exact ⟨h1, h2, h3, h4, h5, h6, h7⟩
theorem op_cmpK {op : CmpOp} (hop : ∀ a b, compareOp op a b = richCompare op a b) (O : CmpC X.K C f g op) (F : FnR X.prog X.w X.K X.mg X.base CX n f sp) (hr : Room n X.A) (hx : Passes CX X E) : OpR X (compareOp op) (rBinK C sp E) := by
  intro pins s σ H x y v u Q I rx ry h
  obtain ⟨a, b, dx, dy, fs, gs, rfl, rfl, ha, hb, q⟩ := h
  cases (show v = Value.ref a from rx)
  cases (show u = Value.ref b from ry)
  obtain ⟨od, mA, J, _⟩ := ins_inst I ha
  obtain ⟨od', mA', J', _⟩ := ins_inst I hb
  obtain ⟨m, hF⟩ := I.fr
  rw [hop]
  refine PySem.W.cmp_K (op := op) (tb := .ref C) hr.units0 hF I.ok.mod.kin J J'.type O.nf O.at_ O.fn ?_
  refine wpAny_mono (wpAny_call (run_fnR (us := [.ref a, .ref b]) (vs := [.ref a, .ref b]) F hr hx I (.cons rfl (.cons rfl .nil)) q)) (fun w s' z => ?_) fun _ _ x => x
  obtain ⟨z', H', I', rz, qz⟩ := z
  exact SlX.cmpback rz ⟨z', H', I', rz, qz⟩
theorem op_cmpT {op : CmpOp} (hop : ∀ a b, compareOp op a b = richCompare op a b) (O : CmpC X.K C f g op) (F : FnR X.prog X.w X.K X.mg X.base CX n f sp) (hr : Room n X.A) (hx : Passes CX X E) : OpR X (compareOp op) (rBinT C sp E) := by
  intro pins s σ H x y v u Q I rx ry h
  obtain ⟨a, dx, fs, i, rfl, rfl, ha, q⟩ := h
  cases (show v = Value.ref a from rx)
  obtain ⟨t, e⟩ := (show ∃ t, u = Value.int i t from ry)
  cases e
  obtain ⟨od, mA, J, _⟩ := ins_inst I ha
  obtain ⟨m, hF⟩ := I.fr
  rw [hop]
  refine PySem.W.cmp_K (op := op) (tb := .type "int") hr.units0 hF I.ok.mod.kin J (PySem.W.Looks.of_pure rfl) O.nfi O.at_ O.fn ?_
  refine wpAny_mono (wpAny_call (run_fnR (us := [.ref a, .int i t]) (vs := [.ref a, .int i]) F hr hx I (.cons rfl (.cons ⟨t, rfl⟩ .nil)) q)) (fun w s' z => ?_) fun _ _ x => x
  obtain ⟨z', H', I', rz, qz⟩ := z
  exact SlX.cmpback rz ⟨z', H', I', rz, qz⟩
structure IntCmp (op : CmpOp) (id : String) (B : Builtin) : Prop where
  slot : Slot "int" (cmpInfo op).2.1 id
  entry : entryFor table id = some B
  args : ∀ a b, argsOk id ⟨[a, b], []⟩
  decl : Decl B
theorem ic_lt : IntCmp .Lt "int.__lt__" Builtin.«int.__lt__» := ⟨F.slot_int_lt, F.entry_int_lt, F.args_int_lt_2, decl_lt⟩
theorem ic_le : IntCmp .LtE "int.__le__" Builtin.«int.__le__» := ⟨F.slot_int_le, F.entry_int_le, F.args_int_le_2, decl_le⟩
theorem ic_gt : IntCmp .Gt "int.__gt__" Builtin.«int.__gt__» := ⟨F.slot_int_gt, F.entry_int_gt, F.args_int_gt_2, decl_gt⟩
theorem ic_ge : IntCmp .GtE "int.__ge__" Builtin.«int.__ge__» := ⟨F.slot_int_ge, F.entry_int_ge, F.args_int_ge_2, decl_ge⟩
theorem op_cmpR {op : CmpOp} {id : String} {B : Builtin} (hop : ∀ a b, compareOp op a b = richCompare op a b) (O : CmpC X.K C f g op) (T : IntCmp op id B) (F : FnR X.prog X.w X.K X.mg X.base CX n g sp) (hr : Room n X.A) (hx : Passes CX X E) : OpR X (compareOp op) (rBinR C sp E) := by
  intro pins s σ H x y v u Q I rx ry h
  obtain ⟨a, dx, fs, i, rfl, rfl, ha, q⟩ := h
  cases (show u = Value.ref a from ry)
  obtain ⟨t, e⟩ := (show ∃ t, v = Value.int i t from rx)
  cases e
  obtain ⟨od, mA, J, _⟩ := ins_inst I ha
  obtain ⟨m, hF⟩ := I.fr
  rw [hop]
  refine cmpR_K hr.units0 hF I.ok.mod.kin J O.rat O.rfn O.s2 T.slot T.entry (T.args _ _) (fun R => T.decl _ _ _ R _ _ _ _ _ _ J.at_) ?_
  refine wpAny_mono (wpAny_call (run_fnR (us := [.ref a, .int i t]) (vs := [.ref a, .int i]) F hr hx I (.cons rfl (.cons ⟨t, rfl⟩ .nil)) q)) (fun w s' z => ?_) fun _ _ x => x
  obtain ⟨z', H', I', rz, qz⟩ := z
  exact SlX.cmpback rz ⟨z', H', I', rz, qz⟩
/-- -x of an instance -/
def rUnK (C : Addr) (sp : Sp) (E : XK) : V → Hp → VK → Prop := fun x H Q => ∃ a dx fs, x = .ref a ∧ H a = some (.ins C dx fs) ∧ sp [x] H Q E
theorem un_negK (hs : PySem.W.findIn X.K (.ref C) "__neg__" = some (some (.ref f))) (hf : PySem.W.isFn X.K (.ref f) = true) (F : FnR X.prog X.w X.K X.mg X.base CX n f sp) (hr : Room n X.A) (hx : Passes CX X E) : UnR X (unaryOp .USub) (rUnK C sp E) := by
  intro pins s σ H x v Q I rx h
  obtain ⟨a, dx, fs, rfl, ha, q⟩ := h
  cases (show v = Value.ref a from rx)
  obtain ⟨od, mA, J, _⟩ := ins_inst I ha
  obtain ⟨m, hF⟩ := I.fr
  exact PySem.W.ksp_neg hF I.ok.mod.kin J hs hf (wpAny_call (run_fnR (us := [.ref a]) (vs := [.ref a]) F hr hx I (.cons rfl .nil) q))
end
end G

namespace G
open PySem PySem.Spec PyProof.Rows L2

/-! ### an error that is caught and kept -/
/-- an error of the class at C that was raised once -/
def exc (a C : Addr) (d : Option Addr) : HO := .ext fun h => ∃ (oe : Obj) (vs : Array Value), h.get? a = some oe ∧ Zc (.ref C) d oe ∧ oe.data = .fields vs
theorem exc_ok {P : Program} {w : World} {H : Hp} {h : Heap} {a C : Addr} {d : Option Addr} {oe : Obj} {vs : Array Value} (e : h.get? a = some oe) (z : Zc (.ref C) d oe) (dt : oe.data = .fields vs) : ObjOk P w H h a (exc a C d) :=
  ⟨⟨oe, vs, e, z, dt⟩, ⟨oe, e⟩, fun h1 h2 ⟨o, v, x, y, u⟩ k => ⟨o, v, k _ x, y, u⟩⟩
/-- the caught error, with what it keeps -/
def Caught (H : Hp) (a C : Addr) (v : V) : Prop := ∃ d, H a = some (exc a C (some d)) ∧ H d = some (.xd [("value", v)])
theorem Caught.same {H H' : Hp} (S : Same H H') {a C : Addr} {v : V} (e : Caught H a C v) : Caught H' a C v := let ⟨d, h1, h2⟩ := e; ⟨d, S _ _ h1, S _ _ h2⟩

section
variable {X : Cx} {pins : List (Addr × Obj)} {σ : L2.St} {H : Hp} {s : Shared} {a C : Addr}
/-- an object that is there, new since the entry, is tracked from now on -/
theorem adopt {o : HO} (I : Inv X pins σ H s) (hx : X.ex = []) (na : H a = none) (n0 : X.s_0.heap.get? a = none) (nL : a ≠ X.env.locals) (nc : ∀ x c, X.env.cells.lookup x = some c → c ≠ a) (np : ∀ p ∈ X.pn ++ pins, p.1 ≠ a)
    (new : ObjOk X.prog X.w (upd H a o) s.heap a o) : Inv X pins σ (upd H a o) s := by
  have old : ∀ {b : Addr} {u : HO}, H b = some u → upd H a o b = some u := fun {b u} e => by
    rw [upd_ne (fun z => by rw [z, na] at e; cases e)]
    exact e
  refine ⟨I.ok, I.os, I.bare, ⟨I.base.keep, I.base.slot, fun b ob e n hb => ?_, I.base.there, fun b xs e => old (I.base.tups b xs e), fun b ob u e => old (I.base.frzs b ob u e), fun b ps e => ?_⟩, I.loc, I.cell, ?_, fun x c e => ?_, fun p hp => ?_,
    I.hok.laidN (fun _ _ z => z) na new, I.len⟩
  · rw [upd_ne (fun z => by rw [z, n0] at e; cases e)]
    exact I.base.free b ob e n hb
  · obtain ⟨m, z⟩ := I.base.tbls b ps e
    exact ⟨m, old z⟩
  · rw [upd_ne (Ne.symm nL)]
    exact I.free
  · rw [upd_ne (nc x c e)]
    exact I.freeC x c e
  · obtain ⟨p1, p2, p3⟩ := I.pin p hp
    exact ⟨p1, by rw [upd_ne (np p hp)]; exact p2, p3⟩
end

/-- what 'except x as n' wishes, where the error is kept by the suite -/
def wAsT (K : PySem.W.Frag) (c : Value) (i : Nat) (ts : Addr → Value → Option Addr → TS) (D : Ends) : WX := fun cls d σ H =>
  PySem.W.exmOne K cls c = some true ∧ ∃ C, cls = .ref C ∧ ∀ a, H a = none → ts a cls d { nx := fun σ' H' => D.nx (σ'.set i none) (upd H' a (exc a C d)), rt := fun _ _ => False, bk := fun _ _ => False, ct := fun _ _ => False } (σ.set i (some (.ref a))) H
section
variable {X : Cx} {x n : Str} {c : Value} {i : Nat} {body suite : List Stmt} {b₀ : Stmt} {np pos pos' : Pos} {tb : WX → TS} {ts : Addr → Value → Option Addr → TS} {Wout : WX}
theorem ps_try_asT (hx : X.ex = []) (hs : X.stack = X.env :: X.outer) (hf : X.env.frame = some X.env.locals) (hN : X.N.Nodup) (hi : X.N[i]? = some n) (hln : X.env.kindOf n = some .local) (hc : Names X x c)
    (hb : ∀ (W : WX) (pn : List (Addr × Obj)) (xe : Value → Shared → Prop), Takes (X.tr pn xe) W → PassesOwn (model X.prog X.w) X.A X.env xe → PSs (X.tr pn xe) body (tb W))
    (hsu : ∀ (a : Addr) (oe : Obj) (cls : Value) (d : Option Addr) (pn : List (Addr × Obj)), Zc cls d oe → (∃ vs, oe.data = .fields vs) → PSs (X.suite a ((a, oe) :: pn)) (b₀ :: suite) (ts a cls d)) :
    PS X (.Try body [.ExceptHandler (some (.Name x np)) (some n) (b₀ :: suite) pos'] [] [] pos) (fun D σ H => tb (wAsT X.K c i ts D) D σ H) := by
  refine ⟨fun pins s σ H D I h => ?_⟩
  have ok := I.ok
  have hfr : X.A.frames = some (X.env :: X.outer) := by rw [ok.frames, hs]
  have hloc : Loc X.env.scope n := .inl hln
  refine wpAny_Try_except ?_
  refine wpAny_mono ((hb (wAsT X.K c i ts D) (X.pn ++ pins) (fun e s₁ => wpAny (model X.prog X.w) X.A (noteFrame e X.env) (fun _ s₂ => wpAny (model X.prog X.w) X.A (setFlight e none) (fun _ s₃ =>
    wpAny (model X.prog X.w) X.A (handleBy e X.env [.ExceptHandler (some (.Name x np)) (some n) (b₀ :: suite) pos']) (SP X pins D) X.xe s₃) X.xe s₂) X.xe s₁) (fun u s' xx => ?_) PassesOwn.looking).run [] s σ H D (I.toTry _) h) (fun f s1 hsp => ?_) (fun e s1 he => he)
  · -- the catch
    obtain ⟨a, B, sI, pins', σ', H', cls, d, rfl, J', nb, up, sky, na, os, ag, hb1, C, rfl, hyes⟩ := xx
    have J : Inv X pins σ' H' sI := J'.ofTry ok
    have sky' : Sky B (X.env :: X.outer) a (Zc (.ref C) d) X.env.locals s'.heap := by rw [← hs]; exact sky
    show wpAny (model X.prog X.w) X.A (noteFrame (.ref a) X.env) _ _ _
    refine Sky.land Zc.steady hfr hf sky' fun h3 fl3 up3 => ?_
    have J3 : Inv X pins σ' H' { s' with heap := h3 } := J.landed nb fl3.1 (up.trans up3) os ag
    obtain ⟨oe3, vs3, he3, hz3, hd3⟩ := fl3.there
    have notFr : ∀ {h : Heap} {o : Obj} {vs : Array Value}, h.FunFrames B (X.env :: X.outer) → h.get? a = some o → o.data = .fields vs → a ∉ frs (X.env :: X.outer) := fun {h o vs} ff e dd hm => by
      obtain ⟨_, o', e', hnf⟩ := ff.mem hm
      rw [e] at e'; cases e'
      exact hnf _ dd
    have nfr := notFr fl3.2.2.1 he3 hd3
    have nL : a ≠ X.env.locals := fun z => nfr (List.mem_filterMap.mpr ⟨X.env, List.mem_cons_self, by rw [hf, z]⟩)
    have nF : a ∉ X.fs := fun hm => by
      obtain ⟨e, he, q⟩ := List.mem_filterMap.mp hm
      exact nfr (List.mem_filterMap.mpr ⟨e, List.mem_cons_of_mem _ he, q⟩)
    have nI : sI.heap.get? a = none := by
      cases e : sI.heap.get? a with
      | none => rfl
      | some o =>
        have z := nb a o e (by rw [hs]; exact nfr)
        rw [fl3.2.1] at z
        cases z
    have n0 : X.s_0.heap.get? a = none := by
      cases e : X.s_0.heap.get? a with
      | none => rfl
      | some o =>
        obtain ⟨o', z⟩ := J.base.there a o e (by rw [hx]; exact fun z => nomatch z)
        rw [nI] at z
        cases z
    have S3 := J3.suite he3 hd3 na nL nF
    refine wpAny_handleBy_cons (codeAny_handlers_test ?_) (by intro q; cases q)
    have LT : PySem.W.Looks (model X.prog X.w) h3 (typeOf (.ref a)) (.ref C) := fun A Q E s k q => wpAny_typeOf_ref (k _ _ he3) (by rw [hz3.1]; exact q)
    have LM := PySem.W.exm_one (M := model X.prog X.w) (J3.kIn) LT hb1
    have test : ∀ {Q : Value → Shared → Prop} {E : Value → Shared → Prop}, Q c { s' with heap := h3 } → wpAny (model X.prog X.w) (X.A.mark (some (.ref a))) (eval (.Name x np) X.env) Q E { s' with heap := h3 } := fun {Q E} q => by
      obtain ⟨hg, hdbg, hm | ⟨hm, hv, hnn⟩⟩ := hc
      · exact ld_glob (X := X.suite a ((a, oe3) :: (X.pn ++ pins))) S3 hg hm q hdbg
      · exact ld_blt (X := X.suite a ((a, oe3) :: (X.pn ++ pins))) S3 hg hm hv q hnn hdbg
    refine test (LM.here ?_)
    refine codeAny_handlers_suite_as ?_
    refine HandSPX.lands_againZ fl3 fun h4 fl4 up4 => ?_
    have J4 : Inv X pins σ' H' { s' with heap := h4 } := J.landed nb fl4.1 ((up.trans up3).trans up4) os ag
    obtain ⟨oe4, vs4, he4, hz4, hd4⟩ := fl4.there
    have S4 := J4.suite he4 hd4 na nL nF
    refine store_ok (X := X.suite a ((a, oe4) :: (X.pn ++ pins))) (v := .ref a) S4 hN hi hloc rfl (fun s5 S5 => ?_) (.inr hln)
    refine wpAny_mono ((hsu a oe4 (.ref C) d (X.pn ++ pins) hz4 ⟨_, hd4⟩).run [] s5 _ H' _ S5 (hyes a na)) (fun f s6 hsp => ?_) (fun _ _ z => False.elim z)
    cases f with
    | next =>
      obtain ⟨σ6, H6, S6, q6⟩ := hsp
      have P6 : Inv X ((a, oe4) :: pins) σ6 H6 s6 := ⟨ok, S6.os, S6.bare, S6.base, S6.loc, S6.cell, S6.free, S6.freeC, fun p hp => S6.pin p (by
        have hp' : p ∈ (a, oe4) :: (X.pn ++ pins) := by
          rcases List.mem_append.mp hp with z | z
          · exact List.mem_cons_of_mem _ (List.mem_append_left _ z)
          · rcases List.mem_cons.mp z with z | z
            · rw [z]; exact List.mem_cons_self
            · exact List.mem_cons_of_mem _ (List.mem_append_right _ z)
        exact List.mem_append_left _ hp'), S6.hok, S6.len⟩
      refine gone_ok P6 hN hi hln fun s7 J7 => ?_
      obtain ⟨e7, na7, nL7, nF7, nc7⟩ := J7.pin (a, oe4) (List.mem_append_right _ List.mem_cons_self)
      have K7 : Inv X pins (σ6.set i none) H6 s7 := ⟨ok, J7.os, J7.bare, J7.base, J7.loc, J7.cell, J7.free, J7.freeC, fun p hp => J7.pin p (by
        rcases List.mem_append.mp hp with z | z
        · exact List.mem_append_left _ z
        · exact List.mem_append_right _ (List.mem_cons_of_mem _ z)), J7.hok, J7.len⟩
      refine ⟨_, _, adopt K7 hx na7 n0 nL (fun y cc e z => ?_) (fun p hp z => ?_) (exc_ok e7 hz4 hd4), q6⟩
      · obtain ⟨v, o, ho, hd⟩ := J7.cell y cc e
        rw [z, e7] at ho
        cases ho
        exact nc7 _ hd
      · have w := (J.pin p hp).1
        rw [z, nI] at w
        cases w
    | brk =>
      obtain ⟨σ6, H6, S6, q6⟩ := hsp
      exact q6.elim
    | cont =>
      obtain ⟨σ6, H6, S6, q6⟩ := hsp
      exact q6.elim
    | ret u =>
      obtain ⟨v6, σ6, H6, S6, r6, q6⟩ := hsp
      exact q6.elim
  · cases f with
    | next =>
      obtain ⟨σ', H', J', q⟩ := hsp
      exact wpAny_execs_nil ⟨σ', H', J'.ofTry ok, q⟩
    | brk =>
      obtain ⟨σ', H', J', q⟩ := hsp
      exact ⟨σ', H', J'.ofTry ok, q⟩
    | cont =>
      obtain ⟨σ', H', J', q⟩ := hsp
      exact ⟨σ', H', J'.ofTry ok, q⟩
    | ret u =>
      obtain ⟨v, σ', H', J', r, q⟩ := hsp
      exact ⟨v, σ', H', J'.ofTry ok, r, q⟩
end

/-! ### what is read of it -/
section
variable {X : Cx}
theorem caught_inst {pins : List (Addr × Obj)} {σ : L2.St} {H : Hp} {s : Shared} (I : Inv X pins σ H s) {a C : Addr} {v : V} (e : Caught H a C v) :
    ∃ (ox : Obj) (od : Obj) (mA : Str → Option Value) (dx : Addr), PySem.W.InstAt s.heap a ox C (some od) ∧ s.heap.Ns1 dx mA ∧ s.heap.get? dx = some od ∧ (∀ f, RelO (([("value", v)] : List (Str × V)).lookup f) (mA f)) := by
  obtain ⟨d, h1, h2⟩ := e
  obtain ⟨⟨oe, vs, ho, hz, dt⟩, _, _⟩ := (show ObjOk X.prog X.w H s.heap a (exc a C (some d)) from I.hok a _ h1)
  obtain ⟨mA, hn, hr⟩ := (show ObjOk X.prog X.w H s.heap d (.xd [("value", v)]) from I.hok d _ h2)
  obtain ⟨o, es, ep, hd, hz'⟩ := id hn
  refine ⟨oe, o, mA, d, ⟨ho, hz.1, ?_, ?_⟩, hn, hd, hr⟩
  · unfold PySem.W.notCls
    rw [dt]
  · rw [hz.2]
    exact hd
/-- e.value -/
theorem pe_valueC {e : Expr} {te : TE} {pos : Pos} (he : PE X e te) (hb : attributeBase e "value" X.env (eval e X.env) = eval e X.env := by rfl) :
    PE X (.Attribute e "value" pos) (fun σ H Q => te σ H fun x H1 => ∃ a C v, x = .ref a ∧ EC X.K C ∧ Caught H1 a C v ∧ Q v H1) := by
  constructor
  intro pins s σ H Q I h
  refine attr_of hb (thn (he.run pins s σ H _ I h) ?_)
  rintro u s1 ⟨x, H1, I1, rx, a, C, v, rfl, T, ea, q⟩
  cases rx
  obtain ⟨ox, od, mA, dx, J, hn, hd, hr⟩ := caught_inst I1 ea
  obtain ⟨od', hod, hl⟩ := lookIn_ns hn
  have eo : od' = od := Option.some.inj (hod.symm.trans hd)
  subst eo
  obtain ⟨u, hu, ru⟩ := RelO.some_of (v := v) (o := mA "value") (by have := hr "value"; simpa [List.lookup] using this)
  exact HandSPX.exc_get I1.kIn J T.ga T.gg T.ox.exC (PySem.W.findObj_own T.hd T.nv rfl (by rw [hl, hu])) (handed_of ru) ⟨v, H1, I1.tok _, ru, q⟩
/-- isinstance(e, C) of such an error, or of None -/
theorem call_isCaught (S : EK X.K) : CallR X (.builtin "isinstance") (fun xs H Q => ∃ (a C : Addr) (v c : V) (u : Value) (b : Bool), xs = [.ref a, c] ∧ ClsV c u ∧ EC X.K C ∧ Caught H a C v ∧ PySem.W.kitOne X.K (.ref C) u = some b ∧ Q (.bl b) H) := by
  intro pins s σ H xs us Q I r h
  obtain ⟨a, C, v, c, u, b, rfl, k, T, ea, e, q⟩ := h
  obtain ⟨u1, u2, rfl, r1, r2⟩ := vals2 r
  have e2 := k.eq r2
  subst e2
  cases r1
  obtain ⟨ox, od, mA, dx, J, hn, hd, hr⟩ := caught_inst I ea
  exact PySem.W.kia_one (PySem.W.kitx_exc (gt := none) T.cls T.ga T.gg T.ox.exC T.kl S.sp S.tk T.ob) I.kIn J e (fun z => nomatch z) fun tk => ⟨.bl b, H, I.tok tk, rfl, q⟩
end
end G

namespace G
open PySem PySem.Spec PyProof.Rows L2 LamX

/-! ### a lambda handed to a def that catches what it raises; the wish may look at the slots -/
section
variable {X : Cx} {pins : List (Addr × Obj)} {σ : L2.St} {H HZ : Hp} {s s1 : Shared}
/-- the lambda's own name and object -/
abbrev lamName (X : Cx) : Str := X.env.qual ++ "<lambda>"
abbrev lamObj (X : Cx) (params : Arguments) (body : Expr) (scope : Scope) (pm : Value) (c' : Addr) (ctv : Value) : Obj := PySem.W.kla_obj "<lambda>" (lamName X) params body scope (cloFrom X.env.cells scope.names []) pm c' ctv
theorem lam_runs {A : Around} {outer : List Env} {E : XK} {Q : VK} {f c' : Addr} {pm ctv : Value} {params : Arguments} {body : Expr} {scope : Scope} {k : Nat} {tb : TE}
    (I : Inv X pins σ H s) (L : LamS X.env.scope scope) (of : s1.heap.get? f = some (lamObj X params body scope pm c' ctv)) (un : Un (frs X.stack) [] H HZ s.heap s1.heap)
    (e0 : Env0 X.prog X.w X.K X.mg X.base A outer s1 HZ) (hr : Room (k + 1) A) (hc : HZ c' = some (CodeO c' (lamName X)))
    (nb : bindArgs (PySem.W.kla_fn "<lambda>" (lamName X) params body scope (cloFrom X.env.cells scope.names []) pm (.ref c') ctv) ⟨[], []⟩ = pure [])
    (bd : Room k (A.deeper (lamEnv X scope s1.heap.objs.size f c')) → PE (lamCx X A outer s1 HZ E scope f c') body tb) (ht : tb σ HZ Q) :
    codeAny (model X.prog X.w) A (.call (.ref f) ⟨[], []⟩) (CR (L2.CX X.prog X.w) outer X.prog X.w HZ s1 Q E) s1 := by
  have lim : s1.heap.NoLimit := e0.mod.nolimit.keeps fun b o e => (e0.bs b o e).1
  obtain ⟨⟨oc, vs, t, g1, g2, g3⟩, _, _⟩ := (show ObjOk X.prog X.w HZ s1.heap c' (CodeO c' (lamName X)) from e0.hok c' _ hc)
  apply PySem.W.kla_callFunE hr.depth of rfl L.co L.gen rfl ⟨c', oc, vs, t, rfl, g1, g2, g3⟩
  rw [nb]
  apply wpAny_pure
  apply wpAny_newFunctionEnv (fun y hy => (L.own y hy).2) (fun y hy => absurd hy (by simp)) _ L.kind
  intro h₁ hns hsb
  refine ⟨lim.fresh _ hsb, ?_⟩
  have kp : ∀ b o, s1.heap.get? b = some o → h₁.get? b = some o := by
    intro b o e
    exact hsb.extBut b o (Nat.ne_of_lt (Heap.lt_size e)) (Heap.get?_push_of_some _ e)
  have J := lam_start2 (f := f) (c' := c') (tk := s1.toks + ([] : List (Str × Value)).length) (E := E) I L e0 hr.hd un hns kp
  apply PySem.W.kla_codeExpr
  apply wpAny_mono ((bd (hr.deeper _)).run [] _ _ HZ Q J ht)
  · rintro v s' ⟨w', H', J', rv, q⟩
    exact ⟨w', H', J'.os, J'.bare, J'.base, J'.hok, rv, q⟩
  · exact fun _ _ z => z
/-- a(), in the def that got it -/
theorem pe_ask {CXg : CXT} {Eg : XK} {Ng : List Str} {qg : Str} {sg : Scope} {g f c' : Addr} {cdg pm ctv : Value} {params : Arguments} {body : Expr} {scope : Scope} {k i : Nat} {a : Str} {pn : List (Addr × Obj)} {xe : Value → Shared → Prop} {W : WX} {tb : XK → TE} {p1 p2 : Pos}
    (I : Inv X pins σ H s) (L : LamS X.env.scope scope) (hf : s.heap.get? f = some (lamObj X params body scope pm c' ctv)) (hfn : H f = none) (hfr : f ∉ frs X.stack)
    (nb : bindArgs (PySem.W.kla_fn "<lambda>" (lamName X) params body scope (cloFrom X.env.cells scope.names []) pm (.ref c') ctv) ⟨[], []⟩ = pure [])
    (tk : Takes ((cxOf CXg X.prog X.w X.K X.mg X.base Ng qg sg g cdg X.A X.stack s H Eg).tr pn xe) W) (hr : Room (k + 1) (X.A.deeper (envOfC qg sg s.heap.objs.size g cdg)))
    (bd : ∀ (E : XK) (A : Around) (outer : List Env) (s : Shared) (H : Hp), Room k (A.deeper (lamEnv X scope s.heap.objs.size f c')) → PE (lamCx X A outer s H E scope f c') body (tb E))
    (hN : Ng[i]? = some a) (hv : Vis sg a) (hd : (a == ("__debug__" : Str)) = false := by decide) (hcd : (a == ("__classdict__" : Str)) = false := by decide) :
    PE ((cxOf CXg X.prog X.w X.K X.mg X.base Ng qg sg g cdg X.A X.stack s H Eg).tr pn xe) (.Call (.Name a p1) [] [] p2)
      (fun σZ HZ Q => σZ[i]? = some (some (.ref f)) ∧ HZ c' = some (CodeO c' (lamName X)) ∧ tb (fun cls d H' => W cls d σZ H') σ HZ Q) := by
  constructor
  rintro pZ sZ σZ HZ Q IZ ⟨hs, hc, ht⟩
  apply wpAny_Call_Name_kw
  apply thn ((pe_var (pos := p1) (i := i) hN hv hd hcd).run pZ sZ σZ HZ (fun v H1 => v = .ref f ∧ H1 = HZ) IZ ⟨.ref f, hs, rfl, rfl⟩)
  rintro u s1 ⟨v, H1, I1, r1, rfl, rfl⟩
  obtain rfl : u = Value.ref f := r1
  have un : Un (frs X.stack) [] H H1 s.heap s1.heap := I1.base
  have of1 := un.keep f _ hf hfn hfr (fun z => nomatch (show f ∈ ([] : List Addr) from z))
  apply PySem.W.callWith_F0 ⟨_, _, _, _, of1⟩
  have rc := lam_runs (E := fun cls d H' => W cls d σZ H') (Q := Q) I L of1 un I1.env0 hr hc nb (fun h => bd _ _ _ _ _ h) ht
  apply wpAny_call
  apply codeAny_mono rc
  intro r s' hq
  match r, hq with
  | .error e, hq => exact passAt tk σZ pZ H1 s1 e s' I1 hq
  | .ok .next, hq => exact hq.elim
  | .ok .brk, hq => exact hq.elim
  | .ok .cont, hq => exact hq.elim
  | .ok (.ret w), hq => exact I1.after hq
/-- what a def makes of the lambda that it calls as a: TT, from the lambda's reading -/
def Asks (X : Cx) (Ng : List Str) (x : Str) (sg : Scope) (g : Addr) (cdg : Value) (bg : List Stmt) (a : Str) (q : Str) (TT : (XK → Hp → VK → Prop) → Hp → VK → Prop) : Prop :=
  ∀ (f c' : Addr) (s : Shared) (H : Hp) (Q : VK) (tl : XK → Hp → VK → Prop),
    (∀ (W : WX) (pn : List (Addr × Obj)) (xe : Value → Shared → Prop) (p1 p2 : Pos), Takes ((cxOf C8.CX0 X.prog X.w X.K X.mg X.base Ng x sg g cdg X.A X.stack s H C8.E0).tr pn xe) W →
      PE ((cxOf C8.CX0 X.prog X.w X.K X.mg X.base Ng x sg g cdg X.A X.stack s H C8.E0).tr pn xe) (.Call (.Name a p1) [] [] p2) (fun σZ HZ Q => σZ[0]? = some (some (.ref f)) ∧ HZ c' = some (CodeO c' q) ∧ tl (fun cls d H' => W cls d σZ H') HZ Q)) →
    H c' = some (CodeO c' q) → TT tl H Q →
    ∃ t, PSs (cxOf C8.CX0 X.prog X.w X.K X.mg X.base Ng x sg g cdg X.A X.stack s H C8.E0).nox bg t ∧ t { nx := fun _ H' => Q .non H', rt := Q } (L2.start Ng [.ref f]) H
/-- x(lambda: body) -/
theorem pe_asks {T : List (Addr × Str)} {TT : (XK → Hp → VK → Prop) → Hp → VK → Prop} {x a : Str} {g c P : Addr} {k : Nat} {pg : Arguments} {bg : List Stmt} {sg : Scope} {dV kV doc pm cdv ct oc : Value} {an od : Option Addr} {osl : Array (Option Value)} {Ng : List Str}
    {params : Arguments} {body : Expr} {scope : Scope} {t : XK → TE} {p lpos pos : Pos} (hg : Gl X x) (hm : X.mg x = some (.ref g)) (hk : PySem.W.keepIn X.K (.ref g) = true)
    (lk : X.K.lookup g = some ⟨oc, od, .func (PySem.W.fnOf x x pg bg sg dV kV doc pm an cdv ct), osl⟩) (hcg : PySem.W.codeIn X.K cdv x = true) (hb : L2.Binds X.K (PySem.W.fnOf x x pg bg sg dV kV doc pm an cdv ct) [a] []) (Sg : FnScope Ng [a] sg) (hNg : Ng[0]? = some a) (hva : Vis sg a)
    (hG : Asks X Ng x sg g cdv bg a (lamName X) TT)
    (TB : TabB X.base X.mg c P) (hcode : X.env.code = .ref c) (hmT : (P, lamName X) ∈ T) (hu : ∀ p ∈ T, p.1 = P → p.2 = lamName X) (hr : Room (k + 2) X.A) (L : LamS X.env.scope scope) (hdef : defaultsOf params X.env = ([], []))
    (nb : ∀ (q : Str) (cl : List (Str × Addr)) (pm cv ctv : Value), bindArgs (PySem.W.kla_fn "<lambda>" q params body scope cl pm cv ctv) ⟨[], []⟩ = pure [])
    (bd : ∀ (A : Around) (outer : List Env) (s : Shared) (H : Hp) (E : XK) (f c' : Addr), Room k (A.deeper (lamEnv X scope s.heap.objs.size f c')) → PE (lamCx X A outer s H E scope f c') body (t E))
    (hdb : (x == ("__debug__" : Str)) = false := by decide) (hd : (a == ("__debug__" : Str)) = false := by decide) (hcd : (a == ("__classdict__" : Str)) = false := by decide) :
    PE X (.Call (.Name x p) [.Lambda params body scope lpos] [] pos) (tLam T TT t) := by
  constructor
  rintro pins s σ H Q I ⟨hT, h⟩
  apply wpAny_Call_Name_kw
  apply ld_glob I hg hm _ hdb
  refine PySem.W.callWith_K (h₀ := X.base) I.ok.mod.kin hk ?_ (by rfl) (by rfl)
  show wpAny _ _ (spliced ((false, eval (.Lambda params body scope lpos) X.env) :: backTo pos (starEach [] X.env))) _ _ s
  apply Calls.spliced_cons
  apply lam_make2 I TB hcode hmT hu hT hdef (L.has I.ok)
  intro f c' pm' ctv H1 s' I1 eN T1 hf hfn hfr hco
  refine Calls.spliced_nil ⟨I1.kIn, ?_⟩
  have rc : codeAny (model X.prog X.w) X.A (.call (.ref g) ⟨[.ref f], []⟩) (CR C8.CX0 X.stack X.prog X.w H1 s' Q C8.E0) s' := by
    refine run_ofS (N := Ng) (ps := [a]) (us := [.ref f]) (vs := [.ref f]) lk hcg Sg hr I1.env0 (hb s' [.ref f] I1.kIn rfl) (.cons rfl .nil) rfl fun hr' => ?_
    obtain ⟨t', ht', hq'⟩ := hG f c' s' H1 Q (fun E H' Q' => t E σ H' Q') (fun W pn xe p1 p2 tk => pe_ask (i := 0) (tb := t) I1 L hf hfn hfr (nb _ _ _ _ _) tk hr' (fun E A outer s H hr2 => bd A outer s H E f c' hr2) hNg hva hd hcd) hco (h H1 eN T1)
    exact ⟨t', ht'.nox, hq'⟩
  apply wpAny_call
  apply codeAny_mono rc
  intro r s2 hq
  match r, hq with
  | .error e, hq => exact (show False from hq).elim
  | .ok .next, hq => exact hq.elim
  | .ok .brk, hq => exact hq.elim
  | .ok .cont, hq => exact hq.elim
  | .ok (.ret w), hq => exact I1.after hq
end
end G

namespace G

/-! ### fractions in least terms -/
/-- what both are divided by -/
def byOf (n u : Int) : Int := if u < 0 then -((Nat.gcd n.natAbs u.natAbs : Nat) : Int) else ((Nat.gcd n.natAbs u.natAbs : Nat) : Int)
def rNum (n u : Int) : Int := n.fdiv (byOf n u)
def rUnd (n u : Int) : Int := u.fdiv (byOf n u)
structure Red (n u : Int) : Prop where
  pos : 0 < u
  one : Nat.gcd n.natAbs u.natAbs = 1
theorem g_pos {n u : Int} (h : u ≠ 0) : 0 < Nat.gcd n.natAbs u.natAbs := Nat.gcd_pos_of_pos_right _ (by omega)
theorem byOf_ne {n u : Int} (h : u ≠ 0) : byOf n u ≠ 0 := by
  have := g_pos (n := n) h
  unfold byOf
  split <;> omega
theorem byOf_abs {n u : Int} : (byOf n u).natAbs = Nat.gcd n.natAbs u.natAbs := by
  unfold byOf
  split <;> omega
theorem byOf_le {n u : Int} (h : u ≠ 0) : (byOf n u).natAbs ≤ u.natAbs := by
  rw [byOf_abs]
  exact Nat.le_of_dvd (by omega) (Nat.gcd_dvd_right _ _)
theorem byOf_num {n u : Int} : byOf n u ∣ n := by
  rw [← Int.natAbs_dvd_natAbs, byOf_abs]
  exact Nat.gcd_dvd_left _ _
theorem byOf_und {n u : Int} : byOf n u ∣ u := by
  rw [← Int.natAbs_dvd_natAbs, byOf_abs]
  exact Nat.gcd_dvd_right _ _
theorem fd_of {c n : Int} (hc : c ≠ 0) (h : c ∣ n) : c * n.fdiv c = n := by
  rw [Int.fdiv_eq_ediv_of_dvd h]
  exact Int.mul_ediv_cancel' h
theorem num_mul {n u : Int} (h : u ≠ 0) : byOf n u * rNum n u = n := fd_of (byOf_ne h) byOf_num
theorem und_mul {n u : Int} (h : u ≠ 0) : byOf n u * rUnd n u = u := fd_of (byOf_ne h) byOf_und
theorem red_of {n u : Int} (h : u ≠ 0) : Red (rNum n u) (rUnd n u) := by
  have h1 := num_mul (n := n) h
  have h2 := und_mul (n := n) h
  have hg := g_pos (n := n) h
  constructor
  · by_cases hu : u < 0
    · have e : byOf n u < 0 := by
        unfold byOf
        rw [if_pos hu]
        omega
      rcases Int.lt_trichotomy (rUnd n u) 0 with z | z | z
      · have := Int.mul_pos_of_neg_of_neg e z
        omega
      · rw [z, Int.mul_zero] at h2
        omega
      · exact z
    · have e : 0 < byOf n u := by
        unfold byOf
        rw [if_neg hu]
        omega
      rcases Int.lt_trichotomy (rUnd n u) 0 with z | z | z
      · have := Int.mul_neg_of_pos_of_neg e z
        omega
      · rw [z, Int.mul_zero] at h2
        omega
      · exact z
  · have e1 : n.natAbs = Nat.gcd n.natAbs u.natAbs * (rNum n u).natAbs := by
      have := congrArg Int.natAbs h1
      rw [Int.natAbs_mul, byOf_abs] at this
      exact this.symm
    have e2 : u.natAbs = Nat.gcd n.natAbs u.natAbs * (rUnd n u).natAbs := by
      have := congrArg Int.natAbs h2
      rw [Int.natAbs_mul, byOf_abs] at this
      exact this.symm
    have e3 : Nat.gcd n.natAbs u.natAbs = Nat.gcd n.natAbs u.natAbs * Nat.gcd (rNum n u).natAbs (rUnd n u).natAbs := by
      rw [← Nat.gcd_mul_left, ← e1, ← e2]
    exact Nat.eq_of_mul_eq_mul_left hg (by omega)
theorem Red.same {n u : Int} (r : Red n u) : rNum n u = n ∧ rUnd n u = u := by
  have e : byOf n u = 1 := by
    unfold byOf
    rw [r.one, if_neg (by have := r.pos; omega)]
    rfl
  unfold rNum rUnd
  rw [e]
  exact ⟨Int.fdiv_one _, Int.fdiv_one _⟩
theorem Red.neg {n u : Int} (r : Red n u) : Red (-n) u := ⟨r.pos, by rw [Int.natAbs_neg]; exact r.one⟩
theorem Red.abs {n u : Int} (r : Red n u) : Red (if n < 0 then -n else n) u := by
  split
  · exact r.neg
  · exact r
theorem red_int (n : Int) : Red n 1 := ⟨by decide, by rw [show (1 : Int).natAbs = 1 from rfl, Nat.gcd_one_right]⟩
theorem num_le {n u : Int} (h : u ≠ 0) : (rNum n u).natAbs ≤ n.natAbs := by
  have h1 := num_mul (n := n) h
  have hg := g_pos (n := n) h
  have := congrArg Int.natAbs h1
  rw [Int.natAbs_mul, byOf_abs] at this
  rw [← this]
  exact Nat.le_mul_of_pos_left _ hg
theorem und_le {n u : Int} (h : u ≠ 0) : (rUnd n u).natAbs ≤ u.natAbs := by
  have h1 := und_mul (n := n) h
  have hg := g_pos (n := n) h
  have := congrArg Int.natAbs h1
  rw [Int.natAbs_mul, byOf_abs] at this
  rw [← this]
  exact Nat.le_mul_of_pos_left _ hg
/-- one step of the law's own greatest common divisor -/
theorem gcd_step {a b : Int} (ha : 0 ≤ a) (hb : 0 < b) : Nat.gcd b.natAbs (a.fmod b).natAbs = Nat.gcd a.natAbs b.natAbs := by
  rw [Int.fmod_eq_emod_of_nonneg a (by omega)]
  obtain ⟨m, rfl⟩ := Int.eq_ofNat_of_zero_le ha
  obtain ⟨k, rfl⟩ := Int.eq_ofNat_of_zero_le (Int.le_of_lt hb)
  show Nat.gcd k ((m : Int) % (k : Int)).natAbs = Nat.gcd m k
  rw [show ((m : Int) % (k : Int)).natAbs = m % k by omega, Nat.gcd_comm k, ← Nat.gcd_rec, Nat.gcd_comm]
end G

namespace G
open PySem PySem.Spec PyProof.Rows L2 LamX

/-! ### the law's own call, where defs of the text make lambdas; entered while nothing shows itself -/
/-- an empty table of code objects -/
abbrev bareTab : Obj := { cls := .none, data := .fields #[] }
/-- the abstract heap at the entry: the script, if the text does not know it, and the tables -/
def atEntry (K : PySem.W.Frag) (a : Addr) (vs : List Value) (ns : List Int) (ts : List Addr) : Hp := fun b =>
  if b ∈ ts then some (.tbl #[]) else if b = a ∧ K.lookup a = none then some (.frz { cls := .type "list", data := .seq vs.toArray } (.lst (ns.map V.int))) else none
section
variable {K : PySem.W.Frag} {a b : Addr} {vs : List Value} {ns : List Int} {ts : List Addr}
theorem ae_tab (h : b ∈ ts) : atEntry K a vs ns ts b = some (.tbl #[]) := if_pos h
theorem ae_scr (h : a ∉ ts) (k : K.lookup a = none) : atEntry K a vs ns ts a = some (.frz { cls := .type "list", data := .seq vs.toArray } (.lst (ns.map V.int))) := (if_neg h).trans (if_pos ⟨rfl, k⟩)
theorem ae_off (h : b ∉ ts) (n : ¬ (b = a ∧ K.lookup a = none)) : atEntry K a vs ns ts b = none := (if_neg h).trans (if_neg n)
theorem ae_or : (b ∈ ts ∧ atEntry K a vs ns ts b = some (.tbl #[])) ∨ (b ∉ ts ∧ b = a ∧ K.lookup a = none ∧ atEntry K a vs ns ts b = some (.frz { cls := .type "list", data := .seq vs.toArray } (.lst (ns.map V.int)))) ∨ (b ∉ ts ∧ atEntry K a vs ns ts b = none) := by
  by_cases h1 : b ∈ ts
  · exact .inl ⟨h1, ae_tab h1⟩
  · by_cases h2 : b = a ∧ K.lookup a = none
    · exact .inr (.inl ⟨h1, h2.1, h2.2, (if_neg h1).trans (if_pos h2)⟩)
    · exact .inr (.inr ⟨h1, ae_off h1 h2⟩)
end
theorem lawCallT {P : Program} {w : World} {K : PySem.W.Frag} {mg mb : Str → Option Value} {k : Nat} {fa a : Addr} {cs : List (Addr × Addr)} {fd : FuncData} {x : Str} {sp : Sp} {s₁ : Shared} {vs : List Value} {ns : List Int}
    (KX : K.In s₁.heap) (glob : s₁.heap.Ns mainGlobals mg) (bltn : s₁.heap.Ns builtinsNs mb) (boot : ∀ x : Str, x ≠ "__name__" → mb x = bootBuiltins x) (lim : s₁.heap.NoLimit) (gens : s₁.gens = #[])
    (mods : ∃ (bm : Addr) (ob : Obj), mg "__builtins__" = some (.ref bm) ∧ bm ≠ builtinsNs ∧ s₁.heap.get? bm = some ob ∧ ob.cls = .type "module" ∧ ob.dict = some builtinsNs ∧ ob.data = .plain)
    (bare : ∀ p ∈ cs, s₁.heap.get? p.2 = some bareTab) (noK : ∀ p ∈ cs, K.lookup p.2 = none) (code : ∀ p ∈ cs, PySem.W.CodeHd s₁.heap p.1 p.2)
    (obj : s₁.heap.get? a = some { cls := .type "list", data := .seq vs.toArray }) (nums : IntsAre vs ns) (short : ns.length ≤ sizeLine) (room : Room k callerA)
    (F : ∀ base : Heap, K.In base → base.Ns mainGlobals mg → (∀ p ∈ cs, TabB base mg p.1 p.2) → Fn P w K mg base CX0 k fa fd [x] sp) (bind : ∀ (s : Shared) (u : Value), BindsTo s fd ⟨[u], []⟩ [(x, u)])
    (told : ∀ H : Hp, (∀ p ∈ cs, H p.2 = some (.tbl #[])) → SqL K H a (ns.map V.int) → sp [.ref a] H (fun v _ => v = .bl true) fun _ _ _ => False) :
    codeAny (model P w) callerA (.call (.ref fa) ⟨[.ref a], []⟩) (fun r s' => r = .ok (.ret (.bool true)) ∧ OldK s₁.heap s'.heap ∧ s'.os = s₁.os ∧ AllBare s'.gens) s₁ := by
  have rv := vals_ints nums
  have lenV := nums.length
  let ts : List Addr := cs.map (·.2)
  let H : Hp := atEntry K a vs ns ts
  have inT : ∀ p ∈ cs, p.2 ∈ ts := fun p hp => List.mem_map.mpr ⟨p, hp, rfl⟩
  have tabT : ∀ b ∈ ts, s₁.heap.get? b = some bareTab := fun b hb => by
    obtain ⟨p, hp, rfl⟩ := List.mem_map.mp hb
    exact bare p hp
  have aT : a ∉ ts := fun z => by
    have q := (tabT a z).symm.trans obj
    cases q
  have offK : ∀ {b : Addr} {o : Obj}, K.lookup b = some o → H b = none := fun {b o} e => by
    rcases ae_or (K := K) (a := a) (b := b) (vs := vs) (ns := ns) (ts := ts) with ⟨h, _⟩ | ⟨_, rfl, n, _⟩ | ⟨_, z⟩
    · obtain ⟨p, hp, rfl⟩ := List.mem_map.mp h
      rw [noK p hp] at e
      cases e
    · rw [n] at e
      cases e
    · exact z
  -- what is neither a list nor an empty table is not hidden
  have off : ∀ {b : Addr} {o : Obj}, s₁.heap.get? b = some o → (∀ its n, o.data ≠ .seq its n) → o.data ≠ .fields #[] → H b = none := fun {b o} e h1 h2 => by
    rcases ae_or (K := K) (a := a) (b := b) (vs := vs) (ns := ns) (ts := ts) with ⟨h, _⟩ | ⟨_, rfl, _, _⟩ | ⟨_, z⟩
    · obtain rfl := Option.some.inj (e.symm.trans (tabT b h))
      exact absurd rfl h2
    · obtain rfl := Option.some.inj (e.symm.trans obj)
      exact absurd rfl (h1 _ _)
    · exact z
  have offD : ∀ {b : Addr} {o : Obj} {es : Array DictEntry} {ep : Nat}, s₁.heap.get? b = some o → o.data = .dict es ep → H b = none := fun e d => off e (fun _ _ z => by rw [d] at z; cases z) fun z => by rw [d] at z; cases z
  have hok : HOk P w H s₁.heap := fun b u z => by
    rcases ae_or (K := K) (a := a) (b := b) (vs := vs) (ns := ns) (ts := ts) with ⟨h, e⟩ | ⟨_, rfl, _, e⟩ | ⟨_, e⟩
    · obtain rfl := Option.some.inj (e.symm.trans z)
      exact tabT b h
    · obtain rfl := Option.some.inj (e.symm.trans z)
      exact ⟨obj, by rw [List.length_map]; exact short, vs, _, rv, obj⟩
    · exact absurd (e.symm.trans z) (by simp)
  have seq : SqL K H a (ns.map V.int) := by
    cases hk : K.lookup a with
    | none => exact .inl (.inr ⟨_, ae_scr aT hk⟩)
    | some o =>
      obtain rfl := Option.some.inj ((KX a o hk).symm.trans obj)
      exact .inr ⟨_, vs.toArray, _, hk, rfl, rfl, rfl, by rw [List.size_toArray, lenV]; exact short, by simpa using rv⟩
  have ns0 : ∀ {b : Addr} {m : Str → Option Value}, s₁.heap.Ns b m → (hidT s₁.heap H).Ns b m := by
    rintro b m ⟨o, es, ep, e, d, r⟩
    exact ⟨o, es, ep, hidT_get e (offD e d), d, r⟩
  have in0 : K.In (hidT s₁.heap H) := fun b o e => hidT_get (KX b o e) (offK e)
  have M : Mod K mg (hidT s₁.heap H) := by
    obtain ⟨mc, l1, l2⟩ := lim
    exact ⟨in0, ns0 glob, ⟨mb, ns0 bltn, boot⟩, ⟨mc, ns0 l1, l2⟩⟩
  obtain ⟨og, eg, pg, gg, dg, _⟩ := id glob
  have TB : ∀ p ∈ cs, TabB (hidT s₁.heap H) mg p.1 p.2 := fun p hp => by
    have hp0 := bare p hp
    refine ⟨?cd, ?bm, fun z => ?_⟩
    case cd =>
      obtain ⟨o, us, f1, f2, f3, f4, f5, f6, f7, e, c1, c2, c3, rest⟩ := code p hp
      refine ⟨o, us, f1, f2, f3, f4, f5, f6, f7, hidT_get e (off e (fun _ _ z => ?_) fun z => ?_), c1, c2, c3, rest⟩
      · rw [c2] at z
        cases z
      · rw [c2] at z
        obtain rfl := Data.fields.inj z
        simp at c3
    case bm =>
      obtain ⟨bm, ob, m1, m2, m3, m4, m5, m6⟩ := mods
      refine ⟨bm, ob, m1, m2, fun z => ?_, fun z => ?_, hidT_get m3 (off m3 (fun _ _ z => by rw [m6] at z; cases z) fun z => by rw [m6] at z; cases z), m4, m5, m6⟩
      · rw [z, gg] at m3
        obtain rfl := Option.some.inj m3
        rw [dg] at m6
        cases m6
      · rw [z, hp0] at m3
        obtain rfl := Option.some.inj m3
        cases m6
    · rw [z, hp0] at gg
      obtain rfl := Option.some.inj gg
      cases dg
  have nof : ∀ b : Addr, ¬ b ∈ frs ([] : List Env) := fun b z => nomatch (show b ∈ ([] : List Addr) from z)
  have e0 : Env0 P w K mg (hidT s₁.heap H) callerA [] s₁ H := ⟨rfl, M, fun b o e => of_hidT e, Nat.le_of_eq (hidT_size _ _), trivial, fun b hb => absurd hb (nof b), hok, .of_eq gens⟩
  refine codeAny_mono ((F _ in0 (ns0 glob) TB).run callerA [] s₁ H ⟨[.ref a], []⟩ [.ref a] [.ref a] _ _ rfl room e0 (bind s₁ (.ref a)) (.cons rfl .nil) (told H (fun p hp => ae_tab (inT p hp)) seq)) ?_
  intro r s' h
  match r, h with
  | .error e, h => exact h.elim
  | .ok .next, h => exact h.elim
  | .ok .brk, h => exact h.elim
  | .ok .cont, h => exact h.elim
  | .ok (.ret u), h =>
    obtain ⟨v, H', os, allb, un, hok', ru, rfl⟩ := h
    obtain rfl : u = Value.bool true := ru
    -- an object that is no table is as it was
    have kept : ∀ b o, b ∉ ts → s₁.heap.get? b = some o → s'.heap.get? b = some o := fun b o nb e => by
      rcases ae_or (K := K) (a := a) (b := b) (vs := vs) (ns := ns) (ts := ts) with ⟨h, _⟩ | ⟨_, rfl, _, z⟩ | ⟨_, z⟩
      · exact absurd h nb
      · have s1 := (hok b _ z).1
        have s2 := (hok' b _ (un.frzs b _ _ z)).1
        exact s2.trans (s1.symm.trans e)
      · exact un.keep b o e z (nof b) (fun z => nomatch z)
    have more : ∀ b ∈ ts, ∃ ext : Array Value, s'.heap.get? b = some { cls := .none, data := .fields ext } := fun b hb => by
      obtain ⟨ext, z⟩ := un.tbls b #[] (ae_tab hb)
      exact ⟨_, hok' b _ z⟩
    refine ⟨rfl, ⟨fun b o e => ?_, fun b o e => ?_⟩, os, allb⟩
    · by_cases hb : b ∈ ts
      · obtain ⟨p, hp, rfl⟩ := List.mem_map.mp hb
        obtain ⟨ext, z⟩ := more _ hb
        obtain rfl := Option.some.inj ((bare p hp).symm.trans e)
        refine .inr (.inl ⟨((code p hp).tab (bare p hp)).isCodeTable, rfl, #[], ext, rfl, ?_⟩)
        rw [Array.empty_append]
        exact z
      · exact .inl (kept b o hb e)
    · by_cases hb : b ∈ ts
      · obtain ⟨ext, z⟩ := more b hb
        exact ⟨_, z⟩
      · exact ⟨o, kept b o hb e⟩
/-- what is to be shown of the law at the head's heap -/
def LawT (P : Program) (w : World) (K : PySem.W.Frag) (k n : Nat) (x : Str) (mg : Str → Option Value) (fa : Addr) (h : Heap) : Prop :=
  ∃ (fd : FuncData) (cs : List (Addr × Addr)) (sp : Sp), (∀ p ∈ cs, h.get? p.2 = some bareTab ∧ K.lookup p.2 = none ∧ PySem.W.CodeHd h p.1 p.2) ∧ (∀ (s : Shared) (u : Value), BindsTo s fd ⟨[u], []⟩ [(x, u)]) ∧
    (∀ (H : Hp) (a : Addr) (ns : List Int), ns.length ≤ n → (∀ p ∈ cs, H p.2 = some (.tbl #[])) → SqL K H a (ns.map V.int) → sp [.ref a] H (fun v _ => v = .bl true) fun _ _ _ => False) ∧
    ∀ base : Heap, K.In base → base.Ns mainGlobals mg → (∀ p ∈ cs, TabB base mg p.1 p.2) → Fn P w K mg base CX0 k fa fd [x] sp
/-- the tables of a text's defs are empty at the law's entry -/
def Bare (mg : Str → Option Value) (h : Heap) (nm : Str) : Prop := ∃ f o fd c T, mg nm = some (.ref f) ∧ h.get? f = some o ∧ o.data = .func fd ∧ fd.code = .ref c ∧ PySem.W.CodeHd h c T ∧ h.get? T = some bareTab
theorem walkOfT {l : PySem.W.OpenLaw} {n k : Nat} {q : Program} {loose : List Str} {XP : (Str → Option Value) → Heap → Prop} {YP : World → Heap → Prop} {d : DefRec} {K : Params → PySem.W.Frag} {x : Str} {names : List Str}
    (hn : l.most = some n) (hn2 : n ≤ sizeLine) (hdf : d.params.defaults = []) (hr : Room k callerA) (hrec : (names.all fun nm => (recsOf q).any fun e => e.name == nm) = true) (hY : ∀ (w : World) (h : Heap), YP w h → (K w.params).In h)
    (F : ∀ (w : World) (mg : Str → Option Value) (fa : Addr) (h : Heap), (K w.params).In h → h.Ns mainGlobals mg → mg d.name = some (.ref fa) → (∀ nm ∈ names, Bare mg h nm) → LawT l.prog w (K w.params) k n x mg fa h) :
    PySem.W.WalkO q loose XP YP l.row.toRowW d [] (fun f vs => PySem.call f vs) := by
  apply Att.attach_call hn hdf
  intro w s₀ s₁ mg mb fa o pm cd doc a vs ns G Y ho hd hcd hmg hobj hints hlen hg
  have KX := hY w _ Y
  have tabs : ∀ nm ∈ names, Bare mg s₁.heap nm := fun nm hnm => by
    obtain ⟨r, hm, e⟩ := List.any_eq_true.mp (List.all_eq_true.mp hrec nm hnm)
    obtain ⟨f, o', fd', c, T, t1, t2, t3, t4, t5, t6⟩ := G.T.tab r hm
    rw [beq_iff_eq.mp e] at t1
    exact ⟨f, o', fd', c, T, t1, t2, t3, t4, PySem.W.CodeHd.of t5 t6, t6.2⟩
  obtain ⟨fd, cs, sp, facts, hb, told, hF⟩ := F w mg fa _ KX G.T.g hmg tabs
  exact lawCallT KX G.T.g G.T.b G.T.builtins G.T.nolimit hg G.T.bmain (fun p hp => (facts p hp).1) (fun p hp => (facts p hp).2.1) (fun p hp => (facts p hp).2.2) hobj hints (Nat.le_trans hlen hn2) hr hF hb fun H hH hS => told H a ns hlen hH hS
end G

namespace G
open PySem PySem.Spec PyProof.Rows L2 ClX

/-! ### a static method, called through its class -/
structure SMet (K : PySem.W.Frag) (C : Addr) (m : Str) (g : Addr) : Prop where
  rd : ∃ mc p rest, CRead K C mc ∧ PySem.W.findCls K (.ref C) mc m = some (.get (.builtin "staticmethod.__get__") (.ref p) .none (.ref C)) ∧ PySem.W.recIn K p "staticmethod" = some (.ref g :: rest)
  kp : PySem.W.keepIn K (.ref g) = true
/-- C.m(e, ..) -/
def tSMeth (C : Addr) (sp : Sp) (E : XK) (ta : TE) (t : TA) : TE := fun σ H Q => ta σ H fun x H1 => x = .ref C ∧ t σ H1 fun vs H2 => sp vs H2 Q E
section
variable {X : Cx} {CX : CXT} {k : Nat} {C g : Addr} {sp : Sp} {E : XK} {o e : Expr} {es : List Expr} {m : Str} {pos apos : Pos} {ta : TE} {t : TA} {pl : Sem Bool}
theorem pe_smeth (he : PE X o ta) (c : SMet X.K C m g) (F : FnR X.prog X.w X.K X.mg X.base CX k g sp) (hr : Room k X.A) (hx : Passes CX X E) (ha : PA X (e :: es) t)
    (hst : starEach (e :: es) X.env = (false, eval e X.env) :: starEach es X.env := by rfl) (hpl : (backTo pos (starEach es X.env)).any (·.1) = false := by rfl)
    (ht : eval (.Call (.Attribute o m apos) (e :: es) [] pos) X.env = (do
      let ov ← eval o X.env
      standAt apos.atName
      let (f, first) ← holding [ov] (getMethod ov m pl)
      callWith pos f first (backTo pos (starEach (e :: es) X.env)) (backToKw pos (keywordEach [] X.env))) := by rfl) :
    PE X (.Call (.Attribute o m apos) (e :: es) [] pos) (tSMeth C sp E ta t) := by
  constructor
  intro pins s σ H Q I h
  apply PySem.W.methodCall_KW (pl := pl) _ ht
  apply thn (he.run pins s σ H _ I h)
  rintro u s1 ⟨x, H1, I1, rx, rfl, q⟩
  cases (show u = Value.ref C from rx)
  obtain ⟨mc, p, rest, r, e1, e2⟩ := c.rd
  apply PySem.W.method_cls I1.kIn r.ga
  apply PySem.W.cls_bind I1.kIn r.rd e1
  apply wpAny_call
  apply PySem.W.sm_get (s := { s1 with toks := s1.toks + 1 }) I1.kIn e2
  apply PySem.W.handed_on rfl
  have I2 := I1.tok (s1.toks + 1)
  apply PySem.W.callWith_K (h₀ := X.base) (first := []) I2.ok.mod.kin c.kp _ hst hpl
  apply thn (ha.run pos pins _ σ H1 _ I2 q)
  rintro us s3 ⟨vs, H2, I3, rv, q2⟩
  exact ⟨I3.kIn, wpAny_call (run_fnR F hr hx I3 rv q2)⟩
end
end G

namespace G
open PySem SX NumText

/-! ### texts of numbers, by their signs -/
def dig (c : Nat) : Bool := decide (48 ≤ c) && decide (c ≤ 57)
/-- figures alone, one at least -/
def figs (l : List Nat) : Bool := !l.isEmpty && l.all dig
theorem figs_of {l : List Nat} (h : figs l = true) : l ≠ [] ∧ AllDigits l := by
  obtain ⟨h1, h2⟩ := Bool.and_eq_true_iff.mp h
  refine ⟨(fun z => by rw [z] at h1; exact absurd h1 (by simp)), fun c hc => ?_⟩
  have z := List.all_eq_true.mp h2 c hc
  obtain ⟨z1, z2⟩ := Bool.and_eq_true_iff.mp z
  exact ⟨of_decide_eq_true z1, of_decide_eq_true z2⟩
theorem figs_mk {l : List Nat} (h1 : l ≠ []) (h2 : AllDigits l) : figs l = true := by
  refine Bool.and_eq_true_iff.mpr ⟨?_, List.all_eq_true.mpr fun c hc => ?_⟩
  · cases l
    · exact absurd rfl h1
    · rfl
  · obtain ⟨a, b⟩ := h2 c hc
    exact Bool.and_eq_true_iff.mpr ⟨decide_eq_true a, decide_eq_true b⟩
theorem ascii_S (l : List Nat) : Txt.isascii (S l) = l.all (· < 128) := by
  unfold Txt.isascii
  simp [S]
theorem dig_uni {c : Nat} (h : c < 128) : Unicode.isDigit c = dig c := by
  have e := PySem.W.os_isdigit h
  have e2 : Txt.isdigit ⟨#[c]⟩ = Unicode.isDigit c := by
    unfold Txt.isdigit
    simp [Str.length]
  rw [← e2, e]
  rfl
theorem isdigit_S {l : List Nat} (h : l.all (· < 128) = true) : Txt.isdigit (S l) = figs l := by
  unfold Txt.isdigit figs
  have e1 : decide ((S l).length > 0) = !l.isEmpty := by
    rw [S_len]
    cases l <;> simp
  have e2 : (S l).cps.all Unicode.isDigit = l.all dig := by
    rw [← Array.all_toList]
    show l.all Unicode.isDigit = l.all dig
    have : ∀ m : List Nat, m.all (· < 128) = true → m.all Unicode.isDigit = m.all dig := by
      intro m
      induction m with
      | nil => intro _; rfl
      | cons c r ih =>
        intro hm
        obtain ⟨a, b⟩ := Bool.and_eq_true_iff.mp (show (decide (c < 128) && r.all (· < 128)) = true from hm)
        rw [List.all_cons, List.all_cons, ih b, dig_uni (of_decide_eq_true a)]
    exact this l h
  rw [e1, e2]
theorem figs_ascii {l : List Nat} (h : figs l = true) : l.all (· < 128) = true := List.all_eq_true.mpr fun c hc => by
  have := (figs_of h).2 c hc
  exact decide_eq_true (by omega)
theorem sub_dash (l : List Nat) : Builtin.Str.subAt (S l) (S [45]) 0 = decide (l.head? = some 45) := by
  rw [PySem.StrLaws.subAt_eq]
  show ((l.drop 0).take 1 == [45]) = _
  cases l with
  | nil => rfl
  | cons c r =>
    rw [List.drop_zero]
    show ([c] == [45]) = decide (some c = some 45)
    by_cases h : c = 45
    · rw [h]; rfl
    · have h1 : ([c] == [45]) = false := by simpa using h
      have h2 : decide (some c = some 45) = false := by simpa using h
      rw [h1, h2]
theorem starts_dash (l : List Nat) : Txt.startswith (S l) (S [45]) = decide (l.head? = some 45) := by
  unfold Txt.startswith
  rw [sub_dash, S_len, S_len]
  cases l with
  | nil => rfl
  | cons c r =>
    have : decide (0 + ([45] : List Nat).length ≤ (c :: r).length) = true := decide_eq_true (by simp)
    rw [this, Bool.true_and]
/-- without a dash ahead -/
def bare (l : List Nat) : List Nat := if l.head? = some 45 then l.tail else l
theorem strSub_S (l : List Nat) (i j : Nat) : Builtin.Str.strSub (S l) i j = S ((l.drop i).take (j - i)) := by
  refine TL.ext_tl ?_
  show ((S l).cps.extract i j).toList = (l.drop i).take (j - i)
  rw [Array.toList_extract]
theorem bare_S (l : List Nat) : Txt.removeprefix (S l) (S [45]) = S (bare l) := by
  unfold Txt.removeprefix bare
  rw [sub_dash]
  by_cases h : l.head? = some 45
  · rw [decide_eq_true h, if_pos rfl, if_pos h]
    cases l with
    | nil => cases h
    | cons c r =>
      show Txt.affix (S (c :: r)) (some ((S [45]).length, (S (c :: r)).length)) = S r
      unfold Txt.affix
      rw [S_len, S_len]
      have : ¬ ((c :: r).length - ([45] : List Nat).length == (c :: r).length) = true := by simp
      show (if ((c :: r).length - ([45] : List Nat).length == (c :: r).length) = true then S (c :: r) else Builtin.Str.strSub (S (c :: r)) ([45] : List Nat).length (c :: r).length) = S r
      rw [if_neg this, strSub_S]
      simp
  · rw [decide_eq_false h, if_neg h]
    rfl
/-- filled up with noughts to so many -/
def filled (k : Nat) (l : List Nat) : List Nat := List.replicate (k - l.length) 48 ++ l
theorem filled_len {k : Nat} {l : List Nat} (h : l.length ≤ k) : (filled k l).length = k := by
  unfold filled
  rw [List.length_append, List.length_replicate]
  omega
theorem zfill_S {l : List Nat} {k : Nat} (hf : figs l = true) (h : l.length ≤ k) : Txt.zfill (S l) (k : Int) = S (filled k l) := by
  unfold Txt.zfill
  rw [S_len]
  obtain ⟨ne, ad⟩ := figs_of hf
  by_cases e : (k : Int) ≤ (l.length : Int)
  · rw [if_pos e]
    unfold filled
    rw [show k - l.length = 0 by omega]
    rfl
  · rw [if_neg e]
    unfold zfilled filled
    have e2 : ((k : Int).toNat - l.length) = k - l.length := by omega
    rw [e2]
    cases l with
    | nil => exact absurd rfl ne
    | cons c r =>
      obtain ⟨c1, c2⟩ := ad.head
      have z : (S (c :: r)).cps[0]? = some c := rfl
      rw [z]
      have fin : Builtin.Str.padded (S (c :: r)) (k - (c :: r).length) 0 48 = S (List.replicate (k - (c :: r).length) 48 ++ c :: r) := by
        refine TL.ext_tl ?_
        show (Array.replicate (k - (c :: r).length) 48 ++ (S (c :: r)).cps ++ Array.replicate 0 48).toList = _
        simp [S]
      split
      · rename_i h43
        obtain rfl := Option.some.inj h43
        omega
      · rename_i h45
        obtain rfl := Option.some.inj h45
        omega
      · exact fin
theorem val_zeros : ∀ (k : Nat) (l : List Nat), digitsVal (List.replicate k 48 ++ l) = digitsVal l
  | 0, l => rfl
  | k + 1, l => by
    show List.foldl _ 0 _ = _
    rw [List.replicate_succ, List.cons_append, List.foldl_cons]
    exact val_zeros k l
theorem filled_val (k : Nat) (l : List Nat) : digitsVal (filled k l) = digitsVal l := val_zeros _ _
theorem filled_digits {k : Nat} {l : List Nat} (h : AllDigits l) : AllDigits (filled k l) := fun c hc => by
  rcases List.mem_append.mp hc with z | z
  · rw [(List.mem_replicate.mp z).2]
    exact ⟨by decide, by decide⟩
  · exact h c z
theorem int_filled {k : Nat} {l : List Nat} (hf : figs l = true) (hk : l.length ≤ k) (h1 : k ≤ 640) : intText? (S (filled k l)) = some ((digitsVal l : Nat) : Int) := by
  obtain ⟨ne, ad⟩ := figs_of hf
  have e := intText_digits (x := S (filled k l)) (filled_digits ad) (fun z => by
    have : (filled k l).length = 0 := by rw [show filled k l = [] from z]; rfl
    rw [filled_len hk] at this
    cases l
    · exact ne rfl
    · simp at hk; omega) (by rw [S_len, filled_len hk]; omega)
  rw [e]
  show some ((digitsVal (filled k l) : Nat) : Int) = _
  rw [filled_val]
theorem int_figs {l : List Nat} (hf : figs l = true) (hk : l.length ≤ 640) : intText? (S l) = some ((digitsVal l : Nat) : Int) := by
  obtain ⟨ne, ad⟩ := figs_of hf
  exact intText_digits (x := S l) ad ne (by rw [S_len]; omega)
theorem val_lt : ∀ (l : List Nat) (a : Nat), AllDigits l → l.foldl (fun acc c => acc * 10 + (c - 48)) a < (a + 1) * 10 ^ l.length
  | [], a, _ => by simp
  | c :: r, a, h => by
    obtain ⟨c1, c2⟩ := h.head
    have z := val_lt r (a * 10 + (c - 48)) h.tail
    rw [List.foldl_cons]
    refine Nat.lt_of_lt_of_le z ?_
    rw [List.length_cons, Nat.pow_succ, Nat.mul_comm (10 ^ r.length) 10, ← Nat.mul_assoc]
    exact Nat.mul_le_mul_right _ (by omega)
theorem digitsVal_lt {l : List Nat} (h : AllDigits l) : digitsVal l < 10 ^ l.length := by
  have z := val_lt l 0 h
  rw [Nat.zero_add, Nat.one_mul] at z
  exact z
/-! ### the text of an integer, of a fraction -/
theorem S_cat_of (t : String) : Str.ofString ("-" ++ t) = S [45] ++ Str.ofString t := by
  refine TL.ext_tl ?_
  rw [TL.tl_append, PySem.Str.ofString_eq_toList, PySem.Str.ofString_eq_toList]
  show (List.map Char.toNat ("-" ++ t).toList) = [45] ++ List.map Char.toNat t.toList
  rw [String.toList_append, List.map_append]
  rfl
def intL (i : Int) : List Nat := if i < 0 then 45 :: TL.numL i.natAbs else TL.numL i.natAbs
theorem int_L (i : Int) : Str.ofString (toString i) = S (intL i) := by
  unfold intL
  by_cases h : i < 0
  · rw [if_pos h]
    obtain ⟨n, rfl⟩ : ∃ n : Nat, i = Int.negSucc n := ⟨(-i - 1).toNat, by omega⟩
    have e : toString (Int.negSucc n) = "-" ++ toString (n + 1) := rfl
    rw [e]
    have e2 : Str.ofString ("-" ++ toString (n + 1)) = S [45] ++ Str.ofString (toString (((n + 1 : Nat)) : Int)) := by
      have t : toString (((n + 1 : Nat)) : Int) = toString (n + 1) := rfl
      rw [t, S_cat_of]
    rw [e2, num_S, S_cat]
    rfl
  · rw [if_neg h]
    obtain ⟨n, rfl⟩ := Int.eq_ofNat_of_zero_le (show 0 ≤ i by omega)
    exact num_S n
/-- n / u -/
def ratL (n u : Int) : List Nat := if u = 1 then intL n else intL n ++ 47 :: intL u
theorem numL_figs (n : Nat) : figs (TL.numL n) = true := figs_mk (TL.numL_ne n) (TL.numL_digits n)
theorem bare_int (n : Int) : bare (intL n) = TL.numL n.natAbs := by
  unfold bare intL
  by_cases h : n < 0
  · rw [if_pos h]
    rfl
  · rw [if_neg h, if_neg]
    intro z
    have hne := TL.numL_ne n.natAbs
    cases e : TL.numL n.natAbs with
    | nil => exact hne e
    | cons c r =>
      rw [e] at z
      obtain rfl := Option.some.inj (show some c = some 45 from z)
      have := TL.numL_digits n.natAbs 45 (by rw [e]; exact List.mem_cons_self ..)
      omega
theorem head_int (n : Int) : (decide ((intL n).head? = some 45) : Bool) = decide (n < 0) := by
  unfold intL
  by_cases h : n < 0
  · rw [if_pos h, decide_eq_true h]
    rfl
  · rw [if_neg h, decide_eq_false h]
    refine decide_eq_false fun z => ?_
    cases e : TL.numL n.natAbs with
    | nil => exact TL.numL_ne _ e
    | cons c r =>
      rw [e] at z
      obtain rfl := Option.some.inj (show some c = some 45 from z)
      have := TL.numL_digits n.natAbs 45 (by rw [e]; exact List.mem_cons_self ..)
      omega
theorem intL_mem {n : Int} {c : Nat} (h : c ∈ intL n) : c = 45 ∨ (48 ≤ c ∧ c ≤ 57) := by
  unfold intL at h
  split at h
  · rcases List.mem_cons.mp h with z | z
    · exact .inl z
    · exact .inr (TL.numL_digits _ c z)
  · exact .inr (TL.numL_digits _ c h)
theorem int_free {n : Int} {c : Nat} (h : c ≠ 45) (h2 : c < 48 ∨ 57 < c) : c ∉ intL n := fun z => by
  rcases intL_mem z with e | ⟨a, b⟩
  · exact h e
  · omega
/-- no nought ahead of another figure -/
theorem num_lead : ∀ (n : Nat), (TL.numL n).head? = some 48 → n = 0 := fun n => by
  induction n using Nat.strongRecOn with
  | ind n ih =>
    intro h
    by_cases hn : n < 10
    · rw [TL.numL_lt hn] at h
      have := Option.some.inj h
      omega
    · rw [TL.numL_step (by omega)] at h
      have hne := TL.numL_ne (n / 10)
      cases e : TL.numL (n / 10) with
      | nil => exact absurd e hne
      | cons c r =>
        rw [e, List.cons_append] at h
        have h' : (TL.numL (n / 10)).head? = some 48 := by rw [e]; exact h
        have := ih (n / 10) (by omega) h'
        omega
end G

namespace G
open PySem SX NumText

/-! ### texts of fractions: how they come apart -/
theorem split_at (c : Nat) (l : List Nat) : c ∉ l ∨ ∃ p q, l = p ++ c :: q ∧ c ∉ p := by
  by_cases h : c ∈ l
  · exact .inr (List.eq_append_cons_of_mem h)
  · exact .inl h
theorem part_none {c : Nat} {l : List Nat} (h : c ∉ l) : Txt.partition (S l) (S [c]) = (S l, S [], S []) := partition_none (by simp) (par_head_none h)
theorem part_some {c : Nat} {p q : List Nat} (h : c ∉ p) : Txt.partition (S (p ++ c :: q)) (S [c]) = (S p, S [c], S q) := partition_some (by simp) (par_head (sep := []) q h)
theorem spl_none {c : Nat} {l : List Nat} (h : c ∉ l) : TL.spl [c] 0 [] l = [l] := TL.spl_last1 h
theorem spl_some {c : Nat} {p q : List Nat} (h : c ∉ p) : TL.spl [c] 0 [] (p ++ c :: q) = p :: TL.spl [c] 0 [] q := TL.spl_part1 (S := []) h
theorem spl_ne (c : Nat) (l : List Nat) : TL.spl [c] 0 [] l ≠ [] := by
  rcases split_at c l with h | ⟨p, q, rfl, h⟩
  · rw [spl_none h]; simp
  · rw [spl_some h]; simp
theorem spl_one {c : Nat} {l a : List Nat} (h : TL.spl [c] 0 [] l = [a]) : l = a := by
  rcases split_at c l with n | ⟨p, q, rfl, n⟩
  · rw [spl_none n] at h
    exact (List.cons.inj h).1
  · rw [spl_some n] at h
    exact absurd (List.cons.inj h).2 (spl_ne c q)
theorem spl_two {c : Nat} {l a b : List Nat} (h : TL.spl [c] 0 [] l = [a, b]) : l = a ++ c :: b := by
  rcases split_at c l with n | ⟨p, q, rfl, n⟩
  · rw [spl_none n] at h
    exact absurd (List.cons.inj h).2 (by simp)
  · rw [spl_some n] at h
    obtain ⟨e1, e2⟩ := List.cons.inj h
    rw [e1, spl_one e2]
theorem spl_len (c : Nat) : ∀ (k : Nat) (l : List Nat), l.length ≤ k → (TL.spl [c] 0 [] l).length ≤ l.length + 1 ∧ ∀ w ∈ TL.spl [c] 0 [] l, w.length ≤ l.length := fun k => by
  induction k with
  | zero =>
    intro l hl
    have e : l = [] := List.length_eq_zero_iff.mp (by omega)
    subst e
    rw [TL.spl_nil]
    exact ⟨by simp, fun w hw => by rw [List.mem_singleton.mp hw]; exact Nat.le_refl _⟩
  | succ k ih =>
    intro l hl
    rcases split_at c l with n | ⟨p, q, rfl, n⟩
    · rw [spl_none n]
      exact ⟨by simp, fun w hw => by rw [List.mem_singleton.mp hw]; exact Nat.le_refl _⟩
    · rw [spl_some n]
      simp only [List.length_append, List.length_cons] at hl ⊢
      obtain ⟨h1, h2⟩ := ih q (by omega)
      refine ⟨by omega, fun w hw => ?_⟩
      rcases List.mem_cons.mp hw with e | e
      · rw [e]; omega
      · have := h2 w e; omega
/-- the text is that of a fraction -/
def IsRat (l : List Nat) (n u : Int) : Prop := Red n u ∧ l = ratL n u
theorem intL_pos {u : Int} (h : 0 < u) : intL u = TL.numL u.natAbs := if_neg (by omega)
theorem ratL_one (n : Int) : ratL n 1 = intL n := if_pos rfl
theorem ratL_two {n u : Int} (h : u ≠ 1) : ratL n u = intL n ++ 47 :: intL u := if_neg h
theorem no47 (n : Int) : (47 : Nat) ∉ intL n := int_free (by decide) (.inl (by decide))
theorem no32 (n : Int) : (32 : Nat) ∉ intL n := int_free (by decide) (.inl (by decide))
theorem rat32 (n u : Int) : (32 : Nat) ∉ ratL n u := by
  unfold ratL
  split
  · exact no32 n
  · intro z
    rcases List.mem_append.mp z with e | e
    · exact no32 n e
    · rcases List.mem_cons.mp e with e | e
      · omega
      · exact no32 u e
/-- without a stroke -/
theorem rat_plain {l : List Nat} {n u : Int} (h : IsRat l n u) (f : (47 : Nat) ∉ l) : u = 1 ∧ l = intL n := by
  obtain ⟨r, rfl⟩ := h
  by_cases e : u = 1
  · exact ⟨e, by rw [e, ratL_one]⟩
  · rw [ratL_two e] at f
    exact absurd (List.mem_append_right _ (List.mem_cons_self ..)) f
/-- with one -/
theorem rat_stroke {p q : List Nat} {n u : Int} (h : IsRat (p ++ 47 :: q) n u) (f : (47 : Nat) ∉ p) : u ≠ 1 ∧ p = intL n ∧ q = TL.numL u.natAbs := by
  obtain ⟨r, e⟩ := h
  by_cases e1 : u = 1
  · rw [e1, ratL_one] at e
    exact absurd (by rw [← e]; exact List.mem_append_right _ (List.mem_cons_self ..)) (no47 n)
  · rw [ratL_two e1] at e
    have z := (par_head (sep := []) q f).symm.trans ((congrArg (TL.par [47] []) e).trans (par_head (sep := []) (intL u) (no47 n)))
    injection z with z
    injection z with z1 z2
    exact ⟨e1, z1, by rw [z2, intL_pos r.pos]⟩
theorem intL_inj {a b : Int} (h : intL a = intL b) : a = b := by
  have h1 := bare_int a
  have h2 := bare_int b
  rw [h] at h1
  have e1 := TL.numL_inj (h1.symm.trans h2)
  have e2 := head_int a
  rw [h, head_int b] at e2
  have e3 : (b < 0) ↔ (a < 0) := by
    constructor
    · intro z; exact of_decide_eq_true (e2.symm.trans (decide_eq_true z))
    · intro z; exact of_decide_eq_true (e2.trans (decide_eq_true z))
  omega
theorem isRat_inj {l : List Nat} {n u m t : Int} (h : IsRat l n u) (h' : IsRat l m t) : n = m ∧ u = t := by
  rcases split_at 47 l with f | ⟨p, q, rfl, f⟩
  · obtain ⟨e1, e2⟩ := rat_plain h f
    obtain ⟨e3, e4⟩ := rat_plain h' f
    exact ⟨intL_inj (e2.symm.trans e4), by rw [e1, e3]⟩
  · obtain ⟨_, e1, e2⟩ := rat_stroke h f
    obtain ⟨_, e3, e4⟩ := rat_stroke h' f
    have := TL.numL_inj (e2.symm.trans e4)
    have := h.1.pos
    have := h'.1.pos
    exact ⟨intL_inj (e1.symm.trans e3), by omega⟩
theorem numL_le {n k : Nat} (hk : 0 < k) (h : n < 10 ^ k) : (TL.numL n).length ≤ k := TL.numL_len hk h
theorem intL_le {n : Int} {k : Nat} (hk : 0 < k) (h : n.natAbs < 10 ^ k) : (intL n).length ≤ k + 1 := by
  have := numL_le hk h
  unfold intL
  split
  · rw [List.length_cons]; omega
  · omega
theorem ratL_le {n u : Int} {k j : Nat} (hk : 0 < k) (hj : 0 < j) (h : n.natAbs < 10 ^ k) (h' : u.natAbs < 10 ^ j) : (ratL n u).length ≤ k + j + 3 := by
  have h1 := intL_le hk h
  have h2 := intL_le hj h'
  unfold ratL
  split
  · omega
  · rw [List.length_append, List.length_cons]; omega
theorem digits_small {l : List Nat} {k : Nat} (h : figs l = true) (hl : l.length ≤ k) : digitsVal l < 10 ^ k := Nat.lt_of_lt_of_le (digitsVal_lt (figs_of h).2) (Nat.pow_le_pow_right (by decide) hl)
/-! ### the law's own reading of figures -/
def figN (w : List Nat) : Int := if figs w = true ∧ ¬ (w.head? = some 48 ∧ w ≠ [48]) then ((digitsVal w : Nat) : Int) else -1
theorem figN_num (n : Nat) : figN (TL.numL n) = (n : Int) := by
  have h : ¬ ((TL.numL n).head? = some 48 ∧ TL.numL n ≠ [48]) := by
    rintro ⟨h1, h2⟩
    have := num_lead n h1
    subst this
    exact h2 (TL.numL_lt (by decide))
  unfold figN
  rw [if_pos ⟨numL_figs n, h⟩, TL.numL_val]
theorem figN_le {w : List Nat} {k : Nat} (hk : 0 < k) (h : w.length ≤ k) : (figN w).natAbs < 10 ^ k := by
  unfold figN
  split
  · rename_i c
    have := digits_small c.1 h
    omega
  · exact Nat.one_lt_pow (by omega) (by decide)
theorem bare_len (l : List Nat) : (bare l).length ≤ l.length := by
  unfold bare
  split
  · rw [List.length_tail]; omega
  · exact Nat.le_refl _
theorem in_fig (c : Nat) : decide (c ∈ (Str.cps "0123456789").toList) = dig c := by
  have e : (Str.cps "0123456789").toList = [48, 49, 50, 51, 52, 53, 54, 55, 56, 57] := by rfl
  rw [e]
  unfold dig
  by_cases h : 48 ≤ c ∧ c ≤ 57
  · rw [decide_eq_true h.1, decide_eq_true h.2]
    refine decide_eq_true ?_
    simp only [List.mem_cons, List.not_mem_nil, or_false]
    omega
  · have : (decide (48 ≤ c) && decide (c ≤ 57)) = false := by
      rw [Bool.and_eq_false_iff]
      by_cases h1 : 48 ≤ c
      · exact .inr (decide_eq_false fun z => h ⟨h1, z⟩)
      · exact .inl (decide_eq_false h1)
    rw [this]
    refine decide_eq_false fun z => h ?_
    simp only [List.mem_cons, List.not_mem_nil, or_false] at z
    omega
/-! ### slices -/
theorem slice_ab (m : List Nat) (i j : Nat) : Txt.slice (S m) (some (i : Int)) (some (j : Int)) = S ((m.drop (min i m.length)).take (min j m.length - min i m.length)) := by
  rw [← C8.cutS_slice]
  unfold L2.cutS
  rw [HT.sIx_nat, HT.sIx_nat, S_len]
theorem emp_cat (m : List Nat) : Str.empty ++ S m = S m := S_cat [] m
theorem stroke_S : Str.ofString "/" = S [47] := rfl
theorem blank_S : Str.ofString " " = S [32] := rfl
end G
namespace G
open PySem SX NumText
/-! ### short texts of plain signs -/
def TxtOk (l : List Nat) (k : Nat) : Prop := l.length ≤ k ∧ ∀ c ∈ l, c < 128
theorem TxtOk.mono {l : List Nat} {j k : Nat} (h : TxtOk l j) (hk : j ≤ k) : TxtOk l k := ⟨Nat.le_trans h.1 hk, h.2⟩
theorem TxtOk.app {l m : List Nat} {j k n : Nat} (h : TxtOk l j) (h' : TxtOk m k) (hn : j + k ≤ n) : TxtOk (l ++ m) n := ⟨by rw [List.length_append]; have := h.1; have := h'.1; omega, fun c hc => (List.mem_append.mp hc).elim (h.2 c) (h'.2 c)⟩
theorem TxtOk.take {l : List Nat} {k : Nat} (h : TxtOk l k) (i : Nat) : TxtOk (l.take i) (min i l.length) := ⟨by rw [List.length_take]; omega, fun c hc => h.2 c (List.mem_of_mem_take hc)⟩
theorem TxtOk.drop {l : List Nat} {k : Nat} (h : TxtOk l k) (i : Nat) : TxtOk (l.drop i) (l.length - i) := ⟨by rw [List.length_drop]; omega, fun c hc => h.2 c (List.mem_of_mem_drop hc)⟩
theorem txt_of (l : List Nat) (k : Nat) (h : (decide (l.length ≤ k) && l.all (· < 128)) = true) : TxtOk l k := by
  obtain ⟨h1, h2⟩ := Bool.and_eq_true_iff.mp h
  exact ⟨of_decide_eq_true h1, fun c hc => of_decide_eq_true (List.all_eq_true.mp h2 c hc)⟩
theorem slice_end {l : List Nat} {k : Nat} (h : TxtOk l k) : ∃ r, Txt.slice (S l) (some (-1)) none = S r ∧ TxtOk r 1 := by
  by_cases e : l = []
  · subst e
    exact ⟨[], rfl, by simp, fun c hc => nomatch hc⟩
  · refine ⟨_, slice_last e, ?_, fun c hc => h.2 c (List.mem_of_mem_drop hc)⟩
    rw [List.length_drop]
    omega
theorem slice_one {l : List Nat} {k : Nat} (h : TxtOk l k) (j : Nat) : ∃ r, Txt.slice (S l) (some (j : Int)) (some ((j : Int) + 1)) = S r ∧ TxtOk r 1 := by
  refine ⟨_, slice_ab l j (j + 1), ?_, fun c hc => h.2 c (List.mem_of_mem_drop (List.mem_of_mem_take hc))⟩
  rw [List.length_take]
  omega
theorem int_txt (n : Int) : ∀ c ∈ intL n, c < 128 := fun c hc => by
  rcases intL_mem hc with e | e <;> omega
theorem rat_txt (n u : Int) : ∀ c ∈ ratL n u, c < 128 := fun c hc => by
  unfold ratL at hc
  split at hc
  · exact int_txt n c hc
  · rcases List.mem_append.mp hc with e | e
    · exact int_txt n c e
    · rcases List.mem_cons.mp e with e | e
      · omega
      · exact int_txt u c e
end G

namespace G
open PySem PySem.Spec PyProof.Rows L2

/-! ### a list comprehension without tests whose element makes new things at most -/
/-- all but lists stays -/
def NoL (H H' : Hp) : Prop := ∀ b o, H b = some o → (∀ zs, o ≠ .lst zs) → H' b = some o
theorem NoL.same {H H' : Hp} (S : Same H H') : NoL H H' := fun b o e _ => S b o e
theorem noL_upd {H : Hp} {D : Addr} {xs ys : List V} (h : H D = some (.lst xs)) : NoL H (upd H D (.lst ys)) := fun b o e n => by
  have : b ≠ D := fun z => by
    rw [z, h] at e
    exact n xs (Option.some.inj e).symm
  rw [upd_ne this]
  exact e
theorem lc_rel {K : PySem.W.Frag} {a : Addr} {xs : List V} {i0 : Nat} {te : TE} {vs : List Nat} {σ : L2.St} {H1 : Hp} {D : Addr} {Qd : Hp → Prop} (R : V → V → Hp → Prop) (hR : ∀ x y H H', NoL H H' → R x y H → R x y H')
    (hD : H1 D = none) (ha : SqL K H1 a xs) (hz : xs.length < sizeLine) (hw : ∀ x, wipe ((wipe σ vs).set i0 (some x)) vs = wipe σ vs)
    (he : ∀ x ∈ xs, ∀ H' (Q : VK), Same H1 H' → (∀ y H'', Same H' H'' → R x y H'' → Q y H'') → te ((wipe σ vs).set i0 (some x)) H' Q)
    (hd : ∀ ys H', Same H1 H' → H' D = some (.lst ys) → Paired (fun x y => R x y H') xs ys → Qd H') :
    ∃ W : Nat → Nat → Hp → Prop, (∃ m, W 0 m (upd H1 D (.lst []))) ∧ ∀ i m H, W i m H →
      ((Itl K a).stop i H ∧ Qd H) ∨ ((Itl K a).go i H ∧ ∃ Nx : Hp → Prop, (∀ H', Nx H' → ∃ m', m' < m ∧ W (i + 1) m' H') ∧ ∀ x H', (Itl K a).yld i H x H' → gName i0 x (wipe σ vs) H' fun σ2 H2 => wipe σ2 vs = wipe σ vs ∧ tYes σ2 H2 fun b H3 =>
        if b = true then te σ2 H3 fun y H4 => ∃ acc, H4 D = some (.lst acc) ∧ acc.length < sizeLine ∧ Nx (upd H4 D (.lst (acc ++ [y]))) else Nx H3) := by
  refine lc_list (K := K) (a := a) (xs := xs) (fun i H' => Same H1 H' ∧ ∃ ys, H' D = some (.lst ys) ∧ Paired (fun x y => R x y H') (xs.take i) ys) ⟨same_new hD, [], upd_same, by rw [List.take_zero]; exact .nil⟩ ?_ ?_ ?_
  · rintro i H' hi ⟨S, _⟩
    exact S.seq ha
  · rintro i x H' hx ⟨S, ys, dy, p⟩
    obtain ⟨hi, ex⟩ := List.getElem?_eq_some_iff.mp hx
    refine ⟨hw x, ?_⟩
    unfold tYes
    refine iteT (he x (ex ▸ List.getElem_mem hi) H' _ S fun y H'' S2 r => ?_)
    have d2 := S2 _ _ dy
    have len := p.length
    rw [List.length_take] at len
    refine ⟨ys, d2, by omega, fun b o e => ?_, ys ++ [y], upd_same, ?_⟩
    · rw [upd_ne (ne_of_none e hD)]
      exact S2 _ _ (S _ _ e)
    · rw [List.take_succ, hx]
      have nl := noL_upd (ys := ys ++ [y]) d2
      refine PySem.Paired.snoc (Paired.mapP p fun x y r => hR _ _ _ _ nl (hR _ _ _ _ (NoL.same S2) r)) (hR _ _ _ _ nl r)
  · rintro H' ⟨S, ys, dy, p⟩
    rw [List.take_length] at p
    exact hd ys H' S dy p
end G

namespace G
open PySem PySem.Spec PyProof.Rows L2 SX

/-! ### repr of data with longer ints -/
structure GdF (d : PyData) : Prop where
  short : d.leavesShort 80 = true
  show_ : d.showable = true
  depth : d.depth ≤ 10
  weight : d.weight ≤ 10000
theorem GdF.fits {d : PyData} (g : GdF d) : d.shown.length ≤ sizeLine := by
  have := PyData.shown_le 80 (by decide) d g.short
  have h := g.weight
  rw [sizeLine_eq]
  have : (80 + 2) * d.weight ≤ 82 * 10000 := Nat.mul_le_mul (by decide) h
  omega
mutual
/-- data without dicts -/
inductive Dz (H : Hp) : V → PyData → Prop
  | int (i : Int) : Dz H (.int i) (.int i)
  | non : Dz H .non .none
  | lst {a : Addr} {xs : List V} {ds : List PyData} : H a = some (.lst xs) → DzAll H xs ds → Dz H (.ref a) (.list ds)
  | tup {a : Addr} {xs : List V} {ds : List PyData} : H a = some (.tup xs) → DzAll H xs ds → Dz H (.ref a) (.tuple ds)
inductive DzAll (H : Hp) : List V → List PyData → Prop
  | nil : DzAll H [] []
  | cons {v : V} {vs : List V} {d : PyData} {ds : List PyData} : Dz H v d → DzAll H vs ds → DzAll H (v :: vs) (d :: ds)
end
section
variable {X : Cx} {pins : List (Addr × Obj)} {σ : L2.St} {H : Hp} {s : Shared}
mutual
theorem Dz.reads (I : Inv X pins σ H s) : ∀ {v : V} {d : PyData} {u : Value}, Dz H v d → RelV v u → ∃ as, Reads s.heap u d as
  | _, _, _, .non, r => by cases r; exact ⟨_, .none⟩
  | _, _, _, .int i, r => by obtain ⟨t, rfl⟩ := r; exact ⟨_, .int i t⟩
  | _, _, _, .lst e t, r => by
    cases r
    obtain ⟨_, its, m, rv, ho⟩ := I.hok _ _ e
    obtain ⟨as, hr⟩ := DzAll.reads I t rv
    exact ⟨_, .list ho rfl rfl hr⟩
  | _, _, _, .tup e t, r => by
    cases r
    obtain ⟨_, its, rv, o, ho, hc, m, hd⟩ := I.hok _ _ e
    obtain ⟨as, hr⟩ := DzAll.reads I t rv
    exact ⟨_, .tuple ho hc hd hr⟩
theorem DzAll.reads (I : Inv X pins σ H s) : ∀ {vs : List V} {ds : List PyData} {us : List Value}, DzAll H vs ds → Vals vs us → ∃ as, ReadsAll s.heap us ds as
  | _, _, _, .nil, r => by cases r; exact ⟨_, .nil⟩
  | _, _, _, .cons h t, r => by
    cases r with
    | cons r1 r2 =>
      obtain ⟨as, q1⟩ := Dz.reads I h r1
      obtain ⟨bs, q2⟩ := DzAll.reads I t r2
      exact ⟨_, .cons q1 q2⟩
end
end
theorem call_reprF {X : Cx} (hq : Quiet X.A) (hu : X.A.units + 64 < cLine) : CallR X (.builtin "repr") (fun xs H Q => ∃ a d, xs = [.ref a] ∧ Dz H (.ref a) d ∧ GdF d ∧ d.hasDict = false ∧ Q (.str d.shown) H) := by
  intro pins s σ H xs us Q I r h
  obtain ⟨a, d, rfl, hd, g, nd, q⟩ := h
  obtain ⟨u, rfl, ru⟩ := vals1 r
  cases ru
  obtain ⟨as, hr⟩ := Dz.reads I hd rfl
  refine repr_of_reads' (h₀ := s.heap) hr g.show_ (fun z => by rw [nd] at z; cases z) hq (by have := g.depth; omega) (fun _ _ z => z) (fun h' t tk hk => ?_) g.fits
  exact ⟨.str d.shown, H, I.kept hk, ⟨_, rfl⟩, q⟩
/-- two ints -/
def Mid (i : Int) : Prop := i.natAbs < 10 ^ 64
theorem mid_short {i : Int} (h : Mid i) : (PyData.int i).leavesShort 80 = true := by
  refine decide_eq_true ?_
  show (Str.ofString (toString i)).length ≤ 80
  rw [int_L, S_len]
  have := intL_le (k := 64) (by decide) h
  omega
theorem mid_show {i : Int} (h : Mid i) : (PyData.int i).showable = true := decide_eq_true (Nat.lt_of_lt_of_le (PySem.Flt.log2_lt_of (k := 213) (by decide) (Nat.lt_of_lt_of_le h (by decide +kernel))) (by decide))
theorem mid_weight {i : Int} (h : Mid i) : (PyData.int i).weight ≤ 300 := by
  have := PySem.Flt.log2_lt_of (k := 213) (by decide) (Nat.lt_of_lt_of_le h (show 10 ^ 64 ≤ 2 ^ 213 by decide +kernel))
  show (if i == 0 then 0 else i.natAbs.log2 + 1) ≤ 300
  split <;> omega
def pairD (n u : Int) : PyData := .tuple [.int n, .int u]
theorem pair_good {n u : Int} (h : Mid n) (h' : Mid u) : (pairD n u).leavesShort 80 = true ∧ (pairD n u).showable = true ∧ (pairD n u).depth ≤ 1 ∧ (pairD n u).weight ≤ 1000 := by
  refine ⟨?_, ?_, ?_, ?_⟩
  · show ((PyData.int n).leavesShort 80 && ((PyData.int u).leavesShort 80 && true)) = true
    rw [mid_short h, mid_short h']
    rfl
  · show ((PyData.int n).showable && ((PyData.int u).showable && true)) = true
    rw [mid_show h, mid_show h']
    rfl
  · show max 0 (max 0 0) + 1 ≤ 1
    decide
  · show (PyData.int n).weight + 1 + ((PyData.int u).weight + 1 + 0) ≤ 1000
    have := mid_weight h
    have := mid_weight h'
    omega
theorem pair_gd {n u : Int} (h : Mid n) (h' : Mid u) : GdF (pairD n u) := by
  obtain ⟨a, b, c, d⟩ := pair_good h h'
  exact ⟨a, b, by omega, by omega⟩
theorem pairs_gd {n u m t : Int} (h1 : Mid n) (h2 : Mid u) (h3 : Mid m) (h4 : Mid t) : GdF (.list [pairD n u, pairD m t]) := by
  obtain ⟨a, b, c, d⟩ := pair_good h1 h2
  obtain ⟨a', b', c', d'⟩ := pair_good h3 h4
  refine ⟨?_, ?_, ?_, ?_⟩
  · show ((pairD n u).leavesShort 80 && ((pairD m t).leavesShort 80 && true)) = true
    rw [a, a']
    rfl
  · show ((pairD n u).showable && ((pairD m t).showable && true)) = true
    rw [b, b']
    rfl
  · show max (pairD n u).depth (max (pairD m t).depth 0) + 1 ≤ 10
    omega
  · show (pairD n u).weight + 1 + ((pairD m t).weight + 1 + 0) ≤ 10000
    omega
theorem rat_small {l : List Nat} {n u : Int} (h : IsRat l n u) (hl : l.length ≤ 60) : Mid n ∧ Mid u ∧ 0 < u := by
  have hp := h.1.pos
  have up : ∀ k : Nat, (TL.numL k).length ≤ 60 → k < 10 ^ 64 := fun k hk => by
    have := digits_small (numL_figs k) hk
    rw [TL.numL_val] at this
    exact Nat.lt_of_lt_of_le this (by decide +kernel)
  have num : (TL.numL n.natAbs).length ≤ (intL n).length := by
    unfold intL
    split
    · rw [List.length_cons]; omega
    · exact Nat.le_refl _
  rcases split_at 47 l with f | ⟨p, q, rfl, f⟩
  · obtain ⟨rfl, rfl⟩ := rat_plain h f
    exact ⟨up _ (by omega), by show (1 : Int).natAbs < 10 ^ 64; decide +kernel, by decide⟩
  · obtain ⟨_, rfl, rfl⟩ := rat_stroke h f
    rw [List.length_append, List.length_cons] at hl
    exact ⟨up _ (by omega), up _ (by omega), hp⟩
end G

namespace G
open PySem PySem.Spec PyProof.Rows L2

/-! ### a list comprehension whose element may look at the def's frame as it stands when the comprehension begins -/
section
variable {X : Cx} {elt tg iter : Expr} {scope : Scope} {own : List (Str × Nat)} {pos : Pos} {wi : TI} {g : TG} {te : L2.St → TE}
/-- the block's own environment -/
abbrev inEnv (X : Cx) (scope : Scope) (z : Nat) : Env := compEnvC scope (cellsFrom (z + 1) scope.names (cloFrom X.env.cells scope.names [])) z X.env
/-- behind a turn, and ahead of the first one -/
def Between (B : Cx) (vs : List Nat) (σ : L2.St) (fp : List Addr) (tn : Nat → Heap → Prop) (W : Nat → Nat → Hp → Prop) (n : Nat) (s : Shared) : Prop :=
  ∃ i H, Inv B [] (wipe σ vs) H s ∧ tn i s.heap ∧ (∀ b ∈ fp, H b = none) ∧ W i n H
theorem between_next {B : Cx} {vs : List Nat} {σ σ1 : L2.St} {fp : List Addr} {tn : Nat → Heap → Prop} {W : Nat → Nat → Hp → Prop} {tg : Expr} {J : It} {it : Addr} {i m n : Nat} {h : Heap} {H : Hp} {s : Shared}
    (T : Turn B.prog B.w B.K tg J fp it tn) (I : Inv B ([] ++ pinsAt fp h) σ1 H s) (st : tn i h) (same : wipe σ1 vs = wipe σ vs) (hw : W i m H) (hm : m < n) : ∃ k, k < n ∧ Between B vs σ fp tn W k s := by
  have stays : ∀ b ∈ fp, ∀ o, h.get? b = some o → s.heap.get? b = some o ∧ H b = none := fun b hb o e =>
    have z := I.pin (b, o) (List.mem_append_right _ (List.mem_append_right _ (mem_pinsAt hb e)))
    ⟨z.1, z.2.1⟩
  refine ⟨m, hm, i, H, ?_, T.keep _ _ _ st fun b hb o e => (stays b hb o e).1, fun b hb => ?_, hw⟩
  · have len : (wipe σ vs).length = σ1.length := by rw [← same, wipe_length]
    refine I.unpinned.weak len fun j v e => ?_
    rw [← same] at e
    exact (wipe_some e).1
  · obtain ⟨o, e, _⟩ := T.obj _ _ st b hb
    exact (stays b hb o e).2
theorem pe_lcC (hc : X.calm = true) (hN : X.N.Nodup) (hi : PI X tg iter wi) (ok : BlkOk X.N X.env.scope scope own)
    (hg : ∀ (s : Shared) (H : Hp) (C : Addr) (cl : List (Str × Addr)) (fp : List Addr), PG (X.blk s H scope (compEnvC scope cl C X.env) fp) tg g)
    (he : ∀ (pins : List (Addr × Obj)) (σ : L2.St) (s : Shared) (H : Hp) (C : Addr) (cl : List (Str × Addr)) (fp : List Addr), Inv X pins σ H s → (∀ b ∈ fp, FpOk X pins H b) → PE (X.blk s H scope (compEnvC scope cl C X.env) fp) elt (te σ))
    (hs : ∀ x, foldedSetIterable iter X.env x = pure x := by intro _; rfl) :
    PE X (.ListComp elt [⟨tg, iter, [], 0⟩] scope pos) (fun σ H Q => tLc wi g tYes (te σ) (own.map (·.2)) σ H Q) := by
  constructor
  intro pins s σ H Q I h
  rw [eval_ListComp]
  have caught : ∀ y ∈ scope.names, y.2 = .free → ∃ c, X.env.cells.lookup y.1 = some c := fun y hy e => (ok.free y hy e).elim (fun k => I.ok.has _ (.inl k)) fun k => I.ok.has _ (.inr k)
  apply wpAny_comprehension_free (use := none) rfl hs (closure_ok caught) ok.kind (fun y hy e => by rw [ok.uniq y hy, e])
  apply thn (hi.run pins s σ H _ I h)
  intro v s1 h1
  apply thn h1
  rintro itv s2 ⟨it, fp, tn, J, H2, rfl, I2, T, st2, f2, q⟩
  apply wpAny_newObj_type _ (by show 0 ≤ sizeLine; decide)
  apply newEnv_comp
  -- the list that is to be filled
  obtain ⟨W, ⟨m0, w0⟩, turn⟩ := q s2.heap.objs.size (I2.hok.fresh (Nat.le_refl _))
  let L : Addr := s2.heap.objs.size
  let s3 : Shared := { s2 with heap := s2.heap.push { cls := .type "list", data := .seq ([] : List Value).toArray } }
  let H3 : Hp := upd H2 L (.lst [])
  have up : ∀ b o, s2.heap.get? b = some o → s3.heap.get? b = some o := fun b o e => Heap.get?_push_of_some _ e
  have I3 : Inv X pins σ H3 s3 := I2.laid (t' := s2.toks) up (Nat.le_refl _) ⟨Nat.zero_le _, [], 0, .nil, Heap.get?_push_size _ rfl⟩
  have old : ∀ b ∈ fp, b < s2.heap.objs.size := fun b hb => by
    obtain ⟨o, e, _⟩ := T.obj _ _ st2 b hb
    exact Heap.lt_size e
  have z3 : s3.heap.objs.size = s2.heap.objs.size + 1 := Heap.size_push ..
  have f3 : ∀ b ∈ fp, FpOk X pins H3 b := fun b hb => ⟨(upd_ne (Nat.ne_of_lt (old b hb))).trans (f2 b hb).1, (f2 b hb).2⟩
  have I4 := block_start I3 ok hN fun b hb => ⟨f3 b hb, Nat.lt_of_lt_of_le (old b hb) (by rw [z3]; exact Nat.le_succ _)⟩
  let B : Cx := X.blk s3 H3 scope (inEnv X scope s3.heap.objs.size) fp
  have st3 : tn 0 s3.heap := T.keep _ _ _ st2 fun b _ o e => up b o e
  let s4 : Shared := { s3 with heap := pushCells (s3.heap.push { cls := .type "dict", data := .dict #[] }) scope.names }
  have st4 : tn 0 s4.heap := T.keep _ _ _ st3 fun b _ o e => pushCells_keeps _ _ _ _ (Heap.get?_push_of_some _ e)
  replace I4 : Inv B [] (wipe σ (own.map (·.2))) H3 s4 := I4
  have mine : ∀ {σ' : L2.St} {H' : Hp} {s' : Shared}, Inv B [] σ' H' s' → (∀ b ∈ fp, H' b = none) → ∀ b ∈ fp, FpOk B [] H' b := fun J n b hb =>
    ⟨n b hb, (J.ok.exf b hb).1, J.ok.exfs b hb, .inl hb, fun x c e => (J.ok.exf b hb).2 x c e, fun p hp => nomatch (show p ∈ ([] : List (Addr × Obj)) from hp)⟩
  show codeAny _ _ (.compStart _ 0 (.ref it) (.ref L) (inEnv X scope s3.heap.objs.size)) _ s4
  have all : codeAny (model X.prog X.w) X.A (.compLoop (.ListComp elt [⟨tg, iter, [], 0⟩] scope pos) 0 (.ref it) (.ref L) (inEnv X scope s3.heap.objs.size)) (compPost (model X.prog X.w) X.A X.xe none (EP X pins σ Q) (.ref L) s3.heap.objs.size) s4 := by
    apply compLoop_any (Between B (own.map (·.2)) σ fp tn W) _ m0 ⟨0, H3, I4, st4, fun b hb => (f3 b hb).1, w0⟩
    rintro n s5 ⟨i, H5, I5, st5, n5, w5⟩
    rcases turn i n H5 w5 with ⟨stop, fin⟩ | ⟨go, Nx, hNx, step⟩
    · -- no item left
      apply thnF (T.done B rfl rfl rfl hc i [] s5 _ H5 (fun _ _ => False) I5 (mine I5 n5) st5 stop)
      rintro r s6 ⟨rfl, I6⟩
      have I7 : Inv X pins σ H5 s6 := I3.call' (ch := fp) I6.os I6.base I6.hok I6.bare fun b hb => ⟨(f3 b hb).2.2.2.1, (f3 b hb).2.1, (f3 b hb).2.2.2.2.1, (f3 b hb).2.2.2.2.2⟩
      obtain ⟨m, hn, _⟩ := I6.loc
      refine ⟨m, hn, fun h'' sb => ?_⟩
      obtain ⟨g0, g1, g2, g3, g4, g5⟩ := I3.fpOk (Nat.le_refl _) (show H5 s3.heap.objs.size = none from I6.free)
      exact ⟨.ref L, H5, I7.turned (t' := s6.toks) (fun b o hb e => (sb.2 b hb).trans e) g0 g1 g3 g4 g5, rfl, fin⟩
    · -- one more
      apply thnF (T.item B rfl rfl rfl hc i [] s5 _ H5 (fun _ _ => False) I5 (mine I5 n5) st5 go)
      rintro r s6 ⟨u, rfl, h6⟩
      apply thnF h6
      rintro _ s7 ⟨x, H7, I7, r7, y7, st7, n7⟩
      have J7 := I7.pinned (mine I7 n7) (T.obj _ _ st7)
      apply thnF ((hg s3 H3 _ _ fp).run _ s7 _ H7 x u _ J7 r7 (step x H7 y7))
      rintro _ s8 ⟨σ8, H8, I8, same, q8⟩
      apply thnF ((pts_nil (X := B)).run _ s8 σ8 H8 _ I8 q8)
      rintro b s9 ⟨H9, I9, q9⟩
      cases b with
      | false =>
        rw [if_neg Bool.false_ne_true] at q9 ⊢
        obtain ⟨m', hm, w'⟩ := hNx _ q9
        exact between_next T I9 st7 same w' hm
      | true =>
        rw [if_pos rfl] at q9 ⊢
        apply thnF ((he pins σ s3 H3 s3.heap.objs.size _ fp I3 f3).run _ s9 σ8 H9 _ I9 q9)
        rintro z s10 ⟨yv, H10, I10, r10, acc, hD, hz, nx⟩
        apply app_ok (X := B) I10 hD hz r10
        intro s11 I11
        obtain ⟨m', hm, w'⟩ := hNx _ nx
        exact between_next T I11 st7 same w' hm
  exact codeAny_compStart_list all (T.self X.A 0 _ _ _ st4 all)
end
end G

namespace G
open PySem PySem.Spec PyProof.Rows L2 LamX NdefX

/-! ### lambdas that are kept: in slots, in lists, handed on -/
/-- a lambda's words, the cells that it captured, its code object -/
structure LF where
  qual : Str
  params : Arguments
  body : Expr
  scope : Scope
  cl : List (Str × Addr)
  c : Addr
abbrev LF.nf (F : LF) : NF := ⟨"<lambda>", F.qual, F.params, [], F.scope, F.cl, F.c⟩
/-- the object at f is the lambda F -/
def LamO (f : Addr) (F : LF) : HO := .ext fun h => ∃ pm ctv : Value, h.get? f = some (PySem.W.kla_obj "<lambda>" F.qual F.params F.body F.scope F.cl pm F.c ctv)
theorem lamO_ne {f : Addr} {F : LF} (ps : Array Value) : LamO f F ≠ .tbl ps := fun z => by
  unfold LamO at z
  cases z
theorem lamO_no {f : Addr} {F : LF} {xs : List V} : LamO f F ≠ .lst xs := fun z => by
  unfold LamO at z
  cases z
theorem lamO_at {P : Program} {w : World} {H : Hp} {h : Heap} {f : Addr} {F : LF} (hok : HOk P w H h) (e : H f = some (LamO f F)) : ∃ pm ctv : Value, h.get? f = some (PySem.W.kla_obj "<lambda>" F.qual F.params F.body F.scope F.cl pm F.c ctv) := (hok f _ e).1
section
variable {X : Cx} {pins : List (Addr × Obj)} {σ : L2.St} {H : Hp} {s : Shared}
/-- it is known from its making on -/
theorem lam_put {F : LF} {h' : Heap} {t : Nat} {pm ctv : Value} {H1 : Hp} (I : Inv X pins σ H1 { s with heap := h', toks := t }) :
    Inv X pins σ (upd H1 h'.objs.size (LamO h'.objs.size F)) { s with heap := h'.push (PySem.W.kla_obj "<lambda>" F.qual F.params F.body F.scope F.cl pm F.c ctv), toks := t } := by
  have e : (h'.push (PySem.W.kla_obj "<lambda>" F.qual F.params F.body F.scope F.cl pm F.c ctv)).get? h'.objs.size = some (PySem.W.kla_obj "<lambda>" F.qual F.params F.body F.scope F.cl pm F.c ctv) := Heap.get?_push_size _ rfl
  exact I.laid (t' := t) (a := h'.objs.size) (fun b u z => Heap.get?_push_of_some _ z) (Nat.le_refl _) ⟨⟨pm, ctv, e⟩, ⟨_, e⟩, fun h1 h2 ⟨p, q, z⟩ st => ⟨p, q, st _ z⟩⟩
/-- the table with one more code object -/
theorem tabs_more {T : List (Addr × Str)} {P c' : Addr} {q : Str} {ps : Array Value} {pos : Pos} (hT : Tabs T H) (hm : (P, q) ∈ T) (hu : ∀ p ∈ T, p.1 = P → p.2 = q) (hP : H P = some (.tbl ps)) (nC : H c' = none) :
    Tabs T (upd (upd H P (.tbl (ps ++ #[rawInt pos.line, rawInt pos.col, .ref c']))) c' (CodeO c' q)) ∧ ExtN H (upd (upd H P (.tbl (ps ++ #[rawInt pos.line, rawInt pos.col, .ref c']))) c' (CodeO c' q)) := by
  have nPc : P ≠ c' := ne_of_none hP nC
  have ext : ExtN H (upd (upd H P (.tbl (ps ++ #[rawInt pos.line, rawInt pos.col, .ref c']))) c' (CodeO c' q)) := by
    intro b o e n
    have b1 : b ≠ c' := ne_of_none e nC
    have b2 : b ≠ P := fun z => by
      rw [z, hP] at e
      exact n ps (Option.some.inj e).symm
    rw [upd_ne b1, upd_ne b2, e]
  have list : (ps ++ #[rawInt pos.line, rawInt pos.col, .ref c']).toList = ps.toList ++ [rawInt pos.line, rawInt pos.col, .ref c'] := by simp
  refine ⟨fun p hp => ?_, ext⟩
  obtain ⟨ps1, h1, h2, h3⟩ := hT p hp
  by_cases same : p.1 = P
  · rw [same, hP] at h1
    cases h1
    refine ⟨_, by rw [same, upd_ne nPc, upd_same], by rw [list]; exact PySem.TriplesOk_snoc _ _ _ _ h2, fun p' cv hcv => ?_⟩
    rw [list] at hcv
    rw [hu p hp same]
    rcases among_app _ h2 hcv with z | z
    · obtain ⟨c0, e1, e2⟩ := h3 p' cv z
      rw [hu p hp same] at e2
      exact ⟨c0, e1, ext _ _ e2 codeO_ne⟩
    · exact ⟨c', z, upd_same⟩
  · refine ⟨ps1, by rw [upd_ne (ne_of_none h1 nC), upd_ne same]; exact h1, h2, fun p' cv hcv => ?_⟩
    obtain ⟨c0, e1, e2⟩ := h3 p' cv hcv
    exact ⟨c0, e1, ext _ _ e2 codeO_ne⟩
end
/-- what a lambda's making asks: mk, the lambda by its code object -/
def tLamK (T : List (Addr × Str)) (mk : Addr → LF) : TE := fun σ H Q => Tabs T H ∧ ∀ f c' H1, ExtN H H1 → Tabs T H1 → (∀ b, H1 b = none → H b = none) → H f = none → H1 f = some (LamO f (mk c')) → H1 c' = some (CodeO c' (mk c').qual) → Q (.ref f) H1
abbrev lamOf (X : Cx) (params : Arguments) (body : Expr) (scope : Scope) (c' : Addr) : LF := ⟨X.env.qual ++ "<lambda>", params, body, scope, cloFrom X.env.cells scope.names [], c'⟩
theorem none_upd {H : Hp} {a b : Addr} {o : HO} (h : upd H a o b = none) : H b = none := by
  by_cases e : b = a
  · rw [e, upd_same] at h
    cases h
  · rw [upd_ne e] at h
    exact h
theorem pe_lamK {X : Cx} {T : List (Addr × Str)} {c P : Addr} {params : Arguments} {body : Expr} {scope : Scope} {pos : Pos} (TB : TabB X.base X.mg c P) (hcode : X.env.code = .ref c) (hm : (P, lamName X) ∈ T) (hu : ∀ p ∈ T, p.1 = P → p.2 = lamName X)
    (hdef : defaultsOf params X.env = ([], [])) (L : LamS X.env.scope scope) : PE X (.Lambda params body scope pos) (tLamK T (lamOf X params body scope)) := by
  constructor
  rintro pins s σ H Q I ⟨hT, q⟩
  apply PySem.W.kla_eval hdef
  obtain ⟨ps, hP, ht, ha⟩ := hT _ hm
  have atB : s.heap.BuiltinsAt X.mg P := TB.bm.keeps I.bk
  have atP : s.heap.get? P = some { cls := .none, data := .fields ps } := I.hok P _ hP
  have clos := closure_ok (L.has I.ok)
  -- once the code object is known
  have fin : ∀ (c' : Addr) (ctv pm : Value) (h' : Heap) (t : Nat) (H1 : Hp), Inv X pins σ H1 { s with heap := h', toks := t } → ExtN H H1 → Tabs T H1 → (∀ b, H1 b = none → H b = none) → s.heap.objs.size ≤ h'.objs.size → H1 c' = some (CodeO c' (lamName X)) →
      EP X pins σ Q (.ref h'.objs.size) { s with heap := h'.push (PySem.W.kla_obj "<lambda>" (lamName X) params body scope (cloFrom X.env.cells scope.names []) pm c' ctv), toks := t } := fun c' ctv pm h' t H1 J e T1 fr sz hc => by
    have nF : H1 h'.objs.size = none := J.hok.fresh (Nat.le_refl _)
    refine ⟨.ref h'.objs.size, _, lam_put (F := lamOf X params body scope c') J, rfl, q h'.objs.size c' _ (fun b o z n => ?_) (T1.ext fun b o z => ?_) (fun b z => fr b (none_upd z)) (I.hok.fresh sz) upd_same ?_⟩
    · have z1 := e b o z n
      rw [upd_ne (ne_of_none z1 nF)]
      exact z1
    · rw [upd_ne (ne_of_none z nF)]
      exact z
    · rw [upd_ne (ne_of_none hc nF)]
      exact hc
  cases hit : codeAmong pos ps.toList with
  | some cv =>
    obtain ⟨c', rfl, hco⟩ := ha pos cv hit
    apply PySem.W.kla_makeFunctionHit (mg := X.mg) (c := c) (P := P) (ps := ps) clos I.ok.glob (I.mod.glob.keeps I.bk) hcode (TB.code.keeps I.bk) atP ht hit atB
    intro ctv h' t stay sz
    exact fin c' ctv _ h' t H (I.kept stay) (ExtN.refl H) hT (fun _ z => z) sz hco
  | none =>
    apply PySem.W.kla_makeFunction (mg := X.mg) (c := c) (P := P) (ps := ps) clos I.ok.glob (I.mod.glob.keeps I.bk) hcode (TB.code.keeps I.bk) atP ht hit TB.gP atB
    intro c' ctv h' t stay ge lt rec_ tab
    obtain ⟨c2, oc, vs, tk, e2, hoc, hd, hv⟩ := rec_
    cases e2
    have nC : H c' = none := I.hok.fresh ge
    obtain ⟨T1, ext⟩ := tabs_more (pos := pos) hT hm hu hP nC
    have J := inv_table (t' := t) (more := #[rawInt pos.line, rawInt pos.col, .ref c']) (h' := h') I hP (fun b o hb e => stay b o hb e) tab ge ⟨oc, vs, tk, hoc, hd, hv⟩
    exact fin c' ctv _ h' t _ J ext T1 (fun b z => none_upd (none_upd z)) (Nat.le_trans ge (Nat.le_of_lt lt)) upd_same
end G

namespace G
open PySem PySem.Spec PyProof.Rows L2 LamX NdefX

/-! ### what is known of a lambda -/
section
variable (P : Program) (w : World) (K : PySem.W.Frag) (mg : Str → Option Value) (base : Heap)
/-- its call, in any state in which its cells hold ws, does what tl reads -/
def LamB (k : Nat) (f : Addr) (F : LF) (fr : List Str) (ws : List (Option V)) (tl : XK → Hp → VK → Prop) : Prop :=
  ∀ (A : Around) (outer : List Env) (s : Shared) (H : Hp) (E : XK) (Q : VK), Room k A → Env0 P w K mg base A outer s H → H f = some (LamO f F) → H F.c = some (CodeO F.c F.qual) → CellsAt F.cl fr ws s.heap H → tl E H Q →
    codeAny (model P w) A (.call (.ref f) ⟨[], []⟩) (CR (L2.CX P w) outer P w H s Q E) s
/-- a def whose first argument is a lambda that it calls: spc, from what the lambda's call does; d: how much deeper than the lambda -/
structure FnC (CX : CXT) (d : Nat) (g : Addr) (fd : FuncData) (ps : List Str) (spc : (XK → Hp → VK → Prop) → Sp) : Prop where
  len : ∀ tl vs H Q E, spc tl vs H Q E → vs.length = ps.length
  run : ∀ (A : Around) (outer : List Env) (s : Shared) (H : Hp) (args : Args) (us : List Value) (vs : List V) (Q : VK) (E : XK) (f : Addr) (F : LF) (fr : List Str) (ws : List (Option V)) (k : Nat) (tl : XK → Hp → VK → Prop),
    Quiet A → Room (k + d) A → Env0 P w K mg base A outer s H → BindsTo s fd args (ps.zip us) → Vals vs us → vs.head? = some (.ref f) → H f = some (LamO f F) → H F.c = some (CodeO F.c F.qual) → CellsAt F.cl fr ws s.heap H →
    (∀ y c, F.cl.lookup y = some c → c ∉ frs outer) → LamB P w K mg base k f F fr ws tl → spc tl vs H Q E → codeAny (model P w) A (.call (.ref g) args) (CR CX outer P w H s Q E) s
end
section
variable {P : Program} {w : World} {K : PySem.W.Frag} {mg : Str → Option Value} {base : Heap}
theorem LamB.mono {j k : Nat} {f : Addr} {F : LF} {fr : List Str} {ws : List (Option V)} {tl : XK → Hp → VK → Prop} (L : LamB P w K mg base j f F fr ws tl) (h : j ≤ k) : LamB P w K mg base k f F fr ws tl :=
  fun A outer s H E Q hr => L A outer s H E Q (hr.mono h)
theorem lamB_of {k : Nat} {f : Addr} {F : LF} {fr : List Str} {ws : List (Option V)} {tb : XK → TE} (S : NScope fr [] fr F.scope) (nb : ∀ pm ctv : Value, bindArgs (PySem.W.kla_fn "<lambda>" F.qual F.params F.body F.scope F.cl pm (.ref F.c) ctv) ⟨[], []⟩ = pure [])
    (bd : ∀ (A : Around) (outer : List Env) (s : Shared) (H : Hp) (E : XK), Room k (A.deeper (envF F.nf f s.heap.objs.size)) → PE (ncx (L2.CX P w) P w K mg base fr F.nf f A outer s H E) F.body (tb E)) :
    LamB P w K mg base (k + 1) f F fr ws (fun E H Q => tb E ws H Q) := by
  intro A outer s H E Q hr e0 hf hc C ht
  have lim : s.heap.NoLimit := e0.mod.nolimit.keeps fun b o e => (e0.bs b o e).1
  obtain ⟨pm, ctv, ho⟩ := lamO_at e0.hok hf
  apply PySem.W.kla_callFunE hr.depth ho rfl S.co S.gen rfl (codeO_at e0.hok hc)
  rw [nb]
  apply wpAny_pure
  apply wpAny_newFunctionEnv S.nocell (fun y hy => nomatch (show y ∈ ([] : List (Str × Value)) from hy)) _ S.kind
  intro h₁ hns hsb
  refine ⟨lim.fresh _ hsb, ?_⟩
  have kp : ∀ b o, s.heap.get? b = some o → h₁.get? b = some o := fun b o e => hsb.extBut b o (Nat.ne_of_lt (Heap.lt_size e)) (Heap.get?_push_of_some _ e)
  have J := inv_startN (CX := L2.CX P w) (N := fr) (F := F.nf) (f := f) (E := E) (us := []) (vs := []) (tk := s.toks + ([] : List (Str × Value)).length) S hr.hd e0 rfl .nil C hns kp
  have st : startF fr [] ws = ws := by
    unfold startF
    rw [C.len, List.map_nil, List.nil_append, List.length_nil, Nat.sub_zero, Nat.sub_self, List.replicate_zero, List.append_nil]
  rw [st] at J
  apply PySem.W.kla_codeExpr
  apply wpAny_mono ((bd A outer s H E (hr.deeper _)).run [] _ ws H Q J ht)
  · rintro v s' ⟨v', H', J', rv, q⟩
    exact ⟨v', H', J'.os, J'.bare, J'.base, J'.hok, rv, q⟩
  · exact fun _ _ z => z
/-- a def's body, from what is known of the lambda at its entry -/
theorem fnC_of {CX : CXT} {d : Nat} {g : Addr} {name qual : Str} {params : Arguments} {body : List Stmt} {scope : Scope} {kV doc pm cdv ct oc : Value} {an od : Option Addr} {osl : Array (Option Value)} {N ps : List Str} {spc : (XK → Hp → VK → Prop) → Sp}
    (lk : K.lookup g = some ⟨oc, od, .func (PySem.W.fnOf name qual params body scope .none kV doc pm an cdv ct), osl⟩) (hcd : PySem.W.codeIn K cdv qual = true) (S : FnScope N ps scope) (len : ∀ tl vs H Q E, spc tl vs H Q E → vs.length = ps.length)
    (body_ok : ∀ (A : Around) (outer : List Env) (s : Shared) (H : Hp) (vs : List V) (Q : VK) (E : XK) (f : Addr) (F : LF) (fr : List Str) (ws : List (Option V)) (k : Nat) (tl : XK → Hp → VK → Prop), Quiet A → Room (k + d) (A.deeper (envOfC qual scope s.heap.objs.size g cdv)) →
      vs.head? = some (.ref f) → H f = some (LamO f F) → H F.c = some (CodeO F.c F.qual) → CellsAt F.cl fr ws s.heap H → (∀ y c, F.cl.lookup y = some c → c ∉ frs outer) → LamB P w K mg base k f F fr ws tl → spc tl vs H Q E →
      ∃ t, PSs (cxOf CX P w K mg base N qual scope g cdv A outer s H E) body t ∧ t { nx := fun _ H' => Q .non H', rt := Q } (L2.start N vs) H) :
    FnC P w K mg base CX (d + 1) g (PySem.W.fnOf name qual params body scope .none kV doc pm an cdv ct) ps spc := by
  refine ⟨len, fun A outer s H args us vs Q E f F fr ws k tl hq hr e0 hb r h1 h2 h3 C nf L hsp => ?_⟩
  exact run_ofS lk hcd S (show Room (k + d + 1) A from hr) e0 hb r (len _ _ _ _ _ hsp) fun hr' => body_ok A outer s H vs Q E f F fr ws k tl hq hr' h1 h2 h3 C nf L hsp
end
section
variable {Z : Cx} {pins : List (Addr × Obj)} {σ : L2.St} {H : Hp} {s : Shared}
/-- cells that were there at the entry are none of the running frames -/
theorem stack_free {cl : List (Str × Addr)} {fr : List Str} {ws : List (Option V)} (ok : Z.Ok) (C : CellsAt cl fr ws Z.s_0.heap Z.H_0) (nf : ∀ y c, cl.lookup y = some c → c ∉ Z.fs) : ∀ y c, cl.lookup y = some c → c ∉ frs Z.stack := by
  intro y c e hm
  rcases ok.stk with z | ⟨z, zf⟩
  · rw [z] at hm
    exact nf y c e hm
  · rw [z] at hm
    unfold frs at hm
    rw [List.filterMap_cons, zf] at hm
    rcases List.mem_cons.mp hm with r | r
    · obtain ⟨_, v, q⟩ := C.all y c e
      have h1 := q.lt
      rw [r] at h1
      exact Nat.lt_irrefl _ (Nat.lt_of_lt_of_le h1 ok.above)
    · exact nf y c e r
/-- a def's own cells are none of the running frames -/
theorem own_free (I : Inv Z pins σ H s) (fn : ∀ y c, Z.env.cells.lookup y = some c → Z.fn y = true) : ∀ y c, Z.env.cells.lookup y = some c → c ∉ frs Z.stack := by
  have old : ∀ y c, Z.env.cells.lookup y = some c → c ∉ Z.fs := fun y c e hm => by
    obtain ⟨_, o, ho, _⟩ := I.ok.funs.mem hm
    exact Nat.lt_irrefl _ (Nat.lt_of_lt_of_le (Heap.lt_size ho) (I.ok.cab y c (fn y c e) e))
  intro y c e hm
  rcases I.ok.stk with z | ⟨z, zf⟩
  · rw [z] at hm
    exact old y c e hm
  · rw [z] at hm
    unfold frs at hm
    rw [List.filterMap_cons, zf] at hm
    rcases List.mem_cons.mp hm with r | r
    · obtain ⟨v, o, ho, hd⟩ := I.cell y c e
      obtain ⟨m, ⟨o', es, ep, ho', hd', _⟩, _⟩ := I.loc
      rw [r, ho'] at ho
      cases ho
      rw [hd] at hd'
      cases hd'
    · exact old y c e r
end
end G

namespace G
open PySem PySem.Spec PyProof.Rows L2 LamX NdefX

/-! ### calls of lambdas that are known, and of defs that call them -/
/-- a(), in a def's body that got the lambda; it is known at the entry -/
theorem pe_callL {Y : Cx} {W : WX} {f : Addr} {F : LF} {fr : List Str} {ws : List (Option V)} {k i : Nat} {tl : XK → Hp → VK → Prop} {a : Str} {p1 p2 : Pos} (tk : Takes Y W) (hr : Room k Y.A) (C : CellsAt F.cl fr ws Y.s_0.heap Y.H_0)
    (nf : ∀ y c, F.cl.lookup y = some c → c ∉ Y.fs) (hx : Y.ex = []) (L : LamB Y.prog Y.w Y.K Y.mg Y.base k f F fr ws tl) (hN : Y.N[i]? = some a) (hv : Vis Y.env.scope a) (hd : (a == ("__debug__" : Str)) = false := by decide) (hcd : (a == ("__classdict__" : Str)) = false := by decide) :
    PE Y (.Call (.Name a p1) [] [] p2) (fun σ H Q => σ[i]? = some (some (.ref f)) ∧ H f = some (LamO f F) ∧ H F.c = some (CodeO F.c F.qual) ∧ tl (fun cls d H' => W cls d σ H') H Q) := by
  constructor
  rintro pZ sZ σZ HZ Q IZ ⟨hs, hf, hc, ht⟩
  apply wpAny_Call_Name_kw
  apply thn ((pe_var (pos := p1) (i := i) hN hv hd hcd).run pZ sZ σZ HZ (fun v H1 => v = .ref f ∧ H1 = HZ) IZ ⟨.ref f, hs, rfl, rfl⟩)
  rintro u s1 ⟨v, H1, I1, r1, rfl, rfl⟩
  obtain rfl : u = Value.ref f := r1
  obtain ⟨pm, ctv, of1⟩ := lamO_at I1.hok hf
  apply PySem.W.callWith_F0 ⟨_, _, _, _, of1⟩
  have C1 := C.later nf (fun y c e => by rw [hx]; exact fun z => nomatch z) I1
  have rc := L Y.A Y.stack s1 H1 (fun cls d H' => W cls d σZ H') Q hr I1.env0 hf hc C1 ht
  apply wpAny_call
  apply codeAny_mono rc
  intro r s' hq
  match r, hq with
  | .error e, hq => exact passAt tk σZ pZ H1 s1 e s' I1 hq
  | .ok .next, hq => exact hq.elim
  | .ok .brk, hq => exact hq.elim
  | .ok .cont, hq => exact hq.elim
  | .ok (.ret w), hq => exact I1.after hq
/-- what is known of the lambdas that R tells -/
def Known (Z : Cx) (d : Nat) (R : L2.St → Addr → LF → (XK → Hp → VK → Prop) → Prop) : Prop := ∀ (pins : List (Addr × Obj)) (σ : L2.St) (H : Hp) (s : Shared) (f : Addr) (F : LF) (tl : XK → Hp → VK → Prop), Inv Z pins σ H s → R σ f F tl →
  ∃ (fr : List Str) (ws : List (Option V)) (k : Nat), Room (k + d) Z.A ∧ CellsAt F.cl fr ws s.heap H ∧ (∀ y c, F.cl.lookup y = some c → c ∉ frs Z.stack) ∧ LamB Z.prog Z.w Z.K Z.mg Z.base k f F fr ws tl
/-- x(look, ..) -/
def tCallC (spc : (XK → Hp → VK → Prop) → Sp) (R : L2.St → Addr → LF → (XK → Hp → VK → Prop) → Prop) (dvs : List V) (E : XK) (t : TA) : TE := fun σ H Q => t σ H fun vs H1 => ∃ f F tl, R σ f F tl ∧ (vs ++ dvs).head? = some (.ref f) ∧ H1 f = some (LamO f F) ∧ H1 F.c = some (CodeO F.c F.qual) ∧ spc tl (vs ++ dvs) H1 Q E
theorem pe_fnC {Z : Cx} {CXg : CXT} {d : Nat} {g : Addr} {fd : FuncData} {ps : List Str} {spc : (XK → Hp → VK → Prop) → Sp} {R : L2.St → Addr → LF → (XK → Hp → VK → Prop) → Prop} {dvs : List V} {ds : List Value} {E : XK} {x : Str} {p pos : Pos} {e : Expr} {es : List Expr} {t : TA}
    (F : FnC Z.prog Z.w Z.K Z.mg Z.base CXg d g fd ps spc) (hq : Quiet Z.A) (hg : Gl Z x) (hm : Z.mg x = some (.ref g)) (hk : PySem.W.keepIn Z.K (.ref g) = true) (hb : Binds Z.K fd ps ds) (hd : Vals dvs ds) (hx : Passes CXg Z E) (ha : PA Z (e :: es) t) (known : Known Z d R)
    (hdb : (x == ("__debug__" : Str)) = false := by decide) (he : starEach (e :: es) Z.env = (false, eval e Z.env) :: starEach es Z.env := by rfl) (hpl : (backTo pos (starEach es Z.env)).any (·.1) = false := by rfl) :
    PE Z (.Call (.Name x p) (e :: es) [] pos) (tCallC spc R dvs E t) := by
  constructor
  intro pins s σ H Q I h
  apply wpAny_Call_Name_kw
  apply ld_glob I hg hm _ hdb
  apply PySem.W.callWith_K (h₀ := Z.base) I.ok.mod.kin hk _ he hpl
  apply thn (ha.run pos pins s σ H _ I h)
  rintro us s1 ⟨vs, H1, I1, r, f, G, tl, hR, hh, hf, hc, q⟩
  refine ⟨I1.kIn, ?_⟩
  obtain ⟨fr, ws, k, hr, C, nf, L⟩ := known pins σ H1 s1 f G tl I1 hR
  have r2 : Vals (vs ++ dvs) (us ++ ds) := r.append hd
  have hl : (us ++ ds).length = ps.length := r2.length.symm.trans (F.len _ _ _ _ _ q)
  apply wpAny_call
  apply codeAny_mono (F.run Z.A Z.stack s1 H1 ⟨us, []⟩ (us ++ ds) (vs ++ dvs) Q E f G fr ws k tl hq hr I1.env0 (hb s1 us I1.kIn hl) r2 hh hf hc C nf L q)
  intro res s' done
  match res, done with
  | .error e, z => exact hx pins σ H1 s1 e s' I1 z
  | .ok (.ret u), z => exact I1.after z
  | .ok .next, z => exact z.elim
  | .ok .brk, z => exact z.elim
  | .ok .cont, z => exact z.elim
/-- a lambda that was got as an argument -/
def RArg (f : Addr) (F : LF) (tl : XK → Hp → VK → Prop) : L2.St → Addr → LF → (XK → Hp → VK → Prop) → Prop := fun _ f' F' tl' => f' = f ∧ F' = F ∧ tl' = tl
theorem known_arg {Z : Cx} {d k : Nat} {f : Addr} {F : LF} {fr : List Str} {ws : List (Option V)} {tl : XK → Hp → VK → Prop} (C : CellsAt F.cl fr ws Z.s_0.heap Z.H_0) (nf : ∀ y c, F.cl.lookup y = some c → c ∉ Z.fs) (hx : Z.ex = []) (L : LamB Z.prog Z.w Z.K Z.mg Z.base k f F fr ws tl)
    (hr : Room (k + d) Z.A) : Known Z d (RArg f F tl) := by
  rintro pins σ H s f' F' tl' I ⟨rfl, rfl, rfl⟩
  exact ⟨fr, ws, k, hr, C.later nf (fun y c e => by rw [hx]; exact fun z => nomatch z) I, stack_free I.ok C nf, L⟩
/-- lambdas that were made here, by their places among the names -/
structure LamD (X : Cx) where
  params : Arguments
  body : Expr
  scope : Scope
  fr : List Str
  js : List Nat
  k : Nat
  tb : XK → TE
/-- what is asked of such a lambda -/
structure LamD.Good {X : Cx} (D : LamD X) : Prop where
  sc : NScope D.fr [] D.fr D.scope
  nb : ∀ (q : Str) (cl : List (Str × Addr)) (pm cv ctv : Value), bindArgs (PySem.W.kla_fn "<lambda>" q D.params D.body D.scope cl pm cv ctv) ⟨[], []⟩ = pure []
  free : ∀ y ∈ D.scope.names, y.2 = .free → X.env.scope.names.lookup y.1 = some .cell ∨ X.env.scope.names.lookup y.1 = some .free
  frm : ∀ y ∈ D.fr, (y, NameKind.free) ∈ D.scope.names
  at_ : D.js.map (fun j => X.N[j]?) = D.fr.map some
  bd : ∀ (f c' : Addr) (A : Around) (outer : List Env) (s : Shared) (H : Hp) (E : XK), Room D.k (A.deeper (envF (lamOf X D.params D.body D.scope c').nf f s.heap.objs.size)) → PE (ncx (L2.CX X.prog X.w) X.prog X.w X.K X.mg X.base D.fr (lamOf X D.params D.body D.scope c').nf f A outer s H E) D.body (D.tb E)
def RMade {X : Cx} (D : LamD X) (σ0 : L2.St) : L2.St → Addr → LF → (XK → Hp → VK → Prop) → Prop := fun _ _ F tl => ∃ c', F = lamOf X D.params D.body D.scope c' ∧ tl = fun E H Q => D.tb E (D.js.map (slotAt σ0)) H Q
def RHere {X : Cx} (D : LamD X) : L2.St → Addr → LF → (XK → Hp → VK → Prop) → Prop := fun σ f F tl => RMade D σ σ f F tl
theorem LamD.lam {X : Cx} {D : LamD X} (g : D.Good) (f c' : Addr) (ws : List (Option V)) : LamB X.prog X.w X.K X.mg X.base (D.k + 1) f (lamOf X D.params D.body D.scope c') D.fr ws (fun E H Q => D.tb E ws H Q) :=
  lamB_of (F := lamOf X D.params D.body D.scope c') g.sc (fun pm ctv => g.nb _ _ _ _ _) (fun A outer s H E hr => g.bd f c' A outer s H E hr)
theorem known_here {X : Cx} {D : LamD X} {d : Nat} (g : D.Good) (fn : ∀ y c, X.env.cells.lookup y = some c → X.fn y = true) (hr : Room (D.k + 1 + d) X.A) : Known X d (RHere D) := by
  rintro pins σ H s f F tl I ⟨c', rfl, rfl⟩
  have cp : Caps X (cloFrom X.env.cells D.scope.names []) D.fr D.js := Caps.made I.ok g.free g.frm g.at_
  exact ⟨D.fr, _, D.k + 1, hr, cells_of I cp, fun y c e => own_free I fn y c (cp.sub y c e), D.lam g f c' _⟩
theorem known_blk {X : Cx} {pins : List (Addr × Obj)} {σ : L2.St} {H : Hp} {s : Shared} {scope : Scope} {cenv : Env} {fp : List Addr} {d : Nat} {Ds : List (LamD X)} (I : Inv X pins σ H s) (hf : ∀ b ∈ fp, FpOk X pins H b) (g : ∀ D ∈ Ds, D.Good) (fn : ∀ y c, X.env.cells.lookup y = some c → X.fn y = true)
    (hr : ∀ D ∈ Ds, Room (D.k + 1 + d) X.A) : Known (X.blk s H scope cenv fp) d (fun σ' f F tl => ∃ D ∈ Ds, RMade D σ σ' f F tl) := by
  rintro pins' σ' H' s' f F tl I' ⟨D, hD, c', rfl, rfl⟩
  have gd := g D hD
  have cp : Caps X (cloFrom X.env.cells D.scope.names []) D.fr D.js := Caps.made I.ok gd.free gd.frm gd.at_
  have C : CellsAt (cloFrom X.env.cells D.scope.names []) D.fr (D.js.map (slotAt σ)) s.heap H := cells_of I cp
  have nf : ∀ y c, (cloFrom X.env.cells D.scope.names []).lookup y = some c → c ∉ frs X.stack := fun y c e => own_free I fn y c (cp.sub y c e)
  refine ⟨D.fr, _, D.k + 1, hr D hD, CellsAt.later (X := X.blk s H scope cenv fp) C nf (fun y c e hm => ?_) I', ?_, D.lam gd f c' _⟩
  · exact (hf c hm).2.2.2.2.1 y c (cp.sub y c e) rfl
  · exact stack_free (Z := X.blk s H scope cenv fp) I'.ok C nf
end G

namespace G
open PySem PySem.Spec PyProof.Rows L2

/-! ### == and != by an own __eq__, whatever stands on the right -/
section
variable {prog : Program} {w : World} {A : Around} {E : Value → Shared → Prop} {s : Shared} {K : PySem.W.Frag} {x C L f : Addr} {h₀ : Heap} {m : Str → Option Value} {ox : Obj} {od : Option Obj} {b tb : Value}
theorem ifBound_ne {M : Model} {args : List Value} {Q : Option Value → Shared → Prop} (X : K.In s.heap) (I : PySem.W.InstAt s.heap x ox C od) (hs : PySem.W.findIn K (.ref C) "__ne__" = some (some (.builtin "object.__ne__")))
    (h : wpAny M A (call (.builtin "object.__ne__") (.ref x :: args)) (fun v => Q (some v)) E s) : wpAny M A (callSpecialIfBound? (.ref x) "__ne__" args) Q E s := by
  simp only [callSpecialIfBound?, bindSpecialIfBound?]
  refine wpAny_holding (wpAny_bind (wpAny_bind (wpAny_bind (I.type.here ((PySem.W.looks_findIn X hs).here ?_)))))
  refine wpAny_bind (wpAny_askSetting (wpAny_ite ?_))
  have fin : wpAny M A (call (.builtin "object.__ne__") ([.ref x] ++ args) >>= fun v => pure (some v)) Q E s := wpAny_bind (wpAny_mono h (fun v s' h' => wpAny_pure h') fun _ _ h' => h')
  have bd : bindSpecial (.builtin "object.__ne__") (.ref x) = pure (.builtin "object.__ne__", [.ref x]) := PySem.F.cmp_object.ne.bind _
  rw [bd]
  split
  · exact wpAny_bind (wpAny_pure (wpAny_pure (by exact fin)))
  · exact wpAny_tryCatch (wpAny_bind (wpAny_pure (wpAny_pure (by exact fin))))
theorem ne_entry {Q : Fin → Shared → Prop} (X : K.In s.heap) (I : PySem.W.InstAt s.heap x ox C od) (hs : PySem.W.findIn K (.ref C) "__eq__" = some (some (.ref f))) (hf : PySem.W.isFn K (.ref f) = true) (hu : A.units < cLine)
    (hcall : wpAny (model prog w) A (call (.ref f) [.ref x, b]) (fun v s' => ∃ r, v = .bool r ∧ Q (.done (.ret (.bool (!r)))) s') E s) :
    wpAny (model prog w) A (Builtin.«object.__ne__» ⟨[.ref x, b], []⟩) Q E s := by
  unfold Builtin.«object.__ne__»
  repeat (first
    | with_reducible refine wpAny_cRoomFor hu ?_
    | (refine wpAny_bind (m := callSpecialIfBound? (.ref x) (Str.ofString "__eq__") [b])
        (PySem.W.ifBound_K X I hs hf (wpAny_mono hcall (fun r s' hr => by
          obtain ⟨b, rfl, hq⟩ := hr
          repeat (first | exact hq | exact wpAny_pure hq | exact wpAny_truthy_bool hq | (refine wpAny_bind (m := truthy (.bool _)) (wpAny_truthy_bool ?_)) | wp_step)) fun _ _ e => e)))
    | wp_step)
theorem ne_K {Q : Value → Shared → Prop} (hu : A.units + 1 < cLine) (F : Fr h₀ L s.heap m) (X₀ : K.In h₀) (I : PySem.W.InstAt s.heap x ox C od) (hb : PySem.W.Looks (model prog w) s.heap (typeOf b) tb) (hn : PySem.W.notFirst K C tb = true)
    (hs : PySem.W.findIn K (.ref C) "__eq__" = some (some (.ref f))) (hf : PySem.W.isFn K (.ref f) = true) (hne : PySem.W.findIn K (.ref C) "__ne__" = some (some (.builtin "object.__ne__"))) (hm : PySem.W.mroIn K C (.type "object") = some true)
    (h : wpAny (model prog w) A.in1 (call (.ref f) [.ref x, b]) (fun v s' => ∃ r, v = .bool r ∧ Q (.bool (!r)) s') E s) : wpAny (model prog w) A (richCompare .NotEq (.ref x) b) Q E s := by
  have X := X₀.keeps F.keep
  have sub : PySem.W.Looks (model prog w) s.heap (isInstance (.ref x) (.type "object")) true := I.type.andThen (PySem.W.looks_mroIn X hm)
  have one : wpAny (model prog w) A (tryCompare (.ref x) (cmpInfo .NotEq).2.1 b) (fun r s' => ∃ v, r = some v ∧ Q v s') E s := by
    unfold tryCompare
    refine wpAny_bind (ifBound_ne X I hne (wpAny_call (codeAny_call_builtin PySem.F.cmp_object.ne.plain PySem.F.cmpEntry_ne
      (@PySem.W.check_slot (model prog w) _ _ s "object.__ne__" "object" "__ne__" (.ref x) [b] [] _ PySem.F.cmpKind_ne PySem.F.cmpSplit_ne sub (PySem.F.cmpArgs_ne _ _) ?_))))
    refine ne_entry (A := A.in1) X I hs hf hu (wpAny_mono h (fun v s' hv => ?_) fun _ _ e => e)
    obtain ⟨r, rfl, hq⟩ := hv
    exact ⟨r, rfl, wpAny_pure ⟨_, rfl, hq⟩⟩
  unfold richCompare
  simp only [oneThing_ref]
  refine wpAny_holding (wpAny_bind (wpAny_cRoomFor (Nat.lt_of_succ_lt hu) ?_))
  refine wpAny_bind (I.type.here (wpAny_bind (hb.here ?_)))
  split
  · rename_i q
    have e : PySem.W.subIn K tb (.ref C) = some false := by
      rcases Bool.or_eq_true_iff.mp hn with e | e
      · rw [beq_iff_eq.mp e] at q; simp at q
      · exact beq_iff_eq.mp e
    refine wpAny_bind ((PySem.W.looks_subIn X e).here ?_)
    simp only [Bool.false_eq_true, if_false]
    refine wpAny_bind (wpAny_mono one (fun r s' z => ?_) fun _ _ e => e)
    obtain ⟨v, rfl, hq⟩ := z
    exact wpAny_pure hq
  · refine wpAny_bind (wpAny_pure ?_)
    simp only [Bool.false_eq_true, if_false]
    refine wpAny_bind (wpAny_mono one (fun r s' z => ?_) fun _ _ e => e)
    obtain ⟨v, rfl, hq⟩ := z
    exact wpAny_pure hq
end
/-- what stands on the right, with its type -/
inductive RTy (H : Hp) : V → Value → Prop
  | int (i : Int) : RTy H (.int i) (.type "int")
  | str (z : Str) : RTy H (.str z) (.type "str")
  | ins {b C dx : Addr} {fs : List (Str × V)} (h : H b = some (.ins C dx fs)) : RTy H (.ref b) (.ref C)
  | tup {b : Addr} {xs : List V} (h : H b = some (.tup xs)) : RTy H (.ref b) (.type "tuple")
/-- the class's own __eq__, and no __ne__ of its own -/
structure EqC (K : PySem.W.Frag) (C f : Addr) : Prop where
  at_ : PySem.W.findIn K (.ref C) "__eq__" = some (some (.ref f))
  fn : PySem.W.isFn K (.ref f) = true
  ne : PySem.W.findIn K (.ref C) "__ne__" = some (some (.builtin "object.__ne__"))
  ob : PySem.W.mroIn K C (.type "object") = some true
  nf : ∀ t : String, (t == "int" || t == "str" || t == "tuple") = true → PySem.W.notFirst K C (.type t) = true
section
variable {X : Cx} {CX : CXT} {C f : Addr} {n : Nat} {sp : Sp} {E : XK} {fd : FuncData} {ps : List Str}
theorem rty_looks {pins : List (Addr × Obj)} {σ : L2.St} {H : Hp} {s : Shared} {y : V} {u t : Value} (I : Inv X pins σ H s) (r : L2.RelV y u) (h : RTy H y t) : PySem.W.Looks (model X.prog X.w) s.heap (typeOf u) t := by
  cases h with
  | int i =>
    obtain ⟨k, rfl⟩ := (show ∃ t, u = Value.int i t from r)
    exact PySem.W.Looks.of_pure rfl
  | str z =>
    obtain ⟨k, rfl⟩ := (show ∃ t, u = Value.str z t from r)
    exact PySem.W.Looks.of_pure rfl
  | ins h =>
    cases (show u = Value.ref _ from r)
    obtain ⟨od, mA, J, _⟩ := ins_inst I h
    exact J.type
  | tup h =>
    cases (show u = Value.ref _ from r)
    obtain ⟨_, its, rv, ob, e, c⟩ := I.hok _ _ h
    exact fun A Q E s k q => wpAny_typeOf_ref (k _ _ e) (by rw [c.1]; exact q)
/-- x op y, op == or != -/
def rEqK (C : Addr) (K : PySem.W.Frag) (sp : Sp) (E : XK) : R2 := fun x y H Q => ∃ a dx fs t, x = .ref a ∧ H a = some (.ins C dx fs) ∧ RTy H y t ∧ PySem.W.notFirst K C t = true ∧ sp [x, y] H Q E
def rNeK (C : Addr) (K : PySem.W.Frag) (sp : Sp) (E : XK) : R2 := fun x y H Q => ∃ a dx fs t, x = .ref a ∧ H a = some (.ins C dx fs) ∧ RTy H y t ∧ PySem.W.notFirst K C t = true ∧ sp [x, y] H (fun v H' => ∃ b, v = .bl b ∧ Q (.bl (!b)) H') E
theorem op_eqK (O : EqC X.K C f) (F : FnR X.prog X.w X.K X.mg X.base CX n f sp) (hr : Room n X.A) (hx : Passes CX X E) : OpR X (compareOp .Eq) (rEqK C X.K sp E) := by
  intro pins s σ H x y v u Q I rx ry h
  obtain ⟨a, dx, fs, t, rfl, ha, hy, nf, q⟩ := h
  cases (show v = Value.ref a from rx)
  obtain ⟨od, mA, J, _⟩ := ins_inst I ha
  obtain ⟨m, hF⟩ := I.fr
  show wpAny _ _ (richCompare .Eq _ _) _ _ _
  refine PySem.W.cmp_K (op := .Eq) (tb := t) hr.units0 hF I.ok.mod.kin J (rty_looks I ry hy) nf O.at_ O.fn ?_
  refine wpAny_mono (wpAny_call (run_fnR (us := [.ref a, u]) (vs := [.ref a, y]) F hr hx I (.cons rfl (.cons ry .nil)) q)) (fun w s' z => ?_) fun _ _ x => x
  obtain ⟨z', H', I', rz, qz⟩ := z
  exact SlX.cmpback rz ⟨z', H', I', rz, qz⟩
theorem op_neK (O : EqC X.K C f) (F : FnOk X.prog X.w X.K X.mg X.base CX n f fd ps sp) (hb : Binds X.K fd ps []) (hr : Room (n + 1) X.A) (hx : Passes CX X E) : OpR X (compareOp .NotEq) (rNeK C X.K sp E) := by
  intro pins s σ H x y v u Q I rx ry h
  obtain ⟨a, dx, fs, t, rfl, ha, hy, nf, q⟩ := h
  cases (show v = Value.ref a from rx)
  obtain ⟨od, mA, J, _⟩ := ins_inst I ha
  obtain ⟨m, hF⟩ := I.fr
  show wpAny _ _ (richCompare .NotEq _ _) _ _ _
  refine ne_K (tb := t) (by have := hr.un; omega) hF I.ok.mod.kin J (rty_looks I ry hy) nf O.at_ O.fn O.ne O.ob ?_
  have e0 : Env0 X.prog X.w X.K X.mg X.base X.A.in1 X.stack s H := by
    have e := I.env0
    exact ⟨e.frames, e.mod, e.bs, e.bsz, e.funs, e.frf, e.hok, e.bare⟩
  have hl := F.len _ _ _ _ q
  have r2 : Vals [V.ref a, y] [Value.ref a, u] := .cons rfl (.cons ry .nil)
  refine wpAny_call (codeAny_mono (F.run X.A.in1 X.stack s H ⟨[.ref a, u], []⟩ [.ref a, u] [.ref a, y] _ E hr.in1 e0 (by
    have := hb s [.ref a, u] I.kIn (by simpa using hl)
    simpa using this) r2 q) fun r s' hq => ?_)
  cases r with
  | error e => exact hx pins σ H s e s' I hq
  | ok fl =>
    cases fl with
    | ret w =>
      obtain ⟨z, H', I', rz, b, rfl, qz⟩ := I.after hq
      obtain rfl : w = Value.bool b := rz
      exact ⟨b, rfl, .bl (!b), H', I', rfl, qz⟩
    | next => exact False.elim hq
    | brk => exact False.elim hq
    | cont => exact False.elim hq
end
end G
namespace L2
open PySem PySem.Spec PyProof.Rows
theorem FunD.okX {P : Program} {w : World} {K : PySem.W.Frag} {mg : Str → Option Value} {base : Heap} {x qual : Str} {params : Arguments} {body : List Stmt} {scope : Scope} {dvs : List V} {kws : List (Str × V)} {f : Addr} {fd : FuncData} {N ps : List Str} {k : Nat} {sp : Sp}
    (F : FunD K x qual params body scope dvs kws f fd) (S : FnScope N ps scope) (len : ∀ vs H Q E, sp vs H Q E → vs.length = ps.length)
    (hbody : ∀ (cdv : Value) (A : Around) (outer : List Env) (s : Shared) (H : Hp) (vs : List V) (Q : VK) (E : XK), Room k (A.deeper (envOfC qual scope s.heap.objs.size f cdv)) → sp vs H Q E →
      ∃ t, PSs (cxOf (L2.CX P w) P w K mg base N qual scope f cdv A outer s H E) body t ∧ t { nx := fun _ H' => Q .non H', rt := Q } (start N vs) H) : FnOk P w K mg base (L2.CX P w) (k + 1) f fd ps sp :=
  F.ok S len hbody
end L2

namespace G
open PySem PySem.Spec PyProof.Rows L2

/-! ### zip of a tuple and a list, in either sequence -/
inductive SqKind | li | tu
def SqOf (K : PySem.W.Frag) : SqKind → Hp → Addr → List V → Prop
  | .li => SqL K
  | .tu => SqT K
def ObOf : SqKind → Heap → Addr → Array Value → Prop
  | .li => Heap.IsList
  | .tu => Heap.IsTuple
def ItOf : SqKind → Heap → Addr → Addr → Nat → Prop
  | .li => Heap.IsListIter
  | .tu => Heap.IsTupleIter
def newIt (k : SqKind) (a : Addr) : Obj := match k with
  | .li => { cls := .type "list_iterator", data := .fields #[.ref a, .int 0 0] }
  | .tu => { cls := .type "tuple_iterator", data := .fields #[.ref a, .int 0 0] }
theorem draw (k : SqKind) {prog : Program} {w : World} {A : Around} (hh : A.handled = none) (it a : Addr) (ne : a ≠ it) (its : Array Value) :
    Draws prog w A it [it, a] its.size (fun i v => its[i]? = some v) (fun i h => ItOf k h it a i ∧ ObOf k h a its) := by
  cases k
  · exact Draws.list hh it a ne its
  · exact Draws.tuple hh it a ne its
theorem begin_ (k : SqKind) (a : Addr) (its : Array Value) : Begins (.ref a) (newIt k a) fun h => ObOf k h a its := by
  cases k
  · exact begins_list a its
  · exact begins_tuple a its
theorem SqOf.ob {K : PySem.W.Frag} {k : SqKind} {X : Cx} {pins : List (Addr × Obj)} {σ : L2.St} {H : Hp} {s : Shared} {a : Addr} {xs : List V} (I : Inv X pins σ H s) (hK : X.K = K) (h : SqOf K k H a xs) :
    ∃ its, Vals xs its ∧ ObOf k s.heap a its.toArray ∧ a < s.heap.objs.size := by
  subst hK
  cases k
  · obtain ⟨its, rv, p, _⟩ := I.list h
    exact ⟨its, rv, p.isList, p.lt⟩
  · obtain ⟨its, rv, p, _⟩ := I.tuple h
    obtain ⟨o, ho, _⟩ := id p
    exact ⟨its, rv, p, Heap.lt_size ho⟩
theorem SqOf.inj {K : PySem.W.Frag} {k : SqKind} {X : Cx} {pins : List (Addr × Obj)} {σ : L2.St} {H : Hp} {s : Shared} {a : Addr} {xs ys : List V} (I : Inv X pins σ H s) (hK : X.K = K) (h : SqOf K k H a xs) (g : SqOf K k H a ys) : xs = ys := by
  subst hK
  cases k
  · exact I.list_inj h g
  · exact I.tuple_inj h g
theorem itOf_at {k : SqKind} {h h' : Heap} {it a : Addr} {i : Nat} (x : ItOf k h it a i) (e : ∀ o, h.get? it = some o → h'.get? it = some o) : ItOf k h' it a i := by
  cases k
  · exact Heap.IsListIter.at x e
  · exact Heap.IsTupleIter.at x e
theorem itOf_obj {k : SqKind} {h : Heap} {it a : Addr} {i : Nat} (x : ItOf k h it a i) : ∃ o, h.get? it = some o ∧ ∀ v, o.data ≠ .cell v := by
  cases k
  all_goals
    obtain ⟨o, ho, _, hd⟩ := x
    exact ⟨o, ho, fun v z => by rw [hd] at z; cases z⟩
theorem itOf_new {k : SqKind} {h : Heap} {it a : Addr} (e : h.get? it = some (newIt k a)) : ItOf k h it a 0 := by
  cases k
  all_goals exact ⟨_, e, rfl, rfl⟩
theorem obOf_at {k : SqKind} {h h' : Heap} {a : Addr} {its : Array Value} (x : ObOf k h a its) (e : ∀ o, h.get? a = some o → h'.get? a = some o) : ObOf k h' a its := by
  cases k
  · exact Heap.IsList.at x e
  · exact Heap.IsTuple.at x e
/-- both sequences as they stand at each turn, the items in new pairs -/
def ItM (K : PySem.W.Frag) (k1 k2 : SqKind) (a b : Addr) : It :=
  ⟨fun i H => ∃ (xs ys : List V) (x y : V), SqOf K k1 H a xs ∧ SqOf K k2 H b ys ∧ xs[i]? = some x ∧ ys[i]? = some y,
    fun i H v H' => ∃ T x y, v = .ref T ∧ H T = none ∧ H' = upd H T (.tup [x, y]) ∧ (∀ xs, SqOf K k1 H a xs → xs[i]? = some x) ∧ ∀ ys, SqOf K k2 H b ys → ys[i]? = some y,
    fun i H => ∃ xs ys : List V, SqOf K k1 H a xs ∧ SqOf K k2 H b ys ∧ i ≤ xs.length ∧ i ≤ ys.length ∧ (xs.length = i ∨ ys.length = i)⟩
structure Apart (N a b z TI TO i1 i2 : Addr) : Prop where
  la : a < N
  lb : b < N
  ez : z = N + 4
  eT : TI = N + 2
  eO : TO = N + 3
  e1 : i1 = N
  e2 : i2 = N + 1
theorem Apart.sep {N a b z TI TO i1 i2 : Addr} (h : Apart N a b z TI TO i1 i2) : ZipSep2 z TI TO i1 i2 [i1, a] [i2, b] := by
  obtain ⟨la, lb, rfl, rfl, rfl, rfl, rfl⟩ := h
  have la := Nat.lt_iff_add_one_le.mp la
  have lb := Nat.lt_iff_add_one_le.mp lb
  constructor <;> (try simp only [List.mem_cons, List.not_mem_nil, or_false, ne_eq, true_or, not_or, or_true]) <;> (try constructor) <;> (try (intro z; have z : (_ : Nat) = _ := z; omega))
theorem turn_m {P : Program} {w : World} {K : PySem.W.Frag} {elts : List Expr} {kk : Nat} {tpos : Pos} {k1 k2 : SqKind} {N a b z TI TO i1 i2 : Addr} (D : Apart N a b z TI TO i1 i2) :
    Turn P w K (.Tuple elts kk tpos) (ItM K k1 k2 a b) [z, TI, TO, i1, i2] z (fun i h => IsZip h z TI TO .none ∧ IsTupOf2 h TI (.ref i1) (.ref i2) ∧ (∃ x y, IsTupOf2 h TO x y) ∧ ItOf k1 h i1 a i ∧ ItOf k2 h i2 b i) where
  mem := by simp
  obj := fun i h st c hc => by
    obtain ⟨g1, g2, ⟨x, y, g3⟩, g4, g5⟩ := st
    simp only [List.mem_cons, List.not_mem_nil, or_false] at hc
    rcases hc with q | q | q | q | q <;> rw [q]
    · exact ⟨_, g1, fun v q => nomatch q⟩
    · exact ⟨_, g2, fun v q => nomatch q⟩
    · exact ⟨_, g3, fun v q => nomatch q⟩
    · exact itOf_obj g4
    · exact itOf_obj g5
  keep := fun i h h' st k => by
    obtain ⟨g1, g2, ⟨x, y, g3⟩, g4, g5⟩ := st
    exact ⟨k z (by simp) _ g1, k TI (by simp) _ g2, ⟨x, y, k TO (by simp) _ g3⟩, itOf_at g4 fun o q => k i1 (by simp) o q, itOf_at g5 fun o q => k i2 (by simp) o q⟩
  item := by
    intro X hP hw hK hc i pins s σ H E I hf st hg
    subst hP hw
    obtain ⟨g1, g2, ⟨x0, y0, g3⟩, g4, g5⟩ := st
    obtain ⟨xs, ys, x, y, hqx, hqy, hx, hy⟩ := hg
    obtain ⟨its, rv, p, _⟩ := hqx.ob I hK
    obtain ⟨its2, rv2, p2, _⟩ := hqy.ob I hK
    obtain ⟨u, hu, ru⟩ := rv.get hx
    obtain ⟨u2, hu2, ru2⟩ := rv2.get hy
    have hzl : z < s.heap.objs.size := Heap.lt_size g1
    have S := D.sep
    have lu : i < its.toArray.size := by simpa using (List.getElem?_eq_some_iff.mp hu).1
    have lu2 : i < its2.toArray.size := by simpa using (List.getElem?_eq_some_iff.mp hu2).1
    have hh : X.A.in1.handled = none := I.ok.hd hc
    have n1 : a ≠ i1 := by obtain ⟨la, lb, _, _, _, e1, _⟩ := D; rw [e1]; exact Nat.ne_of_lt la
    have n2 : b ≠ i2 := by obtain ⟨la, lb, _, _, _, _, e2⟩ := D; rw [e2]; exact Nat.ne_of_lt (Nat.lt_succ_of_lt lb)
    refine wpAny_pyNext_zipD2_item S (draw k1 hh i1 a n1 its.toArray) (draw k2 hh i2 b n2 its2.toArray) g1 g2 g3 ⟨g4, p⟩ ⟨g5, p2⟩ lu lu2 fun v1 v2 h' tk ev1 ev2 z' TO' s1' s2' hT hsz hk => ?_
    have ev1 : v1 = u := by
      have z : its.toArray[i]? = some u := by simpa using hu
      rw [z] at ev1
      exact (Option.some.inj ev1).symm
    have ev2 : v2 = u2 := by
      have z : its2.toArray[i]? = some u2 := by simpa using hu2
      rw [z] at ev2
      exact (Option.some.inj ev2).symm
    subst ev1 ev2
    refine ⟨_, rfl, wpAny_letOwnedTupleGo_zip (s := { s with heap := h', toks := tk }) z' fun h'' z'' sb => ?_⟩
    have hT2 : h''.get? s.heap.objs.size = some { cls := .type "tuple", data := .seq #[v1, v2] } := (sb.2 _ (Nat.ne_of_gt hzl)).trans hT
    have new : ObjOk X.prog X.w (upd H s.heap.objs.size (.tup [x, y])) h'' s.heap.objs.size (.tup [x, y]) :=
      ⟨by show 2 ≤ sizeLine; decide, [v1, v2], .cons ru (.cons ru2 .nil), ⟨_, hT2, rfl, _, rfl⟩⟩
    have I1 : Inv X pins σ (upd H s.heap.objs.size (.tup [x, y])) { s with heap := h'', toks := tk } :=
      I.turnedNew (t' := tk) (ch := [z, TI, TO, i1, i2]) (fun c o hb q => (sb.2 c (fun q' => hb (by simp [q']))).trans (hk c o (fun q' => hb (by simp [q'])) (fun q' => hb (by simp [q'])) (fun q' => hb (by simp [q'])) (fun q' => hb (by simp [q'])) q)) hf (Nat.le_refl _) new
    refine ⟨.ref s.heap.objs.size, _, I1, rfl, ⟨_, x, y, rfl, I.hok.fresh (Nat.le_refl _), rfl, fun l hl => by rw [hl.inj I hK hqx]; exact hx, fun l hl => by rw [hl.inj I hK hqy]; exact hy⟩, ⟨z'', ?_, ⟨v1, v2, ?_⟩, ?_, ?_⟩, fun c hcm => ?_⟩
    · exact (sb.2 _ S.TIz).trans (hk _ _ S.TIz S.TITO S.TIi1 S.TIi2 g2)
    · exact (sb.2 _ S.TOz).trans TO'
    · exact itOf_at s1'.1 fun o q => (sb.2 _ S.zi1.symm).trans q
    · exact itOf_at s2'.1 fun o q => (sb.2 _ S.zi2.symm).trans q
    · have hlt : c < s.heap.objs.size := by
        simp only [List.mem_cons, List.not_mem_nil, or_false] at hcm
        rcases hcm with q | q | q | q | q <;> rw [q]
        · exact hzl
        · exact Heap.lt_size g2
        · exact Heap.lt_size g3
        · obtain ⟨_, e, _⟩ := itOf_obj g4; exact Heap.lt_size e
        · obtain ⟨_, e, _⟩ := itOf_obj g5; exact Heap.lt_size e
      rw [upd_ne (Nat.ne_of_lt hlt)]
      exact (hf c hcm).1
  done := by
    intro X hP hw hK hc i pins s σ H E I hf st hg
    subst hP hw
    obtain ⟨g1, g2, ⟨x0, y0, g3⟩, g4, g5⟩ := st
    obtain ⟨xs, ys, hqx, hqy, le1, le2, hend⟩ := hg
    obtain ⟨its, rv, p, _⟩ := hqx.ob I hK
    obtain ⟨its2, rv2, p2, _⟩ := hqy.ob I hK
    have l1 := rv.length
    have l2 := rv2.length
    have S := D.sep
    have hh : X.A.in1.handled = none := I.ok.hd hc
    have n1 : a ≠ i1 := by obtain ⟨la, lb, _, _, _, e1, _⟩ := D; rw [e1]; exact Nat.ne_of_lt la
    have n2 : b ≠ i2 := by obtain ⟨la, lb, _, _, _, _, e2⟩ := D; rw [e2]; exact Nat.ne_of_lt (Nat.lt_succ_of_lt lb)
    refine wpAny_pyNext_zipD2_end S (draw k1 hh i1 a n1 its.toArray) (draw k2 hh i2 b n2 its2.toArray) g1 g2 g3 ⟨g4, p⟩ ⟨g5, p2⟩ (by simp; omega) (by simp; omega) (by simp; omega) fun h' tk hk => ⟨rfl, I.turnedL (t' := tk) (ch := [z, TI, TO, i1, i2]) (fun c o hb q =>
      hk c o (fun q' => hb (by simp [q'])) (fun q' => hb (by simp [q'])) (fun q' => hb (by simp [q'])) (fun q' => hb (by simp [q'])) q) hf⟩
  self := fun A i s Q E st h => wpAny_pyIter_zip st.1 h

def iZipM (K : PySem.W.Frag) (ta : TA) : TI := fun σ H R => ta σ H fun vs H1 => ∃ k1 k2 a b xs ys, vs = [.ref a, .ref b] ∧ SqOf K k1 H1 a xs ∧ SqOf K k2 H1 b ys ∧ R (ItM K k1 k2 a b) H1
theorem pi_zipM {X : Cx} {e e2 : Expr} {ta : TA} {p pos tpos : Pos} {elts : List Expr} {kk : Nat} (hg : Gl X "zip") (hm : X.mg "zip" = none) (ha : PA X [e, e2] ta)
    (hs : starEach [e, e2] X.env = (false, eval e X.env) :: starEach [e2] X.env := by rfl) (hpl : (backTo pos (starEach [e2] X.env)).any (·.1) = false := by rfl) :
    PI X (.Tuple elts kk tpos) (.Call (.Name "zip" p) [e, e2] [] pos) (iZipM X.K ta) := by
  refine ⟨fun pins s σ H R I h => ?_⟩
  refine Call_ (ld_blt I hg hm PyProof.Rows.boot_zip (PyProof.Rows.callWith_type1 (thn (ha.run pos pins s σ H _ I h) fun us s1 ⟨vs, H1, I1, r1, q1⟩ => ?_) hs hpl))
  obtain ⟨k1, k2, a, b, xs, ys, rfl, hqx, hqy, q⟩ := q1
  cases r1 with
  | cons r rr =>
    cases rr with
    | cons r' rr =>
      cases rr
      cases r
      cases r'
      obtain ⟨its, rv, p1, la⟩ := hqx.ob I1 rfl
      obtain ⟨its2, rv2, p2, lb⟩ := hqy.ob I1 rfl
      refine zip_begins2 (begin_ k1 a its.toArray) (begin_ k2 b its2.toArray) p1 p2 fun h' hz hTI hTO h1 h2 hsz hk => wpAny_pyIter_zip hz ?_
      have I2 : Inv X pins σ H1 { s1 with heap := h' } := I1.kept (t' := s1.toks) hk
      refine ⟨s1.heap.objs.size + 4, [s1.heap.objs.size + 4, s1.heap.objs.size + 2, s1.heap.objs.size + 3, s1.heap.objs.size, s1.heap.objs.size + 1], _, _, H1, rfl, I2, turn_m (k1 := k1) (k2 := k2) ⟨la, lb, rfl, rfl, rfl, rfl, rfl⟩, ⟨hz, hTI, ⟨_, _, hTO⟩, itOf_new h1, itOf_new h2⟩, fun c hcm => ?_, q⟩
      have hle : s1.heap.objs.size ≤ c := by
        simp only [List.mem_cons, List.not_mem_nil, or_false] at hcm
        rcases hcm with z | z | z | z | z <;> rw [z]
        · exact Nat.le_add_right _ _
        · exact Nat.le_add_right _ _
        · exact Nat.le_add_right _ _
        · exact Nat.le_refl _
        · exact Nat.le_add_right _ _
      exact I1.fpOk hle (I1.hok.fresh hle)
theorem walk_m {K : PySem.W.Frag} {k1 k2 : SqKind} {a b : Addr} {xs ys : List V} {n : Nat} (hn : n = min xs.length ys.length) : Walk (ItM K k1 k2 a b) n (fun H => SqOf K k1 H a xs ∧ SqOf K k2 H b ys) (YPair (fun i => xs[i]?) (fun i => ys[i]?)) where
  goes := fun i _ hi q => by
    have h1 : i < xs.length := by omega
    have h2 : i < ys.length := by omega
    exact ⟨xs, ys, xs[i], ys[i], q.1, q.2, by simp [h1], by simp [h2]⟩
  stops := fun _ q => ⟨xs, ys, q.1, q.2, by omega, by omega, by omega⟩
  yields := fun i H v H' _ q y => by
    obtain ⟨T, x, z, e1, e2, e3, e4, e5⟩ := y
    exact ⟨T, x, z, e1, e2, e3, e4 xs q.1, e5 ys q.2⟩
end G

namespace G
open PySem PySem.Spec PyProof.Rows L2

/-! ### enumerate(list, start=k) -/
def ItK (K : PySem.W.Frag) (a : Addr) (k : Int) : It :=
  ⟨fun i H => ∃ xs x, SqL K H a xs ∧ xs[i]? = some x,
    fun i H v H' => ∃ T x, v = .ref T ∧ H T = none ∧ H' = upd H T (.tup [.int (k + (i : Nat)), x]) ∧ ∀ xs, SqL K H a xs → xs[i]? = some x,
    fun i H => ∃ xs, SqL K H a xs ∧ xs.length = i⟩
theorem turn_k {P : Program} {w : World} {K : PySem.W.Frag} {elts : List Expr} {kk : Nat} {tpos : Pos} {a e it : Addr} {k : Int} (ne : e ≠ it) (nea : e ≠ a) (nia : a ≠ it) :
    Turn P w K (.Tuple elts kk tpos) (ItK K a k) [e, it] e (fun i h => (∃ old, IsEnum h e it (k + ((i : Nat) : Int)) old) ∧ ItOf .li h it a i) where
  mem := by simp
  obj := fun i h st c hc => by
    obtain ⟨⟨old, g1⟩, g2⟩ := st
    simp only [List.mem_cons, List.not_mem_nil, or_false] at hc
    rcases hc with q | q <;> rw [q]
    · exact ⟨_, g1, fun v q => nomatch q⟩
    · exact itOf_obj g2
  keep := fun i h h' st kp => by
    obtain ⟨⟨old, g1⟩, g2⟩ := st
    exact ⟨⟨old, kp e (by simp) _ g1⟩, itOf_at g2 fun o q => kp it (by simp) o q⟩
  item := by
    intro X hP hw hK hc i pins s σ H E I hf st hg
    subst hP hw
    obtain ⟨⟨old, g1⟩, g2⟩ := st
    obtain ⟨xs, x, hqx, hx⟩ := hg
    obtain ⟨its, rv, p, _⟩ := SqOf.ob (k := .li) I hK hqx
    obtain ⟨u, hu, ru⟩ := rv.get hx
    have hel : e < s.heap.objs.size := Heap.lt_size g1
    have lu : i < its.toArray.size := by simpa using (List.getElem?_eq_some_iff.mp hu).1
    have hh : X.A.in1.handled = none := I.ok.hd hc
    refine wpAny_pyNext_enum_itemC (draw .li hh it a nia its.toArray) g1 ⟨g2, p⟩ lu ne (by simp [ne, nea]) fun v h' tk ev ho hs' hT hsz hk => ?_
    have ev : v = u := by
      have z : its.toArray[i]? = some u := by simpa using hu
      rw [z] at ev
      exact (Option.some.inj ev).symm
    subst ev
    refine ⟨_, rfl, wpAny_letOwnedTupleGo_enum (s := { s with heap := h', toks := tk + 1 }) ho fun h'' z'' sb => ?_⟩
    have hT2 : h''.get? s.heap.objs.size = some { cls := .type "tuple", data := .seq #[.int (k + (i : Nat)) tk, v] } := (sb.2 _ (Nat.ne_of_gt hel)).trans hT
    have new : ObjOk X.prog X.w (upd H s.heap.objs.size (.tup [.int (k + (i : Nat)), x])) h'' s.heap.objs.size (.tup [.int (k + (i : Nat)), x]) :=
      ⟨by show 2 ≤ sizeLine; decide, [.int (k + (i : Nat)) tk, v], .cons ⟨_, rfl⟩ (.cons ru .nil), ⟨_, hT2, rfl, _, rfl⟩⟩
    have I1 : Inv X pins σ (upd H s.heap.objs.size (.tup [.int (k + (i : Nat)), x])) { s with heap := h'', toks := tk + 1 } :=
      I.turnedNew (t' := tk + 1) (ch := [e, it]) (fun c o hb q => (sb.2 c (fun q' => hb (by simp [q']))).trans (hk c o (fun q' => hb (by simp [q'])) (fun q' => hb (by simp [q'])) q)) hf (Nat.le_refl _) new
    refine ⟨.ref s.heap.objs.size, _, I1, rfl, ⟨_, x, rfl, I.hok.fresh (Nat.le_refl _), rfl, fun l hl => by rw [SqOf.inj (k := .li) I hK hl hqx]; exact hx⟩, ⟨⟨v, ?_⟩, ?_⟩, fun c hcm => ?_⟩
    · rw [show k + ((i + 1 : Nat) : Int) = k + (i : Nat) + 1 by omega]
      exact z''
    · exact itOf_at hs'.1 fun o q => (sb.2 _ (Ne.symm ne)).trans q
    · have hlt : c < s.heap.objs.size := by
        simp only [List.mem_cons, List.not_mem_nil, or_false] at hcm
        rcases hcm with q | q <;> rw [q]
        · exact hel
        · obtain ⟨_, e, _⟩ := itOf_obj g2; exact Heap.lt_size e
      rw [upd_ne (Nat.ne_of_lt hlt)]
      exact (hf c hcm).1
  done := by
    intro X hP hw hK hc i pins s σ H E I hf st hg
    subst hP hw
    obtain ⟨⟨old, g1⟩, g2⟩ := st
    obtain ⟨xs, hqx, le⟩ := hg
    obtain ⟨its, rv, p, _⟩ := SqOf.ob (k := .li) I hK hqx
    have l1 := rv.length
    have hh : X.A.in1.handled = none := I.ok.hd hc
    obtain ⟨f0, f1, f2, f3, f4, f5⟩ := hf it (by simp)
    have sz : its.toArray.size = i := by simp; omega
    refine wpAny_pyNext_enum_endD (draw .li hh it a nia its.toArray) g1 ⟨by rw [sz]; exact g2, p⟩ fun h' eb => ⟨rfl, I.turned (t' := s.toks) (fun b o hb q => eb b o hb q) f0 f1 f3 f4 f5⟩
  self := fun A i s Q E st h => let ⟨⟨_, he⟩, _⟩ := st; wpAny_pyIter_enum he h
theorem callWith_typeK {M : Model} {A : Around} {E : Value → Shared → Prop} {s : Shared} {pos : Pos} {T : String} {args : List (Bool × Sem Value)} {kws : List (Option Str × Sem Value)} {Q : Value → Shared → Prop}
    (h1 : args.any (·.1) = false) (h2 : kws.any (·.1.isNone) = false) (h : wpAny M A (evalArgs (.type T) true args kws) (fun a s' => wpAny M A (call (.type T) a.pos a.kw) Q E s') E s) : wpAny M A (callWith pos (.type T) [] args kws) Q E s := by
  unfold callWith
  apply wpAny_bind
  apply wpAny_holding
  apply wpAny_mono h
  · intro a s' h'
    apply wpAny_bind
    apply wpAny_standAt
    simp only [h1, h2, Bool.or_false, List.nil_append]
    apply wpAny_bind
    apply wpAny_pure
    apply wpAny_bind
    apply wpAny_mono h'
    · exact fun r s'' hr => wpAny_bind (wpAny_holding (wpAny_point (wpAny_pure hr)))
    · exact fun _ _ x => x
  · exact fun _ _ x => x
def iEnumK (K : PySem.W.Frag) (ta tk : TA) : TI := fun σ H R => ta σ H fun vs H1 => tk σ H1 fun zs H2 => ∃ a xs k, vs = [.ref a] ∧ zs = [.int k] ∧ 0 ≤ k ∧ k < 2 ^ 62 ∧ SqL K H2 a xs ∧ R (ItK K a k) H2
theorem pi_enumK {X : Cx} {e : Expr} {kws : List Keyword} {ta tk : TA} {p pos tpos : Pos} {elts : List Expr} {kk : Nat} (hg : Gl X "enumerate") (hm : X.mg "enumerate" = none) (ha : PA X [e] ta) (hk : PK X kws tk)
    (hks : (backToKw pos (keywordEach kws X.env)).filterMap (·.1) = [Str.ofString "start"] := by rfl) (hall : (backToKw pos (keywordEach kws X.env)).all (·.1.isSome) = true := by rfl) (hnone : (backToKw pos (keywordEach kws X.env)).any (·.1.isNone) = false := by rfl)
    (hs : starEach [e] X.env = (false, eval e X.env) :: starEach [] X.env := by rfl) (hpl : (backTo pos (starEach [e] X.env)).any (·.1) = false := by rfl) :
    PI X (.Tuple elts kk tpos) (.Call (.Name "enumerate" p) [e] kws pos) (iEnumK X.K ta tk) := by
  refine ⟨fun pins s σ H R I h => ?_⟩
  refine wpAny_Call_Name_kw (ld_blt I hg hm boot_enumerate ?_)
  refine callWith_typeK hpl hnone ?_
  refine evalArgs_kw2 hall (thn (ha.run pos pins s σ H _ I h) fun us s1 ⟨vs, H1, I1, r1, q1⟩ => thn (hk.run pos pins s1 σ H1 _ I1 q1) fun ws s2 ⟨zs, H2, I2, r2, q2⟩ => ?_) hs
  obtain ⟨a, xs, k, rfl, rfl, k0, k1, hq, q⟩ := q2
  obtain ⟨u, rfl, ru⟩ := vals1 r1
  obtain ⟨v, rfl, rv⟩ := vals1 r2
  cases ru
  obtain ⟨tk, rfl⟩ := rv
  rw [hks]
  obtain ⟨its, rv, p1, la⟩ := SqOf.ob (k := .li) I2 rfl hq
  refine enum_begins_start (begin_ .li a its.toArray) p1 (by omega) (by omega) fun h' he hit hsz hkp => wpAny_pyIter_enum he ?_
  have I3 : Inv X pins σ H2 { s2 with heap := h' } := I2.kept (t' := s2.toks) hkp
  have n1 : s2.heap.objs.size + 1 ≠ s2.heap.objs.size := Nat.succ_ne_self _
  refine ⟨s2.heap.objs.size + 1, [s2.heap.objs.size + 1, s2.heap.objs.size], _, _, H2, rfl, I3, turn_k (a := a) (k := k) n1 (Nat.ne_of_gt (Nat.lt_succ_of_lt la)) (Nat.ne_of_lt la), ⟨⟨.none, ?_⟩, itOf_new hit⟩, fun c hcm => ?_, q⟩
  · rw [show k + ((0 : Nat) : Int) = k by omega]
    exact he
  · have hle : s2.heap.objs.size ≤ c := by
      simp only [List.mem_cons, List.not_mem_nil, or_false] at hcm
      rcases hcm with z | z <;> rw [z]
      · exact Nat.le_add_right _ _
      · exact Nat.le_refl _
    exact I2.fpOk hle (I2.hok.fresh hle)
theorem walk_k {K : PySem.W.Frag} {a : Addr} {xs : List V} {k : Int} : Walk (ItK K a k) xs.length (fun H => SqL K H a xs) (YPair (fun i => some (.int (k + (i : Nat)))) (fun i => xs[i]?)) where
  goes := fun i _ hi q => ⟨xs, xs[i], q, by simp [hi]⟩
  stops := fun _ q => ⟨xs, q, rfl⟩
  yields := fun i H v H' _ q y => by
    obtain ⟨T, x, e1, e2, e3, e4⟩ := y
    exact ⟨T, .int (k + (i : Nat)), x, e1, e2, e3, rfl, e4 xs q⟩
end G

namespace G
open PySem PySem.Spec PyProof.Rows L2

/-! ### len of an instance by its own __len__ -/
section
variable {prog : Program} {w : World} {A : Around} {E : Value → Shared → Prop} {s : Shared} {K : PySem.W.Frag} {x C f : Addr} {ox : Obj} {od : Option Obj} {name : Str}
theorem special_fn {M : Model} {args : List Value} {Q : Option Value → Shared → Prop} (X : K.In s.heap) (I : PySem.W.InstAt s.heap x ox C od) (hs : PySem.W.findIn K (.ref C) name = some (some (.ref f))) (hf : PySem.W.isFn K (.ref f) = true)
    (h : wpAny M A (call (.ref f) (.ref x :: args)) (fun v => Q (some v)) E s) : wpAny M A (callSpecial? (.ref x) name args) Q E s := by
  unfold callSpecial?
  apply wpAny_bind
  unfold specialOf
  apply wpAny_bind
  apply I.type.here
  apply (PySem.W.looks_findIn X hs).here
  apply wpAny_holding
  apply wpAny_bind
  apply (PySem.W.bind_fn X _ (beq_iff_eq.mp hf)).here
  apply wpAny_bind
  exact wpAny_mono h (fun v s' h' => wpAny_pure h') fun _ _ h' => h'
theorem len_fn {Q : Value → Shared → Prop} (X : K.In s.heap) (I : PySem.W.InstAt s.heap x ox C od) (hs : PySem.W.findIn K (.ref C) "__len__" = some (some (.ref f))) (hf : PySem.W.isFn K (.ref f) = true)
    (h : wpAny (model prog w) A.in1 (call (.ref f) [.ref x]) (fun r s' => ∃ n u, r = .int n u ∧ 0 ≤ n ∧ n < 2 ^ 63 ∧ Q (.int n s'.toks) { s' with toks := s'.toks + 1 }) E s) : wpAny (model prog w) A (call (.builtin "len") [.ref x]) Q E s := by
  apply Calls.call_function_entry kind_len plain_len entry_len (args_len1 _)
  unfold Builtin.«len»
  apply wpAny_bind (m := oneArg "len" _)
  apply wpAny_pure
  apply wpAny_bind (m := callSpecial? (.ref x) (Str.ofString "__len__"))
  refine special_fn X I hs hf (wpAny_mono h (fun r s' hr => ?_) fun _ _ y => y)
  obtain ⟨n, u, rfl, n0, n1, q⟩ := hr
  apply wpAny_bind
  apply wpAny_holding
  apply wpAny_pure
  apply wpAny_bind
  apply wpAny_letGo
  have e1 : ¬ n < 0 := by omega
  have e2 : ¬ n ≥ 2 ^ 63 := by omega
  simp only [e1, e2, if_false]
  apply wpAny_bind
  apply wpAny_mkInt
  exact wpAny_pure ⟨_, rfl, q⟩
end
section
variable {X : Cx} {CX : CXT} {C f : Addr} {n : Nat} {sp : Sp} {E : XK} {fd : FuncData} {ps : List Str}
theorem call_lenK (h1 : PySem.W.findIn X.K (.ref C) "__len__" = some (some (.ref f))) (h2 : PySem.W.isFn X.K (.ref f) = true) (F : FnOk X.prog X.w X.K X.mg X.base CX n f fd ps sp) (hb : Binds X.K fd ps []) (hr : Room (n + 1) X.A) (hx : Passes CX X E) :
    CallR X (.builtin "len") (fun xs H Q => ∃ a dx fs, xs = [.ref a] ∧ H a = some (.ins C dx fs) ∧ sp [.ref a] H (fun v H' => ∃ i, v = .int i ∧ 0 ≤ i ∧ i < 2 ^ 62 ∧ Q (.int i) H') E) := by
  intro pins s σ H xs us Q I r h
  obtain ⟨a, dx, fs, rfl, ha, q⟩ := h
  obtain ⟨u, rfl, ru⟩ := vals1 r
  cases (show u = Value.ref a from ru)
  obtain ⟨od, mA, J, _⟩ := ins_inst I ha
  refine len_fn I.kIn J h1 h2 ?_
  have e0 : Env0 X.prog X.w X.K X.mg X.base X.A.in1 X.stack s H := by
    have e := I.env0
    exact ⟨e.frames, e.mod, e.bs, e.bsz, e.funs, e.frf, e.hok, e.bare⟩
  have hl := F.len _ _ _ _ q
  have r2 : Vals [V.ref a] [Value.ref a] := .cons rfl .nil
  apply wpAny_call
  apply codeAny_mono (F.run X.A.in1 X.stack s H ⟨[.ref a], []⟩ [.ref a] [.ref a] _ E hr.in1 e0 (by
    have := hb s [.ref a] I.kIn (by simpa using hl)
    simpa using this) r2 q)
  intro res s' hq
  match res, hq with
  | .error e, hq => exact hx pins σ H s e s' I hq
  | .ok .next, hq => exact False.elim hq
  | .ok .brk, hq => exact False.elim hq
  | .ok .cont, hq => exact False.elim hq
  | .ok (.ret w), hq =>
    obtain ⟨z, H', I', rz, i, rfl, i0, i1, qz⟩ := I.after hq
    obtain ⟨t, rfl⟩ := rz
    exact ⟨i, t, rfl, i0, by omega, .int i, H', I'.tok _, ⟨_, rfl⟩, qz⟩
end
end G

namespace G
open PySem PySem.Spec PyProof.Rows L2
/-- x == y by the own __eq__ of x, y a list -/
def rEqL (C : Addr) (sp : Sp) (E : XK) : R2 := fun x y H Q => ∃ a dx fs b ys, x = .ref a ∧ y = .ref b ∧ H a = some (.ins C dx fs) ∧ H b = some (.lst ys) ∧ sp [x, y] H Q E
section
variable {X : Cx} {CX : CXT} {C f : Addr} {n : Nat} {sp : Sp} {E : XK}
theorem op_eqL (O : EqC X.K C f) (nf : PySem.W.notFirst X.K C (.type "list") = true) (F : FnR X.prog X.w X.K X.mg X.base CX n f sp) (hr : Room n X.A) (hx : Passes CX X E) : OpR X (compareOp .Eq) (rEqL C sp E) := by
  intro pins s σ H x y v u Q I rx ry h
  obtain ⟨a, dx, fs, b, ys, rfl, rfl, ha, hb, q⟩ := h
  cases (show v = Value.ref a from rx)
  cases (show u = Value.ref b from ry)
  obtain ⟨od, mA, J, _⟩ := ins_inst I ha
  obtain ⟨m, hF⟩ := I.fr
  have L : PySem.W.Looks (model X.prog X.w) s.heap (typeOf (.ref b)) (.type "list") := by
    obtain ⟨_, its, mm, rv, ho⟩ := I.hok _ _ hb
    exact fun A Q E s k q => wpAny_typeOf_ref (k _ _ ho) q
  show wpAny _ _ (richCompare .Eq _ _) _ _ _
  refine PySem.W.cmp_K (op := .Eq) (tb := .type "list") hr.units0 hF I.ok.mod.kin J L nf O.at_ O.fn ?_
  apply wpAny_mono (wpAny_call (run_fnR (us := [.ref a, .ref b]) (vs := [.ref a, .ref b]) F hr hx I (.cons rfl (.cons rfl .nil)) q))
  · rintro w s' ⟨z', H', I', rz, qz⟩
    exact SlX.cmpback rz ⟨z', H', I', rz, qz⟩
  · exact fun _ _ z => z
end
end G

namespace G
open PySem SX NumText L2

/-! ### names, lines and texts of scripts, by their signs -/
def lcase (c : Nat) : Bool := decide (97 ≤ c) && decide (c ≤ 122)
def nm (w : List Nat) : Bool := decide (1 ≤ w.length) && decide (w.length ≤ 8) && w.all lcase
theorem nm_len {w : List Nat} (h : nm w = true) : 1 ≤ w.length ∧ w.length ≤ 8 := by
  unfold nm at h
  simp only [Bool.and_eq_true, decide_eq_true_eq] at h
  exact h.1
theorem nm_mem {w : List Nat} (h : nm w = true) {c : Nat} (hc : c ∈ w) : 97 ≤ c ∧ c ≤ 122 := by
  unfold nm at h
  simp only [Bool.and_eq_true, decide_eq_true_eq] at h
  have := List.all_eq_true.mp h.2 c hc
  unfold lcase at this
  simpa using this
abbrev sg (l : List Nat) : V := .str (S l)
theorem eqS (a b : List Nat) : (S a == S b) = decide (a = b) := by
  by_cases h : a = b
  · subst h
    simp
  · rw [decide_eq_false h]
    exact beq_eq_false_iff_ne.mpr fun z => h (S_inj z)
theorem sg_inj {a b : List Nat} (h : sg a = sg b) : a = b := S_inj (V.str.inj h)
theorem eqV_sg (a b : List Nat) : eqV (sg a) (sg b) = decide (a = b) := eqS a b
def wTow : List Nat := [116, 111, 119, 97, 114, 100, 115]
def wFrom : List Nat := [102, 114, 111, 109]
def wUnt : List Nat := [117, 110, 116, 105, 108]
def wBet : List Nat := [98, 101, 116, 119, 101, 101, 110]
def wSkip : List Nat := [115, 107, 105, 112]
def wLeft : List Nat := [108, 101, 102, 116]
theorem s_tow : Str.ofString "towards" = S wTow := rfl
theorem s_from : Str.ofString "from" = S wFrom := rfl
theorem s_unt : Str.ofString "until" = S wUnt := rfl
theorem s_bet : Str.ofString "between" = S wBet := rfl
theorem s_skip : Str.ofString "skip" = S wSkip := rfl
theorem s_left : Str.ofString "left" = S wLeft := rfl
def two (d e : List Nat) : Bool := nm d && nm e && !decide (d = e)
def okT : List (List Nat) → Bool
  | [a, b, c, d, e] => (decide (a = wTow) || decide (a = wFrom)) && (decide (c = wUnt) || decide (c = wBet)) && nm b && two d e
  | _ => false
def skN (w : List Nat) (m : Nat) : Bool := figs w && !decide (w.head? = some 48) && decide (digitsVal w ≤ m)
def okS (m : Nat) : List (List Nat) → Bool
  | [a, b, c, d, e] => decide (a = wSkip) && decide (c = wLeft) && two d e && skN b m
  | _ => false
def skV : List (List Nat) → List V
  | [_, b, _, d, e] => [sg wSkip, .int (digitsVal b : Nat), sg wLeft, sg d, sg e]
  | _ => []
def stT (ws : List (List Nat)) : Option (List V) := if okT ws = true then some (ws.map sg) else none
def stS (m : Nat) (ws : List (List Nat)) : Option (List V) := if okS m ws = true then some (skV ws) else none
/-- the step of a line with so many behind it -/
def stV (ws : List (List Nat)) (first : Bool) (m : Nat) : Option (List V) := match stT ws with
  | some x => some x
  | none => if first = true then none else stS m ws
abbrev spW (l : List Nat) : List (List Nat) := TL.spl [32] 0 [] l
abbrev spR (l : List Nat) : List (List Nat) := TL.spl [10] 0 [] l
def stAt (r : List Nat) (i m : Nat) : Option (List V) := if i < 12 then stV (spW r) (i == 0) m else none
def rd : List (List Nat) → Nat → Sum Nat (List (List V))
  | [], _ => .inr []
  | r :: rs, i => match stAt r i rs.length with
    | none => .inl (i + 1)
    | some x => match rd rs (i + 1) with
      | .inl n => .inl n
      | .inr ys => .inr (x :: ys)
def rdA (acc : List (List V)) (rs : List (List Nat)) (i : Nat) : Sum Nat (List (List V)) := match rd rs i with
  | .inl n => .inl n
  | .inr ys => .inr (acc ++ ys)
theorem rdA_nil (acc : List (List V)) (i : Nat) : rdA acc [] i = .inr acc := by
  unfold rdA rd
  simp
theorem rdA_none {acc : List (List V)} {r : List Nat} {rs : List (List Nat)} {i : Nat} (h : stAt r i rs.length = none) : rdA acc (r :: rs) i = .inl (i + 1) := by
  unfold rdA rd
  simp [h]
theorem rdA_some {acc : List (List V)} {r : List Nat} {rs : List (List Nat)} {i : Nat} {x : List V} (h : stAt r i rs.length = some x) : rdA acc (r :: rs) i = rdA (acc ++ [x]) rs (i + 1) := by
  unfold rdA
  rw [rd, h]
  simp only
  cases rd rs (i + 1) with
  | inl n => rfl
  | inr ys => simp
theorem rdA_zero (rs : List (List Nat)) : rdA [] rs 0 = rd rs 0 := by
  unfold rdA
  cases rd rs 0 with
  | inl n => rfl
  | inr ys => simp
theorem rd_len : ∀ {rs : List (List Nat)} {i : Nat} {ys : List (List V)}, rd rs i = .inr ys → ys.length = rs.length ∧ (rs ≠ [] → i + rs.length ≤ 12)
  | [], i, ys, h => by
    unfold rd at h
    cases h
    exact ⟨rfl, fun z => absurd rfl z⟩
  | r :: rs, i, ys, h => by
    unfold rd at h
    cases e : stAt r i rs.length with
    | none => rw [e] at h; cases h
    | some x =>
      rw [e] at h
      simp only at h
      have i12 : i < 12 := by
        unfold stAt at e
        split at e
        · assumption
        · cases e
      cases e2 : rd rs (i + 1) with
      | inl n => rw [e2] at h; cases h
      | inr zs =>
        rw [e2] at h
        cases h
        obtain ⟨h1, h2⟩ := rd_len e2
        refine ⟨by rw [List.length_cons, List.length_cons, h1], fun _ => ?_⟩
        cases rs with
        | nil => simp; omega
        | cons r2 rs2 =>
          have := h2 (by simp)
          simp only [List.length_cons] at this ⊢
          omega
theorem rd_pos {rs : List (List Nat)} {i n : Nat} (h : rd rs i = .inl n) : 1 ≤ n ∧ n ≤ i + rs.length := by
  induction rs generalizing i with
  | nil => unfold rd at h; cases h
  | cons r rs ih =>
    unfold rd at h
    cases e : stAt r i rs.length with
    | none =>
      rw [e] at h
      cases h
      simp only [List.length_cons]
      omega
    | some x =>
      rw [e] at h
      simp only at h
      cases e2 : rd rs (i + 1) with
      | inl m =>
        rw [e2] at h
        cases h
        have := ih e2
        simp only [List.length_cons]
        omega
      | inr zs => rw [e2] at h; cases h
/-! ### numbers of skips -/
theorem dig_back : ∀ (k : Nat) (w : List Nat), w.length = k → figs w = true → w.head? ≠ some 48 → TL.numL (digitsVal w) = w ∧ 1 ≤ digitsVal w := fun k => by
  induction k with
  | zero =>
    intro w hw hf
    have : w = [] := List.length_eq_zero_iff.mp hw
    subst this
    exact absurd hf (by decide)
  | succ k ih =>
    intro w hw hf h0
    obtain ⟨ne, ad⟩ := figs_of hf
    obtain ⟨p, c, rfl⟩ : ∃ p c, w = p ++ [c] := ⟨w.dropLast, w.getLast ne, (List.dropLast_concat_getLast ne).symm⟩
    have hc := ad c (by simp)
    have e : digitsVal (p ++ [c]) = digitsVal p * 10 + (c - 48) := by
      unfold digitsVal
      rw [List.foldl_append]
      rfl
    cases p with
    | nil =>
      have hc0 : c ≠ 48 := fun z => h0 (by rw [z]; rfl)
      have e1 : digitsVal ([] ++ [c]) = c - 48 := by rw [e]; show 0 * 10 + (c - 48) = _; omega
      rw [e1]
      refine ⟨?_, by omega⟩
      rw [TL.numL_lt (by omega)]
      show [48 + (c - 48)] = [c]
      rw [show 48 + (c - 48) = c by omega]
    | cons a r =>
      have hp : figs (a :: r) = true := figs_mk (by simp) fun d hd => ad d (List.mem_append_left _ hd)
      have h1 : (a :: r).head? ≠ some 48 := fun z => h0 (by simpa using z)
      have hl : (a :: r).length = k := by
        rw [List.length_append] at hw
        simpa using hw
      obtain ⟨g1, g2⟩ := ih (a :: r) hl hp h1
      rw [e]
      refine ⟨?_, by omega⟩
      rw [TL.numL_step (by omega), show (digitsVal (a :: r) * 10 + (c - 48)) / 10 = digitsVal (a :: r) by omega, show (digitsVal (a :: r) * 10 + (c - 48)) % 10 = c - 48 by omega, g1, show 48 + (c - 48) = c by omega]
theorem skN_iff {w : List Nat} {m : Nat} : skN w m = true ↔ ∃ n, 1 ≤ n ∧ n ≤ m ∧ w = TL.numL n := by
  unfold skN
  constructor
  · intro h
    simp only [Bool.and_eq_true, Bool.not_eq_true', decide_eq_true_eq, decide_eq_false_iff_not] at h
    obtain ⟨⟨h1, h2⟩, h3⟩ := h
    obtain ⟨e1, e2⟩ := dig_back _ w rfl h1 h2
    exact ⟨_, e2, h3, e1.symm⟩
  · rintro ⟨n, h1, h2, rfl⟩
    have : (TL.numL n).head? ≠ some 48 := fun z => by
      have := num_lead n z
      omega
    simp only [Bool.and_eq_true, Bool.not_eq_true', decide_eq_true_eq, decide_eq_false_iff_not]
    exact ⟨⟨numL_figs n, this⟩, by rw [TL.numL_val]; exact h2⟩
theorem numL_mono {a b : Nat} (h : a ≤ b) : (TL.numL a).length ≤ (TL.numL b).length := by
  have h1 := digitsVal_lt (TL.numL_digits b)
  rw [TL.numL_val] at h1
  exact TL.numL_len (List.length_pos_iff.mpr (TL.numL_ne b)) (Nat.lt_of_le_of_lt h h1)
theorem skN_len {w : List Nat} {m : Nat} (h : skN w m = true) : w.length ≤ (TL.numL m).length := by
  obtain ⟨n, _, h2, rfl⟩ := skN_iff.mp h
  exact numL_mono h2
/-! ### the letters -/
theorem mem_letters (c : Nat) : decide (c ∈ (Str.ofString "abcdefghijklmnopqrstuvwxyz").cps.toList) = lcase c := by
  have e : (Str.ofString "abcdefghijklmnopqrstuvwxyz").cps.toList = List.map (· + 97) (List.range 26) := by decide +kernel
  rw [e]
  unfold lcase
  rw [Bool.eq_iff_iff]
  simp only [decide_eq_true_eq, Bool.and_eq_true, List.mem_map, List.mem_range]
  constructor
  · rintro ⟨a, h1, h2⟩
    omega
  · rintro ⟨h1, h2⟩
    exact ⟨c - 97, by omega, by omega⟩
/-! ### lines put together -/
theorem join_len (c : Nat) : ∀ ws : List (List Nat), (TL.joinL [c] ws).length ≤ (ws.map List.length).sum + ws.length
  | [] => by simp [TL.joinL]
  | [w] => by simp [TL.joinL]
  | w :: u :: r => by
    have := join_len c (u :: r)
    simp only [TL.joinL, List.length_append, List.length_cons, List.length_nil, List.map_cons, List.sum_cons] at this ⊢
    omega
theorem join_mem {c : Nat} : ∀ {ws : List (List Nat)} {d : Nat}, d ∈ TL.joinL [c] ws → d = c ∨ ∃ w ∈ ws, d ∈ w
  | [], d, h => by simp [TL.joinL] at h
  | [w], d, h => .inr ⟨w, by simp, h⟩
  | w :: u :: r, d, h => by
    have h : d ∈ w ++ ([c] ++ TL.joinL [c] (u :: r)) := h
    rcases List.mem_append.mp h with h | h
    · exact .inr ⟨w, by simp, h⟩
    · rcases List.mem_append.mp h with h | h
      · exact .inl (List.mem_singleton.mp h)
      · rcases join_mem h with h | ⟨x, hx, h⟩
        · exact .inl h
        · exact .inr ⟨x, List.mem_cons_of_mem _ hx, h⟩
theorem spl_mem {c : Nat} : ∀ (k : Nat) (l : List Nat), l.length ≤ k → ∀ w ∈ TL.spl [c] 0 [] l, ∀ d ∈ w, d ∈ l := fun k => by
  induction k with
  | zero =>
    intro l hl w hw d hd
    have e : l = [] := List.length_eq_zero_iff.mp (by omega)
    subst e
    rw [TL.spl_nil] at hw
    rw [List.mem_singleton.mp hw] at hd
    exact hd
  | succ k ih =>
    intro l hl w hw d hd
    rcases split_at c l with n | ⟨p, q, rfl, n⟩
    · rw [spl_none n] at hw
      rw [List.mem_singleton.mp hw] at hd
      exact hd
    · rw [spl_some n] at hw
      simp only [List.length_append, List.length_cons] at hl
      rcases List.mem_cons.mp hw with e | e
      · rw [e] at hd
        exact List.mem_append_left _ hd
      · exact List.mem_append_right _ (List.mem_cons_of_mem _ (ih q (by omega) w e d hd))
/-- texts of unlike rows are unlike -/
theorem rows_inj {as bs : List (List Nat)} (ha : ∀ r ∈ as, (10 : Nat) ∉ r) (hb : ∀ r ∈ bs, (10 : Nat) ∉ r) (na : as ≠ []) (hne : ∀ r ∈ as, r ≠ []) (h : TL.joinL [10] as = TL.joinL [10] bs) : as = bs := by
  by_cases nb : bs = []
  · subst nb
    exfalso
    cases as with
    | nil => exact na rfl
    | cons r rs =>
      have hr := hne r (by simp)
      have e : TL.joinL [10] (r :: rs) = [] := h
      cases rs with
      | nil => exact hr e
      | cons u us =>
        have e : r ++ ([10] ++ TL.joinL [10] (u :: us)) = [] := e
        have := congrArg List.length e
        simp at this
  · have e1 := TL.spl_join (s := 10) (S := []) na ha
    have e2 := TL.spl_join (s := 10) (S := []) nb hb
    rw [← e1, ← e2, h]
end G

namespace My
open PySem PySem.Spec PyProof.Rows L2 G
def topS (i : Nat) : Stmt := PySem.Challenge.pw_seenabout_k45_texts_of_scripts.main.body.getD i (.Pass ⟨0, 0, 0, 0⟩)
abbrev s__law_pot : Stmt := topS 15
theorem sc__law_pot : FnScope ["_law_script", "_law_k", "_law_cell", "_law_own", "_law_small"] ["_law_script", "_law_k"] (defScope s__law_pot) := ⟨rfl, rfl, rfl, by decide +kernel, rfl, by decide +kernel, by decide +kernel⟩

abbrev s__law_take : Stmt := topS 16
theorem sc__law_take : FnScope ["_law_pot_here", "_law_upto", "_law_digit", "_law_prime", "_law_blend"] ["_law_pot_here", "_law_upto"] (defScope s__law_take) := ⟨rfl, rfl, rfl, by decide +kernel, rfl, by decide +kernel, by decide +kernel⟩

abbrev s__law_of : Stmt := topS 17
theorem sc__law_of : FnScope ["_law_pot_here", "_law_some_here"] ["_law_pot_here", "_law_some_here"] (defScope s__law_of) := ⟨rfl, rfl, rfl, by decide +kernel, rfl, by decide +kernel, by decide +kernel⟩

abbrev s__law_places : Stmt := topS 19
theorem sc__law_places : FnScope ["_law_script", "_law_most"] ["_law_script", "_law_most"] (defScope s__law_places) := ⟨rfl, rfl, rfl, by decide +kernel, rfl, by decide +kernel, by decide +kernel⟩

structure Ad where
  init : Addr
  AboutError : Addr
  BadScript : Addr
  Script : Addr
  _law_pot : Addr
  _law_take : Addr
  _law_of : Addr
  _law_places : Addr
  _law_told : Addr
  _law_odd : Addr
  _law_some : Addr
  _law_is_name : Addr
  _law_step : Addr
  _law_steps : Addr
  _law_step_text : Addr
  _law_step_in : Addr
  _law_read : Addr
  _law_spoilt : Addr
  _law_judged : Addr
  _law_right : Addr
  law : Addr
  is_name : Addr
  _are_two : Addr
  read_step : Addr
  _read_many : Addr
  _read_skip : Addr
  _read_steps : Addr
  Script___init__ : Addr
  Script_text : Addr
  Script___len__ : Addr
  Script___eq__ : Addr
/-- what isinstance asks of a class of plain instances -/
structure RI (K : PySem.W.Frag) (C : Addr) : Prop where
  ca : PySem.W.findIn K (.ref C) "__class__" = some (some (.builtin "object.__class__"))
  cn : PySem.W.specialIn K (.builtin "object.__class__") "__get__" = some (some (.builtin "getset_descriptor.__get__"))
  ct : PySem.W.takesIn K (.builtin "object.__class__") = some true
  cm : PySem.W.mroIn K C (.type "object") = some true
  ki : PySem.W.kitOne K (.ref C) (.type "int") = some false
  kb : PySem.W.kitOne K (.ref C) (.type "bool") = some false
  ks : PySem.W.kitOne K (.ref C) (.ref C) = some true
  kt : ∀ t ∈ (["int", "bool", "NoneType", "str", "tuple", "list", "dict"] : List String), PySem.W.kitOne K (.type t) (.ref C) = some false
/-- what the top has written -/
structure Txt (K : PySem.W.Frag) (mg : Str → Option Value) (a : Ad) : Prop where
  n_abs : mg "abs" = none
  n_all : mg "all" = none
  n_enumerate : mg "enumerate" = none
  n_int : mg "int" = none
  n_isinstance : mg "isinstance" = none
  n_len : mg "len" = none
  n_list : mg "list" = none
  n_max : mg "max" = none
  n_min : mg "min" = none
  n_range : mg "range" = none
  n_repr : mg "repr" = none
  n_str : mg "str" = none
  n_tuple : mg "tuple" = none
  g_AboutError : mg "AboutError" = some (.ref a.AboutError)
  g_BadScript : mg "BadScript" = some (.ref a.BadScript)
  c_BadScript : EC K a.BadScript
  i_BadScript : PySem.W.findIn K (.ref a.BadScript) "__init__" = some (some (.ref a.init))
  x_BadScript : PySem.W.exmOne K (.ref a.BadScript) (.ref a.AboutError) = some true
  t_BadScript : PySem.W.kitOne K (.ref a.BadScript) (.ref a.BadScript) = some true
  tI : PySem.W.typeIn K (.ref a.init) = some (.type "function")
  ek : EK K
  g_LET : ∃ t, mg "_LETTERS" = some (.str "abcdefghijklmnopqrstuvwxyz" t)
  g_MOST : ∃ t, mg "_MOST" = some (.int 12 t)
  g_Script : mg "Script" = some (.ref a.Script)
  m_Script : Mk K a.Script a.Script___init__
  cl : Cls K a.Script
  nT : NoAttr K a.Script "_text"
  nS : NoAttr K a.Script "steps"
  ri : RI K a.Script
  eqc : EqC K a.Script a.Script___eq__
  nfl : PySem.W.notFirst K a.Script (.type "list") = true
  lenA : PySem.W.findIn K (.ref a.Script) "__len__" = some (some (.ref a.Script___len__))
  lenF : PySem.W.isFn K (.ref a.Script___len__) = true
  tR : ∃ p, PropOf K a.Script "text" p a.Script_text
  g__law_pot : mg "_law_pot" = some (.ref a._law_pot)
  k__law_pot : PySem.W.keepIn K (.ref a._law_pot) = true
  g__law_take : mg "_law_take" = some (.ref a._law_take)
  k__law_take : PySem.W.keepIn K (.ref a._law_take) = true
  g__law_of : mg "_law_of" = some (.ref a._law_of)
  k__law_of : PySem.W.keepIn K (.ref a._law_of) = true
  g__law_places : mg "_law_places" = some (.ref a._law_places)
  k__law_places : PySem.W.keepIn K (.ref a._law_places) = true
  g__law_told : mg "_law_told" = some (.ref a._law_told)
  k__law_told : PySem.W.keepIn K (.ref a._law_told) = true
  g__law_odd : mg "_law_odd" = some (.ref a._law_odd)
  k__law_odd : PySem.W.keepIn K (.ref a._law_odd) = true
  g__law_some : mg "_law_some" = some (.ref a._law_some)
  k__law_some : PySem.W.keepIn K (.ref a._law_some) = true
  g__law_is_name : mg "_law_is_name" = some (.ref a._law_is_name)
  k__law_is_name : PySem.W.keepIn K (.ref a._law_is_name) = true
  g__law_step : mg "_law_step" = some (.ref a._law_step)
  k__law_step : PySem.W.keepIn K (.ref a._law_step) = true
  g__law_steps : mg "_law_steps" = some (.ref a._law_steps)
  k__law_steps : PySem.W.keepIn K (.ref a._law_steps) = true
  g__law_step_text : mg "_law_step_text" = some (.ref a._law_step_text)
  k__law_step_text : PySem.W.keepIn K (.ref a._law_step_text) = true
  g__law_step_in : mg "_law_step_in" = some (.ref a._law_step_in)
  k__law_step_in : PySem.W.keepIn K (.ref a._law_step_in) = true
  g__law_read : mg "_law_read" = some (.ref a._law_read)
  k__law_read : PySem.W.keepIn K (.ref a._law_read) = true
  g__law_spoilt : mg "_law_spoilt" = some (.ref a._law_spoilt)
  k__law_spoilt : PySem.W.keepIn K (.ref a._law_spoilt) = true
  g__law_judged : mg "_law_judged" = some (.ref a._law_judged)
  k__law_judged : PySem.W.keepIn K (.ref a._law_judged) = true
  g__law_right : mg "_law_right" = some (.ref a._law_right)
  k__law_right : PySem.W.keepIn K (.ref a._law_right) = true
  g_law : mg "law" = some (.ref a.law)
  k_law : PySem.W.keepIn K (.ref a.law) = true
  g_is_name : mg "is_name" = some (.ref a.is_name)
  k_is_name : PySem.W.keepIn K (.ref a.is_name) = true
  g__are_two : mg "_are_two" = some (.ref a._are_two)
  k__are_two : PySem.W.keepIn K (.ref a._are_two) = true
  g_read_step : mg "read_step" = some (.ref a.read_step)
  k_read_step : PySem.W.keepIn K (.ref a.read_step) = true
  g__read_many : mg "_read_many" = some (.ref a._read_many)
  k__read_many : PySem.W.keepIn K (.ref a._read_many) = true
  g__read_skip : mg "_read_skip" = some (.ref a._read_skip)
  k__read_skip : PySem.W.keepIn K (.ref a._read_skip) = true
  g__read_steps : mg "_read_steps" = some (.ref a._read_steps)
  k__read_steps : PySem.W.keepIn K (.ref a._read_steps) = true

/-! ### the pot: three ints, of which the last counts -/
def PotAt (H : Hp) (p : Addr) (n : Nat) : Prop := ∃ a b c : Int, H p = some (.lst [.int a, .int b, .int c]) ∧ (0 ≤ a ∧ a < 10 ^ 300) ∧ (0 ≤ b ∧ b < 2 ^ 61) ∧ (0 ≤ c ∧ c ≤ (n : Int))
/-- the heap without the pot -/
noncomputable abbrev wo (p : Addr) (H : Hp) : Hp := mask (fun b => b = p) H
theorem wo_ne {p b : Addr} {H : Hp} (h : b ≠ p) : wo p H b = H b := mask_out h
theorem wo_same {p : Addr} {H : Hp} : wo p H p = none := mask_in rfl
theorem wo_le (p : Addr) (H : Hp) : Same (wo p H) H := mask_le _ _
theorem wo_upd {p : Addr} {H : Hp} {o : HO} : wo p (upd H p o) = wo p H := by
  funext b
  by_cases e : b = p
  · rw [e, wo_same, wo_same]
  · rw [wo_ne e, wo_ne e, upd_ne e]
/-- all but the pot stays, the pot is one still -/
structure Go (p : Addr) (n : Nat) (H H' : Hp) : Prop where
  keep : Same (wo p H) (wo p H')
  pot : PotAt H' p n
theorem Go.trans {p : Addr} {m n : Nat} {H H1 H2 : Hp} (a : Go p m H H1) (b : Go p n H1 H2) : Go p n H H2 := ⟨a.keep.trans b.keep, b.pot⟩
theorem Go.at {p : Addr} {n : Nat} {H H' : Hp} (g : Go p n H H') {b : Addr} {o : HO} (h : H b = some o) (hb : b ≠ p) : H' b = some o := wo_le p H' _ _ (g.keep b o (by rw [wo_ne hb]; exact h))

def spPot (K : PySem.W.Frag) : Sp := fun vs H Q _ => ∃ (s : Addr) (ns : List Int) (k : Int), vs = [.ref s, .int k] ∧ SqL K H s (ns.map V.int) ∧ ns.length ≤ 63 ∧ 0 ≤ k ∧ k ≤ 100 ∧
  ∀ p H', H p = none → Same H H' → PotAt H' p 0 → Q (.ref p) H'
def spTake : Sp := fun vs H Q _ => ∃ (p : Addr) (u : Int) (n : Nat), vs = [.ref p, .int u] ∧ PotAt H p n ∧ n ≤ 100000 ∧ 1 ≤ u ∧ u ≤ 10 ^ 8 ∧
  ∀ d H', 0 ≤ d → d < u → Go p (n + 1) H H' → Q (.int d) H'
def spOf : Sp := fun vs H Q _ => ∃ (p s : Addr) (n : Nat) (xs : List V), vs = [.ref p, .ref s] ∧ s ≠ p ∧ PotAt H p n ∧ n ≤ 100000 ∧ H s = some (.lst xs) ∧ xs ≠ [] ∧ xs.length ≤ 10 ^ 6 ∧
  ∀ x H', x ∈ xs → Go p (n + 1) H H' → Q x H'
def spPlaces (K : PySem.W.Frag) : Sp := fun vs H Q _ => ∃ (s : Addr) (ns : List Int) (m : Int), vs = [.ref s, .int m] ∧ SqL K H s (ns.map V.int) ∧ ns.length ≤ 63 ∧ 1 ≤ m ∧ m ≤ 100 ∧
  ∀ (l : Addr) (n : Nat) (H' : Hp), H l = none → Same H H' → (n : Int) ≤ m → H' l = some (.lst (rgV 0 n)) → Q (.ref l) H'
/-- what is kept but for the pot keeps data that lie elsewhere -/
theorem Go.mask {p : Addr} {n : Nat} {H H' : Hp} {N : Addr → Prop} (g : Go p n H H') (hp : N p) : Same (mask N H) (mask N H') := fun b o h => by
  obtain ⟨nb, e⟩ := mask_some h
  have hb : b ≠ p := fun z => nb (by rw [z]; exact hp)
  rw [mask_out nb]
  exact g.at e hb
theorem Go.is {p : Addr} {n : Nat} {H H' : Hp} {N : Addr → Prop} {G : PyData → Prop} {v : V} (g : Go p n H H') (hp : N p) (x : Is N H G v) : Is N H' G v := let ⟨d, a, y⟩ := x; ⟨d, a.same (g.mask hp), y⟩
theorem Go.of {p : Addr} {n : Nat} {H H1 H' : Hp} (S : Same H H1) (g : Go p n H1 H') : Go p n H H' := ⟨(mask_mono S).trans g.keep, g.pot⟩
theorem PotAt.same {p : Addr} {n : Nat} {H H' : Hp} (S : Same H H') (x : PotAt H p n) : PotAt H' p n := let ⟨a, b, c, h, r⟩ := x; ⟨a, b, c, S _ _ h, r⟩
theorem PotAt.mono {p : Addr} {m n : Nat} {H : Hp} (x : PotAt H p m) (h : m ≤ n) : PotAt H p n := let ⟨a, b, c, e, r1, r2, r3, r4⟩ := x; ⟨a, b, c, e, r1, r2, r3, by omega⟩
theorem PotAt.has {p : Addr} {n : Nat} {H : Hp} (x : PotAt H p n) : H p ≠ none := by obtain ⟨a, b, c, e, _⟩ := x; rw [e]; simp
theorem Go.mono {p : Addr} {m n : Nat} {H H' : Hp} (g : Go p m H H') (h : m ≤ n) : Go p n H H' := ⟨g.keep, g.pot.mono h⟩

/-- any of the odd values: new data -/
def spOdd : Sp := fun vs H Q _ => ∃ (p : Addr) (n : Nat), vs = [.ref p] ∧ PotAt H p n ∧ n ≤ 100000 ∧ ∀ v H', (∀ N, Tr N H → Is N H' (Gd 60 4) v) → Go p (n + 1) H H' → Q v H'
section
variable {P : Program} {w : World} {K : PySem.W.Frag} {mg : Str → Option Value} {base : Heap} {a : Ad}

theorem pow300 : ((10 : Int) ^ (60 : Int).toNat) ^ (5 : Int).toNat = 10 ^ 300 := by
  show ((10 : Int) ^ 60) ^ 5 = 10 ^ 300
  rw [← Int.pow_mul]
theorem cpow1 : CPowW 10 60 := ⟨by decide, by decide, by decide +kernel⟩
theorem cpow2 : CPowW ((10 : Int) ^ (60 : Int).toNat) 5 := ⟨by decide +kernel, by decide, by decide +kernel⟩
theorem cpow3 : CPowW 10 18 := ⟨by decide, by decide, by decide +kernel⟩
theorem mod300 (x : Int) : 0 ≤ x.fmod (10 ^ 300) ∧ x.fmod (10 ^ 300) < 10 ^ 300 := by
  have h : (0 : Int) < 10 ^ 300 := by decide +kernel
  exact ⟨Int.fmod_nonneg_of_pos _ h, Int.fmod_lt_of_pos _ h⟩
theorem cpow_of {i : Int} (h0 : 2 ≤ i) (h : i < 2 ^ 100) : CPowW i 3 := by
  refine ⟨h0, by decide, ?_⟩
  have h1 : i.natAbs < 2 ^ 100 := by omega
  have h2 := PySem.Flt.log2_lt_of (by decide) h1
  have h3 : Builtin.Int.intBits i ≤ i.natAbs.log2 + 1 := by
    unfold Builtin.Int.intBits
    split <;> omega
  omega
theorem b01 (b : Bool) : -(2 ^ 64) < (if b = true then (1 : Int) else 0) ∧ (if b = true then (1 : Int) else 0) < 2 ^ 64 := by cases b <;> decide
theorem own01 {x m : Int} (h : 0 ≤ x ∧ x < m) (b : Bool) : 0 ≤ x * (if b = true then (1 : Int) else 0) ∧ x * (if b = true then (1 : Int) else 0) < m := by
  cases b
  · simp; omega
  · simp; omega
theorem fm {u : Int} (x : Int) (h : 0 < u) : 0 ≤ x.fmod u ∧ x.fmod u < u := ⟨Int.fmod_nonneg_of_pos _ h, Int.fmod_lt_of_pos _ h⟩
theorem ok__law_pot {fd : FuncData} (F : Fun K "_law_pot" "_law_pot" s__law_pot a._law_pot fd) (T : Txt K mg a) :
    Fn P w K mg base CX0 1 a._law_pot fd ["_law_script", "_law_k"] (spPot K) := by
  refine ok F sc__law_pot (fun vs H Q E h => ?len) (fun cdv A outer s H vs Q E hq hr h => ⟨_,
      (Evl.pss_cut (ps_set (i := 2) sc__law_pot.nd rfl (Or.inl rfl) (pe_ifExp (pt_cmpR op_lt (pv 1) (pe_callB call_len_seq (by rfl) T.n_len (by decide +kernel) (pa_cons (pv 0) pa_nil)) (nomark _)) (pe_ix ix_list (pv 0) (pv 1) (fun _ _ => rfl)) (pe_op op_add (pe_op op_mul pe_int (pv 1)) pe_int)))
      (pss_cons (ps_set (i := 3) sc__law_pot.nd rfl (Or.inl rfl) (pe_op op_mul (pe_op op_modN (pe_callTy call_int1 (by rfl) T.n_int (by decide +kernel) (pa_cons (pe_callB call_abs (by rfl) T.n_abs (by decide +kernel) (pa_cons (pv 2) pa_nil)) pa_nil)) (pe_op op_powW (pe_op op_powW pe_int pe_int) pe_int)) (pe_callTy call_int1 (by rfl) T.n_int (by decide +kernel) (pa_cons (pe_cmpR op_ge (pe_callB call_abs (by rfl) T.n_abs (by decide +kernel) (pa_cons (pv 2) pa_nil)) (pe_op op_powW pe_int pe_int) (nomark _)) pa_nil))))
      (pss_cons (ps_set (i := 4) sc__law_pot.nd rfl (Or.inl rfl) (pe_op op_modN (pe_callTy call_int1 (by rfl) T.n_int (by decide +kernel) (pa_cons (pv 2) pa_nil)) pe_int))
      (pss_one (ps_ret (pe_lstS (pa_cons (pv 3) (pa_cons (pe_op op_modN (pe_callTy call_int1 (by rfl) T.n_int (by decide +kernel) (pa_cons (pe_op op_add (pe_op op_add (pe_op op_mul (pv 4) pe_int) (pe_op op_mul (pe_op op_mul pe_int (pv 1)) (pv 1))) pe_int) pa_nil)) pe_int) (pa_cons pe_int pa_nil))))))))), ?body⟩)
  case len => obtain ⟨s, ns, k, rfl, _⟩ := h; rfl
  case body =>
    obtain ⟨s, ns, k, rfl, hs, hl, hk0, hk1, q⟩ := h
    refine ⟨fun σ' H' => ∃ c : Int, σ' = [some (.ref s), some (.int k), some (.int c), none, none] ∧ H' = H, ?first, ?rest⟩
    case first =>
      refine ⟨_, rfl, _, rfl, _, _, rfl, .inl hs, _, _, rfl, rfl, _, rfl, ite2 (fun c => ?_) (fun c => ?_)⟩
      · have hk : k.toNat < ns.length := by
          have := of_decide_eq_true c
          rw [List.length_map] at this
          omega
        refine ⟨_, rfl, _, rfl, _, _, _, _, rfl, rfl, hs, at_of (j := k.toNat) (v := .int ns[k.toNat]) (by omega) (by rw [List.getElem?_map, List.getElem?_eq_getElem hk]; rfl), ?_⟩
        exact ⟨_, rfl, rfl⟩
      · refine ⟨_, rfl, _, _, rfl, rfl, .inl ⟨by decide, by decide⟩, _, _, rfl, rfl, ?_⟩
        exact ⟨_, rfl, rfl⟩
    case rest =>
      rintro σ' H' ⟨c, rfl, rfl⟩
      have m1 : 0 ≤ c.fmod 2305843009213693951 ∧ c.fmod 2305843009213693951 < 2305843009213693951 := ⟨Int.fmod_nonneg_of_pos _ (by decide), Int.fmod_lt_of_pos _ (by decide)⟩
      refine ⟨_, rfl, _, rfl, .inl ⟨_, rfl, _, _, rfl, rfl, cpow1, _, _, rfl, rfl, cpow2, _, _, rfl, rfl, (by rw [pow300]; show (10 ^ 300 : Int) ≠ 0; decide +kernel), _, rfl, _, rfl, _, _, rfl, rfl, cpow3, _, _, rfl, rfl, .inr ⟨_, rfl, _, _, rfl, rfl, .inr (b01 _), ?_⟩⟩⟩
      refine ⟨_, rfl, .inl ⟨_, rfl, _, _, rfl, rfl, (by show (_ : Int) ≠ 0; decide), ?_⟩⟩
      refine ⟨_, rfl, _, rfl, _, _, rfl, rfl, .inl ⟨by omega, by omega⟩, _, rfl, _, _, rfl, rfl, .inl ⟨by decide, by decide⟩, _, rfl, _, _, rfl, rfl, .inr ⟨by omega, by omega⟩, _, _, rfl, rfl, _, _, rfl, rfl, .inl ⟨_, rfl, _, _, rfl, rfl, (by show (_ : Int) ≠ 0; decide), (by show 3 ≤ sizeLine; decide), fun p h1 s1 => ?_⟩⟩
      refine q p _ h1 (fun b o z => by rw [upd_ne (ne_of_none z h1)]; exact z) ⟨_, _, _, upd_same, ?_, ?_, by decide⟩
      · rw [pow300]
        exact own01 (mod300 _) _
      · exact ⟨Int.fmod_nonneg_of_pos _ (by decide), Int.lt_trans (Int.fmod_lt_of_pos _ (by decide)) (by decide)⟩
theorem ok__law_take {fd : FuncData} (F : Fun K "_law_take" "_law_take" s__law_take a._law_take fd) (T : Txt K mg a) :
    Fn P w K mg base CX0 1 a._law_take fd ["_law_pot_here", "_law_upto"] spTake := by
  refine ok F sc__law_take (fun vs H Q E h => ?len) (fun cdv A outer s H vs Q E hq hr h => ⟨_,
      (pss_cons (ps_if (pt_cmpR op_gt (pe_ix ix_list (pv 0) pe_int (fun _ _ => rfl)) pe_int (nomark _)) (pss_cons (ps_set (i := 2) sc__law_take.nd rfl (Or.inl rfl) (pe_op op_modN (pe_callTy call_int1 (by rfl) T.n_int (by decide +kernel) (pa_cons (pe_ix ix_list (pv 0) pe_int (fun _ _ => rfl)) pa_nil)) (pv 1)))
      (pss_cons (ps_asg (pe_op op_fdivN (pe_ix ix_list (pv 0) pe_int (fun _ _ => rfl)) (pv 1)) (pg_sub (pv 0) pe_int set_list))
      (pss_one (ps_ret (pv 2))))) pss_nil)
      (pss_cons (ps_asg (pe_op op_add (pe_ix ix_list (pv 0) pe_int (fun _ _ => rfl)) pe_int) (pg_sub (pv 0) pe_int set_list))
      (pss_cons (ps_set (i := 3) sc__law_take.nd rfl (Or.inl rfl) (pe_ix ix_list (pe_lstS (pa_cons pe_int (pa_cons pe_int (pa_cons pe_int (pa_cons pe_int (pa_cons pe_int pa_nil)))))) (pe_op op_modN (pe_callTy call_int1 (by rfl) T.n_int (by decide +kernel) (pa_cons (pe_ix ix_list (pv 0) pe_int (fun _ _ => rfl)) pa_nil)) pe_int) (fun _ _ => rfl)))
      (pss_cons (ps_set (i := 4) sc__law_take.nd rfl (Or.inl rfl) (pe_op op_modN (pe_callTy call_int1 (by rfl) T.n_int (by decide +kernel) (pa_cons (pe_op op_powW (pe_callTy call_int1 (by rfl) T.n_int (by decide +kernel) (pa_cons (pe_op op_add (pe_op op_add (pe_ix ix_list (pv 0) pe_int (fun _ _ => rfl)) (pe_op op_mul (pe_op op_mul pe_int (pe_ix ix_list (pv 0) pe_int (fun _ _ => rfl))) (pe_ix ix_list (pv 0) pe_int (fun _ _ => rfl)))) pe_int) pa_nil)) pe_int) pa_nil)) (pv 3)))
      (pss_one (ps_ret (pe_op op_modN (pe_callTy call_int1 (by rfl) T.n_int (by decide +kernel) (pa_cons (pe_op op_fdivN (pe_op op_mul (pv 4) (pe_op op_add (pe_op op_modN (pe_callTy call_int1 (by rfl) T.n_int (by decide +kernel) (pa_cons (pv 4) pa_nil)) pe_int) (pe_op op_mul pe_int (pe_ix ix_list (pv 0) pe_int (fun _ _ => rfl))))) pe_int) pa_nil)) (pv 1)))))))), ?body⟩)
  case len => obtain ⟨p, u, n, rfl, _⟩ := h; rfl
  case body =>
    obtain ⟨p, u, n, rfl, ⟨x, y, z, hp, ⟨hx0, hx1⟩, ⟨hy0, hy1⟩, hz0, hz1⟩, hn, hu0, hu1, q⟩ := h
    refine ⟨_, rfl, p, _, _, _, rfl, rfl, SqL.of hp, rfl, _, _, rfl, rfl, _, rfl, ite2 (fun c => ?_) (fun c => ?_)⟩
    · refine ⟨_, rfl, _, _, _, _, rfl, rfl, SqL.of hp, rfl, .inl ⟨_, rfl, _, rfl, _, _, rfl, rfl, (by omega), _, rfl, _, _, _, _, rfl, rfl, SqL.of hp, rfl, _, rfl, _, _, rfl, rfl, ⟨by omega, by omega⟩, _, rfl, _, _, _, _, rfl, rfl, hp, rfl, _, rfl, ?_⟩⟩
      refine q _ _ (Int.fmod_nonneg_of_pos _ (by omega)) (Int.fmod_lt_of_pos _ (by omega)) ⟨by rw [wo_upd]; exact fun _ _ z => z, _, _, _, upd_same, ?_, ⟨hy0, hy1⟩, hz0, by omega⟩
      have e : x.fdiv u = x / u := Int.fdiv_eq_ediv_of_nonneg _ (by omega)
      show 0 ≤ x.fdiv u ∧ x.fdiv u < 10 ^ 300
      rw [e]
      exact ⟨Int.ediv_nonneg hx0 (by omega), Int.lt_of_le_of_lt (Int.ediv_le_self _ hx0) hx1⟩
    · refine ⟨_, rfl, _, _, _, _, rfl, rfl, SqL.of hp, rfl, _, _, rfl, rfl, _, rfl, _, _, _, _, rfl, rfl, hp, rfl, (by show 5 ≤ sizeLine; decide), fun l hl sl => ?_⟩
      have hp1 : upd H p (.lst [V.int x, V.int y, V.int (z + 1)]) p = some (.lst [V.int x, V.int y, V.int (z + 1)]) := upd_same
      replace hl : upd H p (.lst [V.int x, V.int y, V.int (z + 1)]) l = none := hl
      have npl : p ≠ l := ne_of_none hp1 hl
      have hp2 : upd (upd H p (.lst [V.int x, V.int y, V.int (z + 1)])) l (.lst [V.int 2147483647, V.int 2147483629, V.int 2147483587, V.int 2147483579, V.int 2147483563]) p = some (.lst [V.int x, V.int y, V.int (z + 1)]) := by rw [upd_ne npl]; exact hp1
      have hl2 : upd (upd H p (.lst [V.int x, V.int y, V.int (z + 1)])) l (.lst [V.int 2147483647, V.int 2147483629, V.int 2147483587, V.int 2147483579, V.int 2147483563]) l = some (.lst [V.int 2147483647, V.int 2147483629, V.int 2147483587, V.int 2147483579, V.int 2147483563]) := upd_same
      have keep : Same (wo p H) (wo p (upd (upd H p (.lst [V.int x, V.int y, V.int (z + 1)])) l (.lst [V.int 2147483647, V.int 2147483629, V.int 2147483587, V.int 2147483579, V.int 2147483563]))) := by
        intro b o e
        by_cases hb : b = p
        · rw [hb, wo_same] at e; cases e
        · rw [wo_ne hb] at e ⊢
          have : b ≠ l := by
            rintro rfl
            rw [upd_ne hb, e] at hl
            cases hl
          rw [upd_ne this, upd_ne hb]; exact e
      -- which prime
      obtain ⟨j, hj, ej⟩ : ∃ j : Nat, j < 5 ∧ (z + 1).fmod 5 = (j : Int) := ⟨((z + 1).fmod 5).toNat, by have := Int.fmod_lt_of_pos (z + 1) (show (0 : Int) < 5 by decide); have := Int.fmod_nonneg_of_pos (z + 1) (show (0 : Int) < 5 by decide); omega, by have := Int.fmod_nonneg_of_pos (z + 1) (show (0 : Int) < 5 by decide); omega⟩
      obtain ⟨pr, hpr, at5⟩ : ∃ pr : Int, (2147483563 ≤ pr ∧ pr ≤ 2147483647) ∧ [V.int 2147483647, V.int 2147483629, V.int 2147483587, V.int 2147483579, V.int 2147483563][j]? = some (.int pr) := by
        match j, hj with
        | 0, _ => exact ⟨_, ⟨by decide, by decide⟩, rfl⟩
        | 1, _ => exact ⟨_, ⟨by decide, by decide⟩, rfl⟩
        | 2, _ => exact ⟨_, ⟨by decide, by decide⟩, rfl⟩
        | 3, _ => exact ⟨_, ⟨by decide, by decide⟩, rfl⟩
        | 4, _ => exact ⟨_, ⟨by decide, by decide⟩, rfl⟩
      have zz : 0 ≤ (z + 1) * (z + 1) ∧ (z + 1) * (z + 1) ≤ 100001 * 100001 := ⟨Int.mul_nonneg (by omega) (by omega), Int.mul_le_mul (by omega) (by omega) (by omega) (by omega)⟩
      have e9 : 102997 * (z + 1) * (z + 1) = 102997 * ((z + 1) * (z + 1)) := Int.mul_assoc _ _ _
      refine ⟨_, rfl, _, _, _, _, rfl, rfl, SqL.of hp2, rfl, .inl ⟨_, rfl, _, _, rfl, rfl, (by show (_ : Int) ≠ 0; decide), _, _, _, _, rfl, rfl, SqL.of hl2, at_of ej at5, ?_⟩⟩
      refine ⟨_, rfl, _, _, _, _, rfl, rfl, SqL.of hp2, rfl, _, rfl, _, _, _, _, rfl, rfl, SqL.of hp2, rfl, _, _, rfl, rfl, .inl ⟨by decide, by decide⟩, _, rfl, _, _, _, _, rfl, rfl, SqL.of hp2, rfl, _, _, rfl, rfl, .inl ⟨by omega, by omega⟩, _, _, rfl, rfl, _, _, rfl, rfl, .inl ⟨_, rfl, _, _, rfl, rfl, ?pow, .inl ⟨_, rfl, _, rfl, _, _, rfl, rfl, (by omega), ?_⟩⟩⟩
      case pow => exact cpow_of (by rw [e9]; omega) (by rw [e9]; omega)
      generalize (y + 102997 * (z + 1) * (z + 1) + 38) ^ (3 : Int).toNat = bb
      have mb : 0 ≤ bb.fmod pr ∧ bb.fmod pr < pr := ⟨Int.fmod_nonneg_of_pos _ (by omega), Int.fmod_lt_of_pos _ (by omega)⟩
      refine ⟨_, rfl, _, rfl, .inl ⟨_, rfl, _, _, rfl, rfl, (by show (_ : Int) ≠ 0; decide), _, rfl, _, _, _, _, rfl, rfl, SqL.of hp2, rfl, _, _, rfl, rfl, .inl ⟨by decide, by decide⟩, _, _, rfl, rfl, _, _, rfl, rfl, .inl ⟨by omega, by omega⟩, _, _, rfl, rfl, ⟨by decide, by decide⟩, .inl ⟨_, rfl, _, rfl, _, _, rfl, rfl, (by omega), ?_⟩⟩⟩
      exact q _ _ (Int.fmod_nonneg_of_pos _ (by omega)) (Int.fmod_lt_of_pos _ (by omega)) ⟨keep, _, _, _, hp2, ⟨hx0, hx1⟩, ⟨hy0, hy1⟩, by omega, by omega⟩
theorem ok__law_of {fd : FuncData} (F : Fun K "_law_of" "_law_of" s__law_of a._law_of fd) (T : Txt K mg a)
    {fd__law_take : FuncData} (G__law_take : Fn P w K mg base CX0 1 a._law_take fd__law_take ["_law_pot_here", "_law_upto"] spTake) (b__law_take : Binds K fd__law_take ["_law_pot_here", "_law_upto"] []) :
    Fn P w K mg base CX0 2 a._law_of fd ["_law_pot_here", "_law_some_here"] spOf := by
  refine ok F sc__law_of (fun vs H Q E h => ?len) (fun cdv A outer s H vs Q E hq hr h => ⟨_,
      (pss_one (ps_ret (pe_ix ix_list (pv 1) (pe_fn G__law_take hq (hr.mono (by omega)) (by rfl) T.g__law_take T.k__law_take b__law_take .nil pass0 (pa_cons (pv 0) (pa_cons (pe_callB call_len_seq (by rfl) T.n_len (by decide +kernel) (pa_cons (pv 1) pa_nil)) pa_nil))) (fun _ _ => rfl)))), ?body⟩)
  case len => obtain ⟨p, s, n, xs, rfl, _⟩ := h; rfl
  case body =>
    obtain ⟨p, s, n, xs, rfl, hsp, pot, hn, hs, hne, hz, q⟩ := h
    have h1 : 1 ≤ xs.length := List.length_pos_iff.mpr hne
    refine ⟨_, rfl, _, rfl, _, rfl, _, _, rfl, .inl (SqL.of hs), ?_⟩
    refine ⟨p, _, n, rfl, pot, hn, by omega, by omega, fun d H1 d0 d1 g => ?_⟩
    have hd : d.toNat < xs.length := by omega
    refine ⟨_, _, _, _, rfl, rfl, SqL.of (g.at hs hsp), at_of (j := d.toNat) (by omega) (List.getElem?_eq_getElem hd), ?_⟩
    exact q _ _ (List.getElem_mem hd) g
theorem ok__law_places {fd : FuncData} (F : Fun K "_law_places" "_law_places" s__law_places a._law_places fd) (T : Txt K mg a) :
    Fn P w K mg base CX0 1 a._law_places fd ["_law_script", "_law_most"] (spPlaces K) := by
  refine ok F sc__law_places (fun vs H Q E h => ?len) (fun cdv A outer s H vs Q E hq hr h => ⟨_,
      (pss_one (ps_ret (pe_listRg rfl (by rfl) T.n_list (prg_1 (by rfl) T.n_range (pe_callB (call_max2 rfl) (by rfl) T.n_max (by decide +kernel) (pa_cons pe_int (pa_cons (pe_callB (call_min2 rfl) (by rfl) T.n_min (by decide +kernel) (pa_cons (pv 1) (pa_cons (pe_callB call_len_seq (by rfl) T.n_len (by decide +kernel) (pa_cons (pv 0) pa_nil)) pa_nil))) pa_nil))))))), ?body⟩)
  case len => obtain ⟨s, ns, m, rfl, _⟩ := h; rfl
  case body =>
    obtain ⟨s, ns, m, rfl, hs, hl, hm0, hm1, q⟩ := h
    refine ⟨_, rfl, _, rfl, _, _, rfl, .inl hs, _, _, rfl, _, _, rfl, _, rfl, RgOk.of_le (by decide) (by rw [List.length_map]; split <;> split <;> omega) (by decide) (by split <;> split <;> omega), fun l h1 => ?_⟩
    obtain ⟨k, ek, hk⟩ : ∃ k : Nat, (if (if ((ns.map V.int).length : Int) < m then ((ns.map V.int).length : Int) else m) > 1 then (if ((ns.map V.int).length : Int) < m then ((ns.map V.int).length : Int) else m) else 1) = (k : Int) ∧ (k : Int) ≤ m := by
      refine ⟨_, (Int.toNat_of_nonneg ?_).symm, ?_⟩
      · split <;> split <;> omega
      · rw [Int.toNat_of_nonneg (by split <;> split <;> omega)]
        split <;> split <;> omega
    refine q l k _ h1 (fun b o z => by rw [upd_ne (ne_of_none z h1)]; exact z) hk (Eq.trans upd_same ?_)
    rw [← ek]
end
end My

namespace My
open PySem PySem.Spec PyProof.Rows L2 G
abbrev s__law_odd : Stmt := topS 22
theorem sc__law_odd : FnScope ["_law_pot_here", "_law_some_here"] ["_law_pot_here"] (defScope s__law_odd) := ⟨rfl, rfl, rfl, by decide +kernel, rfl, by decide +kernel, by decide +kernel⟩

theorem gd_dict1 {n k N : Nat} {x : Str} {d : PyData} (g : Gd n k d) (hx : gdB 8 0 (.str x) = true) (hN : 8 + n + 2 ≤ N) : Gd N (k + 1) (.dict [(.str x, d)]) := by
  have h := gdB_ok hx
  refine ⟨?_, ?_, ?_, ?_⟩
  · simp only [PyData.leavesShort, PyData.leavesShortKv, Bool.and_true, Bool.and_eq_true]; exact ⟨h.short, g.short⟩
  · simp only [PyData.showable, PyData.showableKv, Bool.and_true, Bool.and_eq_true]; exact ⟨trivial, g.show_⟩
  · simp only [PyData.depth, PyData.depthKv]; have := g.depth; omega
  · simp only [PyData.weight, PyData.weightKv]; have := g.weight; have := h.weight; simp only [PyData.weight] at this; omega
/-- what an odd value is: short data, a text of a few signs -/
def OddG (d : PyData) : Prop := Gd 60 4 d ∧ ∀ z, d = .str z → z.length ≤ 6
def spOdd0 : Sp := fun vs H Q _ => ∃ (p : Addr) (n : Nat), vs = [.ref p] ∧ PotAt H p n ∧ n ≤ 100000 ∧ ∀ v H', (∀ N, Tr N H → Is N H' OddG v) → Go p (n + 1) H H' → Q v H'
local macro_rules | `(tactic| walk_at "gd") => `(tactic| exact gdB_ok (by decide +kernel))
local macro_rules | `(tactic| walk_at "ev") => `(tactic| repeat (first
  | exact eva_nil
  | apply eva_cons
  | exact evg_int (gdB_ok (by decide +kernel))
  | exact evg_str (gdB_ok (by decide +kernel))
  | exact evg_bl (gdB_ok (by decide +kernel))
  | exact evg_non (gdB_ok (by decide +kernel))
  | exact evg_neg (gdB_ok (by decide +kernel))
  | exact evg_pow ⟨by decide, by decide, by decide +kernel⟩ (gdB_ok (by decide +kernel))
  | exact evg_dnew (by assumption) (gdB_ok (by decide +kernel))
  | (apply evg_tup (G' := Gd 8 3); (case h => walk_at "ev"); (case t => assumption); (case hm => decide); (case g => exact fun ds l h => gd_tup h (Nat.le_of_eq l) (by decide)))
  | (apply evg_tup (G' := Gd 3 2); (case h => walk_at "ev"); (case t => assumption); (case hm => decide); (case g => exact fun ds l h => gd_tup h (Nat.le_of_eq l) (by decide)))
  | (apply evg_lst (G' := Gd 8 3); (case h => walk_at "ev"); (case t => assumption); (case hm => decide); (case g => exact fun ds l h => gd_lst h (Nat.le_of_eq l) (by decide)))
  | exact evg_dict1 (G' := Gd 8 3) (by assumption) (fun q H1 S => evg_int (gdB_ok (by decide +kernel))) (fun d g => gd_dict1 g (by decide +kernel) (by decide))))

local macro_rules | `(tactic| walk_at "evz") => `(tactic| repeat (first
  | exact eva_nil
  | apply eva_cons
  | exact evg_int ⟨gdB_ok (by decide +kernel), fun i e => nomatch e⟩
  | exact evg_str ⟨gdB_ok (by decide +kernel), fun i e => by cases e; decide⟩
  | exact evg_bl ⟨gdB_ok (by decide +kernel), fun i e => nomatch e⟩
  | exact evg_non ⟨gdB_ok (by decide +kernel), fun i e => nomatch e⟩
  | exact evg_neg ⟨gdB_ok (by decide +kernel), fun i e => nomatch e⟩
  | exact evg_pow ⟨by decide, by decide, by decide +kernel⟩ ⟨gdB_ok (by decide +kernel), fun i e => nomatch e⟩
  | exact evg_dnew (by assumption) ⟨gdB_ok (by decide +kernel), fun i e => nomatch e⟩
  | (apply evg_tup (G' := Gd 8 3); (case h => walk_at "ev"); (case t => assumption); (case hm => decide); (case g => exact fun ds l h => ⟨gd_tup h (Nat.le_of_eq l) (by decide), fun i e => nomatch e⟩))
  | (apply evg_tup (G' := Gd 3 2); (case h => walk_at "ev"); (case t => assumption); (case hm => decide); (case g => exact fun ds l h => ⟨gd_tup h (Nat.le_of_eq l) (by decide), fun i e => nomatch e⟩))
  | (apply evg_lst (G' := Gd 8 3); (case h => walk_at "ev"); (case t => assumption); (case hm => decide); (case g => exact fun ds l h => ⟨gd_lst h (Nat.le_of_eq l) (by decide), fun i e => nomatch e⟩))
  | exact evg_dict1 (G' := Gd 8 3) (by assumption) (fun q H1 S => evg_int (gdB_ok (by decide +kernel))) (fun d g => ⟨gd_dict1 g (by decide +kernel) (by decide), fun i e => nomatch e⟩)))
section
variable {P : Program} {w : World} {K : PySem.W.Frag} {mg : Str → Option Value} {base : Heap} {a : Ad}
theorem ok__law_odd {fd : FuncData} (F : Fun K "_law_odd" "_law_odd" s__law_odd a._law_odd fd) (T : Txt K mg a)
    {fd__law_of : FuncData} (G__law_of : Fn P w K mg base CX0 2 a._law_of fd__law_of ["_law_pot_here", "_law_some_here"] spOf) (b__law_of : Binds K fd__law_of ["_law_pot_here", "_law_some_here"] []) :
    Fn P w K mg base CX0 3 a._law_odd fd ["_law_pot_here"] spOdd0 := by
  refine ok F sc__law_odd (fun vs H Q E h => ?len) (fun cdv A outer s H vs Q E hq hr h => ⟨_,
      (pss_cons (ps_set (i := 1) sc__law_odd.nd rfl (Or.inl rfl) (pe_lstS (pa_cons pe_non (pa_cons pe_bl (pa_cons pe_bl (pa_cons pe_int (pa_cons pe_int (pa_cons (pe_un un_neg pe_int) (pa_cons pe_int (pa_cons pe_int (pa_cons pe_str (pa_cons pe_str (pa_cons pe_str (pa_cons pe_str (pa_cons (pe_tup pa_nil) (pa_cons (pe_lstS pa_nil) (pa_cons pe_dnewK (pa_cons (pe_tup (pa_cons pe_int pa_nil)) (pa_cons (pe_tup (pa_cons (pe_tup pa_nil) pa_nil)) (pa_cons (pe_lstS (pa_cons pe_int pa_nil)) (pa_cons (pe_tup (pa_cons pe_str (pa_cons pe_int pa_nil))) (pa_cons (pe_disp (pps_cons pe_str pe_int pps_nil) (by rfl) (by rfl) (fun z => by cases z) (by decide)) pa_nil))))))))))))))))))))))
      (pss_one (ps_ret (pe_fn G__law_of hq (hr.mono (by omega)) (by rfl) T.g__law_of T.k__law_of b__law_of .nil pass0 (pa_cons (pv 0) (pa_cons (pe_op op_cat (pv 1) (pe_lstS (pa_cons (pe_tup (pa_cons (pe_tup (pa_cons pe_str pa_nil)) pa_nil)) (pa_cons (pe_tup (pa_cons pe_str (pa_cons pe_str pa_nil))) (pa_cons (pe_tup (pa_cons pe_int (pa_cons pe_int pa_nil))) (pa_cons (pe_tup (pa_cons (pe_tup (pa_cons pe_int (pa_cons pe_int pa_nil))) pa_nil)) (pa_cons (pe_tup (pa_cons pe_non pa_nil)) (pa_cons (pe_op op_powW pe_int pe_int) (pa_cons pe_str (pa_cons (pe_tup (pa_cons pe_bl pa_nil)) (pa_cons (pe_tup (pa_cons pe_int (pa_cons (pe_un un_neg pe_int) (pa_cons pe_int pa_nil)))) pa_nil))))))))))) pa_nil)))))), ?body⟩)
  case len => obtain ⟨p, n, rfl, _⟩ := h; rfl
  case body =>
    obtain ⟨p, n, rfl, pot, hn, q⟩ := h
    have t : Tr (fun b => H b ≠ none) H := fun _ h => h
    refine s_set (eva_list (G := OddG) (m := 20) t ?ev1 (by decide) fun l xs H1 S1 nl hl sl ll hx => ?_)
    case ev1 => walk_at "evz"
    have t1 : Tr (fun b => H b ≠ none) H1 := t.same S1
    refine ⟨_, rfl, _, rfl, ?_⟩
    refine eva_list (G := OddG) (m := 9) t1 ?ev2 (by decide) fun l2 ys H2 S2 nl2 hl2 sl2 ll2 hy => ?_
    case ev2 => walk_at "evz"
    refine ⟨_, _, _, _, rfl, rfl, S2 _ _ hl, hl2, by rw [ll, ll2]; decide, fun l3 n3 => ?_⟩
    have pot3 : PotAt (upd H2 l3 (.lst (xs ++ ys))) p n := ((pot.same S1).same S2).same (same_new n3)
    have n3p : l3 ≠ p := fun e => by
      rw [e] at n3
      exact ((pot.same S1).same S2).has n3
    refine ⟨p, l3, n, xs ++ ys, rfl, n3p, pot3, hn, upd_same, (by intro e; have z := congrArg List.length e; rw [List.length_append, ll, ll2] at z; exact absurd z (by decide)), by rw [List.length_append, ll, ll2]; decide, fun x H4 hm g => ?_⟩
    refine q x H4 (fun N tN => ?_) (Go.of ((S1.trans S2).trans (same_new n3)) g)
    have hx3 : Is (fun b => H b ≠ none) (upd H2 l3 (.lst (xs ++ ys))) OddG x := by
      rcases List.mem_append.mp hm with z | z
      · exact ((hx x z).same S2).same (same_new n3)
      · exact (hy x z).same (same_new n3)
    exact (g.is pot.has hx3).less tN
end
end My

namespace My
open PySem PySem.Spec PyProof.Rows L2 G SX NumText
abbrev s_is_name : Stmt := topS 5
theorem sc_is_name : FnScope ["word", "letter"] ["word"] (defScope s_is_name) := ⟨rfl, rfl, rfl, by decide +kernel, rfl, by decide +kernel, by decide +kernel⟩

abbrev s__are_two : Stmt := topS 8
theorem sc__are_two : FnScope ["one", "other"] ["one", "other"] (defScope s__are_two) := ⟨rfl, rfl, rfl, by decide +kernel, rfl, by decide +kernel, by decide +kernel⟩

abbrev s__law_is_name : Stmt := topS 21
theorem sc__law_is_name : FnScope ["_law_value", "_law_sign"] ["_law_value"] (defScope s__law_is_name) := ⟨rfl, rfl, rfl, by decide +kernel, rfl, by decide +kernel, by decide +kernel⟩

def spNm : Sp := fun vs H Q _ => ∃ w, vs = [sg w] ∧ w.length ≤ 100000 ∧ ∀ H', Same H H' → Q (.bl (nm w)) H'
def spTwo : Sp := fun vs H Q _ => ∃ d e, vs = [sg d, sg e] ∧ d.length ≤ 100000 ∧ e.length ≤ 100000 ∧ ∀ H', Same H H' → Q (.bl (two d e)) H'
section
variable {P : Program} {w : World} {K : PySem.W.Frag} {mg : Str → Option Value} {base : Heap} {a : Ad}
theorem ok_is_name {fd : FuncData} (F : Fun K "is_name" "is_name" s_is_name a.is_name fd) (T : Txt K mg a) :
    FnOk P w K mg base CX0 1 a.is_name fd ["word"] spNm := by
  refine F.ok sc_is_name (fun vs H Q E h => ?len) (fun cdv A outer s H vs Q E hr h => ⟨_,
      (pss_one (ps_ret (pe_and (pe_chain op_le op_le pe_int (pe_callB call_len_str (by rfl) T.n_len (by decide +kernel) (pa_cons (pv 0) pa_nil)) pe_int) (pe_one (pe_callB (cr_all rfl) (by rfl) T.n_all (by decide +kernel) (pa_cons (pe_lc (own := [("letter", 1)]) (g := gName 1) (tt := tYes) rfl sc_is_name.nd (pi_str (pv 0)) (blkOk_by (own := [("letter", 1)]) (N := ["word", "letter"]) (sc := defScope s_is_name) (by decide +kernel)) (fun _ _ _ _ _ => (pg_name (i := 1) sc_is_name.nd rfl (Or.inl rfl))) (fun _ _ _ _ _ => pts_nil) (fun _ _ _ _ _ => (pe_cmpR op_in_sign (pv 1) (pe_glob (v := .str "abcdefghijklmnopqrstuvwxyz") (by rfl) T.g_LET.choose_spec ⟨_, rfl⟩) (by with_unfolding_all rfl)))) pa_nil)))))), ?body⟩)
  case len => obtain ⟨v, rfl, _⟩ := h; rfl
  case body =>
    obtain ⟨v, rfl, hl, q⟩ := h
    have hz := sizeLine_eq
    refine ⟨_, rfl, _, rfl, by rw [S_len]; omega, _, _, rfl, rfl, _, rfl, ite2 (fun c1 => ?_) (fun c1 => ?_)⟩
    · refine ⟨_, _, rfl, rfl, _, rfl, ite2 (fun c2 => ?_) (fun c2 => ?_)⟩
      · rw [S_len] at c1 c2
        refine ⟨_, rfl, S v, rfl, fun D hD => ?_⟩
        refine lc_it walk_str (fun i H' => Same H H' ∧ H' D = some (.lst (((v.take i).map lcase).map V.bl))) ⟨same_new hD, upd_same⟩ (fun _ _ _ _ => trivial) ?_ ?_
        · rintro i x H' H'' hi ⟨S', d'⟩ ⟨rfl, c, hc, rfl⟩
          refine ⟨rfl, ?_⟩
          have hc : v[i]? = some c := by simpa [S] using hc
          have hi : i < v.length := (List.getElem?_eq_some_iff.mp hc).1
          refine ⟨_, rfl, c, _, rfl, rfl, ?_⟩
          rw [mem_letters]
          refine ⟨_, d', by rw [List.length_map, List.length_map, List.length_take]; omega, fun b o e => ?_, ?_⟩
          · rw [upd_ne (ne_of_none e hD)]
            exact S' _ _ e
          · rw [upd_same, List.take_add_one, hc, List.map_append, List.map_append]
            rfl
        · rintro H' ⟨S', d'⟩
          have ev : (v.take (S v).cps.size) = v := List.take_of_length_le (Nat.le_of_eq (S_len v).symm)
          rw [ev] at d'
          refine ⟨D, _, rfl, SqL.of d', ?_⟩
          have e : nm v = v.all lcase := by
            unfold nm
            have h1 : 1 ≤ v.length := by have := of_decide_eq_true c1; omega
            have h2 : v.length ≤ 8 := by have := of_decide_eq_true c2; omega
            rw [decide_eq_true h1, decide_eq_true h2]
            rfl
          have q := q _ S'
          rw [e] at q
          rw [show (List.map lcase v).all id = v.all lcase by rw [List.all_map]; rfl]
          exact q
      · rw [S_len] at c2
        have e : nm v = false := by
          unfold nm
          rw [decide_eq_false (show ¬ v.length ≤ 8 from fun z => c2 (decide_eq_true (by omega)))]
          simp
        rw [e] at q
        exact q _ (Same.refl _)
    · rw [S_len] at c1
      have e : nm v = false := by
        unfold nm
        rw [decide_eq_false (show ¬ 1 ≤ v.length from fun z => c1 (decide_eq_true (by omega)))]
        simp
      rw [e] at q
      exact ⟨_, rfl, iteF (q _ (Same.refl _))⟩
theorem ok__are_two {fd : FuncData} (F : Fun K "_are_two" "_are_two" s__are_two a._are_two fd) (T : Txt K mg a)
    {fd_is_name : FuncData} (G_is_name : FnOk P w K mg base CX0 1 a.is_name fd_is_name ["word"] spNm) (b_is_name : Binds K fd_is_name ["word"] []) :
    FnOk P w K mg base CX0 2 a._are_two fd ["one", "other"] spTwo := by
  refine F.ok sc__are_two (fun vs H Q E h => ?len) (fun cdv A outer s H vs Q E hr h => ⟨_,
      (pss_one (ps_ret (pe_and (pe_call G_is_name (hr.mono (by omega)) (by rfl) T.g_is_name T.k_is_name b_is_name .nil pass0 (pa_cons (pv 0) pa_nil)) (pe_and (pe_call G_is_name (hr.mono (by omega)) (by rfl) T.g_is_name T.k_is_name b_is_name .nil pass0 (pa_cons (pv 1) pa_nil)) (pe_one (pe_cmpR op_ne (pv 0) (pv 1) (nomark _))))))), ?body⟩)
  case len => obtain ⟨d, e, rfl, _⟩ := h; rfl
  case body =>
    obtain ⟨d, e, rfl, h1, h2, q⟩ := h
    refine ⟨_, rfl, d, rfl, h1, fun H1 S1 => ⟨_, rfl, ite2 (fun c => ?_) (fun c => ?_)⟩⟩
    · refine ⟨_, rfl, e, rfl, h2, fun H2 S2 => ⟨_, rfl, ite2 (fun c2 => ?_) (fun c2 => ?_)⟩⟩
      · refine ⟨_, rfl, _, rfl, rfl, ?_⟩
        have q := q _ (S1.trans S2)
        unfold two at q
        rw [c, c2] at q
        rw [Bool.and_self, Bool.true_and] at q
        show Q (V.bl !decide (sg d = sg e)) H2
        rw [show decide (sg d = sg e) = decide (d = e) from decide_eq_decide.mpr ⟨sg_inj, fun z => by rw [z]⟩]
        exact q
      · have q := q _ (S1.trans S2)
        unfold two at q
        rw [Bool.eq_false_iff.mpr c2, Bool.and_false, Bool.false_and] at q
        exact q
    · have q := q _ S1
      unfold two at q
      rw [Bool.eq_false_iff.mpr c, Bool.false_and, Bool.false_and] at q
      exact q
theorem ok__law_is_name {fd : FuncData} (F : Fun K "_law_is_name" "_law_is_name" s__law_is_name a._law_is_name fd) (T : Txt K mg a) :
    Fn P w K mg base CX0 1 a._law_is_name fd ["_law_value"] spNm := by
  refine ok F sc__law_is_name (fun vs H Q E h => ?len) (fun cdv A outer s H vs Q E hq hr h => ⟨_,
      (pss_cons (ps_if (PW.pt (pw_or (pt_not (pt_val (pe_callB call_isi (by rfl) T.n_isinstance (by decide +kernel) (pa_cons (pv 0) (pa_cons (pe_bltn (v := .ty "str") (u := .type "str") (by rfl) T.n_str (by decide +kernel) rfl) pa_nil))))) (pw_or1 (pt_not (pt_chain op_lt op_lt pe_int (pe_callB call_len_str (by rfl) T.n_len (by decide +kernel) (pa_cons (pv 0) pa_nil)) pe_int))))) (pss_one (ps_ret pe_bl)) pss_nil)
      (pss_one (ps_ret (pe_callB (cr_all rfl) (by rfl) T.n_all (by decide +kernel) (pa_cons (pe_lc (own := [("_law_sign", 1)]) (g := gName 1) (tt := tYes) rfl sc__law_is_name.nd (pi_str (pv 0)) (blkOk_by (own := [("_law_sign", 1)]) (N := ["_law_value", "_law_sign"]) (sc := defScope s__law_is_name) (by decide +kernel)) (fun _ _ _ _ _ => (pg_name (i := 1) sc__law_is_name.nd rfl (Or.inl rfl))) (fun _ _ _ _ _ => pts_nil) (fun _ _ _ _ _ => (pe_cmpR op_in_sign (pv 1) pe_str (by with_unfolding_all rfl)))) pa_nil))))), ?body⟩)
  case len => obtain ⟨v, rfl, _⟩ := h; rfl
  case body =>
    obtain ⟨v, rfl, hl, q⟩ := h
    have hz := sizeLine_eq
    refine ⟨_, rfl, _, _, _, _, true, rfl, .ty _, .base (.str _), kit_ty (by decide +kernel), true, rfl, iteF ?_⟩
    refine ⟨_, rfl, _, rfl, by rw [S_len]; omega, _, _, rfl, rfl, _, rfl, ite2 (fun c1 => ?_) (fun c1 => ?_)⟩
    · rw [S_len] at c1
      refine ⟨_, _, rfl, rfl, _, rfl, ?_⟩
      rw [S_len]
      by_cases c2 : v.length < 9
      · rw [decide_eq_true (show ((v.length : Nat) : Int) < 9 by omega)]
        refine iteF ?_
        refine ⟨_, rfl, S v, rfl, fun D hD => ?_⟩
        refine lc_it walk_str (fun i H' => Same H H' ∧ H' D = some (.lst (((v.take i).map lcase).map V.bl))) ⟨same_new hD, upd_same⟩ (fun _ _ _ _ => trivial) ?_ ?_
        · rintro i x H' H'' hi ⟨S', d'⟩ ⟨rfl, c, hc, rfl⟩
          refine ⟨rfl, ?_⟩
          have hc : v[i]? = some c := by simpa [S] using hc
          have hi : i < v.length := (List.getElem?_eq_some_iff.mp hc).1
          refine ⟨_, rfl, c, _, rfl, rfl, ?_⟩
          rw [mem_letters]
          refine ⟨_, d', by rw [List.length_map, List.length_map, List.length_take]; omega, fun b o e => ?_, ?_⟩
          · rw [upd_ne (ne_of_none e hD)]
            exact S' _ _ e
          · rw [upd_same, List.take_add_one, hc, List.map_append, List.map_append]
            rfl
        · rintro H' ⟨S', d'⟩
          have ev : (v.take (S v).cps.size) = v := List.take_of_length_le (Nat.le_of_eq (S_len v).symm)
          rw [ev] at d'
          refine ⟨D, _, rfl, SqL.of d', ?_⟩
          have e : nm v = v.all lcase := by
            unfold nm
            have h1 : 1 ≤ v.length := by have := of_decide_eq_true c1; omega
            have h2 : v.length ≤ 8 := by omega
            rw [decide_eq_true h1, decide_eq_true h2]
            rfl
          have q := q _ S'
          rw [e] at q
          rw [show (List.map lcase v).all id = v.all lcase by rw [List.all_map]; rfl]
          exact q
      · rw [decide_eq_false (show ¬ ((v.length : Nat) : Int) < 9 by omega)]
        have e : nm v = false := by
          unfold nm
          rw [decide_eq_false (show ¬ v.length ≤ 8 by omega)]
          simp
        rw [e] at q
        exact iteT (q _ (Same.refl _))
    · rw [S_len] at c1
      have e : nm v = false := by
        unfold nm
        rw [decide_eq_false (show ¬ 1 ≤ v.length from fun z => c1 (decide_eq_true (by omega)))]
        simp
      rw [e] at q
      exact ⟨_, rfl, iteT (q _ (Same.refl _))⟩
end
end My

namespace My
open PySem PySem.Spec PyProof.Rows L2 G SX NumText
abbrev s_read_step : Stmt := topS 9
theorem sc_read_step : FnScope ["line", "words"] ["line"] (defScope s_read_step) := ⟨rfl, rfl, rfl, by decide +kernel, rfl, by decide +kernel, by decide +kernel⟩

abbrev s__read_many : Stmt := topS 10
theorem sc__read_many : FnScope ["word", "most"] ["word", "most"] (defScope s__read_many) := ⟨rfl, rfl, rfl, by decide +kernel, rfl, by decide +kernel, by decide +kernel⟩

abbrev s__read_skip : Stmt := topS 11
theorem sc__read_skip : FnScope ["line", "most", "words", "many"] ["line", "most"] (defScope s__read_skip) := ⟨rfl, rfl, rfl, by decide +kernel, rfl, by decide +kernel, by decide +kernel⟩

abbrev s__read_steps : Stmt := topS 12
theorem sc__read_steps : FnScope ["text", "lines", "steps", "number", "line", "step"] ["text"] (defScope s__read_steps) := ⟨rfl, rfl, rfl, by decide +kernel, rfl, by decide +kernel, by decide +kernel⟩

theorem five {α : Type} {ws : List α} (h : ws.length = 5) : ∃ a b c d e, ws = [a, b, c, d, e] := by
  match ws, h with
  | [a, b, c, d, e], _ => exact ⟨a, b, c, d, e, rfl⟩
theorem inV2 (a x y : List Nat) : inV (sg a) [sg x, sg y] = (decide (a = x) || decide (a = y)) := by
  show (eqV (sg x) (sg a) || (eqV (sg y) (sg a) || false)) = _
  rw [eqV_sg, eqV_sg, Bool.or_false]
  congr 1
  · exact decide_eq_decide.mpr eq_comm
  · exact decide_eq_decide.mpr eq_comm
theorem starts_one (c : Nat) (l : List Nat) : Txt.startswith (S l) (S [c]) = decide (l.head? = some c) := by
  unfold Txt.startswith
  rw [PySem.StrLaws.subAt_eq, S_len, S_len]
  cases l with
  | nil => rfl
  | cons d r =>
    show (decide (0 + 1 ≤ (d :: r).length) && ((d :: r).drop 0).take 1 == [c]) = _
    rw [List.drop_zero, decide_eq_true (by simp), Bool.true_and]
    show ([d] == [c]) = decide (some d = some c)
    by_cases h : d = c
    · rw [h]; simp
    · have h1 : ([d] == [c]) = false := by simpa using h
      have h2 : decide (some d = some c) = false := by simpa using h
      rw [h1, h2]
theorem iteN {b : Bool} {A B : Prop} (h1 : b = false → A) (h2 : b = true → B) : if (!b) = true then A else B := by
  cases b
  · exact iteT (h1 rfl)
  · exact iteF (h2 rfl)
/-- a new tuple of these, or None -/
def Got (o : Option (List V)) (H : Hp) (Q : VK) : Prop := (∀ x, o = some x → ∀ t H', Same H H' → H t = none → H' t = some (.tup x) → Q (.ref t) H') ∧ (o = none → ∀ H', Same H H' → Q .non H')
theorem Got.same {o : Option (List V)} {H H1 : Hp} {Q : VK} (S : Same H H1) (g : Got o H Q) : Got o H1 Q :=
  ⟨fun x e t H' S' n h => g.1 x e t H' (S.trans S') (Same.free S n) h, fun e H' S' => g.2 e H' (S.trans S')⟩
def spRd : Sp := fun vs H Q _ => ∃ l, vs = [sg l] ∧ l.length ≤ 20000 ∧ Got (stT (spW l)) H Q
def spMany : Sp := fun vs H Q _ => ∃ (w : List Nat) (m : Nat), vs = [sg w, .int (m : Nat)] ∧ w.length ≤ 20000 ∧ m ≤ 1000 ∧ (skN w m = true → Q (.int (digitsVal w : Nat)) H) ∧ (skN w m = false → Q .non H)
def spSk : Sp := fun vs H Q _ => ∃ (l : List Nat) (m : Nat), vs = [sg l, .int (m : Nat)] ∧ l.length ≤ 20000 ∧ m ≤ 1000 ∧ Got (stS m (spW l)) H Q
/-- an error of this class that tells v -/
def Told (H : Hp) (v : V) (B : Addr) (E : XK) : Prop := ∀ d H', Same H H' → H' d = some (.xd [("value", v)]) → E (.ref B) (some d) H'
theorem Told.same {H H' : Hp} {v : V} {B : Addr} {E : XK} (S : Same H H') (h : Told H v B E) : Told H' v B E := fun d H1 S1 e => h d H1 (S.trans S1) e
theorem raise_told {H1 : Hp} {C : Addr} {K : PySem.W.Frag} {w : V} {Q : XK} (T : EC K C) (q : ∀ d H', Same H1 H' → H' d = some (.xd [("value", w)]) → Q (.ref C) (some d) H') : ([w] : List V).length ≤ 1000 ∧ ∀ a, H1 a = none → spErrInit K (.ref a :: ([w] ++ [])) (upd H1 a (exo a C none))
    (fun v H2 => v = .non ∧ ∃ (d : Addr) (fs : List (Str × V)), H2 a = some (exo a C (some d)) ∧ H2 d = some (exd d fs) ∧ H1 d = none ∧ Q (.ref C) (some d) (upd (del H2 a) d (.xd fs))) (fun _ _ _ => False) := by
  refine ⟨(by show 1 ≤ 1000; decide), fun e he => ⟨e, C, w, rfl, T.ox, T.nv, upd_same, fun d hd hne => ⟨rfl, d, [("value", w)], upd_same, ?_, ?_, ?_⟩⟩⟩
  · rw [upd_ne hne]; exact upd_same
  · rw [upd_ne hne] at hd
    exact hd
  · refine q d _ (fun b o z => ?_) upd_same
    have nd : b ≠ d := by
      rw [upd_ne hne] at hd
      exact ne_of_none z hd
    have ne : b ≠ e := ne_of_none z he
    rw [upd_ne nd, del_ne ne, upd_ne ne, upd_ne nd, upd_ne ne]
    exact z
/-- tuples of these, one by one -/
def Tups (H : Hp) (ts : List Addr) (ys : List (List V)) : Prop := Paired (fun t y => H t = some (.tup y)) ts ys
theorem Tups.same {H H' : Hp} {ts : List Addr} {ys : List (List V)} (S : Same H H') (h : Tups H ts ys) : Tups H' ts ys := Paired.mapP h fun _ _ e => S _ _ e
theorem Tups.list {H : Hp} {ts : List Addr} {ys : List (List V)} {l : Addr} {xs zs : List V} (h : H l = some (.lst xs)) (u : Tups H ts ys) : Tups (upd H l (.lst zs)) ts ys := Paired.mapP u fun t y e => by
  rw [upd_ne (fun z => by rw [z, h] at e; cases e)]
  exact e
/-- a step, or None -/
def Stp : Option (List V) → V → Hp → Prop
  | some y, x, H => ∃ t, x = .ref t ∧ H t = some (.tup y)
  | none, x, _ => x = .non
/-- what comes of the reading of rows: the steps, or the number of the first wrong row -/
def RdQ (r : Sum Nat (List (List V))) (B : Addr) (H : Hp) (Q : VK) (E : XK) : Prop :=
  (∀ ys, r = .inr ys → ∀ t ts H', Same H H' → H' t = some (.tup (ts.map V.ref)) → Tups H' ts ys → Q (.ref t) H') ∧ (∀ n, r = .inl n → Told H (.int (n : Nat)) B E)
def spRs (K : PySem.W.Frag) (B : Addr) : Sp := fun vs H Q E => ∃ v, vs = [v] ∧
  ((∃ l, v = sg l ∧ l.length ≤ 20000 ∧ (spR l).length ≤ 1000 ∧ RdQ (rd (spR l) 0) B H Q E) ∨ (∃ t, TyX K H v (.type t) ∧ PySem.W.kitOne K (.type t) (.type "str") = some false ∧ Told H (.int 0) B E))
theorem passF {X : Cx} : Passes (L2.CX X.prog X.w) X E0 := fun _ _ _ _ _ _ _ h => by
  obtain ⟨_, _, _, _, _, _, _, _, _, _, _, _, z⟩ := h
  exact z.elim
section
variable {P : Program} {w : World} {K : PySem.W.Frag} {mg : Str → Option Value} {base : Heap} {a : Ad}
theorem ok_read_step {fd : FuncData} (F : Fun K "read_step" "read_step" s_read_step a.read_step fd) (T : Txt K mg a)
    {fd__are_two : FuncData} (G__are_two : FnOk P w K mg base CX0 2 a._are_two fd__are_two ["one", "other"] spTwo) (b__are_two : Binds K fd__are_two ["one", "other"] [])
    {fd_is_name : FuncData} (G_is_name : FnOk P w K mg base CX0 1 a.is_name fd_is_name ["word"] spNm) (b_is_name : Binds K fd_is_name ["word"] []) :
    FnOk P w K mg base CX0 3 a.read_step fd ["line"] spRd := by
  refine F.ok sc_read_step (fun vs H Q E h => ?len) (fun cdv A outer s H vs Q E hr h => ⟨_,
      (pss_cons (ps_set (i := 1) sc_read_step.nd rfl (Or.inl rfl) (pe_ifExp (pt_val (pe_callB call_isi (by rfl) T.n_isinstance (by decide +kernel) (pa_cons (pv 0) (pa_cons (pe_bltn (v := .ty "str") (u := .type "str") (by rfl) T.n_str (by decide +kernel) rfl) pa_nil)))) (pe_m1 PySem.F.slot_str_split PySem.F.type_str_split mt_split (pv 0) pe_str) (pe_lstS pa_nil)))
      (pss_cons (ps_if (PW.pt (pw_or (pt_cmpR op_ne (pe_callB call_len_seq (by rfl) T.n_len (by decide +kernel) (pa_cons (pv 1) pa_nil)) pe_int (nomark _)) (pw_or (pt_cmpR op_notIn_seq (pe_ix ix_list (pv 1) pe_int (fun _ _ => rfl)) (pe_tup (pa_cons pe_str (pa_cons pe_str pa_nil))) (by with_unfolding_all rfl)) (pw_or1 (pt_cmpR op_notIn_seq (pe_ix ix_list (pv 1) pe_int (fun _ _ => rfl)) (pe_tup (pa_cons pe_str (pa_cons pe_str pa_nil))) (by with_unfolding_all rfl)))))) (pss_one (ps_ret pe_non)) pss_nil)
      (pss_one (ps_ret (pe_ifExp (PW.pt (pw_and (pt_val (pe_call G_is_name (hr.mono (by omega)) (by rfl) T.g_is_name T.k_is_name b_is_name .nil pass0 (pa_cons (pe_ix ix_list (pv 1) pe_int (fun _ _ => rfl)) pa_nil))) (pw_and1 (pt_val (pe_call G__are_two (hr.mono (by omega)) (by rfl) T.g__are_two T.k__are_two b__are_two .nil pass0 (pa_cons (pe_ix ix_list (pv 1) pe_int (fun _ _ => rfl)) (pa_cons (pe_ix ix_list (pv 1) pe_int (fun _ _ => rfl)) pa_nil))))))) (pe_callTy call_tuple_of (by rfl) T.n_tuple (by decide +kernel) (pa_cons (pv 1) pa_nil)) pe_non))))), ?body⟩)
  case len => obtain ⟨v, rfl, _⟩ := h; rfl
  case body =>
    obtain ⟨l, rfl, hl, q⟩ := h
    have hz := sizeLine_eq
    refine ⟨_, rfl, .str (S l), _, _, _, true, rfl, .ty _, .base (.str _), kit_ty (by decide +kernel), true, rfl, iteT ?_⟩
    refine ⟨_, rfl, ⟨_, rfl⟩, S l, S [32], rfl, rfl, rfl, by rw [S_len, sizeLine_eq]; omega, fun lw nlw => ?_⟩
    obtain ⟨n1, n2⟩ := spl_len 32 l.length l (Nat.le_refl _)
    have e0 : upd H lw (.lst ((Txt.split (S l) (S [32])).map V.str)) lw = some (.lst ((spW l).map sg)) := upd_same.trans (by rw [split_S (by simp) (by decide), List.map_map]; rfl)
    replace q := q.same (same_new (o := .lst ((Txt.split (S l) (S [32])).map V.str)) nlw)
    generalize upd H lw (.lst ((Txt.split (S l) (S [32])).map V.str)) = H1 at e0 q ⊢
    obtain ⟨ws, hws⟩ : ∃ ws, ws = spW l := ⟨_, rfl⟩
    have q : Got (stT ws) H1 Q := by rw [hws]; exact q
    have e0 : H1 lw = some (.lst (ws.map sg)) := by rw [hws]; exact e0
    have n2 : ∀ w ∈ ws, w.length ≤ 20000 := fun w hw => by rw [hws] at hw; exact Nat.le_trans (n2 w hw) hl
    clear hws n1 nlw
    have no : ∀ {H'}, okT ws = false → Same H1 H' → Q .non H' := fun h S => q.2 (by unfold stT; rw [h]; rfl) _ S
    refine ⟨_, rfl, _, _, rfl, .inl (SqL.of e0), rfl, _, rfl, ?_⟩
    by_cases c5 : ¬ ws.length = 5
    · rw [decide_eq_false (by rw [List.length_map]; intro z; exact c5 (by have := V.int.inj z; omega))]
      refine iteT (iteT (no ?_ (Same.refl _)))
      unfold okT
      match ws, c5 with
      | [], _ => rfl
      | [_], _ => rfl
      | [_, _], _ => rfl
      | [_, _, _], _ => rfl
      | [_, _, _, _], _ => rfl
      | [_, _, _, _, _], c5 => exact absurd rfl c5
      | _ :: _ :: _ :: _ :: _ :: _ :: _, _ => rfl
    obtain ⟨a1, b1, c1, d1, e1, rfl⟩ := five (Decidable.not_not.mp c5)
    clear c5
    refine iteNS rfl ?_
    refine ⟨_, rfl, _, _, _, _, rfl, rfl, SqL.of e0, rfl, (by show 2 ≤ sizeLine; decide), fun t1 f1 => ?_⟩
    refine ⟨_, _, rfl, .inr (SqT.of upd_same), rfl, rfl, _, rfl, ?_⟩
    rw [show inV (sg a1) [V.str "towards", V.str "from"] = (decide (a1 = wTow) || decide (a1 = wFrom)) from inV2 a1 wTow wFrom]
    have S1 := same_new (o := .tup [V.str "towards", V.str "from"]) f1
    refine iteN (fun b => iteT (no ?_ S1)) (fun b => ?_)
    · show ((decide (a1 = wTow) || decide (a1 = wFrom)) && (decide (c1 = wUnt) || decide (c1 = wBet)) && nm b1 && two d1 e1) = false
      rw [b]
      rfl
    refine ⟨_, rfl, _, _, _, _, rfl, rfl, SqL.of (S1 _ _ e0), rfl, (by show 2 ≤ sizeLine; decide), fun t2 f2 => ?_⟩
    refine ⟨_, _, rfl, .inr (SqT.of upd_same), rfl, rfl, _, rfl, ?_⟩
    rw [show inV (sg c1) [V.str "until", V.str "between"] = (decide (c1 = wUnt) || decide (c1 = wBet)) from inV2 c1 wUnt wBet]
    have S2 := S1.trans (same_new (o := .tup [V.str "until", V.str "between"]) f2)
    generalize upd (upd H1 t1 (.tup [V.str "towards", V.str "from"])) t2 (.tup [V.str "until", V.str "between"]) = H2 at S2 ⊢
    refine iteN (fun b2 => no ?_ S2) (fun b2 => ?_)
    · show ((decide (a1 = wTow) || decide (a1 = wFrom)) && (decide (c1 = wUnt) || decide (c1 = wBet)) && nm b1 && two d1 e1) = false
      rw [b, b2]
      rfl
    have ok : okT [a1, b1, c1, d1, e1] = (nm b1 && two d1 e1) := by
      show ((decide (a1 = wTow) || decide (a1 = wFrom)) && (decide (c1 = wUnt) || decide (c1 = wBet)) && nm b1 && two d1 e1) = _
      rw [b, b2]
      rfl
    refine ⟨_, rfl, _, _, _, _, rfl, rfl, SqL.of (S2 _ _ e0), rfl, b1, rfl, by have := n2 b1 (by simp); omega, fun H3 S3 => ⟨_, rfl, ite2 (fun b3 => ?_) (fun b3 => ?_)⟩⟩
    · have S3 := S2.trans S3
      refine ⟨_, rfl, _, _, _, _, rfl, rfl, SqL.of (S3 _ _ e0), rfl, _, rfl, _, _, _, _, rfl, rfl, SqL.of (S3 _ _ e0), rfl, d1, e1, rfl, by have := n2 d1 (by simp); omega, by have := n2 e1 (by simp); omega, fun H4 S4 => ⟨_, rfl, ite2 (fun b4 => ?_) (fun b4 => ?_)⟩⟩
      · have S4 := S3.trans S4
        refine ⟨_, rfl, _, _, rfl, .inl ⟨SqL.of (S4 _ _ e0), fun t n => ?_⟩⟩
        refine q.1 _ ?_ t _ (S4.trans (same_new n)) (Same.free S4 n) upd_same
        unfold stT
        rw [ok, b3, b4]
        rfl
      · refine no ?_ (S3.trans S4)
        rw [ok, Bool.eq_false_iff.mpr b4, Bool.and_false]
    · refine no ?_ (S2.trans S3)
      rw [ok, Bool.eq_false_iff.mpr b3, Bool.false_and]
theorem ok__read_many {fd : FuncData} (F : Fun K "_read_many" "_read_many" s__read_many a._read_many fd) (T : Txt K mg a) :
    FnOk P w K mg base CX0 1 a._read_many fd ["word", "most"] spMany := by
  refine F.ok sc__read_many (fun vs H Q E h => ?len) (fun cdv A outer s H vs Q E hr h => ⟨_,
      (pss_cons (ps_if (PW.pt (pw_or (pt_cmpR op_gt (pe_callB call_len_str (by rfl) T.n_len (by decide +kernel) (pa_cons (pv 0) pa_nil)) (pe_callB call_len_str (by rfl) T.n_len (by decide +kernel) (pa_cons (pe_callTy call_str_int (by rfl) T.n_str (by decide +kernel) (pa_cons (pv 1) pa_nil)) pa_nil)) (nomark _)) (pw_or (pt_not (pt_val (pe_m0 PySem.F.slot_str_isascii PySem.F.type_str_isascii mt_isascii (pv 0)))) (pw_or (pt_not (pt_val (pe_m0 PySem.F.slot_str_isdigit PySem.F.type_str_isdigit mt_isdigit (pv 0)))) (pw_or1 (pt_val (pe_m1 PySem.F.slot_str_startswith PySem.F.type_str_startswith mt_startswith (pv 0) pe_str))))))) (pss_one (ps_ret pe_non)) pss_nil)
      (pss_one (ps_ret (pe_ifExp (pt_cmpR op_le (pe_callTy call_int_str (by rfl) T.n_int (by decide +kernel) (pa_cons (pv 0) pa_nil)) (pv 1) (nomark _)) (pe_callTy call_int_str (by rfl) T.n_int (by decide +kernel) (pa_cons (pv 0) pa_nil)) pe_non)))), ?body⟩)
  case len => obtain ⟨w, m, rfl, _⟩ := h; rfl
  case body =>
    obtain ⟨u, m, rfl, hw, hm, q1, q2⟩ := h
    have hz := sizeLine_eq
    have em : Str.ofString (toString (m : Int)) = S (TL.numL m) := num_S m
    have lm : (TL.numL m).length ≤ 10 := TL.numL_len (by decide) (Nat.lt_of_le_of_lt hm (by decide))
    refine ⟨_, rfl, _, rfl, by rw [S_len]; omega, _, rfl, _, rfl, by show (m : Int).natAbs.log2 < 1920; exact Nat.lt_of_le_of_lt (Nat.log2_le_self _) (by omega), _, rfl, by rw [em, S_len]; omega, _, _, rfl, rfl, _, rfl, ?_⟩
    rw [em, S_len, S_len]
    refine ite2 (fun c => iteT (q2 ?_)) (fun c => ?_)
    · refine Bool.eq_false_iff.mpr fun z => ?_
      have := skN_len z
      have := of_decide_eq_true c
      omega
    have lu : u.length ≤ 10 := by
      have : ¬ ((TL.numL m).length : Int) < (u.length : Int) := fun z => c (decide_eq_true z)
      omega
    clear c
    refine ⟨_, rfl, ⟨_, rfl⟩, _, rfl, rfl, trivial, _, rfl, ?_⟩
    rw [ascii_S]
    refine iteN (fun c => iteT (q2 ?_)) (fun ca => ?_)
    · refine Bool.eq_false_iff.mpr fun z => ?_
      unfold skN at z
      simp only [Bool.and_eq_true] at z
      rw [figs_ascii z.1.1] at c
      cases c
    refine ⟨_, rfl, ⟨_, rfl⟩, _, rfl, rfl, trivial, _, rfl, ?_⟩
    rw [isdigit_S ca]
    refine iteN (fun c => iteT (q2 ?_)) (fun cf => ?_)
    · unfold skN
      rw [c]
      rfl
    refine ⟨_, rfl, ⟨_, rfl⟩, S u, S [48], rfl, rfl, _, rfl, ?_⟩
    rw [starts_one]
    refine ite2 (fun c => q2 ?_) (fun c0 => ?_)
    · unfold skN
      rw [c, cf]
      rfl
    have e2 : skN u m = decide (digitsVal u ≤ m) := by
      unfold skN
      rw [cf, Bool.eq_false_iff.mpr c0]
      rfl
    refine ⟨_, rfl, S u, _, rfl, int_figs cf (by omega), by rw [S_len]; omega, _, rfl, _, _, rfl, rfl, _, rfl, ite2 (fun c => ?_) (fun c => q2 ?_)⟩
    · refine ⟨_, rfl, S u, _, rfl, int_figs cf (by omega), by rw [S_len]; omega, q1 ?_⟩
      rw [e2]
      have := of_decide_eq_true c
      exact decide_eq_true (by omega)
    · rw [e2]
      exact decide_eq_false fun z => c (decide_eq_true (by omega))
theorem ok__read_skip {fd : FuncData} (F : Fun K "_read_skip" "_read_skip" s__read_skip a._read_skip fd) (T : Txt K mg a)
    {fd__read_many : FuncData} (G__read_many : FnOk P w K mg base CX0 1 a._read_many fd__read_many ["word", "most"] spMany) (b__read_many : Binds K fd__read_many ["word", "most"] [])
    {fd__are_two : FuncData} (G__are_two : FnOk P w K mg base CX0 2 a._are_two fd__are_two ["one", "other"] spTwo) (b__are_two : Binds K fd__are_two ["one", "other"] []) :
    FnOk P w K mg base CX0 3 a._read_skip fd ["line", "most"] spSk := by
  refine F.ok sc__read_skip (fun vs H Q E h => ?len) (fun cdv A outer s H vs Q E hr h => ⟨_,
      (pss_cons (ps_set (i := 2) sc__read_skip.nd rfl (Or.inl rfl) (pe_m1 PySem.F.slot_str_split PySem.F.type_str_split mt_split (pv 0) pe_str))
      (pss_cons (ps_if (PW.pt (pw_or (pt_cmpR op_ne (pe_callB call_len_seq (by rfl) T.n_len (by decide +kernel) (pa_cons (pv 2) pa_nil)) pe_int (nomark _)) (pw_or (pt_cmpR op_ne (pe_ix ix_list (pv 2) pe_int (fun _ _ => rfl)) pe_str (nomark _)) (pw_or (pt_cmpR op_ne (pe_ix ix_list (pv 2) pe_int (fun _ _ => rfl)) pe_str (nomark _)) (pw_or1 (pt_not (pt_val (pe_call G__are_two (hr.mono (by omega)) (by rfl) T.g__are_two T.k__are_two b__are_two .nil pass0 (pa_cons (pe_ix ix_list (pv 2) pe_int (fun _ _ => rfl)) (pa_cons (pe_ix ix_list (pv 2) pe_int (fun _ _ => rfl)) pa_nil)))))))))) (pss_one (ps_ret pe_non)) pss_nil)
      (pss_cons (ps_set (i := 3) sc__read_skip.nd rfl (Or.inl rfl) (pe_call G__read_many (hr.mono (by omega)) (by rfl) T.g__read_many T.k__read_many b__read_many .nil pass0 (pa_cons (pe_ix ix_list (pv 2) pe_int (fun _ _ => rfl)) (pa_cons (pv 1) pa_nil))))
      (pss_one (ps_ret (pe_ifExp (pt_cmpR op_isN (pv 3) pe_non (nomark _)) pe_non (pe_tup (pa_cons pe_str (pa_cons (pv 3) (pa_cons pe_str (pa_cons (pe_ix ix_list (pv 2) pe_int (fun _ _ => rfl)) (pa_cons (pe_ix ix_list (pv 2) pe_int (fun _ _ => rfl)) pa_nil)))))))))))), ?body⟩)
  case len => obtain ⟨l, m, rfl, _⟩ := h; rfl
  case body =>
    obtain ⟨l, m, rfl, hl, hm, q⟩ := h
    have hz := sizeLine_eq
    refine ⟨_, rfl, ⟨_, rfl⟩, S l, S [32], rfl, rfl, rfl, by rw [S_len, sizeLine_eq]; omega, fun lw nlw => ?_⟩
    obtain ⟨n1, n2⟩ := spl_len 32 l.length l (Nat.le_refl _)
    have e0 : upd H lw (.lst ((Txt.split (S l) (S [32])).map V.str)) lw = some (.lst ((spW l).map sg)) := upd_same.trans (by rw [split_S (by simp) (by decide), List.map_map]; rfl)
    replace q := q.same (same_new (o := .lst ((Txt.split (S l) (S [32])).map V.str)) nlw)
    generalize upd H lw (.lst ((Txt.split (S l) (S [32])).map V.str)) = H1 at e0 q ⊢
    obtain ⟨ws, hws⟩ : ∃ ws, ws = spW l := ⟨_, rfl⟩
    have q : Got (stS m ws) H1 Q := by rw [hws]; exact q
    have e0 : H1 lw = some (.lst (ws.map sg)) := by rw [hws]; exact e0
    have n2 : ∀ w ∈ ws, w.length ≤ 20000 := fun w hw => by rw [hws] at hw; exact Nat.le_trans (n2 w hw) hl
    clear hws n1 nlw
    have no : ∀ {H'}, okS m ws = false → Same H1 H' → Q .non H' := fun h S => q.2 (by unfold stS; rw [h]; rfl) _ S
    refine ⟨_, rfl, _, _, rfl, .inl (SqL.of e0), rfl, _, rfl, ?_⟩
    by_cases c5 : ¬ ws.length = 5
    · rw [decide_eq_false (by rw [List.length_map]; intro z; exact c5 (by have := V.int.inj z; omega))]
      refine iteT (iteT (no ?_ (Same.refl _)))
      unfold okS
      match ws, c5 with
      | [], _ => rfl
      | [_], _ => rfl
      | [_, _], _ => rfl
      | [_, _, _], _ => rfl
      | [_, _, _, _], _ => rfl
      | [_, _, _, _, _], c5 => exact absurd rfl c5
      | _ :: _ :: _ :: _ :: _ :: _ :: _, _ => rfl
    obtain ⟨a1, b1, c1, d1, e1, rfl⟩ := five (Decidable.not_not.mp c5)
    clear c5
    refine iteNS rfl ?_
    refine ⟨_, rfl, _, _, _, _, rfl, rfl, SqL.of e0, rfl, rfl, _, rfl, ?_⟩
    rw [show decide (sg a1 = V.str "skip") = decide (a1 = wSkip) from decide_eq_decide.mpr ⟨sg_inj (b := wSkip), fun z => by rw [z]; rfl⟩]
    have fals : (decide (a1 = wSkip) = false ∨ decide (c1 = wLeft) = false ∨ two d1 e1 = false ∨ skN b1 m = false) → okS m [a1, b1, c1, d1, e1] = false := fun z => by
      show (decide (a1 = wSkip) && decide (c1 = wLeft) && two d1 e1 && skN b1 m) = false
      rcases z with z | z | z | z <;> rw [z] <;> simp
    refine iteN (fun b => iteT (no (fals (.inl b)) (Same.refl _))) (fun b => ?_)
    refine ⟨_, rfl, _, _, _, _, rfl, rfl, SqL.of e0, rfl, rfl, _, rfl, ?_⟩
    rw [show decide (sg c1 = V.str "left") = decide (c1 = wLeft) from decide_eq_decide.mpr ⟨sg_inj (b := wLeft), fun z => by rw [z]; rfl⟩]
    refine iteN (fun b2 => iteT (no (fals (.inr (.inl b2))) (Same.refl _))) (fun b2 => ?_)
    refine ⟨_, rfl, _, _, _, _, rfl, rfl, SqL.of e0, rfl, _, rfl, _, _, _, _, rfl, rfl, SqL.of e0, rfl, d1, e1, rfl, by have := n2 d1 (by simp); omega, by have := n2 e1 (by simp); omega, fun H2 S2 => ?_⟩
    refine ⟨_, rfl, iteN (fun b3 => no (fals (.inr (.inr (.inl b3)))) S2) (fun b3 => ?_)⟩
    refine ⟨_, rfl, _, _, _, _, rfl, rfl, SqL.of (S2 _ _ e0), rfl, _, rfl, b1, m, rfl, by have := n2 b1 (by simp); omega, hm, fun b4 => ?_, fun b4 => ?_⟩
    · refine ⟨_, rfl, rfl, _, rfl, iteF ?_⟩
      refine ⟨_, rfl, _, rfl, _, _, _, _, rfl, rfl, SqL.of (S2 _ _ e0), rfl, _, rfl, _, _, _, _, rfl, rfl, SqL.of (S2 _ _ e0), rfl, (by show 5 ≤ sizeLine; decide), fun t n => ?_⟩
      refine q.1 _ ?_ t _ (S2.trans (same_new n)) (Same.free S2 n) upd_same
      have : okS m [a1, b1, c1, d1, e1] = true := by
        show (decide (a1 = wSkip) && decide (c1 = wLeft) && two d1 e1 && skN b1 m) = true
        rw [b, b2, b3, b4]
        rfl
      unfold stS
      rw [this]
      rfl
    · exact ⟨_, rfl, rfl, _, rfl, iteT (no (fals (.inr (.inr (.inr b4)))) S2)⟩
theorem ok__read_steps {fd : FuncData} (F : Fun K "_read_steps" "_read_steps" s__read_steps a._read_steps fd) (T : Txt K mg a)
    {fd_init : FuncData} (G_init : FnOk P w K mg base CX0 1 a.init fd_init ["self", "value"] (spErrInit K)) (b_init : Binds K fd_init ["self", "value"] [])
    {fd__read_skip : FuncData} (G__read_skip : FnOk P w K mg base CX0 3 a._read_skip fd__read_skip ["line", "most"] spSk) (b__read_skip : Binds K fd__read_skip ["line", "most"] [])
    {fd_read_step : FuncData} (G_read_step : FnOk P w K mg base CX0 3 a.read_step fd_read_step ["line"] spRd) (b_read_step : Binds K fd_read_step ["line"] []) :
    FnOk P w K mg base (L2.CX P w) 4 a._read_steps fd ["text"] (spRs K a.BadScript) := by
  refine F.okX sc__read_steps (fun vs H Q E h => ?len) (fun cdv A outer s H vs Q E hr h => ⟨_,
      (pss_cons (ps_if (pt_not (pt_val (pe_callB call_isi (by rfl) T.n_isinstance (by decide +kernel) (pa_cons (pv 0) (pa_cons (pe_bltn (v := .ty "str") (u := .type "str") (by rfl) T.n_str (by decide +kernel) rfl) pa_nil))))) (pss_one (ps_raise rfl (takes_of rfl rfl rfl rfl) (pmk_oex T.c_BadScript.ox T.i_BadScript T.tI G_init (hr.mono (by omega)) b_init .nil pass0 (by rfl) T.g_BadScript (pa_cons pe_int pa_nil)))) pss_nil)
      (pss_cons (ps_par (i := 1) (j := 2) (by rfl) sc__read_steps.nd rfl rfl (by decide) rfl rfl (pa_cons (pe_m1 PySem.F.slot_str_split PySem.F.type_str_split mt_split (pv 0) pe_str) (pa_cons (pe_lstS pa_nil) pa_nil)) (by rfl))
      (pss_cons (ps_for (passes_of rfl) rfl (pi_enumK (by rfl) T.n_enumerate (pa_cons (pv 1) pa_nil) (pk_cons pe_int pk_nil)) (pg_tup rfl (pgs_cons (pg_name (i := 3) sc__read_steps.nd rfl (Or.inl rfl)) (pgs_cons (pg_name (i := 4) sc__read_steps.nd rfl (Or.inl rfl)) pgs_nil))) (Evl.pss_cut (ps_set (i := 5) sc__read_steps.nd rfl (Or.inl rfl) (pe_call G_read_step (hr.mono (by omega)) (by rfl) T.g_read_step T.k_read_step b_read_step .nil pass0 (pa_cons (pv 4) pa_nil)))
      (Evl.pss_cut (ps_if (PW.pt (pw_and (pt_cmpR op_isN (pv 5) pe_non (nomark _)) (pw_and1 (pt_cmpR op_gt (pv 3) pe_int (nomark _))))) (pss_one (ps_set (i := 5) sc__read_steps.nd rfl (Or.inl rfl) (pe_call G__read_skip (hr.mono (by omega)) (by rfl) T.g__read_skip T.k__read_skip b__read_skip .nil pass0 (pa_cons (pv 4) (pa_cons (pe_op op_sub (pe_callB call_len_seq (by rfl) T.n_len (by decide +kernel) (pa_cons (pv 1) pa_nil)) (pv 3)) pa_nil))))) pss_nil)
      (pss_cons (ps_if (PW.pt (pw_or (pt_cmpR op_isN (pv 5) pe_non (nomark _)) (pw_or1 (pt_cmpR op_gt (pv 3) (pe_glob (v := .int 12) (by rfl) T.g_MOST.choose_spec ⟨_, rfl⟩) (nomark _))))) (pss_one (ps_raise rfl (takes_of rfl rfl rfl rfl) (pmk_oex T.c_BadScript.ox T.i_BadScript T.tI G_init (hr.mono (by omega)) b_init .nil pass0 (by rfl) T.g_BadScript (pa_cons (pv 3) pa_nil)))) pss_nil)
      (pss_one (ps_expr (pe_bm PySem.F.plainAttrs_list PySem.F.slot_list_append PySem.F.type_list_append mt_append (pv 2) (pa_cons (pv 5) pa_nil))))))))
      (pss_one (ps_ret (pe_callTy call_tuple_of (by rfl) T.n_tuple (by decide +kernel) (pa_cons (pv 2) pa_nil))))))), ?body⟩)
  case len => obtain ⟨v, rfl, _⟩ := h; rfl
  case body =>
    obtain ⟨v, rfl, h⟩ := h
    have hz := sizeLine_eq
    rcases h with ⟨l, rfl, hl, hr, q1, q2⟩ | ⟨t, t1, k1, q⟩
    · refine ⟨_, rfl, _, _, _, _, true, rfl, .ty _, .base (.str _), kit_ty (by decide +kernel), _, rfl, iteF ?_⟩
      refine ⟨_, rfl, ⟨_, rfl⟩, S l, S [10], rfl, rfl, rfl, by rw [S_len, sizeLine_eq]; omega, fun ll nll => ?_⟩
      have e0 : upd H ll (.lst ((Txt.split (S l) (S [10])).map V.str)) ll = some (.lst ((spR l).map sg)) := upd_same.trans (by rw [split_S (by simp) (by decide), List.map_map]; rfl)
      have S0 := same_new (o := .lst ((Txt.split (S l) (S [10])).map V.str)) nll
      obtain ⟨n1, n2⟩ := spl_len 10 l.length l (Nat.le_refl _)
      generalize upd H ll (.lst ((Txt.split (S l) (S [10])).map V.str)) = H1 at e0 S0 ⊢
      obtain ⟨rows, hrows⟩ : ∃ rows, rows = spR l := ⟨_, rfl⟩
      have q1 : ∀ ys, rd rows 0 = .inr ys → ∀ t ts H', Same H H' → H' t = some (.tup (ts.map V.ref)) → Tups H' ts ys → Q (.ref t) H' := by rw [hrows]; exact q1
      have q2 : ∀ n, rd rows 0 = .inl n → Told H (.int (n : Nat)) a.BadScript E := by rw [hrows]; exact q2
      have e0 : H1 ll = some (.lst (rows.map sg)) := by rw [hrows]; exact e0
      have n2 : ∀ w ∈ rows, w.length ≤ 20000 := fun w hw => by rw [hrows] at hw; exact Nat.le_trans (n2 w hw) hl
      have hr : rows.length ≤ 1000 := by rw [hrows]; exact hr
      clear hrows n1
      refine ⟨(by show 0 ≤ sizeLine; decide), fun ls nls sls => ⟨_, _, rfl, ?_⟩⟩
      refine ⟨_, rfl, ll, _, _, rfl, rfl, (by decide), (by decide), SqL.of (same_new nls _ _ e0), ?_⟩
      refine for_it (walk_k (xs := rows.map sg)) (fun i σ H' => ∃ s3 s4 s5 ts acc, σ = [some (sg l), some (.ref ll), some (.ref ls), s3, s4, s5] ∧ Same H1 H' ∧ H' ls = some (.lst (ts.map V.ref)) ∧ Tups H' ts acc ∧ ts.length = i ∧ rdA acc (rows.drop i) i = rd rows 0)
        ⟨none, none, none, [], [], rfl, same_new nls, upd_same, .nil, rfl, rdA_zero rows⟩ ?_ ?_ ?_
      · rintro i σ H' _ ⟨_, _, _, _, _, _, S', _⟩
        exact SqL.of (S' _ _ e0)
      · rintro i v σ H' H'' hi ⟨s3, s4, s5, ts, acc, rfl, S', dl, tu, le, hrd⟩ ⟨T0, u, w, rfl, hT, rfl, e1, e2⟩
        cases e1
        obtain ⟨r, hr1, rfl⟩ : ∃ r, rows[i]? = some r ∧ w = sg r := by
          have e2 : (rows.map sg)[i]? = some w := e2
          rw [List.getElem?_map] at e2
          cases e : rows[i]? with
          | none => rw [e] at e2; cases e2
          | some r => rw [e] at e2; cases e2; exact ⟨r, rfl, rfl⟩
        have hi : i < rows.length := (List.getElem?_eq_some_iff.mp hr1).1
        have rl : r.length ≤ 20000 := n2 r (List.mem_of_getElem? hr1)
        have hdrop : rows.drop i = r :: rows.drop (i + 1) := by
          rw [List.drop_eq_getElem_cons hi]
          congr 1
          exact Option.some.inj ((List.getElem?_eq_getElem hi).symm.trans hr1)
        have hlen : (rows.drop (i + 1)).length = rows.length - (i + 1) := List.length_drop ..
        have ST := same_new (o := .tup [.int (1 + ((i : Nat) : Int)), sg r]) hT
        refine ⟨T0, _, rfl, SqT.of upd_same, rfl, _, _, rfl, _, _, rfl, rfl, ?_⟩
        have S1 := S'.trans ST
        have dl1 := ST _ _ dl
        have tu1 := tu.same ST
        generalize upd H' T0 (.tup [.int (1 + ((i : Nat) : Int)), sg r]) = H2 at S1 dl1 tu1 ⊢
        clear ST S' dl tu hT
        refine ⟨fun σ' H4 => ∃ o x, stT (spW r) = o ∧ σ' = [some (sg l), some (.ref ll), some (.ref ls), some (.int (1 + ((i : Nat) : Int))), some (sg r), some x] ∧ Same H2 H4 ∧ Stp o x H4, ?read, ?more⟩
        case read =>
          exact ⟨_, rfl, r, rfl, rl, fun y ey t H3 S3 n3 et => ⟨_, _, ey, rfl, S3, t, rfl, et⟩, fun en H3 S3 => ⟨_, _, en, rfl, S3, rfl⟩⟩
        case more =>
          rintro σ' H3 ⟨o, x, ho, rfl, S3, st⟩
          refine ⟨fun σ' H4 => ∃ o x, stV (spW r) (i == 0) (rows.drop (i + 1)).length = o ∧ σ' = [some (sg l), some (.ref ll), some (.ref ls), some (.int (1 + ((i : Nat) : Int))), some (sg r), some x] ∧ Same H2 H4 ∧ Stp o x H4, ?skip, ?last⟩
          case skip =>
            cases o with
            | some y =>
              obtain ⟨t, rfl, et⟩ := st
              refine ⟨_, rfl, rfl, _, rfl, iteF ?_⟩
              refine ⟨some y, _, ?_, rfl, S3, t, rfl, et⟩
              unfold stV
              rw [ho]
            | none =>
              cases st
              refine ⟨_, rfl, rfl, _, rfl, iteT ?_⟩
              refine ⟨_, rfl, _, _, rfl, rfl, _, rfl, ite2 (fun c => ?_) (fun c => ?_)⟩
              · have i1 : 1 ≤ i := by have := of_decide_eq_true c; omega
                have ei : (i == 0) = false := beq_eq_false_iff_ne.mpr (by omega)
                have eo : stV (spW r) (i == 0) (rows.drop (i + 1)).length = stS (rows.drop (i + 1)).length (spW r) := by
                  unfold stV
                  rw [ho, ei]
                  rfl
                refine ⟨_, rfl, _, rfl, ll, _, rfl, .inl (SqL.of (S3 _ _ (S1 _ _ e0))), _, rfl, _, _, rfl, rfl, r, (rows.drop (i + 1)).length, ?_, rl, by omega, fun y ey t H5 S5 n et => ?_, fun en H5 S5 => ?_⟩
                · rw [List.length_map, hlen]
                  show [sg r, V.int (((rows.length : Nat) : Int) - (1 + ((i : Nat) : Int)))] = _
                  rw [show ((rows.length : Nat) : Int) - (1 + ((i : Nat) : Int)) = ((rows.length - (i + 1) : Nat) : Int) by omega]
                · exact ⟨some y, _, eo.trans ey, rfl, S3.trans S5, t, rfl, et⟩
                · exact ⟨none, _, eo.trans en, rfl, S3.trans S5, rfl⟩
              · have i0 : i = 0 := by
                  have : ¬ (1 : Int) < 1 + (i : Nat) := fun z => c (decide_eq_true z)
                  omega
                refine ⟨none, _, ?_, rfl, S3, rfl⟩
                unfold stV
                rw [ho, i0]
                rfl
          case last =>
            rintro σ' H4 ⟨o, x, ho, rfl, S4, st⟩
            have S04 := S0.trans (S1.trans S4)
            have bad : stAt r i (rows.drop (i + 1)).length = none → Told H4 (.int (1 + ((i : Nat) : Int))) a.BadScript E := fun z => by
              have e : rd rows 0 = .inl (i + 1) := by
                rw [← hrd, hdrop, rdA_none z]
              have := (q2 _ e).same S04
              rw [show (1 + ((i : Nat) : Int)) = ((i + 1 : Nat) : Int) by omega]
              exact this
            cases o with
            | none =>
              cases st
              refine ⟨_, rfl, rfl, _, rfl, iteT (iteT ⟨_, rfl, raise_told T.c_BadScript (bad ?_)⟩)⟩
              unfold stAt
              rw [ho]
              split <;> rfl
            | some y =>
              obtain ⟨t, rfl, et⟩ := st
              refine ⟨_, rfl, rfl, _, rfl, iteF ⟨_, rfl, _, _, rfl, rfl, _, rfl, ite2 (fun c => ?_) (fun c => ?_)⟩⟩
              · refine ⟨_, rfl, raise_told T.c_BadScript (bad ?_)⟩
                unfold stAt
                rw [if_neg (by have := of_decide_eq_true c; omega)]
              · have i12 : i < 12 := by
                  have : ¬ (12 : Int) < 1 + (i : Nat) := fun z => c (decide_eq_true z)
                  omega
                have d4 := S4 _ _ dl1
                refine ⟨_, rfl, .inl ⟨rfl, _, SqL.of d4⟩, _, rfl, ls, _, _, rfl, rfl, d4, by rw [List.length_map]; omega, ?_⟩
                refine ⟨_, _, _, ts ++ [t], acc ++ [y], rfl, fun b o e => ?_, ?_, ?_, by rw [List.length_append, le]; rfl, ?_⟩
                · rw [upd_ne (ne_of_none e nls)]
                  exact S4 _ _ (S1 _ _ e)
                · rw [upd_same, List.map_append]
                  rfl
                · refine PySem.Paired.snoc ((tu1.same S4).list d4) ?_
                  rw [upd_ne (fun z => by rw [z, d4] at et; cases et)]
                  exact et
                · rw [← hrd, hdrop, rdA_some (x := y)]
                  unfold stAt
                  rw [if_pos i12]
                  exact ho
      · rintro σ H' ⟨s3, s4, s5, ts, acc, rfl, S', dl, tu, le, hrd⟩
        rw [List.length_map, List.drop_length, rdA_nil] at hrd
        refine ⟨_, rfl, ls, _, rfl, .inl ⟨SqL.of dl, fun t nt => ?_⟩⟩
        exact q1 _ hrd.symm t ts _ ((S0.trans S').trans (same_new nt)) upd_same (tu.same (same_new nt))
    · refine ⟨_, rfl, _, _, _, _, false, rfl, .ty _, t1, k1, _, rfl, iteT ?_⟩
      exact raise_told T.c_BadScript q
end
end My

namespace My
open PySem PySem.Spec PyProof.Rows L2 G SX NumText
abbrev s_Script___init__ : Stmt := inClass (topS 13) 0
theorem sc_Script___init__ : FnScope ["self", "text", "steps"] ["self", "text"] (defScope s_Script___init__) := ⟨rfl, rfl, rfl, by decide +kernel, rfl, by decide +kernel, by decide +kernel⟩

abbrev s_Script_text : Stmt := inClass (topS 13) 1
theorem sc_Script_text : FnScope ["self"] ["self"] (defScope s_Script_text) := ⟨rfl, rfl, rfl, by decide +kernel, rfl, by decide +kernel, by decide +kernel⟩

abbrev s_Script___len__ : Stmt := inClass (topS 13) 2
theorem sc_Script___len__ : FnScope ["self"] ["self"] (defScope s_Script___len__) := ⟨rfl, rfl, rfl, by decide +kernel, rfl, by decide +kernel, by decide +kernel⟩

abbrev s_Script___eq__ : Stmt := inClass (topS 13) 3
theorem sc_Script___eq__ : FnScope ["self", "other"] ["self", "other"] (defScope s_Script___eq__) := ⟨rfl, rfl, rfl, by decide +kernel, rfl, by decide +kernel, by decide +kernel⟩

abbrev scFs (l : List Nat) (w : V) : List (Str × V) := [("_text", sg l), ("steps", w)]
/-- a Script of this text, its steps kept at w -/
def ScO (C : Addr) (H : Hp) (z : V) (l : List Nat) (w : V) : Prop := ∃ b dx, z = .ref b ∧ H b = some (.ins C dx (scFs l w))
theorem ScO.same {C : Addr} {H H' : Hp} {z w : V} {l : List Nat} (S : Same H H') (h : ScO C H z l w) : ScO C H' z l w := let ⟨b, dx, e, x⟩ := h; ⟨b, dx, e, S _ _ x⟩
def ScQ (C : Addr) (H : Hp) (z : V) (l : List Nat) (ys : List (List V)) : Prop := ∃ t ts, ScO C H z l (.ref t) ∧ H t = some (.tup (ts.map V.ref)) ∧ Tups H ts ys
theorem ScQ.same {C : Addr} {H H' : Hp} {z : V} {l : List Nat} {ys : List (List V)} (S : Same H H') (h : ScQ C H z l ys) : ScQ C H' z l ys := let ⟨t, ts, a, b, c⟩ := h; ⟨t, ts, a.same S, S _ _ b, c.same S⟩
def NotR (K : PySem.W.Frag) (C : Addr) (H : Hp) (w : V) : Prop := ∃ t, TyX K H w t ∧ PySem.W.kitOne K t (.ref C) = some false
def spSI (K : PySem.W.Frag) (C B : Addr) : Sp := fun vs H Q E => ∃ p dx v, vs = [.ref p, v] ∧ H p = some (.ins C dx []) ∧
  ((∃ l, v = sg l ∧ l.length ≤ 20000 ∧ (spR l).length ≤ 1000 ∧ (∀ ys, rd (spR l) 0 = .inr ys → ∀ H', (∀ b o, b ≠ p → H b = some o → H' b = some o) → ScQ C H' (.ref p) l ys → Q .non H') ∧ (∀ n, rd (spR l) 0 = .inl n → Told H (.int (n : Nat)) B E)) ∨
   (∃ t, TyX K H v (.type t) ∧ PySem.W.kitOne K (.type t) (.type "str") = some false ∧ Told H (.int 0) B E))
def spST (C : Addr) : Sp := fun vs H Q _ => ∃ v l w, vs = [v] ∧ ScO C H v l w ∧ Q (sg l) H
def spSL (C : Addr) : Sp := fun vs H Q _ => ∃ (v : V) (l : List Nat) (t : Addr) (ts : List Addr), vs = [v] ∧ ScO C H v l (.ref t) ∧ H t = some (.tup (ts.map V.ref)) ∧ Q (.int (ts.length : Nat)) H
def spSE (K : PySem.W.Frag) (C : Addr) : Sp := fun vs H Q _ => ∃ v w l x, vs = [v, w] ∧ ScO C H v l x ∧ ((∃ m y, ScO C H w m y ∧ Q (.bl (decide (l = m))) H) ∨ (NotR K C H w ∧ Q (.bl false) H))
theorem scTy {K : PySem.W.Frag} {mg : Str → Option Value} {a : Ad} (T : Txt K mg a) {H : Hp} {v w : V} {l : List Nat} (h : ScO a.Script H v l w) : TyX K H v (.ref a.Script) := by
  obtain ⟨x, dx, rfl, e⟩ := h
  exact .base (.ins e T.cl T.ri.ca T.ri.cn T.ri.ct T.ri.cm)
/-- what Script(l) asks -/
def mkQ (C B : Addr) (l : List Nat) (H : Hp) (Q : VK) (E : XK) : Prop := (∀ ys, rd (spR l) 0 = .inr ys → ∀ z H', Same H H' → ScQ C H' z l ys → Q z H') ∧ (∀ n, rd (spR l) 0 = .inl n → Told H (.int (n : Nat)) B E)
theorem mk_sc {K : PySem.W.Frag} {C B : Addr} {H : Hp} {l : List Nat} {E : XK} {Q : VK} (hl : l.length ≤ 20000) (hr : (spR l).length ≤ 1000) (q : mkQ C B l H Q E) :
    ∀ x dx, H x = none → H dx = none → dx ≠ x → spSI K C B [.ref x, sg l] (upd (upd H dx (.own x)) x (.ins C dx [])) (fun v H2 => v = .non ∧ Q (.ref x) H2) E := by
  intro x dx hx hdx n
  have S : Same H (upd (upd H dx (.own x)) x (.ins C dx [])) := fun b o e => by
    rw [upd_ne (ne_of_none e hx), upd_ne (ne_of_none e hdx)]
    exact e
  exact ⟨x, dx, _, rfl, upd_same, .inl ⟨l, rfl, hl, hr, fun ys ey H' k s => ⟨rfl, q.1 ys ey _ H' (fun b o e => k b o (ne_of_none e hx) (S b o e)) s⟩, fun m em => (q.2 m em).same S⟩⟩
theorem mk_no {K : PySem.W.Frag} {C B : Addr} {H : Hp} {v : V} {t : String} {E : XK} {Q : VK} (ty : ∀ H', Same H H' → TyX K H' v (.type t)) (k : PySem.W.kitOne K (.type t) (.type "str") = some false) (q : Told H (.int 0) B E) :
    ∀ x dx, H x = none → H dx = none → dx ≠ x → spSI K C B [.ref x, v] (upd (upd H dx (.own x)) x (.ins C dx [])) (fun v H2 => v = .non ∧ Q (.ref x) H2) E := by
  intro x dx hx hdx n
  have S : Same H (upd (upd H dx (.own x)) x (.ins C dx [])) := fun b o e => by
    rw [upd_ne (ne_of_none e hx), upd_ne (ne_of_none e hdx)]
    exact e
  exact ⟨x, dx, _, rfl, upd_same, .inr ⟨t, ty _ S, k, q.same S⟩⟩
section
variable {P : Program} {w : World} {K : PySem.W.Frag} {mg : Str → Option Value} {base : Heap} {a : Ad}
theorem ok_Script___init__ {fd : FuncData} (F : Fun K "__init__" "Script.__init__" s_Script___init__ a.Script___init__ fd) (T : Txt K mg a)
    {fd__read_steps : FuncData} (G__read_steps : FnOk P w K mg base (L2.CX P w) 4 a._read_steps fd__read_steps ["text"] (spRs K a.BadScript)) (b__read_steps : Binds K fd__read_steps ["text"] []) :
    FnOk P w K mg base (L2.CX P w) 5 a.Script___init__ fd ["self", "text"] (spSI K a.Script a.BadScript) := by
  refine F.okX sc_Script___init__ (fun vs H Q E h => ?len) (fun cdv A outer s H vs Q E hr h => ⟨_,
      (pss_cons (ps_set (i := 2) sc_Script___init__.nd rfl (Or.inl rfl) (pe_call G__read_steps (hr.mono (by omega)) (by rfl) T.g__read_steps T.k__read_steps b__read_steps .nil (passes_call (takes_of rfl rfl rfl rfl) fun _ _ _ _ h => h) (pa_cons (pv 1) pa_nil)))
      (pss_cons (ps_fld (pv 0) (pv 1) rfl)
      (pss_one (ps_fld (pv 0) (pv 2) rfl)))), ?body⟩)
  case len => obtain ⟨p, dx, v, rfl, _⟩ := h; rfl
  case body =>
    obtain ⟨p, dx, v, rfl, hp, h⟩ := h
    rcases h with ⟨l, rfl, hl, hr, q1, q2⟩ | ⟨t, t1, k1, q⟩
    · refine ⟨_, rfl, _, rfl, .inl ⟨l, rfl, hl, hr, fun ys ey t ts H1 S1 et tu => ?_, fun n en => q2 n en⟩⟩
      have e1 := S1 _ _ hp
      refine ⟨_, rfl, _, rfl, _, _, _, _, rfl, e1, T.cl, T.nT, by decide, ?_⟩
      refine ⟨_, rfl, _, rfl, _, _, _, _, rfl, upd_same, T.cl, T.nS, (by show 1 < 1000; decide), ?_⟩
      have nt : t ≠ p := fun z => by rw [z, e1] at et; cases et
      refine q1 ys ey _ (fun b o n e => ?_) ⟨t, ts, ⟨p, dx, rfl, upd_same⟩, ?_, ?_⟩
      · rw [upd_ne n, upd_ne n]
        exact S1 _ _ e
      · rw [upd_ne nt, upd_ne nt]
        exact et
      · refine Paired.mapP tu fun t y e => ?_
        have : t ≠ p := fun z => by rw [z, e1] at e; cases e
        rw [upd_ne this, upd_ne this]
        exact e
    · exact ⟨_, rfl, _, rfl, .inr ⟨t, t1, k1, q⟩⟩
theorem ok_Script_text {fd : FuncData} (F : Fun K "text" "Script.text" s_Script_text a.Script_text fd) (T : Txt K mg a) :
    FnOk P w K mg base CX0 1 a.Script_text fd ["self"] (spST a.Script) := by
  refine F.ok sc_Script_text (fun vs H Q E h => ?len) (fun cdv A outer s H vs Q E hr h => ⟨_,
      (pss_one (ps_ret (pe_fld (pv 0) rfl))), ?body⟩)
  case len => obtain ⟨v, l, w, rfl, _⟩ := h; rfl
  case body =>
    obtain ⟨v, l, w, rfl, ⟨b, dx, rfl, hb⟩, q⟩ := h
    exact ⟨_, rfl, _, _, _, _, _, rfl, hb, T.cl, T.nT, rfl, q⟩
theorem ok_Script___len__ {fd : FuncData} (F : Fun K "__len__" "Script.__len__" s_Script___len__ a.Script___len__ fd) (T : Txt K mg a) :
    FnOk P w K mg base CX0 1 a.Script___len__ fd ["self"] (spSL a.Script) := by
  refine F.ok sc_Script___len__ (fun vs H Q E h => ?len) (fun cdv A outer s H vs Q E hr h => ⟨_,
      (pss_one (ps_ret (pe_callB call_len_seq (by rfl) T.n_len (by decide +kernel) (pa_cons (pe_fld (pv 0) rfl) pa_nil)))), ?body⟩)
  case len => obtain ⟨v, l, t, ts, rfl, _⟩ := h; rfl
  case body =>
    obtain ⟨v, l, t, ts, rfl, ⟨b, dx, rfl, hb⟩, ht, q⟩ := h
    refine ⟨_, rfl, _, _, _, _, _, rfl, hb, T.cl, T.nS, rfl, t, _, rfl, .inr (SqT.of ht), ?_⟩
    rw [List.length_map]
    exact q
theorem ok_Script___eq__ {fd : FuncData} (F : Fun K "__eq__" "Script.__eq__" s_Script___eq__ a.Script___eq__ fd) (T : Txt K mg a)
    {fd_Script_text : FuncData} (G_Script_text : FnOk P w K mg base CX0 1 a.Script_text fd_Script_text ["self"] (spST a.Script)) (b_Script_text : Binds K fd_Script_text ["self"] []) :
    FnOk P w K mg base CX0 3 a.Script___eq__ fd ["self", "other"] (spSE K a.Script) := by
  refine F.ok sc_Script___eq__ (fun vs H Q E h => ?len) (fun cdv A outer s H vs Q E hr h => ⟨_,
      (pss_one (ps_ret (pe_and (pe_callB call_isi (by rfl) T.n_isinstance (by decide +kernel) (pa_cons (pv 1) (pa_cons (pe_glob (v := .ref a.Script) (by rfl) T.g_Script rfl) pa_nil))) (pe_one (pe_cmpR op_eq (pe_prop (pv 0) T.cl T.tR.choose_spec G_Script_text (hr.mono (by omega)) b_Script_text .nil pass0 (by rfl)) (pe_prop (pv 1) T.cl T.tR.choose_spec G_Script_text (hr.mono (by omega)) b_Script_text .nil pass0 (by rfl)) (nomark _)))))), ?body⟩)
  case len => obtain ⟨v, w, l, x, rfl, _⟩ := h; rfl
  case body =>
    obtain ⟨v, w, l, x, rfl, hv, h⟩ := h
    rcases h with ⟨m, y, hw, q⟩ | ⟨⟨t, t1, k1⟩, q⟩
    · refine ⟨_, rfl, w, _, _, _, true, rfl, .own _, scTy T hw, T.ri.ks, true, rfl, iteT ?_⟩
      obtain ⟨b, dx, rfl, hb⟩ := id hv
      obtain ⟨c, dy, rfl, hc⟩ := id hw
      refine ⟨_, rfl, b, dx, _, rfl, hb, _, l, _, rfl, hv, ?_⟩
      refine ⟨_, rfl, c, dy, _, rfl, hc, _, m, _, rfl, hw, rfl, ?_⟩
      rw [show decide (sg l = sg m) = decide (l = m) from decide_eq_decide.mpr ⟨sg_inj, fun z => by rw [z]⟩]
      exact q
    · exact ⟨_, rfl, w, _, t, _, false, rfl, .own _, t1, k1, false, rfl, iteF q⟩
end
end My

namespace G
open PySem PySem.Spec PyProof.Rows L2
theorem call_strA {X : Cx} : CallR X (.type "str") (fun xs H Q => (∃ i : Int, xs = [.int i] ∧ i.natAbs.log2 < 1920 ∧ Q (.str (toString i)) H) ∨ (∃ a, xs = [.str a] ∧ Q (.str a) H)) := by
  intro pins s σ H xs us Q I r h
  rcases h with h | h
  · exact call_str_int pins s σ H xs us Q I r h
  · exact SkE.call_str_str pins s σ H xs us Q I r h
theorem map_erase {α β : Type} (f : α → β) : ∀ (l : List α) (k : Nat), (l.map f).eraseIdx k = (l.eraseIdx k).map f
  | [], _ => rfl
  | _ :: _, 0 => rfl
  | a :: l, k + 1 => by
    show f a :: (l.map f).eraseIdx k = f a :: (l.eraseIdx k).map f
    rw [map_erase f l k]
theorem erase_perm {α : Type} : ∀ (l : List α) (k : Nat) (h : k < l.length), (l[k] :: l.eraseIdx k).Perm l
  | a :: l, 0, _ => List.Perm.refl _
  | a :: l, k + 1, h => (List.Perm.swap a (l[k]'(by simpa using h)) (l.eraseIdx k)).trans ((erase_perm l k (by simpa using h)).cons a)
end G
namespace My
open PySem PySem.Spec PyProof.Rows L2 G SX NumText
abbrev s__law_some : Stmt := topS 18
theorem sc__law_some : FnScope ["_law_pot_here", "_law_pool", "_law_many", "_law_left", "_law_found", "_law_turn"] ["_law_pot_here", "_law_pool", "_law_many"] (defScope s__law_some) := ⟨rfl, rfl, rfl, by decide +kernel, rfl, by decide +kernel, by decide +kernel⟩

abbrev s__law_step : Stmt := topS 23
theorem sc__law_step : FnScope ["_law_pot_here", "_law_names", "_law_one", "_law_other", "_law_rest", "_law_mark", "_law_name"] ["_law_pot_here", "_law_names"] (defScope s__law_step) := ⟨rfl, rfl, rfl, by decide +kernel, rfl, by decide +kernel, by decide +kernel⟩

theorem PotAt.over {p D : Addr} {k : Nat} {H : Hp} {o : HO} (h : PotAt H p k) (n : D ≠ p) : PotAt (upd H D o) p k := by
  obtain ⟨x, y, z, e, r⟩ := h
  exact ⟨x, y, z, by rw [upd_ne n.symm]; exact e, r⟩
theorem Go.over {p D : Addr} {n : Nat} {H H' : Hp} {o : HO} (g : Go p n H H') (h : H D = none) (nD : D ≠ p) : Go p n H (upd H' D o) := ⟨fun b u e => by
  have hb : b ≠ p := fun z => by rw [z, wo_same] at e; cases e
  have e' := e
  rw [wo_ne hb] at e' ⊢
  rw [upd_ne (ne_of_none e' h)]
  have := g.keep b u e
  rwa [wo_ne hb] at this, g.pot.over nD⟩
theorem Go.fwd {p : Addr} {n : Nat} {H H1 H2 : Hp} (g : Go p n H H1) (S : Same H1 H2) : Go p n H H2 := ⟨g.keep.trans (mask_mono S), g.pot.same S⟩
def spSome : Sp := fun vs H Q _ => ∃ (p s : Addr) (k n : Nat) (ws : List (List Nat)), vs = [.ref p, .ref s, .int (k : Nat)] ∧ s ≠ p ∧ PotAt H p n ∧ n + k ≤ 100000 ∧ H s = some (.lst (ws.map sg)) ∧ k ≤ ws.length ∧ ws.length ≤ 100 ∧ ws.Nodup ∧
  ∀ (l : Addr) (us : List (List Nat)) (H' : Hp), us.length = k → us.Nodup → (∀ u ∈ us, u ∈ ws) → H' l = some (.lst (us.map sg)) → l ≠ p → Go p (n + k) H H' → Q (.ref l) H'
/-- names to draw from -/
def Nms (ws : List (List Nat)) : Prop := (∀ w ∈ ws, nm w = true) ∧ ws.Nodup ∧ 3 ≤ ws.length ∧ ws.length ≤ 100
def spStep : Sp := fun vs H Q _ => ∃ (p s : Addr) (n : Nat) (ws : List (List Nat)), vs = [.ref p, .ref s] ∧ s ≠ p ∧ PotAt H p n ∧ n + 10 ≤ 100000 ∧ H s = some (.lst (ws.map sg)) ∧ Nms ws ∧
  ∀ (t : Addr) (xw : List (List Nat)) (H' : Hp), okT xw = true → H' t = some (.tup (xw.map sg)) → Go p (n + 10) H H' → Q (.ref t) H'
/-- a part of a step, and its text -/
def Prt (v : V) : Prop := (∃ z : List Nat, v = sg z ∧ z.length ≤ 8 ∧ ∀ c ∈ z, 97 ≤ c ∧ c ≤ 122) ∨ ∃ n : Nat, v = .int (n : Nat) ∧ n ≤ 1000
def partL : V → List Nat
  | .str z => z.cps.toList
  | .int i => intL i
  | _ => []
theorem part_sg (z : List Nat) : partL (sg z) = z := rfl
theorem part_map (xw : List (List Nat)) : (xw.map sg).map partL = xw := by
  rw [List.map_map]
  show xw.map (fun z => z) = xw
  exact List.map_id _
theorem prt_ok {v : V} (h : Prt v) : (partL v).length ≤ 8 ∧ ∀ c ∈ partL v, 48 ≤ c ∧ c ≤ 122 := by
  rcases h with ⟨z, rfl, l, r⟩ | ⟨n, rfl, hn⟩
  · exact ⟨l, fun c hc => by have := r c hc; omega⟩
  · have e : partL (.int (n : Nat)) = TL.numL n := by
      show intL (n : Int) = _
      unfold intL
      rw [if_neg (by omega)]
      rfl
    rw [e]
    refine ⟨Nat.le_trans (TL.numL_len (k := 4) (by decide) (by omega)) (by decide), fun c hc => ?_⟩
    have := TL.numL_digits n c hc
    omega
/-- a step that can stand there -/
structure Row (x : List V) (first : Bool) (m : Nat) : Prop where
  st : stV (x.map partL) first m = some x
  pr : ∀ v ∈ x, Prt v
  ln : x.length = 5
theorem nm_prt {w : List Nat} (h : nm w = true) : Prt (sg w) := .inl ⟨w, rfl, (nm_len h).2, fun c hc => nm_mem h hc⟩
theorem okT_five {xw : List (List Nat)} (h : okT xw = true) : ∃ a b c d e, xw = [a, b, c, d, e] ∧ (a = wTow ∨ a = wFrom) ∧ (c = wUnt ∨ c = wBet) ∧ nm b = true ∧ nm d = true ∧ nm e = true ∧ d ≠ e := by
  unfold okT at h
  split at h
  · rename_i a b c d e
    unfold two at h
    simp only [Bool.and_eq_true, Bool.or_eq_true, decide_eq_true_eq, Bool.not_eq_true', decide_eq_false_iff_not] at h
    obtain ⟨⟨⟨h1, h2⟩, h3⟩, ⟨h4, h5⟩, h6⟩ := h
    exact ⟨a, b, c, d, e, rfl, h1, h2, h3, h4, h5, h6⟩
  · cases h
theorem row_T {xw : List (List Nat)} (h : okT xw = true) (f : Bool) (m : Nat) : Row (xw.map sg) f m := by
  refine ⟨?_, ?_, ?_⟩
  · rw [part_map]
    unfold stV stT
    rw [if_pos h]
  · obtain ⟨a, b, c, d, e, rfl, h1, h2, h3, h4, h5, h6⟩ := okT_five h
    intro v hv
    simp only [List.map_cons, List.map_nil, List.mem_cons, List.not_mem_nil, or_false] at hv
    rcases hv with rfl | rfl | rfl | rfl | rfl
    · rcases h1 with rfl | rfl
      · exact .inl ⟨wTow, rfl, by decide, by decide⟩
      · exact .inl ⟨wFrom, rfl, by decide, by decide⟩
    · exact nm_prt h3
    · rcases h2 with rfl | rfl
      · exact .inl ⟨wUnt, rfl, by decide, by decide⟩
      · exact .inl ⟨wBet, rfl, by decide, by decide⟩
    · exact nm_prt h4
    · exact nm_prt h5
  · obtain ⟨a, b, c, d, e, rfl, _⟩ := okT_five h
    rfl
theorem row_S {u v : List Nat} {k m : Nat} (hu : nm u = true) (hv : nm v = true) (ne : u ≠ v) (h1 : 1 ≤ k) (h2 : k ≤ m) (h3 : k ≤ 1000) : Row [sg wSkip, .int (k : Nat), sg wLeft, sg u, sg v] false m := by
  have e : [sg wSkip, V.int (k : Nat), sg wLeft, sg u, sg v].map partL = [wSkip, TL.numL k, wLeft, u, v] := by
    show [wSkip, intL (k : Int), wLeft, u, v] = _
    unfold intL
    rw [if_neg (by omega)]
    rfl
  refine ⟨?_, ?_, rfl⟩
  · rw [e]
    have t0 : okT [wSkip, TL.numL k, wLeft, u, v] = false := by
      show ((decide (wSkip = wTow) || decide (wSkip = wFrom)) && (decide (wLeft = wUnt) || decide (wLeft = wBet)) && nm (TL.numL k) && two u v) = false
      rw [show (decide (wSkip = wTow) || decide (wSkip = wFrom)) = false by decide]
      rfl
    have s0 : okS m [wSkip, TL.numL k, wLeft, u, v] = true := by
      show (decide (wSkip = wSkip) && decide (wLeft = wLeft) && two u v && skN (TL.numL k) m) = true
      rw [skN_iff.mpr ⟨k, h1, h2, rfl⟩]
      unfold two
      rw [hu, hv, decide_eq_false ne]
      decide
    unfold stV stT
    rw [t0]
    show stS m _ = _
    unfold stS
    rw [if_pos s0]
    show some [sg wSkip, V.int (digitsVal (TL.numL k) : Nat), sg wLeft, sg u, sg v] = _
    rw [TL.numL_val]
  · intro x hx
    simp only [List.mem_cons, List.not_mem_nil, or_false] at hx
    rcases hx with rfl | rfl | rfl | rfl | rfl
    · exact .inl ⟨wSkip, rfl, by decide, by decide⟩
    · exact .inr ⟨k, rfl, h3⟩
    · exact .inl ⟨wLeft, rfl, by decide, by decide⟩
    · exact nm_prt hu
    · exact nm_prt hv
def StOk (xs : List (List V)) : Prop := ∀ (i : Nat) (x : List V), xs[i]? = some x → Row x (i == 0) (xs.length - i - 1)
def rowL (x : List V) : List Nat := TL.joinL [32] (x.map partL)
theorem row_spl {x : List V} {f : Bool} {m : Nat} (h : Row x f m) : spW (rowL x) = x.map partL := by
  refine TL.spl_join (s := 32) (S := []) (fun z => ?_) (fun p hp => ?_)
  · have := h.ln
    rw [List.map_eq_nil_iff] at z
    rw [z] at this
    cases this
  · obtain ⟨v, hv, rfl⟩ := List.mem_map.mp hp
    exact fun z => by have := (prt_ok (h.pr v hv)).2 32 z; omega
theorem row_txt {x : List V} {f : Bool} {m : Nat} (h : Row x f m) : rowL x ≠ [] ∧ (rowL x).length ≤ 45 ∧ ∀ c ∈ rowL x, 32 ≤ c ∧ c ≤ 122 := by
  refine ⟨fun z => ?_, ?_, fun c hc => ?_⟩
  · have e := row_spl h
    rw [z] at e
    have := congrArg List.length e
    rw [List.length_map, h.ln] at this
    cases this
  · refine Nat.le_trans (join_len 32 (x.map partL)) ?_
    have h1 := h.ln
    have h2 := h.pr
    match x, h1 with
    | [a, b, c, d, e], _ =>
      simp only [List.map_cons, List.map_nil, List.sum_cons, List.sum_nil, List.length_cons, List.length_nil]
      have := (prt_ok (h2 a (by simp))).1
      have := (prt_ok (h2 b (by simp))).1
      have := (prt_ok (h2 c (by simp))).1
      have := (prt_ok (h2 d (by simp))).1
      have := (prt_ok (h2 e (by simp))).1
      omega
  · rcases join_mem hc with e | ⟨w, hw, hc⟩
    · omega
    · obtain ⟨v, hv, rfl⟩ := List.mem_map.mp hw
      have := (prt_ok (h.pr v hv)).2 c hc
      omega
theorem rd_ok : ∀ (ys : List (List V)) (i : Nat), (∀ (j : Nat) (x : List V), ys[j]? = some x → Row x (i + j == 0) (ys.length - j - 1)) → i + ys.length ≤ 12 → rd (ys.map rowL) i = .inr ys
  | [], i, _, _ => rfl
  | y :: ys, i, h, hl => by
    have h0 := h 0 y rfl
    have ih := rd_ok ys (i + 1) (fun j x hx => by
      have := h (j + 1) x (by simpa using hx)
      rw [show i + 1 + j = i + (j + 1) by omega]
      rw [List.length_cons, show ys.length + 1 - (j + 1) - 1 = ys.length - j - 1 by omega] at this
      exact this) (by simp only [List.length_cons] at hl; omega)
    simp only [List.map_cons]
    unfold rd
    have e : stAt (rowL y) i (ys.map rowL).length = some y := by
      unfold stAt
      rw [if_pos (by simp only [List.length_cons] at hl; omega), row_spl h0, List.length_map]
      have := h0.st
      rw [List.length_cons, show ys.length + 1 - 0 - 1 = ys.length by omega] at this
      exact this
    rw [e]
    simp only
    rw [ih]
theorem rd_steps {xs : List (List V)} (h : StOk xs) (hl : xs.length ≤ 12) : rd (xs.map rowL) 0 = .inr xs := rd_ok xs 0 (fun j x hx => by rw [Nat.zero_add]; exact h j x hx) (by omega)
def spSteps : Sp := fun vs H Q _ => ∃ (p s m n : Nat) (ws : List (List Nat)), vs = [.ref p, .ref s, .int (m : Nat)] ∧ s ≠ p ∧ PotAt H p n ∧ n + 200 ≤ 100000 ∧ H s = some (.lst (ws.map sg)) ∧ Nms ws ∧ 1 ≤ m ∧ m ≤ 12 ∧
  ∀ (l : Addr) (ts : List Addr) (xs : List (List V)) (H' : Hp), StOk xs → xs ≠ [] → xs.length ≤ m → H' l = some (.lst (ts.map V.ref)) → Tups H' ts xs → Go p (n + 200) H H' → Q (.ref l) H'
def spStx : Sp := fun vs H Q _ => ∃ (t : Addr) (x : List V), vs = [.ref t] ∧ H t = some (.tup x) ∧ (∀ v ∈ x, Prt v) ∧ x.length = 5 ∧ ∀ H', Same H H' → Q (sg (rowL x)) H'
theorem Tups.go {p : Addr} {n : Nat} {H H' : Hp} {ts : List Addr} {ys : List (List V)} (g : Go p n H H') (pot : ∃ k, PotAt H p k) (h : Tups H ts ys) : Tups H' ts ys := Paired.mapP h fun t y e => g.at e fun z => by
  obtain ⟨k, a, b, c, f, _⟩ := pot
  rw [z, f] at e
  cases e
section
variable {P : Program} {w : World} {K : PySem.W.Frag} {mg : Str → Option Value} {base : Heap} {a : Ad}
theorem ok__law_some {fd : FuncData} (F : Fun K "_law_some" "_law_some" s__law_some a._law_some fd) (T : Txt K mg a)
    {fd__law_take : FuncData} (G__law_take : Fn P w K mg base CX0 1 a._law_take fd__law_take ["_law_pot_here", "_law_upto"] spTake) (b__law_take : Binds K fd__law_take ["_law_pot_here", "_law_upto"] []) :
    Fn P w K mg base CX0 2 a._law_some fd ["_law_pot_here", "_law_pool", "_law_many"] spSome := by
  refine ok F sc__law_some (fun vs H Q E h => ?len) (fun cdv A outer s H vs Q E hq hr h => ⟨_,
      (pss_cons (ps_par (i := 3) (j := 4) (by rfl) sc__law_some.nd rfl rfl (by decide) rfl rfl (pa_cons (pe_callTy call_list_of (by rfl) T.n_list (by decide +kernel) (pa_cons (pv 1) pa_nil)) (pa_cons (pe_lstS pa_nil) pa_nil)) (by rfl))
      (pss_cons (ps_for PassesOwn.never rfl (pi_range1 (by rfl) T.n_range (pa_cons (pv 2) pa_nil)) (pg_name (i := 5) sc__law_some.nd rfl (Or.inl rfl)) (pss_one (ps_expr (pe_bm PySem.F.plainAttrs_list PySem.F.slot_list_append PySem.F.type_list_append mt_append (pv 4) (pa_cons (pe_bm PySem.F.plainAttrs_list PySem.F.slot_list_pop PySem.F.type_list_pop mt_popAt (pv 3) (pa_cons (pe_fn G__law_take hq (hr.mono (by omega)) (by rfl) T.g__law_take T.k__law_take b__law_take .nil pass0 (pa_cons (pv 0) (pa_cons (pe_callB call_len_seq (by rfl) T.n_len (by decide +kernel) (pa_cons (pv 3) pa_nil)) pa_nil))) pa_nil)) pa_nil)))))
      (pss_one (ps_ret (pv 4))))), ?body⟩)
  case len => obtain ⟨p, s, k, n, ws, rfl, _⟩ := h; rfl
  case body =>
    obtain ⟨p, s, k, n, ws, rfl, nsp, pot, hn, hs, hk, hw, nd, q⟩ := h
    have hz := sizeLine_eq
    refine ⟨_, rfl, s, _, rfl, .inl (SqL.of hs), fun ll nll => ⟨(by show 0 ≤ sizeLine; decide), fun lf nlf slf => ⟨_, _, rfl, ?_⟩⟩⟩
    have Sl := same_new (o := .lst (ws.map sg)) nll
    have Sf := same_new (o := .lst []) nlf
    have nlp : ll ≠ p := fun z => pot.has (by rw [← z]; exact nll)
    have nfp : lf ≠ p := fun z => (pot.same Sl).has (by rw [← z]; exact nlf)
    have nlf' : ll ≠ lf := fun z => by rw [← z, upd_same] at nlf; cases nlf
    refine ⟨_, rfl, (k : Nat), rfl, by omega, by omega, for_it walk_range (fun i σ H' => ∃ (s5 : Option V) (left us : List (List Nat)), σ = [some (.ref p), some (.ref s), some (.int (k : Nat)), some (.ref ll), some (.ref lf), s5] ∧ H' ll = some (.lst (left.map sg)) ∧ H' lf = some (.lst (us.map sg)) ∧
      us.length = i ∧ (us ++ left).Nodup ∧ left.length + i = ws.length ∧ (∀ u ∈ us ++ left, u ∈ ws) ∧ Go p (n + i) H H') ?start (fun _ _ _ _ _ => trivial) ?turn ?fin⟩
    case start =>
      exact ⟨none, ws, [], rfl, (Sf _ _ upd_same), upd_same, rfl, nd, rfl, (fun u hu => hu), ⟨mask_mono (Sl.trans Sf), (pot.same Sl).same Sf⟩⟩
    case turn =>
      rintro i x σ H1 H2 hi ⟨s5, left, us, rfl, hl, hf, lu, nu, ll1, sub, g⟩ ⟨rfl, rfl⟩
      have hi : i < k := by omega
      refine ⟨_, rfl, .inl ⟨rfl, _, SqL.of hf⟩, _, rfl, .inl ⟨rfl, _, SqL.of hl⟩, _, rfl, _, rfl, _, _, rfl, .inl (SqL.of hl), ?_⟩
      refine ⟨p, _, n + i, rfl, g.pot, by omega, by rw [List.length_map]; omega, by rw [List.length_map]; omega, fun d H3 d0 d1 g3 => ?_⟩
      rw [List.length_map] at d1
      have hd : d.toNat < left.length := by omega
      have hl3 := g3.at hl nlp
      have hf3 := g3.at hf nfp
      refine ⟨ll, _, d, d.toNat, sg left[d.toNat], rfl, rfl, hl3, by omega, by omega, seqIndex_of d0 (by rw [List.length_map]; omega), by rw [List.getElem?_map, List.getElem?_eq_getElem hd]; rfl, ?_⟩
      have hf4 : upd H3 ll (.lst ((left.map sg).eraseIdx d.toNat)) lf = some (.lst (us.map sg)) := by rw [upd_ne nlf'.symm]; exact hf3
      refine ⟨lf, _, _, rfl, rfl, hf4, by rw [List.length_map]; omega, ?_⟩
      have pm := erase_perm left d.toNat hd
      have pm2 : ((us ++ [left[d.toNat]]) ++ left.eraseIdx d.toNat).Perm (us ++ left) := by
        rw [List.append_assoc]
        exact List.Perm.append_left us pm
      refine ⟨_, left.eraseIdx d.toNat, us ++ [left[d.toNat]], rfl, ?_, ?_, by rw [List.length_append, lu]; rfl, pm2.nodup_iff.mpr nu, ?_, fun u hu => sub u (pm2.mem_iff.mp hu), ?_⟩
      · rw [upd_ne nlf', upd_same, map_erase]
      · rw [upd_same, List.map_append]
        rfl
      · have := List.length_eraseIdx_of_lt hd
        omega
      · exact ((Go.trans g g3).over nll nlp).over (show H lf = none from Same.free Sl nlf) nfp
    case fin =>
      rintro σ H1 ⟨s5, left, us, rfl, hl, hf, lu, nu, ll1, sub, g⟩
      exact ⟨_, rfl, q lf us H1 lu ((List.nodup_append.mp nu).1) (fun u hu => sub u (List.mem_append_left _ hu)) hf nfp g⟩
theorem two_of {α : Type} {us : List α} (h : us.length = 2) : ∃ u v, us = [u, v] := by
  match us, h with
  | [u, v], _ => exact ⟨u, v, rfl⟩
theorem third_of {α : Type} [DecidableEq α] (u v : α) {ws : List α} (nd : ws.Nodup) (h : 3 ≤ ws.length) : ∃ x, x ∈ ws ∧ x ≠ u ∧ x ≠ v := by
  match ws, nd, h with
  | x :: y :: z :: r, nd, _ =>
    rw [List.nodup_cons, List.nodup_cons] at nd
    obtain ⟨h1, h2, h3⟩ := nd
    simp only [List.mem_cons, not_or] at h1 h2
    by_cases a : x ≠ u ∧ x ≠ v
    · exact ⟨x, by simp, a⟩
    · by_cases b : y ≠ u ∧ y ≠ v
      · exact ⟨y, by simp, b⟩
      · refine ⟨z, by simp, fun e => ?_, fun e => ?_⟩ <;> subst e <;> grind
theorem ok__law_step {fd : FuncData} (F : Fun K "_law_step" "_law_step" s__law_step a._law_step fd) (T : Txt K mg a)
    {fd__law_of : FuncData} (G__law_of : Fn P w K mg base CX0 2 a._law_of fd__law_of ["_law_pot_here", "_law_some_here"] spOf) (b__law_of : Binds K fd__law_of ["_law_pot_here", "_law_some_here"] [])
    {fd__law_take : FuncData} (G__law_take : Fn P w K mg base CX0 1 a._law_take fd__law_take ["_law_pot_here", "_law_upto"] spTake) (b__law_take : Binds K fd__law_take ["_law_pot_here", "_law_upto"] [])
    {fd__law_some : FuncData} (G__law_some : Fn P w K mg base CX0 2 a._law_some fd__law_some ["_law_pot_here", "_law_pool", "_law_many"] spSome) (b__law_some : Binds K fd__law_some ["_law_pot_here", "_law_pool", "_law_many"] []) :
    Fn P w K mg base CX0 3 a._law_step fd ["_law_pot_here", "_law_names"] spStep := by
  refine ok F sc__law_step (fun vs H Q E h => ?len) (fun cdv A outer s H vs Q E hq hr h => ⟨_,
      (pss_cons (ps_asg (pe_fn G__law_some hq (hr.mono (by omega)) (by rfl) T.g__law_some T.k__law_some b__law_some .nil pass0 (pa_cons (pv 0) (pa_cons (pv 1) (pa_cons pe_int pa_nil)))) (pg_unl rfl (pgs_cons (pg_name (i := 2) sc__law_step.nd rfl (Or.inr rfl)) (pgs_cons (pg_name (i := 3) sc__law_step.nd rfl (Or.inr rfl)) pgs_nil))))
      (Evl.pss_cut (ps_setLc (i := 4) (own := [("_law_name", 6)]) (g := gName 6) (tt := _) rfl sc__law_step.nd rfl rfl (sw_true rfl rfl rfl (by decide +kernel)) (pi_list (pv 1)) (blkOk_by (own := [("_law_name", 6)]) (N := ["_law_pot_here", "_law_names", "_law_one", "_law_other", "_law_rest", "_law_mark", "_law_name"]) (sc := defScope s__law_step) (by decide +kernel)) (fun _ _ _ _ _ => (pg_name (i := 6) sc__law_step.nd rfl (Or.inl rfl))) (fun _ _ _ _ _ => (pts_one (pt_cmpR (show OpR _ _ (rIn K true) from op_notIn_seq) (pv 6) (pe_tup (pa_cons (pv 2) (pa_cons (pv 3) pa_nil))) (by with_unfolding_all rfl)))) (fun _ _ _ _ _ => (pv 6)))
      (Evl.pss_cut (ps_set (i := 5) sc__law_step.nd rfl (Or.inl rfl) (pe_ifExp (pt_cmpR op_gt (pe_fn G__law_take hq (hr.mono (by omega)) (by rfl) T.g__law_take T.k__law_take b__law_take .nil pass0 (pa_cons (pv 0) (pa_cons pe_int pa_nil))) pe_int (nomark _)) (pe_fn G__law_of hq (hr.mono (by omega)) (by rfl) T.g__law_of T.k__law_of b__law_of .nil pass0 (pa_cons (pv 0) (pa_cons (pv 4) pa_nil))) (pe_fn G__law_of hq (hr.mono (by omega)) (by rfl) T.g__law_of T.k__law_of b__law_of .nil pass0 (pa_cons (pv 0) (pa_cons (pv 1) pa_nil)))))
      (pss_one (ps_ret (pe_tup (pa_cons (pe_fn G__law_of hq (hr.mono (by omega)) (by rfl) T.g__law_of T.k__law_of b__law_of .nil pass0 (pa_cons (pv 0) (pa_cons (pe_lstS (pa_cons pe_str (pa_cons pe_str (pa_cons pe_str pa_nil)))) pa_nil))) (pa_cons (pv 5) (pa_cons (pe_fn G__law_of hq (hr.mono (by omega)) (by rfl) T.g__law_of T.k__law_of b__law_of .nil pass0 (pa_cons (pv 0) (pa_cons (pe_lstS (pa_cons pe_str (pa_cons pe_str pa_nil))) pa_nil))) (pa_cons (pv 2) (pa_cons (pv 3) pa_nil))))))))))), ?body⟩)
  case len => obtain ⟨p, s, n, ws, rfl, _⟩ := h; rfl
  case body =>
    obtain ⟨p, sA, n, ws, rfl, nsp, pot, hn, hs, nms, q⟩ := h
    obtain ⟨nm1, nd, l3, l100⟩ := id nms
    refine ⟨_, rfl, _, rfl, p, sA, 2, n, ws, rfl, nsp, pot, by omega, hs, by omega, l100, nd, fun l us H1 lu nu su hl nlp g1 => ?_⟩
    obtain ⟨u, v, rfl⟩ := two_of lu
    refine ⟨l, _, rfl, SqL.of hl, rfl, _, _, rfl, _, _, rfl, rfl, ?_⟩
    have hs1 := g1.at hs nsp
    refine ⟨fun σ' H' => ∃ (D : Addr) (rest : List (List Nat)), σ' = [some (.ref p), some (.ref sA), some (sg u), some (sg v), some (.ref D), none, none] ∧ Same H1 H' ∧ H1 D = none ∧ H' D = some (.lst (rest.map sg)) ∧ rest ≠ [] ∧ rest.length ≤ ws.length ∧ ∀ x ∈ rest, x ∈ ws ∧ x ≠ u ∧ x ≠ v, ?rest, ?more⟩
    case rest =>
      refine ⟨_, rfl, sA, rfl, ⟨_, SqL.of hs1⟩, fun D hD => ?_⟩
      refine lc_it (walk_list (xs := ws.map sg)) (fun i H' => Same H1 H' ∧ H' D = some (.lst (((ws.take i).filter (fun x => !(decide (x = u) || decide (x = v)))).map sg))) ⟨same_new hD, upd_same⟩ (fun i H' _ h => SqL.of (h.1 _ _ hs1)) ?_ ?_
      · rintro i x H' H'' hi ⟨S', d'⟩ ⟨rfl, hx⟩
        obtain ⟨r, hr1, rfl⟩ : ∃ r, ws[i]? = some r ∧ x = sg r := by
          rw [List.getElem?_map] at hx
          cases e : ws[i]? with
          | none => rw [e] at hx; cases hx
          | some r => rw [e] at hx; cases hx; exact ⟨r, rfl, rfl⟩
        refine ⟨rfl, ?_⟩
        refine ⟨_, rfl, _, rfl, _, rfl, (by show 2 ≤ sizeLine; decide), fun t nt => ⟨_, _, rfl, .inr (SqT.of upd_same), rfl, rfl, _, rfl, ?_⟩⟩
        rw [show inV (sg r) [sg u, sg v] = (decide (r = u) || decide (r = v)) from inV2 r u v]
        have St := same_new (o := .tup [sg u, sg v]) nt
        have dt := St _ _ d'
        have tk : (ws.take (i + 1)).filter (fun x => !(decide (x = u) || decide (x = v))) = (ws.take i).filter (fun x => !(decide (x = u) || decide (x = v))) ++ if (!(decide (r = u) || decide (r = v))) = true then [r] else [] := by
          rw [List.take_add_one, hr1, List.filter_append]
          congr 1
          show List.filter _ [r] = _
          rw [List.filter_cons]
          rfl
        refine ite2 (fun c => ?_) (fun c => ?_)
        · have c : (!(decide (r = u) || decide (r = v))) = true := c
          rw [if_pos c] at tk
          refine ⟨_, rfl, _, dt, by rw [List.length_map]; have := List.length_filter_le (fun x => !(decide (x = u) || decide (x = v))) (ws.take i); rw [List.length_take] at this; rw [sizeLine_eq]; omega, fun b o e => ?_, ?_⟩
          · rw [upd_ne (ne_of_none e hD)]
            exact St _ _ (S' _ _ e)
          · rw [upd_same, tk, List.map_append]
            rfl
        · have c : ¬ (!(decide (r = u) || decide (r = v))) = true := c
          rw [if_neg c, List.append_nil] at tk
          refine ⟨S'.trans St, ?_⟩
          rw [tk]
          exact dt
      · rintro H' ⟨S', d'⟩
        rw [List.length_map, List.take_length] at d'
        refine ⟨D, _, rfl, S', hD, d', ?_, List.length_filter_le _ _, fun x hx => ?_⟩
        · obtain ⟨x, x1, x2, x3⟩ := third_of u v nd l3
          refine List.ne_nil_of_mem (a := x) (List.mem_filter.mpr ⟨x1, ?_⟩)
          rw [decide_eq_false x2, decide_eq_false x3]
          rfl
        · obtain ⟨m1, m2⟩ := List.mem_filter.mp hx
          simp only [Bool.not_eq_true', Bool.or_eq_false_iff, decide_eq_false_iff_not] at m2
          exact ⟨m1, m2.1, m2.2⟩
    case more =>
      rintro σ' H2 ⟨D, rest, rfl, S2, nD, hD, nr, lr, mem⟩
      have nDp : D ≠ p := fun z => g1.pot.has (by rw [← z]; exact nD)
      have g2 : Go p (n + 2) H H2 := ⟨g1.keep.trans (mask_mono S2), g1.pot.same S2⟩
      refine ⟨fun σ' H' => ∃ (m : List Nat) (s4 : Option V), σ' = [some (.ref p), some (.ref sA), some (sg u), some (sg v), s4, some (sg m), none] ∧ m ∈ ws ∧ Go p (n + 5) H H', ?mark, ?last⟩
      case mark =>
        refine ⟨_, rfl, p, 4, n + 2, rfl, g2.pot, by omega, by decide, by decide, fun d H3 d0 d1 g3 => ?_⟩
        refine ⟨_, _, rfl, rfl, _, rfl, ite2 (fun c => ?_) (fun c => ?_)⟩
        · refine ⟨_, rfl, _, rfl, p, D, n + 3, _, rfl, nDp, g3.pot, by omega, g3.at hD nDp, by simpa using nr, ?_, fun x H4 hx g4 => ?_⟩
          · rw [List.length_map]
            exact Nat.le_trans lr (Nat.le_trans l100 (by decide))
          · obtain ⟨m, hm, rfl⟩ := List.mem_map.mp hx
            exact ⟨m, _, rfl, (mem m hm).1, ((g2.trans g3).trans g4).mono (by omega)⟩
        · refine ⟨_, rfl, _, rfl, p, sA, n + 3, _, rfl, nsp, g3.pot, by omega, (g2.trans g3).at hs nsp, ?_, by rw [List.length_map]; omega, fun x H4 hx g4 => ?_⟩
          · intro z
            have := congrArg List.length z
            rw [List.length_map] at this
            simp at this
            rw [this] at l3
            simp at l3
          · obtain ⟨m, hm, rfl⟩ := List.mem_map.mp hx
            exact ⟨m, _, rfl, hm, ((g2.trans g3).trans g4).mono (by omega)⟩
      case last =>
        rintro σ' H3 ⟨m, s4, rfl, mw, g3⟩
        have uw := su u (by simp)
        have vw := su v (by simp)
        have huv : u ≠ v := by simpa using nu
        refine ⟨_, rfl, (by show 3 ≤ sizeLine; decide), fun l1 f1 s1 => ?_⟩
        have n1 : l1 ≠ p := fun z => g3.pot.has (by rw [← z]; exact f1)
        refine ⟨p, l1, n + 5, _, rfl, n1, g3.pot.over n1, by omega, upd_same, by simp, by decide, fun x H4 hx g4 => ?_⟩
        have g4 := Go.trans g3 (Go.of (same_new f1) g4)
        obtain ⟨wx, rfl, ox⟩ : ∃ wx, x = sg wx ∧ (decide (wx = wTow) || decide (wx = wFrom)) = true := by
          simp only [List.mem_cons, List.not_mem_nil, or_false] at hx
          rcases hx with rfl | rfl | rfl
          · exact ⟨wTow, rfl, by decide⟩
          · exact ⟨wFrom, rfl, by decide⟩
          · exact ⟨wTow, rfl, by decide⟩
        refine ⟨_, rfl, _, rfl, (by show 2 ≤ sizeLine; decide), fun l2 f2 s2 => ?_⟩
        have n2 : l2 ≠ p := fun z => g4.pot.has (by rw [← z]; exact f2)
        refine ⟨p, l2, n + 5 + 1, _, rfl, n2, g4.pot.over n2, by omega, upd_same, by simp, by decide, fun y H5 hy g5 => ?_⟩
        have g5 := Go.trans g4 (Go.of (same_new f2) g5)
        obtain ⟨wy, rfl, oy⟩ : ∃ wy, y = sg wy ∧ (decide (wy = wUnt) || decide (wy = wBet)) = true := by
          simp only [List.mem_cons, List.not_mem_nil, or_false] at hy
          rcases hy with rfl | rfl
          · exact ⟨wUnt, rfl, by decide⟩
          · exact ⟨wBet, rfl, by decide⟩
        refine ⟨_, rfl, _, rfl, (by show 5 ≤ sizeLine; decide), fun t nt => ?_⟩
        refine q t [wx, m, wy, u, v] _ ?_ upd_same ?_
        · show ((decide (wx = wTow) || decide (wx = wFrom)) && (decide (wy = wUnt) || decide (wy = wBet)) && nm m && (nm u && nm v && !decide (u = v))) = true
          rw [ox, oy, nm1 m mw, nm1 u uw, nm1 v vw, decide_eq_false huv]
          rfl
        · exact (g5.mono (by omega)).fwd (same_new nt)
end
end My

namespace My
open PySem PySem.Spec PyProof.Rows L2 G SX NumText
abbrev s__law_steps : Stmt := topS 24
theorem sc__law_steps : FnScope ["_law_pot_here", "_law_names", "_law_most", "_law_found", "_law_many", "_law_turn", "_law_left"] ["_law_pot_here", "_law_names", "_law_most"] (defScope s__law_steps) := ⟨rfl, rfl, rfl, by decide +kernel, rfl, by decide +kernel, by decide +kernel⟩

abbrev s__law_step_text : Stmt := topS 25
theorem sc__law_step_text : FnScope ["_law_step_here", "_law_part"] ["_law_step_here"] (defScope s__law_step_text) := ⟨rfl, rfl, rfl, by decide +kernel, rfl, by decide +kernel, by decide +kernel⟩

theorem row_map {x : List V} (h : ∀ v ∈ x, Prt v) : (x.map fun v => V.str (match v with | .str z => z | .int i => (toString i : String) | _ => Str.empty)) = (x.map partL).map sg := by
  rw [List.map_map]
  refine List.map_congr_left fun v hv => ?_
  rcases h v hv with ⟨z, rfl, _⟩ | ⟨n, rfl, _⟩
  · rfl
  · show V.str (Str.ofString (toString (n : Int))) = sg (intL n)
    rw [int_L]
theorem prt_sum : ∀ {x : List V}, (∀ v ∈ x, Prt v) → ((x.map partL).map List.length).sum ≤ 8 * x.length
  | [], _ => by simp
  | v :: x, h => by
    have h1 := (prt_ok (h v (by simp))).1
    have h2 := prt_sum (x := x) fun u hu => h u (by simp [hu])
    simp only [List.map_cons, List.sum_cons, List.length_cons]
    omega
section
variable {P : Program} {w : World} {K : PySem.W.Frag} {mg : Str → Option Value} {base : Heap} {a : Ad}
theorem ok__law_step_text {fd : FuncData} (F : Fun K "_law_step_text" "_law_step_text" s__law_step_text a._law_step_text fd) (T : Txt K mg a) :
    Fn P w K mg base CX0 1 a._law_step_text fd ["_law_step_here"] spStx := by
  refine ok F sc__law_step_text (fun vs H Q E h => ?len) (fun cdv A outer s H vs Q E hq hr h => ⟨_,
      (pss_one (ps_ret (pe_join pe_str (pe_lc (own := [("_law_part", 1)]) (g := gName 1) (tt := tYes) rfl sc__law_step_text.nd (pi_tup (pv 0)) (blkOk_by (own := [("_law_part", 1)]) (N := ["_law_step_here", "_law_part"]) (sc := defScope s__law_step_text) (by decide +kernel)) (fun _ _ _ _ _ => (pg_name (i := 1) sc__law_step_text.nd rfl (Or.inl rfl))) (fun _ _ _ _ _ => pts_nil) (fun _ _ _ _ _ => (pe_callTy call_strA (by rfl) T.n_str (by decide +kernel) (pa_cons (pv 1) pa_nil))))))), ?body⟩)
  case len => obtain ⟨t, x, rfl, _⟩ := h; rfl
  case body =>
    obtain ⟨t, x, rfl, ht, hp, hl, q⟩ := h
    have hz := sizeLine_eq
    refine ⟨⟨_, rfl⟩, _, rfl, t, rfl, ⟨_, SqT.of ht⟩, fun D hD => ?_⟩
    refine lc_it (walk_tup (xs := x)) (fun i H' => Same H H' ∧ H' D = some (.lst (((x.take i).map partL).map sg))) ⟨same_new hD, upd_same⟩ (fun i H' _ h => SqT.of (h.1 _ _ ht)) ?_ ?_
    · rintro i v H' H'' hi ⟨S', d'⟩ ⟨rfl, hx⟩
      have pv := hp v (List.mem_of_getElem? hx)
      have nx : ∀ H2, H2 = H'' → ∃ acc, H2 D = some (.lst acc) ∧ acc.length < sizeLine ∧ (Same H (upd H2 D (.lst (acc ++ [sg (partL v)]))) ∧ upd H2 D (.lst (acc ++ [sg (partL v)])) D = some (.lst (((x.take (i + 1)).map partL).map sg))) := by
        rintro H2 rfl
        refine ⟨_, d', by rw [List.length_map, List.length_map, List.length_take]; omega, fun b o e => ?_, ?_⟩
        · rw [upd_ne (ne_of_none e hD)]
          exact S' _ _ e
        · rw [upd_same, List.take_add_one, hx, List.map_append, List.map_append]
          rfl
      refine ⟨rfl, ?_⟩
      refine ⟨_, rfl, ?_⟩
      rcases pv with ⟨z, rfl, _⟩ | ⟨n, rfl, hn⟩
      · exact .inr ⟨S z, rfl, nx _ rfl⟩
      · refine .inl ⟨(n : Int), rfl, by show (n : Int).natAbs.log2 < 1920; exact Nat.lt_of_le_of_lt (Nat.log2_le_self _) (by omega), ?_⟩
        have e : V.str (Str.ofString (toString (n : Int))) = sg (partL (.int (n : Nat))) := congrArg V.str (int_L n)
        rw [show V.str ((toString (n : Int) : String) : Str) = V.str (Str.ofString (toString (n : Int))) from rfl, e]
        exact nx _ rfl
    · rintro H' ⟨S', d'⟩
      rw [List.take_length] at d'
      refine ⟨S [32], D, (x.map partL).map S, rfl, rfl, .inl (SqL.of (by rw [List.map_map, List.map_map] at *; exact d')), ?_, ?_⟩
      · rw [List.map_map, show ((fun x : Str => x.length) ∘ S) = List.length from funext fun l => S_len l, List.length_map, List.length_map, hl]
        have := prt_sum hp
        rw [hl] at this
        show _ + 5 * 1 ≤ _
        omega
      · rw [join_S]
        exact q _ S'
theorem ok__law_steps {fd : FuncData} (F : Fun K "_law_steps" "_law_steps" s__law_steps a._law_steps fd) (T : Txt K mg a)
    {fd__law_take : FuncData} (G__law_take : Fn P w K mg base CX0 1 a._law_take fd__law_take ["_law_pot_here", "_law_upto"] spTake) (b__law_take : Binds K fd__law_take ["_law_pot_here", "_law_upto"] [])
    {fd__law_some : FuncData} (G__law_some : Fn P w K mg base CX0 2 a._law_some fd__law_some ["_law_pot_here", "_law_pool", "_law_many"] spSome) (b__law_some : Binds K fd__law_some ["_law_pot_here", "_law_pool", "_law_many"] [])
    {fd__law_step : FuncData} (G__law_step : Fn P w K mg base CX0 3 a._law_step fd__law_step ["_law_pot_here", "_law_names"] spStep) (b__law_step : Binds K fd__law_step ["_law_pot_here", "_law_names"] []) :
    Fn P w K mg base CX0 4 a._law_steps fd ["_law_pot_here", "_law_names", "_law_most"] spSteps := by
  refine ok F sc__law_steps (fun vs H Q E h => ?len) (fun cdv A outer s H vs Q E hq hr h => ⟨_,
      (pss_cons (ps_set (i := 3) sc__law_steps.nd rfl (Or.inl rfl) (pe_lstS (pa_cons (pe_fn G__law_step hq (hr.mono (by omega)) (by rfl) T.g__law_step T.k__law_step b__law_step .nil pass0 (pa_cons (pv 0) (pa_cons (pv 1) pa_nil))) pa_nil)))
      (pss_cons (ps_set (i := 4) sc__law_steps.nd rfl (Or.inl rfl) (pe_fn G__law_take hq (hr.mono (by omega)) (by rfl) T.g__law_take T.k__law_take b__law_take .nil pass0 (pa_cons (pv 0) (pa_cons (pv 2) pa_nil))))
      (pss_cons (ps_for PassesOwn.never rfl (pi_range1 (by rfl) T.n_range (pa_cons (pv 4) pa_nil)) (pg_name (i := 5) sc__law_steps.nd rfl (Or.inl rfl)) (pss_cons (ps_set (i := 6) sc__law_steps.nd rfl (Or.inl rfl) (pe_op op_sub (pe_op op_sub (pv 4) (pv 5)) pe_int))
      (pss_one (ps_if (PW.pt (pw_and (pt_cmpR op_gt (pv 6) pe_int (nomark _)) (pw_and1 (pt_cmpR op_eq (pe_fn G__law_take hq (hr.mono (by omega)) (by rfl) T.g__law_take T.k__law_take b__law_take .nil pass0 (pa_cons (pv 0) (pa_cons pe_int pa_nil))) pe_int (nomark _))))) (pss_one (ps_expr (pe_bm PySem.F.plainAttrs_list PySem.F.slot_list_append PySem.F.type_list_append mt_append (pv 3) (pa_cons (pe_op op_catA (pe_tup (pa_cons pe_str (pa_cons (pe_op op_add pe_int (pe_fn G__law_take hq (hr.mono (by omega)) (by rfl) T.g__law_take T.k__law_take b__law_take .nil pass0 (pa_cons (pv 0) (pa_cons (pv 6) pa_nil)))) (pa_cons pe_str pa_nil)))) (pe_callTy call_tuple_of (by rfl) T.n_tuple (by decide +kernel) (pa_cons (pe_fn G__law_some hq (hr.mono (by omega)) (by rfl) T.g__law_some T.k__law_some b__law_some .nil pass0 (pa_cons (pv 0) (pa_cons (pv 1) (pa_cons pe_int pa_nil)))) pa_nil))) pa_nil)))) (pss_one (ps_expr (pe_bm PySem.F.plainAttrs_list PySem.F.slot_list_append PySem.F.type_list_append mt_append (pv 3) (pa_cons (pe_fn G__law_step hq (hr.mono (by omega)) (by rfl) T.g__law_step T.k__law_step b__law_step .nil pass0 (pa_cons (pv 0) (pa_cons (pv 1) pa_nil))) pa_nil))))))))
      (pss_one (ps_ret (pv 3)))))), ?body⟩)
  case len => obtain ⟨p, s, m, n, ws, rfl, _⟩ := h; rfl
  case body =>
    obtain ⟨p, sA, m, n, ws, rfl, nsp, pot, hn, hs, nms, m1, m2, q⟩ := h
    have hz := sizeLine_eq
    refine ⟨_, rfl, _, rfl, p, sA, n, ws, rfl, nsp, pot, by omega, hs, nms, fun t0 xw0 H1 ok0 ht0 g1 => ⟨(by show 1 ≤ sizeLine; decide), fun lf nf sf => ?_⟩⟩
    have nfp : lf ≠ p := fun z => g1.pot.has (by rw [← z]; exact nf)
    have g2 := g1.fwd (same_new (o := .lst [.ref t0]) nf)
    have hf2 : upd H1 lf (.lst [.ref t0]) lf = some (.lst [.ref t0]) := upd_same
    have tu2 : Tups (upd H1 lf (.lst [.ref t0])) [t0] [xw0.map sg] := .cons (same_new nf _ _ ht0) .nil
    generalize upd H1 lf (.lst [.ref t0]) = H2 at g2 hf2 tu2 ⊢
    refine ⟨_, rfl, _, rfl, p, (m : Nat), n + 10, rfl, g2.pot, by omega, by omega, by omega, fun d H3 d0 d1 g3 => ?_⟩
    obtain ⟨k, rfl⟩ : ∃ k : Nat, d = (k : Int) := ⟨d.toNat, by omega⟩
    obtain ⟨Pv, hPv⟩ : ∃ Pv : Nat → L2.St → Hp → Prop, ∀ i σ H', Pv i σ H' ↔ ∃ (s5 s6 : Option V) (ts : List Addr) (xs : List (List V)), σ = [some (.ref p), some (.ref sA), some (.int (m : Nat)), some (.ref lf), some (.int (k : Nat)), s5, s6] ∧ H' lf = some (.lst (ts.map V.ref)) ∧ Tups H' ts xs ∧
      xs.length = i + 1 ∧ (∀ (j : Nat) (x : List V), xs[j]? = some x → Row x (j == 0) (k - j)) ∧ Go p (n + 11 + 12 * i) H H' := ⟨_, fun _ _ _ => Iff.rfl⟩
    refine ⟨_, rfl, (k : Nat), rfl, by omega, by omega, for_it walk_range Pv ?start (fun _ _ _ _ _ => trivial) ?turn ?fin⟩
    case start =>
      refine (hPv _ _ _).mpr ⟨none, none, [t0], [xw0.map sg], rfl, g3.at hf2 nfp, tu2.go g3 ⟨_, g2.pot⟩, rfl, fun j x hx => ?_, (g2.trans g3).mono (by omega)⟩
      have : j < 1 := by simpa using (List.getElem?_eq_some_iff.mp hx).1
      have : j = 0 := by omega
      subst this
      cases hx
      exact row_T ok0 _ _
    case turn =>
      rintro i x σ H4 H5 hi pv ⟨rfl, rfl⟩
      obtain ⟨s5, s6, ts, xs, rfl, hf, tu, lx, rows, g4⟩ := (hPv _ _ _).mp pv
      have hi : i < k := by omega
      have lt := tu.length
      have hs4 := g4.at hs nsp
      refine ⟨_, rfl, _, rfl, _, _, rfl, rfl, _, _, rfl, rfl, ?_⟩
      have nxt : ∀ (H6 : Hp) (t : Addr) (y : List V), Row y ((i + 1) == 0) (k - (i + 1)) → H6 lf = some (.lst (ts.map V.ref)) → Tups H6 ts xs → H6 t = some (.tup y) → Go p (n + 11 + 12 * (i + 1)) H H6 →
          Pv (i + 1) [some (V.ref p), some (.ref sA), some (.int (m : Nat)), some (.ref lf), some (.int (k : Nat)), some (.int (0 + (i : Nat))), some (.int ((k : Nat) - (0 + (i : Nat)) - 1))] (upd H6 lf (.lst (ts.map V.ref ++ [.ref t]))) := by
        intro H6 t y hy h6 tu6 ht g6
        have nt : t ≠ lf := fun z => by rw [z, h6] at ht; cases ht
        refine (hPv _ _ _).mpr ⟨_, _, ts ++ [t], xs ++ [y], rfl, by rw [upd_same, List.map_append]; rfl, PySem.Paired.snoc (tu6.list h6) (by rw [upd_ne nt]; exact ht), by rw [List.length_append, lx]; rfl, fun j x hx => ?_, ?_⟩
        · rcases Nat.lt_or_ge j xs.length with l | l
          · rw [List.getElem?_append_left l] at hx
            exact rows j x hx
          · rw [List.getElem?_append_right l] at hx
            have : j - xs.length < 1 := by simpa using (List.getElem?_eq_some_iff.mp hx).1
            have ej : j = i + 1 := by omega
            rw [show j - xs.length = 0 by omega] at hx
            cases hx
            rw [ej]
            exact hy
        · exact ⟨fun b o e => by
            have hb : b ≠ p := fun z => by rw [z, wo_same] at e; cases e
            rw [wo_ne hb]
            have e' := g6.keep b o e
            rw [wo_ne hb] at e' e
            have : b ≠ lf := fun z => by
              rw [z] at e
              have := g1.at e nfp
              rw [nf] at this
              cases this
            rw [upd_ne this]
            exact e', g6.pot.over nfp⟩
      refine ⟨_, rfl, _, _, rfl, rfl, _, rfl, ite2 (fun c => ?_) (fun c => ?_)⟩
      · have c : (0 : Int) < (k : Nat) - (0 + (i : Nat)) - 1 := of_decide_eq_true c
        refine ⟨_, rfl, p, 4, n + 11 + 12 * i, rfl, g4.pot, by omega, by decide, by decide, fun d H6 d0 d1 g6 => ?_⟩
        refine ⟨rfl, _, rfl, ite2 (fun c2 => ?_) (fun c2 => ?_)⟩
        · have hf6 := g6.at hf nfp
          have tu6 := Tups.go g6 ⟨_, g4.pot⟩ tu
          refine ⟨_, rfl, .inl ⟨rfl, _, SqL.of hf6⟩, _, rfl, _, rfl, p, _, n + 11 + 12 * i + 1, rfl, g6.pot, by omega, by omega, by omega, fun e H7 e0 e1 g7 => ?_⟩
          obtain ⟨r, rfl⟩ : ∃ r : Nat, e = (r : Int) := ⟨e.toNat, by omega⟩
          refine ⟨_, _, rfl, rfl, (by show 3 ≤ sizeLine; decide), fun t1 f1 => ?_⟩
          have n1 : t1 ≠ p := fun z => g7.pot.has (by rw [← z]; exact f1)
          have g8 := ((Go.trans g4 g6).trans g7).fwd (same_new (o := .tup [.str "skip", .int (1 + (r : Nat)), .str "left"]) f1)
          have hf8 := same_new (o := .tup [.str "skip", .int (1 + (r : Nat)), .str "left"]) f1 _ _ (g7.at hf6 nfp)
          have tu8 := (Tups.go g7 ⟨_, g6.pot⟩ tu6).same (same_new (o := .tup [.str "skip", .int (1 + (r : Nat)), .str "left"]) f1)
          have ht8 : upd H7 t1 (.tup [.str "skip", .int (1 + (r : Nat)), .str "left"]) t1 = some (.tup [.str "skip", .int (1 + (r : Nat)), .str "left"]) := upd_same
          refine ⟨_, rfl, _, rfl, p, sA, 2, n + 11 + 12 * i + 1 + 1, ws, rfl, nsp, g8.pot, by omega, g8.at hs nsp, by have := nms.2.2.1; omega, nms.2.2.2, nms.2.1, fun l us H9 lu nu su hl nlp g9 => ?_⟩
          obtain ⟨u, v, rfl⟩ := two_of lu
          refine ⟨l, _, rfl, .inl ⟨SqL.of hl, fun t2 f2 => ?_⟩⟩
          have S2 := same_new (o := .tup ([u, v].map sg)) f2
          refine catA_any (S2 _ _ (g9.at ht8 n1)) upd_same (by show 3 + 2 ≤ 100000; decide) fun c H10 S10 ec _ => ?_
          have S11 := S2.trans S10
          refine ⟨lf, _, _, rfl, rfl, S11 _ _ (g9.at hf8 nfp), by rw [List.length_map]; omega, ?_⟩
          have uw := su u (by simp)
          have vw := su v (by simp)
          have huv : u ≠ v := by simpa using nu
          refine nxt _ c [sg wSkip, .int ((1 + r : Nat)), sg wLeft, sg u, sg v] ?_ (S11 _ _ (g9.at hf8 nfp)) ((Tups.go g9 ⟨_, g8.pot⟩ tu8).same S11) ?_ (((Go.trans g8 g9).fwd S11).mono (by omega))
          · rw [show ((i + 1) == 0) = false from beq_eq_false_iff_ne.mpr (by omega)]
            exact row_S (nms.1 u uw) (nms.1 v vw) huv (by omega) (by omega) (by omega)
          · rw [ec]
            show some (HO.tup [sg wSkip, .int (1 + (r : Int)), sg wLeft, sg u, sg v]) = _
            rw [show (1 + (r : Int)) = ((1 + r : Nat) : Int) by omega]
        · refine ⟨_, rfl, .inl ⟨rfl, _, SqL.of (g6.at hf nfp)⟩, _, rfl, _, rfl, p, sA, n + 11 + 12 * i + 1, ws, rfl, nsp, g6.pot, by omega, g6.at hs4 nsp, nms, fun t xw H7 ok ht g7 => ?_⟩
          refine ⟨lf, _, _, rfl, rfl, g7.at (g6.at hf nfp) nfp, by rw [List.length_map]; omega, ?_⟩
          exact nxt _ t _ (row_T ok _ _) (g7.at (g6.at hf nfp) nfp) (Tups.go g7 ⟨_, g6.pot⟩ (Tups.go g6 ⟨_, g4.pot⟩ tu)) ht ((Go.trans (Go.trans g4 g6) g7).mono (by omega))
      · refine ⟨_, rfl, .inl ⟨rfl, _, SqL.of hf⟩, _, rfl, _, rfl, p, sA, n + 11 + 12 * i, ws, rfl, nsp, g4.pot, by omega, hs4, nms, fun t xw H7 ok ht g7 => ?_⟩
        refine ⟨lf, _, _, rfl, rfl, g7.at hf nfp, by rw [List.length_map]; omega, ?_⟩
        exact nxt _ t _ (row_T ok _ _) (g7.at hf nfp) (Tups.go g7 ⟨_, g4.pot⟩ tu) ht ((Go.trans g4 g7).mono (by omega))
    case fin =>
      rintro σ H4 pv
      obtain ⟨s5, s6, ts, xs, rfl, hf, tu, lx, rows, g4⟩ := (hPv _ _ _).mp pv
      have lx : xs.length = k + 1 := by omega
      refine ⟨_, rfl, q lf ts xs H4 (fun j x hx => ?_) (fun z => by rw [z] at lx; cases lx) (by omega) hf tu (g4.mono (by omega))⟩
      have := rows j x hx
      rw [lx, show k + 1 - j - 1 = k - j by omega]
      exact this
end
end My

namespace My
open PySem PySem.Spec PyProof.Rows L2 G SX NumText
abbrev s__law_step_in : Stmt := topS 26
theorem sc__law_step_in : FnScope ["_law_line", "_law_left", "_law_is_first", "_law_words", "_law_number"] ["_law_line", "_law_left", "_law_is_first"] (defScope s__law_step_in) := ⟨rfl, rfl, rfl, by decide +kernel, rfl, by decide +kernel, by decide +kernel⟩

abbrev s__law_read : Stmt := topS 27
theorem sc__law_read : FnScope ["_law_text", "_law_rows", "_law_found", "_law_at", "_law_row", "_law_step_here"] ["_law_text"] (defScope s__law_read) := ⟨rfl, rfl, rfl, by decide +kernel, rfl, by decide +kernel, by decide +kernel⟩

def spIn : Sp := fun vs H Q _ => ∃ (l : List Nat) (m : Nat) (f : Bool), vs = [sg l, .int (m : Nat), .bl f] ∧ l.length ≤ 20000 ∧ m ≤ 1000 ∧ Got (stV (spW l) f m) H Q
def spRead : Sp := fun vs H Q _ => ∃ (l : List Nat), vs = [sg l] ∧ l.length ≤ 20000 ∧ (spR l).length ≤ 1000 ∧
  (∀ ys, rd (spR l) 0 = .inr ys → ∀ t lf ts H', Same H H' → H' t = some (.tup [.int 0, .ref lf]) → H' lf = some (.lst (ts.map V.ref)) → Tups H' ts ys → Q (.ref t) H') ∧
  (∀ n, rd (spR l) 0 = .inl n → ∀ t H', Same H H' → H' t = some (.tup [.int (n : Nat), .non]) → Q (.ref t) H')
def numsV (m : Nat) : List V := (List.range m).map fun i => sg (TL.numL (i + 1))
theorem inNums (b : List Nat) (m : Nat) : inV (sg b) (numsV m) = skN b m := by
  rw [Bool.eq_iff_iff, skN_iff]
  unfold inV numsV
  rw [List.any_map, List.any_eq_true]
  constructor
  · rintro ⟨i, hi, e⟩
    have e : eqV (sg (TL.numL (i + 1))) (sg b) = true := e
    rw [eqV_sg] at e
    exact ⟨i + 1, by omega, by have := List.mem_range.mp hi; omega, (of_decide_eq_true e).symm⟩
  · rintro ⟨n, h1, h2, rfl⟩
    refine ⟨n - 1, List.mem_range.mpr (by omega), ?_⟩
    show eqV (sg (TL.numL (n - 1 + 1))) (sg (TL.numL n)) = true
    rw [eqV_sg, show n - 1 + 1 = n by omega]
    exact decide_eq_true rfl
theorem flatNums (m : Nat) : (numsV m).all flatV = true := by
  unfold numsV
  rw [List.all_map]
  exact List.all_eq_true.mpr fun _ _ => rfl
theorem stV_none {ws : List (List Nat)} {f : Bool} {m : Nat} (h1 : okT ws = false) (h2 : f = true ∨ okS m ws = false) : stV ws f m = none := by
  unfold stV stT
  rw [h1]
  show (if f = true then none else stS m ws) = none
  rcases h2 with h | h
  · rw [if_pos h]
  · unfold stS
    rw [h]
    simp
section
variable {P : Program} {w : World} {K : PySem.W.Frag} {mg : Str → Option Value} {base : Heap} {a : Ad}
theorem ok__law_step_in {fd : FuncData} (F : Fun K "_law_step_in" "_law_step_in" s__law_step_in a._law_step_in fd) (T : Txt K mg a)
    {fd__law_is_name : FuncData} (G__law_is_name : Fn P w K mg base CX0 1 a._law_is_name fd__law_is_name ["_law_value"] spNm) (b__law_is_name : Binds K fd__law_is_name ["_law_value"] []) :
    Fn P w K mg base CX0 2 a._law_step_in fd ["_law_line", "_law_left", "_law_is_first"] spIn := by
  refine ok F sc__law_step_in (fun vs H Q E h => ?len) (fun cdv A outer s H vs Q E hq hr h => ⟨_,
      (pss_cons (ps_set (i := 3) sc__law_step_in.nd rfl (Or.inl rfl) (pe_m1 PySem.F.slot_str_split PySem.F.type_str_split mt_split (pv 0) pe_str))
      (pss_cons (ps_if (PW.pt (pw_or (pt_cmpR op_ne (pe_callB call_len_seq (by rfl) T.n_len (by decide +kernel) (pa_cons (pv 3) pa_nil)) pe_int (nomark _)) (pw_or (pt_not (pt_val (pe_fn G__law_is_name hq (hr.mono (by omega)) (by rfl) T.g__law_is_name T.k__law_is_name b__law_is_name .nil pass0 (pa_cons (pe_ix ix_list (pv 3) pe_int (fun _ _ => rfl)) pa_nil)))) (pw_or (pt_not (pt_val (pe_fn G__law_is_name hq (hr.mono (by omega)) (by rfl) T.g__law_is_name T.k__law_is_name b__law_is_name .nil pass0 (pa_cons (pe_ix ix_list (pv 3) pe_int (fun _ _ => rfl)) pa_nil)))) (pw_or1 (pt_cmpR op_eq (pe_ix ix_list (pv 3) pe_int (fun _ _ => rfl)) (pe_ix ix_list (pv 3) pe_int (fun _ _ => rfl)) (nomark _))))))) (pss_one (ps_ret pe_non)) pss_nil)
      (pss_cons (ps_if (pt_cmpR op_eq (pe_ix ix_list (pv 3) pe_int (fun _ _ => rfl)) pe_str (nomark _)) (pss_cons (ps_if (PW.pt (pw_or (pt_cmpR op_notIn_seq (pe_ix ix_list (pv 3) pe_int (fun _ _ => rfl)) (pe_lc (own := [("_law_number", 4)]) (g := gName 4) (tt := tYes) rfl sc__law_step_in.nd (pi_range2 (by rfl) T.n_range (pa_cons pe_int (pa_cons (pe_op op_add (pv 1) pe_int) pa_nil))) (blkOk_by (own := [("_law_number", 4)]) (N := ["_law_line", "_law_left", "_law_is_first", "_law_words", "_law_number"]) (sc := defScope s__law_step_in) (by decide +kernel)) (fun _ _ _ _ _ => (pg_name (i := 4) sc__law_step_in.nd rfl (Or.inl rfl))) (fun _ _ _ _ _ => pts_nil) (fun _ _ _ _ _ => (pe_callTy call_str_int (by rfl) T.n_str (by decide +kernel) (pa_cons (pv 4) pa_nil)))) (by with_unfolding_all rfl)) (pw_or (pt_cmpR op_ne (pe_ix ix_list (pv 3) pe_int (fun _ _ => rfl)) pe_str (nomark _)) (pw_or1 (pt_val (pv 2)))))) (pss_one (ps_ret pe_non)) pss_nil)
      (pss_one (ps_ret (pe_tup (pa_cons pe_str (pa_cons (pe_callTy call_int_str (by rfl) T.n_int (by decide +kernel) (pa_cons (pe_ix ix_list (pv 3) pe_int (fun _ _ => rfl)) pa_nil)) (pa_cons pe_str (pa_cons (pe_ix ix_list (pv 3) pe_int (fun _ _ => rfl)) (pa_cons (pe_ix ix_list (pv 3) pe_int (fun _ _ => rfl)) pa_nil))))))))) pss_nil)
      (pss_cons (ps_if (PW.pt (pw_or (pt_cmpR op_notIn_seq (pe_ix ix_list (pv 3) pe_int (fun _ _ => rfl)) (pe_tup (pa_cons pe_str (pa_cons pe_str pa_nil))) (by with_unfolding_all rfl)) (pw_or (pt_not (pt_val (pe_fn G__law_is_name hq (hr.mono (by omega)) (by rfl) T.g__law_is_name T.k__law_is_name b__law_is_name .nil pass0 (pa_cons (pe_ix ix_list (pv 3) pe_int (fun _ _ => rfl)) pa_nil)))) (pw_or1 (pt_cmpR op_notIn_seq (pe_ix ix_list (pv 3) pe_int (fun _ _ => rfl)) (pe_tup (pa_cons pe_str (pa_cons pe_str pa_nil))) (by with_unfolding_all rfl)))))) (pss_one (ps_ret pe_non)) pss_nil)
      (pss_one (ps_ret (pe_callTy call_tuple_of (by rfl) T.n_tuple (by decide +kernel) (pa_cons (pv 3) pa_nil)))))))), ?body⟩)
  case len => obtain ⟨l, m, f, rfl, _⟩ := h; rfl
  case body =>
    obtain ⟨l, m, f, rfl, hl, hm, q⟩ := h
    have hz := sizeLine_eq
    refine ⟨_, rfl, ⟨_, rfl⟩, S l, S [32], rfl, rfl, rfl, by rw [S_len, sizeLine_eq]; omega, fun lw nlw => ?_⟩
    obtain ⟨n1, n2⟩ := spl_len 32 l.length l (Nat.le_refl _)
    have e0 : upd H lw (.lst ((Txt.split (S l) (S [32])).map V.str)) lw = some (.lst ((spW l).map sg)) := upd_same.trans (by rw [split_S (by simp) (by decide), List.map_map]; rfl)
    replace q := q.same (same_new (o := .lst ((Txt.split (S l) (S [32])).map V.str)) nlw)
    generalize upd H lw (.lst ((Txt.split (S l) (S [32])).map V.str)) = H1 at e0 q ⊢
    obtain ⟨ws, hws⟩ : ∃ ws, ws = spW l := ⟨_, rfl⟩
    have q : Got (stV ws f m) H1 Q := by rw [hws]; exact q
    have e0 : H1 lw = some (.lst (ws.map sg)) := by rw [hws]; exact e0
    have n2 : ∀ w ∈ ws, w.length ≤ 20000 := fun w hw => by rw [hws] at hw; exact Nat.le_trans (n2 w hw) hl
    clear hws n1 nlw
    have no : ∀ {H'}, okT ws = false → (f = true ∨ okS m ws = false) → Same H1 H' → Q .non H' := fun h1 h2 S => q.2 (stV_none h1 h2) _ S
    refine ⟨_, rfl, _, _, rfl, .inl (SqL.of e0), rfl, _, rfl, ?_⟩
    by_cases c5 : ¬ ws.length = 5
    · rw [decide_eq_false (by rw [List.length_map]; intro z; exact c5 (by have := V.int.inj z; omega))]
      have e1 : okT ws = false := by
        unfold okT
        match ws, c5 with
        | [], _ => rfl
        | [_], _ => rfl
        | [_, _], _ => rfl
        | [_, _, _], _ => rfl
        | [_, _, _, _], _ => rfl
        | [_, _, _, _, _], c5 => exact absurd rfl c5
        | _ :: _ :: _ :: _ :: _ :: _ :: _, _ => rfl
      have e2 : okS m ws = false := by
        unfold okS
        match ws, c5 with
        | [], _ => rfl
        | [_], _ => rfl
        | [_, _], _ => rfl
        | [_, _, _], _ => rfl
        | [_, _, _, _], _ => rfl
        | [_, _, _, _, _], c5 => exact absurd rfl c5
        | _ :: _ :: _ :: _ :: _ :: _ :: _, _ => rfl
      exact iteT (iteT (no e1 (.inr e2) (Same.refl _)))
    obtain ⟨a1, b1, c1, d1, e1, rfl⟩ := five (Decidable.not_not.mp c5)
    clear c5
    have oT : okT [a1, b1, c1, d1, e1] = ((decide (a1 = wTow) || decide (a1 = wFrom)) && (decide (c1 = wUnt) || decide (c1 = wBet)) && nm b1 && two d1 e1) := rfl
    have oS : okS m [a1, b1, c1, d1, e1] = (decide (a1 = wSkip) && decide (c1 = wLeft) && two d1 e1 && skN b1 m) := rfl
    have no2 : ∀ {H'}, two d1 e1 = false → Same H1 H' → Q .non H' := fun h S => no (by rw [oT, h, Bool.and_false]) (.inr (by rw [oS, h]; simp)) S
    refine iteNS rfl ?_
    refine ⟨_, rfl, _, _, _, _, rfl, rfl, SqL.of e0, rfl, d1, rfl, by have := n2 d1 (by simp); omega, fun H2 S2 => ⟨_, rfl, iteN (fun b => iteT (no2 ?_ S2)) (fun b => ?_)⟩⟩
    · unfold two
      rw [b]
      rfl
    refine ⟨_, rfl, _, _, _, _, rfl, rfl, SqL.of (S2 _ _ e0), rfl, e1, rfl, by have := n2 e1 (by simp); omega, fun H3 S3' => ⟨_, rfl, iteN (fun b2 => iteT (no2 ?_ (S2.trans S3'))) (fun b2 => ?_)⟩⟩
    · unfold two
      rw [b2, Bool.and_false]
      rfl
    have S3 := S2.trans S3'
    refine ⟨_, rfl, _, _, _, _, rfl, rfl, SqL.of (S3 _ _ e0), rfl, _, rfl, _, _, _, _, rfl, rfl, SqL.of (S3 _ _ e0), rfl, rfl, _, rfl, ?_⟩
    refine ite2 (fun c => no2 ?_ S3) (fun c => ?_)
    · unfold two
      have : d1 = e1 := sg_inj (of_decide_eq_true c)
      rw [decide_eq_true this]
      simp
    have hne : d1 ≠ e1 := fun z => c (decide_eq_true (by rw [z]))
    have htwo : two d1 e1 = true := by
      unfold two
      rw [b, b2, decide_eq_false hne]
      rfl
    clear c
    have q3 := q.same S3
    have e3 := S3 _ _ e0
    have no3 : ∀ {H'}, okT [a1, b1, c1, d1, e1] = false → (f = true ∨ okS m [a1, b1, c1, d1, e1] = false) → Same H3 H' → Q .non H' := fun h1 h2 S => q3.2 (stV_none h1 h2) _ S
    refine ⟨_, rfl, _, _, _, _, rfl, rfl, SqL.of e3, rfl, rfl, _, rfl, ite2 (fun c => ?_) (fun c => ?_)⟩
    · have ea : a1 = wSkip := sg_inj (b := wSkip) (of_decide_eq_true c)
      subst ea
      have oT0 : okT [wSkip, b1, c1, d1, e1] = false := by
        rw [oT, show (decide (wSkip = wTow) || decide (wSkip = wFrom)) = false by decide]
        rfl
      have hm1 : ((m : Int) + 1 - 1).toNat = m := by omega
      refine ⟨_, rfl, _, _, _, _, rfl, rfl, SqL.of e3, rfl, _, rfl, _, _, rfl, rfl, 1, (m : Int) + 1, rfl, ⟨by decide, by decide, by omega, by omega⟩, fun D hD => ?_⟩
      rw [hm1]
      refine lc_it walk_range (fun i H' => Same H3 H' ∧ H' D = some (.lst (numsV i))) ⟨same_new hD, upd_same⟩ (fun _ _ _ _ => trivial) ?_ ?_
      · rintro i x H' H'' hi ⟨S', d'⟩ ⟨rfl, rfl⟩
        refine ⟨rfl, ?_⟩
        have ln : (numsV i).length = i := by unfold numsV; rw [List.length_map, List.length_range]
        refine ⟨_, rfl, (1 + (i : Nat) : Int), rfl, by show (1 + (i : Nat) : Int).natAbs.log2 < 1920; exact Nat.lt_of_le_of_lt (Nat.log2_le_self _) (by omega), _, d', by rw [ln]; omega, fun b o e => ?_, ?_⟩
        · rw [upd_ne (ne_of_none e hD)]
          exact S' _ _ e
        · have en : numsV (i + 1) = numsV i ++ [sg (TL.numL (i + 1))] := by
            unfold numsV
            rw [List.range_succ, List.map_append]
            rfl
          have ev : V.str (Str.ofString (toString (1 + (i : Nat) : Int))) = sg (TL.numL (i + 1)) := by
            rw [show (1 + (i : Nat) : Int) = ((i + 1 : Nat) : Int) by omega]
            exact congrArg V.str (num_S (i + 1))
          rw [upd_same, en, ← ev]
      · rintro H4 ⟨S4, d4⟩
        refine ⟨D, _, rfl, .inl (SqL.of d4), rfl, flatNums m, _, rfl, ?_⟩
        show if (!inV (sg b1) (numsV m)) = true then _ else _
        rw [inNums]
        refine iteN (fun b3 => iteT (no3 oT0 (.inr (by rw [oS, b3]; simp)) S4)) (fun b3 => ?_)
        refine ⟨_, rfl, _, _, _, _, rfl, rfl, SqL.of (S4 _ _ e3), rfl, rfl, _, rfl, ?_⟩
        rw [show decide (sg c1 = V.str "left") = decide (c1 = wLeft) from decide_eq_decide.mpr ⟨sg_inj (b := wLeft), fun z => by rw [z]; rfl⟩]
        refine iteN (fun b4 => iteT (no3 oT0 (.inr (by rw [oS, b4]; simp)) S4)) (fun b4 => ?_)
        refine ⟨_, rfl, _, rfl, ?_⟩
        cases f with
        | true => exact iteT (no3 oT0 (.inl rfl) S4)
        | false =>
          refine iteF ?_
          obtain ⟨k, k1, k2, rfl⟩ := skN_iff.mp b3
          have lk : (TL.numL k).length ≤ 4 := TL.numL_len (by decide) (by omega)
          refine ⟨_, rfl, _, _, _, _, rfl, rfl, SqL.of (S4 _ _ e3), rfl, S (TL.numL k), _, rfl, int_figs (numL_figs k) (by omega), by rw [S_len]; omega, ?_⟩
          refine ⟨_, rfl, _, _, _, _, rfl, rfl, SqL.of (S4 _ _ e3), rfl, _, rfl, _, _, _, _, rfl, rfl, SqL.of (S4 _ _ e3), rfl, (by show 5 ≤ sizeLine; decide), fun t n => ?_⟩
          refine q3.1 _ ?_ t _ (S4.trans (same_new n)) (Same.free S4 n) upd_same
          unfold stV stT
          rw [oT0]
          show stS m _ = _
          unfold stS
          rw [oS, b3, b4, htwo]
          rfl
    · have na : a1 ≠ wSkip := fun z => c (by rw [z]; exact decide_eq_true rfl)
      have oS0 : okS m [a1, b1, c1, d1, e1] = false := by
        rw [oS, decide_eq_false na]
        rfl
      refine ⟨_, rfl, _, _, _, _, rfl, rfl, SqL.of e3, rfl, (by show 2 ≤ sizeLine; decide), fun t1 f1 => ?_⟩
      refine ⟨_, _, rfl, .inr (SqT.of upd_same), rfl, rfl, _, rfl, ?_⟩
      rw [show inV (sg a1) [V.str "towards", V.str "from"] = (decide (a1 = wTow) || decide (a1 = wFrom)) from inV2 a1 wTow wFrom]
      have S4 := same_new (o := .tup [V.str "towards", V.str "from"]) f1
      generalize upd H3 t1 (.tup [V.str "towards", V.str "from"]) = H4 at S4 ⊢
      refine iteN (fun b3 => iteT (no3 (by rw [oT, b3]; rfl) (.inr oS0) S4)) (fun b3 => ?_)
      refine ⟨_, rfl, _, _, _, _, rfl, rfl, SqL.of (S4 _ _ e3), rfl, b1, rfl, by have := n2 b1 (by simp); omega, fun H5 S5 => ⟨_, rfl, iteN (fun b4 => iteT (no3 (by rw [oT, b4]; simp) (.inr oS0) (S4.trans S5))) (fun b4 => ?_)⟩⟩
      have S5 := S4.trans S5
      refine ⟨_, rfl, _, _, _, _, rfl, rfl, SqL.of (S5 _ _ e3), rfl, (by show 2 ≤ sizeLine; decide), fun t2 f2 => ?_⟩
      refine ⟨_, _, rfl, .inr (SqT.of upd_same), rfl, rfl, _, rfl, ?_⟩
      rw [show inV (sg c1) [V.str "until", V.str "between"] = (decide (c1 = wUnt) || decide (c1 = wBet)) from inV2 c1 wUnt wBet]
      have S6 := S5.trans (same_new (o := .tup [V.str "until", V.str "between"]) f2)
      refine iteN (fun b5 => no3 (by rw [oT, b5]; simp) (.inr oS0) S6) (fun b5 => ?_)
      refine ⟨_, rfl, _, _, rfl, .inl ⟨SqL.of (S6 _ _ e3), fun t n => ?_⟩⟩
      refine q3.1 _ ?_ t _ (S6.trans (same_new n)) (Same.free S6 n) upd_same
      unfold stV stT
      rw [oT, b3, b4, b5, htwo]
      rfl
theorem ok__law_read {fd : FuncData} (F : Fun K "_law_read" "_law_read" s__law_read a._law_read fd) (T : Txt K mg a)
    {fd__law_step_in : FuncData} (G__law_step_in : Fn P w K mg base CX0 2 a._law_step_in fd__law_step_in ["_law_line", "_law_left", "_law_is_first"] spIn) (b__law_step_in : Binds K fd__law_step_in ["_law_line", "_law_left", "_law_is_first"] []) :
    Fn P w K mg base CX0 3 a._law_read fd ["_law_text"] spRead := by
  refine ok F sc__law_read (fun vs H Q E h => ?len) (fun cdv A outer s H vs Q E hq hr h => ⟨_,
      (pss_cons (ps_par (i := 1) (j := 2) (by rfl) sc__law_read.nd rfl rfl (by decide) rfl rfl (pa_cons (pe_m1 PySem.F.slot_str_split PySem.F.type_str_split mt_split (pv 0) pe_str) (pa_cons (pe_lstS pa_nil) pa_nil)) (by rfl))
      (pss_cons (ps_for PassesOwn.never rfl (pi_enum (by rfl) T.n_enumerate (pa_cons (pv 1) pa_nil)) (pg_tup rfl (pgs_cons (pg_name (i := 3) sc__law_read.nd rfl (Or.inl rfl)) (pgs_cons (pg_name (i := 4) sc__law_read.nd rfl (Or.inl rfl)) pgs_nil))) (Evl.pss_cut (ps_set (i := 5) sc__law_read.nd rfl (Or.inl rfl) (pe_ifExp (pt_cmpR op_lt (pv 3) pe_int (nomark _)) (pe_fn G__law_step_in hq (hr.mono (by omega)) (by rfl) T.g__law_step_in T.k__law_step_in b__law_step_in .nil pass0 (pa_cons (pv 4) (pa_cons (pe_op op_sub (pe_op op_sub (pe_callB call_len_seq (by rfl) T.n_len (by decide +kernel) (pa_cons (pv 1) pa_nil)) (pv 3)) pe_int) (pa_cons (pe_cmpR op_eq (pv 3) pe_int (nomark _)) pa_nil)))) pe_non))
      (pss_cons (ps_if (pt_cmpR op_isN (pv 5) pe_non (nomark _)) (pss_one (ps_ret (pe_tup (pa_cons (pe_op op_add (pv 3) pe_int) (pa_cons pe_non pa_nil))))) pss_nil)
      (pss_one (ps_expr (pe_bm PySem.F.plainAttrs_list PySem.F.slot_list_append PySem.F.type_list_append mt_append (pv 2) (pa_cons (pv 5) pa_nil)))))))
      (pss_one (ps_ret (pe_tup (pa_cons pe_int (pa_cons (pv 2) pa_nil))))))), ?body⟩)
  case len => obtain ⟨l, rfl, _⟩ := h; rfl
  case body =>
    obtain ⟨l, rfl, hl, hr, q1, q2⟩ := h
    have hz := sizeLine_eq
    refine ⟨_, rfl, ⟨_, rfl⟩, S l, S [10], rfl, rfl, rfl, by rw [S_len, sizeLine_eq]; omega, fun ll nll => ?_⟩
    have e0 : upd H ll (.lst ((Txt.split (S l) (S [10])).map V.str)) ll = some (.lst ((spR l).map sg)) := upd_same.trans (by rw [split_S (by simp) (by decide), List.map_map]; rfl)
    have S0 := same_new (o := .lst ((Txt.split (S l) (S [10])).map V.str)) nll
    obtain ⟨n1, n2⟩ := spl_len 10 l.length l (Nat.le_refl _)
    generalize upd H ll (.lst ((Txt.split (S l) (S [10])).map V.str)) = H1 at e0 S0 ⊢
    obtain ⟨rows, hrows⟩ : ∃ rows, rows = spR l := ⟨_, rfl⟩
    have q1 : ∀ ys, rd rows 0 = .inr ys → ∀ t lf ts H', Same H H' → H' t = some (.tup [.int 0, .ref lf]) → H' lf = some (.lst (ts.map V.ref)) → Tups H' ts ys → Q (.ref t) H' := by rw [hrows]; exact q1
    have q2 : ∀ n, rd rows 0 = .inl n → ∀ t H', Same H H' → H' t = some (.tup [.int (n : Nat), .non]) → Q (.ref t) H' := by rw [hrows]; exact q2
    have e0 : H1 ll = some (.lst (rows.map sg)) := by rw [hrows]; exact e0
    have n2 : ∀ w ∈ rows, w.length ≤ 20000 := fun w hw => by rw [hrows] at hw; exact Nat.le_trans (n2 w hw) hl
    have hr : rows.length ≤ 1000 := by rw [hrows]; exact hr
    clear hrows n1
    refine ⟨(by show 0 ≤ sizeLine; decide), fun ls nls sls => ⟨_, _, rfl, ?_⟩⟩
    refine ⟨_, rfl, ll, _, rfl, SqL.of (same_new nls _ _ e0), ?_⟩
    refine for_it (walk_enum (xs := rows.map sg)) (fun i σ H' => ∃ (s3 s4 s5 : Option V) (ts : List Addr) (acc : List (List V)), σ = [some (sg l), some (.ref ll), some (.ref ls), s3, s4, s5] ∧ Same H1 H' ∧ H' ls = some (.lst (ts.map V.ref)) ∧ Tups H' ts acc ∧ ts.length = i ∧ rdA acc (rows.drop i) i = rd rows 0)
      ⟨none, none, none, [], [], rfl, same_new nls, upd_same, .nil, rfl, rdA_zero rows⟩ ?_ ?_ ?_
    · rintro i σ H' _ ⟨_, _, _, _, _, _, S', _⟩
      exact SqL.of (S' _ _ e0)
    · rintro i v σ H' H'' hi ⟨s3, s4, s5, ts, acc, rfl, S', dl, tu, le, hrd⟩ ⟨T0, u, w, rfl, hT, rfl, e1, e2⟩
      cases e1
      obtain ⟨r, hr1, rfl⟩ : ∃ r, rows[i]? = some r ∧ w = sg r := by
        have e2 : (rows.map sg)[i]? = some w := e2
        rw [List.getElem?_map] at e2
        cases e : rows[i]? with
        | none => rw [e] at e2; cases e2
        | some r => rw [e] at e2; cases e2; exact ⟨r, rfl, rfl⟩
      have hi : i < rows.length := (List.getElem?_eq_some_iff.mp hr1).1
      have rl : r.length ≤ 20000 := n2 r (List.mem_of_getElem? hr1)
      have hdrop : rows.drop i = r :: rows.drop (i + 1) := by
        rw [List.drop_eq_getElem_cons hi]
        congr 1
        exact Option.some.inj ((List.getElem?_eq_getElem hi).symm.trans hr1)
      have hlen : (rows.drop (i + 1)).length = rows.length - (i + 1) := List.length_drop ..
      have ST := same_new (o := .tup [.int ((i : Nat) : Int), sg r]) hT
      refine ⟨T0, _, rfl, SqT.of upd_same, rfl, _, _, rfl, _, _, rfl, rfl, ?_⟩
      have S1 := S'.trans ST
      have dl1 := ST _ _ dl
      have tu1 := tu.same ST
      generalize upd H' T0 (.tup [.int ((i : Nat) : Int), sg r]) = H2 at S1 dl1 tu1 ⊢
      clear ST S' dl tu hT
      refine ⟨fun σ' H4 => ∃ o x, stAt r i (rows.drop (i + 1)).length = o ∧ σ' = [some (sg l), some (.ref ll), some (.ref ls), some (.int ((i : Nat) : Int)), some (sg r), some x] ∧ Same H2 H4 ∧ Stp o x H4, ?read, ?more⟩
      case read =>
        refine ⟨_, rfl, _, _, rfl, rfl, _, rfl, ite2 (fun c => ?_) (fun c => ?_)⟩
        · have i12 : i < 12 := by have := of_decide_eq_true c; omega
          have eo : stAt r i (rows.drop (i + 1)).length = stV (spW r) (i == 0) (rows.drop (i + 1)).length := by
            unfold stAt
            rw [if_pos i12]
          refine ⟨_, rfl, _, rfl, ll, _, rfl, .inl (SqL.of (S1 _ _ e0)), _, rfl, _, _, rfl, rfl, _, _, rfl, rfl, _, rfl, rfl, r, (rows.drop (i + 1)).length, i == 0, ?_, rl, by omega, fun y ey t H5 S5 n et => ?_, fun en H5 S5 => ?_⟩
          · show [sg r, V.int (((rows.map sg).length : Int) - (i : Nat) - 1), V.bl (decide (V.int (i : Nat) = V.int 0))] = _
            have ed : decide (V.int ((i : Nat) : Int) = V.int 0) = (i == 0) := by
              by_cases z : i = 0
              · rw [z]
                exact decide_eq_true rfl
              · rw [decide_eq_false (fun y => z (by have := V.int.inj y; omega))]
                exact (beq_eq_false_iff_ne.mpr z).symm
            rw [ed, List.length_map, hlen, show ((rows.length : Nat) : Int) - ((i : Nat) : Int) - 1 = ((rows.length - (i + 1) : Nat) : Int) by omega]
          · exact ⟨some y, _, eo.trans ey, rfl, S5, t, rfl, et⟩
          · exact ⟨none, _, eo.trans en, rfl, S5, rfl⟩
        · refine ⟨none, _, ?_, rfl, Same.refl _, rfl⟩
          unfold stAt
          rw [if_neg (fun z => c (decide_eq_true (by omega)))]
      case more =>
        rintro σ' H4 ⟨o, x, ho, rfl, S4, st⟩
        have S04 := S0.trans (S1.trans S4)
        cases o with
        | none =>
          cases st
          refine ⟨_, rfl, rfl, _, rfl, iteT ?_⟩
          refine ⟨_, rfl, _, _, rfl, rfl, (by show 2 ≤ sizeLine; decide), fun t n => ?_⟩
          refine q2 (i + 1) (by rw [← hrd, hdrop, rdA_none ho]) t _ (S04.trans (same_new n)) upd_same
        | some y =>
          obtain ⟨t, rfl, et⟩ := st
          refine ⟨_, rfl, rfl, _, rfl, iteF ?_⟩
          have d4 := S4 _ _ dl1
          refine ⟨_, rfl, .inl ⟨rfl, _, SqL.of d4⟩, _, rfl, ls, _, _, rfl, rfl, d4, by rw [List.length_map]; omega, ?_⟩
          refine ⟨_, _, _, ts ++ [t], acc ++ [y], rfl, fun b o e => ?_, ?_, ?_, by rw [List.length_append, le]; rfl, ?_⟩
          · rw [upd_ne (ne_of_none e nls)]
            exact S4 _ _ (S1 _ _ e)
          · rw [upd_same, List.map_append]
            rfl
          · refine PySem.Paired.snoc ((tu1.same S4).list d4) ?_
            rw [upd_ne (fun z => by rw [z, d4] at et; cases et)]
            exact et
          · rw [← hrd, hdrop, rdA_some ho]
    · rintro σ H' ⟨s3, s4, s5, ts, acc, rfl, S', dl, tu, le, hrd⟩
      rw [List.length_map, List.drop_length, rdA_nil] at hrd
      refine ⟨_, rfl, (by show 2 ≤ sizeLine; decide), fun t nt => ?_⟩
      exact q1 _ hrd.symm t ls ts _ ((S0.trans S').trans (same_new nt)) upd_same (same_new nt _ _ dl) (tu.same (same_new nt))
end
end My

namespace My
open PySem PySem.Spec PyProof.Rows L2 G SX NumText
abbrev s__law_spoilt : Stmt := topS 28
theorem sc__law_spoilt : FnScope ["_law_pot_here", "_law_rows", "_law_way", "_law_at", "_law_some_here", "_law_words", "_law_here", "_law_odd_here"] ["_law_pot_here", "_law_rows"] (defScope s__law_spoilt) := ⟨rfl, rfl, rfl, by decide +kernel, rfl, by decide +kernel, by decide +kernel⟩

/-- plain signs, no line's end -/
def Cl (r : List Nat) : Prop := ∀ c ∈ r, c ≠ 10 ∧ c < 128
/-- so many signs at most -/
def RowOk (k : Nat) (r : List Nat) : Prop := r.length ≤ k ∧ Cl r
def RowsOk (m k : Nat) (rs : List (List Nat)) : Prop := rs.length ≤ m ∧ ∀ r ∈ rs, RowOk k r
/-- what evaluates to a list of texts of its own, the pot drawn from meanwhile -/
def EvW (p : Addr) (te : TE) (σ : L2.St) (H : Hp) (n c : Nat) (P : List (List Nat) → Prop) : Prop :=
  ∀ H1, Go p n H H1 → ∀ Q : VK, (∀ l xs H2, Go p (n + c) H1 H2 → l ≠ p → H2 l = some (.lst (xs.map sg)) → P xs → Q (.ref l) H2) → te σ H1 Q
def EvE (p : Addr) (te : TE) (σ : L2.St) (H : Hp) (n c : Nat) (P : List Nat → Prop) : Prop :=
  ∀ H1, Go p n H H1 → ∀ Q : VK, (∀ r H2, Go p (n + c) H1 H2 → P r → Q (sg r) H2) → te σ H1 Q
def EvJ (to : TO) (σ : L2.St) (o : Option Int) : Prop := ∀ (H1 : Hp) (Q : Option Int → Hp → Prop), Q o H1 → to σ H1 Q
theorem evj_none {σ : L2.St} : EvJ tNoPart σ none := fun H1 Q q => q
theorem evj_var {σ : L2.St} {i : Nat} {j : Int} (h : σ[i]? = some (some (.int j))) : EvJ (tPart (tVar i)) σ (some j) := fun H1 Q q => ⟨_, h, _, rfl, q⟩
theorem evj_add {σ : L2.St} {i : Nat} {j k : Int} (h : σ[i]? = some (some (.int j))) : EvJ (tPart (tOp (rI0 fun i j => .int (i + j)) (tVar i) (tC (.int k)))) σ (some (j + k)) := fun H1 Q q => ⟨_, h, _, _, rfl, rfl, _, rfl, q⟩
/-- a part of a list -/
def cutW (xs : List (List Nat)) (lo hi : Option Int) : List (List Nat) := (xs.drop (HT.sIx xs.length 0 lo)).take (HT.sIx xs.length xs.length hi - HT.sIx xs.length 0 lo)
theorem cutW_map (xs : List (List Nat)) (lo hi : Option Int) : cutV (xs.map sg) lo hi = (cutW xs lo hi).map sg := by
  unfold cutV cutW
  rw [List.length_map, ← List.map_drop, ← List.map_take]
theorem cutW_mem {xs : List (List Nat)} {lo hi : Option Int} {x : List Nat} (h : x ∈ cutW xs lo hi) : x ∈ xs := List.mem_of_mem_drop (List.mem_of_mem_take h)
theorem cutW_len (xs : List (List Nat)) (lo hi : Option Int) : (cutW xs lo hi).length ≤ xs.length := by
  unfold cutW
  rw [List.length_take, List.length_drop]
  omega
section
variable {K : PySem.W.Frag} {p : Addr} {σ : L2.St} {H : Hp} {n c d : Nat} {te tf : TE} {tl th : TO} {P P1 P2 : List (List Nat) → Prop} {PE_ : List Nat → Prop}
theorem EvW.imp (h : EvW p te σ H n c P1) (g : ∀ xs, P1 xs → P2 xs) : EvW p te σ H n c P2 := fun H1 g1 Q q => h H1 g1 Q fun l xs H2 g2 nl e px => q l xs H2 g2 nl e (g xs px)
theorem evw_slice {i : Nat} {l : Addr} {xs : List (List Nat)} {lo hi : Option Int} (hσ : σ[i]? = some (some (.ref l))) (hl : H l = some (.lst (xs.map sg))) (nl : l ≠ p) (h1 : EvJ tl σ lo) (h2 : EvJ th σ hi) :
    EvW p (tSl (rSlL K) (tVar i) tl th) σ H n 0 (· = cutW xs lo hi) := fun H1 g1 Q q =>
  ⟨_, hσ, h1 H1 _ (h2 H1 _ ⟨l, _, rfl, SqL.of (g1.at hl nl), fun D hD => by
    have nD : D ≠ p := fun z => g1.pot.has (by rw [← z]; exact hD)
    refine q D _ _ (g1.fwd (same_new hD) |> fun g => ⟨mask_mono (same_new hD), g.pot⟩) nD ?_ rfl
    rw [upd_same, cutW_map]⟩)⟩
theorem evw_rev (h : EvW p te σ H n c P) : EvW p (tRevL K te) σ H n c (fun ys => ∃ xs, ys = xs.reverse ∧ P xs) := fun H1 g1 Q q =>
  h H1 g1 _ fun l xs H2 g2 nl e px => ⟨l, _, rfl, SqL.of e, fun D hD => by
    have nD : D ≠ p := fun z => g2.pot.has (by rw [← z]; exact hD)
    refine q D xs.reverse _ (g2.fwd (same_new hD)) nD ?_ ⟨xs, rfl, px⟩
    rw [upd_same, List.map_reverse]⟩
theorem evw_cat (h : EvW p te σ H n c P1) (h2 : EvW p tf σ H (n + c) d P2) (s1 : ∀ xs, P1 xs → xs.length ≤ 10000) (s2 : ∀ xs, P2 xs → xs.length ≤ 10000) :
    EvW p (tOp rCat te tf) σ H n (c + d) (fun ys => ∃ a b, ys = a ++ b ∧ P1 a ∧ P2 b) := fun H1 g1 Q q =>
  h H1 g1 _ fun l xs H2 g2 nl e px => h2 H2 (Go.trans g1 g2) _ fun k ys H3 g3 nk f py => by
    have z1 := s1 xs px
    have z2 := s2 ys py
    refine ⟨_, _, _, _, rfl, rfl, g3.at e nl, f, by rw [List.length_map, List.length_map, sizeLine_eq]; omega, fun D hD => ?_⟩
    have nD : D ≠ p := fun z => g3.pot.has (by rw [← z]; exact hD)
    refine q D (xs ++ ys) _ ((Go.trans g2 (by rw [Nat.add_assoc] at g3; exact g3)).fwd (same_new hD)) nD ?_ ⟨xs, ys, rfl, px, py⟩
    rw [upd_same, List.map_append]
theorem evw_one (h : EvE p te σ H n c PE_) : EvW p (tLstS (tCons te tNil)) σ H n c (fun ys => ∃ r, ys = [r] ∧ PE_ r) := fun H1 g1 Q q =>
  h H1 g1 _ fun r H2 g2 pr => ⟨(by show 1 ≤ sizeLine; decide), fun D hD _ => by
    have nD : D ≠ p := fun z => g2.pot.has (by rw [← z]; exact hD)
    exact q D [r] _ (g2.fwd (same_new hD)) nD upd_same ⟨r, rfl, pr⟩⟩
theorem eve_var {i : Nat} {r : List Nat} (hσ : σ[i]? = some (some (sg r))) : EvE p (tVar i) σ H n 0 (· = r) := fun H1 g1 Q q => ⟨_, hσ, q r H1 ⟨Same.refl _, g1.pot⟩ rfl⟩
theorem eve_join {i : Nat} {l : Addr} {xs : List (List Nat)} (hσ : σ[i]? = some (some (.ref l))) (hl : H l = some (.lst (xs.map sg))) (nl : l ≠ p) (hs : (xs.map List.length).sum + xs.length ≤ 100000) :
    EvE p (tM1 (fun x xs H Q => ∃ a p, ∃ ys : List Str, x = .str a ∧ xs = [.ref p] ∧ (SqL K H p (ys.map V.str) ∨ SqT K H p (ys.map V.str)) ∧ (ys.map (·.length)).sum + ys.length * a.length ≤ 16777216 ∧ Q (.str (Txt.join a ys)) H) (tC (.str (S [32]))) (tVar i)) σ H n 0 (· = TL.joinL [32] xs) := fun H1 g1 Q q => by
  refine ⟨⟨_, rfl⟩, _, hσ, S [32], l, xs.map S, rfl, rfl, .inl (SqL.of (by rw [List.map_map]; exact g1.at hl nl)), ?_, ?_⟩
  · rw [List.map_map, show ((fun x : Str => x.length) ∘ S) = List.length from funext fun l => S_len l, List.length_map]
    show _ + xs.length * 1 ≤ _
    omega
  · rw [join_S]
    exact q _ H1 ⟨Same.refl _, g1.pot⟩ rfl
theorem eve_of {i j : Nat} {l : Addr} {xs : List V} {P : List Nat → Prop} (hp : σ[i]? = some (some (.ref p))) (hσ : σ[j]? = some (some (.ref l))) (hl : H l = some (.lst xs)) (nl : l ≠ p) (ne : xs ≠ []) (hz : xs.length ≤ 1000) (hn : n ≤ 90000) (hP : ∀ x ∈ xs, ∃ r, x = sg r ∧ P r) :
    EvE p (tCall spOf [] E0 (tCons (tVar i) (tCons (tVar j) tNil))) σ H n 1 P := fun H1 g1 Q q =>
  ⟨_, hp, _, hσ, p, l, n, xs, rfl, nl, g1.pot, by omega, g1.at hl nl, ne, Nat.le_trans hz (by decide), fun x H2 hx g2 => by
    obtain ⟨r, rfl, pr⟩ := hP x hx
    exact q r H2 g2 pr⟩
theorem RowOk.mono {j k : Nat} {r : List Nat} (h : RowOk j r) (hk : j ≤ k) : RowOk k r := ⟨Nat.le_trans h.1 hk, h.2⟩
theorem RowsOk.mono {m m' j k : Nat} {rs : List (List Nat)} (h : RowsOk m j rs) (hm : m ≤ m') (hk : j ≤ k) : RowsOk m' k rs := ⟨Nat.le_trans h.1 hm, fun r hr => (h.2 r hr).mono hk⟩
theorem RowsOk.cut {m k : Nat} {rs : List (List Nat)} (h : RowsOk m k rs) (lo hi : Option Int) : RowsOk m k (cutW rs lo hi) := ⟨Nat.le_trans (cutW_len rs lo hi) h.1, fun r hr => h.2 r (cutW_mem hr)⟩
theorem RowsOk.cat {m m' k : Nat} {a b : List (List Nat)} (h : RowsOk m k a) (h' : RowsOk m' k b) : RowsOk (m + m') k (a ++ b) := ⟨by rw [List.length_append]; have := h.1; have := h'.1; omega, fun r hr => (List.mem_append.mp hr).elim (h.2 r) (h'.2 r)⟩
theorem RowsOk.one {k : Nat} {r : List Nat} (h : RowOk k r) : RowsOk 1 k [r] := ⟨Nat.le_refl _, fun x hx => by rw [List.mem_singleton.mp hx]; exact h⟩
/-- the words of a row: how long all of them are -/
theorem spl_sum (c : Nat) : ∀ (k : Nat) (l : List Nat), l.length ≤ k → ((TL.spl [c] 0 [] l).map List.length).sum + (TL.spl [c] 0 [] l).length = l.length + 1 := fun k => by
  induction k with
  | zero =>
    intro l hl
    have e : l = [] := List.length_eq_zero_iff.mp (by omega)
    subst e
    rw [TL.spl_nil]
    rfl
  | succ k ih =>
    intro l hl
    rcases split_at c l with n | ⟨p, q, rfl, n⟩
    · rw [spl_none n]
      simp
    · rw [spl_some n]
      simp only [List.length_append, List.length_cons] at hl
      have := ih q (by omega)
      simp only [List.map_cons, List.sum_cons, List.length_cons, List.length_append]
      omega
theorem cutW_sum (xs : List (List Nat)) (j : Nat) : (((xs.take j ++ xs.drop j).map List.length).sum) = (xs.map List.length).sum := by rw [List.take_append_drop]
theorem cutW_pre (xs : List (List Nat)) (j : Nat) : cutW xs none (some (j : Int)) = xs.take j := by
  unfold cutW
  rw [HT.sIx_nat, HT.sIx_none, List.drop_zero, Nat.sub_zero]
  by_cases h : j ≤ xs.length
  · rw [Nat.min_eq_left h]
  · rw [Nat.min_eq_right (by omega), List.take_of_length_le (Nat.le_refl _), List.take_of_length_le (by omega)]
theorem cutW_suf (xs : List (List Nat)) (j : Nat) : cutW xs (some (j : Int)) none = xs.drop j := by
  unfold cutW
  rw [HT.sIx_nat, HT.sIx_none]
  by_cases h : j ≤ xs.length
  · rw [Nat.min_eq_left h, List.take_of_length_le (by rw [List.length_drop]; exact Nat.le_refl _)]
  · rw [Nat.min_eq_right (by omega), List.drop_of_length_le (Nat.le_refl _), List.drop_of_length_le (by omega)]
    exact List.take_nil ..
def sumL (xs : List (List Nat)) : Nat := (xs.map List.length).sum + xs.length
theorem sumL_cat (a b : List (List Nat)) : sumL (a ++ b) = sumL a + sumL b := by
  unfold sumL
  rw [List.map_append, List.sum_append, List.length_append]
  omega
theorem sumL_part (xs : List (List Nat)) (j : Nat) : sumL (xs.take j) + sumL (xs.drop j) = sumL xs := by rw [← sumL_cat, List.take_append_drop]
theorem sumL_one (r : List Nat) : sumL [r] = r.length + 1 := by unfold sumL; simp
theorem sumL_step (xs : List (List Nat)) (j : Nat) : sumL (xs.take j) + sumL (xs.drop (j + 1)) ≤ sumL xs := by
  have h1 := sumL_part xs j
  have h2 := sumL_part (xs.drop j) 1
  rw [List.drop_drop] at h2
  omega
/-- a row of such words -/
theorem row_join {k : Nat} {xs : List (List Nat)} (h1 : sumL xs ≤ k) (h2 : ∀ w ∈ xs, Cl w) : RowOk k (TL.joinL [32] xs) :=
  ⟨Nat.le_trans (join_len 32 xs) h1, fun c hc => by
    rcases join_mem hc with e | ⟨w, hw, e⟩
    · rw [e]
      decide
    · exact h2 w hw c e⟩
def oddL : List (List Nat) := ["", "towards a until a b", "skip 1 left a b", "from b between c a", "skip 2 left b a", "towards a until b", "at a"].map fun s => (Str.ofString s).cps.toList
def oddW : List (List Nat) := ["a", "b", "A", "", "0", "1", "2", "01", "-1", "left", "until", "between", "skip", "from", "toolongname"].map fun s => (Str.ofString s).cps.toList
theorem oddL_ok : ∀ r ∈ oddL, RowOk 20 r := by
  have : (oddL.all fun r => decide (r.length ≤ 20) && r.all fun c => decide (c ≠ 10) && decide (c < 128)) = true := by decide +kernel
  intro r hr
  have := List.all_eq_true.mp this r hr
  simp only [Bool.and_eq_true, decide_eq_true_eq, List.all_eq_true] at this
  exact ⟨this.1, fun c hc => this.2 c hc⟩
theorem oddW_ok : ∀ r ∈ oddW, RowOk 12 r := by
  have : (oddW.all fun r => decide (r.length ≤ 12) && r.all fun c => decide (c ≠ 10) && decide (c < 128)) = true := by decide +kernel
  intro r hr
  have := List.all_eq_true.mp this r hr
  simp only [Bool.and_eq_true, decide_eq_true_eq, List.all_eq_true] at this
  exact ⟨this.1, fun c hc => this.2 c hc⟩
def spSpo : Sp := fun vs H Q _ => ∃ (p l : Addr) (n m k : Nat) (rs : List (List Nat)), vs = [.ref p, .ref l] ∧ l ≠ p ∧ PotAt H p n ∧ n ≤ 80000 ∧ H l = some (.lst (rs.map sg)) ∧ rs ≠ [] ∧ RowsOk m k rs ∧ m ≤ 100 ∧ k ≤ 1000 ∧
  ∀ (l' : Addr) (rs' : List (List Nat)) (H' : Hp), RowsOk (3 * m + 1) (k + 20) rs' → H' l' = some (.lst (rs'.map sg)) → l' ≠ p → Go p (n + 10) H H' → Q (.ref l') H'
end
section
variable {P : Program} {w : World} {K : PySem.W.Frag} {mg : Str → Option Value} {base : Heap} {a : Ad}
theorem ok__law_spoilt {fd : FuncData} (F : Fun K "_law_spoilt" "_law_spoilt" s__law_spoilt a._law_spoilt fd) (T : Txt K mg a)
    {fd__law_of : FuncData} (G__law_of : Fn P w K mg base CX0 2 a._law_of fd__law_of ["_law_pot_here", "_law_some_here"] spOf) (b__law_of : Binds K fd__law_of ["_law_pot_here", "_law_some_here"] [])
    {fd__law_take : FuncData} (G__law_take : Fn P w K mg base CX0 1 a._law_take fd__law_take ["_law_pot_here", "_law_upto"] spTake) (b__law_take : Binds K fd__law_take ["_law_pot_here", "_law_upto"] []) :
    Fn P w K mg base CX0 3 a._law_spoilt fd ["_law_pot_here", "_law_rows"] spSpo := by
  refine ok F sc__law_spoilt (fun vs H Q E h => ?len) (fun cdv A outer s H vs Q E hq hr h => ⟨_,
      (pss_cons (ps_par (i := 2) (j := 3) (by rfl) sc__law_spoilt.nd rfl rfl (by decide) rfl rfl (pa_cons (pe_fn G__law_take hq (hr.mono (by omega)) (by rfl) T.g__law_take T.k__law_take b__law_take .nil pass0 (pa_cons (pv 0) (pa_cons pe_int pa_nil))) (pa_cons (pe_fn G__law_take hq (hr.mono (by omega)) (by rfl) T.g__law_take T.k__law_take b__law_take .nil pass0 (pa_cons (pv 0) (pa_cons (pe_callB call_len_seq (by rfl) T.n_len (by decide +kernel) (pa_cons (pv 1) pa_nil)) pa_nil))) pa_nil)) (by rfl))
      (pss_cons (ps_if (pt_cmpR op_eq (pv 2) pe_int (nomark _)) (pss_one (ps_ret (pe_op op_cat (pe_slice sl_list (pv 1) po_none (po_some (pv 3))) (pe_slice sl_list (pv 1) (po_some (pe_op op_add (pv 3) pe_int)) po_none)))) pss_nil)
      (pss_cons (ps_if (pt_cmpR op_eq (pv 2) pe_int (nomark _)) (pss_one (ps_ret (pe_op op_cat (pe_slice sl_list (pv 1) po_none (po_some (pe_op op_add (pv 3) pe_int))) (pe_slice sl_list (pv 1) (po_some (pv 3)) po_none)))) pss_nil)
      (pss_cons (ps_if (pt_cmpR op_eq (pv 2) pe_int (nomark _)) (pss_one (ps_ret (pe_op op_cat (pe_op op_cat (pe_slice sl_list (pv 1) po_none (po_some (pv 3))) (pe_revL (pe_slice sl_list (pv 1) (po_some (pv 3)) (po_some (pe_op op_add (pv 3) pe_int))))) (pe_slice sl_list (pv 1) (po_some (pe_op op_add (pv 3) pe_int)) po_none)))) pss_nil)
      (pss_cons (ps_set (i := 4) sc__law_spoilt.nd rfl (Or.inl rfl) (pe_lstS (pa_cons pe_str (pa_cons pe_str (pa_cons pe_str (pa_cons pe_str (pa_cons pe_str pa_nil)))))))
      (Evl.pss_cut (ps_set (i := 4) sc__law_spoilt.nd rfl (Or.inl rfl) (pe_op op_cat (pv 4) (pe_lstS (pa_cons pe_str (pa_cons pe_str pa_nil)))))
      (pss_cons (ps_if (pt_cmpR op_eq (pv 2) pe_int (nomark _)) (pss_one (ps_ret (pe_op op_cat (pe_op op_cat (pe_slice sl_list (pv 1) po_none (po_some (pv 3))) (pe_lstS (pa_cons (pe_fn G__law_of hq (hr.mono (by omega)) (by rfl) T.g__law_of T.k__law_of b__law_of .nil pass0 (pa_cons (pv 0) (pa_cons (pv 4) pa_nil))) pa_nil))) (pe_slice sl_list (pv 1) (po_some (pv 3)) po_none)))) pss_nil)
      (pss_cons (ps_set (i := 5) sc__law_spoilt.nd rfl (Or.inl rfl) (pe_m1 PySem.F.slot_str_split PySem.F.type_str_split mt_split (pe_ix ix_list (pv 1) (pv 3) (fun _ _ => rfl)) pe_str))
      (pss_cons (ps_set (i := 6) sc__law_spoilt.nd rfl (Or.inl rfl) (pe_fn G__law_take hq (hr.mono (by omega)) (by rfl) T.g__law_take T.k__law_take b__law_take .nil pass0 (pa_cons (pv 0) (pa_cons (pe_callB call_len_seq (by rfl) T.n_len (by decide +kernel) (pa_cons (pv 5) pa_nil)) pa_nil))))
      (pss_cons (ps_set (i := 7) sc__law_spoilt.nd rfl (Or.inl rfl) (pe_lstS (pa_cons pe_str (pa_cons pe_str (pa_cons pe_str (pa_cons pe_str (pa_cons pe_str (pa_cons pe_str (pa_cons pe_str (pa_cons pe_str (pa_cons pe_str (pa_cons pe_str (pa_cons pe_str (pa_cons pe_str (pa_cons pe_str (pa_cons pe_str pa_nil))))))))))))))))
      (Evl.pss_cut (ps_set (i := 7) sc__law_spoilt.nd rfl (Or.inl rfl) (pe_fn G__law_of hq (hr.mono (by omega)) (by rfl) T.g__law_of T.k__law_of b__law_of .nil pass0 (pa_cons (pv 0) (pa_cons (pe_op op_cat (pv 7) (pe_lstS (pa_cons pe_str pa_nil))) pa_nil))))
      (Evl.pss_cut (ps_if (pt_cmpR op_eq (pv 2) pe_int (nomark _)) (pss_one (ps_set (i := 5) sc__law_spoilt.nd rfl (Or.inl rfl) (pe_op op_cat (pe_slice sl_list (pv 5) po_none (po_some (pv 6))) (pe_slice sl_list (pv 5) (po_some (pe_op op_add (pv 6) pe_int)) po_none)))) (pss_one (ps_if (pt_cmpR op_eq (pv 2) pe_int (nomark _)) (pss_one (ps_set (i := 5) sc__law_spoilt.nd rfl (Or.inl rfl) (pe_op op_cat (pe_op op_cat (pe_slice sl_list (pv 5) po_none (po_some (pv 6))) (pe_lstS (pa_cons (pv 7) pa_nil))) (pe_slice sl_list (pv 5) (po_some (pv 6)) po_none)))) (pss_one (ps_set (i := 5) sc__law_spoilt.nd rfl (Or.inl rfl) (pe_op op_cat (pe_op op_cat (pe_slice sl_list (pv 5) po_none (po_some (pv 6))) (pe_lstS (pa_cons (pv 7) pa_nil))) (pe_slice sl_list (pv 5) (po_some (pe_op op_add (pv 6) pe_int)) po_none)))))))
      (pss_one (ps_ret (pe_op op_cat (pe_op op_cat (pe_slice sl_list (pv 1) po_none (po_some (pv 3))) (pe_lstS (pa_cons (pe_join pe_str (pv 5)) pa_nil))) (pe_slice sl_list (pv 1) (po_some (pe_op op_add (pv 3) pe_int)) po_none)))))))))))))))), ?body⟩)
  case len => obtain ⟨p, l, n, m, k, rs, rfl, _⟩ := h; rfl
  case body =>
    obtain ⟨p, l, n, m, k, rs, rfl, nl, pot, hn, hl, ne, ok, hm, hk, q⟩ := h
    have hz := sizeLine_eq
    have lr : 1 ≤ rs.length := List.length_pos_iff.mpr ne
    have lm := ok.1
    refine ⟨_, rfl, p, 9, n, rfl, pot, by omega, by decide, by decide, fun wy H1 w0 w1 g1 => ?_⟩
    have hl1 := g1.at hl nl
    refine ⟨_, rfl, _, rfl, l, _, rfl, .inl (SqL.of hl1), p, _, n + 1, rfl, g1.pot, by omega, by rw [List.length_map]; omega, by rw [List.length_map]; omega, fun t H2 t0 t1 g2 => ⟨_, _, rfl, ?_⟩⟩
    rw [List.length_map] at t1
    obtain ⟨j, rfl⟩ : ∃ j : Nat, t = (j : Int) := ⟨t.toNat, by omega⟩
    have hl2 := g2.at hl1 nl
    have g12 := Go.trans g1 g2
    have here : Go p (n + 2) H2 H2 := ⟨Same.refl _, g2.pot⟩
    -- a return of such a list
    have fin : ∀ (l' : Addr) (rs' : List (List Nat)) (c : Nat) (H' : Hp), c ≤ 8 → Go p (n + 2 + c) H2 H' → l' ≠ p → H' l' = some (.lst (rs'.map sg)) → RowsOk (3 * m + 1) (k + 20) rs' → Q (.ref l') H' := fun l' rs' c H' hc g nl' e o => q l' rs' H' o e nl' ((Go.trans g12 g).mono (by omega))
    have szc : ∀ lo hi (xs : List (List Nat)), xs = cutW rs lo hi → xs.length ≤ 10000 := fun lo hi xs e => by rw [e]; exact Nat.le_trans (cutW_len _ _ _) (by omega)
    have big : ∀ {b : Nat} {rs' : List (List Nat)}, RowsOk b k rs' → b ≤ 3 * m + 1 → RowsOk (3 * m + 1) (k + 20) rs' := fun o h => o.mono h (by omega)
    refine ⟨_, rfl, rfl, _, rfl, ite2 (fun c => ?_) (fun c => ?_)⟩
    · refine evw_cat (n := n + 2) (evw_slice (K := K) rfl hl2 nl evj_none (evj_var rfl)) (evw_slice (K := K) rfl hl2 nl (evj_add rfl) evj_none) (fun xs e => szc _ _ xs e) (fun xs e => szc _ _ xs e) H2 here _ fun l' rs' H' g nl' e o => ?_
      obtain ⟨a, b, rfl, rfl, rfl⟩ := o
      exact fin l' _ _ H' (by decide) g nl' e (big ((ok.cut _ _).cat (ok.cut _ _)) (by omega))
    refine ⟨_, rfl, rfl, _, rfl, ite2 (fun c => ?_) (fun c => ?_)⟩
    · refine evw_cat (n := n + 2) (evw_slice (K := K) rfl hl2 nl evj_none (evj_add rfl)) (evw_slice (K := K) rfl hl2 nl (evj_var rfl) evj_none) (fun xs e => szc _ _ xs e) (fun xs e => szc _ _ xs e) H2 here _ fun l' rs' H' g nl' e o => ?_
      obtain ⟨a, b, rfl, rfl, rfl⟩ := o
      exact fin l' _ _ H' (by decide) g nl' e (big ((ok.cut _ _).cat (ok.cut _ _)) (by omega))
    refine ⟨_, rfl, rfl, _, rfl, ite2 (fun c => ?_) (fun c => ?_)⟩
    · refine evw_cat (n := n + 2) (evw_cat (evw_slice (K := K) rfl hl2 nl evj_none (evj_var rfl)) (evw_rev (evw_slice (K := K) rfl hl2 nl (evj_var rfl) (evj_add rfl))) (fun xs e => szc _ _ xs e) (fun xs e => by obtain ⟨ys, rfl, e⟩ := e; rw [List.length_reverse]; exact szc _ _ ys e)) (evw_slice (K := K) rfl hl2 nl (evj_add rfl) evj_none) (fun xs e => ?_) (fun xs e => szc _ _ xs e) H2 here _ fun l' rs' H' g nl' e o => ?_
      · obtain ⟨a, b, rfl, e1, ys, rfl, e2⟩ := e
        rw [List.length_append, List.length_reverse, e1, e2]
        have := cutW_len rs none (some (j : Int))
        have := cutW_len rs (some (j : Int)) (some ((j : Int) + 2))
        omega
      · obtain ⟨a, b, rfl, ⟨a1, b1, rfl, rfl, ys, rfl, rfl⟩, rfl⟩ := o
        refine fin l' _ _ H' (by decide) g nl' e (big (b := m + m + m) ((RowsOk.cat (ok.cut _ _) ?_).cat (ok.cut _ _)) (by omega))
        have := ok.cut (some (j : Int)) (some ((j : Int) + 2))
        exact ⟨by rw [List.length_reverse]; exact this.1, fun r hr => this.2 r (List.mem_reverse.mp hr)⟩
    refine ⟨(by show 5 ≤ sizeLine; decide), fun l4 n4 s4 => ?_⟩
    refine ⟨fun σ' H' => ∃ l6, σ' = [some (.ref p), some (.ref l), some (.int wy), some (.int (j : Nat)), some (.ref l6), none, none, none] ∧ Go p (n + 2) H2 H' ∧ l6 ≠ p ∧ H' l6 = some (.lst (oddL.map sg)), ?odds, ?on⟩
    case odds =>
      have S4 := same_new (o := .lst [V.str "", V.str "towards a until a b", V.str "skip 1 left a b", V.str "from b between c a", V.str "skip 2 left b a"]) n4
      refine ⟨_, rfl, (by show 2 ≤ sizeLine; decide), fun l5 n5 s5 => ⟨_, _, _, _, rfl, rfl, same_new n5 _ _ upd_same, upd_same, (by show 5 + 2 ≤ sizeLine; decide), fun l6 n6 => ⟨l6, rfl, ?_, fun z => (((g2.fwd S4).fwd (same_new n5)).pot.has) (by rw [← z]; exact n6), upd_same⟩⟩⟩
      exact ((here.fwd S4).fwd (same_new n5)).fwd (same_new n6)
    case on =>
      rintro σ' H6 ⟨l6, rfl, g6, nl6, e6⟩
      have hl6 := g6.at hl2 nl
      have here6 : Go p (n + 2) H6 H6 := ⟨Same.refl _, g6.pot⟩
      have fin6 : ∀ (l' : Addr) (rs' : List (List Nat)) (c : Nat) (H' : Hp), c ≤ 8 → Go p (n + 2 + c) H6 H' → l' ≠ p → H' l' = some (.lst (rs'.map sg)) → RowsOk (3 * m + 1) (k + 20) rs' → Q (.ref l') H' := fun l' rs' c H' hc g nl' e o => fin l' rs' c H' hc (Go.trans g6 g) nl' e o
      refine ⟨_, rfl, rfl, _, rfl, ite2 (fun c => ?_) (fun c => ?_)⟩
      · refine evw_cat (n := n + 2) (evw_cat (evw_slice (K := K) rfl hl6 nl evj_none (evj_var rfl)) (evw_one (eve_of (P := RowOk 20) rfl rfl e6 nl6 (by decide) (by decide) (by omega) (fun x hx => by obtain ⟨r, hr, rfl⟩ := List.mem_map.mp hx; exact ⟨r, rfl, oddL_ok r hr⟩))) (fun xs e => szc _ _ xs e) (fun xs e => by obtain ⟨r, rfl, e⟩ := e; show 1 ≤ 10000; decide)) (evw_slice (K := K) rfl hl6 nl (evj_var rfl) evj_none) (fun xs e => ?_) (fun xs e => szc _ _ xs e) H6 here6 _ fun l' rs' H' g nl' e o => ?_
        · obtain ⟨a, b, rfl, e1, ys, rfl, e2⟩ := e
          rw [List.length_append, e1]
          have := cutW_len rs none (some (j : Int))
          show _ + 1 ≤ _
          omega
        · obtain ⟨a, b, rfl, ⟨a1, b1, rfl, rfl, ys, rfl, o⟩, rfl⟩ := o
          refine fin6 l' _ _ H' (by decide) g nl' e ?_
          exact ((((ok.cut _ _).mono (Nat.le_refl _) (by omega)).cat (RowsOk.one (o.mono (by omega)))).cat ((ok.cut _ _).mono (Nat.le_refl _) (by omega))).mono (by omega) (Nat.le_refl _)
      have hj : j < rs.length := by omega
      obtain ⟨r, hr⟩ : ∃ r, rs[j]? = some r := ⟨_, List.getElem?_eq_getElem hj⟩
      have rok := ok.2 r (List.mem_of_getElem? hr)
      refine ⟨_, rfl, _, rfl, _, _, _, _, rfl, rfl, SqL.of hl6, atI_nat (v := sg r) (by rw [List.getElem?_map, hr]; rfl), ⟨_, rfl⟩, S r, S [32], rfl, rfl, rfl, by rw [S_len, sizeLine_eq]; have := rok.1; omega, fun lw nlw => ?_⟩
      have e0 : upd H6 lw (.lst ((Txt.split (S r) (S [32])).map V.str)) lw = some (.lst ((spW r).map sg)) := upd_same.trans (by rw [split_S (by simp) (by decide), List.map_map]; rfl)
      have nwp : lw ≠ p := fun z => g6.pot.has (by rw [← z]; exact nlw)
      have gw := here6.fwd (same_new (o := .lst ((Txt.split (S r) (S [32])).map V.str)) nlw)
      generalize upd H6 lw (.lst ((Txt.split (S r) (S [32])).map V.str)) = H7 at e0 gw ⊢
      have hw : sumL (spW r) = r.length + 1 := spl_sum 32 r.length r (Nat.le_refl _)
      have hw2 : ∀ u ∈ spW r, Cl u := fun u hu c hc => rok.2 c (spl_mem r.length r (Nat.le_refl _) u hu c hc)
      have hw3 : 1 ≤ (spW r).length := List.length_pos_iff.mpr (spl_ne 32 r)
      have hw4 : (spW r).length ≤ r.length + 1 := by unfold sumL at hw; omega
      generalize spW r = ws at e0 hw hw2 hw3 hw4
      refine ⟨_, rfl, _, rfl, lw, _, rfl, .inl (SqL.of e0), p, _, n + 2, rfl, gw.pot, by omega, by rw [List.length_map]; omega, by rw [List.length_map]; have := rok.1; omega, fun h H8 h0 h1 g8 => ?_⟩
      obtain ⟨i, rfl⟩ : ∃ i : Nat, h = (i : Int) := ⟨h.toNat, by omega⟩
      refine ⟨(by show 14 ≤ sizeLine; decide), fun l9 n9 s9 => ?_⟩
      have n9p : l9 ≠ p := fun z => g8.pot.has (by rw [← z]; exact n9)
      have g9 := (Go.trans gw g8).fwd (same_new (o := .lst [V.str "a", V.str "b", V.str "A", V.str "", V.str "0", V.str "1", V.str "2", V.str "01", V.str "-1", V.str "left", V.str "until", V.str "between", V.str "skip", V.str "from"]) n9)
      have ew9 := same_new (o := .lst [V.str "a", V.str "b", V.str "A", V.str "", V.str "0", V.str "1", V.str "2", V.str "01", V.str "-1", V.str "left", V.str "until", V.str "between", V.str "skip", V.str "from"]) n9 _ _ (g8.at e0 nwp)
      refine ⟨fun σ' H' => ∃ o, RowOk 12 o ∧ σ' = [some (.ref p), some (.ref l), some (.int wy), some (.int (j : Nat)), some (.ref l6), some (.ref lw), some (.int (i : Nat)), some (sg o)] ∧ Go p (n + 5) H6 H' ∧ H' lw = some (.lst (ws.map sg)), ?odd, ?rest⟩
      case odd =>
        refine ⟨_, rfl, _, rfl, (by show 1 ≤ sizeLine; decide), fun l10 n10 s10 => ⟨_, _, _, _, rfl, rfl, same_new n10 _ _ upd_same, upd_same, (by show 14 + 1 ≤ sizeLine; decide), fun l11 n11 => ?_⟩⟩
        have n11p : l11 ≠ p := fun z => ((g9.fwd (same_new n10)).pot.has) (by rw [← z]; exact n11)
        have g11 := (g9.fwd (same_new (o := .lst [V.str "toolongname"]) n10)).fwd (same_new (o := .lst (oddW.map sg)) n11)
        refine ⟨p, l11, n + 2 + 1, _, rfl, n11p, g11.pot, by omega, upd_same, List.cons_ne_nil _ _, (by show 14 + 1 ≤ 10 ^ 6; decide), fun x H12 hx g12 => ?_⟩
        obtain ⟨o, ho, rfl⟩ := List.mem_map.mp (show x ∈ oddW.map sg from hx)
        refine ⟨o, oddW_ok o ho, rfl, (Go.trans g11 g12).mono (by omega), ?_⟩
        exact g12.at (same_new n11 _ _ (same_new n10 _ _ ew9)) nwp
      case rest =>
        rintro σ' H12 ⟨o, oo, rfl, g12, ew⟩
        have here12 : Go p (n + 5) H12 H12 := ⟨Same.refl _, g12.pot⟩
        have hl12 := g12.at hl6 nl
        have wl : ∀ lo hi (xs : List (List Nat)), xs = cutW ws lo hi → xs.length ≤ 5000 := fun lo hi xs e => by rw [e]; exact Nat.le_trans (cutW_len _ _ _) (by have := rok.1; omega)
        have wm : ∀ lo hi, ∀ u ∈ cutW ws lo hi, Cl u := fun lo hi u hu => hw2 u (cutW_mem hu)
        refine ⟨fun σ' H' => ∃ (l5 : Addr) (xs : List (List Nat)), σ' = [some (.ref p), some (.ref l), some (.int wy), some (.int (j : Nat)), some (.ref l6), some (.ref l5), some (.int (i : Nat)), some (sg o)] ∧ Go p (n + 5) H12 H' ∧ l5 ≠ p ∧ H' l5 = some (.lst (xs.map sg)) ∧ sumL xs ≤ k + 14 ∧ xs.length ≤ 3000 ∧ ∀ u ∈ xs, Cl u, ?bend, ?tell⟩
        case bend =>
          have so := oo.1
          have rl := rok.1
          refine ⟨_, rfl, rfl, _, rfl, ite2 (fun c => ?_) (fun c => ⟨_, rfl, rfl, _, rfl, ite2 (fun c => ?_) (fun c => ?_)⟩)⟩
          · refine evw_cat (n := n + 5) (evw_slice (K := K) rfl ew nwp evj_none (evj_var rfl)) (evw_slice (K := K) rfl ew nwp (evj_add rfl) evj_none) (fun xs e => Nat.le_trans (wl _ _ xs e) (by decide)) (fun xs e => Nat.le_trans (wl _ _ xs e) (by decide)) H12 here12 _ fun l' rs' H' g nl' e o => ?_
            obtain ⟨a, b, rfl, rfl, rfl⟩ := o
            refine ⟨l', _, rfl, g, nl', e, ?_, ?_, fun u hu => (List.mem_append.mp hu).elim (wm _ _ u) (wm _ _ u)⟩
            · have := sumL_step ws i
              rw [sumL_cat, cutW_pre, show ((i : Int) + 1) = ((i + 1 : Nat) : Int) by omega, cutW_suf]
              omega
            · have := cutW_len ws none (some (i : Int))
              have := cutW_len ws (some ((i : Int) + 1)) none
              rw [List.length_append]
              omega
          · refine evw_cat (n := n + 5) (evw_cat (evw_slice (K := K) rfl ew nwp evj_none (evj_var rfl)) (evw_one (eve_var rfl)) (fun xs e => Nat.le_trans (wl _ _ xs e) (by decide)) (fun xs e => by obtain ⟨r, rfl, e⟩ := e; show 1 ≤ 10000; decide)) (evw_slice (K := K) rfl ew nwp (evj_var rfl) evj_none) (fun xs e => ?_) (fun xs e => Nat.le_trans (wl _ _ xs e) (by decide)) H12 here12 _ fun l' rs' H' g nl' e o' => ?_
            · obtain ⟨a, b, rfl, e1, ys, rfl, e2⟩ := e
              rw [List.length_append]
              have := wl _ _ _ e1
              show _ + 1 ≤ _
              omega
            · obtain ⟨a, b, rfl, ⟨a1, b1, rfl, rfl, ys, rfl, rfl⟩, rfl⟩ := o'
              refine ⟨l', _, rfl, g, nl', e, ?_, ?_, fun u hu => ?_⟩
              · have := sumL_part ws i
                rw [sumL_cat, sumL_cat, sumL_one, cutW_pre, cutW_suf]
                omega
              · have := cutW_len ws none (some (i : Int))
                have := cutW_len ws (some (i : Int)) none
                rw [List.length_append, List.length_append, List.length_singleton]
                omega
              · rcases List.mem_append.mp hu with hu | hu
                · rcases List.mem_append.mp hu with hu | hu
                  · exact wm _ _ u hu
                  · rw [List.mem_singleton.mp hu]
                    exact oo.2
                · exact wm _ _ u hu
          · refine evw_cat (n := n + 5) (evw_cat (evw_slice (K := K) rfl ew nwp evj_none (evj_var rfl)) (evw_one (eve_var rfl)) (fun xs e => Nat.le_trans (wl _ _ xs e) (by decide)) (fun xs e => by obtain ⟨r, rfl, e⟩ := e; show 1 ≤ 10000; decide)) (evw_slice (K := K) rfl ew nwp (evj_add rfl) evj_none) (fun xs e => ?_) (fun xs e => Nat.le_trans (wl _ _ xs e) (by decide)) H12 here12 _ fun l' rs' H' g nl' e o' => ?_
            · obtain ⟨a, b, rfl, e1, ys, rfl, e2⟩ := e
              rw [List.length_append]
              have := wl _ _ _ e1
              show _ + 1 ≤ _
              omega
            · obtain ⟨a, b, rfl, ⟨a1, b1, rfl, rfl, ys, rfl, rfl⟩, rfl⟩ := o'
              refine ⟨l', _, rfl, g, nl', e, ?_, ?_, fun u hu => ?_⟩
              · have := sumL_step ws i
                rw [sumL_cat, sumL_cat, sumL_one, cutW_pre, show ((i : Int) + 1) = ((i + 1 : Nat) : Int) by omega, cutW_suf]
                omega
              · have := cutW_len ws none (some (i : Int))
                have := cutW_len ws (some ((i : Int) + 1)) none
                rw [List.length_append, List.length_append, List.length_singleton]
                omega
              · rcases List.mem_append.mp hu with hu | hu
                · rcases List.mem_append.mp hu with hu | hu
                  · exact wm _ _ u hu
                  · rw [List.mem_singleton.mp hu]
                    exact oo.2
                · exact wm _ _ u hu
        case tell =>
          rintro σ' H13 ⟨l5, xs, rfl, g13, n5, e5, sx, lx, mx⟩
          have here13 : Go p (n + 5) H13 H13 := ⟨Same.refl _, g13.pot⟩
          have hl13 := g13.at hl12 nl
          have rj := row_join sx mx
          refine evw_cat (n := n + 5) (evw_cat (evw_slice (K := K) rfl hl13 nl evj_none (evj_var rfl)) (evw_one (eve_join (K := K) rfl e5 n5 (by unfold sumL at sx; omega))) (fun xs e => szc _ _ xs e) (fun xs e => by obtain ⟨r, rfl, e⟩ := e; show 1 ≤ 10000; decide)) (evw_slice (K := K) rfl hl13 nl (evj_add rfl) evj_none) (fun xs e => ?_) (fun xs e => szc _ _ xs e) H13 here13 _ fun l' rs' H' g nl' e o' => ?_
          · obtain ⟨a, b, rfl, e1, ys, rfl, e2⟩ := e
            rw [List.length_append, e1]
            have := cutW_len rs none (some (j : Int))
            show _ + 1 ≤ _
            omega
          · obtain ⟨a, b, rfl, ⟨a1, b1, rfl, rfl, ys, rfl, rfl⟩, rfl⟩ := o'
            refine fin6 l' _ 3 H' (by decide) (Go.trans g12 (Go.trans g13 g)) nl' e ?_
            exact ((((ok.cut _ _).mono (Nat.le_refl _) (by omega)).cat (RowsOk.one (rj.mono (by omega)))).cat ((ok.cut _ _).mono (Nat.le_refl _) (by omega))).mono (by omega) (Nat.le_refl _)
end
end My

namespace My
open PySem PySem.Spec PyProof.Rows L2 G LamX NdefX
abbrev s__law_told : Stmt := topS 20
theorem sc__law_told : FnScope ["_law_ask", "_law_caught", "_law_back", "error"] ["_law_ask"] (defScope s__law_told) := ⟨rfl, rfl, rfl, by decide +kernel, rfl, by decide +kernel, by decide +kernel⟩

/-- what the law's asking makes of the lambda's reading: the error, or what came back -/
def TTold (K : PySem.W.Frag) (CS : Addr) : (XK → Hp → VK → Prop) → Hp → VK → Prop := fun tl H Q => ∀ H1, Same H H1 → ∀ (E' : XK) (Q' : VK),
  (∀ C d H', PySem.W.exmOne K (.ref C) (.ref CS) = some true → (∀ e, H' e = none → ∀ T, upd H' e (exc e C d) T = none → Q (.ref T) (upd (upd H' e (exc e C d)) T (.tup [.ref e, .non]))) → E' (.ref C) d H') →
  (∀ v H', (∀ T, H' T = none → Q (.ref T) (upd H' T (.tup [.non, v]))) → Q' v H') → tl E' H1 Q'
def spTold (K : PySem.W.Frag) (CS : Addr) : (XK → Hp → VK → Prop) → Sp := fun tl vs H Q _ => ∃ f, vs = [.ref f] ∧ TTold K CS tl H Q
/-- the lambda raises the class B, its error keeps v -/
def Raises (B : Addr) (tl : XK → Hp → VK → Prop) (H : Hp) (v : Hp → V → Prop) : Prop := ∀ H1, Same H H1 → ∀ (E' : XK) (Q' : VK), (∀ dd wv H', Same H1 H' → H' dd = some (.xd [("value", wv)]) → v H' wv → E' (.ref B) (some dd) H') → tl E' H1 Q'
section
variable {P : Program} {w : World} {K : PySem.W.Frag} {mg : Str → Option Value} {base : Heap} {a : Ad}
theorem ok_told {fd : FuncData} (F : Fun K "_law_told" "_law_told" s__law_told a._law_told fd) (T : Txt K mg a) : FnC P w K mg base CX0 1 a._law_told fd ["_law_ask"] (spTold K a.AboutError) := by
  obtain ⟨_, _, _, _, _, _, cdv, _, _, rfl, lk, hcd⟩ := F.ex
  refine fnC_of (d := 0) lk hcd sc__law_told (fun tl vs H Q E h => ?_) (fun A outer s H vs Q E f F fr ws k tl hq hr hh hf hc C nf L h => ?_)
  · obtain ⟨f, rfl, _⟩ := h
    rfl
  · suffices z : ∃ t, PSs (cxOf CX0 P w K mg base ["_law_ask", "_law_caught", "_law_back", "error"] "_law_told" (defScope s__law_told) a._law_told cdv A outer s H E).nox (defBody s__law_told) t ∧ t { nx := fun _ H' => Q .non H', rt := Q } (L2.start ["_law_ask", "_law_caught", "_law_back", "error"] vs) H by
      obtain ⟨t, z1, z2⟩ := z
      exact ⟨t, z1.nox, z2⟩
    obtain ⟨f', rfl, h⟩ := h
    obtain rfl : f' = f := by simpa using hh
    refine ⟨_, pss_cons (ps_asg (pe_tup (pa_cons pe_non (pa_cons pe_non pa_nil))) (pg_tup rfl (pgs_cons (pg_name (i := 1) sc__law_told.nd rfl (Or.inl rfl)) (pgs_cons (pg_name (i := 2) sc__law_told.nd rfl (Or.inl rfl)) pgs_nil))))
      (pss_cons (ps_try_asT (i := 3) (c := .ref a.AboutError) rfl rfl rfl sc__law_told.nd rfl rfl ⟨rfl, by decide, .inl T.g_AboutError⟩
        (fun W pn xe tk _ => pss_one (ps_set (i := 2) sc__law_told.nd rfl (.inl rfl) (pe_callL (i := 0) tk hr C nf rfl L rfl (.inl rfl))))
        (fun e oe cls d pn _ _ => pss_one (ps_set (i := 1) sc__law_told.nd rfl (.inl rfl) (pv 3))))
      (pss_one (ps_ret (pe_tup (pa_cons (pv 1) (pa_cons (pv 2) pa_nil)))))), ?_⟩
    refine ⟨(by show 2 ≤ sizeLine; decide), fun t1 h1 => ⟨t1, _, rfl, SqT.of upd_same, rfl, ?_⟩⟩
    refine ⟨_, _, rfl, _, _, rfl, rfl, rfl, same_new h1 _ _ hf, same_new h1 _ _ hc, ?_⟩
    refine h _ (same_new h1) _ _ (fun C d H' x q => ⟨x, C, rfl, fun e he => ?_⟩) (fun v H' q => ?_)
    · refine ⟨_, rfl, _, rfl, _, rfl, (by show 2 ≤ sizeLine; decide), fun T hT => ?_⟩
      exact q e he T hT
    · refine ⟨_, rfl, _, rfl, (by show 2 ≤ sizeLine; decide), fun T hT => ?_⟩
      exact q T hT
end
end My

namespace My
open PySem PySem.Spec PyProof.Rows L2 G LamX NdefX SX NumText
abbrev s__law_judged : Stmt := topS 29
theorem sc__law_judged : FnScope ["_law_text", "_law_number", "_law_due", "_law_caught", "_law_script"] ["_law_text"] (defScope s__law_judged) := ⟨rfl, rfl, rfl, by decide +kernel, rfl, by decide +kernel, by decide +kernel⟩

def lamJ : Str := "_law_judged.<locals>.<lambda>"
def lamR : Str := "_law_right.<locals>.<lambda>"
/-- the tables of code objects of the two defs that make lambdas -/
abbrev TT (Pj Pr : Addr) : List (Addr × Str) := [(Pj, lamJ), (Pr, lamR)]
theorem hu_J {Pj Pr : Addr} (hne : Pj ≠ Pr) : ∀ p ∈ TT Pj Pr, p.1 = Pj → p.2 = lamJ := fun p hp e => by
  simp only [List.mem_cons, List.not_mem_nil, or_false] at hp
  rcases hp with rfl | rfl
  · rfl
  · exact absurd e.symm hne
theorem hu_R {Pj Pr : Addr} (hne : Pj ≠ Pr) : ∀ p ∈ TT Pj Pr, p.1 = Pr → p.2 = lamR := fun p hp e => by
  simp only [List.mem_cons, List.not_mem_nil, or_false] at hp
  rcases hp with rfl | rfl
  · exact absurd e hne
  · rfl
/-! ### where the lambdas stand in the law's text -/
def noE : Expr := .Name "" ⟨0, 0, 0, 0⟩
def noS : Stmt := .Pass ⟨0, 0, 0, 0⟩
def forB : Stmt → List Stmt
  | .For _ _ b _ _ => b
  | _ => []
def stE : Stmt → Expr
  | .Assign _ v _ => v
  | .Expr v _ => v
  | .Return (some v) _ => v
  | _ => noE
def eltE (i : Nat) : Expr → Expr
  | .List es _ => es.getD i noE
  | .Tuple es _ _ => es.getD i noE
  | .Call _ es _ _ => es.getD i noE
  | e => e
def opdE : Expr → Expr
  | .UnaryOp _ e _ => e
  | .Subscript e _ _ => e
  | e => e
def lamAr : Expr → Arguments
  | .Lambda a _ _ _ => a
  | _ => ⟨[], [], none, [], [], none, []⟩
def lamBd : Expr → Expr
  | .Lambda _ b _ _ => b
  | e => e
def lamSc : Expr → Scope
  | .Lambda _ _ s _ => s
  | _ => defScope noS
def isLam : Expr → Bool
  | .Lambda .. => true
  | _ => false
def leJ : Expr := eltE 0 (eltE 1 (stE ((defBody s__law_judged).getD 0 noS)))
theorem is_lamJ : isLam leJ = true := by decide +kernel
def tRS (K : PySem.W.Frag) (a : Ad) (E : XK) : TE := tMake a.Script (spSI K a.Script a.BadScript) [] E (tCons (tVar 0) tNil)
abbrev dL (X : Cx) (k : Nat) (e : Expr) (fr : List Str) (js : List Nat) (tb : XK → TE) : LamD X := ⟨lamAr e, lamBd e, lamSc e, fr, js, k, tb⟩
theorem goodL {X : Cx} {k : Nat} {e : Expr} {fr : List Str} {js : List Nat} {tb : XK → TE} (h1 : nscB fr [] fr (lamSc e) = true) (h2 : ∀ (q : Str) (cl : List (Str × Addr)) (pm cv ctv : Value), bindArgs (PySem.W.kla_fn "<lambda>" q (lamAr e) (lamBd e) (lamSc e) cl pm cv ctv) ⟨[], []⟩ = pure [])
    (h3 : ndefB X.env.scope (lamSc e) fr = true) (h4 : js.map (fun j => X.N[j]?) = fr.map some)
    (bd : ∀ (f c' : Addr) (A : Around) (outer : List Env) (s : Shared) (H : Hp) (E : XK), Room k (A.deeper (envF (lamOf X (lamAr e) (lamBd e) (lamSc e) c').nf f s.heap.objs.size)) → PE (ncx (L2.CX X.prog X.w) X.prog X.w X.K X.mg X.base fr (lamOf X (lamAr e) (lamBd e) (lamSc e) c').nf f A outer s H E) (lamBd e) (tb E)) :
    (dL X k e fr js tb).Good := ⟨nscope_by h1, h2, ndef_free h3, ndef_fr h3, h4, bd⟩
theorem told_raises {K : PySem.W.Frag} {B AE : Addr} {tl : XK → Hp → VK → Prop} {H : Hp} {Q : VK} {vP : Hp → V → Prop} (ra : Raises B tl H vP) (hm : ∀ H H' v, Same H H' → vP H v → vP H' v) (hx : PySem.W.exmOne K (.ref B) (.ref AE) = some true)
    (q : ∀ H' e t wv, Same H H' → H' t = some (.tup [.ref e, .non]) → Caught H' e B wv → vP H' wv → Q (.ref t) H') : TTold K AE tl H Q := by
  intro H1 S1 E' Q' hE hQ
  refine ra H1 S1 E' Q' fun dd wv H' S2 hdd hw => hE B (some dd) H' hx fun e he t ht => ?_
  have Se := same_new (o := exc e B (some dd)) he
  have St := same_new (o := .tup [.ref e, .non]) ht
  exact q _ e t wv (((S1.trans S2).trans Se).trans St) upd_same ⟨dd, St _ _ upd_same, St _ _ (Se _ _ hdd)⟩ (hm _ _ _ (Se.trans St) hw)
theorem told_back {K : PySem.W.Frag} {AE : Addr} {tl : XK → Hp → VK → Prop} {H : Hp} {Q : VK} {R : Hp → V → Prop} (rb : ∀ H1, Same H H1 → ∀ (E' : XK) (Q' : VK), (∀ v H', Same H1 H' → R H' v → Q' v H') → tl E' H1 Q') (hm : ∀ H H' v, Same H H' → R H v → R H' v)
    (q : ∀ H' t v, Same H H' → H' t = some (.tup [.non, v]) → R H' v → Q (.ref t) H') : TTold K AE tl H Q := by
  intro H1 S1 E' Q' hE hQ
  refine rb H1 S1 E' Q' fun v H' S2 hr => hQ v H' fun t ht => ?_
  have St := same_new (o := .tup [.non, v]) ht
  exact q _ t v ((S1.trans S2).trans St) upd_same (hm _ _ _ St hr)
/-! ### the steps as data -/
def dV : V → PyData
  | .str z => .str z
  | .int i => .int i
  | _ => .none
def stepD (x : List V) : PyData := .tuple (x.map dV)
def allD (ys : List (List V)) : PyData := .tuple (ys.map stepD)
theorem da_prt {H : Hp} {v : V} (h : Prt v) : Da H v (dV v) := by
  rcases h with ⟨z, rfl, _⟩ | ⟨n, rfl, _⟩
  · exact .str _
  · exact .int _
theorem da_prts {H : Hp} : ∀ {x : List V}, (∀ v ∈ x, Prt v) → DaAll H x (x.map dV)
  | [], _ => .nil
  | v :: x, h => .cons (da_prt (h v (by simp))) (da_prts fun u hu => h u (by simp [hu]))
theorem da_tups {H : Hp} : ∀ {ts : List Addr} {ys : List (List V)}, Tups H ts ys → (∀ y ∈ ys, ∀ v ∈ y, Prt v) → DaAll H (ts.map V.ref) (ys.map stepD)
  | _, _, .nil, _ => .nil
  | _, _, .cons h t, p => .cons (.tup h (da_prts (p _ (by simp)))) (da_tups t fun y hy => p y (by simp [hy]))
theorem da_all {H : Hp} {t : Addr} {ts : List Addr} {ys : List (List V)} (h : H t = some (.tup (ts.map V.ref))) (tu : Tups H ts ys) (p : ∀ y ∈ ys, ∀ v ∈ y, Prt v) : Da H (.ref t) (allD ys) := .tup h (da_tups tu p)
theorem gd_nat {n : Nat} (h : n ≤ 1000) : Gd 30 0 (.int (n : Nat)) := by
  refine ⟨decide_eq_true ?_, ?_, Nat.zero_le _, ?_⟩
  · show (Str.ofString (toString (n : Int))).length ≤ 13
    rw [int_L, S_len]
    have := intL_le (n := (n : Int)) (k := 4) (by decide) (by omega)
    omega
  · exact decide_eq_true (show (n : Int).natAbs.log2 < 1920 from Nat.lt_of_le_of_lt (Nat.log2_le_self _) (by omega))
  · have := PySem.Flt.log2_lt_of (k := 12) (n := (n : Int).natAbs) (by decide) (by omega)
    show (if (n : Int) == 0 then 0 else (n : Int).natAbs.log2 + 1) ≤ 30
    split <;> omega
theorem gd_prt {v : V} (h : Prt v) : Gd 30 0 (dV v) := by
  rcases h with ⟨z, rfl, l, r⟩ | ⟨n, rfl, hn⟩
  · refine ⟨List.all_eq_true.mpr fun c hc => decide_eq_true (Nat.lt_of_le_of_lt (r c hc).2 (by decide)), rfl, Nat.zero_le _, ?_⟩
    show (S z).length ≤ 30
    rw [S_len]
    omega
  · exact gd_nat hn
theorem gd_all_steps {ys : List (List V)} (p : ∀ y ∈ ys, (∀ v ∈ y, Prt v) ∧ y.length = 5) (hl : ys.length ≤ 12) : Gd 5000 2 (allD ys) := by
  refine gd_tup (n := 160) (m := 12) (fun d hd => ?_) (by rw [List.length_map]; exact hl) (by decide)
  obtain ⟨y, hy, rfl⟩ := List.mem_map.mp hd
  refine gd_tup (n := 30) (m := 5) (fun d hd => ?_) (by rw [List.length_map, (p y hy).2]; exact Nat.le_refl _) (by decide)
  obtain ⟨v, hv, rfl⟩ := List.mem_map.mp hd
  exact gd_prt ((p y hy).1 v hv)
theorem stV_prt {ws : List (List Nat)} {f : Bool} {m : Nat} {y : List V} (hm : m ≤ 1000) (h : stV ws f m = some y) : (∀ v ∈ y, Prt v) ∧ y.length = 5 := by
  unfold stV at h
  split at h
  · rename_i x hx
    cases h
    unfold stT at hx
    split at hx
    · rename_i ok
      cases hx
      have r := row_T ok true 0
      exact ⟨r.pr, r.ln⟩
    · cases hx
  · split at h
    · cases h
    · unfold stS at h
      split at h
      · rename_i ok
        cases h
        unfold okS at ok
        split at ok
        · rename_i a1 b1 c1 d1 e1 _
          unfold two at ok
          simp only [Bool.and_eq_true, decide_eq_true_eq, Bool.not_eq_true', decide_eq_false_iff_not] at ok
          obtain ⟨⟨⟨h1, h2⟩, ⟨h3, h4⟩, h5⟩, h6⟩ := ok
          obtain ⟨k, k1, k2, rfl⟩ := skN_iff.mp h6
          have r := row_S h3 h4 h5 k1 k2 (by omega)
          have e : skV [a1, TL.numL k, c1, d1, e1] = [sg wSkip, .int (k : Nat), sg wLeft, sg d1, sg e1] := by
            show [sg wSkip, V.int (digitsVal (TL.numL k) : Nat), sg wLeft, sg d1, sg e1] = _
            rw [TL.numL_val]
          rw [e]
          exact ⟨r.pr, r.ln⟩
        · cases ok
      · cases h
theorem rd_prt : ∀ {rs : List (List Nat)} {i : Nat} {ys : List (List V)}, rs.length ≤ 1000 → rd rs i = .inr ys → ∀ y ∈ ys, (∀ v ∈ y, Prt v) ∧ y.length = 5
  | [], i, ys, _, h => by
    unfold rd at h
    cases h
    intro y hy
    cases hy
  | r :: rs, i, ys, hl, h => by
    unfold rd at h
    cases e : stAt r i rs.length with
    | none => rw [e] at h; cases h
    | some x =>
      rw [e] at h
      simp only at h
      cases e2 : rd rs (i + 1) with
      | inl n => rw [e2] at h; cases h
      | inr zs =>
        rw [e2] at h
        cases h
        simp only [List.length_cons] at hl
        intro y hy
        rcases List.mem_cons.mp hy with rfl | hy
        · unfold stAt at e
          split at e
          · exact stV_prt (by omega) e
          · cases e
        · exact rd_prt (by omega) e2 y hy
theorem mk_scA {K : PySem.W.Frag} {C B : Addr} {H : Hp} {l : List Nat} {E : XK} {Q : VK} {x dx : Addr} (hx : H x = none) (hdx : H dx = none) (hl : l.length ≤ 20000) (hr : (spR l).length ≤ 1000)
    (q : ∀ ys, rd (spR l) 0 = .inr ys → ∀ H', Same H H' → ScQ C H' (.ref x) l ys → Q .non H') (r : ∀ n, rd (spR l) 0 = .inl n → Told H (.int (n : Nat)) B E) : spSI K C B [.ref x, sg l] (upd (upd H dx (.own x)) x (.ins C dx [])) Q E := by
  have S : Same H (upd (upd H dx (.own x)) x (.ins C dx [])) := fun b o e => by
    rw [upd_ne (ne_of_none e hx), upd_ne (ne_of_none e hdx)]
    exact e
  exact ⟨x, dx, _, rfl, upd_same, .inl ⟨l, rfl, hl, hr, fun ys ey H' k s => q ys ey H' (fun b o e => k b o (ne_of_none e hx) (S b o e)) s, fun m em => (r m em).same S⟩⟩
def spJud (Pj Pr : Addr) : Sp := fun vs H Q _ => ∃ l, vs = [sg l] ∧ l.length ≤ 20000 ∧ (spR l).length ≤ 1000 ∧ Tabs (TT Pj Pr) H ∧ ∀ H', Tabs (TT Pj Pr) H' → ExtN H H' → Q (.bl true) H'
section
variable {P : Program} {w : World} {K : PySem.W.Frag} {mg : Str → Option Value} {base : Heap} {a : Ad}
abbrev juN : List Str := ["_law_text", "_law_number", "_law_due", "_law_caught", "_law_script"]
abbrev cxJu (P : Program) (w : World) (K : PySem.W.Frag) (mg : Str → Option Value) (base : Heap) (a : Ad) (cA : Addr) (A : Around) (outer : List Env) (s : Shared) (H : Hp) (E : XK) : Cx :=
  (cxOf CX0 P w K mg base juN "_law_judged" (defScope s__law_judged) a._law_judged (.ref cA) A outer s H E).nox
theorem ok_judged {cA Pj Pr : Addr} {oc kV doc pm ct : Value} {an od : Option Addr} {osl : Array (Option Value)} (T : Txt K mg a) (hne : Pj ≠ Pr)
    (lk : K.lookup a._law_judged = some ⟨oc, od, .func (PySem.W.fnOf "_law_judged" "_law_judged" (defArgs s__law_judged) (defBody s__law_judged) (defScope s__law_judged) .none kV doc pm an (.ref cA) ct), osl⟩)
    (hc : PySem.W.codeIn K (.ref cA) "_law_judged" = true) (TB : TabB base mg cA Pj)
    {fdt : FuncData} (Gt : FnC P w K mg base CX0 1 a._law_told fdt ["_law_ask"] (spTold K a.AboutError)) (bt : Binds K fdt ["_law_ask"] [])
    {fd_Script___eq__ : FuncData} (G_Script___eq__ : FnOk P w K mg base CX0 3 a.Script___eq__ fd_Script___eq__ ["self", "other"] (spSE K a.Script)) (b_Script___eq__ : Binds K fd_Script___eq__ ["self", "other"] [])
    {fd_Script___init__ : FuncData} (G_Script___init__ : FnOk P w K mg base (L2.CX P w) 5 a.Script___init__ fd_Script___init__ ["self", "text"] (spSI K a.Script a.BadScript)) (b_Script___init__ : Binds K fd_Script___init__ ["self", "text"] [])
    {fd_Script___len__ : FuncData} (G_Script___len__ : FnOk P w K mg base CX0 1 a.Script___len__ fd_Script___len__ ["self"] (spSL a.Script)) (b_Script___len__ : Binds K fd_Script___len__ ["self"] [])
    {fd_Script_text : FuncData} (G_Script_text : FnOk P w K mg base CX0 1 a.Script_text fd_Script_text ["self"] (spST a.Script)) (b_Script_text : Binds K fd_Script_text ["self"] [])
    {fd__law_read : FuncData} (G__law_read : Fn P w K mg base CX0 3 a._law_read fd__law_read ["_law_text"] spRead) (b__law_read : Binds K fd__law_read ["_law_text"] [])
    : Fn P w K mg base CX0 11 a._law_judged (PySem.W.fnOf "_law_judged" "_law_judged" (defArgs s__law_judged) (defBody s__law_judged) (defScope s__law_judged) .none kV doc pm an (.ref cA) ct) ["_law_text"] (spJud Pj Pr) := by
  refine fnOf lk hc sc__law_judged (fun vs H Q E h => ?len) (fun A outer s H vs Q E hq hr h => ?body)
  case len => obtain ⟨l, rfl, _⟩ := h; rfl
  case body =>
    suffices z : ∃ t, PSs (cxJu P w K mg base a cA A outer s H E) (defBody s__law_judged) t ∧ t { nx := fun _ H' => Q .non H', rt := Q } (L2.start juN vs) H by
      obtain ⟨t, z1, z2⟩ := z
      exact ⟨t, z1.nox, z2⟩
    have g1 : (dL (cxJu P w K mg base a cA A outer s H E) 8 leJ ["_law_text"] [0] (tRS K a)).Good := goodL (by decide +kernel) (fun _ _ _ _ _ => rfl) (show ndefB (defScope s__law_judged) (lamSc leJ) ["_law_text"] = true by decide +kernel) rfl fun f c' A outer s H E hr2 =>
      pe_make T.m_Script G_Script___init__ (hr2.mono (by omega)) (by rfl) T.g_Script b_Script___init__ .nil (passes_call (takes_of rfl rfl rfl rfl) fun _ _ _ _ h => h) (pa_cons (pv 0) pa_nil)
    refine ⟨_, (pss_cons (ps_asg (pe_tup (pa_cons (pe_fn G__law_read hq (hr.mono (by omega)) (by rfl) T.g__law_read T.k__law_read b__law_read .nil pass0 (pa_cons (pv 0) pa_nil)) (pa_cons (pe_fnC Gt hq (by rfl) T.g__law_told T.k__law_told bt .nil pass0 (pa_cons (pe_lamK (T := TT Pj Pr) TB rfl (List.mem_cons_self ..) (hu_J hne) rfl (lamS_by (sc := defScope s__law_judged) (by decide +kernel))) pa_nil) (known_here g1 (fun _ _ _ => rfl) (hr.mono (by show 8 + 1 + 1 ≤ 10; decide)))) pa_nil))) (pg_tup rfl (pgs_cons (pg_tup rfl (pgs_cons (pg_name (i := 1) sc__law_judged.nd rfl (Or.inl rfl)) (pgs_cons (pg_name (i := 2) sc__law_judged.nd rfl (Or.inl rfl)) pgs_nil))) (pgs_cons (pg_tup rfl (pgs_cons (pg_name (i := 3) sc__law_judged.nd rfl (Or.inl rfl)) (pgs_cons (pg_name (i := 4) sc__law_judged.nd rfl (Or.inl rfl)) pgs_nil))) pgs_nil))))
      (pss_cons (ps_if (pt_cmpR op_gt (pv 1) pe_int (nomark _)) (pss_one (ps_ret (pe_and (pe_callB (call_isCaught T.ek) (by rfl) T.n_isinstance (by decide +kernel) (pa_cons (pv 3) (pa_cons (pe_glob (v := .ref a.BadScript) (by rfl) T.g_BadScript rfl) pa_nil))) (pe_one (pe_cmpR op_eq (pe_callB (call_reprD hq hr.units) (by rfl) T.n_repr (by decide +kernel) (pa_cons (pe_valueC (pv 3)) pa_nil)) (pe_callB (call_reprD hq hr.units) (by rfl) T.n_repr (by decide +kernel) (pa_cons (pv 1) pa_nil)) (nomark _)))))) pss_nil)
      (pss_cons (ps_if (PW.pt (pw_or (pt_cmpR op_notN (pv 3) pe_non (nomark _)) (pw_or (pt_cmpR op_ne (pe_prop (pv 4) T.cl T.tR.choose_spec G_Script_text (hr.mono (by omega)) b_Script_text .nil pass0 (by rfl)) (pv 0) (nomark _)) (pw_or (pt_cmpR op_ne (pe_callB (call_reprD hq hr.units) (by rfl) T.n_repr (by decide +kernel) (pa_cons (pe_fld (pv 4) rfl) pa_nil)) (pe_callB (call_reprD hq hr.units) (by rfl) T.n_repr (by decide +kernel) (pa_cons (pe_callTy call_tuple_of (by rfl) T.n_tuple (by decide +kernel) (pa_cons (pv 2) pa_nil)) pa_nil)) (nomark _)) (pw_or1 (pt_cmpR op_ne (pe_callB (call_lenK T.lenA T.lenF G_Script___len__ b_Script___len__ (hr.mono (by omega)) pass0) (by rfl) T.n_len (by decide +kernel) (pa_cons (pv 4) pa_nil)) (pe_callB call_len_seq (by rfl) T.n_len (by decide +kernel) (pa_cons (pv 2) pa_nil)) (nomark _))))))) (pss_one (ps_ret pe_bl)) pss_nil)
      (pss_one (ps_ret (pe_and (pe_cmpR (op_eqK T.eqc (fnR G_Script___eq__ b_Script___eq__) (hr.mono (by omega)) pass0) (pv 4) (pe_make T.m_Script G_Script___init__ (hr.mono (by omega)) (by rfl) T.g_Script b_Script___init__ .nil passF (pa_cons (pv 0) pa_nil)) (nomark _)) (pe_and (pe_not (pe_cmpR (op_neK T.eqc G_Script___eq__ b_Script___eq__ (hr.mono (by omega)) pass0) (pv 4) (pe_make T.m_Script G_Script___init__ (hr.mono (by omega)) (by rfl) T.g_Script b_Script___init__ .nil passF (pa_cons (pv 0) pa_nil)) (nomark _))) (pe_and (pe_cmpR (op_neK T.eqc G_Script___eq__ b_Script___eq__ (hr.mono (by omega)) pass0) (pv 4) (pv 0) (nomark _)) (pe_one (pe_not (pe_cmpR (op_eqL T.eqc T.nfl (fnR G_Script___eq__ b_Script___eq__) (hr.mono (by omega)) pass0) (pv 4) (pv 2) (nomark _)))))))))))), ?_⟩
    obtain ⟨l, rfl, hl, hrw, tabs, q⟩ := h
    cases hrd : rd (spR l) 0 with
    | inl n =>
      obtain ⟨n1, n2⟩ := rd_pos hrd
      refine ⟨_, rfl, l, rfl, hl, hrw, fun ys e => (by rw [hrd] at e; cases e), fun m e t1 H1 S1 et => ?_⟩
      obtain rfl : n = m := by rw [hrd] at e; cases e; rfl
      refine ⟨Tabs.ext tabs S1, fun f c' H2 eN T2 nn nf hf hc => ⟨f, _, _, ⟨c', rfl, rfl⟩, rfl, hf, hc, f, rfl, ?_⟩⟩
      have et2 := eN _ _ et fun _ z => nomatch z
      refine told_raises (B := a.BadScript) (vP := fun _ v => v = .int (n : Nat)) (fun H3 S3 E' Q' hE => ⟨_, rfl, mk_sc hl hrw ⟨fun ys e => (by rw [hrd] at e; cases e), fun m em d H' S e => ?_⟩⟩) (fun _ _ _ _ h => h) T.x_BadScript fun H3 e t wv S3 ht ct hw => ?_
      · obtain rfl : n = m := by rw [hrd] at em; cases em; rfl
        exact hE d _ H' S e rfl
      subst hw
      refine ⟨(by show 2 ≤ sizeLine; decide), fun t5 f5 => ?_⟩
      have S5 := same_new (o := .tup [.ref t1, .ref t]) f5
      refine ⟨t5, _, rfl, SqT.of upd_same, rfl, _, _, rfl, t1, _, rfl, SqT.of (S5 _ _ (S3 _ _ et2)), rfl, _, _, rfl, _, _, rfl, rfl, _, _, rfl, t, _, rfl, SqT.of (S5 _ _ ht), rfl, _, _, rfl, _, _, rfl, rfl, rfl, ?_⟩
      have ct5 := ct.same S5
      have eA : ExtN H (upd H3 t5 (.tup [.ref t1, .ref t])) := ((ExtN.of S1).trans eN).trans (ExtN.of (S3.trans S5))
      have T5 := Tabs.ext T2 (S3.trans S5)
      generalize upd H3 t5 (.tup [.ref t1, .ref t]) = H5 at ct5 eA T5 ⊢
      refine ⟨_, rfl, _, _, rfl, rfl, _, rfl, ite2 (fun _ => ?_) (fun c => absurd (decide_eq_true (by omega)) c)⟩
      refine ⟨_, rfl, e, a.BadScript, _, _, _, true, rfl, .own _, T.c_BadScript, ct5, T.t_BadScript, true, rfl, iteT ?_⟩
      refine ⟨_, rfl, e, a.BadScript, _, rfl, T.c_BadScript, ct5, _, _, 30, 0, rfl, .int _, gd_nat (by omega), ⟨by decide, by decide⟩, ?_⟩
      refine ⟨_, rfl, _, _, 30, 0, rfl, .int _, gd_nat (by omega), ⟨by decide, by decide⟩, rfl, ?_⟩
      rw [decide_eq_true rfl]
      exact q _ T5 eA
    | inr ys =>
      obtain ⟨y1, y2⟩ := rd_len hrd
      have yl : ys.length ≤ 12 := by
        have := y2 (spl_ne 10 l)
        omega
      have yp := rd_prt hrw hrd
      have yp1 : ∀ y ∈ ys, ∀ v ∈ y, Prt v := fun y hy => (yp y hy).1
      have gd := gd_all_steps yp yl
      refine ⟨_, rfl, l, rfl, hl, hrw, fun zs e t1 lf ts H1 S1 et ef tu => ?_, fun m e => by rw [hrd] at e; cases e⟩
      obtain rfl : ys = zs := by rw [hrd] at e; cases e; rfl
      refine ⟨Tabs.ext tabs S1, fun f c' H2 eN T2 nn nf hf hc => ⟨f, _, _, ⟨c', rfl, rfl⟩, rfl, hf, hc, f, rfl, ?_⟩⟩
      have et2 := eN _ _ et fun _ z => nomatch z
      have ef2 := eN _ _ ef fun _ z => nomatch z
      have tu2 : Tups H2 ts ys := Paired.mapP tu fun _ _ e => eN _ _ e fun _ z => nomatch z
      have bk : mkQ a.Script a.BadScript l = mkQ a.Script a.BadScript l := rfl
      refine told_back (R := fun H v => ScQ a.Script H v l ys) (fun H3 S3 E' Q' hQ => ⟨_, rfl, mk_sc hl hrw ⟨fun zs e z H' S' s => ?_, fun m e => by rw [hrd] at e; cases e⟩⟩) (fun H H' v S h => h.same S) fun H3 t v S3 ht sv => ?_
      · obtain rfl : ys = zs := by rw [hrd] at e; cases e; rfl
        exact hQ z H' S' s
      refine ⟨(by show 2 ≤ sizeLine; decide), fun t5 f5 => ?_⟩
      have S5 := same_new (o := .tup [.ref t1, .ref t]) f5
      refine ⟨t5, _, rfl, SqT.of upd_same, rfl, _, _, rfl, t1, _, rfl, SqT.of (S5 _ _ (S3 _ _ et2)), rfl, _, _, rfl, _, _, rfl, rfl, _, _, rfl, t, _, rfl, SqT.of (S5 _ _ ht), rfl, _, _, rfl, _, _, rfl, rfl, rfl, ?_⟩
      have ef5 := S5 _ _ (S3 _ _ ef2)
      have tu5 := (tu2.same S3).same S5
      replace sv := sv.same S5
      have eA : ExtN H (upd H3 t5 (.tup [.ref t1, .ref t])) := ((ExtN.of S1).trans eN).trans (ExtN.of (S3.trans S5))
      have T5 := Tabs.ext T2 (S3.trans S5)
      generalize upd H3 t5 (.tup [.ref t1, .ref t]) = H5 at ef5 tu5 sv eA T5 ⊢
      refine ⟨_, rfl, _, _, rfl, rfl, _, rfl, ite2 (fun c => absurd (of_decide_eq_true c) (by decide)) (fun _ => ?_)⟩
      obtain ⟨ts1, us, ⟨b, dx, rfl, hb⟩, hts, tus⟩ := id sv
      refine ⟨_, rfl, rfl, _, rfl, iteF ?_⟩
      refine ⟨_, rfl, b, dx, _, rfl, hb, _, l, _, rfl, ⟨b, dx, rfl, hb⟩, _, rfl, rfl, _, rfl, ?_⟩
      refine iteNS rfl ?_
      refine ⟨_, rfl, _, _, _, _, _, rfl, hb, T.cl, T.nS, rfl, .ref ts1, allD ys, 5000, 2, rfl, da_all hts tus yp1, gd, ⟨by decide, by decide⟩, _, rfl, lf, _, rfl, .inl ⟨SqL.of ef5, fun t6 f6 => ?_⟩⟩
      have S6 := same_new (o := .tup (ts.map V.ref)) f6
      refine ⟨.ref t6, allD ys, 5000, 2, rfl, da_all upd_same (tu5.same S6) yp1, gd, ⟨by decide, by decide⟩, rfl, _, rfl, iteNS rfl ?_⟩
      replace hb := S6 _ _ hb
      replace hts := S6 _ _ hts
      replace tus := tus.same S6
      replace ef5 := S6 _ _ ef5
      replace eA := eA.trans (ExtN.of S6)
      replace T5 := Tabs.ext T5 S6
      have ll : us.length = ts.length := tus.length.trans tu5.length.symm
      have lt : ts.length ≤ 12 := by
        have := tu5.length
        omega
      generalize upd H5 t6 (.tup (ts.map V.ref)) = H6 at hb hts tus ef5 eA T5 ⊢
      clear sv S5 S6 f5 f6 ht tu5 S3 et2 ef2 tu2 hf hc eN nn et ef tu S1 bk
      have so : ScO a.Script H6 (.ref b) l (.ref ts1) := ⟨b, dx, rfl, hb⟩
      refine ⟨_, rfl, b, dx, _, rfl, hb, _, l, ts1, us, rfl, so, hts, _, rfl, by omega, by omega, _, rfl, lf, _, rfl, .inl (SqL.of ef5), rfl, _, rfl, ?_⟩
      refine iteNS (by rw [List.length_map, ll]) ?_
      have nfC : PySem.W.notFirst K a.Script (.ref a.Script) = true := by simp [PySem.W.notFirst]
      refine ⟨_, rfl, _, rfl, ?_⟩
      intro x1 d1 c1 c2 c3
      refine mk_scA c1 c2 hl hrw (fun zs e H7 S7 s7 => ⟨rfl, ?_⟩) (fun m e => (by rw [hrd] at e; cases e))
      obtain ⟨_, _, ⟨b7, d7, e7, hb7⟩, _, _⟩ := s7
      cases e7
      have so7 := so.same S7
      refine ⟨b, dx, _, _, rfl, S7 _ _ hb, .ins hb7, nfC, _, _, l, _, rfl, so7, .inl ⟨l, _, ⟨_, d7, rfl, hb7⟩, _, rfl, ?_⟩⟩
      rw [decide_eq_true rfl]
      refine iteT ?_
      refine ⟨_, rfl, _, rfl, ?_⟩
      intro x2 d2 c4 c5 c6
      refine mk_scA c4 c5 hl hrw (fun zs e H8 S8 s8 => ⟨rfl, ?_⟩) (fun m e => (by rw [hrd] at e; cases e))
      obtain ⟨_, _, ⟨b8, d8, e8, hb8⟩, _, _⟩ := s8
      cases e8
      have so8 := so7.same S8
      have S78 := S7.trans S8
      refine ⟨b, dx, _, _, rfl, S78 _ _ hb, .ins hb8, nfC, _, _, l, _, rfl, so8, .inl ⟨l, _, ⟨_, d8, rfl, hb8⟩, _, rfl, ?_⟩⟩
      rw [decide_eq_true rfl]
      refine ⟨_, rfl, _, rfl, iteT ?_⟩
      refine ⟨_, rfl, _, rfl, b, dx, _, _, rfl, S78 _ _ hb, .str _, T.eqc.nf "str" rfl, _, _, l, _, rfl, so8, .inr ⟨⟨_, .base (.str _), T.ri.kt _ (by simp)⟩, _, rfl, _, rfl, iteT ?_⟩⟩
      refine ⟨_, rfl, _, rfl, b, dx, _, lf, _, rfl, rfl, S78 _ _ hb, S78 _ _ ef5, _, _, l, _, rfl, so8, .inr ⟨⟨_, .base (.lst (S78 _ _ ef5)), T.ri.kt _ (by simp)⟩, ?_⟩⟩
      exact ⟨_, rfl, q _ (Tabs.ext T5 S78) (eA.trans (ExtN.of S78))⟩
end
end My

namespace My
open PySem PySem.Spec PyProof.Rows L2 G LamX NdefX SX NumText
abbrev s__law_right : Stmt := topS 30
theorem sc__law_right : FnScope ["_law_pot_here", "_law_names", "_law_steps_here", "_law_rows", "_law_longest", "_law_lap", "_law_bent", "_law_value", "_law_caught", "_law_due", "_law_step_here", "_law_lines"] ["_law_pot_here"] (defScope s__law_right) := ⟨rfl, rfl, rfl, by decide +kernel, rfl, by decide +kernel, by decide +kernel⟩

/-! ### all but the pot and the tables of code objects stays -/
def IsTb (H : Hp) (b : Addr) : Prop := ∃ ps, H b = some (.tbl ps)
noncomputable abbrev vw (p : Addr) (H : Hp) : Hp := mask (fun b => b = p ∨ IsTb H b) H
theorem vw_le (p : Addr) (H : Hp) : Same (vw p H) H := mask_le _ _
theorem vw_at {p b : Addr} {H : Hp} {o : HO} (h : H b = some o) (hb : b ≠ p) (ho : ∀ ps, o ≠ .tbl ps) : vw p H b = some o := by
  refine (mask_out ?_).trans h
  rintro (z | ⟨ps, z⟩)
  · exact hb z
  · rw [h] at z
    exact ho ps (Option.some.inj z)
theorem vw_some {p b : Addr} {H : Hp} {o : HO} (h : vw p H b = some o) : b ≠ p ∧ H b = some o ∧ ∀ ps, o ≠ .tbl ps := by
  obtain ⟨n, e⟩ := mask_some h
  exact ⟨fun z => n (.inl z), e, fun ps z => n (.inr ⟨ps, by rw [e, z]⟩)⟩
def Kp (p : Addr) (H H' : Hp) : Prop := Same (vw p H) (vw p H')
theorem Kp.refl (p : Addr) (H : Hp) : Kp p H H := Same.refl _
theorem Kp.trans {p : Addr} {H H1 H2 : Hp} (a : Kp p H H1) (b : Kp p H1 H2) : Kp p H H2 := Same.trans a b
theorem Kp.same {p : Addr} {H H' : Hp} (S : Same H H') : Kp p H H' := fun b o e => by
  obtain ⟨n, e, t⟩ := vw_some e
  exact vw_at (S _ _ e) n t
theorem Kp.ext {p : Addr} {H H' : Hp} (S : ExtN H H') : Kp p H H' := fun b o e => by
  obtain ⟨n, e, t⟩ := vw_some e
  exact vw_at (S _ _ e t) n t
theorem Kp.go {p : Addr} {n : Nat} {H H' : Hp} (g : Go p n H H') : Kp p H H' := fun b o e => by
  obtain ⟨n, e, t⟩ := vw_some e
  exact vw_at (g.at e n) n t
theorem Kp.at {p b : Addr} {H H' : Hp} {o : HO} (k : Kp p H H') (h : H b = some o) (hb : b ≠ p) (ho : ∀ ps, o ≠ .tbl ps) : H' b = some o := (vw_some (k b o (vw_at h hb ho))).2.1
theorem Kp.over {p D : Addr} {H H' : Hp} {ys : List V} (k : Kp p H H') (n : H D = none) : Kp p H (upd H' D (.lst ys)) := fun b o e => by
  obtain ⟨nb, eb, t⟩ := vw_some e
  exact vw_at (by rw [upd_ne (ne_of_none eb n)]; exact k.at eb nb t) nb t
theorem PotAt.ext {p : Addr} {k : Nat} {H H' : Hp} (S : ExtN H H') (h : PotAt H p k) : PotAt H' p k := by
  obtain ⟨a, b, c, e, r⟩ := h
  exact ⟨a, b, c, S _ _ e (fun _ z => nomatch z), r⟩
theorem codeO_no {c : Addr} {q : Str} {xs : List V} : CodeO c q ≠ .lst xs := fun z => by
  unfold CodeO at z
  cases z
theorem Tabs.go {T : List (Addr × Str)} {p : Addr} {m n : Nat} {H H' : Hp} (g : Go p n H H') (pot : PotAt H p m) (t : Tabs T H) : Tabs T H' := fun x hx => by
  obtain ⟨a, b, c, f, _⟩ := pot
  obtain ⟨ps, h1, h2, h3⟩ := t x hx
  refine ⟨ps, g.at h1 (fun z => ?_), h2, fun ps cv hc => ?_⟩
  · rw [z, f] at h1
    cases h1
  · obtain ⟨y, e1, e2⟩ := h3 ps cv hc
    refine ⟨y, e1, g.at e2 fun z => ?_⟩
    rw [z, f] at e2
    exact codeO_no (Option.some.inj e2).symm
theorem lst_ne {H : Hp} {D b : Addr} {xs : List V} {o : HO} (hD : H D = some (.lst xs)) (h : H b = some o) (no : ∀ ys, o ≠ .lst ys) : b ≠ D := fun z => by
  rw [z, hD] at h
  exact no _ (Option.some.inj h).symm
theorem Tabs.over {T : List (Addr × Str)} {D : Addr} {H : Hp} {xs ys : List V} (t : Tabs T H) (hD : H D = some (.lst xs)) : Tabs T (upd H D (.lst ys)) := fun x hx => by
  obtain ⟨ps, h1, h2, h3⟩ := t x hx
  refine ⟨ps, by rw [upd_ne (lst_ne hD h1 fun _ z => nomatch z)]; exact h1, h2, fun ps cv hc => ?_⟩
  obtain ⟨y, e1, e2⟩ := h3 ps cv hc
  exact ⟨y, e1, by rw [upd_ne (lst_ne hD e2 fun _ => codeO_no)]; exact e2⟩
/-- where the law stands -/
structure Sta (Pj Pr p : Addr) (H H' : Hp) (n : Nat) : Prop where
  kp : Kp p H H'
  tb : Tabs (TT Pj Pr) H'
  pt : PotAt H' p n
section
variable {Pj Pr p : Addr} {H H1 H2 : Hp} {m n : Nat}
theorem Sta.go (s : Sta Pj Pr p H H1 m) (g : Go p n H1 H2) : Sta Pj Pr p H H2 n := ⟨s.kp.trans (Kp.go g), Tabs.go g s.pt s.tb, g.pot⟩
theorem Sta.same (s : Sta Pj Pr p H H1 m) (S : Same H1 H2) : Sta Pj Pr p H H2 m := ⟨s.kp.trans (Kp.same S), Tabs.ext s.tb S, s.pt.same S⟩
theorem Sta.ext (s : Sta Pj Pr p H H1 m) (S : ExtN H1 H2) (t : Tabs (TT Pj Pr) H2) : Sta Pj Pr p H H2 m := ⟨s.kp.trans (Kp.ext S), t, s.pt.ext S⟩
theorem Sta.mono (s : Sta Pj Pr p H H1 m) (h : m ≤ n) : Sta Pj Pr p H H1 n := ⟨s.kp, s.tb, s.pt.mono h⟩
theorem Sta.here (s : Sta Pj Pr p H H1 m) : Sta Pj Pr p H1 H1 m := ⟨Kp.refl _ _, s.tb, s.pt⟩
theorem Sta.trans (s : Sta Pj Pr p H H1 m) (t : Sta Pj Pr p H1 H2 n) : Sta Pj Pr p H H2 n := ⟨s.kp.trans t.kp, t.tb, t.pt⟩
theorem Sta.lst (s : Sta Pj Pr p H H1 m) {l : Addr} {xs : List V} (h : H l = some (.lst xs)) (n : l ≠ p) : H1 l = some (.lst xs) := s.kp.at h n fun _ z => nomatch z
end
def rJn (K : PySem.W.Frag) : V → List V → Hp → VK → Prop := fun x xs H Q => ∃ a p, ∃ ys : List Str, x = .str a ∧ xs = [.ref p] ∧ (SqL K H p (ys.map V.str) ∨ SqT K H p (ys.map V.str)) ∧ (ys.map (·.length)).sum + ys.length * a.length ≤ 16777216 ∧ Q (.str (Txt.join a ys)) H
theorem row_sum {m k : Nat} : ∀ {rs : List (List Nat)}, (∀ r ∈ rs, RowOk k r) → (rs.map List.length).sum ≤ rs.length * k
  | [], _ => by simp
  | r :: rs, h => by
    have h1 := (h r (by simp)).1
    have h2 := row_sum (m := m) (k := k) (rs := rs) fun x hx => h x (by simp [hx])
    simp only [List.map_cons, List.sum_cons, List.length_cons, Nat.succ_mul]
    omega
/-- the text of rows -/
abbrev txtL (rs : List (List Nat)) : List Nat := TL.joinL [10] rs
theorem txt_ok {m k : Nat} {rs : List (List Nat)} (h : RowsOk m k rs) (h1 : m * (k + 1) ≤ 20000) (h2 : m ≤ 999) : (txtL rs).length ≤ 20000 ∧ (spR (txtL rs)).length ≤ 1000 := by
  have h3 := h.1
  refine ⟨?_, ?_⟩
  · refine Nat.le_trans (join_len 10 rs) ?_
    have h4 := row_sum (m := m) h.2
    have h5 : rs.length * (k + 1) ≤ m * (k + 1) := Nat.mul_le_mul_right _ h3
    rw [Nat.mul_succ] at h5
    omega
  · by_cases ne : rs = []
    · subst ne
      exact Nat.le_trans (Nat.le_of_eq (by rfl)) (by decide : 1 ≤ 1000)
    · rw [show spR (txtL rs) = rs from TL.spl_join (s := 10) (S := []) ne (fun r hr z => ((h.2 r hr).2 10 z).1 rfl)]
      omega
theorem join_read {K : PySem.W.Frag} {H : Hp} {l : Addr} {rs : List (List Nat)} {Q : VK} {m k : Nat} (h : RowsOk m k rs) (h1 : m * (k + 1) ≤ 20000) (hl : H l = some (.lst (rs.map sg))) (q : Q (sg (txtL rs)) H) : rJn K (.str "\n") [.ref l] H Q := by
  refine ⟨S [10], l, rs.map S, rfl, rfl, .inl (SqL.of (by rw [List.map_map]; exact hl)), ?_, ?_⟩
  · rw [List.map_map, show ((fun x : Str => x.length) ∘ S) = List.length from funext fun l => S_len l, List.length_map]
    show _ + rs.length * 1 ≤ _
    have h4 := row_sum (m := m) h.2
    have h3 := h.1
    have h5 : rs.length * (k + 1) ≤ m * (k + 1) := Nat.mul_le_mul_right _ h3
    rw [Nat.mul_succ] at h5
    omega
  · rw [join_S]
    exact q
theorem Tups.get {H : Hp} : ∀ {ts : List Addr} {ys : List (List V)} {i : Nat} {v : V}, Tups H ts ys → (ts.map V.ref)[i]? = some v → ∃ t x, v = .ref t ∧ ys[i]? = some x ∧ H t = some (.tup x)
  | _, _, i, v, .nil, h => by simp at h
  | t :: _, y :: _, 0, v, .cons h _, e => by
    simp at e
    exact ⟨t, y, e.symm, rfl, h⟩
  | _ :: _, _ :: _, i + 1, v, .cons _ u, e => by
    simp at e
    obtain ⟨t, x, h1, h2, h3⟩ := Tups.get (i := i) u (by simpa using e)
    exact ⟨t, x, h1, by simpa using h2, h3⟩
theorem rowOk_of {x : List V} {f : Bool} {m : Nat} (h : Row x f m) : RowOk 45 (rowL x) := ⟨(row_txt h).2.1, fun c hc => by have := (row_txt h).2.2 c hc; omega⟩
theorem rd_short {z : List Nat} (h : z.length ≤ 6) : rd (spR z) 0 = .inl 1 ∧ (spR z).length ≤ 1000 := by
  obtain ⟨n1, n2⟩ := spl_len 10 z.length z (Nat.le_refl _)
  show rd (TL.spl [10] 0 [] z) 0 = .inl 1 ∧ (TL.spl [10] 0 [] z).length ≤ 1000
  refine ⟨?_, by omega⟩
  have ne := spl_ne 10 z
  generalize TL.spl [10] 0 [] z = rs at n1 n2 ne
  match rs, ne with
  | r :: rs, _ =>
    have hr := n2 r (by simp)
    have ws := spl_sum 32 r.length r (Nat.le_refl _)
    have no : okT (spW r) = false := by
      refine Bool.eq_false_iff.mpr fun c => ?_
      obtain ⟨a, b, c, d, e, he, h1, h2, _⟩ := okT_five c
      have he : TL.spl [32] 0 [] r = _ := he
      rw [he] at ws
      simp only [List.map_cons, List.map_nil, List.sum_cons, List.sum_nil, List.length_cons, List.length_nil] at ws
      have l1 : 4 ≤ a.length := by rcases h1 with rfl | rfl <;> decide
      have l2 : 5 ≤ c.length := by rcases h2 with rfl | rfl <;> decide
      omega
    unfold rd
    have e : stAt r 0 rs.length = none := by
      unfold stAt
      rw [if_pos (by decide)]
      exact stV_none no (.inl rfl)
    rw [e]
/-- the rows as data -/
def listD (rs : List (List Nat)) : PyData := .list (rs.map fun r => .str (S r))
theorem listD_dp {K : PySem.W.Frag} {H : Hp} : ∀ {rs : List (List Nat)}, DpAll K H (rs.map sg) (rs.map fun r => .str (S r))
  | [] => .nil
  | _ :: _ => .cons (.str _) listD_dp
theorem listD_all : ∀ {rs : List (List Nat)}, (∀ r ∈ rs, Cl r) → PyData.canLayAll0 (rs.map fun r => .str (S r)) = true ∧ PyData.depthAll (rs.map fun r => .str (S r)) = 0
  | [], _ => ⟨rfl, rfl⟩
  | r :: rs, h => by
    obtain ⟨h1, h2⟩ := listD_all (rs := rs) fun x hx => h x (by simp [hx])
    have hr : PyData.strOk (S r) = true := by
      unfold PyData.strOk
      rw [← Array.all_toList]
      exact List.all_eq_true.mpr fun c hc => decide_eq_true (Nat.lt_trans (h r (by simp) c hc).2 (by decide))
    refine ⟨?_, ?_⟩
    · show (PyData.strOk (S r) && PyData.canLayAll0 (rs.map fun r => .str (S r))) = true
      rw [hr, h1]
      rfl
    · simp only [List.map_cons, PyData.depthAll, PyData.depth, h2]
      rfl
theorem listD_shaped {rs : List (List Nat)} (h : ∀ r ∈ rs, Cl r) : SeqAt.shaped (listD rs) = true := by
  obtain ⟨h1, h2⟩ := listD_all h
  unfold SeqAt.shaped listD
  simp only [PyData.canLay0, PyData.depth, h1, h2]
  decide
theorem listD_refl {rs : List (List Nat)} (h : ∀ r ∈ rs, Cl r) : PyData.eqv (listD rs) (listD rs) = true := SeqAt.eqv_refl _ (SeqAt.canLay_of_shaped (listD_shaped h))
/-- the values at the end: a text of a few signs, or no text -/
def Val (K : PySem.W.Frag) (H : Hp) (x : V) (k : Nat) : Prop := (k = 1 ∧ ∃ z : List Nat, x = sg z ∧ z.length ≤ 6) ∨ (k = 0 ∧ ∃ t : String, TyX K H x (.type t) ∧ PySem.W.kitOne K (.type t) (.type "str") = some false)
def Vl (p : Addr) (H : Hp) (x : V) (k : Nat) : Prop := (∃ d, Da (vw p H) x d ∧ (∀ z, d = .str z → k = 1 ∧ z.length ≤ 6) ∧ ((∀ z, d ≠ .str z) → k = 0)) ∨ (k = 0 ∧ ∃ l xs, x = .ref l ∧ vw p H l = some (.lst xs))
theorem Vl.kp {p : Addr} {H H' : Hp} {x : V} {k : Nat} (kp : Kp p H H') (h : Vl p H x k) : Vl p H' x k := by
  rcases h with ⟨d, hd, h1, h2⟩ | ⟨k0, l, xs, e, hl⟩
  · exact .inl ⟨d, hd.same kp, h1, h2⟩
  · exact .inr ⟨k0, l, xs, e, kp _ _ hl⟩
theorem Vl.val {K : PySem.W.Frag} {p : Addr} {H : Hp} {x : V} {k : Nat} (h : Vl p H x k) : ∀ H', Same (vw p H) H' → Val K H' x k := by
  intro H' S
  rcases h with ⟨d, hd, h1, h2⟩ | ⟨k0, l, xs, rfl, hl⟩
  · cases hd with
    | non => exact .inr ⟨h2 (fun _ z => nomatch z), _, .base .non, kit_ty (by decide +kernel)⟩
    | bl b => exact .inr ⟨h2 (fun _ z => nomatch z), _, .base (.bl b), kit_ty (by decide +kernel)⟩
    | int i => exact .inr ⟨h2 (fun _ z => nomatch z), _, .base (.int i), kit_ty (by decide +kernel)⟩
    | str z =>
      obtain ⟨e1, e2⟩ := h1 z rfl
      exact .inl ⟨e1, z.cps.toList, rfl, by simpa [Str.length] using e2⟩
    | lst e n t => exact .inr ⟨h2 (fun _ z => nomatch z), _, .base (.lst (S _ _ e)), kit_ty (by decide +kernel)⟩
    | tup e t => exact .inr ⟨h2 (fun _ z => nomatch z), _, .base (.tup (S _ _ e)), kit_ty (by decide +kernel)⟩
    | dct e t => exact .inr ⟨h2 (fun _ z => nomatch z), _, .base (.dK (S _ _ e)), kit_ty (by decide +kernel)⟩
  · exact .inr ⟨k0, _, .base (.lst (S _ _ hl)), kit_ty (by decide +kernel)⟩
theorem odd_vl {p : Addr} {H : Hp} {x : V} (h : ∃ d, Da (vw p H) x d ∧ OddG d) : ∃ k, Vl p H x k := by
  obtain ⟨d, hd, g⟩ := h
  by_cases c : ∃ z, d = .str z
  · obtain ⟨z, rfl⟩ := c
    exact ⟨1, .inl ⟨_, hd, fun y e => ⟨rfl, g.2 y e⟩, fun n => absurd rfl (n z)⟩⟩
  · exact ⟨0, .inl ⟨_, hd, fun y e => absurd ⟨y, e⟩ c, fun _ => rfl⟩⟩
mutual
theorem da_strip {p : Addr} {H : Hp} : ∀ {v : V} {d : PyData}, Da (mask (fun b => b = p) H) v d → Da (vw p H) v d
  | _, _, .non => .non
  | _, _, .bl b => .bl b
  | _, _, .int i => .int i
  | _, _, .str x => .str x
  | _, _, .lst e n t => .lst (vw_at (mask_some e).2 (mask_some e).1 fun _ z => nomatch z) n (daAll_strip t)
  | _, _, .tup e t => .tup (vw_at (mask_some e).2 (mask_some e).1 fun _ z => nomatch z) (daAll_strip t)
  | _, _, .dct e t => .dct (vw_at (mask_some e).2 (mask_some e).1 fun _ z => nomatch z) (daAll_strip t)
theorem daAll_strip {p : Addr} {H : Hp} : ∀ {vs : List V} {ds : List PyData}, DaAll (mask (fun b => b = p) H) vs ds → DaAll (vw p H) vs ds
  | _, _, .nil => .nil
  | _, _, .cons h t => .cons (da_strip h) (daAll_strip t)
end
theorem ra_val {K : PySem.W.Frag} {a : Ad} {H : Hp} {x : V} {k : Nat} (h : ∀ H', Same H H' → Val K H' x k) : Raises a.BadScript (fun E H Q => tRS K a E [some x] H Q) H (fun _ v => v = .int (k : Nat)) := by
  intro H1 S1 E' Q' hE
  refine ⟨_, rfl, ?_⟩
  intro y dy hy hdy ny
  have S : Same H1 (upd (upd H1 dy (.own y)) y (.ins a.Script dy [])) := fun b o e => by
    rw [upd_ne (ne_of_none e hy), upd_ne (ne_of_none e hdy)]
    exact e
  rcases h _ (S1.trans S) with ⟨rfl, z, rfl, hz⟩ | ⟨rfl, t, t1, k1⟩
  · obtain ⟨e1, e2⟩ := rd_short hz
    refine ⟨y, dy, _, rfl, upd_same, .inl ⟨z, rfl, by omega, e2, fun ys e => (by rw [e1] at e; cases e), fun n e d H' S' e' => ?_⟩⟩
    rw [e1] at e
    cases e
    exact hE d _ H' (S.trans S') e' rfl
  · exact ⟨y, dy, _, rfl, upd_same, .inr ⟨t, t1, k1, fun d H' S' e' => hE d _ H' (S.trans S') e' rfl⟩⟩
def spRi (Pj Pr : Addr) : Sp := fun vs H Q _ => ∃ p, vs = [.ref p] ∧ PotAt H p 0 ∧ Tabs (TT Pj Pr) H ∧ ∀ H', Tabs (TT Pj Pr) H' → Kp p H H' → Q (.bl true) H'
def names8 : List (List Nat) := ["a", "b", "c", "until", "left", "from", "skip", "zzzzzzzz"].map fun s => (Str.ofString s).cps.toList
theorem names8_ok : (∀ w ∈ names8, nm w = true) ∧ names8.Nodup := by
  refine ⟨fun w hw => ?_, by decide +kernel⟩
  have : (names8.all nm) = true := by decide +kernel
  exact List.all_eq_true.mp this w hw
section
variable {P : Program} {w : World} {K : PySem.W.Frag} {mg : Str → Option Value} {base : Heap} {a : Ad}
abbrev riN : List Str := ["_law_pot_here", "_law_names", "_law_steps_here", "_law_rows", "_law_longest", "_law_lap", "_law_bent", "_law_value", "_law_caught", "_law_due", "_law_step_here", "_law_lines"]
abbrev cxRi (P : Program) (w : World) (K : PySem.W.Frag) (mg : Str → Option Value) (base : Heap) (a : Ad) (cA : Addr) (A : Around) (outer : List Env) (s : Shared) (H : Hp) (E : XK) : Cx :=
  (cxOf CX0 P w K mg base riN "_law_right" (defScope s__law_right) a._law_right (.ref cA) A outer s H E).nox
def rF : List Stmt := forB ((defBody s__law_right).getD 6 noS)
def leR : Expr := eltE 0 (opdE (stE (rF.getD 0 noS)))
theorem is_lamR : isLam leR = true := by decide +kernel
theorem ok_right {cA Pj Pr : Addr} {oc kV doc pm ct : Value} {an od : Option Addr} {osl : Array (Option Value)} (T : Txt K mg a) (hne : Pj ≠ Pr)
    (lk : K.lookup a._law_right = some ⟨oc, od, .func (PySem.W.fnOf "_law_right" "_law_right" (defArgs s__law_right) (defBody s__law_right) (defScope s__law_right) .none kV doc pm an (.ref cA) ct), osl⟩)
    (hc : PySem.W.codeIn K (.ref cA) "_law_right" = true) (TB : TabB base mg cA Pr)
    {fdt : FuncData} (Gt : FnC P w K mg base CX0 1 a._law_told fdt ["_law_ask"] (spTold K a.AboutError)) (bt : Binds K fdt ["_law_ask"] [])
    {fd__law_odd : FuncData} (G__law_odd : Fn P w K mg base CX0 3 a._law_odd fd__law_odd ["_law_pot_here"] spOdd0) (b__law_odd : Binds K fd__law_odd ["_law_pot_here"] [])
    {fd_Script___init__ : FuncData} (G_Script___init__ : FnOk P w K mg base (L2.CX P w) 5 a.Script___init__ fd_Script___init__ ["self", "text"] (spSI K a.Script a.BadScript)) (b_Script___init__ : Binds K fd_Script___init__ ["self", "text"] [])
    {fd_Script___eq__ : FuncData} (G_Script___eq__ : FnOk P w K mg base CX0 3 a.Script___eq__ fd_Script___eq__ ["self", "other"] (spSE K a.Script)) (b_Script___eq__ : Binds K fd_Script___eq__ ["self", "other"] [])
    {fd__law_read : FuncData} (G__law_read : Fn P w K mg base CX0 3 a._law_read fd__law_read ["_law_text"] spRead) (b__law_read : Binds K fd__law_read ["_law_text"] [])
    {fd__law_judged : FuncData} (G__law_judged : Fn P w K mg base CX0 11 a._law_judged fd__law_judged ["_law_text"] (spJud Pj Pr)) (b__law_judged : Binds K fd__law_judged ["_law_text"] [])
    {fd__law_take : FuncData} (G__law_take : Fn P w K mg base CX0 1 a._law_take fd__law_take ["_law_pot_here", "_law_upto"] spTake) (b__law_take : Binds K fd__law_take ["_law_pot_here", "_law_upto"] [])
    {fd__law_spoilt : FuncData} (G__law_spoilt : Fn P w K mg base CX0 3 a._law_spoilt fd__law_spoilt ["_law_pot_here", "_law_rows"] spSpo) (b__law_spoilt : Binds K fd__law_spoilt ["_law_pot_here", "_law_rows"] [])
    {fd__law_step_text : FuncData} (G__law_step_text : Fn P w K mg base CX0 1 a._law_step_text fd__law_step_text ["_law_step_here"] spStx) (b__law_step_text : Binds K fd__law_step_text ["_law_step_here"] [])
    {fd__law_step : FuncData} (G__law_step : Fn P w K mg base CX0 3 a._law_step fd__law_step ["_law_pot_here", "_law_names"] spStep) (b__law_step : Binds K fd__law_step ["_law_pot_here", "_law_names"] [])
    {fd__law_steps : FuncData} (G__law_steps : Fn P w K mg base CX0 4 a._law_steps fd__law_steps ["_law_pot_here", "_law_names", "_law_most"] spSteps) (b__law_steps : Binds K fd__law_steps ["_law_pot_here", "_law_names", "_law_most"] [])
    {fd__law_of : FuncData} (G__law_of : Fn P w K mg base CX0 2 a._law_of fd__law_of ["_law_pot_here", "_law_some_here"] spOf) (b__law_of : Binds K fd__law_of ["_law_pot_here", "_law_some_here"] [])
    {fd__law_some : FuncData} (G__law_some : Fn P w K mg base CX0 2 a._law_some fd__law_some ["_law_pot_here", "_law_pool", "_law_many"] spSome) (b__law_some : Binds K fd__law_some ["_law_pot_here", "_law_pool", "_law_many"] [])
    : Fn P w K mg base CX0 14 a._law_right (PySem.W.fnOf "_law_right" "_law_right" (defArgs s__law_right) (defBody s__law_right) (defScope s__law_right) .none kV doc pm an (.ref cA) ct) ["_law_pot_here"] (spRi Pj Pr) := by
  refine fnOf lk hc sc__law_right (fun vs H Q E h => ?len) (fun A outer s H vs Q E hq hr h => ?body)
  case len => obtain ⟨p, rfl, _⟩ := h; rfl
  case body =>
    suffices z : ∃ t, PSs (cxRi P w K mg base a cA A outer s H E) (defBody s__law_right) t ∧ t { nx := fun _ H' => Q .non H', rt := Q } (L2.start riN vs) H by
      obtain ⟨t, z1, z2⟩ := z
      exact ⟨t, z1.nox, z2⟩
    have g1 : (dL (cxRi P w K mg base a cA A outer s H E) 8 leR ["_law_value"] [7] (tRS K a)).Good := goodL (by decide +kernel) (fun _ _ _ _ _ => rfl) (show ndefB (defScope s__law_right) (lamSc leR) ["_law_value"] = true by decide +kernel) rfl fun f c' A outer s H E hr2 =>
      pe_make T.m_Script G_Script___init__ (hr2.mono (by omega)) (by rfl) T.g_Script b_Script___init__ .nil (passes_call (takes_of rfl rfl rfl rfl) fun _ _ _ _ h => h) (pa_cons (pv 0) pa_nil)
    refine ⟨_, (Evl.pss_cut (ps_set (i := 1) sc__law_right.nd rfl (Or.inr rfl) (pe_fn G__law_some hq (hr.mono (by omega)) (by rfl) T.g__law_some T.k__law_some b__law_some .nil pass0 (pa_cons (pv 0) (pa_cons (pe_lstS (pa_cons pe_str (pa_cons pe_str (pa_cons pe_str (pa_cons pe_str (pa_cons pe_str (pa_cons pe_str (pa_cons pe_str (pa_cons pe_str pa_nil))))))))) (pa_cons (pe_op op_add pe_int (pe_fn G__law_take hq (hr.mono (by omega)) (by rfl) T.g__law_take T.k__law_take b__law_take .nil pass0 (pa_cons (pv 0) (pa_cons pe_int pa_nil)))) pa_nil)))))
      (Evl.pss_cut (ps_set (i := 2) sc__law_right.nd rfl (Or.inl rfl) (pe_fn G__law_steps hq (hr.mono (by omega)) (by rfl) T.g__law_steps T.k__law_steps b__law_steps .nil pass0 (pa_cons (pv 0) (pa_cons (pv 1) (pa_cons (pe_fn G__law_of hq (hr.mono (by omega)) (by rfl) T.g__law_of T.k__law_of b__law_of .nil pass0 (pa_cons (pv 0) (pa_cons (pe_lstS (pa_cons pe_int (pa_cons pe_int (pa_cons pe_int (pa_cons pe_int pa_nil))))) pa_nil))) pa_nil)))))
      (Evl.pss_cut (ps_setLc (i := 3) (own := [("_law_step_here", 10)]) (g := gName 10) (tt := tYes) rfl sc__law_right.nd rfl rfl (sw_true rfl rfl rfl (by decide +kernel)) (pi_list (pv 2)) (blkOk_by (own := [("_law_step_here", 10)]) (N := ["_law_pot_here", "_law_names", "_law_steps_here", "_law_rows", "_law_longest", "_law_lap", "_law_bent", "_law_value", "_law_caught", "_law_due", "_law_step_here", "_law_lines"]) (sc := defScope s__law_right) (by decide +kernel)) (fun _ _ _ _ _ => (pg_name (i := 10) sc__law_right.nd rfl (Or.inl rfl))) (fun _ _ _ _ _ => pts_nil) (fun _ _ _ _ _ => (pe_fn G__law_step_text hq (hr.mono (by omega)) (by rfl) T.g__law_step_text T.k__law_step_text b__law_step_text .nil pass0 (pa_cons (pv 10) pa_nil))))
      (Evl.pss_cut (ps_setLc (i := 4) (own := [("_law_lap", 5)]) (g := gName 5) (tt := tYes) rfl sc__law_right.nd rfl rfl (sw_true rfl rfl rfl (by decide +kernel)) (pi_range1 (by rfl) T.n_range (pa_cons pe_int pa_nil)) (blkOk_by (own := [("_law_lap", 5)]) (N := ["_law_pot_here", "_law_names", "_law_steps_here", "_law_rows", "_law_longest", "_law_lap", "_law_bent", "_law_value", "_law_caught", "_law_due", "_law_step_here", "_law_lines"]) (sc := defScope s__law_right) (by decide +kernel)) (fun _ _ _ _ _ => (pg_name (i := 5) sc__law_right.nd rfl (Or.inl rfl))) (fun _ _ _ _ _ => pts_nil) (fun _ _ _ _ _ => (pe_fn G__law_step_text hq (hr.mono (by omega)) (by rfl) T.g__law_step_text T.k__law_step_text b__law_step_text .nil pass0 (pa_cons (pe_fn G__law_step hq (hr.mono (by omega)) (by rfl) T.g__law_step T.k__law_step b__law_step .nil pass0 (pa_cons (pv 0) (pa_cons (pv 1) pa_nil))) pa_nil))))
      (Evl.pss_cut (ps_if (pt_not (pt_val (pe_callB (cr_all rfl) (by rfl) T.n_all (by decide +kernel) (pa_cons (pe_lc (own := [("_law_lines", 11)]) (g := gName 11) (tt := tYes) rfl sc__law_right.nd (pi_tup (pe_tup (pa_cons (pv 3) (pa_cons (pv 4) (pa_cons (pe_slice sl_list (pv 4) (po_some pe_int) po_none) pa_nil))))) (blkOk_by (own := [("_law_lines", 11)]) (N := ["_law_pot_here", "_law_names", "_law_steps_here", "_law_rows", "_law_longest", "_law_lap", "_law_bent", "_law_value", "_law_caught", "_law_due", "_law_step_here", "_law_lines"]) (sc := defScope s__law_right) (by decide +kernel)) (fun _ _ _ _ _ => (pg_name (i := 11) sc__law_right.nd rfl (Or.inl rfl))) (fun _ _ _ _ _ => pts_nil) (fun _ _ _ _ _ => (pe_fn G__law_judged hq (hr.mono (by omega)) (by rfl) T.g__law_judged T.k__law_judged b__law_judged .nil pass0 (pa_cons (pe_m1 PySem.F.slot_str_join PySem.F.type_str_join (show MtR _ "str.join" (rJn K) from mt_join) pe_str (pv 11)) pa_nil)))) pa_nil)))) (pss_one (ps_ret pe_bl)) pss_nil)
      (Evl.pss_cut (ps_for PassesOwn.never rfl (pi_range1 (by rfl) T.n_range (pa_cons pe_int pa_nil)) (pg_name (i := 5) sc__law_right.nd rfl (Or.inl rfl)) (Evl.pss_cut (ps_set (i := 6) sc__law_right.nd rfl (Or.inl rfl) (pe_fn G__law_spoilt hq (hr.mono (by omega)) (by rfl) T.g__law_spoilt T.k__law_spoilt b__law_spoilt .nil pass0 (pa_cons (pv 0) (pa_cons (pv 3) pa_nil))))
      (Evl.pss_cut (ps_set (i := 6) sc__law_right.nd rfl (Or.inl rfl) (pe_ifExp (PW.pt (pw_and (pt_cmpR (op_neD hr.units) (pv 6) (pe_lstS pa_nil) (nomark _)) (pw_and1 (pt_cmpR op_eq (pe_fn G__law_take hq (hr.mono (by omega)) (by rfl) T.g__law_take T.k__law_take b__law_take .nil pass0 (pa_cons (pv 0) (pa_cons pe_int pa_nil))) pe_int (nomark _))))) (pe_fn G__law_spoilt hq (hr.mono (by omega)) (by rfl) T.g__law_spoilt T.k__law_spoilt b__law_spoilt .nil pass0 (pa_cons (pv 0) (pa_cons (pv 6) pa_nil))) (pv 6)))
      (Evl.pss_cut (ps_if (pt_not (pt_val (pe_fn G__law_judged hq (hr.mono (by omega)) (by rfl) T.g__law_judged T.k__law_judged b__law_judged .nil pass0 (pa_cons (pe_m1 PySem.F.slot_str_join PySem.F.type_str_join (show MtR _ "str.join" (rJn K) from mt_join) pe_str (pv 6)) pa_nil)))) (pss_one (ps_ret pe_bl)) pss_nil)
      (pss_one (ps_if (PW.pt (pw_and (pt_cmpR (op_neD hr.units) (pv 6) (pv 3) (nomark _)) (pw_and (pt_cmpR op_eq (pe_ix ix_tup (pe_fn G__law_read hq (hr.mono (by omega)) (by rfl) T.g__law_read T.k__law_read b__law_read .nil pass0 (pa_cons (pe_m1 PySem.F.slot_str_join PySem.F.type_str_join (show MtR _ "str.join" (rJn K) from mt_join) pe_str (pv 6)) pa_nil)) pe_int (fun _ _ => rfl)) pe_int (nomark _)) (pw_and1 (pt_cmpR (op_eqK T.eqc (fnR G_Script___eq__ b_Script___eq__) (hr.mono (by omega)) pass0) (pe_make T.m_Script G_Script___init__ (hr.mono (by omega)) (by rfl) T.g_Script b_Script___init__ .nil passF (pa_cons (pe_m1 PySem.F.slot_str_join PySem.F.type_str_join (show MtR _ "str.join" (rJn K) from mt_join) pe_str (pv 6)) pa_nil)) (pe_make T.m_Script G_Script___init__ (hr.mono (by omega)) (by rfl) T.g_Script b_Script___init__ .nil passF (pa_cons (pe_m1 PySem.F.slot_str_join PySem.F.type_str_join (show MtR _ "str.join" (rJn K) from mt_join) pe_str (pv 3)) pa_nil)) (nomark _)))))) (pss_one (ps_ret pe_bl)) pss_nil))))))
      (pss_cons (ps_for PassesOwn.never rfl (pi_tup (pe_tup (pa_cons pe_non (pa_cons pe_int (pa_cons pe_bl (pa_cons (pe_tup pa_nil) (pa_cons (pv 3) (pa_cons (pe_tup (pa_cons pe_str pa_nil)) (pa_cons (pe_fn G__law_odd hq (hr.mono (by omega)) (by rfl) T.g__law_odd T.k__law_odd b__law_odd .nil pass0 (pa_cons (pv 0) pa_nil)) pa_nil))))))))) (pg_name (i := 7) sc__law_right.nd rfl (Or.inr rfl)) (pss_cons (ps_set (i := 8) sc__law_right.nd rfl (Or.inl rfl) (pe_ix ix_tup (pe_fnC Gt hq (by rfl) T.g__law_told T.k__law_told bt .nil pass0 (pa_cons (pe_lamK (T := TT Pj Pr) TB rfl (List.mem_cons_of_mem _ (List.mem_cons_self ..)) (hu_R hne) rfl (lamS_by (sc := defScope s__law_right) (by decide +kernel))) pa_nil) (known_here g1 (fun _ _ _ => rfl) (hr.mono (by show 8 + 1 + 1 ≤ 13; decide)))) pe_int (fun _ _ => rfl)))
      (Evl.pss_cut (ps_set (i := 9) sc__law_right.nd rfl (Or.inl rfl) (pe_ifExp (pt_val (pe_callB call_isi (by rfl) T.n_isinstance (by decide +kernel) (pa_cons (pv 7) (pa_cons (pe_bltn (v := .ty "str") (u := .type "str") (by rfl) T.n_str (by decide +kernel) rfl) pa_nil)))) pe_int pe_int))
      (pss_one (ps_if (PW.pt (pw_or (pt_not (pt_val (pe_callB (call_isCaught T.ek) (by rfl) T.n_isinstance (by decide +kernel) (pa_cons (pv 8) (pa_cons (pe_glob (v := .ref a.BadScript) (by rfl) T.g_BadScript rfl) pa_nil))))) (pw_or1 (pt_cmpR op_ne (pe_callB (call_reprD hq hr.units) (by rfl) T.n_repr (by decide +kernel) (pa_cons (pe_valueC (pv 8)) pa_nil)) (pe_callB (call_reprD hq hr.units) (by rfl) T.n_repr (by decide +kernel) (pa_cons (pv 9) pa_nil)) (nomark _))))) (pss_one (ps_ret pe_bl)) pss_nil)))))
      (pss_one (ps_ret pe_bl))))))))), ?_⟩
    obtain ⟨p, rfl, pot, tabs, q⟩ := h
    have st0 : Sta Pj Pr p H H 0 := ⟨Kp.refl _ _, tabs, pot⟩
    clear tabs pot
    refine ⟨fun σ' H' => ∃ ln us, σ' = [some (.ref p), some (.ref ln), none, none, none, none, none, none, none, none, none, none] ∧ ln ≠ p ∧ H' ln = some (.lst (us.map sg)) ∧ Nms us ∧ Sta Pj Pr p H H' 10, ?c1, ?d1⟩
    case c1 =>
      refine ⟨_, rfl, (by show 8 ≤ sizeLine; decide), fun l0 n0 s0 => ?_⟩
      have n0p : l0 ≠ p := fun z => st0.pt.has (by rw [← z]; exact n0)
      have st1 := st0.same (same_new (o := .lst (names8.map sg)) n0)
      have e1 : upd H l0 (.lst (names8.map sg)) l0 = some (.lst (names8.map sg)) := upd_same
      refine ⟨_, rfl, p, 3, 0, rfl, st1.pt, by decide, by decide, by decide, fun d H2 d0 d1 g2 => ⟨_, _, rfl, rfl, ?_⟩⟩
      obtain ⟨j, rfl⟩ : ∃ j : Nat, d = (j : Int) := ⟨d.toNat, by omega⟩
      refine ⟨p, l0, 3 + j, 1, names8, ?_, n0p, g2.pot, by omega, g2.at e1 n0p, by show 3 + j ≤ 8; omega, by decide +kernel, names8_ok.2, fun l us H3 lu nu su hl nl g3 => ?_⟩
      · show [V.ref p, V.ref l0, V.int (3 + (j : Int))] = _
        rw [show (3 + (j : Int)) = ((3 + j : Nat) : Int) by omega]
      · exact ⟨l, us, rfl, nl, hl, ⟨fun w hw => names8_ok.1 w (su w hw), nu, by omega, by omega⟩, ((st1.go g2).go g3).mono (by omega)⟩
    case d1 =>
    rintro σ' H1 ⟨ln, us, rfl, nlp, hln, nms, st1⟩
    refine ⟨fun σ' H' => ∃ lst ts xs, σ' = [some (.ref p), some (.ref ln), some (.ref lst), none, none, none, none, none, none, none, none, none] ∧ H' ln = some (.lst (us.map sg)) ∧ H' lst = some (.lst (ts.map V.ref)) ∧ Tups H' ts xs ∧ StOk xs ∧ xs ≠ [] ∧ xs.length ≤ 12 ∧ Sta Pj Pr p H H' 300, ?c2, ?d2⟩
    case c2 =>
      refine ⟨_, rfl, _, rfl, _, rfl, (by show 4 ≤ sizeLine; decide), fun l1 n1 s1 => ?_⟩
      have n1p : l1 ≠ p := fun z => st1.pt.has (by rw [← z]; exact n1)
      have st2 := st1.same (same_new (o := .lst [.int 3, .int 12, .int 12, .int 6]) n1)
      have hl2 := same_new (o := .lst [.int 3, .int 12, .int 12, .int 6]) n1 _ _ hln
      refine ⟨p, l1, 10, _, rfl, n1p, st2.pt, by decide, upd_same, by simp, by decide, fun x H2 hx g2 => ?_⟩
      obtain ⟨m, rfl, m1, m2⟩ : ∃ m : Nat, x = .int (m : Nat) ∧ 1 ≤ m ∧ m ≤ 12 := by
        simp only [List.mem_cons, List.not_mem_nil, or_false] at hx
        rcases hx with rfl | rfl | rfl | rfl
        · exact ⟨3, rfl, by decide, by decide⟩
        · exact ⟨12, rfl, by decide, by decide⟩
        · exact ⟨12, rfl, by decide, by decide⟩
        · exact ⟨6, rfl, by decide, by decide⟩
      refine ⟨p, ln, m, 11, us, rfl, nlp, g2.pot, by decide, g2.at hl2 nlp, nms, m1, m2, fun l ts xs H3 so ne lx hl tu g3 => ?_⟩
      exact ⟨l, ts, xs, rfl, g3.at (g2.at hl2 nlp) nlp, hl, tu, so, ne, by omega, ((st2.go g2).go g3).mono (by omega)⟩
    case d2 =>
    rintro σ' H2 ⟨lst, ts, xs, rfl, hln, hst, tu, so, xne, lx, st2⟩
    clear st1
    obtain ⟨rows, hrows⟩ : ∃ rows, rows = xs.map rowL := ⟨_, rfl⟩
    have rdr : rd rows 0 = .inr xs := by rw [hrows]; exact rd_steps so lx
    have rne : rows ≠ [] := by rw [hrows]; simpa using xne
    have rok : RowsOk 12 45 rows := by
      rw [hrows]
      refine ⟨by rw [List.length_map]; exact lx, fun r hr => ?_⟩
      obtain ⟨x, hx, rfl⟩ := List.mem_map.mp hr
      obtain ⟨i, hi⟩ := List.mem_iff_getElem?.mp hx
      exact rowOk_of (so i x hi)
    have rn0 : ∀ r ∈ rows, r ≠ [] := by
      rw [hrows]
      intro r hr
      obtain ⟨x, hx, rfl⟩ := List.mem_map.mp hr
      obtain ⟨i, hi⟩ := List.mem_iff_getElem?.mp hx
      exact (row_txt (so i x hi)).1
    refine ⟨fun σ' H' => ∃ lr, σ' = [some (.ref p), some (.ref ln), some (.ref lst), some (.ref lr), none, none, none, none, none, none, none, none] ∧ lr ≠ p ∧ H' ln = some (.lst (us.map sg)) ∧ H' lr = some (.lst (rows.map sg)) ∧ Sta Pj Pr p H H' 300, ?c3, ?d3⟩
    case c3 =>
      refine ⟨_, rfl, lst, rfl, ⟨_, SqL.of hst⟩, fun D hD => ?_⟩
      have nD : D ≠ p := fun z => st2.pt.has (by rw [← z]; exact hD)
      refine lc_it (walk_list (xs := ts.map V.ref)) (fun i H' => Same H2 H' ∧ H' D = some (.lst (((xs.take i).map rowL).map sg))) ⟨same_new hD, upd_same⟩ (fun i H' _ h => SqL.of (h.1 _ _ hst)) ?_ ?_
      · rintro i v H' H'' hi ⟨S', d'⟩ ⟨rfl, hv⟩
        obtain ⟨t, x, rfl, hx, ht⟩ := Tups.get tu hv
        have rx := so i x hx
        refine ⟨rfl, _, rfl, t, x, rfl, S' _ _ ht, rx.pr, rx.ln, fun H3 S3 => ⟨_, S3 _ _ d', by rw [List.length_map, List.length_map, List.length_take, sizeLine_eq]; omega, fun b o e => ?_, ?_⟩⟩
        · rw [upd_ne (ne_of_none e hD)]
          exact S3 _ _ (S' _ _ e)
        · rw [upd_same, List.take_add_one, hx, List.map_append, List.map_append]
          rfl
      · rintro H' ⟨S', d'⟩
        rw [List.length_map, tu.length, List.take_length, ← hrows] at d'
        exact ⟨D, rfl, nD, S' _ _ hln, d', st2.same S'⟩
    case d3 =>
    rintro σ' H3 ⟨lr, rfl, nrp, hln, hlr, st3⟩
    clear st2 hst tu
    refine ⟨fun σ' H' => ∃ lg ls, σ' = [some (.ref p), some (.ref ln), some (.ref lst), some (.ref lr), some (.ref lg), none, none, none, none, none, none, none] ∧ lg ≠ p ∧ H' lr = some (.lst (rows.map sg)) ∧ H' lg = some (.lst (ls.map sg)) ∧ RowsOk 13 45 ls ∧ Sta Pj Pr p H H' 500, ?c4, ?d4⟩
    case c4 =>
      refine ⟨13, rfl, by decide, by decide, fun D hD => ?_⟩
      have nD : D ≠ p := fun z => st3.pt.has (by rw [← z]; exact hD)
      refine lc_it (n := 13) walk_range (fun i H' => ∃ ls, H' D = some (.lst (ls.map sg)) ∧ ls.length = i ∧ (∀ r ∈ ls, RowOk 45 r) ∧ Go p (300 + 10 * i) H3 H') ⟨[], upd_same, rfl, (fun _ h => nomatch h), ⟨mask_mono (same_new hD), st3.pt.same (same_new hD)⟩⟩ (fun _ _ _ _ => trivial) ?_ ?_
      · rintro i v H' H'' hi ⟨ls, d', ll, lo, g'⟩ ⟨rfl, rfl⟩
        refine ⟨rfl, _, rfl, _, rfl, p, ln, 300 + 10 * i, us, rfl, nlp, g'.pot, by omega, g'.at hln nlp, nms, fun t xw H4 ok ht g4 => ?_⟩
        have rx := row_T ok true 0
        refine ⟨t, _, rfl, ht, rx.pr, rx.ln, fun H5 S5 => ⟨_, S5 _ _ (g4.at d' nD), by rw [List.length_map, sizeLine_eq]; omega, ls ++ [rowL (xw.map sg)], ?_, by rw [List.length_append, ll]; rfl, fun r hr => ?_, ?_⟩⟩
        · rw [upd_same, List.map_append]
          rfl
        · rcases List.mem_append.mp hr with h | h
          · exact lo r h
          · rw [List.mem_singleton.mp h]
            exact rowOk_of rx
        · exact (((Go.trans g' g4).fwd S5).over hD nD).mono (by omega)
      · rintro H' ⟨ls, d', ll, lo, g'⟩
        exact ⟨D, ls, rfl, nD, g'.at hlr nrp, d', ⟨by omega, lo⟩, (st3.go g').mono (by decide)⟩
    case d4 =>
    rintro σ' H4 ⟨lg, ls, rfl, ngp, hlr, hlg, lok, st4⟩
    clear st3 hln nms nlp
    refine ⟨fun σ' H' => σ' = [some (.ref p), some (.ref ln), some (.ref lst), some (.ref lr), some (.ref lg), none, none, none, none, none, none, none] ∧ H' lr = some (.lst (rows.map sg)) ∧ Sta Pj Pr p H H' 500, ?c5, ?d5⟩
    case c5 =>
      refine ⟨_, rfl, _, rfl, _, rfl, _, rfl, lg, _, rfl, SqL.of hlg, fun l5 n5 => ⟨(by show 3 ≤ sizeLine; decide), fun t5 f5 => ?_⟩⟩
      rw [cutW_map] at f5 ⊢
      have S5 := (same_new (o := .lst ((cutW ls (some 1) none).map sg)) n5).trans (same_new (o := .tup [.ref lr, .ref lg, .ref l5]) f5)
      have e5 := same_new (o := .tup [.ref lr, .ref lg, .ref l5]) f5 _ _ (show upd H4 l5 (.lst ((cutW ls (some 1) none).map sg)) l5 = some (.lst ((cutW ls (some 1) none).map sg)) from upd_same)
      have et5 : upd (upd H4 l5 (.lst ((cutW ls (some 1) none).map sg))) t5 (.tup [.ref lr, .ref lg, .ref l5]) t5 = some (.tup [.ref lr, .ref lg, .ref l5]) := upd_same
      have n5p : l5 ≠ p := fun z => st4.pt.has (by rw [← z]; exact n5)
      have st5 := st4.same S5
      have hlr5 := S5 _ _ hlr
      have hlg5 := S5 _ _ hlg
      generalize upd (upd H4 l5 (.lst ((cutW ls (some 1) none).map sg))) t5 (.tup [.ref lr, .ref lg, .ref l5]) = H5 at e5 et5 st5 hlr5 hlg5 ⊢
      have nt5 : t5 ≠ p := fun z => by
        obtain ⟨_, _, _, f, _⟩ := st5.pt
        rw [z, f] at et5
        cases et5
      have each : ∀ (j : Nat) v, [V.ref lr, .ref lg, .ref l5][j]? = some v → ∃ l rs, v = .ref l ∧ l ≠ p ∧ H5 l = some (.lst (rs.map sg)) ∧ RowsOk 13 45 rs := fun j v hv => by
        match j, hv with
        | 0, hv => cases hv; exact ⟨lr, rows, rfl, nrp, hlr5, rok.mono (by decide) (Nat.le_refl _)⟩
        | 1, hv => cases hv; exact ⟨lg, ls, rfl, ngp, hlg5, lok⟩
        | 2, hv => cases hv; exact ⟨l5, _, rfl, n5p, e5, lok.cut _ _⟩
        | n + 3, hv => cases hv
      refine ⟨t5, rfl, ⟨_, SqT.of et5⟩, fun D hD => ?_⟩
      have nD : D ≠ p := fun z => st5.pt.has (by rw [← z]; exact hD)
      refine lc_it (walk_tup (xs := [V.ref lr, .ref lg, .ref l5])) (fun i H' => Sta Pj Pr p H5 H' 500 ∧ H' D = some (.lst ((List.replicate i true).map V.bl))) ⟨⟨Kp.same (same_new hD), Tabs.ext st5.tb (same_new hD), st5.pt.same (same_new hD)⟩, upd_same⟩ (fun i H' _ h => SqT.of (h.1.kp.at et5 nt5 fun _ z => nomatch z)) ?_ ?_
      · rintro i v H' H'' hi ⟨s', d'⟩ ⟨rfl, hv⟩
        obtain ⟨l, rs, rfl, nl, hl, ok⟩ := each i v hv
        obtain ⟨x1, x2⟩ := txt_ok ok (by decide) (by decide)
        refine ⟨rfl, ⟨_, rfl⟩, _, rfl, join_read ok (by decide) (s'.lst hl nl) ⟨_, rfl, x1, x2, s'.tb, fun H3 tb ex => ?_⟩⟩
        have s3 := s'.ext ex tb
        have d3 := ex _ _ d' fun _ z => nomatch z
        have hi : i < 3 := hi
        refine ⟨_, d3, by rw [List.length_map, List.length_replicate, sizeLine_eq]; omega, ⟨s3.kp.over hD, My.Tabs.over s3.tb d3, s3.pt.over nD⟩, ?_⟩
        rw [upd_same, List.replicate_succ', List.map_append]
        rfl
      · rintro H' ⟨s', d'⟩
        refine ⟨D, _, rfl, SqL.of d', _, rfl, iteF ⟨rfl, s'.lst hlr5 nrp, st5.trans s'⟩⟩
    case d5 =>
    rintro σ' H5 ⟨rfl, hlr, st5⟩
    clear st4 hlg lok ngp
    refine ⟨fun σ' H' => ∃ s5 s6, σ' = [some (.ref p), some (.ref ln), some (.ref lst), some (.ref lr), some (.ref lg), s5, s6, none, none, none, none, none] ∧ H' lr = some (.lst (rows.map sg)) ∧ Sta Pj Pr p H H' 1000, ?c6, ?d6⟩
    case c6 =>
      refine ⟨12, rfl, by decide, by decide, for_it (n := 12) walk_range (fun i σ H' => ∃ s5 s6, σ = [some (.ref p), some (.ref ln), some (.ref lst), some (.ref lr), some (.ref lg), s5, s6, none, none, none, none, none] ∧ H' lr = some (.lst (rows.map sg)) ∧ Sta Pj Pr p H H' (500 + 30 * i)) ⟨none, none, rfl, hlr, st5⟩ (fun _ _ _ _ _ => trivial) ?_ fun σ H' ⟨s5, s6, e, h, s⟩ => ⟨s5, s6, e, h, s.mono (by decide)⟩⟩
      rintro i v σ H6 H7 hi ⟨s5, s6, rfl, hlr, st⟩ ⟨rfl, rfl⟩
      refine ⟨fun σ' H' => ∃ lb bs, σ' = [some (.ref p), some (.ref ln), some (.ref lst), some (.ref lr), some (.ref lg), some (.int (0 + (i : Nat))), some (.ref lb), none, none, none, none, none] ∧ lb ≠ p ∧ H' lb = some (.lst (bs.map sg)) ∧ RowsOk 37 65 bs ∧ H' lr = some (.lst (rows.map sg)) ∧ Sta Pj Pr p H H' (500 + 30 * i + 10), ?b1, ?e1⟩
      case b1 =>
        refine ⟨_, rfl, _, rfl, p, lr, 500 + 30 * i, 12, 45, rows, rfl, nrp, st.pt, by omega, hlr, rne, rok, by decide, by decide, fun l' rs' H' o e nl g => ⟨l', rs', rfl, nl, e, o, g.at hlr nrp, st.go g⟩⟩
      case e1 =>
      rintro σ' H8 ⟨lb, bs, rfl, nb, hb, bok, hlr, st⟩
      refine ⟨fun σ' H' => ∃ lb bs, σ' = [some (.ref p), some (.ref ln), some (.ref lst), some (.ref lr), some (.ref lg), some (.int (0 + (i : Nat))), some (.ref lb), none, none, none, none, none] ∧ lb ≠ p ∧ H' lb = some (.lst (bs.map sg)) ∧ RowsOk 112 85 bs ∧ H' lr = some (.lst (rows.map sg)) ∧ Sta Pj Pr p H H' (500 + 30 * i + 30), ?b2, ?e2⟩
      case b2 =>
        have cl : ∀ r ∈ bs, Cl r := fun r hr => (bok.2 r hr).2
        refine ⟨_, rfl, (by show 0 ≤ sizeLine; decide), fun le fe se => ?_⟩
        have Se := same_new (o := .lst []) fe
        have ste := st.same Se
        refine ⟨listD bs, .list [], .lst (SqL.of (Se _ _ hb)) listD_dp, .lst (SqL.of upd_same) .nil, listD_shaped cl, rfl, _, rfl, ?_⟩
        have keep : ∀ (n : Nat) (H' : Hp), Sta Pj Pr p H H' n → n ≤ 500 + 30 * i + 30 → H' lb = some (.lst (bs.map sg)) → H' lr = some (.lst (rows.map sg)) → ∃ lb' bs', [some (V.ref p), some (.ref ln), some (.ref lst), some (.ref lr), some (.ref lg), some (.int (0 + (i : Nat))), some (.ref lb), none, none, none, none, none] = [some (V.ref p), some (.ref ln), some (.ref lst), some (.ref lr), some (.ref lg), some (.int (0 + (i : Nat))), some (.ref lb'), none, none, none, none, none] ∧ lb' ≠ p ∧ H' lb' = some (.lst (bs'.map sg)) ∧ RowsOk 112 85 bs' ∧ H' lr = some (.lst (rows.map sg)) ∧ Sta Pj Pr p H H' (500 + 30 * i + 30) := fun n H' s hn h1 h2 => ⟨lb, bs, rfl, nb, h1, bok.mono (by decide) (by decide), h2, s.mono hn⟩
        cases hv : PyData.eqv (listD bs) (.list []) with
        | true => exact iteF ⟨_, rfl, keep _ _ ste (by omega) (Se _ _ hb) (Se _ _ hlr)⟩
        | false =>
          have bne : bs ≠ [] := fun z => by
            rw [z] at hv
            exact absurd hv (by decide)
          refine iteT ⟨_, rfl, p, 3, _, rfl, ste.pt, by omega, by decide, by decide, fun d H9 d0 d1 g9 => ⟨rfl, _, rfl, ite2 (fun _ => ?_) (fun _ => ?_)⟩⟩
          · refine ⟨_, rfl, _, rfl, p, lb, _, 37, 65, bs, rfl, nb, g9.pot, by omega, g9.at (Se _ _ hb) nb, bne, bok, by decide, by decide, fun l' rs' H' o e nl g => ⟨l', rs', rfl, nl, e, o, g.at (g9.at (Se _ _ hlr) nrp) nrp, ((ste.go g9).go g).mono (by omega)⟩⟩
          · exact ⟨_, rfl, keep _ _ (ste.go g9) (by omega) (g9.at (Se _ _ hb) nb) (g9.at (Se _ _ hlr) nrp)⟩
      case e2 =>
      rintro σ' H9 ⟨lb, bs, rfl, nb, hb, bok, hlr, st⟩
      obtain ⟨x1, x2⟩ := txt_ok bok (by decide) (by decide)
      have cl : ∀ r ∈ bs, Cl r := fun r hr => (bok.2 r hr).2
      refine ⟨fun σ' H' => σ' = [some (.ref p), some (.ref ln), some (.ref lst), some (.ref lr), some (.ref lg), some (.int (0 + (i : Nat))), some (.ref lb), none, none, none, none, none] ∧ H' lb = some (.lst (bs.map sg)) ∧ H' lr = some (.lst (rows.map sg)) ∧ Sta Pj Pr p H H' (500 + 30 * i + 30), ?b3, ?e3⟩
      case b3 =>
        refine ⟨⟨_, rfl⟩, _, rfl, join_read bok (by decide) hb ⟨_, rfl, x1, x2, st.tb, fun H3 tb ex => ⟨_, rfl, iteF ⟨rfl, ex _ _ hb (fun _ z => nomatch z), ex _ _ hlr (fun _ z => nomatch z), st.ext ex tb⟩⟩⟩⟩
      case e3 =>
      rintro σ' H10 ⟨rfl, hb, hlr, st⟩
      have rcl : ∀ r ∈ rows, Cl r := fun r hr => (rok.2 r hr).2
      have nxt : ∀ H', Sta Pj Pr p H H' (500 + 30 * i + 30) → H' lr = some (.lst (rows.map sg)) → ∃ s5 s6, [some (V.ref p), some (.ref ln), some (.ref lst), some (.ref lr), some (.ref lg), some (.int (0 + (i : Nat))), some (.ref lb), none, none, none, none, none] = [some (V.ref p), some (.ref ln), some (.ref lst), some (.ref lr), some (.ref lg), s5, s6, none, none, none, none, none] ∧ H' lr = some (.lst (rows.map sg)) ∧ Sta Pj Pr p H H' (500 + 30 * (i + 1)) := fun H' s h => ⟨_, _, rfl, h, s.mono (by omega)⟩
      refine ⟨_, rfl, _, rfl, listD bs, listD rows, .lst (SqL.of hb) listD_dp, .lst (SqL.of hlr) listD_dp, listD_shaped cl, listD_shaped rcl, _, rfl, ?_⟩
      cases hv : PyData.eqv (listD bs) (listD rows) with
      | true => exact iteF (nxt _ st hlr)
      | false =>
        have bne : bs ≠ rows := fun z => by
          rw [z, listD_refl rcl] at hv
          cases hv
        refine iteT ?_
        refine ⟨⟨_, rfl⟩, _, rfl, join_read bok (by decide) hb ⟨_, rfl, x1, x2, fun ys ey t lf ts2 H11 S11 et _ _ => ?_, fun m em t H11 S11 et => ?_⟩⟩
        · refine ⟨_, _, _, _, rfl, rfl, SqT.of et, rfl, rfl, _, rfl, iteT ?_⟩
          have st11 := st.same S11
          obtain ⟨y1, y2⟩ := txt_ok rok (by decide) (by decide)
          have spr : spR (txtL rows) = rows := TL.spl_join (s := 10) (S := []) rne (fun r hr z => (rcl r hr 10 z).1 rfl)
          have rdt : rd (spR (txtL rows)) 0 = .inr xs := by rw [spr]; exact rdr
          refine ⟨⟨_, rfl⟩, _, rfl, join_read bok (by decide) (S11 _ _ hb) ?_⟩
          intro z1 e1 c1 c2 c3
          refine mk_scA c1 c2 x1 x2 (fun zs ez H12 S12 s12 => ⟨rfl, ?_⟩) (fun m e => (by rw [ey] at e; cases e))
          have S112 := S11.trans S12
          refine ⟨⟨_, rfl⟩, _, rfl, join_read rok (by decide) (S112 _ _ hlr) ?_⟩
          intro z2 e2 c4 c5 c6
          refine mk_scA c4 c5 y1 y2 (fun zs ez H13 S13 s13 => ⟨rfl, ?_⟩) (fun m e => (by rw [rdt] at e; cases e))
          replace s12 := s12.same S13
          obtain ⟨_, _, so12, _, _⟩ := s12
          obtain ⟨_, _, so13, _, _⟩ := s13
          obtain ⟨_, d12, q12, hb12⟩ := id so12
          cases q12
          obtain ⟨_, d13, q13, hb13⟩ := id so13
          cases q13
          have nfC : PySem.W.notFirst K a.Script (.ref a.Script) = true := by simp [PySem.W.notFirst]
          refine ⟨_, d12, _, _, rfl, hb12, .ins hb13, nfC, _, _, _, _, rfl, so12, .inl ⟨_, _, so13, _, rfl, ?_⟩⟩
          have tne : txtL bs ≠ txtL rows := fun z => bne (rows_inj (fun r hr z => (rcl r hr 10 z).1 rfl) (fun r hr z => (cl r hr 10 z).1 rfl) rne rn0 z.symm).symm
          rw [decide_eq_false tne]
          exact iteF (nxt _ (st.same (S112.trans S13)) ((S112.trans S13) _ _ hlr))
        · obtain ⟨m1, _⟩ := rd_pos em
          refine ⟨_, _, _, _, rfl, rfl, SqT.of et, rfl, rfl, _, rfl, ite2 (fun c => absurd (of_decide_eq_true c) (fun z => by have := V.int.inj z; omega)) (fun _ => nxt _ (st.same S11) (S11 _ _ hlr))⟩
    case d6 =>
    rintro σ' H6 ⟨s5, s6, rfl, hlr, st6⟩
    clear st5
    refine ⟨(by show 0 ≤ sizeLine; decide), fun t0 f0 => ⟨_, rfl, (by show 1 ≤ sizeLine; decide), fun t1 f1 => ?_⟩⟩
    have S01 := (same_new (o := .tup []) f0).trans (same_new (o := .tup [.str "a"]) f1)
    have e0 := same_new (o := .tup [.str "a"]) f1 _ _ (show upd H6 t0 (.tup []) t0 = some (.tup []) from upd_same)
    have e1 : upd (upd H6 t0 (.tup [])) t1 (.tup [.str "a"]) t1 = some (.tup [.str "a"]) := upd_same
    have st7 := st6.same S01
    have hlr7 := S01 _ _ hlr
    generalize upd (upd H6 t0 (.tup [])) t1 (.tup [.str "a"]) = H7 at e0 e1 st7 hlr7 ⊢
    have np : ∀ {t : Addr} {xs : List V}, H7 t = some (.tup xs) → t ≠ p := fun h z => by
      obtain ⟨_, _, _, f, _⟩ := st7.pt
      rw [z, f] at h
      cases h
    refine ⟨_, rfl, p, 1000, rfl, st7.pt, by decide, fun v H8 iv g8 => ⟨(by show 7 ≤ sizeLine; decide), fun t8 f8 => ?_⟩⟩
    have S8 := same_new (o := .tup [.non, .int 0, .bl true, .ref t0, .ref lr, .ref t1, v]) f8
    have et8 : upd H8 t8 (.tup [.non, .int 0, .bl true, .ref t0, .ref lr, .ref t1, v]) t8 = some (.tup [.non, .int 0, .bl true, .ref t0, .ref lr, .ref t1, v]) := upd_same
    have st8 := (st7.go g8).same S8
    have k78 : Kp p H7 (upd H8 t8 (.tup [.non, .int 0, .bl true, .ref t0, .ref lr, .ref t1, v])) := (Kp.go g8).trans (Kp.same S8)
    have v8 : ∃ d, Da (vw p (upd H8 t8 (.tup [.non, .int 0, .bl true, .ref t0, .ref lr, .ref t1, v]))) v d ∧ OddG d := by
      obtain ⟨d, hd, gd⟩ := iv (fun b => b = p) fun b e => by rw [e]; exact st7.pt.has
      exact ⟨d, (da_strip hd).same (Kp.same S8), gd⟩
    generalize upd H8 t8 (.tup [.non, .int 0, .bl true, .ref t0, .ref lr, .ref t1, v]) = H9 at et8 st8 k78 v8 ⊢
    have n8 : t8 ≠ p := fun z => by
      obtain ⟨_, _, _, f, _⟩ := st8.pt
      rw [z, f] at et8
      cases et8
    have vals : ∀ x ∈ [V.non, .int 0, .bl true, .ref t0, .ref lr, .ref t1, v], ∃ k, Vl p H9 x k := by
      intro x hx
      simp only [List.mem_cons, List.not_mem_nil, or_false] at hx
      rcases hx with rfl | rfl | rfl | rfl | rfl | rfl | rfl
      · exact ⟨0, .inl ⟨_, .non, (fun _ z => nomatch z), fun _ => rfl⟩⟩
      · exact ⟨0, .inl ⟨_, .int 0, (fun _ z => nomatch z), fun _ => rfl⟩⟩
      · exact ⟨0, .inl ⟨_, .bl true, (fun _ z => nomatch z), fun _ => rfl⟩⟩
      · exact ⟨0, .inl ⟨_, .tup (k78 _ _ (vw_at e0 (np e0) fun _ z => nomatch z)) .nil, (fun _ z => nomatch z), fun _ => rfl⟩⟩
      · exact ⟨0, .inr ⟨rfl, lr, _, rfl, k78 _ _ (vw_at hlr7 nrp fun _ z => nomatch z)⟩⟩
      · exact ⟨0, .inl ⟨_, .tup (k78 _ _ (vw_at e1 (np e1) fun _ z => nomatch z)) (.cons (.str _) .nil), (fun _ z => nomatch z), fun _ => rfl⟩⟩
      · exact odd_vl v8
    clear iv g8 S8 f8 st7 hlr7 e0 e1 S01 f0 f1 k78 v8 np st6 hlr
    refine ⟨t8, rfl, ⟨_, SqT.of et8⟩, for_it (walk_tup (xs := [V.non, .int 0, .bl true, .ref t0, .ref lr, .ref t1, v])) (fun i σ H' => ∃ s7 s8 s9, σ = [some (.ref p), some (.ref ln), some (.ref lst), some (.ref lr), some (.ref lg), s5, s6, s7, s8, s9, none, none] ∧ Sta Pj Pr p H9 H' 1001)
      ⟨none, none, none, rfl, st8.here⟩ (fun i σ H' _ h => by obtain ⟨_, _, _, _, s⟩ := h; exact SqT.of (s.kp.at et8 n8 fun _ z => nomatch z)) ?_ ?_⟩
    · rintro i x σ H10 H11 hi ⟨s7, s8, s9, rfl, st⟩ ⟨rfl, hx⟩
      obtain ⟨k, vl⟩ := vals x (List.mem_of_getElem? hx)
      have vl10 := vl.kp st.kp
      refine ⟨st.tb, fun f c' H12 eN T12 nn nf hf hc => ⟨f, _, _, ⟨c', rfl, rfl⟩, rfl, hf, hc, f, rfl, ?_⟩⟩
      have st12 := st.ext eN T12
      have vl12 := vl.kp st12.kp
      refine told_raises (ra_val (x := x) (k := k) fun H' S' => vl12.val (K := K) H' ((vw_le _ _).trans S')) (fun _ _ _ _ h => h) T.x_BadScript fun H13 e t wv S13 ht ct hw => ?_
      subst hw
      have st13 := st12.same S13
      have v13 := (vl.kp st13.kp).val (K := K) H13 (vw_le _ _)
      refine ⟨_, _, _, _, rfl, rfl, SqT.of ht, rfl, ?_⟩
      refine ⟨fun σ' H' => σ' = [some (.ref p), some (.ref ln), some (.ref lst), some (.ref lr), some (.ref lg), s5, s6, some x, some (.ref e), some (.int (k : Nat)), none, none] ∧ H' = H13, ?due, ?look⟩
      case due =>
        rcases v13 with ⟨rfl, z, rfl, hz⟩ | ⟨rfl, ty, t1, k1⟩
        · exact ⟨_, rfl, _, _, _, _, true, rfl, .ty _, .base (.str _), kit_ty (by decide +kernel), _, rfl, iteT ⟨rfl, rfl⟩⟩
        · exact ⟨_, rfl, _, _, _, _, false, rfl, .ty _, t1, k1, _, rfl, iteF ⟨rfl, rfl⟩⟩
      case look =>
      rintro σ' H14 ⟨rfl, rfl⟩
      have k1 : k ≤ 1000 := by
        rcases v13 with ⟨h, _⟩ | ⟨h, _⟩ <;> omega
      refine ⟨_, rfl, e, a.BadScript, _, _, _, true, rfl, .own _, T.c_BadScript, ct, T.t_BadScript, _, rfl, iteF ?_⟩
      refine ⟨_, rfl, e, a.BadScript, _, rfl, T.c_BadScript, ct, _, _, 30, 0, rfl, .int _, gd_nat k1, ⟨by decide, by decide⟩, ?_⟩
      refine ⟨_, rfl, _, _, 30, 0, rfl, .int _, gd_nat k1, ⟨by decide, by decide⟩, rfl, _, rfl, iteNS rfl ?_⟩
      exact ⟨_, _, _, rfl, st13⟩
    · rintro σ H10 ⟨s7, s8, s9, rfl, st⟩
      exact q _ st.tb (st8.trans st).kp
end
end My

namespace My
open PySem PySem.Spec PyProof.Rows L2 G LamX
abbrev s_law : Stmt := topS 31
theorem sc_law : FnScope ["_law_script", "_law_place"] ["_law_script"] (defScope s_law) := ⟨rfl, rfl, rfl, by decide +kernel, rfl, by decide +kernel, by decide +kernel⟩

theorem sql_ext {K : PySem.W.Frag} {H H' : Hp} {a : Addr} {xs : List V} (e : ExtN H H') (h : SqL K H a xs) : SqL K H' a xs := by
  rcases h with (h | ⟨o, h⟩) | h
  · exact .inl (.inl (e _ _ h fun _ z => nomatch z))
  · exact .inl (.inr ⟨o, e _ _ h fun _ z => nomatch z⟩)
  · exact .inr h
def spLaw (K : PySem.W.Frag) (Pj Pr : Addr) : Sp := fun vs H Q _ => ∃ (s : Addr) (ns : List Int), vs = [.ref s] ∧ SqL K H s (ns.map V.int) ∧ ns.length ≤ 63 ∧ Tabs (TT Pj Pr) H ∧ ∀ H', Q (.bl true) H'
section
variable {P : Program} {w : World} {K : PySem.W.Frag} {mg : Str → Option Value} {base : Heap} {a : Ad} {Pj Pr : Addr}
theorem ok_law {fd : FuncData} (F : Fun K "law" "law" s_law a.law fd) (T : Txt K mg a)
    {fd__law_places : FuncData} (G__law_places : Fn P w K mg base CX0 1 a._law_places fd__law_places ["_law_script", "_law_most"] (spPlaces K)) (b__law_places : Binds K fd__law_places ["_law_script", "_law_most"] [])
    {fd__law_right : FuncData} (G__law_right : Fn P w K mg base CX0 14 a._law_right fd__law_right ["_law_pot_here"] (spRi Pj Pr)) (b__law_right : Binds K fd__law_right ["_law_pot_here"] [])
    {fd__law_pot : FuncData} (G__law_pot : Fn P w K mg base CX0 1 a._law_pot fd__law_pot ["_law_script", "_law_k"] (spPot K)) (b__law_pot : Binds K fd__law_pot ["_law_script", "_law_k"] []) :
    Fn P w K mg base CX0 16 a.law fd ["_law_script"] (spLaw K Pj Pr) := by
  refine ok F sc_law (fun vs H Q E h => ?len) (fun cdv A outer s H vs Q E hq hr h => ⟨_,
      (pss_one (ps_ret (pe_callB (cr_all rfl) (by rfl) T.n_all (by decide +kernel) (pa_cons (pe_lc (own := [("_law_place", 1)]) (g := gName 1) (tt := tYes) rfl sc_law.nd (pi_list (pe_fn G__law_places hq (hr.mono (by omega)) (by rfl) T.g__law_places T.k__law_places b__law_places .nil pass0 (pa_cons (pv 0) (pa_cons pe_int pa_nil)))) (blkOk_by (own := [("_law_place", 1)]) (N := ["_law_script", "_law_place"]) (sc := defScope s_law) (by decide +kernel)) (fun _ _ _ _ _ => (pg_name (i := 1) sc_law.nd rfl (Or.inl rfl))) (fun _ _ _ _ _ => pts_nil) (fun _ _ _ _ _ => (pe_fn G__law_right hq (hr.mono (by omega)) (by rfl) T.g__law_right T.k__law_right b__law_right .nil pass0 (pa_cons (pe_fn G__law_pot hq (hr.mono (by omega)) (by rfl) T.g__law_pot T.k__law_pot b__law_pot .nil pass0 (pa_cons (pv 0) (pa_cons (pv 1) pa_nil))) pa_nil)))) pa_nil)))), ?body⟩)
  case len => obtain ⟨s, ns, rfl, _⟩ := h; rfl
  case body =>
    obtain ⟨s, ns, rfl, hs, hl, tabs, q⟩ := h
    refine ⟨_, rfl, s, ns, 4, rfl, hs, hl, by decide, by decide, fun l n H1 nl S1 hn hl1 => ?_⟩
    have ln : (rgV 0 n).length = n := by rw [rgV_length]; omega
    refine ⟨l, rfl, ⟨_, SqL.of hl1⟩, fun D hD => ?_⟩
    have S2 := S1.trans (same_new (o := .lst []) hD)
    refine lc_it (walk_list (xs := rgV 0 n)) (fun i H' => ∃ k, k = i ∧ ExtN H1 H' ∧ Tabs (TT Pj Pr) H' ∧ H' D = some (.lst ((List.replicate i true).map V.bl))) ⟨0, rfl, ExtN.of (same_new hD), Tabs.ext tabs S2, upd_same⟩ (fun i H' _ h => by obtain ⟨_, _, e, _⟩ := h; exact sql_ext e (SqL.of hl1)) ?_ ?_
    · rintro i x H' H'' hi ⟨_, _, e, tb, d'⟩ ⟨rfl, hx⟩
      obtain ⟨hi1, hi2⟩ := List.getElem?_eq_some_iff.mp hx
      obtain rfl : V.int (0 + (i : Nat)) = x := by
        have z := hx
        unfold rgV at z
        rw [List.getElem?_map, List.getElem?_range (by omega)] at z
        exact Option.some.inj z
      refine ⟨rfl, ?_⟩
      refine ⟨_, rfl, _, rfl, s, ns, 0 + (i : Nat), rfl, sql_ext e (S1.seq hs), hl, by omega, by omega, fun p H2 np S2 pot => ?_⟩
      refine ⟨p, rfl, pot, Tabs.ext tb S2, fun H3 t3 k3 => ?_⟩
      have d2 := S2 _ _ d'
      have nD : D ≠ p := fun z => by
        rw [z, np] at d'
        cases d'
      have d3 := k3.at d2 nD fun _ z => nomatch z
      refine ⟨_, d3, by rw [List.length_map, List.length_replicate, sizeLine_eq]; omega, _, rfl, fun b o eb t => ?_, My.Tabs.over t3 d3, ?_⟩
      · have ez := e _ _ eb t
        have nb : b ≠ p := fun z => by
          rw [z, np] at ez
          cases ez
        rw [upd_ne (ne_of_none eb hD)]
        exact k3.at (S2 _ _ ez) nb t
      · rw [upd_same, List.replicate_succ', List.map_append]
        rfl
    · rintro H' ⟨_, _, e, tb, d'⟩
      refine ⟨D, _, rfl, SqL.of d', ?_⟩
      rw [show (List.replicate (rgV 0 n).length true).all id = true from List.all_eq_true.mpr fun b hb => by rw [(List.mem_replicate.mp hb).2]; rfl]
      exact q _
end
end My

namespace My
open PySem PySem.Spec PyProof.Rows L2 G LamX
abbrev s_init : Stmt := inClass (topS 1) 0
theorem sc_init : FnScope ["self", "value"] ["self", "value"] (defScope s_init) := ⟨rfl, rfl, rfl, by decide +kernel, rfl, by decide +kernel, by decide +kernel⟩
theorem ok_init {P : Program} {w : World} {K : PySem.W.Frag} {mg : Str → Option Value} {base : Heap} {f : Addr} {fd : FuncData} (F : Fun K "__init__" "AboutError.__init__" s_init f fd) : FnOk P w K mg base CX0 1 f fd ["self", "value"] (spErrInit K) := by
  refine F.ok sc_init (fun vs H Q E h => ?_) (fun cdv A outer s H vs Q E hr h => ?_)
  · obtain ⟨p, C, v, rfl, _⟩ := h
    rfl
  · obtain ⟨p, C, v, rfl, T, nv, hp, q⟩ := h
    exact ⟨_, pss_one (ps_ost (pv 0) (pv 1)), _, rfl, _, rfl, p, C, rfl, T, nv, .inl ⟨hp, fun dx h1 h2 => q dx h1 h2⟩⟩

theorem all_mk {P : Program} {w : World} {K : PySem.W.Frag} {h : Heap} {mg : Str → Option Value} {fa : Addr} (X : K.In h) (G : h.Ns mainGlobals mg) (hfa : mg "law" = some (.ref fa))
    (bare__law_judged : Bare mg h "_law_judged")
    (bare__law_right : Bare mg h "_law_right")
    {tL tM : Tok}
    {C_AboutError C_BadScript C_Script f_init : Addr}
    {nm_AboutError q_AboutError : Str} {N_AboutError : Addr} {bs_AboutError : List Value} {sn_AboutError : List Str} {sub_AboutError : List Value} {ab_AboutError : Bool} {col_AboutError : Option Bool} {dd_AboutError : Option Addr} {m0_AboutError m1_AboutError m2_AboutError m3_AboutError m5_AboutError : Option Value}
    {nm_BadScript q_BadScript : Str} {N_BadScript : Addr} {bs_BadScript : List Value} {sn_BadScript : List Str} {sub_BadScript : List Value} {ab_BadScript : Bool} {col_BadScript : Option Bool} {dd_BadScript : Option Addr} {m0_BadScript m1_BadScript m2_BadScript m3_BadScript m5_BadScript : Option Value}
    {od_init an_init : Option Addr} {sl_init : Array (Option Value)} {oc_init kV_init dc_init pm_init cd_init ct_init : Value}
    {f__law_told : Addr}
    {od__law_told an__law_told : Option Addr} {sl__law_told : Array (Option Value)} {oc__law_told kV__law_told dc__law_told pm__law_told cd__law_told ct__law_told : Value}
    {f__law_pot : Addr}
    {od__law_pot an__law_pot : Option Addr} {sl__law_pot : Array (Option Value)} {oc__law_pot kV__law_pot dc__law_pot pm__law_pot cd__law_pot ct__law_pot : Value}
    {f__law_take : Addr}
    {od__law_take an__law_take : Option Addr} {sl__law_take : Array (Option Value)} {oc__law_take kV__law_take dc__law_take pm__law_take cd__law_take ct__law_take : Value}
    {f__law_of : Addr}
    {od__law_of an__law_of : Option Addr} {sl__law_of : Array (Option Value)} {oc__law_of kV__law_of dc__law_of pm__law_of cd__law_of ct__law_of : Value}
    {f__law_places : Addr}
    {od__law_places an__law_places : Option Addr} {sl__law_places : Array (Option Value)} {oc__law_places kV__law_places dc__law_places pm__law_places cd__law_places ct__law_places : Value}
    {f__law_odd : Addr}
    {od__law_odd an__law_odd : Option Addr} {sl__law_odd : Array (Option Value)} {oc__law_odd kV__law_odd dc__law_odd pm__law_odd cd__law_odd ct__law_odd : Value}
    {f_is_name : Addr}
    {od_is_name an_is_name : Option Addr} {sl_is_name : Array (Option Value)} {oc_is_name kV_is_name dc_is_name pm_is_name cd_is_name ct_is_name : Value}
    {f__are_two : Addr}
    {od__are_two an__are_two : Option Addr} {sl__are_two : Array (Option Value)} {oc__are_two kV__are_two dc__are_two pm__are_two cd__are_two ct__are_two : Value}
    {f__law_is_name : Addr}
    {od__law_is_name an__law_is_name : Option Addr} {sl__law_is_name : Array (Option Value)} {oc__law_is_name kV__law_is_name dc__law_is_name pm__law_is_name cd__law_is_name ct__law_is_name : Value}
    {f_read_step : Addr}
    {od_read_step an_read_step : Option Addr} {sl_read_step : Array (Option Value)} {oc_read_step kV_read_step dc_read_step pm_read_step cd_read_step ct_read_step : Value}
    {f__read_many : Addr}
    {od__read_many an__read_many : Option Addr} {sl__read_many : Array (Option Value)} {oc__read_many kV__read_many dc__read_many pm__read_many cd__read_many ct__read_many : Value}
    {f__read_skip : Addr}
    {od__read_skip an__read_skip : Option Addr} {sl__read_skip : Array (Option Value)} {oc__read_skip kV__read_skip dc__read_skip pm__read_skip cd__read_skip ct__read_skip : Value}
    {f__read_steps : Addr}
    {od__read_steps an__read_steps : Option Addr} {sl__read_steps : Array (Option Value)} {oc__read_steps kV__read_steps dc__read_steps pm__read_steps cd__read_steps ct__read_steps : Value}
    {f_Script___init__ : Addr}
    {od_Script___init__ an_Script___init__ : Option Addr} {sl_Script___init__ : Array (Option Value)} {oc_Script___init__ kV_Script___init__ dc_Script___init__ pm_Script___init__ cd_Script___init__ ct_Script___init__ : Value}
    {f_Script_text : Addr}
    {pr_S : Addr} {rs_S : List Value}
    {od_Script_text an_Script_text : Option Addr} {sl_Script_text : Array (Option Value)} {oc_Script_text kV_Script_text dc_Script_text pm_Script_text cd_Script_text ct_Script_text : Value}
    {f_Script___len__ : Addr}
    {od_Script___len__ an_Script___len__ : Option Addr} {sl_Script___len__ : Array (Option Value)} {oc_Script___len__ kV_Script___len__ dc_Script___len__ pm_Script___len__ cd_Script___len__ ct_Script___len__ : Value}
    {f_Script___eq__ : Addr}
    {od_Script___eq__ an_Script___eq__ : Option Addr} {sl_Script___eq__ : Array (Option Value)} {oc_Script___eq__ kV_Script___eq__ dc_Script___eq__ pm_Script___eq__ cd_Script___eq__ ct_Script___eq__ : Value}
    {f__law_some : Addr}
    {od__law_some an__law_some : Option Addr} {sl__law_some : Array (Option Value)} {oc__law_some kV__law_some dc__law_some pm__law_some cd__law_some ct__law_some : Value}
    {f__law_step : Addr}
    {od__law_step an__law_step : Option Addr} {sl__law_step : Array (Option Value)} {oc__law_step kV__law_step dc__law_step pm__law_step cd__law_step ct__law_step : Value}
    {f__law_steps : Addr}
    {od__law_steps an__law_steps : Option Addr} {sl__law_steps : Array (Option Value)} {oc__law_steps kV__law_steps dc__law_steps pm__law_steps cd__law_steps ct__law_steps : Value}
    {f__law_step_text : Addr}
    {od__law_step_text an__law_step_text : Option Addr} {sl__law_step_text : Array (Option Value)} {oc__law_step_text kV__law_step_text dc__law_step_text pm__law_step_text cd__law_step_text ct__law_step_text : Value}
    {f__law_step_in : Addr}
    {od__law_step_in an__law_step_in : Option Addr} {sl__law_step_in : Array (Option Value)} {oc__law_step_in kV__law_step_in dc__law_step_in pm__law_step_in cd__law_step_in ct__law_step_in : Value}
    {f__law_read : Addr}
    {od__law_read an__law_read : Option Addr} {sl__law_read : Array (Option Value)} {oc__law_read kV__law_read dc__law_read pm__law_read cd__law_read ct__law_read : Value}
    {f__law_spoilt : Addr}
    {od__law_spoilt an__law_spoilt : Option Addr} {sl__law_spoilt : Array (Option Value)} {oc__law_spoilt kV__law_spoilt dc__law_spoilt pm__law_spoilt cd__law_spoilt ct__law_spoilt : Value}
    {f__law_judged : Addr}
    {od__law_judged an__law_judged : Option Addr} {sl__law_judged : Array (Option Value)} {oc__law_judged kV__law_judged dc__law_judged pm__law_judged  ct__law_judged : Value}
    {cA__law_judged Pt__law_judged : Addr} {eC__law_judged : Value} {dC__law_judged : Option Addr} {vC__law_judged : Array Value} {sC__law_judged : Array (Option Value)}
    {f__law_right : Addr}
    {od__law_right an__law_right : Option Addr} {sl__law_right : Array (Option Value)} {oc__law_right kV__law_right dc__law_right pm__law_right  ct__law_right : Value}
    {cA__law_right Pt__law_right : Addr} {eC__law_right : Value} {dC__law_right : Option Addr} {vC__law_right : Array Value} {sC__law_right : Array (Option Value)}
    {f_law : Addr}
    {od_law an_law : Option Addr} {sl_law : Array (Option Value)} {oc_law kV_law dc_law pm_law cd_law ct_law : Value}
    (n_abs : PySem.W.nsIn K mainGlobals "abs" = some none)
    (n_all : PySem.W.nsIn K mainGlobals "all" = some none)
    (n_enumerate : PySem.W.nsIn K mainGlobals "enumerate" = some none)
    (n_int : PySem.W.nsIn K mainGlobals "int" = some none)
    (n_isinstance : PySem.W.nsIn K mainGlobals "isinstance" = some none)
    (n_len : PySem.W.nsIn K mainGlobals "len" = some none)
    (n_list : PySem.W.nsIn K mainGlobals "list" = some none)
    (n_max : PySem.W.nsIn K mainGlobals "max" = some none)
    (n_min : PySem.W.nsIn K mainGlobals "min" = some none)
    (n_range : PySem.W.nsIn K mainGlobals "range" = some none)
    (n_repr : PySem.W.nsIn K mainGlobals "repr" = some none)
    (n_str : PySem.W.nsIn K mainGlobals "str" = some none)
    (n_tuple : PySem.W.nsIn K mainGlobals "tuple" = some none)
    (gL : PySem.W.nsIn K mainGlobals "_LETTERS" = some (some (.str "abcdefghijklmnopqrstuvwxyz" tL)))
    (gM : PySem.W.nsIn K mainGlobals "_MOST" = some (some (.int 12 tM)))
    (g_AboutError : PySem.W.nsIn K mainGlobals "AboutError" = some (some (.ref C_AboutError)))
    (g_BadScript : PySem.W.nsIn K mainGlobals "BadScript" = some (some (.ref C_BadScript)))
    (x_AboutError : K.lookup C_AboutError = some (excClassObj nm_AboutError q_AboutError C_AboutError N_AboutError bs_AboutError [.type "ValueError", .type "Exception", .type "BaseException", .type "object"] true sn_AboutError sub_AboutError ab_AboutError col_AboutError dd_AboutError m0_AboutError m1_AboutError m2_AboutError m3_AboutError m5_AboutError "ValueError.__new__"))
    (x_BadScript : K.lookup C_BadScript = some (excClassObj nm_BadScript q_BadScript C_BadScript N_BadScript bs_BadScript (.ref C_AboutError :: [.type "ValueError", .type "Exception", .type "BaseException", .type "object"]) true sn_BadScript sub_BadScript ab_BadScript col_BadScript dd_BadScript m0_BadScript m1_BadScript m2_BadScript m3_BadScript m5_BadScript "ValueError.__new__"))
    (i0 : PySem.W.findIn K (.ref C_AboutError) "__init__" = some (some (.ref f_init)))
    (tI : PySem.W.typeIn K (.ref f_init) = some (.type "function"))
    (sp : PySem.W.specialIn K (.builtin "object.__class__") "__get__" = some (some (.builtin "getset_descriptor.__get__")))
    (tk : PySem.W.takesIn K (.builtin "object.__class__") = some true)
    (eb : ([C_AboutError, C_BadScript].all fun C => ecB K f_init C) = true)
    (g_Script : PySem.W.nsIn K mainGlobals "Script" = some (some (.ref C_Script)))
    (l_init : K.lookup f_init = some ⟨oc_init, od_init, .func (PySem.W.fnOf "__init__" "AboutError.__init__" (defArgs s_init) (defBody s_init) (defScope s_init) .none kV_init dc_init pm_init an_init cd_init ct_init), sl_init⟩)
    (c_init : PySem.W.codeIn K cd_init "AboutError.__init__" = true)
    (k_init : PySem.W.keepIn K (.ref f_init) = true)
    (g__law_told : PySem.W.nsIn K mainGlobals "_law_told" = some (some (.ref f__law_told)))
    (l__law_told : K.lookup f__law_told = some ⟨oc__law_told, od__law_told, .func (PySem.W.fnOf "_law_told" "_law_told" (defArgs s__law_told) (defBody s__law_told) (defScope s__law_told) .none kV__law_told dc__law_told pm__law_told an__law_told cd__law_told ct__law_told), sl__law_told⟩)
    (c__law_told : PySem.W.codeIn K cd__law_told "_law_told" = true)
    (k__law_told : PySem.W.keepIn K (.ref f__law_told) = true)
    (g__law_pot : PySem.W.nsIn K mainGlobals "_law_pot" = some (some (.ref f__law_pot)))
    (l__law_pot : K.lookup f__law_pot = some ⟨oc__law_pot, od__law_pot, .func (PySem.W.fnOf "_law_pot" "_law_pot" (defArgs s__law_pot) (defBody s__law_pot) (defScope s__law_pot) .none kV__law_pot dc__law_pot pm__law_pot an__law_pot cd__law_pot ct__law_pot), sl__law_pot⟩)
    (c__law_pot : PySem.W.codeIn K cd__law_pot "_law_pot" = true)
    (k__law_pot : PySem.W.keepIn K (.ref f__law_pot) = true)
    (g__law_take : PySem.W.nsIn K mainGlobals "_law_take" = some (some (.ref f__law_take)))
    (l__law_take : K.lookup f__law_take = some ⟨oc__law_take, od__law_take, .func (PySem.W.fnOf "_law_take" "_law_take" (defArgs s__law_take) (defBody s__law_take) (defScope s__law_take) .none kV__law_take dc__law_take pm__law_take an__law_take cd__law_take ct__law_take), sl__law_take⟩)
    (c__law_take : PySem.W.codeIn K cd__law_take "_law_take" = true)
    (k__law_take : PySem.W.keepIn K (.ref f__law_take) = true)
    (g__law_of : PySem.W.nsIn K mainGlobals "_law_of" = some (some (.ref f__law_of)))
    (l__law_of : K.lookup f__law_of = some ⟨oc__law_of, od__law_of, .func (PySem.W.fnOf "_law_of" "_law_of" (defArgs s__law_of) (defBody s__law_of) (defScope s__law_of) .none kV__law_of dc__law_of pm__law_of an__law_of cd__law_of ct__law_of), sl__law_of⟩)
    (c__law_of : PySem.W.codeIn K cd__law_of "_law_of" = true)
    (k__law_of : PySem.W.keepIn K (.ref f__law_of) = true)
    (g__law_places : PySem.W.nsIn K mainGlobals "_law_places" = some (some (.ref f__law_places)))
    (l__law_places : K.lookup f__law_places = some ⟨oc__law_places, od__law_places, .func (PySem.W.fnOf "_law_places" "_law_places" (defArgs s__law_places) (defBody s__law_places) (defScope s__law_places) .none kV__law_places dc__law_places pm__law_places an__law_places cd__law_places ct__law_places), sl__law_places⟩)
    (c__law_places : PySem.W.codeIn K cd__law_places "_law_places" = true)
    (k__law_places : PySem.W.keepIn K (.ref f__law_places) = true)
    (g__law_odd : PySem.W.nsIn K mainGlobals "_law_odd" = some (some (.ref f__law_odd)))
    (l__law_odd : K.lookup f__law_odd = some ⟨oc__law_odd, od__law_odd, .func (PySem.W.fnOf "_law_odd" "_law_odd" (defArgs s__law_odd) (defBody s__law_odd) (defScope s__law_odd) .none kV__law_odd dc__law_odd pm__law_odd an__law_odd cd__law_odd ct__law_odd), sl__law_odd⟩)
    (c__law_odd : PySem.W.codeIn K cd__law_odd "_law_odd" = true)
    (k__law_odd : PySem.W.keepIn K (.ref f__law_odd) = true)
    (g_is_name : PySem.W.nsIn K mainGlobals "is_name" = some (some (.ref f_is_name)))
    (l_is_name : K.lookup f_is_name = some ⟨oc_is_name, od_is_name, .func (PySem.W.fnOf "is_name" "is_name" (defArgs s_is_name) (defBody s_is_name) (defScope s_is_name) .none kV_is_name dc_is_name pm_is_name an_is_name cd_is_name ct_is_name), sl_is_name⟩)
    (c_is_name : PySem.W.codeIn K cd_is_name "is_name" = true)
    (k_is_name : PySem.W.keepIn K (.ref f_is_name) = true)
    (g__are_two : PySem.W.nsIn K mainGlobals "_are_two" = some (some (.ref f__are_two)))
    (l__are_two : K.lookup f__are_two = some ⟨oc__are_two, od__are_two, .func (PySem.W.fnOf "_are_two" "_are_two" (defArgs s__are_two) (defBody s__are_two) (defScope s__are_two) .none kV__are_two dc__are_two pm__are_two an__are_two cd__are_two ct__are_two), sl__are_two⟩)
    (c__are_two : PySem.W.codeIn K cd__are_two "_are_two" = true)
    (k__are_two : PySem.W.keepIn K (.ref f__are_two) = true)
    (g__law_is_name : PySem.W.nsIn K mainGlobals "_law_is_name" = some (some (.ref f__law_is_name)))
    (l__law_is_name : K.lookup f__law_is_name = some ⟨oc__law_is_name, od__law_is_name, .func (PySem.W.fnOf "_law_is_name" "_law_is_name" (defArgs s__law_is_name) (defBody s__law_is_name) (defScope s__law_is_name) .none kV__law_is_name dc__law_is_name pm__law_is_name an__law_is_name cd__law_is_name ct__law_is_name), sl__law_is_name⟩)
    (c__law_is_name : PySem.W.codeIn K cd__law_is_name "_law_is_name" = true)
    (k__law_is_name : PySem.W.keepIn K (.ref f__law_is_name) = true)
    (g_read_step : PySem.W.nsIn K mainGlobals "read_step" = some (some (.ref f_read_step)))
    (l_read_step : K.lookup f_read_step = some ⟨oc_read_step, od_read_step, .func (PySem.W.fnOf "read_step" "read_step" (defArgs s_read_step) (defBody s_read_step) (defScope s_read_step) .none kV_read_step dc_read_step pm_read_step an_read_step cd_read_step ct_read_step), sl_read_step⟩)
    (c_read_step : PySem.W.codeIn K cd_read_step "read_step" = true)
    (k_read_step : PySem.W.keepIn K (.ref f_read_step) = true)
    (g__read_many : PySem.W.nsIn K mainGlobals "_read_many" = some (some (.ref f__read_many)))
    (l__read_many : K.lookup f__read_many = some ⟨oc__read_many, od__read_many, .func (PySem.W.fnOf "_read_many" "_read_many" (defArgs s__read_many) (defBody s__read_many) (defScope s__read_many) .none kV__read_many dc__read_many pm__read_many an__read_many cd__read_many ct__read_many), sl__read_many⟩)
    (c__read_many : PySem.W.codeIn K cd__read_many "_read_many" = true)
    (k__read_many : PySem.W.keepIn K (.ref f__read_many) = true)
    (g__read_skip : PySem.W.nsIn K mainGlobals "_read_skip" = some (some (.ref f__read_skip)))
    (l__read_skip : K.lookup f__read_skip = some ⟨oc__read_skip, od__read_skip, .func (PySem.W.fnOf "_read_skip" "_read_skip" (defArgs s__read_skip) (defBody s__read_skip) (defScope s__read_skip) .none kV__read_skip dc__read_skip pm__read_skip an__read_skip cd__read_skip ct__read_skip), sl__read_skip⟩)
    (c__read_skip : PySem.W.codeIn K cd__read_skip "_read_skip" = true)
    (k__read_skip : PySem.W.keepIn K (.ref f__read_skip) = true)
    (g__read_steps : PySem.W.nsIn K mainGlobals "_read_steps" = some (some (.ref f__read_steps)))
    (l__read_steps : K.lookup f__read_steps = some ⟨oc__read_steps, od__read_steps, .func (PySem.W.fnOf "_read_steps" "_read_steps" (defArgs s__read_steps) (defBody s__read_steps) (defScope s__read_steps) .none kV__read_steps dc__read_steps pm__read_steps an__read_steps cd__read_steps ct__read_steps), sl__read_steps⟩)
    (c__read_steps : PySem.W.codeIn K cd__read_steps "_read_steps" = true)
    (k__read_steps : PySem.W.keepIn K (.ref f__read_steps) = true)
    (g_Script___init__ : PySem.W.findIn K (.ref C_Script) "__init__" = some (some (.ref f_Script___init__)))
    (l_Script___init__ : K.lookup f_Script___init__ = some ⟨oc_Script___init__, od_Script___init__, .func (PySem.W.fnOf "__init__" "Script.__init__" (defArgs s_Script___init__) (defBody s_Script___init__) (defScope s_Script___init__) .none kV_Script___init__ dc_Script___init__ pm_Script___init__ an_Script___init__ cd_Script___init__ ct_Script___init__), sl_Script___init__⟩)
    (c_Script___init__ : PySem.W.codeIn K cd_Script___init__ "Script.__init__" = true)
    (k_Script___init__ : PySem.W.keepIn K (.ref f_Script___init__) = true)
    (pa_S : PySem.W.findIn K (.ref C_Script) "text" = some (some (.ref pr_S)))
    (pb_S : PySem.W.specialIn K (.ref pr_S) "__get__" = some (some (.builtin "property.__get__")))
    (pc_S : PySem.W.takesIn K (.ref pr_S) = some true)
    (pd_S : PySem.W.recIn K pr_S "property" = some (.ref f_Script_text :: rs_S))
    (l_Script_text : K.lookup f_Script_text = some ⟨oc_Script_text, od_Script_text, .func (PySem.W.fnOf "text" "Script.text" (defArgs s_Script_text) (defBody s_Script_text) (defScope s_Script_text) .none kV_Script_text dc_Script_text pm_Script_text an_Script_text cd_Script_text ct_Script_text), sl_Script_text⟩)
    (c_Script_text : PySem.W.codeIn K cd_Script_text "Script.text" = true)
    (k_Script_text : PySem.W.keepIn K (.ref f_Script_text) = true)
    (g_Script___len__ : PySem.W.findIn K (.ref C_Script) "__len__" = some (some (.ref f_Script___len__)))
    (l_Script___len__ : K.lookup f_Script___len__ = some ⟨oc_Script___len__, od_Script___len__, .func (PySem.W.fnOf "__len__" "Script.__len__" (defArgs s_Script___len__) (defBody s_Script___len__) (defScope s_Script___len__) .none kV_Script___len__ dc_Script___len__ pm_Script___len__ an_Script___len__ cd_Script___len__ ct_Script___len__), sl_Script___len__⟩)
    (c_Script___len__ : PySem.W.codeIn K cd_Script___len__ "Script.__len__" = true)
    (k_Script___len__ : PySem.W.keepIn K (.ref f_Script___len__) = true)
    (g_Script___eq__ : PySem.W.findIn K (.ref C_Script) "__eq__" = some (some (.ref f_Script___eq__)))
    (l_Script___eq__ : K.lookup f_Script___eq__ = some ⟨oc_Script___eq__, od_Script___eq__, .func (PySem.W.fnOf "__eq__" "Script.__eq__" (defArgs s_Script___eq__) (defBody s_Script___eq__) (defScope s_Script___eq__) .none kV_Script___eq__ dc_Script___eq__ pm_Script___eq__ an_Script___eq__ cd_Script___eq__ ct_Script___eq__), sl_Script___eq__⟩)
    (c_Script___eq__ : PySem.W.codeIn K cd_Script___eq__ "Script.__eq__" = true)
    (k_Script___eq__ : PySem.W.keepIn K (.ref f_Script___eq__) = true)
    (g__law_some : PySem.W.nsIn K mainGlobals "_law_some" = some (some (.ref f__law_some)))
    (l__law_some : K.lookup f__law_some = some ⟨oc__law_some, od__law_some, .func (PySem.W.fnOf "_law_some" "_law_some" (defArgs s__law_some) (defBody s__law_some) (defScope s__law_some) .none kV__law_some dc__law_some pm__law_some an__law_some cd__law_some ct__law_some), sl__law_some⟩)
    (c__law_some : PySem.W.codeIn K cd__law_some "_law_some" = true)
    (k__law_some : PySem.W.keepIn K (.ref f__law_some) = true)
    (g__law_step : PySem.W.nsIn K mainGlobals "_law_step" = some (some (.ref f__law_step)))
    (l__law_step : K.lookup f__law_step = some ⟨oc__law_step, od__law_step, .func (PySem.W.fnOf "_law_step" "_law_step" (defArgs s__law_step) (defBody s__law_step) (defScope s__law_step) .none kV__law_step dc__law_step pm__law_step an__law_step cd__law_step ct__law_step), sl__law_step⟩)
    (c__law_step : PySem.W.codeIn K cd__law_step "_law_step" = true)
    (k__law_step : PySem.W.keepIn K (.ref f__law_step) = true)
    (g__law_steps : PySem.W.nsIn K mainGlobals "_law_steps" = some (some (.ref f__law_steps)))
    (l__law_steps : K.lookup f__law_steps = some ⟨oc__law_steps, od__law_steps, .func (PySem.W.fnOf "_law_steps" "_law_steps" (defArgs s__law_steps) (defBody s__law_steps) (defScope s__law_steps) .none kV__law_steps dc__law_steps pm__law_steps an__law_steps cd__law_steps ct__law_steps), sl__law_steps⟩)
    (c__law_steps : PySem.W.codeIn K cd__law_steps "_law_steps" = true)
    (k__law_steps : PySem.W.keepIn K (.ref f__law_steps) = true)
    (g__law_step_text : PySem.W.nsIn K mainGlobals "_law_step_text" = some (some (.ref f__law_step_text)))
    (l__law_step_text : K.lookup f__law_step_text = some ⟨oc__law_step_text, od__law_step_text, .func (PySem.W.fnOf "_law_step_text" "_law_step_text" (defArgs s__law_step_text) (defBody s__law_step_text) (defScope s__law_step_text) .none kV__law_step_text dc__law_step_text pm__law_step_text an__law_step_text cd__law_step_text ct__law_step_text), sl__law_step_text⟩)
    (c__law_step_text : PySem.W.codeIn K cd__law_step_text "_law_step_text" = true)
    (k__law_step_text : PySem.W.keepIn K (.ref f__law_step_text) = true)
    (g__law_step_in : PySem.W.nsIn K mainGlobals "_law_step_in" = some (some (.ref f__law_step_in)))
    (l__law_step_in : K.lookup f__law_step_in = some ⟨oc__law_step_in, od__law_step_in, .func (PySem.W.fnOf "_law_step_in" "_law_step_in" (defArgs s__law_step_in) (defBody s__law_step_in) (defScope s__law_step_in) .none kV__law_step_in dc__law_step_in pm__law_step_in an__law_step_in cd__law_step_in ct__law_step_in), sl__law_step_in⟩)
    (c__law_step_in : PySem.W.codeIn K cd__law_step_in "_law_step_in" = true)
    (k__law_step_in : PySem.W.keepIn K (.ref f__law_step_in) = true)
    (g__law_read : PySem.W.nsIn K mainGlobals "_law_read" = some (some (.ref f__law_read)))
    (l__law_read : K.lookup f__law_read = some ⟨oc__law_read, od__law_read, .func (PySem.W.fnOf "_law_read" "_law_read" (defArgs s__law_read) (defBody s__law_read) (defScope s__law_read) .none kV__law_read dc__law_read pm__law_read an__law_read cd__law_read ct__law_read), sl__law_read⟩)
    (c__law_read : PySem.W.codeIn K cd__law_read "_law_read" = true)
    (k__law_read : PySem.W.keepIn K (.ref f__law_read) = true)
    (g__law_spoilt : PySem.W.nsIn K mainGlobals "_law_spoilt" = some (some (.ref f__law_spoilt)))
    (l__law_spoilt : K.lookup f__law_spoilt = some ⟨oc__law_spoilt, od__law_spoilt, .func (PySem.W.fnOf "_law_spoilt" "_law_spoilt" (defArgs s__law_spoilt) (defBody s__law_spoilt) (defScope s__law_spoilt) .none kV__law_spoilt dc__law_spoilt pm__law_spoilt an__law_spoilt cd__law_spoilt ct__law_spoilt), sl__law_spoilt⟩)
    (c__law_spoilt : PySem.W.codeIn K cd__law_spoilt "_law_spoilt" = true)
    (k__law_spoilt : PySem.W.keepIn K (.ref f__law_spoilt) = true)
    (g__law_judged : PySem.W.nsIn K mainGlobals "_law_judged" = some (some (.ref f__law_judged)))
    (l__law_judged : K.lookup f__law_judged = some ⟨oc__law_judged, od__law_judged, .func (PySem.W.fnOf "_law_judged" "_law_judged" (defArgs s__law_judged) (defBody s__law_judged) (defScope s__law_judged) .none kV__law_judged dc__law_judged pm__law_judged an__law_judged (.ref cA__law_judged) ct__law_judged), sl__law_judged⟩)
    (c__law_judged : PySem.W.codeIn K (.ref cA__law_judged) "_law_judged" = true)
    (k__law_judged : PySem.W.keepIn K (.ref f__law_judged) = true)
    (o__law_judged : K.lookup cA__law_judged = some ⟨eC__law_judged, dC__law_judged, .fields vC__law_judged, sC__law_judged⟩)
    (v__law_judged : vC__law_judged[11]? = some (.ref Pt__law_judged))
    (t__law_judged : K.lookup Pt__law_judged = none)
    (g__law_right : PySem.W.nsIn K mainGlobals "_law_right" = some (some (.ref f__law_right)))
    (l__law_right : K.lookup f__law_right = some ⟨oc__law_right, od__law_right, .func (PySem.W.fnOf "_law_right" "_law_right" (defArgs s__law_right) (defBody s__law_right) (defScope s__law_right) .none kV__law_right dc__law_right pm__law_right an__law_right (.ref cA__law_right) ct__law_right), sl__law_right⟩)
    (c__law_right : PySem.W.codeIn K (.ref cA__law_right) "_law_right" = true)
    (k__law_right : PySem.W.keepIn K (.ref f__law_right) = true)
    (o__law_right : K.lookup cA__law_right = some ⟨eC__law_right, dC__law_right, .fields vC__law_right, sC__law_right⟩)
    (v__law_right : vC__law_right[11]? = some (.ref Pt__law_right))
    (t__law_right : K.lookup Pt__law_right = none)
    (g_law : PySem.W.nsIn K mainGlobals "law" = some (some (.ref f_law)))
    (l_law : K.lookup f_law = some ⟨oc_law, od_law, .func (PySem.W.fnOf "law" "law" (defArgs s_law) (defBody s_law) (defScope s_law) .none kV_law dc_law pm_law an_law cd_law ct_law), sl_law⟩)
    (c_law : PySem.W.codeIn K cd_law "law" = true)
    (k_law : PySem.W.keepIn K (.ref f_law) = true)
    (ri1 : PySem.W.findIn K (.ref C_Script) "__class__" = some (some (.builtin "object.__class__")))
    (ri4 : PySem.W.mroIn K C_Script (.type "object") = some true)
    (ri5 : PySem.W.kitOne K (.ref C_Script) (.type "int") = some false)
    (ri6 : PySem.W.kitOne K (.ref C_Script) (.type "bool") = some false)
    (ri7 : PySem.W.kitOne K (.ref C_Script) (.ref C_Script) = some true)
    (ri8 : (["int", "bool", "NoneType", "str", "tuple", "list", "dict"] : List String).all (fun t => decide (PySem.W.kitOne K (.type t) (.ref C_Script) = some false)) = true)
    (cl1 : PySem.W.plainGet K C_Script Str.empty = true)
    (cl2 : PySem.W.hasDictIn K C_Script = true)
    (cl3 : PySem.W.plainOver K C_Script = true)
    (cl4 : PySem.W.findIn K (.ref C_Script) "__setattr__" = some (some (.builtin "object.__setattr__")))
    (mk1 : PySem.W.makesIn K C_Script = true)
    (mk2 : PySem.W.keepIn K (.ref C_Script) = true)
    (mk3 : PySem.W.isFn K (.ref f_Script___init__) = true)
    (eq1 : PySem.W.isFn K (.ref f_Script___eq__) = true)
    (eq2 : PySem.W.findIn K (.ref C_Script) "__ne__" = some (some (.builtin "object.__ne__")))
    (eq3 : (["int", "str", "tuple"] : List String).all (fun t => PySem.W.notFirst K C_Script (.type t)) = true)
    (nfl : PySem.W.notFirst K C_Script (.type "list") = true)
    (le1 : PySem.W.isFn K (.ref f_Script___len__) = true)
    (nT : PySem.W.findIn K (.ref C_Script) "_text" = some none)
    (nS : PySem.W.findIn K (.ref C_Script) "steps" = some none)
    (xB : PySem.W.exmOne K (.ref C_BadScript) (.ref C_AboutError) = some true)
    (tB : PySem.W.kitOne K (.ref C_BadScript) (.ref C_BadScript) = some true)
    (nP : Pt__law_judged ≠ Pt__law_right) :
    LawT P w K 16 63 "_law_script" mg fa h := by
  have e := hfa.symm.trans (PySem.W.mg_of X G g_law)
  cases e
  let a : Ad := ⟨f_init, C_AboutError, C_BadScript, C_Script, f__law_pot, f__law_take, f__law_of, f__law_places, f__law_told, f__law_odd, f__law_some, f__law_is_name, f__law_step, f__law_steps, f__law_step_text, f__law_step_in, f__law_read, f__law_spoilt, f__law_judged, f__law_right, fa, f_is_name, f__are_two, f_read_step, f__read_many, f__read_skip, f__read_steps, f_Script___init__, f_Script_text, f_Script___len__, f_Script___eq__⟩
  have eb1 : ∀ C ∈ [C_AboutError, C_BadScript], ecB K f_init C = true := List.all_eq_true.mp eb
  have e_AboutError := ecB_ok (eb1 C_AboutError (by simp)) ⟨_, _, _, _, _, _, _, _, _, _, _, _, _, _, _, x_AboutError, by rfl⟩
  have e_BadScript := ecB_ok (eb1 C_BadScript (by simp)) ⟨_, _, _, _, _, _, _, _, _, _, _, _, _, _, _, x_BadScript, by rfl⟩
  have T : Txt K mg a := {
    n_abs := PySem.W.mg_none_of X G n_abs
    n_all := PySem.W.mg_none_of X G n_all
    n_enumerate := PySem.W.mg_none_of X G n_enumerate
    n_int := PySem.W.mg_none_of X G n_int
    n_isinstance := PySem.W.mg_none_of X G n_isinstance
    n_len := PySem.W.mg_none_of X G n_len
    n_list := PySem.W.mg_none_of X G n_list
    n_max := PySem.W.mg_none_of X G n_max
    n_min := PySem.W.mg_none_of X G n_min
    n_range := PySem.W.mg_none_of X G n_range
    n_repr := PySem.W.mg_none_of X G n_repr
    n_str := PySem.W.mg_none_of X G n_str
    n_tuple := PySem.W.mg_none_of X G n_tuple
    g__law_pot := PySem.W.mg_of X G g__law_pot
    k__law_pot := k__law_pot
    g__law_take := PySem.W.mg_of X G g__law_take
    k__law_take := k__law_take
    g__law_of := PySem.W.mg_of X G g__law_of
    k__law_of := k__law_of
    g__law_places := PySem.W.mg_of X G g__law_places
    k__law_places := k__law_places
    g__law_odd := PySem.W.mg_of X G g__law_odd
    k__law_odd := k__law_odd
    g_is_name := PySem.W.mg_of X G g_is_name
    k_is_name := k_is_name
    g__are_two := PySem.W.mg_of X G g__are_two
    k__are_two := k__are_two
    g__law_is_name := PySem.W.mg_of X G g__law_is_name
    k__law_is_name := k__law_is_name
    g_read_step := PySem.W.mg_of X G g_read_step
    k_read_step := k_read_step
    g__read_many := PySem.W.mg_of X G g__read_many
    k__read_many := k__read_many
    g__read_skip := PySem.W.mg_of X G g__read_skip
    k__read_skip := k__read_skip
    g__read_steps := PySem.W.mg_of X G g__read_steps
    k__read_steps := k__read_steps
    g__law_some := PySem.W.mg_of X G g__law_some
    k__law_some := k__law_some
    g__law_step := PySem.W.mg_of X G g__law_step
    k__law_step := k__law_step
    g__law_steps := PySem.W.mg_of X G g__law_steps
    k__law_steps := k__law_steps
    g__law_step_text := PySem.W.mg_of X G g__law_step_text
    k__law_step_text := k__law_step_text
    g__law_step_in := PySem.W.mg_of X G g__law_step_in
    k__law_step_in := k__law_step_in
    g__law_read := PySem.W.mg_of X G g__law_read
    k__law_read := k__law_read
    g__law_spoilt := PySem.W.mg_of X G g__law_spoilt
    k__law_spoilt := k__law_spoilt
    g__law_judged := PySem.W.mg_of X G g__law_judged
    k__law_judged := k__law_judged
    g__law_right := PySem.W.mg_of X G g__law_right
    k__law_right := k__law_right
    g_law := PySem.W.mg_of X G g_law
    k_law := k_law
    g_AboutError := PySem.W.mg_of X G g_AboutError
    g_BadScript := PySem.W.mg_of X G g_BadScript
    c_BadScript := e_BadScript.1
    i_BadScript := e_BadScript.2
    tI := tI
    ek := ⟨sp, tk⟩
    x_BadScript := xB
    t_BadScript := tB
    g_LET := ⟨tL, PySem.W.mg_of X G gL⟩
    g_MOST := ⟨tM, PySem.W.mg_of X G gM⟩
    g_Script := PySem.W.mg_of X G g_Script
    m_Script := ⟨mk1, g_Script___init__, mk3, mk2⟩
    cl := ⟨cl1, cl2, cl3, cl4⟩
    nT := nT
    nS := nS
    ri := ⟨ri1, sp, tk, ri4, ri5, ri6, ri7, fun t ht => of_decide_eq_true (List.all_eq_true.mp ri8 t ht)⟩
    eqc := ⟨g_Script___eq__, eq1, eq2, ri4, fun t ht => List.all_eq_true.mp eq3 t (by simpa [or_assoc] using ht)⟩
    nfl := nfl
    lenA := g_Script___len__
    lenF := le1
    tR := ⟨pr_S, ⟨pa_S, pb_S, pc_S, _, pd_S⟩⟩
    g__law_told := PySem.W.mg_of X G g__law_told
    k__law_told := k__law_told
  }
  have F_init := fun_mk (st := s_init) l_init c_init k_init
  have b_init := F_init.binds (ps := ["self", "value"]) fun _ _ _ _ _ _ us hl => match us, hl with | [_, _], _ => rfl
  have F__law_told := fun_mk (st := s__law_told) l__law_told c__law_told k__law_told
  have b__law_told := F__law_told.binds (ps := ["_law_ask"]) fun _ _ _ _ _ _ us hl => match us, hl with | [_], _ => rfl
  have F__law_pot := fun_mk (st := s__law_pot) l__law_pot c__law_pot k__law_pot
  have b__law_pot := F__law_pot.binds (ps := ["_law_script", "_law_k"]) fun _ _ _ _ _ _ us hl => match us, hl with | [_, _], _ => rfl
  have F__law_take := fun_mk (st := s__law_take) l__law_take c__law_take k__law_take
  have b__law_take := F__law_take.binds (ps := ["_law_pot_here", "_law_upto"]) fun _ _ _ _ _ _ us hl => match us, hl with | [_, _], _ => rfl
  have F__law_of := fun_mk (st := s__law_of) l__law_of c__law_of k__law_of
  have b__law_of := F__law_of.binds (ps := ["_law_pot_here", "_law_some_here"]) fun _ _ _ _ _ _ us hl => match us, hl with | [_, _], _ => rfl
  have F__law_places := fun_mk (st := s__law_places) l__law_places c__law_places k__law_places
  have b__law_places := F__law_places.binds (ps := ["_law_script", "_law_most"]) fun _ _ _ _ _ _ us hl => match us, hl with | [_, _], _ => rfl
  have F__law_odd := fun_mk (st := s__law_odd) l__law_odd c__law_odd k__law_odd
  have b__law_odd := F__law_odd.binds (ps := ["_law_pot_here"]) fun _ _ _ _ _ _ us hl => match us, hl with | [_], _ => rfl
  have F_is_name := fun_mk (st := s_is_name) l_is_name c_is_name k_is_name
  have b_is_name := F_is_name.binds (ps := ["word"]) fun _ _ _ _ _ _ us hl => match us, hl with | [_], _ => rfl
  have F__are_two := fun_mk (st := s__are_two) l__are_two c__are_two k__are_two
  have b__are_two := F__are_two.binds (ps := ["one", "other"]) fun _ _ _ _ _ _ us hl => match us, hl with | [_, _], _ => rfl
  have F__law_is_name := fun_mk (st := s__law_is_name) l__law_is_name c__law_is_name k__law_is_name
  have b__law_is_name := F__law_is_name.binds (ps := ["_law_value"]) fun _ _ _ _ _ _ us hl => match us, hl with | [_], _ => rfl
  have F_read_step := fun_mk (st := s_read_step) l_read_step c_read_step k_read_step
  have b_read_step := F_read_step.binds (ps := ["line"]) fun _ _ _ _ _ _ us hl => match us, hl with | [_], _ => rfl
  have F__read_many := fun_mk (st := s__read_many) l__read_many c__read_many k__read_many
  have b__read_many := F__read_many.binds (ps := ["word", "most"]) fun _ _ _ _ _ _ us hl => match us, hl with | [_, _], _ => rfl
  have F__read_skip := fun_mk (st := s__read_skip) l__read_skip c__read_skip k__read_skip
  have b__read_skip := F__read_skip.binds (ps := ["line", "most"]) fun _ _ _ _ _ _ us hl => match us, hl with | [_, _], _ => rfl
  have F__read_steps := fun_mk (st := s__read_steps) l__read_steps c__read_steps k__read_steps
  have b__read_steps := F__read_steps.binds (ps := ["text"]) fun _ _ _ _ _ _ us hl => match us, hl with | [_], _ => rfl
  have F_Script___init__ := fun_mk (st := s_Script___init__) l_Script___init__ c_Script___init__ k_Script___init__
  have b_Script___init__ := F_Script___init__.binds (ps := ["self", "text"]) fun _ _ _ _ _ _ us hl => match us, hl with | [_, _], _ => rfl
  have F_Script_text := fun_mk (st := s_Script_text) l_Script_text c_Script_text k_Script_text
  have b_Script_text := F_Script_text.binds (ps := ["self"]) fun _ _ _ _ _ _ us hl => match us, hl with | [_], _ => rfl
  have F_Script___len__ := fun_mk (st := s_Script___len__) l_Script___len__ c_Script___len__ k_Script___len__
  have b_Script___len__ := F_Script___len__.binds (ps := ["self"]) fun _ _ _ _ _ _ us hl => match us, hl with | [_], _ => rfl
  have F_Script___eq__ := fun_mk (st := s_Script___eq__) l_Script___eq__ c_Script___eq__ k_Script___eq__
  have b_Script___eq__ := F_Script___eq__.binds (ps := ["self", "other"]) fun _ _ _ _ _ _ us hl => match us, hl with | [_, _], _ => rfl
  have F__law_some := fun_mk (st := s__law_some) l__law_some c__law_some k__law_some
  have b__law_some := F__law_some.binds (ps := ["_law_pot_here", "_law_pool", "_law_many"]) fun _ _ _ _ _ _ us hl => match us, hl with | [_, _, _], _ => rfl
  have F__law_step := fun_mk (st := s__law_step) l__law_step c__law_step k__law_step
  have b__law_step := F__law_step.binds (ps := ["_law_pot_here", "_law_names"]) fun _ _ _ _ _ _ us hl => match us, hl with | [_, _], _ => rfl
  have F__law_steps := fun_mk (st := s__law_steps) l__law_steps c__law_steps k__law_steps
  have b__law_steps := F__law_steps.binds (ps := ["_law_pot_here", "_law_names", "_law_most"]) fun _ _ _ _ _ _ us hl => match us, hl with | [_, _, _], _ => rfl
  have F__law_step_text := fun_mk (st := s__law_step_text) l__law_step_text c__law_step_text k__law_step_text
  have b__law_step_text := F__law_step_text.binds (ps := ["_law_step_here"]) fun _ _ _ _ _ _ us hl => match us, hl with | [_], _ => rfl
  have F__law_step_in := fun_mk (st := s__law_step_in) l__law_step_in c__law_step_in k__law_step_in
  have b__law_step_in := F__law_step_in.binds (ps := ["_law_line", "_law_left", "_law_is_first"]) fun _ _ _ _ _ _ us hl => match us, hl with | [_, _, _], _ => rfl
  have F__law_read := fun_mk (st := s__law_read) l__law_read c__law_read k__law_read
  have b__law_read := F__law_read.binds (ps := ["_law_text"]) fun _ _ _ _ _ _ us hl => match us, hl with | [_], _ => rfl
  have F__law_spoilt := fun_mk (st := s__law_spoilt) l__law_spoilt c__law_spoilt k__law_spoilt
  have b__law_spoilt := F__law_spoilt.binds (ps := ["_law_pot_here", "_law_rows"]) fun _ _ _ _ _ _ us hl => match us, hl with | [_, _], _ => rfl
  have F__law_judged := fun_mk (st := s__law_judged) l__law_judged c__law_judged k__law_judged
  have b__law_judged := F__law_judged.binds (ps := ["_law_text"]) fun _ _ _ _ _ _ us hl => match us, hl with | [_], _ => rfl
  have F__law_right := fun_mk (st := s__law_right) l__law_right c__law_right k__law_right
  have b__law_right := F__law_right.binds (ps := ["_law_pot_here"]) fun _ _ _ _ _ _ us hl => match us, hl with | [_], _ => rfl
  have F_law := fun_mk (st := s_law) l_law c_law k_law
  have b_law := F_law.binds (ps := ["_law_script"]) fun _ _ _ _ _ _ us hl => match us, hl with | [_], _ => rfl
  obtain ⟨xf__law_judged, xo, xd, c_cd__law_judged, xt__law_judged, y1, y2, y3, y4, y5__law_judged, y6__law_judged⟩ := bare__law_judged
  rw [PySem.W.mg_of X G g__law_judged] at y1
  cases y1
  rw [X _ _ l__law_judged] at y2
  cases y2
  cases y3
  cases y4
  have same__law_judged : Pt__law_judged = xt__law_judged := by
    obtain ⟨ob, us, _, _, _, _, _, _, _, z1, _, z3, z4, _⟩ := id y5__law_judged
    rw [X _ _ o__law_judged] at z1
    cases z1
    cases z3
    rw [v__law_judged] at z4
    injection z4 with z5
    injection z5
  rw [← same__law_judged] at y5__law_judged y6__law_judged
  obtain ⟨xf__law_right, xo, xd, c_cd__law_right, xt__law_right, y1, y2, y3, y4, y5__law_right, y6__law_right⟩ := bare__law_right
  rw [PySem.W.mg_of X G g__law_right] at y1
  cases y1
  rw [X _ _ l__law_right] at y2
  cases y2
  cases y3
  cases y4
  have same__law_right : Pt__law_right = xt__law_right := by
    obtain ⟨ob, us, _, _, _, _, _, _, _, z1, _, z3, z4, _⟩ := id y5__law_right
    rw [X _ _ o__law_right] at z1
    cases z1
    cases z3
    rw [v__law_right] at z4
    injection z4 with z5
    injection z5
  rw [← same__law_right] at y5__law_right y6__law_right
  refine ⟨PySem.W.fnOf "law" "law" (defArgs s_law) (defBody s_law) (defScope s_law) .none kV_law dc_law pm_law an_law cd_law ct_law, [(cA__law_judged, Pt__law_judged), (cA__law_right, Pt__law_right)], spLaw K Pt__law_judged Pt__law_right, ?facts, fun s v => .of_eq rfl, ?told, fun base hK hG TB => ?fn⟩
  case facts =>
    intro p hp
    simp only [List.mem_cons, List.not_mem_nil, or_false] at hp
    rcases hp with rfl | rfl
    · exact ⟨y6__law_judged, t__law_judged, y5__law_judged⟩
    · exact ⟨y6__law_right, t__law_right, y5__law_right⟩
  case told =>
    intro H b ns hl hT hS
    refine ⟨b, ns, rfl, hS, hl, fun p hp => ?_, fun _ => rfl⟩
    simp only [TT, List.mem_cons, List.not_mem_nil, or_false] at hp
    rcases hp with rfl | rfl
    · exact TabS.nil (hT (cA__law_judged, Pt__law_judged) (by simp))
    · exact TabS.nil (hT (cA__law_right, Pt__law_right) (by simp))
  case fn =>
    have G_init : FnOk P w K mg base CX0 1 f_init _ ["self", "value"] (spErrInit K) := ok_init F_init
    have G__law_pot := ok__law_pot (P := P) (w := w) (base := base) (a := a) F__law_pot T
    have G__law_take := ok__law_take (P := P) (w := w) (base := base) (a := a) F__law_take T
    have G__law_of := ok__law_of (P := P) (w := w) (base := base) (a := a) F__law_of T G__law_take b__law_take
    have G__law_places := ok__law_places (P := P) (w := w) (base := base) (a := a) F__law_places T
    have G__law_odd := ok__law_odd (P := P) (w := w) (base := base) (a := a) F__law_odd T G__law_of b__law_of
    have G_is_name := ok_is_name (P := P) (w := w) (base := base) (a := a) F_is_name T
    have G__are_two := ok__are_two (P := P) (w := w) (base := base) (a := a) F__are_two T G_is_name b_is_name
    have G__law_is_name := ok__law_is_name (P := P) (w := w) (base := base) (a := a) F__law_is_name T
    have G_read_step := ok_read_step (P := P) (w := w) (base := base) (a := a) F_read_step T G__are_two b__are_two G_is_name b_is_name
    have G__read_many := ok__read_many (P := P) (w := w) (base := base) (a := a) F__read_many T
    have G__read_skip := ok__read_skip (P := P) (w := w) (base := base) (a := a) F__read_skip T G__read_many b__read_many G__are_two b__are_two
    have G__read_steps := ok__read_steps (P := P) (w := w) (base := base) (a := a) F__read_steps T G_init b_init G__read_skip b__read_skip G_read_step b_read_step
    have G_Script___init__ := ok_Script___init__ (P := P) (w := w) (base := base) (a := a) F_Script___init__ T G__read_steps b__read_steps
    have G_Script_text := ok_Script_text (P := P) (w := w) (base := base) (a := a) F_Script_text T
    have G_Script___len__ := ok_Script___len__ (P := P) (w := w) (base := base) (a := a) F_Script___len__ T
    have G_Script___eq__ := ok_Script___eq__ (P := P) (w := w) (base := base) (a := a) F_Script___eq__ T G_Script_text b_Script_text
    have G__law_some := ok__law_some (P := P) (w := w) (base := base) (a := a) F__law_some T G__law_take b__law_take
    have G__law_step := ok__law_step (P := P) (w := w) (base := base) (a := a) F__law_step T G__law_of b__law_of G__law_take b__law_take G__law_some b__law_some
    have G__law_steps := ok__law_steps (P := P) (w := w) (base := base) (a := a) F__law_steps T G__law_take b__law_take G__law_some b__law_some G__law_step b__law_step
    have G__law_step_text := ok__law_step_text (P := P) (w := w) (base := base) (a := a) F__law_step_text T
    have G__law_step_in := ok__law_step_in (P := P) (w := w) (base := base) (a := a) F__law_step_in T G__law_is_name b__law_is_name
    have G__law_read := ok__law_read (P := P) (w := w) (base := base) (a := a) F__law_read T G__law_step_in b__law_step_in
    have G__law_spoilt := ok__law_spoilt (P := P) (w := w) (base := base) (a := a) F__law_spoilt T G__law_of b__law_of G__law_take b__law_take
    have Gt := ok_told (P := P) (w := w) (base := base) (a := a) F__law_told T
    have G__law_judged := ok_judged (P := P) (w := w) (base := base) (a := a) T nP l__law_judged c__law_judged (TB (cA__law_judged, Pt__law_judged) (by simp)) Gt b__law_told G_Script___eq__ b_Script___eq__ G_Script___init__ b_Script___init__ G_Script___len__ b_Script___len__ G_Script_text b_Script_text G__law_read b__law_read
    have G__law_right := ok_right (P := P) (w := w) (base := base) (a := a) T nP l__law_right c__law_right (TB (cA__law_right, Pt__law_right) (by simp)) Gt b__law_told G__law_odd b__law_odd G_Script___init__ b_Script___init__ G_Script___eq__ b_Script___eq__ G__law_read b__law_read G__law_judged b__law_judged G__law_take b__law_take G__law_spoilt b__law_spoilt G__law_step_text b__law_step_text G__law_step b__law_step G__law_steps b__law_steps G__law_of b__law_of G__law_some b__law_some
    exact ok_law (a := a) F_law T G__law_places b__law_places G__law_right b__law_right G__law_pot b__law_pot
end My

open PySem PySem.W PyProof.Rows
local macro_rules | `(tactic| walk_at "k_none") => `(tactic| first | kernel_rfl | rfl | decide +kernel)
set_option maxRecDepth 100000 in
set_option maxHeartbeats 0 in
theorem PySem.Challenge.cw_seenabout_k45_texts_of_scripts_holds : PySem.Challenge.rw_seenabout_k45_texts_of_scripts.Holds := by
  w_on; o_law; k_head; (case hw => w_witness2)
  k_fill
  refine G.walkOfT (l := PySem.Challenge.rw_seenabout_k45_texts_of_scripts) (n := 63) (k := 16) (x := "_law_script") (names := ["_law_judged", "_law_right"]) rfl (by decide) rfl ⟨rfl, by decide, by decide⟩ (by rfl) (fun w h Y => PySem.W.km_in_of Y) ?F
  case F =>
    intro w mg fa h KX G hmg tabs
    refine' My.all_mk KX G hmg (tabs _ (by simp)) (tabs _ (by simp)) ?n_abs ?n_all ?n_enumerate ?n_int ?n_isinstance ?n_len ?n_list ?n_max ?n_min ?n_range ?n_repr ?n_str ?n_tuple ?gL ?gM ?g_AboutError ?g_BadScript ?x_AboutError ?x_BadScript ?i0 ?tI ?sp ?tk ?eb ?g_Script ?l_init ?c_init ?k_init ?g__law_told ?l__law_told ?c__law_told ?k__law_told ?g__law_pot ?l__law_pot ?c__law_pot ?k__law_pot ?g__law_take ?l__law_take ?c__law_take ?k__law_take ?g__law_of ?l__law_of ?c__law_of ?k__law_of ?g__law_places ?l__law_places ?c__law_places ?k__law_places ?g__law_odd ?l__law_odd ?c__law_odd ?k__law_odd ?g_is_name ?l_is_name ?c_is_name ?k_is_name ?g__are_two ?l__are_two ?c__are_two ?k__are_two ?g__law_is_name ?l__law_is_name ?c__law_is_name ?k__law_is_name ?g_read_step ?l_read_step ?c_read_step ?k_read_step ?g__read_many ?l__read_many ?c__read_many ?k__read_many ?g__read_skip ?l__read_skip ?c__read_skip ?k__read_skip ?g__read_steps ?l__read_steps ?c__read_steps ?k__read_steps ?g_Script___init__ ?l_Script___init__ ?c_Script___init__ ?k_Script___init__ ?pa_S ?pb_S ?pc_S ?pd_S ?l_Script_text ?c_Script_text ?k_Script_text ?g_Script___len__ ?l_Script___len__ ?c_Script___len__ ?k_Script___len__ ?g_Script___eq__ ?l_Script___eq__ ?c_Script___eq__ ?k_Script___eq__ ?g__law_some ?l__law_some ?c__law_some ?k__law_some ?g__law_step ?l__law_step ?c__law_step ?k__law_step ?g__law_steps ?l__law_steps ?c__law_steps ?k__law_steps ?g__law_step_text ?l__law_step_text ?c__law_step_text ?k__law_step_text ?g__law_step_in ?l__law_step_in ?c__law_step_in ?k__law_step_in ?g__law_read ?l__law_read ?c__law_read ?k__law_read ?g__law_spoilt ?l__law_spoilt ?c__law_spoilt ?k__law_spoilt ?g__law_judged ?l__law_judged ?c__law_judged ?k__law_judged ?o__law_judged ?v__law_judged ?t__law_judged ?g__law_right ?l__law_right ?c__law_right ?k__law_right ?o__law_right ?v__law_right ?t__law_right ?g_law ?l_law ?c_law ?k_law ?ri1 ?ri4 ?ri5 ?ri6 ?ri7 ?ri8 ?cl1 ?cl2 ?cl3 ?cl4 ?mk1 ?mk2 ?mk3 ?eq1 ?eq2 ?eq3 ?nfl ?le1 ?nT ?nS ?xB ?tB ?nP
    (case n_abs => k_is)
    (case n_all => k_is)
    (case n_enumerate => k_is)
    (case n_int => k_is)
    (case n_isinstance => k_is)
    (case n_len => k_is)
    (case n_list => k_is)
    (case n_max => k_is)
    (case n_min => k_is)
    (case n_range => k_is)
    (case n_repr => k_is)
    (case n_str => k_is)
    (case n_tuple => k_is)
    (case gL => k_is)
    (case gM => k_is)
    (case g_AboutError => k_is)
    (case g_BadScript => k_is)
    (case x_AboutError => k_is)
    (case x_BadScript => k_is)
    (case i0 => k_is)
    (case tI => k_is)
    (case sp => k_is)
    (case tk => k_is)
    (case eb => kernel_rfl)
    (case g_Script => k_is)
    (case l_init => k_is)
    (case c_init => k_is)
    (case k_init => k_is)
    (case g__law_told => k_is)
    (case l__law_told => k_is)
    (case c__law_told => k_is)
    (case k__law_told => k_is)
    (case g__law_pot => k_is)
    (case l__law_pot => k_is)
    (case c__law_pot => k_is)
    (case k__law_pot => k_is)
    (case g__law_take => k_is)
    (case l__law_take => k_is)
    (case c__law_take => k_is)
    (case k__law_take => k_is)
    (case g__law_of => k_is)
    (case l__law_of => k_is)
    (case c__law_of => k_is)
    (case k__law_of => k_is)
    (case g__law_places => k_is)
    (case l__law_places => k_is)
    (case c__law_places => k_is)
    (case k__law_places => k_is)
    (case g__law_odd => k_is)
    (case l__law_odd => k_is)
    (case c__law_odd => k_is)
    (case k__law_odd => k_is)
    (case g_is_name => k_is)
    (case l_is_name => k_is)
    (case c_is_name => k_is)
    (case k_is_name => k_is)
    (case g__are_two => k_is)
    (case l__are_two => k_is)
    (case c__are_two => k_is)
    (case k__are_two => k_is)
    (case g__law_is_name => k_is)
    (case l__law_is_name => k_is)
    (case c__law_is_name => k_is)
    (case k__law_is_name => k_is)
    (case g_read_step => k_is)
    (case l_read_step => k_is)
    (case c_read_step => k_is)
    (case k_read_step => k_is)
    (case g__read_many => k_is)
    (case l__read_many => k_is)
    (case c__read_many => k_is)
    (case k__read_many => k_is)
    (case g__read_skip => k_is)
    (case l__read_skip => k_is)
    (case c__read_skip => k_is)
    (case k__read_skip => k_is)
    (case g__read_steps => k_is)
    (case l__read_steps => k_is)
    (case c__read_steps => k_is)
    (case k__read_steps => k_is)
    (case g_Script___init__ => k_is)
    (case l_Script___init__ => k_is)
    (case c_Script___init__ => k_is)
    (case k_Script___init__ => k_is)
    (case pa_S => k_is)
    (case pb_S => k_is)
    (case pc_S => k_is)
    (case pd_S => k_is)
    (case l_Script_text => k_is)
    (case c_Script_text => k_is)
    (case k_Script_text => k_is)
    (case g_Script___len__ => k_is)
    (case l_Script___len__ => k_is)
    (case c_Script___len__ => k_is)
    (case k_Script___len__ => k_is)
    (case g_Script___eq__ => k_is)
    (case l_Script___eq__ => k_is)
    (case c_Script___eq__ => k_is)
    (case k_Script___eq__ => k_is)
    (case g__law_some => k_is)
    (case l__law_some => k_is)
    (case c__law_some => k_is)
    (case k__law_some => k_is)
    (case g__law_step => k_is)
    (case l__law_step => k_is)
    (case c__law_step => k_is)
    (case k__law_step => k_is)
    (case g__law_steps => k_is)
    (case l__law_steps => k_is)
    (case c__law_steps => k_is)
    (case k__law_steps => k_is)
    (case g__law_step_text => k_is)
    (case l__law_step_text => k_is)
    (case c__law_step_text => k_is)
    (case k__law_step_text => k_is)
    (case g__law_step_in => k_is)
    (case l__law_step_in => k_is)
    (case c__law_step_in => k_is)
    (case k__law_step_in => k_is)
    (case g__law_read => k_is)
    (case l__law_read => k_is)
    (case c__law_read => k_is)
    (case k__law_read => k_is)
    (case g__law_spoilt => k_is)
    (case l__law_spoilt => k_is)
    (case c__law_spoilt => k_is)
    (case k__law_spoilt => k_is)
    (case g__law_judged => k_is)
    (case l__law_judged => k_is)
    (case c__law_judged => k_is)
    (case k__law_judged => k_is)
    (case o__law_judged => k_is)
    (case v__law_judged => rfl)
    (case t__law_judged => walk_at "k_none")
    (case g__law_right => k_is)
    (case l__law_right => k_is)
    (case c__law_right => k_is)
    (case k__law_right => k_is)
    (case o__law_right => k_is)
    (case v__law_right => rfl)
    (case t__law_right => walk_at "k_none")
    (case g_law => k_is)
    (case l_law => k_is)
    (case c_law => k_is)
    (case k_law => k_is)
    (case ri1 => k_is)
    (case ri4 => kernel_rfl)
    (case ri5 => kernel_rfl)
    (case ri6 => kernel_rfl)
    (case ri7 => kernel_rfl)
    (case ri8 => kernel_rfl)
    (case cl1 => k_is)
    (case cl2 => k_is)
    (case cl3 => k_is)
    (case cl4 => k_is)
    (case mk1 => k_is)
    (case mk2 => k_is)
    (case mk3 => k_is)
    (case eq1 => k_is)
    (case eq2 => k_is)
    (case eq3 => kernel_rfl)
    (case nfl => kernel_rfl)
    (case le1 => k_is)
    (case nT => k_is)
    (case nS => k_is)
    (case xB => kernel_rfl)
    (case tB => kernel_rfl)
    (case nP => decide)
